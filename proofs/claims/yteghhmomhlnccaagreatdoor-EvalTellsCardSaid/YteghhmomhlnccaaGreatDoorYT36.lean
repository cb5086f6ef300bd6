import Derived.Test.YteghhmomhlnccaaGreatDoorYT28
import Derived.Deep.RegionWith
import Derived.Laws.IdiomStrings
import Derived.Deep.DeepCutAuto
import Derived.Deep.DrawnRows
import Derived.Deep.LoopGhost
set_option linter.unusedVariables false
set_option linter.unusedSimpArgs false
set_option maxRecDepth 100000
set_option maxHeartbeats 100000000
open Go.RowKit Go.Lib
namespace Go.Proofs.YteghhmomhlnccaaGreatDoor
attribute [local go_sem ↓] Go.wp_at_zero Go.wp_at_succ
structure Rd (w W:World) (p5 p7 p8:Nat) (x0 x1 x2 x3 x4 z:Int):Prop where
 r5:W.heap[p5]?=some (.cells #[.bool false,.int .u64 x0,.int .u64 x1,.int .u64 x2,.int .u64 x3,.int .u64 x4] 73 (0,0))
 r7:W.heap[p7]?=some (.cells #[.bool false,.int .u64 10,.int .u64 0,.int .u64 0,.int .u64 0,.int .u64 0] 73 (0,0))
 r8:W.heap[p8]?=some (.cells #[.bool false,.int .u64 z,.int .u64 0,.int .u64 0,.int .u64 0,.int .u64 0] 73 (0,0))
 l5:w.heap.size≤p5
 l57:p5 < p7
 l78:p7 < p8
 below:Below w.heap.size w W
theorem Rd.lt {w W:World} {p5 p7 p8:Nat} {x0 x1 x2 x3 x4 z:Int} (h:Rd w W p5 p7 p8 x0 x1 x2 x3 x4 z):p8 < W.heap.size:=(Array.getElem?_eq_some_iff.1 h.r8).1
theorem Rd.cells {w W:World} {p5 p7 p8:Nat} {x0 x1 x2 x3 x4 z:Int} (h:Rd w W p5 p7 p8 x0 x1 x2 x3 x4 z) :
  W.cell? ⟨p5,0,none⟩=some (.bool false)∧W.cell? ⟨p5,1,none⟩=some (.int .u64 x0)∧W.cell? ⟨p5,2,none⟩=some (.int .u64 x1)∧W.cell? ⟨p5,3,none⟩=some (.int .u64 x2)∧W.cell? ⟨p5,4,none⟩=some (.int .u64 x3)∧W.cell? ⟨p5,5,none⟩=some (.int .u64 x4)∧(∀ o,W.frozen? ⟨p5,o,none⟩=false)∧W.cell? ⟨p7,0,none⟩=some (.bool false)∧W.cell? ⟨p7,1,none⟩=some (.int .u64 10)∧W.cell? ⟨p7,2,none⟩=some (.int .u64 0)∧W.cell? ⟨p7,3,none⟩=some (.int .u64 0)∧W.cell? ⟨p7,4,none⟩=some (.int .u64 0)∧W.cell? ⟨p7,5,none⟩=some (.int .u64 0)∧(∀ o,W.frozen? ⟨p7,o,none⟩=false)∧W.cell? ⟨p8,0,none⟩=some (.bool false)∧W.cell? ⟨p8,1,none⟩=some (.int .u64 z)∧W.cell? ⟨p8,2,none⟩=some (.int .u64 0)∧W.cell? ⟨p8,3,none⟩=some (.int .u64 0)∧W.cell? ⟨p8,4,none⟩=some (.int .u64 0)∧W.cell? ⟨p8,5,none⟩=some (.int .u64 0)∧(∀ o,W.frozen? ⟨p8,o,none⟩=false):=
 ⟨cell_of_row W _ 0 _ _ _ h.r5,cell_of_row W _ 1 _ _ _ h.r5,cell_of_row W _ 2 _ _ _ h.r5,cell_of_row W _ 3 _ _ _ h.r5,cell_of_row W _ 4 _ _ _ h.r5,cell_of_row W _ 5 _ _ _ h.r5,fun o=>by simp [World.frozen?,h.r5],cell_of_row W _ 0 _ _ _ h.r7,cell_of_row W _ 1 _ _ _ h.r7,cell_of_row W _ 2 _ _ _ h.r7,cell_of_row W _ 3 _ _ _ h.r7,cell_of_row W _ 4 _ _ _ h.r7,cell_of_row W _ 5 _ _ _ h.r7,fun o=>by simp [World.frozen?,h.r7],cell_of_row W _ 0 _ _ _ h.r8,cell_of_row W _ 1 _ _ _ h.r8,cell_of_row W _ 2 _ _ _ h.r8,cell_of_row W _ 3 _ _ _ h.r8,cell_of_row W _ 4 _ _ _ h.r8,cell_of_row W _ 5 _ _ _ h.r8,fun o=>by simp [World.frozen?,h.r8]⟩
def Num (ov:Bool) (v:Nat) (x0 x1 x2 x3 x4:Int):Prop:=
 (ov=false∧v < 18446744073709551616∧Part x0∧Part x1∧x0 + 4294967296 * x1=v∧x2=0∧x3=0∧x4=0)∨(ov=true∧18446744073709551616≤v)
theorem Rd.one {w W:World} {p5 p7 p8:Nat} {x0 x1 x2 x3 x4 z:Int} (h:Rd w W p5 p7 p8 x0 x1 x2 x3 x4 z) (y:Int):Rd w (W.setCell ⟨p8,1,none⟩ (.int .u64 y)) p5 p7 p8 x0 x1 x2 x3 x4 y where
 r5:=(heap_setCell_other _ _ _ _ (by have:=h.l57; have:=h.l78; simp; omega)).trans h.r5
 r7:=(heap_setCell_other _ _ _ _ (by have:=h.l78; simp; omega)).trans h.r7
 r8:=heap_setCell_same _ _ _ _ _ _ h.r8
 l5:=h.l5
 l57:=h.l57
 l78:=h.l78
 below:=h.below.setCell (by have:=h.l5; have:=h.l57; have:=h.l78; simp; omega) _
theorem Rd.next {w W W':World} {p5 p7 p8:Nat} {x0 x1 x2 x3 x4 z:Int} (h:Rd w W p5 p7 p8 x0 x1 x2 x3 x4 z) (hb:Below W.heap.size W W'):Rd w W' p5 p7 p8 x0 x1 x2 x3 x4 z where
 r5:=(hb.block _ (by have:=h.lt; have:=h.l57; have:=h.l78; omega)).trans h.r5
 r7:=(hb.block _ (by have:=h.lt; have:=h.l78; omega)).trans h.r7
 r8:=(hb.block _ h.lt).trans h.r8
 l5:=h.l5
 l57:=h.l57
 l78:=h.l78
 below:=h.below.trans (hb.mono h.below.size)
theorem Rd.sum {w W:World} {p5 p7 p8:Nat} {x0 x1 x2 x3 x4 z:Int} (h:Rd w W p5 p7 p8 x0 x1 x2 x3 x4 z) (y0 y1 y2:Int) :
  Rd w ((((((W.setCell ⟨p5,0,none⟩ (.bool false)).setCell ⟨p5,1,none⟩ (.int .u64 y0)).setCell ⟨p5,2,none⟩ (.int .u64 y1)).setCell ⟨p5,3,none⟩ (.int .u64 y2)).setCell ⟨p5,4,none⟩ (.int .u64 0)).setCell ⟨p5,5,none⟩ (.int .u64 0)) p5 p7 p8 y0 y1 y2 0 0 z where
 r5:=six _ _ _ 73 h.r5 rfl _ _ _ _ _ _
 r7:=by
  iterate 6 rw [heap_setCell_other _ _ _ _ (by have:=h.l57; simp; omega)]
  exact h.r7
 r8:=by
  iterate 6 rw [heap_setCell_other _ _ _ _ (by have:=h.l57; have:=h.l78; simp; omega)]
  exact h.r8
 l5:=h.l5
 l57:=h.l57
 l78:=h.l78
 below:=(((((h.below.setCell h.l5 _).setCell h.l5 _).setCell h.l5 _).setCell h.l5 _).setCell h.l5 _).setCell h.l5 _
theorem Rd.drew {w W:World} {p5 p7 p8:Nat} {x0 x1 x2 x3 x4 z:Int} (h:Rd w W p5 p7 p8 x0 x1 x2 x3 x4 z):Rd w W.drew p5 p7 p8 x0 x1 x2 x3 x4 z:=⟨h.r5,h.r7,h.r8,h.l5,h.l57,h.l78,h.below.drew⟩
theorem no_looks {l:List UInt8} (h:looks l=false):rv l=0∧re l=6:=by simp [rv,re,h]
theorem not_digit {l:List UInt8} (c:UInt8) (hc:c ∈ body l) (h:dig c=false):looks l=false:=by
 unfold looks
 have:(body l).all dig=false:=by
  rw [List.all_eq_false]; exact ⟨c,hc,by simp [h]⟩
 rw [this]; simp
theorem all_digits {l:List UInt8} (h1:body l ≠ []) (h2:∀ c ∈ body l,dig c=true) (h3:(body l).head?.map (·.toNat) ≠ some 48∨((body l).length=1∧minus l=false)):looks l=true:=by
 simp only [looks,Bool.and_eq_true,bne_iff_ne,ne_eq,List.all_eq_true,Bool.or_eq_true,beq_iff_eq,Bool.not_eq_true']
 exact ⟨⟨h1,h2⟩,h3⟩
theorem take_snoc6 (s:ByteArray) (k:Nat) (h:k < s.size):s.data.toList.take (k + 1)=s.data.toList.take k ++ [s[k]]:=by
 rw [List.take_succ_eq_append_getElem (by simpa using h)]; rfl
theorem Num.add {v:Nat} {x0 x1:Int} {c:UInt8} {q0 q1 q2:Int} (hv:x0 + 4294967296 * x1=v) (hc:48≤c.toNat) (h0:Part q0) (h1:Part q1) (h2:Part q2) (e:size q0 q1 q2 0 0=10 * (x0 + 4294967296 * x1) + ((c.toNat:Int) - 48)) :
  Num (decide (0 < q2)) (v * 10 + (c.toNat - 48)) q0 q1 q2 0 0:=by
 obtain ⟨a0,b0⟩:=h0
 obtain ⟨a1,b1⟩:=h1
 obtain ⟨a2,b2⟩:=h2
 unfold size at e
 by_cases hq:0 < q2
 ·right; exact ⟨decide_eq_true hq,by omega⟩
 ·left; exact ⟨decide_eq_false hq,by omega,⟨a0,b0⟩,⟨a1,b1⟩,by omega,by omega,rfl,rfl⟩
theorem Num.more {v:Nat} {x0 x1 x2 x3 x4:Int} (h:Num true v x0 x1 x2 x3 x4) (k:Nat):Num true (v * 10 + k) x0 x1 x2 x3 x4:=by
 rcases h with ⟨h,-⟩ | ⟨-,h⟩
 ·cases h
 ·right; exact ⟨rfl,by omega⟩
theorem refread_minus (s:ByteArray) (w:World) (hs:s.size≤6000) (h0:0 < s.size) (hm:(s[0].toNat:Int)=45) :
  Calls Tryz.prog 44 #[.string s] w fun e w'=>e=.returned (.tuple #[.int .i64 (rv s.data.toList),.int .i64 (re s.data.toList)])∧Below w.heap.size w w':=by
 have hmin:minus s.data.toList=true:=by
  unfold minus
  rw [show s.data.toList.head?=some s[0] from by rw [List.head?_eq_getElem?,List.getElem?_eq_getElem (by simpa using h0)]; rfl]
  simp only [Option.map_some,beq_iff_eq]; congr 1; omega
 have hb:body s.data.toList=(s.extract 1 s.size).data.toList:=by
  unfold body; rw [if_pos hmin]; simp [List.drop_one]
  rw [List.take_of_length_le]; simp
 go_enter Tryz.func44,Tryz.ntmps44
 go_upto_region 4 with (fail)
 have hds:(s.extract 1 s.size).size=s.size - 1:=by simp
 generalize s.extract 1 s.size=d at *
 have HDB:=hid hb
 have HMIN:=hid hmin
 have HDS:Hid (d.size=s.size - 1):=hid hds
 have dl:d.size≤6000:=by omega
 have dsl:(d.size:Int) < (s.size:Int):=by omega
 clear hb hmin hds hm
 by_cases hz:d.size=0
 ·have NL:Hid (looks s.data.toList=false):=hid (by
   have:body s.data.toList=[]:=by rw [HDB.out]; exact List.eq_nil_of_length_eq_zero (by simpa using hz)
   unfold looks; rw [this]; rfl)
  have hde:d=ByteArray.empty:=by
   apply ByteArray.ext
   exact Array.eq_empty_of_size_eq_zero hz
  subst hde
  clear hz HDB HDS dl dsl
  go_wp2
  go_ret2
  exact ⟨by rw [(no_looks NL.out).1,(no_looks NL.out).2]; rfl,Below.refl _ _⟩
 ·have h1:1 < s.size:=by have:=HDS.out; omega
  have hz':0 < d.size:=by omega
  have h1':(1:Int) < (s.size:Int):=by omega
  have hne:((d.size:Int) == 0)=false:=by rw [beq_eq_false_iff_ne]; omega
  clear hz
  by_cases h48:(d[0].toNat:Int)=48
  ·have NL:Hid (looks s.data.toList=false):=hid (by
    have e1:(body s.data.toList).head?.map (·.toNat)=some 48:=by
     rw [HDB.out,show d.data.toList.head?=some d[0] from by rw [List.head?_eq_getElem?,List.getElem?_eq_getElem (by simpa using hz')]; rfl]
     simp only [Option.map_some]; congr 1; omega
    unfold looks; rw [e1,HMIN.out]; simp)
   have hb48:((d[0].toNat:Int) == 48)=true:=by rw [beq_iff_eq]; exact h48
   clear h48
   go_wp2
   go_ret2
   exact ⟨by rw [(no_looks NL.out).1,(no_looks NL.out).2]; rfl,Below.refl _ _⟩
  ·have LK:Hid ((∀ c ∈ d.data.toList,dig c=true)→looks s.data.toList=true):=hid (fun h=>all_digits (by rw [HDB.out]; intro e; have h9:d.data.toList.length=0:=by { rw [e]; rfl }; rw [Array.length_toList] at h9; have h10:d.size=0:=h9; omega) (by rw [HDB.out]; exact h) (Or.inl (by
    rw [HDB.out,show d.data.toList.head?=some d[0] from by rw [List.head?_eq_getElem?,List.getElem?_eq_getElem (by simpa using hz')]; rfl]
    simp only [Option.map_some,ne_eq,Option.some.injEq]; omega)))
   have hb48:((d[0].toNat:Int) == 48)=false:=by rw [beq_eq_false_iff_ne]; exact h48
   clear h48
   go_wp2_with fail
   refine (of_pos 10 _ (by decide) (by decide)).mono ?_
   rintro e w2 ⟨rfl,hb2⟩
   have B2:=hid hb2
   clear hb2
   go_wp2_with fail
   refine world_gen (fun W=>∃ p5 p7 p8,p5=w.heap.size∧p7=w2.heap.size∧p8=w2.heap.size + 1∧Rd w W p5 p7 p8 0 0 0 0 0 0) ?_ ?_
   ·refine ⟨_,_,_,rfl,rfl,rfl,?_⟩
    have l1:=B2.out.size
    simp only [World.size_alloc] at l1
    refine ⟨?_,?_,?_,Nat.le_refl _,by omega,by omega,?_⟩
    ·rw [heap_alloc_old _ _ (by simp only [World.size_alloc]; omega),heap_alloc_old _ _ (by omega),B2.out.block _ (by simp)]
     exact heap_alloc_new _ _
    ·rw [heap_alloc_old _ _ (by simp)]
     exact heap_alloc_new _ _
    ·exact alloc_at _ _ _ (by simp)
    ·exact (((((Below.refl _ _).alloc (Nat.le_refl _) _).trans (B2.out.mono (by simp))).alloc (by omega) _).alloc (by simp only [World.size_alloc]; omega) _)
   rintro W ⟨p5,p7,p8,e5,e7,e8,rd⟩
   have RD:=hid rd
   clear rd
   rw [← e8,← e7,← e5]
   have E5:=hid e5
   clear e5 e7 e8 B2
   go_loopg [6,9] d.size (fun j u6 u9 wr=>∃ (k:Nat) (ov:Bool) (x0 x1 x2 x3 x4 z:Int),k≤d.size∧u6=.bool ov∧u9=.int .i64 k∧Hid (k + j=d.size∧Rd w wr p5 p7 p8 x0 x1 x2 x3 x4 z∧Num ov (dv 0 (d.data.toList.take k)) x0 x1 x2 x3 x4∧∀ c ∈ d.data.toList.take k,dig c=true))
   case atStart=>exact ⟨0,false,0,0,0,0,0,0,Nat.zero_le _,rfl,rfl,hid ⟨by omega,RD.out,by rw [List.take_zero]; exact Or.inl ⟨rfl,by decide,part0,part0,by decide,rfl,rfl,rfl⟩,by simp⟩⟩
   case round=>
    obtain ⟨k,ov,x0,x1,x2,x3,x4,z,hk,rfl,rfl,H⟩:=hrel
    clear RD
    have hk0:(0:Int)≤(k:Int):=Int.natCast_nonneg _
    by_cases hlt:k < d.size
    ·have hlt':(k:Int) < (d.size:Int):=by omega
     by_cases c48:(d[k].toNat:Int) < 48
     ·have NL:Hid (looks s.data.toList=false):=hid (not_digit d[k] (by rw [HDB.out]; exact List.getElem_mem (l:=d.data.toList) (by simpa using hlt)) (by simp [dig]; omega))
      have WB:=hid H.out.2.1.below
      clear H
      go_wp2
      go_ret2
      exact ⟨by rw [(no_looks NL.out).1,(no_looks NL.out).2]; rfl,WB.out⟩
     ·by_cases c57:(d[k].toNat:Int) > 57
      ·have NL:Hid (looks s.data.toList=false):=hid (not_digit d[k] (by rw [HDB.out]; exact List.getElem_mem (l:=d.data.toList) (by simpa using hlt)) (by simp [dig]; omega))
       have WB:=hid H.out.2.1.below
       clear H
       go_wp2
       go_ret2
       exact ⟨by rw [(no_looks NL.out).1,(no_looks NL.out).2]; rfl,WB.out⟩
      ·have RO:=hid (H.out.2.1.one ((d[k].toNat:Int) - 48))
       have DG:Hid (∀ c ∈ d.data.toList.take (k + 1),dig c=true):=hid (by
        rw [take_snoc6 d k hlt]
        intro c hc
        rw [List.mem_append] at hc
        rcases hc with hc | hc
        ·exact H.out.2.2.2 c hc
        ·simp only [List.mem_singleton] at hc; subst hc; simp [dig]; omega)
       have DV:Hid (dv 0 (d.data.toList.take (k + 1))=dv 0 (d.data.toList.take k) * 10 + (d[k].toNat - 48)):=hid (by rw [take_snoc6 d k hlt,dv_snoc])
       obtain ⟨hj,hr,hn,hd⟩:=H.out
       have HJ:=hid hj
       have HN:=hid hn
       obtain ⟨a0',a1',a2',a3',a4',a5',a6',b0',b1',b2',b3',b4',b5',b6',c0',c1',c2',c3',c4',c5',c6'⟩:=hr.cells
       clear hj hr hn hd H
       have cb:(d[k].toNat:Int) < 256:=by have:=d[k].toNat_lt; omega
       by_cases hov:ov=true
       ·subst hov
        go_wp2
        go_roundg (gk - 1)
        case measure=>have:=HJ.out; omega
        case rel=>exact ⟨k + 1,true,x0,x1,x2,x3,x4,_,by omega,rfl,by go_num,hid ⟨by have:=HJ.out; omega,RO.out,by rw [DV.out]; exact HN.out.more _,DG.out⟩⟩
       ·have hov':ov=false:=by simpa using hov
        clear hov
        subst hov'
        obtain ⟨hx0,hx1,hev,e2,e3,e4⟩:Part x0∧Part x1∧x0 + 4294967296 * x1=dv 0 (d.data.toList.take k)∧x2=0∧x3=0∧x4=0:=by
         rcases HN.out with ⟨-,-,a1,a2,a3,a4,a5,a6⟩ | ⟨a1,-⟩
         ·exact ⟨a1,a2,a3,a4,a5,a6⟩
         ·cases a1
        subst e2 e3 e4
        have HEV:=hid hev
        have HX0:=hid hx0
        have HX1:=hid hx1
        have HY:Hid (Part ((d[k].toNat:Int) - 48)):=hid ⟨by omega,by omega⟩
        clear hx0 hx1 hev HN
        go_upto_region 16 with (fail)
        refine world_gen (fun W=>Rd w W p5 p7 p8 x0 x1 0 0 0 ((d[k].toNat:Int) - 48)) RO.out ?_
        intro W2 rd2
        have R2:=hid rd2
        clear a0' a1' a2' a3' a4' a5' a6' b0' b1' b2' b3' b4' b5' b6' c0' c1' c2' c3' c4' c5' c6' RO
        obtain ⟨a0',a1',a2',a3',a4',a5',a6',b0',b1',b2',b3',b4',b5',b6',c0',c1',c2',c3',c4',c5',c6'⟩:=rd2.cells
        clear rd2
        go_region_with (first
         | (go_at_call 71; (with_reducible refine (mul_ten x0 x1 _ HX0.out HX1.out).mono ?_); rintro e wm ⟨q0,q1,q2,m0,m1,m2,em,rfl,hbm⟩; have HBM:=hid hbm; clear hbm; have M0:=hid m0; have M1:=hid m1; have M2:=hid m2; have EM:=hid em; clear m0 m1 m2 em; have RM:=hid (Rd.next R2.out.drew HBM.out); obtain ⟨a0',a1',a2',a3',a4',a5',a6',b0',b1',b2',b3',b4',b5',b6',c0',c1',c2',c3',c4',c5',c6'⟩:=RM.out.cells)
         | (go_at_call 70; (with_reducible refine (add_digit q0 q1 q2 _ _ M0.out M1.out M2.out HY.out).mono ?_); rintro e wa ⟨r0,r1,r2,⟨n0,n1,n2,en⟩,rfl,hba⟩; have HBA:=hid hba; clear hba; have N0:=hid n0; have N1:=hid n1; have N2:=hid n2; have EN:=hid en; clear n0 n1 n2 en; have RA:=hid (Rd.next RM.out HBA.out); obtain ⟨a0',a1',a2',a3',a4',a5',a6',b0',b1',b2',b3',b4',b5',b6',c0',c1',c2',c3',c4',c5',c6'⟩:=RA.out.cells))
        all_goals (
         refine world_gen (fun W=>Rd w W p5 p7 p8 r0 r1 r2 0 0 ((d[k].toNat:Int) - 48)) (by first | exact RA.out.sum r0 r1 r2 | exact (RA.out.sum r0 r1 r2).drew) ?_
         intro W3 rd3
         have R3:=hid rd3
         clear a0' a1' a2' a3' a4' a5' a6' b0' b1' b2' b3' b4' b5' b6' c0' c1' c2' c3' c4' c5' c6'
         obtain ⟨a0',a1',a2',a3',a4',a5',a6',b0',b1',b2',b3',b4',b5',b6',c0',c1',c2',c3',c4',c5',c6'⟩:=rd3.cells
         clear rd3
         go_wp2
         go_roundg (gk - 1)
         case measure=>have:=HJ.out; omega
         case rel=>exact ⟨k + 1,decide (0 < r2),r0,r1,r2,0,0,_,by omega,rfl,by go_num,hid ⟨by have:=HJ.out; omega,R3.out,by rw [DV.out]; exact Num.add HEV.out (by omega) N0.out N1.out N2.out (by rw [EN.out,EM.out]),DG.out⟩⟩)
    ·have hke:k=d.size:=by omega
     have hge:¬ (k:Int) < (d.size:Int):=by omega
     have LL:Hid (looks s.data.toList=true):=hid (LK.out (by
      have h:=H.out.2.2.2
      rwa [List.take_of_length_le (by rw [hke]; simp)] at h))
     have VV:Hid (Num ov (dv 0 (body s.data.toList)) x0 x1 x2 x3 x4):=hid (by
      have h:=H.out.2.2.1
      rw [List.take_of_length_le (by rw [hke]; simp)] at h
      rwa [HDB.out])
     have RDX:=hid H.out.2.1
     obtain ⟨a0',a1',a2',a3',a4',a5',a6',b0',b1',b2',b3',b4',b5',b6',c0',c1',c2',c3',c4',c5',c6'⟩:=H.out.2.1.cells
     clear H hlt hke
     have lt5:p5 < wr.heap.size:=by have:=RDX.out.lt; have:=RDX.out.l57; have:=RDX.out.l78; omega
     by_cases hov:ov=true
     ·subst hov
      go_wp2
      go_ret2
      have hv:18446744073709551616≤dv 0 (body s.data.toList):=by
       rcases VV.out with ⟨a1,-⟩ | ⟨-,a1⟩
       ·cases a1
       ·exact a1
      have hnf:¬ Fits (signed (minus s.data.toList) (dv 0 (body s.data.toList))):=by
       unfold Fits signed
       split <;> omega
      exact ⟨by rw [rv,re,if_pos LL.out,if_pos LL.out,sv,se,if_neg hnf,if_neg hnf]; rfl,RDX.out.below.setCell RDX.out.l5 _⟩
     ·have hov':ov=false:=by simpa using hov
      clear hov
      subst hov'
      obtain ⟨hx0,hx1,hev,e2,e3,e4⟩:Part x0∧Part x1∧x0 + 4294967296 * x1=dv 0 (body s.data.toList)∧x2=0∧x3=0∧x4=0:=by
       rcases VV.out with ⟨-,-,a1,a2,a3,a4,a5,a6⟩ | ⟨a1,-⟩
       ·exact ⟨a1,a2,a3,a4,a5,a6⟩
       ·cases a1
      subst e2 e3 e4
      have HEV:=hid hev
      have HX0:=hid hx0
      have HX1:=hid hx1
      clear hx0 hx1 hev VV
      go_wp2_with fail
      refine (small_any true x0 x1 0 0 0 _ HX0.out HX1.out part0 part0 part0).mono ?_
      rintro e wz ⟨rfl,hbz⟩
      have BZ:=hid hbz
      clear hbz
      go_wp2
      go_ret2
      have hz:size x0 x1 0 0 0=(dv 0 (body s.data.toList):Int):=by rw [← HEV.out]; unfold size; omega
      refine ⟨?_,(RDX.out.below.setCell RDX.out.l5 _).trans (BZ.out.mono (by have:=RDX.out.below.size; simpa using this))⟩
      rw [rv,re,if_pos LL.out,if_pos LL.out,HMIN.out,hz]; rfl
theorem refread_plain (d:ByteArray) (w:World) (hs:d.size≤6000) (hz':0 < d.size) (hm:¬ (d[0].toNat:Int)=45) :
  Calls Tryz.prog 44 #[.string d] w fun e w'=>e=.returned (.tuple #[.int .i64 (rv d.data.toList),.int .i64 (re d.data.toList)])∧Below w.heap.size w w':=by
 have hhd:d.data.toList.head?=some d[0]:=by rw [List.head?_eq_getElem?,List.getElem?_eq_getElem (by simpa using hz')]; rfl
 have hmin:minus d.data.toList=false:=by
  unfold minus
  rw [hhd]
  simp only [Option.map_some,beq_eq_false_iff_ne,ne_eq,Option.some.injEq]; omega
 have hb:body d.data.toList=d.data.toList:=by unfold body; rw [hmin]; rfl
 have HDB:=hid hb
 have HMIN:=hid hmin
 have HHD:=hid hhd
 have dl:d.size≤6000:=hs
 have hne:((d.size:Int) == 0)=false:=by rw [beq_eq_false_iff_ne]; omega
 have hb45:((d[0].toNat:Int) == 45)=false:=by rw [beq_eq_false_iff_ne]; exact hm
 clear hb hmin hhd hm hs
 by_cases h1:1 < d.size
 ·have h1':(1:Int) < (d.size:Int):=by omega
  by_cases h48:(d[0].toNat:Int)=48
  ·have NL:Hid (looks d.data.toList=false):=hid (by
    have e1:(body d.data.toList).head?.map (·.toNat)=some 48:=by
     rw [HDB.out,HHD.out]
     simp only [Option.map_some]; congr 1; omega
    have e2:(body d.data.toList).length ≠ 1:=by rw [HDB.out]; simp; omega
    unfold looks; rw [e1]; simp [e2])
   have hb48:((d[0].toNat:Int) == 48)=true:=by rw [beq_iff_eq]; exact h48
   clear h48
   go_enter Tryz.func44,Tryz.ntmps44
   go_wp2
   go_ret2
   exact ⟨by rw [(no_looks NL.out).1,(no_looks NL.out).2]; rfl,Below.refl _ _⟩
  ·have LK:Hid ((∀ c ∈ d.data.toList,dig c=true)→looks d.data.toList=true):=hid (fun h=>all_digits (by rw [HDB.out]; intro e; have h9:d.data.toList.length=0:=by { rw [e]; rfl }; rw [Array.length_toList] at h9; have h10:d.size=0:=h9; omega) (by rw [HDB.out]; exact h) (Or.inl (by
    rw [HDB.out,HHD.out]
    simp only [Option.map_some,ne_eq,Option.some.injEq]; omega)))
   have hb48:((d[0].toNat:Int) == 48)=false:=by rw [beq_eq_false_iff_ne]; exact h48
   clear h48
   go_enter Tryz.func44,Tryz.ntmps44
   go_wp2_with fail
   refine (of_pos 10 _ (by decide) (by decide)).mono ?_
   rintro e w2 ⟨rfl,hb2⟩
   have B2:=hid hb2
   clear hb2
   go_wp2_with fail
   refine world_gen (fun W=>∃ p5 p7 p8,p5=w.heap.size∧p7=w2.heap.size∧p8=w2.heap.size + 1∧Rd w W p5 p7 p8 0 0 0 0 0 0) ?_ ?_
   ·refine ⟨_,_,_,rfl,rfl,rfl,?_⟩
    have l1:=B2.out.size
    simp only [World.size_alloc] at l1
    refine ⟨?_,?_,?_,Nat.le_refl _,by omega,by omega,?_⟩
    ·rw [heap_alloc_old _ _ (by simp only [World.size_alloc]; omega),heap_alloc_old _ _ (by omega),B2.out.block _ (by simp)]
     exact heap_alloc_new _ _
    ·rw [heap_alloc_old _ _ (by simp)]
     exact heap_alloc_new _ _
    ·exact alloc_at _ _ _ (by simp)
    ·exact (((((Below.refl _ _).alloc (Nat.le_refl _) _).trans (B2.out.mono (by simp))).alloc (by omega) _).alloc (by simp only [World.size_alloc]; omega) _)
   rintro W ⟨p5,p7,p8,e5,e7,e8,rd⟩
   have RD:=hid rd
   clear rd
   rw [← e8,← e7,← e5]
   have E5:=hid e5
   clear e5 e7 e8 B2
   go_loopg [6,9] d.size (fun j u6 u9 wr=>∃ (k:Nat) (ov:Bool) (x0 x1 x2 x3 x4 z:Int),k≤d.size∧u6=.bool ov∧u9=.int .i64 k∧Hid (k + j=d.size∧Rd w wr p5 p7 p8 x0 x1 x2 x3 x4 z∧Num ov (dv 0 (d.data.toList.take k)) x0 x1 x2 x3 x4∧∀ c ∈ d.data.toList.take k,dig c=true))
   case atStart=>exact ⟨0,false,0,0,0,0,0,0,Nat.zero_le _,rfl,rfl,hid ⟨by omega,RD.out,by rw [List.take_zero]; exact Or.inl ⟨rfl,by decide,part0,part0,by decide,rfl,rfl,rfl⟩,by simp⟩⟩
   case round=>
    obtain ⟨k,ov,x0,x1,x2,x3,x4,z,hk,rfl,rfl,H⟩:=hrel
    clear RD
    have hk0:(0:Int)≤(k:Int):=Int.natCast_nonneg _
    by_cases hlt:k < d.size
    ·have hlt':(k:Int) < (d.size:Int):=by omega
     by_cases c48:(d[k].toNat:Int) < 48
     ·have NL:Hid (looks d.data.toList=false):=hid (not_digit d[k] (by rw [HDB.out]; exact List.getElem_mem (l:=d.data.toList) (by simpa using hlt)) (by simp [dig]; omega))
      have WB:=hid H.out.2.1.below
      clear H
      go_wp2
      go_ret2
      exact ⟨by rw [(no_looks NL.out).1,(no_looks NL.out).2]; rfl,WB.out⟩
     ·by_cases c57:(d[k].toNat:Int) > 57
      ·have NL:Hid (looks d.data.toList=false):=hid (not_digit d[k] (by rw [HDB.out]; exact List.getElem_mem (l:=d.data.toList) (by simpa using hlt)) (by simp [dig]; omega))
       have WB:=hid H.out.2.1.below
       clear H
       go_wp2
       go_ret2
       exact ⟨by rw [(no_looks NL.out).1,(no_looks NL.out).2]; rfl,WB.out⟩
      ·have RO:=hid (H.out.2.1.one ((d[k].toNat:Int) - 48))
       have DG:Hid (∀ c ∈ d.data.toList.take (k + 1),dig c=true):=hid (by
        rw [take_snoc6 d k hlt]
        intro c hc
        rw [List.mem_append] at hc
        rcases hc with hc | hc
        ·exact H.out.2.2.2 c hc
        ·simp only [List.mem_singleton] at hc; subst hc; simp [dig]; omega)
       have DV:Hid (dv 0 (d.data.toList.take (k + 1))=dv 0 (d.data.toList.take k) * 10 + (d[k].toNat - 48)):=hid (by rw [take_snoc6 d k hlt,dv_snoc])
       obtain ⟨hj,hr,hn,hd⟩:=H.out
       have HJ:=hid hj
       have HN:=hid hn
       obtain ⟨a0',a1',a2',a3',a4',a5',a6',b0',b1',b2',b3',b4',b5',b6',c0',c1',c2',c3',c4',c5',c6'⟩:=hr.cells
       clear hj hr hn hd H
       have cb:(d[k].toNat:Int) < 256:=by have:=d[k].toNat_lt; omega
       by_cases hov:ov=true
       ·subst hov
        go_wp2
        go_roundg (gk - 1)
        case measure=>have:=HJ.out; omega
        case rel=>exact ⟨k + 1,true,x0,x1,x2,x3,x4,_,by omega,rfl,by go_num,hid ⟨by have:=HJ.out; omega,RO.out,by rw [DV.out]; exact HN.out.more _,DG.out⟩⟩
       ·have hov':ov=false:=by simpa using hov
        clear hov
        subst hov'
        obtain ⟨hx0,hx1,hev,e2,e3,e4⟩:Part x0∧Part x1∧x0 + 4294967296 * x1=dv 0 (d.data.toList.take k)∧x2=0∧x3=0∧x4=0:=by
         rcases HN.out with ⟨-,-,a1,a2,a3,a4,a5,a6⟩ | ⟨a1,-⟩
         ·exact ⟨a1,a2,a3,a4,a5,a6⟩
         ·cases a1
        subst e2 e3 e4
        have HEV:=hid hev
        have HX0:=hid hx0
        have HX1:=hid hx1
        have HY:Hid (Part ((d[k].toNat:Int) - 48)):=hid ⟨by omega,by omega⟩
        clear hx0 hx1 hev HN
        go_upto_region 16 with (fail)
        refine world_gen (fun W=>Rd w W p5 p7 p8 x0 x1 0 0 0 ((d[k].toNat:Int) - 48)) RO.out ?_
        intro W2 rd2
        have R2:=hid rd2
        clear a0' a1' a2' a3' a4' a5' a6' b0' b1' b2' b3' b4' b5' b6' c0' c1' c2' c3' c4' c5' c6' RO
        obtain ⟨a0',a1',a2',a3',a4',a5',a6',b0',b1',b2',b3',b4',b5',b6',c0',c1',c2',c3',c4',c5',c6'⟩:=rd2.cells
        clear rd2
        go_region_with (first
         | (go_at_call 71; (with_reducible refine (mul_ten x0 x1 _ HX0.out HX1.out).mono ?_); rintro e wm ⟨q0,q1,q2,m0,m1,m2,em,rfl,hbm⟩; have HBM:=hid hbm; clear hbm; have M0:=hid m0; have M1:=hid m1; have M2:=hid m2; have EM:=hid em; clear m0 m1 m2 em; have RM:=hid (Rd.next R2.out.drew HBM.out); obtain ⟨a0',a1',a2',a3',a4',a5',a6',b0',b1',b2',b3',b4',b5',b6',c0',c1',c2',c3',c4',c5',c6'⟩:=RM.out.cells)
         | (go_at_call 70; (with_reducible refine (add_digit q0 q1 q2 _ _ M0.out M1.out M2.out HY.out).mono ?_); rintro e wa ⟨r0,r1,r2,⟨n0,n1,n2,en⟩,rfl,hba⟩; have HBA:=hid hba; clear hba; have N0:=hid n0; have N1:=hid n1; have N2:=hid n2; have EN:=hid en; clear n0 n1 n2 en; have RA:=hid (Rd.next RM.out HBA.out); obtain ⟨a0',a1',a2',a3',a4',a5',a6',b0',b1',b2',b3',b4',b5',b6',c0',c1',c2',c3',c4',c5',c6'⟩:=RA.out.cells))
        all_goals (
         refine world_gen (fun W=>Rd w W p5 p7 p8 r0 r1 r2 0 0 ((d[k].toNat:Int) - 48)) (by first | exact RA.out.sum r0 r1 r2 | exact (RA.out.sum r0 r1 r2).drew) ?_
         intro W3 rd3
         have R3:=hid rd3
         clear a0' a1' a2' a3' a4' a5' a6' b0' b1' b2' b3' b4' b5' b6' c0' c1' c2' c3' c4' c5' c6'
         obtain ⟨a0',a1',a2',a3',a4',a5',a6',b0',b1',b2',b3',b4',b5',b6',c0',c1',c2',c3',c4',c5',c6'⟩:=rd3.cells
         clear rd3
         go_wp2
         go_roundg (gk - 1)
         case measure=>have:=HJ.out; omega
         case rel=>exact ⟨k + 1,decide (0 < r2),r0,r1,r2,0,0,_,by omega,rfl,by go_num,hid ⟨by have:=HJ.out; omega,R3.out,by rw [DV.out]; exact Num.add HEV.out (by omega) N0.out N1.out N2.out (by rw [EN.out,EM.out]),DG.out⟩⟩)
    ·have hke:k=d.size:=by omega
     have hge:¬ (k:Int) < (d.size:Int):=by omega
     have LL:Hid (looks d.data.toList=true):=hid (LK.out (by
      have h:=H.out.2.2.2
      rwa [List.take_of_length_le (by rw [hke]; simp)] at h))
     have VV:Hid (Num ov (dv 0 (body d.data.toList)) x0 x1 x2 x3 x4):=hid (by
      have h:=H.out.2.2.1
      rw [List.take_of_length_le (by rw [hke]; simp)] at h
      rwa [HDB.out])
     have RDX:=hid H.out.2.1
     obtain ⟨a0',a1',a2',a3',a4',a5',a6',b0',b1',b2',b3',b4',b5',b6',c0',c1',c2',c3',c4',c5',c6'⟩:=H.out.2.1.cells
     clear H hlt hke
     have lt5:p5 < wr.heap.size:=by have:=RDX.out.lt; have:=RDX.out.l57; have:=RDX.out.l78; omega
     by_cases hov:ov=true
     ·subst hov
      go_wp2
      go_ret2
      have hv:18446744073709551616≤dv 0 (body d.data.toList):=by
       rcases VV.out with ⟨a1,-⟩ | ⟨-,a1⟩
       ·cases a1
       ·exact a1
      have hnf:¬ Fits (signed (minus d.data.toList) (dv 0 (body d.data.toList))):=by
       unfold Fits signed
       split <;> omega
      exact ⟨by rw [rv,re,if_pos LL.out,if_pos LL.out,sv,se,if_neg hnf,if_neg hnf]; rfl,RDX.out.below.setCell RDX.out.l5 _⟩
     ·have hov':ov=false:=by simpa using hov
      clear hov
      subst hov'
      obtain ⟨hx0,hx1,hev,e2,e3,e4⟩:Part x0∧Part x1∧x0 + 4294967296 * x1=dv 0 (body d.data.toList)∧x2=0∧x3=0∧x4=0:=by
       rcases VV.out with ⟨-,-,a1,a2,a3,a4,a5,a6⟩ | ⟨a1,-⟩
       ·exact ⟨a1,a2,a3,a4,a5,a6⟩
       ·cases a1
      subst e2 e3 e4
      have HEV:=hid hev
      have HX0:=hid hx0
      have HX1:=hid hx1
      clear hx0 hx1 hev VV
      go_wp2_with fail
      refine (small_any false x0 x1 0 0 0 _ HX0.out HX1.out part0 part0 part0).mono ?_
      rintro e wz ⟨rfl,hbz⟩
      have BZ:=hid hbz
      clear hbz
      go_wp2
      go_ret2
      have hz:size x0 x1 0 0 0=(dv 0 (body d.data.toList):Int):=by rw [← HEV.out]; unfold size; omega
      refine ⟨?_,(RDX.out.below.setCell RDX.out.l5 _).trans (BZ.out.mono (by have:=RDX.out.below.size; simpa using this))⟩
      rw [rv,re,if_pos LL.out,if_pos LL.out,HMIN.out,hz]; rfl
 ·have h1':¬ (1:Int) < (d.size:Int):=by omega
  have LK:Hid ((∀ c ∈ d.data.toList,dig c=true)→looks d.data.toList=true):=hid (fun h=>all_digits (by rw [HDB.out]; intro e; have h9:d.data.toList.length=0:=by { rw [e]; rfl }; rw [Array.length_toList] at h9; have h10:d.size=0:=h9; omega) (by rw [HDB.out]; exact h) (Or.inr ⟨by rw [HDB.out]; simp; omega,HMIN.out⟩))
  go_enter Tryz.func44,Tryz.ntmps44
  go_wp2_with fail
  refine (of_pos 10 _ (by decide) (by decide)).mono ?_
  rintro e w2 ⟨rfl,hb2⟩
  have B2:=hid hb2
  clear hb2
  go_wp2_with fail
  refine world_gen (fun W=>∃ p5 p7 p8,p5=w.heap.size∧p7=w2.heap.size∧p8=w2.heap.size + 1∧Rd w W p5 p7 p8 0 0 0 0 0 0) ?_ ?_
  ·refine ⟨_,_,_,rfl,rfl,rfl,?_⟩
   have l1:=B2.out.size
   simp only [World.size_alloc] at l1
   refine ⟨?_,?_,?_,Nat.le_refl _,by omega,by omega,?_⟩
   ·rw [heap_alloc_old _ _ (by simp only [World.size_alloc]; omega),heap_alloc_old _ _ (by omega),B2.out.block _ (by simp)]
    exact heap_alloc_new _ _
   ·rw [heap_alloc_old _ _ (by simp)]
    exact heap_alloc_new _ _
   ·exact alloc_at _ _ _ (by simp)
   ·exact (((((Below.refl _ _).alloc (Nat.le_refl _) _).trans (B2.out.mono (by simp))).alloc (by omega) _).alloc (by simp only [World.size_alloc]; omega) _)
  rintro W ⟨p5,p7,p8,e5,e7,e8,rd⟩
  have RD:=hid rd
  clear rd
  rw [← e8,← e7,← e5]
  have E5:=hid e5
  clear e5 e7 e8 B2
  go_loopg [6,9] d.size (fun j u6 u9 wr=>∃ (k:Nat) (ov:Bool) (x0 x1 x2 x3 x4 z:Int),k≤d.size∧u6=.bool ov∧u9=.int .i64 k∧Hid (k + j=d.size∧Rd w wr p5 p7 p8 x0 x1 x2 x3 x4 z∧Num ov (dv 0 (d.data.toList.take k)) x0 x1 x2 x3 x4∧∀ c ∈ d.data.toList.take k,dig c=true))
  case atStart=>exact ⟨0,false,0,0,0,0,0,0,Nat.zero_le _,rfl,rfl,hid ⟨by omega,RD.out,by rw [List.take_zero]; exact Or.inl ⟨rfl,by decide,part0,part0,by decide,rfl,rfl,rfl⟩,by simp⟩⟩
  case round=>
   obtain ⟨k,ov,x0,x1,x2,x3,x4,z,hk,rfl,rfl,H⟩:=hrel
   clear RD
   have hk0:(0:Int)≤(k:Int):=Int.natCast_nonneg _
   by_cases hlt:k < d.size
   ·have hlt':(k:Int) < (d.size:Int):=by omega
    by_cases c48:(d[k].toNat:Int) < 48
    ·have NL:Hid (looks d.data.toList=false):=hid (not_digit d[k] (by rw [HDB.out]; exact List.getElem_mem (l:=d.data.toList) (by simpa using hlt)) (by simp [dig]; omega))
     have WB:=hid H.out.2.1.below
     clear H
     go_wp2
     go_ret2
     exact ⟨by rw [(no_looks NL.out).1,(no_looks NL.out).2]; rfl,WB.out⟩
    ·by_cases c57:(d[k].toNat:Int) > 57
     ·have NL:Hid (looks d.data.toList=false):=hid (not_digit d[k] (by rw [HDB.out]; exact List.getElem_mem (l:=d.data.toList) (by simpa using hlt)) (by simp [dig]; omega))
      have WB:=hid H.out.2.1.below
      clear H
      go_wp2
      go_ret2
      exact ⟨by rw [(no_looks NL.out).1,(no_looks NL.out).2]; rfl,WB.out⟩
     ·have RO:=hid (H.out.2.1.one ((d[k].toNat:Int) - 48))
      have DG:Hid (∀ c ∈ d.data.toList.take (k + 1),dig c=true):=hid (by
       rw [take_snoc6 d k hlt]
       intro c hc
       rw [List.mem_append] at hc
       rcases hc with hc | hc
       ·exact H.out.2.2.2 c hc
       ·simp only [List.mem_singleton] at hc; subst hc; simp [dig]; omega)
      have DV:Hid (dv 0 (d.data.toList.take (k + 1))=dv 0 (d.data.toList.take k) * 10 + (d[k].toNat - 48)):=hid (by rw [take_snoc6 d k hlt,dv_snoc])
      obtain ⟨hj,hr,hn,hd⟩:=H.out
      have HJ:=hid hj
      have HN:=hid hn
      obtain ⟨a0',a1',a2',a3',a4',a5',a6',b0',b1',b2',b3',b4',b5',b6',c0',c1',c2',c3',c4',c5',c6'⟩:=hr.cells
      clear hj hr hn hd H
      have cb:(d[k].toNat:Int) < 256:=by have:=d[k].toNat_lt; omega
      by_cases hov:ov=true
      ·subst hov
       go_wp2
       go_roundg (gk - 1)
       case measure=>have:=HJ.out; omega
       case rel=>exact ⟨k + 1,true,x0,x1,x2,x3,x4,_,by omega,rfl,by go_num,hid ⟨by have:=HJ.out; omega,RO.out,by rw [DV.out]; exact HN.out.more _,DG.out⟩⟩
      ·have hov':ov=false:=by simpa using hov
       clear hov
       subst hov'
       obtain ⟨hx0,hx1,hev,e2,e3,e4⟩:Part x0∧Part x1∧x0 + 4294967296 * x1=dv 0 (d.data.toList.take k)∧x2=0∧x3=0∧x4=0:=by
        rcases HN.out with ⟨-,-,a1,a2,a3,a4,a5,a6⟩ | ⟨a1,-⟩
        ·exact ⟨a1,a2,a3,a4,a5,a6⟩
        ·cases a1
       subst e2 e3 e4
       have HEV:=hid hev
       have HX0:=hid hx0
       have HX1:=hid hx1
       have HY:Hid (Part ((d[k].toNat:Int) - 48)):=hid ⟨by omega,by omega⟩
       clear hx0 hx1 hev HN
       go_upto_region 16 with (fail)
       refine world_gen (fun W=>Rd w W p5 p7 p8 x0 x1 0 0 0 ((d[k].toNat:Int) - 48)) RO.out ?_
       intro W2 rd2
       have R2:=hid rd2
       clear a0' a1' a2' a3' a4' a5' a6' b0' b1' b2' b3' b4' b5' b6' c0' c1' c2' c3' c4' c5' c6' RO
       obtain ⟨a0',a1',a2',a3',a4',a5',a6',b0',b1',b2',b3',b4',b5',b6',c0',c1',c2',c3',c4',c5',c6'⟩:=rd2.cells
       clear rd2
       go_region_with (first
        | (go_at_call 71; (with_reducible refine (mul_ten x0 x1 _ HX0.out HX1.out).mono ?_); rintro e wm ⟨q0,q1,q2,m0,m1,m2,em,rfl,hbm⟩; have HBM:=hid hbm; clear hbm; have M0:=hid m0; have M1:=hid m1; have M2:=hid m2; have EM:=hid em; clear m0 m1 m2 em; have RM:=hid (Rd.next R2.out.drew HBM.out); obtain ⟨a0',a1',a2',a3',a4',a5',a6',b0',b1',b2',b3',b4',b5',b6',c0',c1',c2',c3',c4',c5',c6'⟩:=RM.out.cells)
        | (go_at_call 70; (with_reducible refine (add_digit q0 q1 q2 _ _ M0.out M1.out M2.out HY.out).mono ?_); rintro e wa ⟨r0,r1,r2,⟨n0,n1,n2,en⟩,rfl,hba⟩; have HBA:=hid hba; clear hba; have N0:=hid n0; have N1:=hid n1; have N2:=hid n2; have EN:=hid en; clear n0 n1 n2 en; have RA:=hid (Rd.next RM.out HBA.out); obtain ⟨a0',a1',a2',a3',a4',a5',a6',b0',b1',b2',b3',b4',b5',b6',c0',c1',c2',c3',c4',c5',c6'⟩:=RA.out.cells))
       all_goals (
        refine world_gen (fun W=>Rd w W p5 p7 p8 r0 r1 r2 0 0 ((d[k].toNat:Int) - 48)) (by first | exact RA.out.sum r0 r1 r2 | exact (RA.out.sum r0 r1 r2).drew) ?_
        intro W3 rd3
        have R3:=hid rd3
        clear a0' a1' a2' a3' a4' a5' a6' b0' b1' b2' b3' b4' b5' b6' c0' c1' c2' c3' c4' c5' c6'
        obtain ⟨a0',a1',a2',a3',a4',a5',a6',b0',b1',b2',b3',b4',b5',b6',c0',c1',c2',c3',c4',c5',c6'⟩:=rd3.cells
        clear rd3
        go_wp2
        go_roundg (gk - 1)
        case measure=>have:=HJ.out; omega
        case rel=>exact ⟨k + 1,decide (0 < r2),r0,r1,r2,0,0,_,by omega,rfl,by go_num,hid ⟨by have:=HJ.out; omega,R3.out,by rw [DV.out]; exact Num.add HEV.out (by omega) N0.out N1.out N2.out (by rw [EN.out,EM.out]),DG.out⟩⟩)
   ·have hke:k=d.size:=by omega
    have hge:¬ (k:Int) < (d.size:Int):=by omega
    have LL:Hid (looks d.data.toList=true):=hid (LK.out (by
     have h:=H.out.2.2.2
     rwa [List.take_of_length_le (by rw [hke]; simp)] at h))
    have VV:Hid (Num ov (dv 0 (body d.data.toList)) x0 x1 x2 x3 x4):=hid (by
     have h:=H.out.2.2.1
     rw [List.take_of_length_le (by rw [hke]; simp)] at h
     rwa [HDB.out])
    have RDX:=hid H.out.2.1
    obtain ⟨a0',a1',a2',a3',a4',a5',a6',b0',b1',b2',b3',b4',b5',b6',c0',c1',c2',c3',c4',c5',c6'⟩:=H.out.2.1.cells
    clear H hlt hke
    have lt5:p5 < wr.heap.size:=by have:=RDX.out.lt; have:=RDX.out.l57; have:=RDX.out.l78; omega
    by_cases hov:ov=true
    ·subst hov
     go_wp2
     go_ret2
     have hv:18446744073709551616≤dv 0 (body d.data.toList):=by
      rcases VV.out with ⟨a1,-⟩ | ⟨-,a1⟩
      ·cases a1
      ·exact a1
     have hnf:¬ Fits (signed (minus d.data.toList) (dv 0 (body d.data.toList))):=by
      unfold Fits signed
      split <;> omega
     exact ⟨by rw [rv,re,if_pos LL.out,if_pos LL.out,sv,se,if_neg hnf,if_neg hnf]; rfl,RDX.out.below.setCell RDX.out.l5 _⟩
    ·have hov':ov=false:=by simpa using hov
     clear hov
     subst hov'
     obtain ⟨hx0,hx1,hev,e2,e3,e4⟩:Part x0∧Part x1∧x0 + 4294967296 * x1=dv 0 (body d.data.toList)∧x2=0∧x3=0∧x4=0:=by
      rcases VV.out with ⟨-,-,a1,a2,a3,a4,a5,a6⟩ | ⟨a1,-⟩
      ·exact ⟨a1,a2,a3,a4,a5,a6⟩
      ·cases a1
     subst e2 e3 e4
     have HEV:=hid hev
     have HX0:=hid hx0
     have HX1:=hid hx1
     clear hx0 hx1 hev VV
     go_wp2_with fail
     refine (small_any false x0 x1 0 0 0 _ HX0.out HX1.out part0 part0 part0).mono ?_
     rintro e wz ⟨rfl,hbz⟩
     have BZ:=hid hbz
     clear hbz
     go_wp2
     go_ret2
     have hz:size x0 x1 0 0 0=(dv 0 (body d.data.toList):Int):=by rw [← HEV.out]; unfold size; omega
     refine ⟨?_,(RDX.out.below.setCell RDX.out.l5 _).trans (BZ.out.mono (by have:=RDX.out.below.size; simpa using this))⟩
     rw [rv,re,if_pos LL.out,if_pos LL.out,HMIN.out,hz]; rfl
theorem refread_none (w:World) :
  Calls Tryz.prog 44 #[.string ByteArray.empty] w fun e w'=>e=.returned (.tuple #[.int .i64 0,.int .i64 6])∧Below w.heap.size w w':=by
 go_enter Tryz.func44,Tryz.ntmps44
 go_wp2
 go_ret2
 exact ⟨rfl,Below.refl _ _⟩
theorem refread_any (s:ByteArray) (w:World) (hs:s.size≤6000) :
  Calls Tryz.prog 44 #[.string s] w fun e w'=>e=.returned (.tuple #[.int .i64 (rv s.data.toList),.int .i64 (re s.data.toList)])∧Below w.heap.size w w':=by
 by_cases h0:s.size=0
 ·have hde:s=ByteArray.empty:=by
   apply ByteArray.ext
   exact Array.eq_empty_of_size_eq_zero h0
  subst hde
  exact refread_none w
 ·by_cases hm:(s[0].toNat:Int)=45
  ·exact refread_minus s w hs (by omega) hm
  ·exact refread_plain s w hs (by omega) hm
end Go.Proofs.YteghhmomhlnccaaGreatDoor
