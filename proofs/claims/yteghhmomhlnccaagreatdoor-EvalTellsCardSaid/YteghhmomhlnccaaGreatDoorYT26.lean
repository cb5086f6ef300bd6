import Derived.Test.YteghhmomhlnccaaGreatDoorYT2
import Derived.Test.YteghhmomhlnccaaGreatDoorYT7
import Derived.Stop.LaidErr
import Derived.Stop.Joined
import Derived.Test.YteghhmomhlnccaaGreatDoorYT4
import Derived.Test.YteghhmomhlnccaaGreatDoorYT16
import Derived.Deep.CutRange
import Derived.Deep.DeepCutAuto
import Derived.Deep.CutBlock
import Derived.Test.YteghhmomhlnccaaGreatDoorYT24
import Derived.Test.YteghhmomhlnccaaGreatDoorYT25
import Derived.Test.YteghhmomhlnccaaGreatDoorYT3
import Derived.Test.YteghhmomhlnccaaGreatDoorYT1
import Derived.Test.YteghhmomhlnccaaGreatDoorRows
import Derived.WalkKit
import Derived.ProofKit
import Derived.OpenShut
import Derived.IntWalk
import Derived.Lib.Hide
import Derived.WalkSmall
import Derived.RegionTactic
import Derived.ChangeAlike
import Derived.BigRegion
import Derived.Deep.QuietTactic
import Derived.BigQuiet
import Derived.Deep.Fields
import Derived.Handy
import Derived.Lib.EndianBits
set_option linter.unusedVariables false
set_option linter.unusedSimpArgs false
set_option maxRecDepth 100000
set_option maxHeartbeats 100000000
open Go.RowKit Go.Lib
namespace Go.Proofs.YteghhmomhlnccaaGreatDoor
open Go.ChangeShapes Go.WideShapes Go.ChangeAt Go.RowKit
def nameOfD:DataW Unit→String
 | .iface nm _=>nm
 | _ => ("")
theorem rowE (u:TypeId) (h:Tryz.prog.typeName? 3 u=some (nameOfD Rows.laid_strconv_ErrRange)):u=242:=
 typeName_ptr_named (nm := ("errors.errorString")) (by kernel_rfl) (by kernel_rfl) (by decide) u (h.trans (congrArg some (by decide)))
theorem cellsE:Tryz.prog.cellsOf 244=1:=by kernel_rfl
theorem cellsS:Tryz.prog.cellsOf 9=1:=by kernel_rfl
theorem cellsU:Tryz.prog.cellsOf 70=1:=by kernel_rfl
theorem cellsT:Tryz.prog.cellsOf 225=20:=by kernel_rfl
theorem rangeType:(Tryz.prog.globals[0]?).map (·.type)=some 168:=by kernel_rfl
theorem powType:((Tryz.prog.globalNamed powName).bind fun g=>(Tryz.prog.globals[g]?).map (·.type))=some 225:=by kernel_rfl
theorem env_of {W:World} (h:laidMet Tryz.prog Rows.evalTellsRow.laid W) {m:Int} (hm:MaxAt W m):∃ a,Env W a m:=by
 obtain ⟨a,s,hv,-,-,-⟩:=laid_sentinel (tp:=242) (te:=244) (ts:=9) h.tail.tail.tail.tail errRange_at rangeType Tryz.underlying168 rowE Tryz.underlying242 Tryz.underlying244 rfl rfl Tryz.underlying9 cellsE cellsS
 obtain ⟨g,hg,-⟩:=pow10_at
 have ht:=powType
 rw [hg] at ht
 exact ⟨a,Lib.tabIs_of_head hg ht Tryz.underlying225 Tryz.underlying70 cellsU cellsT h.tail.tail,hv,hm⟩
end Go.Proofs.YteghhmomhlnccaaGreatDoor
namespace Go.Proofs.YteghhmomhlnccaaGreatDoor
open Ex (Tree)
theorem shortTs_append:∀ (a b:List Tree),shortTs (a ++ b) ↔ shortTs a∧shortTs b
 | [],b=>by rw [List.nil_append,shortTs]; simp
 | x :: a,b=>by rw [List.cons_append,shortTs,shortTs,shortTs_append a b,and_assoc]
theorem short_below:∀ (l:List Tree),(∀ x ∈ l,x.text.length≤100)→shortTs (Ex.below l)→shortTs l
 | [],_,_=>by rw [shortTs]; trivial
 | .node op t vk vn vs ks :: l,h,hs=>by
  have e:Ex.below (.node op t vk vn vs ks :: l)=ks ++ Ex.below l:=rfl
  rw [e,shortTs_append] at hs
  rw [shortTs,shortT]
  have:=h _ (List.mem_cons_self ..)
  exact ⟨⟨by show t.length≤6000; have:t.length≤100:=this; omega,hs.1⟩,short_below l (fun x hx=>h x (List.mem_cons_of_mem _ hx)) hs.2⟩
theorem below_take (l:List Tree) (i:Nat) (h:i < l.length):Ex.below (l.take (i + 1))=Ex.below (l.take i) ++ l[i].kids:=by
 rw [List.take_succ_eq_append_getElem h,Ex.below,List.flatMap_append]
 simp [Ex.below]
theorem SrcT.at_ {S:Nat→Prop} {w:World} {A:Option Addr} : ∀ {l:List Tree},SrcT S w A l→∀ i (h:i < l.length),∃ b o op t vk vn vs ks B c,A=some ⟨b,o,none⟩∧l[i]=.node op t vk vn vs ks∧b < w.heap.size∧w.cell? ⟨b,o + i * 6,none⟩=some (.int .i64 op)∧w.cell? ⟨b,o + i * 6 + 1,none⟩=some (.string (tx t))∧w.cell? ⟨b,o + i * 6 + 2,none⟩=some (.int .i64 vk) ∧
   w.cell? ⟨b,o + i * 6 + 3,none⟩=some (.int .i64 vn)∧w.cell? ⟨b,o + i * 6 + 4,none⟩=some (.string (tx vs))∧w.cell? ⟨b,o + i * 6 + 5,none⟩=some (.slice B ks.length c)∧ks.length≤c∧TreesIn S w B 0 ks
 | .node op t vk vn vs ks :: l,h,0,hi=>by
  obtain ⟨b,o,B,c,e,hb,c0,c1,c2,c3,c4,c5,hc,hk,-⟩:=h.head
  exact ⟨b,o,op,t,vk,vn,vs,ks,B,c,e,rfl,hb,by simpa using c0,by simpa using c1,by simpa using c2,by simpa using c3,by simpa using c4,by simpa using c5,hc,hk⟩
 | .node op t vk vn vs ks :: l,h,i + 1,hi=>by
  obtain ⟨b,o,B,c,rfl,hb,c0,c1,c2,c3,c4,c5,hc,hk,hr⟩:=h.head
  obtain ⟨b',o',op',t',vk',vn',vs',ks',B',c',e,h1,h2,h3,h4,h5,h6,h7,h8,h9,h10⟩:=hr.at_ i (by simpa using hi)
  cases e
  refine ⟨b,o,op',t',vk',vn',vs',ks',B',c',rfl,by simpa using h1,hb,?_,?_,?_,?_,?_,?_,h9,h10⟩ <;> (rw [show o + (i + 1) * 6=o + 6 + i * 6 by omega]; assumption)
 | [],h,i,hi=>absurd hi (Nat.not_lt_zero _)
structure WdAt (S:Nat→Prop) (w:World) (T:Tree) (j:Nat) (s0 s1 s5:Value) (wr:World) (td:List Tree) (Al:Option Addr) (cl n d:Nat):Prop where
 meas:Ex.counts td < j
 cnt:n + Ex.counts td=Ex.count T
 short:shortTs td→shortT T
 v0:s0=.slice Al td.length cl
 cap:td.length≤cl
 src:SrcT S wr Al td
 far:∀ b o,Al=some ⟨b,o,none⟩→b < wr.heap.size
 v5:s5=.int .i64 (n:Nat)
 n500:n≤500
 v1:s1=.int .i64 (d:Nat)
 d61:d≤61
 len:td.length≤500
 below:Below w.heap.size w wr
structure WdIn (S:Nat→Prop) (td:List Tree) (W1:World) (i:Nat) (s6:Value) (wq:World):Prop where
 row:RowT S wq W1.heap.size s6 (Ex.below (td.take i))
 len:(Ex.below (td.take i)).length≤100 * i
 txt:∀ x ∈ td.take i,x.text.length≤100
 below:Below W1.heap.size W1 wq
theorem wide_any (S:Nat→Prop) (T:Tree) (A:Option Addr) (c:Nat) (w:World) (hS:∀ k,S k→k < w.heap.size) (h:SrcT S w A [T]) (hA:∀ b o,A=some ⟨b,o,none⟩→b < w.heap.size) (hc:1≤c) :
  Calls Tryz.prog 24 #[.slice A 1 c,.int .i64 0] w fun e w'=>(e=.returned (.bool false)∧Below w.heap.size w w'∧Ex.count T≤500∧shortT T)∨(e=.returned (.bool true)∧Below w.heap.size w w'):=by
 have H0:Hid (WdAt S w T (Ex.count T + 1) (.slice A 1 c) (.int .i64 0) (.int .i64 0) w [T] A c 0 0):=hid ⟨by rw [Ex.counts,Ex.counts]; omega,by rw [Ex.counts,Ex.counts]; omega,fun h=>by rw [shortTs] at h; exact h.1,rfl,hc,h,hA,rfl,by omega,rfl,by omega,by simp,Below.refl _ _⟩
 have HS:=hid hS
 clear h hA hc hS
 go_enter Tryz.func24,Tryz.ntmps24
 go_wp2_with fail
 go_loopg [0,1,5,6,7] (Ex.count T + 1) (fun j s0 s1 s5 s6 s7 wr=>∃ td Al cl n d,Hid (WdAt S w T j s0 s1 s5 wr td Al cl n d))
 case atStart=>exact ⟨_,_,_,_,_,H0⟩
 case round=>
  obtain ⟨td,Al,cl,n,d,HM⟩:=hrel
  obtain ⟨wl,rfl⟩:∃ wl,wl=wr:=⟨wr,rfl⟩
  have hs0:=HM.out.v0
  have hs1:=HM.out.v1
  have hs5:=HM.out.v5
  obtain ⟨m,hm⟩:∃ m,td.length=m:=⟨_,rfl⟩
  rw [hm] at hs0
  subst hs0 hs1 hs5
  have HLM:=hid hm
  have hm5:(m:Int)≤500:=by have:=HM.out.len; omega
  clear hm
  by_cases hm0:m=0
  ·subst hm0
   have htd:td=[]:=List.eq_nil_of_length_eq_zero HLM.out
   have FIN:Hid (Ex.count T≤500∧shortT T):=hid (by
    have h1:=HM.out.cnt
    have h2:=HM.out.short
    have h3:=HM.out.n500
    rw [htd,Ex.counts] at h1
    rw [htd,shortTs] at h2
    exact ⟨by omega,h2 trivial⟩)
   go_wp2_with fail
   go_ret
   exact .inl ⟨rfl,HM.out.below,FIN.out⟩
  ·have hm1:(0:Int) < (m:Int):=by omega
   have hm1n:0 < m:=by omega
   have hn5:(n:Int)≤500:=by have:=HM.out.n500; omega
   have hd6:(d:Int)≤61:=by have:=HM.out.d61; omega
   have b1:Below wl.heap.size wl (wl.alloc (.cells #[] 26)):=(Below.refl _ _).alloc (Nat.le_refl _) _
   have r1:=RowT.new (S:=S) (w:=wl) (fun h=>by have:=HS.out _ h; have:=HM.out.below.size; omega)
   have B1:=hid b1
   have R1:=hid r1
   clear b1 r1
   go_upto_block 2 with fail
   go_cut [5,6,7] from 12 to 57 (fun s5 s6 s7 wc=>s5=.int .i64 ((n + m:Nat):Int)∧n + m≤500∧Hid (WdIn S td wl m s6 wc))
   case first=>
    go_wp2_with fail
    go_loopg [5,6,7] (m + 1) (fun j s5 s6 s7 wq=>∃ i:Nat,i≤m∧m < i + j∧s7=.int .i64 (i:Nat)∧s5=.int .i64 ((n + i:Nat):Int)∧n + i≤500∧Hid (WdIn S td wl i s6 wq))
    case atStart=>exact ⟨0,by omega,by omega,rfl,rfl,by omega,hid ⟨by rw [List.take_zero]; exact R1.out,by rw [List.take_zero]; simp [Ex.below],by rw [List.take_zero]; simp,B1.out⟩⟩
    case round=>
     obtain ⟨i,hi,hj,rfl,rfl,hni,HI⟩:=hrel
     by_cases hlt:i < m
     ·have hlt':(i:Int) < (m:Int):=by omega
      have hitd:i < td.length:=by rw [HLM.out]; exact hlt
      have hni':((n + i:Nat):Int)≤500:=by omega
      obtain ⟨b,o,op,t,vk,vn,vs,ks,B,c9,rfl,hx,hbl,c0,c1,c2,c3,c4,c5,hck,hkk⟩:=(HM.out.src.below HI.out.below).at_ i hitd
      have HX:=hid hx
      clear hx
      generalize hq:n + i=q at *
      have HQ:=hid hq
      clear hq
      have FIN:Hid (∀ W2,Below wl.heap.size wl W2→Below w.heap.size w W2):=hid (fun W2 h=>HM.out.below.trans (h.mono HM.out.below.size))
      by_cases g1:500 < q + 1
      ·have g1':(500:Int) < (q:Int) + 1:=by omega
       go_wp2_with fail
       go_ret
       exact .inr ⟨rfl,FIN.out _ HI.out.below⟩
      have g1':¬ (500:Int) < (q:Int) + 1:=by omega
      by_cases g2:100 < t.length
      ·have g2':(100:Int) < (t.length:Int):=by omega
       go_wp2_with fail
       go_ret
       exact .inr ⟨rfl,FIN.out _ HI.out.below⟩
      have g2':¬ (100:Int) < (t.length:Int):=by omega
      by_cases g3:400 < vs.length
      ·have g3':(400:Int) < (vs.length:Int):=by omega
       go_wp2_with fail
       go_ret
       exact .inr ⟨rfl,FIN.out _ HI.out.below⟩
      have g3':¬ (400:Int) < (vs.length:Int):=by omega
      by_cases g4:100 < ks.length
      ·have g4':(100:Int) < (ks.length:Int):=by omega
       go_wp2_with fail
       go_ret
       exact .inr ⟨rfl,FIN.out _ HI.out.below⟩
      have g4':¬ (100:Int) < (ks.length:Int):=by omega
      obtain ⟨v5,w5,hrun,r5,T5,o5⟩:=append_trees HI.out.row (c:=c9) hkk.src (by have:=HI.out.len; omega) HI.out.below.size (fun h=>by have:=HS.out _ h; have:=HM.out.below.size; have:=HI.out.below.size; omega)
      have NXT:Hid (WdIn S td wl (i + 1) v5 w5):=hid ⟨by rw [below_take td i hitd,HX.out]; exact r5,by rw [below_take td i hitd,HX.out,List.length_append]; have:=HI.out.len; show _ + ks.length≤_; omega,fun x hxm=>by
       rw [List.take_succ_eq_append_getElem hitd] at hxm
       rcases List.mem_append.1 hxm with hxm | hxm
       ·exact HI.out.txt x hxm
       ·have:x=td[i]:=by simpa using hxm
        rw [this,HX.out]
        show t.length≤100
        omega,T5.fresh HI.out.below (fun k hk=>(HI.out.row.block k (by simpa using hk)).1)⟩
      have HRUN:=hid hrun
      clear hrun r5 T5 o5 hkk g2 g3 g4
      go_wp2_with (at_builtin; refine Lib.wpList_append_run _ rfl (.tmp 50) (.tmp 55) 24 24 rfl _ _ rfl rfl _ _ HRUN.out ?_)
      go_roundg (m - i)
      case measure=>omega
      case rel=>
       have h1:=HQ.out
       exact ⟨i + 1,by omega,by omega,by go_num,by rw [show n + (i + 1)=q + 1 by omega]; go_num,by omega,NXT⟩
     ·have hlt':¬ (i:Int) < (m:Int):=by omega
      have hie:i=m:=by omega
      subst hie
      go_wp2_with fail
      go_meet
      case rel=>exact ⟨rfl,hni,HI⟩
   case rest=>
    obtain ⟨rfl,hnm,HI⟩:=hcut
    obtain ⟨A6,c6,hv6,hc6,-,hsrc,hblk⟩:=HI.out.row.src
    obtain ⟨k,hk⟩:∃ k,(Ex.below (td.take m)).length=k:=⟨_,rfl⟩
    have HK:=hid hk
    rw [hk] at hv6
    have hv6':=hv6
    subst hv6
    have htk:td.take m=td:=List.take_of_length_le (by rw [HLM.out]; omega)
    have HBW:Hid (Below w.heap.size w wc):=hid (HM.out.below.trans (HI.out.below.mono HM.out.below.size))
    have hmeas:=HM.out.meas
    have hcb:=Ex.counts_below td
    have hcnt:=HM.out.cnt
    rw [HLM.out] at hcb
    have hnm':((n + m:Nat):Int)≤500:=by omega
    have NXT:k≤500→d≤60→Hid (WdAt S w T (gk - m) (.slice A6 k c6) (.int .i64 ((d + 1:Nat):Int)) (.int .i64 ((n + m:Nat):Int)) wc (Ex.below td) A6 c6 (n + m) (d + 1)):=fun h1 h2=>by
     have hk2:=hk
     rw [htk] at hk2
     have hs2:=hsrc
     have ht2:=HI.out.txt
     rw [htk] at hs2 ht2
     rw [htk] at hc6
     exact hid ⟨by omega,by omega,fun h=>HM.out.short (short_below td ht2 h),by rw [hk2],hc6,hs2,fun b o e=>(HI.out.row.block b (hblk b o e)).2,rfl,hnm,rfl,by omega,by omega,HBW.out⟩
    have HNXT:=hid NXT
    have HMEAS:Hid (m≤gk∧0 < m∧Ex.counts td < gk∧Ex.counts td=m + Ex.counts (Ex.below td)):=hid ⟨by omega,by omega,hmeas,hcb⟩
    clear NXT hk hsrc hblk hc6 hcb hcnt hmeas htk hv6'
    by_cases g1:500 < k
    ·have g1':(500:Int) < (k:Int):=by omega
     go_wp2_with fail
     go_ret
     exact .inr ⟨rfl,HBW.out⟩
    have g1':¬ (500:Int) < (k:Int):=by omega
    by_cases g2:60 < d
    ·have g2':(60:Int) < (d:Int):=by omega
     go_wp2_with fail
     go_ret
     exact .inr ⟨rfl,HBW.out⟩
    have g2':¬ (60:Int) < (d:Int):=by omega
    have HN:=HNXT.out (by omega) (by omega)
    clear HNXT
    go_wp2_with fail
    go_roundg (gk - m)
    case measure=>have:=HMEAS.out; omega
    case rel=>exact ⟨_,_,_,_,_,HN⟩
theorem Wide_any (T:Tree) (v:Value) (w:World) (h:NodeV w v T) :
  Calls Tryz.prog 9 #[v] w fun e w'=>(e=.returned (.bool false)∧Below w.heap.size w w'∧Ex.count T≤500∧shortT T)∨(e=.returned (.bool true)∧Below w.heap.size w w'):=by
 cases T with
 | node op t vk vn vs ks=>
 obtain ⟨A,c,rfl,hcc,hk⟩:=h
 obtain ⟨T,hT⟩:∃ T,(.node op t vk vn vs ks:Tree)=T:=⟨_,rfl⟩
 have b0:Below w.heap.size w ((w.alloc (.cells (ncells op t vk vn vs A ks.length c) 26)).alloc (.cells (ncells op t vk vn vs A ks.length c) 26)):=((Below.refl _ w).alloc (Nat.le_refl _) _).alloc (by simp) _
 have k2:=Whole.new (w.alloc (.cells (ncells op t vk vn vs A ks.length c) 26)) 26 (ncells op t vk vn vs A ks.length c)
 simp only [World.size_alloc] at k2
 have src:SrcT (· < w.heap.size) ((w.alloc (.cells (ncells op t vk vn vs A ks.length c) 26)).alloc (.cells (ncells op t vk vn vs A ks.length c) 26)) (some ⟨w.heap.size + 1,0,none⟩) [.node op t vk vn vs ks]:=
  ⟨_,⟨A,c,[],rfl,hcc,hk.old b0,rfl⟩,fun j u hu=>⟨_,0,rfl,by rw [Nat.zero_add,k2.cell,← hu]; simp⟩⟩
 rw [hT] at src ⊢
 have CC:=wide_any (· < w.heap.size) T _ 1 _ (fun k hk=>by simp only [World.size_alloc]; omega) src (fun b o e=>by cases e; simp) (Nat.le_refl _)
 have B0:=hid b0
 have HC:=hid CC
 clear CC src k2 b0 hk hcc hT
 unfold ncells at *
 go_enter Tryz.func9,Tryz.ntmps9
 go_wp2_with fail
 refine HC.out.mono ?_
 rintro e w2 (⟨rfl,hb,hs⟩ | ⟨rfl,hb⟩)
 ·go_wp2_with fail
  go_ret
  exact .inl ⟨rfl,bstep B0.out hb,hs⟩
 ·go_wp2_with fail
  go_ret
  exact .inr ⟨rfl,bstep B0.out hb⟩
end Go.Proofs.YteghhmomhlnccaaGreatDoor
namespace Go.Proofs.YteghhmomhlnccaaGreatDoor
attribute [local go_sem ↓] eqVal neqVal
open Ex (Tree)
open Ev (V R Pl)
abbrev awIfT:Tree:=.node 6 [105,102] 0 0 [] [.node 1 [] 3 1 [] [],.node 1 [] 1 1 [] [],Ev.opT [47] (.node 1 [] 1 1 [] []) (.node 1 [] 1 0 [] [])]
abbrev awNvlT:Tree:=.node 6 [110,118,108] 0 0 [] [Ev.opT [47] (.node 1 [] 1 1 [] []) (.node 1 [] 1 0 [] []),.node 1 [] 1 1 [] []]
theorem awIf_ev:Ev.evalR [] [] awIfT=Ev.ok ⟨1,1,[]⟩:=by
 rw [Ev.evalR,if_pos ⟨by kernel_rfl,by kernel_rfl⟩]; rfl
theorem awNvl_ev:Ev.evalR [] [] awNvlT=Ev.err 5:=by
 rw [Ev.evalR,if_pos ⟨by kernel_rfl,by kernel_rfl⟩]; rfl
theorem awake16_any (w:World) (a:Addr) (m:Int) (hv:Env w a m):Calls Tryz.prog 8 #[] w fun e w'=>e=.returned (.bool true)∧Below w.heap.size w w':=by
 have ep:=parse_any ⟨#[105,102,40,116,114,117,101,44,32,49,44,32,49,32,47,32,48,41]⟩ w a m hv
 rw [show (⟨#[105,102,40,116,114,117,101,44,32,49,44,32,49,32,47,32,48,41]⟩:ByteArray).data.toList=[105,102,40,116,114,117,101,44,32,49,44,32,49,32,47,32,48,41] from rfl,Ev.awIf_parse] at ep
 have EP:=hid ep
 have PB:=hid (fun W (h:Env W a m)=>parse_any ⟨#[110,118,108,40,49,32,47,32,48,44,32,49,41]⟩ W a m h)
 rw [show (⟨#[110,118,108,40,49,32,47,32,48,44,32,49,41]⟩:ByteArray).data.toList=[110,118,108,40,49,32,47,32,48,44,32,49,41] from rfl,Ev.awNvl_parse] at PB
 have HV:=hid hv
 clear ep hv
 go_enter Tryz.func8,Tryz.ntmps8
 go_wp2_with fail
 refine EP.out.mono ?_
 rintro e W1 ⟨u,rfl,⟨A,c,rfl,hc,hk⟩,hb⟩
 have b2:Below w.heap.size w ((W1.alloc (.cells (ncells 6 [105,102] 0 0 [] A 3 c) 26)).alloc (.cells #[.int .i64 0,.int .i64 0] 54)):=(hb.alloc hb.size _).alloc (by have:=hb.size; simp; omega) _
 have b1:Below W1.heap.size W1 ((W1.alloc (.cells (ncells 6 [105,102] 0 0 [] A 3 c) 26)).alloc (.cells #[.int .i64 0,.int .i64 0] 54)):=((Below.refl _ _).alloc (Nat.le_refl _) _).alloc (by simp) _
 have k0:=(Whole.new W1 26 (ncells 6 [105,102] 0 0 [] A 3 c)).alloc (.cells #[.int .i64 0,.int .i64 0] 54)
 have k1:=Whole.new (W1.alloc (.cells (ncells 6 [105,102] 0 0 [] A 3 c) 26)) 54 #[.int .i64 0,.int .i64 0]
 simp only [World.size_alloc] at k1
 have nv:NodeV ((W1.alloc (.cells (ncells 6 [105,102] 0 0 [] A 3 c) 26)).alloc (.cells #[.int .i64 0,.int .i64 0] 54)) (.agg (ncells 6 [105,102] 0 0 [] A 3 c)) awIfT:=⟨A,c,rfl,hc,(hk.below b1).at⟩
 have PB2:=hid (PB.out _ (HV.out.below b2))
 unfold ncells at *
 have B2:=hid b2
 have K0:=hid k0
 have K1:=hid k1
 have NV:=hid nv
 clear b2 b1 k0 k1 nv hk hb EP PB
 go_wp2_with fail
 generalize (W1.alloc (.cells #[.int .i64 6,.string (tx [105,102]),.int .i64 0,.int .i64 0,.string (tx []),.slice A 3 c] 26)).alloc (.cells #[.int .i64 0,.int .i64 0] 54)=W2 at *
 refine PB2.out.mono ?_
 rintro e W3 ⟨u2,rfl,⟨A2,c2,rfl,hc2,hk2⟩,hb3⟩
 have b4:Below W2.heap.size W2 ((W3.alloc (.cells (ncells 6 [110,118,108] 0 0 [] A2 2 c2) 26)).alloc (.cells #[.int .i64 0,.int .i64 0] 54)):=(hb3.alloc hb3.size _).alloc (by have:=hb3.size; simp; omega) _
 have b3:Below W3.heap.size W3 ((W3.alloc (.cells (ncells 6 [110,118,108] 0 0 [] A2 2 c2) 26)).alloc (.cells #[.int .i64 0,.int .i64 0] 54)):=((Below.refl _ _).alloc (Nat.le_refl _) _).alloc (by simp) _
 have p0:=(Whole.new W3 26 (ncells 6 [110,118,108] 0 0 [] A2 2 c2)).alloc (.cells #[.int .i64 0,.int .i64 0] 54)
 have p1:=Whole.new (W3.alloc (.cells (ncells 6 [110,118,108] 0 0 [] A2 2 c2) 26)) 54 #[.int .i64 0,.int .i64 0]
 simp only [World.size_alloc] at p1
 have nvb:NodeV ((W3.alloc (.cells (ncells 6 [110,118,108] 0 0 [] A2 2 c2) 26)).alloc (.cells #[.int .i64 0,.int .i64 0] 54)) (.agg (ncells 6 [110,118,108] 0 0 [] A2 2 c2)) awNvlT:=⟨A2,c2,rfl,hc2,(hk2.below b3).at⟩
 unfold ncells at *
 obtain ⟨x0,x1,x2,x3,x4,x5⟩:=six_of (K0.out.below b4 K0.out.lt)
 have B4:=hid b4
 have P0:=hid p0
 have P1:=hid p1
 have NVB:=hid nvb
 have N4:=NV.out.below b4
 have V4:=hid (HV.out.below (bstep B2.out b4))
 have KA:=eval_any [] [] none none 0 0 awIfT _ _ (ColsAt.nil _ _) (fun c hc=>by cases hc) (ValsAt.nil _ _) (fun c hc=>by cases hc) (by simp) (by simp) a m V4.out N4 (by simp [fitT,fitTs,maxLen]) (by simp [Ex.count,Ex.counts]) (by kernel_rfl)
 rw [awIf_ev] at KA
 have KAH:=hid KA
 have R0:=hid (K1.out.below b4 K1.out.lt)
 clear b4 b3 p0 p1 nvb hk2 hb3 PB2 hc2 hc N4 NV K0 K1 KA
 unfold outR vv vcells Ev.ok at KAH
 dsimp only at KAH
 go_wp2_with fail
 generalize (W3.alloc (.cells #[.int .i64 6,.string (tx [110,118,108]),.int .i64 0,.int .i64 0,.string (tx []),.slice A2 2 c2] 26)).alloc (.cells #[.int .i64 0,.int .i64 0] 54)=W4 at *
 refine KAH.out.mono ?_
 rintro e W6 ⟨rfl,hb6⟩
 have hb7:=hb6.alloc (Nat.le_trans (Nat.le_refl _) hb6.size) (.cells #[.int .i64 1,.int .i64 1,.string (tx [])] 23)
 have r6:=Row3.new W6 1 1 (tx [])
 have B7:=hid (bstep B4.out hb7)
 have N7:=NVB.out.below hb7
 have V7:=hid (V4.out.below hb7)
 have q0:=P0.out.below hb7 P0.out.lt
 have Q7:=hid (P1.out.below hb7 P1.out.lt)
 have R7:=hid (R0.out.below hb7 R0.out.lt)
 have S7:=hid r6
 have KB:=eval_any [] [] none none 0 0 awNvlT _ _ (ColsAt.nil _ _) (fun c hc=>by cases hc) (ValsAt.nil _ _) (fun c hc=>by cases hc) (by simp) (by simp) a m V7.out N7 (by simp [fitT,fitTs,maxLen]) (by simp [Ex.count,Ex.counts]) (by kernel_rfl)
 rw [awNvl_ev] at KB
 have KBH:=hid KB
 unfold outR vv vcells Ev.err Ev.z at KBH
 dsimp only at KBH
 obtain ⟨x0,x1,x2,x3,x4,x5⟩:=six_of q0
 clear KAH hb6 hb7 NVB V4 R0 q0 N7 r6 KB P0 P1 V7
 go_wp2_with fail
 refine KBH.out.mono ?_
 rintro e W8 ⟨rfl,hb8⟩
 have hb9:=hb8.alloc (Nat.le_trans (Nat.le_refl _) hb8.size) (.cells #[.int .i64 0,.int .i64 0,.string (tx [])] 23)
 have B9:=hid (bstep B7.out hb9)
 have q7:=Q7.out.below hb9 Q7.out.lt
 have r7:=R7.out.below hb9 R7.out.lt
 obtain ⟨s0,s1,s2⟩:=(S7.out.below hb9 S7.out.lt).holds
 have y0:=q7.cell 0
 have z0:=r7.cell 0
 simp only [List.getElem?_toArray,List.getElem?_cons_zero] at y0 z0
 have hsm:same 1 1 (tx []) 1 1 ⟨#[]⟩=true:=by rw [same_iff]; exact ⟨rfl,rfl,rfl⟩
 clear KBH hb8 hb9 Q7 R7 x0 x1 x2 x3 x4 x5 q7 r7 B7 S7
 go_wp2_with fail
 go_ret
 exact ⟨rfl,bstep B2.out B9.out⟩
theorem laidOut:laidOutB Tryz.prog=true:=by kernel_rfl
def shortV (L:List V):Prop:=L.length≤50∧∀ v ∈ L,v.s.length≤400
theorem long_any (L:List V) (A:Option Addr) (c:Nat) (w:World) (hA:ValsAt w A L) (hF:fitV L) :
  Calls Tryz.prog 11 #[.slice A L.length c] w fun e w'=>(e=.returned (.bool false)∧w'=w∧shortV L)∨(e=.returned (.bool true)∧w'=w):=by
 have HA:=hid hA
 have HF:=hid hF
 obtain ⟨m,hm⟩:∃ m,L.length=m:=⟨_,rfl⟩
 have HM:=hid hm
 rw [hm]
 clear hA hm hF
 by_cases hb:(m:Int)≤50
 ·have hb':¬ (50:Int) < (m:Int):=by omega
  go_enter Tryz.func11,Tryz.ntmps11
  go_wp2_with fail
  go_loopg [3] (m + 1) (fun j s3 wr=>∃ i:Nat,i≤m∧m < i + j∧s3=.int .i64 (i:Nat)∧Hid (∀ k (h1:k < L.length),k < i→L[k].s.length≤400)∧wr=w)
  case atStart=>exact ⟨0,by omega,by omega,rfl,hid (fun k _ h=>absurd h (Nat.not_lt_zero _)),rfl⟩
  case round=>
   obtain ⟨i,hi,hj,rfl,HE,hwr⟩:=hrel
   subst hwr
   by_cases hlt:i < m
   ·have hlt':(i:Int) < (m:Int):=by omega
    have hik:i < L.length:=by rw [HM.out]; exact hlt
    obtain ⟨b,o,rfl,hx,c0,c1,c2⟩:=HA.out i hik
    have hf0:=(HF.out L[i] (List.getElem_mem hik)).1
    simp only [maxLen] at hf0
    obtain ⟨nm,hnm⟩:∃ nm,L[i].s=nm:=⟨_,rfl⟩
    rw [hnm] at c2 hf0
    clear c0 c1
    by_cases hq:(nm.length:Int)≤400
    ·have hq':¬ (400:Int) < (nm.length:Int):=by omega
     have HE2:Hid (∀ k (h1:k < L.length),k < i + 1→L[k].s.length≤400):=hid (fun k h1 h3=>by
      by_cases hki:k=i
      ·subst hki; rw [hnm]; omega
      ·exact HE.out k h1 (by omega))
     clear HE hnm hik
     go_wp2_with fail
     go_roundg (m - i)
     case measure=>omega
     case rel=>exact ⟨i + 1,by omega,by omega,by go_num,HE2,rfl⟩
    ·have hq':(400:Int) < (nm.length:Int):=by omega
     clear HE hnm hik hq
     go_wp2_with fail
     go_ret
     exact .inr ⟨rfl,rfl⟩
   ·have hlt':¬ (i:Int) < (m:Int):=by omega
    have HR:Hid (shortV L):=hid ⟨by rw [HM.out]; omega,fun c hc=>by
     obtain ⟨k,hk,rfl⟩:=List.getElem_of_mem hc
     exact HE.out k hk (by have:=HM.out; omega)⟩
    go_wp2_with fail
    go_ret
    exact .inl ⟨rfl,rfl,HR.out⟩
 ·have hb':(50:Int) < (m:Int):=by omega
  clear hb
  go_enter Tryz.func11,Tryz.ntmps11
  go_wp2_with fail
  go_ret
  exact .inr ⟨rfl,rfl⟩
end Go.Proofs.YteghhmomhlnccaaGreatDoor
namespace Go.Proofs.YteghhmomhlnccaaGreatDoor
attribute [local go_sem ↓] eqVal neqVal
open Ex (Tree)
open Ev (V R Pl)
structure LawS (w wr:World) (cs:Array Value) (X:Tree) (C:List Col) (Ac:Option Addr) (L:List V) (Al:Option Addr) (a:Addr) (m:Int):Prop where
 b:Below w.heap.size w wr
 k:Whole wr w.heap.size 26 cs
 nx:NodeV wr (.agg cs) X
 ca:ColsAt wr Ac C
 va:ValsAt wr Al L
 env:Env wr a m
theorem LawS.call {w wr w':World} {cs X C Ac L Al a m} (h:LawS w wr cs X C Ac L Al a m) (hb:Below wr.heap.size wr w'):LawS w w' cs X C Ac L Al a m:=
 ⟨bstep h.b hb,h.k.below hb h.k.lt,h.nx.below hb,h.ca.below hb,h.va.below hb,h.env.below hb⟩
theorem LawS.alloc {w wr:World} {cs X C Ac L Al a m} (h:LawS w wr cs X C Ac L Al a m) (o:Obj):LawS w (wr.alloc o) cs X C Ac L Al a m:=h.call ((Below.refl _ _).alloc (Nat.le_refl _) o)
theorem Ev.row_kind {C:List Col} {L:List V} (h:Ev.rowB C L=true) (hf:fitV L):Ev.rowKind C L:=by
 obtain ⟨-,h1,-,h2⟩:=Ev.rowB_is h hf
 exact ⟨h1,fun i hi hi'=>h2 i hi' hi⟩
end Go.Proofs.YteghhmomhlnccaaGreatDoor
namespace Go.Proofs.YteghhmomhlnccaaGreatDoor
abbrev wide (s:Bool) (p0 p1 p2 p3 p4:Int):Value:=.agg #[.bool s,.int .u64 p0,.int .u64 p1,.int .u64 p2,.int .u64 p3,.int .u64 p4]
theorem of_pos (a:Int) (w:World) (h0:0≤a) (h1:a≤9223372036854775807) :
  Calls Tryz.prog 42 #[.int .i64 a] w fun e w'=>e=.returned (wide false (a % 4294967296) (a / 4294967296) 0 0 0)∧Below w.heap.size w w':=by
 have hd:decide (a < 0)=false:=decide_eq_false (by omega)
 go_enter Tryz.func42,Tryz.ntmps42
 go_wp2
 exact bodyPost_ret (v:=wide false (a % 4294967296) (a / 4294967296) 0 0 0) (by simp [results,Tryz.results42,go_sem]) rfl ⟨rfl,((Below.refl _ _).alloc (Nat.le_refl _) _).alloc (by simp) _⟩
theorem of_neg (m:Int) (w:World) (h0:1≤m) (h1:m≤9223372036854775808) :
  Calls Tryz.prog 42 #[.int .i64 (-m)] w fun e w'=>e=.returned (wide true (m % 4294967296) (m / 4294967296) 0 0 0)∧Below w.heap.size w w':=by
 have hd:decide (-m < 0)=true:=decide_eq_true (by omega)
 have hd2:decide (0 < m)=true:=decide_eq_true (by omega)
 have hw:IntKind.u64.wrap (-IntKind.u64.wrap (-m))=m:=by rw [IntKind.wrap_u64,IntKind.wrap_u64]; omega
 go_enter Tryz.func42,Tryz.ntmps42
 go_wp2
 exact bodyPost_ret (v:=wide true (m % 4294967296) (m / 4294967296) 0 0 0) (by simp [results,Tryz.results42,go_sem]) rfl ⟨rfl,((Below.refl _ _).alloc (Nat.le_refl _) _).alloc (by simp) _⟩
def size (p0 p1 p2 p3 p4:Int):Int:=p0 + 4294967296 * p1 + 18446744073709551616 * p2 + 79228162514264337593543950336 * p3 + 340282366920938463463374607431768211456 * p4
def Part (p:Int):Prop:=0≤p∧p≤4294967295
end Go.Proofs.YteghhmomhlnccaaGreatDoor
namespace Go.Proofs.YteghhmomhlnccaaGreatDoor
theorem small_big (s:Bool) (p0 p1 p2 p3 p4:Int) (w:World) (h0:Part p0) (h1:Part p1) (h2:Part p2) (h3:Part p3) (h4:Part p4) (h:0 < p2 + p3 + p4) :
  Calls Tryz.prog 73 #[wide s p0 p1 p2 p3 p4] w fun e w'=>e=.returned (.tuple #[.int .i64 0,.int .i64 4])∧Below w.heap.size w w':=by
 obtain ⟨a0,b0⟩:=h0
 obtain ⟨a1,b1⟩:=h1
 obtain ⟨a2,b2⟩:=h2
 obtain ⟨a3,b3⟩:=h3
 obtain ⟨a4,b4⟩:=h4
 have hd:decide (0 < p2 + p3 + p4)=true:=decide_eq_true h
 go_enter Tryz.func73,Tryz.ntmps73
 go_wp2
 go_ret2
 exact ⟨rfl,(Below.refl _ _).alloc (Nat.le_refl _) _⟩
theorem small_pos (p0 p1:Int) (w:World) (h0:Part p0) (h1:Part p1) (h:p1 * 4294967296 + p0≤9223372036854775807) :
  Calls Tryz.prog 73 #[wide false p0 p1 0 0 0] w fun e w'=>e=.returned (.tuple #[.int .i64 (p1 * 4294967296 + p0),.int .i64 0])∧Below w.heap.size w w':=by
 obtain ⟨a0,b0⟩:=h0
 obtain ⟨a1,b1⟩:=h1
 go_enter Tryz.func73,Tryz.ntmps73
 go_wp2
 go_ret2
 exact ⟨rfl,(Below.refl _ _).alloc (Nat.le_refl _) _⟩
theorem small_posbig (p0 p1:Int) (w:World) (h0:Part p0) (h1:Part p1) (h:9223372036854775807 < p1 * 4294967296 + p0) :
  Calls Tryz.prog 73 #[wide false p0 p1 0 0 0] w fun e w'=>e=.returned (.tuple #[.int .i64 0,.int .i64 4])∧Below w.heap.size w w':=by
 obtain ⟨a0,b0⟩:=h0
 obtain ⟨a1,b1⟩:=h1
 go_enter Tryz.func73,Tryz.ntmps73
 go_wp2
 go_ret2
 exact ⟨rfl,(Below.refl _ _).alloc (Nat.le_refl _) _⟩
theorem small_neg (p0 p1:Int) (w:World) (h0:Part p0) (h1:Part p1) (h:p1 * 4294967296 + p0≤9223372036854775808) :
  Calls Tryz.prog 73 #[wide true p0 p1 0 0 0] w fun e w'=>e=.returned (.tuple #[.int .i64 (-(p1 * 4294967296 + p0)),.int .i64 0])∧Below w.heap.size w w':=by
 obtain ⟨a0,b0⟩:=h0
 obtain ⟨a1,b1⟩:=h1
 have hw:wrap64 (IntKind.u64.wrap (-(p1 * 4294967296 + p0)))=-(p1 * 4294967296 + p0):=by rw [IntKind.wrap_u64]; unfold wrap64; omega
 have HW:=hid hw
 clear hw
 go_enter Tryz.func73,Tryz.ntmps73
 go_wp2
 go_ret2
 refine ⟨?_,(Below.refl _ _).alloc (Nat.le_refl _) _⟩
 have:=HW.out
 simp_all
theorem small_negbig (p0 p1:Int) (w:World) (h0:Part p0) (h1:Part p1) (h:9223372036854775808 < p1 * 4294967296 + p0) :
  Calls Tryz.prog 73 #[wide true p0 p1 0 0 0] w fun e w'=>e=.returned (.tuple #[.int .i64 0,.int .i64 4])∧Below w.heap.size w w':=by
 obtain ⟨a0,b0⟩:=h0
 obtain ⟨a1,b1⟩:=h1
 go_enter Tryz.func73,Tryz.ntmps73
 go_wp2
 go_ret2
 exact ⟨rfl,(Below.refl _ _).alloc (Nat.le_refl _) _⟩
theorem small_any (s:Bool) (p0 p1 p2 p3 p4:Int) (w:World) (h0:Part p0) (h1:Part p1) (h2:Part p2) (h3:Part p3) (h4:Part p4) :
  Calls Tryz.prog 73 #[wide s p0 p1 p2 p3 p4] w fun e w'=>e=.returned (.tuple #[.int .i64 (sv (signed s (size p0 p1 p2 p3 p4))),.int .i64 (se (signed s (size p0 p1 p2 p3 p4)))])∧Below w.heap.size w w':=by
 have g0:=h0
 have g1:=h1
 obtain ⟨a0,b0⟩:=h0
 obtain ⟨a1,b1⟩:=h1
 have g2:=h2
 have g3:=h3
 have g4:=h4
 obtain ⟨a2,b2⟩:=h2
 obtain ⟨a3,b3⟩:=h3
 obtain ⟨a4,b4⟩:=h4
 by_cases hb:0 < p2 + p3 + p4
 ·have hn:¬ Fits (signed s (size p0 p1 p2 p3 p4)):=by
   cases s <;> simp only [signed,size,Fits,if_true,Bool.false_eq_true,if_false] <;> omega
  rw [show sv (signed s (size p0 p1 p2 p3 p4))=0 from if_neg hn,show se (signed s (size p0 p1 p2 p3 p4))=4 from if_neg hn]
  exact small_big s p0 p1 p2 p3 p4 w g0 g1 g2 g3 g4 hb
 ·obtain rfl:p2=0:=by omega
  obtain rfl:p3=0:=by omega
  obtain rfl:p4=0:=by omega
  have hz:size p0 p1 0 0 0=p1 * 4294967296 + p0:=by unfold size; omega
  rw [hz]
  cases s
  ·by_cases h:p1 * 4294967296 + p0≤9223372036854775807
   ·have hf:Fits (signed false (p1 * 4294967296 + p0)):=by simp only [signed,Fits,Bool.false_eq_true,if_false]; omega
    rw [show sv (signed false (p1 * 4294967296 + p0))=p1 * 4294967296 + p0 from if_pos hf,show se (signed false (p1 * 4294967296 + p0))=0 from if_pos hf]
    exact small_pos p0 p1 w g0 g1 h
   ·have hf:¬ Fits (signed false (p1 * 4294967296 + p0)):=by simp only [signed,Fits,Bool.false_eq_true,if_false]; omega
    rw [show sv (signed false (p1 * 4294967296 + p0))=0 from if_neg hf,show se (signed false (p1 * 4294967296 + p0))=4 from if_neg hf]
    exact small_posbig p0 p1 w g0 g1 (by omega)
  ·by_cases h:p1 * 4294967296 + p0≤9223372036854775808
   ·have hf:Fits (signed true (p1 * 4294967296 + p0)):=by simp only [signed,Fits,if_true]; omega
    rw [show sv (signed true (p1 * 4294967296 + p0))=-(p1 * 4294967296 + p0) from if_pos hf,show se (signed true (p1 * 4294967296 + p0))=0 from if_pos hf]
    exact small_neg p0 p1 w g0 g1 h
   ·have hf:¬ Fits (signed true (p1 * 4294967296 + p0)):=by simp only [signed,Fits,if_true]; omega
    rw [show sv (signed true (p1 * 4294967296 + p0))=0 from if_neg hf,show se (signed true (p1 * 4294967296 + p0))=4 from if_neg hf]
    exact small_negbig p0 p1 w g0 g1 (by omega)
end Go.Proofs.YteghhmomhlnccaaGreatDoor
namespace Go.Proofs.YteghhmomhlnccaaGreatDoor
theorem wneg_any (s:Bool) (p0 p1 p2 p3 p4:Int) (w:World) :
  Calls Tryz.prog 41 #[wide s p0 p1 p2 p3 p4] w fun e w'=>e=.returned (wide (!s) p0 p1 p2 p3 p4)∧Below w.heap.size w w':=by
 go_enter Tryz.func41,Tryz.ntmps41
 go_wp2
 exact bodyPost_ret (v:=wide (!s) p0 p1 p2 p3 p4) (by simp [results,Tryz.results41,go_sem]) rfl ⟨rfl,((Below.refl _ _).alloc (Nat.le_refl _) _).alloc (by simp) _⟩
end Go.Proofs.YteghhmomhlnccaaGreatDoor
namespace Go.Proofs.YteghhmomhlnccaaGreatDoor
abbrev parts (p0 p1 p2 p3 p4:Int):Value:=.agg #[.int .u64 p0,.int .u64 p1,.int .u64 p2,.int .u64 p3,.int .u64 p4]
theorem less1 (x0 x1 y0 y1:Int) (w:World) (h:¬ x1=y1) :
  Calls Tryz.prog 98 #[parts x0 x1 0 0 0,parts y0 y1 0 0 0] w fun e w'=>e=.returned (.bool (decide (x1 < y1)))∧Below w.heap.size w w':=by
 have B:Below w.heap.size w ((w.alloc (.cells #[.int .u64 x0,.int .u64 x1,.int .u64 0,.int .u64 0,.int .u64 0] 71)).alloc (.cells #[.int .u64 y0,.int .u64 y1,.int .u64 0,.int .u64 0,.int .u64 0] 71)):=
  ((Below.refl _ _).alloc (Nat.le_refl _) _).alloc (by simp) _
 have BB:=hid B
 clear B
 go_enter Tryz.func98,Tryz.ntmps98
 go_wp2
 refine wp_loop_rounds 6 ?_
 rw [rounds_succ]
 go_wp2
 go_quiet (fail)
 go_wp2
 rw [rounds_succ]
 go_wp2
 go_quiet (fail)
 go_wp2
 rw [rounds_succ]
 go_wp2
 go_quiet (fail)
 go_wp2
 rw [rounds_succ]
 go_wp2
 go_quiet (fail)
 go_wp2
 go_quiet (fail)
 go_wp2
 go_ret
 exact ⟨rfl,by repeat (first | exact BB.out | refine below_drewN ?_ _)⟩
theorem less0 (x0 x1 y0:Int) (w:World) (h:¬ x0=y0) :
  Calls Tryz.prog 98 #[parts x0 x1 0 0 0,parts y0 x1 0 0 0] w fun e w'=>e=.returned (.bool (decide (x0 < y0)))∧Below w.heap.size w w':=by
 have B:Below w.heap.size w ((w.alloc (.cells #[.int .u64 x0,.int .u64 x1,.int .u64 0,.int .u64 0,.int .u64 0] 71)).alloc (.cells #[.int .u64 y0,.int .u64 x1,.int .u64 0,.int .u64 0,.int .u64 0] 71)):=
  ((Below.refl _ _).alloc (Nat.le_refl _) _).alloc (by simp) _
 have BB:=hid B
 clear B
 go_enter Tryz.func98,Tryz.ntmps98
 go_wp2
 refine wp_loop_rounds 6 ?_
 rw [rounds_succ]
 go_wp2
 go_quiet (fail)
 go_wp2
 rw [rounds_succ]
 go_wp2
 go_quiet (fail)
 go_wp2
 rw [rounds_succ]
 go_wp2
 go_quiet (fail)
 go_wp2
 rw [rounds_succ]
 go_wp2
 go_quiet (fail)
 go_wp2
 rw [rounds_succ]
 go_wp2
 go_quiet (fail)
 go_wp2
 go_quiet (fail)
 go_wp2
 go_ret
 exact ⟨rfl,by repeat (first | exact BB.out | refine below_drewN ?_ _)⟩
theorem less_same (x0 x1:Int) (w:World) :
  Calls Tryz.prog 98 #[parts x0 x1 0 0 0,parts x0 x1 0 0 0] w fun e w'=>e=.returned (.bool false)∧Below w.heap.size w w':=by
 have B:Below w.heap.size w ((w.alloc (.cells #[.int .u64 x0,.int .u64 x1,.int .u64 0,.int .u64 0,.int .u64 0] 71)).alloc (.cells #[.int .u64 x0,.int .u64 x1,.int .u64 0,.int .u64 0,.int .u64 0] 71)):=
  ((Below.refl _ _).alloc (Nat.le_refl _) _).alloc (by simp) _
 have BB:=hid B
 clear B
 go_enter Tryz.func98,Tryz.ntmps98
 go_wp2
 refine wp_loop_rounds 6 ?_
 rw [rounds_succ]
 go_wp2
 go_quiet (fail)
 go_wp2
 rw [rounds_succ]
 go_wp2
 go_quiet (fail)
 go_wp2
 rw [rounds_succ]
 go_wp2
 go_quiet (fail)
 go_wp2
 rw [rounds_succ]
 go_wp2
 go_quiet (fail)
 go_wp2
 rw [rounds_succ]
 go_wp2
 go_quiet (fail)
 go_wp2
 rw [rounds_succ]
 go_wp2
 go_ret
 exact ⟨rfl,by repeat (first | exact BB.out | refine below_drewN ?_ _)⟩
theorem less_any (x0 x1 y0 y1:Int) (w:World) (h0:Part x0) (h1:Part x1) (k0:Part y0) (k1:Part y1) :
  Calls Tryz.prog 98 #[parts x0 x1 0 0 0,parts y0 y1 0 0 0] w fun e w'=>e=.returned (.bool (decide (x0 + 4294967296 * x1 < y0 + 4294967296 * y1)))∧Below w.heap.size w w':=by
 obtain ⟨a0,b0⟩:=h0
 obtain ⟨a1,b1⟩:=h1
 obtain ⟨c0,d0⟩:=k0
 obtain ⟨c1,d1⟩:=k1
 by_cases h:x1=y1
 ·subst h
  by_cases h:x0=y0
  ·subst h
   have e:decide (x0 + 4294967296 * x1 < x0 + 4294967296 * x1)=false:=decide_eq_false (by omega)
   rw [e]
   exact less_same x0 x1 w
  ·have e:decide (x0 + 4294967296 * x1 < y0 + 4294967296 * x1)=decide (x0 < y0):=by rw [decide_eq_decide]; omega
   rw [e]
   exact less0 x0 x1 y0 w h
 ·have e:decide (x0 + 4294967296 * x1 < y0 + 4294967296 * y1)=decide (x1 < y1):=by rw [decide_eq_decide]; omega
  rw [e]
  exact less1 x0 x1 y0 y1 w h
end Go.Proofs.YteghhmomhlnccaaGreatDoor
namespace Go.Proofs.YteghhmomhlnccaaGreatDoor
theorem carry (n m:Int) (h0:0≤n) (h1:n≤m):∃ q c:Int,n % 4294967296=q∧n / 4294967296=c∧Part q∧0≤c∧c≤m / 4294967296∧n=q + 4294967296 * c:=
 ⟨_,_,rfl,rfl,⟨Int.emod_nonneg _ (by decide),by omega⟩,by omega,by omega,by omega⟩
theorem alloc_at (w:World) (o:Obj) (k:Nat) (h:w.heap.size=k):(w.alloc o).heap[k]?=some o:=by subst h; exact heap_alloc_new w o
theorem six (W:World) (b:Nat) (cs:Array Value) (t:TypeId) (h:W.heap[b]?=some (.cells cs t (0,0))) (hs:cs.size=6) (v0 v1 v2 v3 v4 v5:Value) :
  ((((((W.setCell ⟨b,0,none⟩ v0).setCell ⟨b,1,none⟩ v1).setCell ⟨b,2,none⟩ v2).setCell ⟨b,3,none⟩ v3).setCell ⟨b,4,none⟩ v4).setCell ⟨b,5,none⟩ v5).heap[b]?=some (.cells #[v0,v1,v2,v3,v4,v5] t (0,0)):=by
 obtain ⟨l⟩:=cs
 match l,hs with
 | [a0,a1,a2,a3,a4,a5],_=>
  have h0:=heap_setCell_same W b 0 _ t v0 h
  have h1:=heap_setCell_same _ b 1 _ t v1 h0
  have h2:=heap_setCell_same _ b 2 _ t v2 h1
  have h3:=heap_setCell_same _ b 3 _ t v3 h2
  have h4:=heap_setCell_same _ b 4 _ t v4 h3
  have h5:=heap_setCell_same _ b 5 _ t v5 h4
  simpa using h5
theorem gives {fn:Func} {p:Tmp} (h:fn.results=#[.cell p 73]) (tmps:Array Value) (w:World) (g:Nat) (s:Bool) (q0 q1 q2 q3 q4:Int)
  (hp:tmps.getD p undef=.pointer (some ⟨g,0,none⟩)) (hg:w.heap[g]?=some (.cells #[.bool s,.int .u64 q0,.int .u64 q1,.int .u64 q2,.int .u64 q3,.int .u64 q4] 73 (0,0))) :
  (results fn tmps).run Tryz.prog w=.ok (wide s q0 q1 q2 q3 q4) w:=
 results_cell_row h tmps w g 73 _ (0,0) _ hp hg Tryz.underlying73 rfl (by kernel_rfl)
theorem world_gen {F:World→Prop} {W:World} (P:World→Prop) (hP:P W) (h:∀ W',P W'→F W'):F W:=h W hP
theorem draw_same (W:World) (n b i:Nat) (cs:Array Value) (t:TypeId) (v:Value) (h:W.heap[b]?=some (.cells cs t (0,0))) :
  ((W.drewN n).setCell ⟨b,i,none⟩ v).heap[b]?=some (.cells (cs.setIfInBounds i v) t (0,0)):=heap_setCell_same (W.drewN n) b i cs t v h
theorem five (W:World) (b:Nat) (u:Value) (t:TypeId) (z1 z2 z3 z4 z5:Value) (h:W.heap[b]?=some (.cells #[u,z1,z2,z3,z4,z5] t (0,0))) (n1 n2 n3 n4 n5:Nat) (v1 v2 v3 v4 v5:Value) :
  ((((((((((W.drewN n1).setCell ⟨b,1,none⟩ v1).drewN n2).setCell ⟨b,2,none⟩ v2).drewN n3).setCell ⟨b,3,none⟩ v3).drewN n4).setCell ⟨b,4,none⟩ v4).drewN n5).setCell ⟨b,5,none⟩ v5).heap[b]?=some (.cells #[u,v1,v2,v3,v4,v5] t (0,0)):=by
 have h1:=draw_same W n1 b 1 _ t v1 h
 have h2:=draw_same _ n2 b 2 _ t v2 h1
 have h3:=draw_same _ n3 b 3 _ t v3 h2
 have h4:=draw_same _ n4 b 4 _ t v4 h3
 have h5:=draw_same _ n5 b 5 _ t v5 h4
 simpa using h5
structure Two (w W:World) (g r:Nat) (s t:Bool) (q0 q1 q2 q3 q4:Int):Prop where
 from':W.heap[r]?=some (.cells #[.bool s,.int .u64 q0,.int .u64 q1,.int .u64 q2,.int .u64 q3,.int .u64 q4] 73 (0,0))
 to:W.heap[g]?=some (.cells #[.bool t,.int .u64 0,.int .u64 0,.int .u64 0,.int .u64 0,.int .u64 0] 73 (0,0))
 le:w.heap.size≤g
 below:Below w.heap.size w W
theorem Two.end' {w W:World} {g r:Nat} {s t:Bool} {q0 q1 q2 q3 q4:Int} (h:Two w W g r s t q0 q1 q2 q3 q4) (v0 v1 v2 v3 v4 v5:Value) :
  Below w.heap.size w ((((((W.setCell ⟨g,0,none⟩ v0).setCell ⟨g,1,none⟩ v1).setCell ⟨g,2,none⟩ v2).setCell ⟨g,3,none⟩ v3).setCell ⟨g,4,none⟩ v4).setCell ⟨g,5,none⟩ v5):=
 (((((h.below.setCell h.le _).setCell h.le _).setCell h.le _).setCell h.le _).setCell h.le _).setCell h.le _
theorem wadd_more (x0 x1 x2 y0:Int) (w:World) (hx0:Part x0) (hx1:Part x1) (hx2:0≤x2∧x2≤1000) (hy0:Part y0) :
  Calls Tryz.prog 70 #[wide false x0 x1 x2 0 0,wide false y0 0 0 0 0] w fun e w'=>∃ q0 q1 q2:Int,(Part q0∧Part q1∧Part q2∧size q0 q1 q2 0 0=size x0 x1 x2 0 0 + y0)∧e=.returned (wide false q0 q1 q2 0 0)∧Below w.heap.size w w':=by
 obtain ⟨a0,b0⟩:=hx0
 obtain ⟨a1,b1⟩:=hx1
 obtain ⟨c0,d0⟩:=hy0
 obtain ⟨c1,d1⟩:=hx2
 obtain ⟨q0,k0,e1,e2,f1,f2,f3,f4⟩:=carry (x0 + y0) 8589934590 (by omega) (by omega)
 obtain ⟨q1,k1,e3,e4,f5,f6,f7,f8⟩:=carry (x1 + k0) 4294967296 (by omega) (by omega)
 have F:Hid ((Part q0∧Part q1∧Part (x2 + k1)∧size q0 q1 (x2 + k1) 0 0=size x0 x1 x2 0 0 + y0)):=
  hid ⟨f1,f5,⟨by omega,by omega⟩,by unfold size; omega⟩
 have B:Below w.heap.size w ((((w.alloc (.cells #[.bool false,.int .u64 x0,.int .u64 x1,.int .u64 x2,.int .u64 0,.int .u64 0] 73)).alloc (.cells #[.bool false,.int .u64 y0,.int .u64 0,.int .u64 0,.int .u64 0,.int .u64 0] 73)).alloc (.cells #[.bool false,.int .u64 0,.int .u64 0,.int .u64 0,.int .u64 0,.int .u64 0] 73)).alloc (.cells #[.bool false,.int .u64 0,.int .u64 0,.int .u64 0,.int .u64 0,.int .u64 0] 73)):=
  ((((Below.refl _ _).alloc (Nat.le_refl _) _).alloc (by simp) _).alloc (by simp; omega) _).alloc (by simp; omega) _
 have BB:=hid B
 have E1:=hid e1
 have E2:=hid e2
 have E3:=hid e3
 have E4:=hid e4
 have g1:k0≤1:=by omega
 have g2:k1≤1:=by omega
 clear e1 e2 e3 e4 f1 f3 f4 f5 f7 f8 B
 go_enter Tryz.func70,Tryz.ntmps70
 go_wp2
 refine wp_loop_rounds 6 ?_
 rw [rounds_succ]
 go_wp2
 go_quiet (fail)
 go_wp2
 rw [E1.out,E2.out]
 rw [rounds_succ]
 go_wp2
 go_quiet (fail)
 go_wp2
 rw [E3.out,E4.out]
 rw [rounds_succ]
 go_wp2
 go_quiet (fail)
 go_wp2
 rw [Int.emod_eq_of_lt (show 0≤x2 + k1 by omega) (show x2 + k1 < 4294967296 by omega),Int.ediv_eq_zero_of_lt (show 0≤x2 + k1 by omega) (show x2 + k1 < 4294967296 by omega)]
 rw [rounds_succ]
 go_wp2
 go_quiet (fail)
 go_wp2
 rw [rounds_succ]
 go_wp2
 go_quiet (fail)
 go_wp2
 rw [rounds_succ]
 go_wp2
 refine bodyPost_ret (v:=wide false q0 q1 (x2 + k1) 0 0) (gives Tryz.results70 _ _ (w.heap.size + 1 + 1) false q0 q1 (x2 + k1) 0 0 rfl (six _ _ #[.bool false,.int .u64 0,.int .u64 0,.int .u64 0,.int .u64 0,.int .u64 0] 73 ?_ rfl _ _ _ _ _ _)) rfl ⟨_,_,_,F.out,rfl,?_⟩
 ·repeat (first | rw [World.heap_drewN] | rw [heap_setCell_other _ _ _ _ (by simp)])
  rw [heap_alloc_old _ _ (by simp)]
  exact alloc_at _ _ _ (by simp)
 repeat (first | with_reducible exact BB.out | with_reducible refine below_drewN ?_ _ | with_reducible refine Below.setCell ?_ (by simp; omega) _)
end Go.Proofs.YteghhmomhlnccaaGreatDoor
