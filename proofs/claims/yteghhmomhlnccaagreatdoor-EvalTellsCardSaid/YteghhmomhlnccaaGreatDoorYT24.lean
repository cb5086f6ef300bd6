import Derived.Test.YteghhmomhlnccaaGreatDoorYT1
import Derived.Test.YteghhmomhlnccaaGreatDoorYT23
import Derived.Test.YteghhmomhlnccaaGreatDoorYT10
import Derived.Test.YteghhmomhlnccaaGreatDoorYT11
import Derived.Test.YteghhmomhlnccaaGreatDoorYT13
set_option linter.unusedVariables false
set_option linter.unusedSimpArgs false
set_option maxRecDepth 100000
set_option maxHeartbeats 100000000
open Go.RowKit Go.Lib
namespace Go.Proofs.YteghhmomhlnccaaGreatDoor
attribute [local go_sem ↓] eqVal neqVal
open Ex (Tree)
open Ev (V R Pl)
variable {C : List Col} {Ac : Option Addr} {cc : Nat} {W : List V} {Ar : Option Addr} {cr : Nat} {w0 : World}
theorem ct_isnull {ks:List Tree} {op vk vn:Int} {t vs:List UInt8} (hX:∀ i (h:i < ks.length),CT C Ac cc W Ar cr w0 ks[i]) (hp:∀ i (h:i < ks.length),Pl (Ev.ev C W ks[i]).v) (hA:ColsAt w0 Ac C) (hV:ValsAt w0 Ar W) (hC:C.length≤1000000) (hl:W.length=C.length) (ad:Addr) (mx:Int) (hE:Env w0 ad mx) (hc:op=6∧t=[105,115,110,117,108,108]∧ks.length=1):CT C Ac cc W Ar cr w0 (.node op t vk vn vs ks):=by
 intro v w hb hv
 obtain ⟨hop,ht,hn⟩:=hc
 subst hop ht
 obtain ⟨X,rfl⟩:=Ev.list1 hn
 obtain ⟨A,c,rfl,hcc,hk⟩:=hv
 have b0:=(Below.refl w.heap.size w).alloc (Nat.le_refl _) (.cells #[.slice Ac C.length cc,.slice Ar W.length cr] 60)
 have b1:=b0.alloc (by simp) (.cells (ncells 6 [105,115,110,117,108,108] vk vn vs A 1 c) 26)
 have b2:=b1.alloc (by simp; omega) (.cells #[.int .i64 0,.int .i64 0,.string ⟨#[]⟩] 23)
 have k0:=((Whole.new w 60 #[.slice Ac C.length cc,.slice Ar W.length cr]).alloc (.cells (ncells 6 [105,115,110,117,108,108] vk vn vs A 1 c) 26)).alloc (.cells #[.int .i64 0,.int .i64 0,.string ⟨#[]⟩] 23)
 have k1:=(Whole.new (w.alloc (.cells #[.slice Ac C.length cc,.slice Ar W.length cr] 60)) 26 (ncells 6 [105,115,110,117,108,108] vk vn vs A 1 c)).alloc (.cells #[.int .i64 0,.int .i64 0,.string ⟨#[]⟩] 23)
 have r2:=Row3.new ((w.alloc (.cells #[.slice Ac C.length cc,.slice Ar W.length cr] 60)).alloc (.cells (ncells 6 [105,115,110,117,108,108] vk vn vs A 1 c) 26)) 0 0 ⟨#[]⟩
 simp only [World.size_alloc] at k1 r2
 obtain ⟨W1,hW1⟩:∃ W1,((w.alloc (.cells #[.slice Ac C.length cc,.slice Ar W.length cr] 60)).alloc (.cells (ncells 6 [105,115,110,117,108,108] vk vn vs A 1 c) 26)).alloc (.cells #[.int .i64 0,.int .i64 0,.string ⟨#[]⟩] 23)=W1:=⟨_,rfl⟩
 rw [hW1] at b2 k0 k1 r2
 obtain ⟨RES,hres⟩:∃ RES,Ev.ev C W (.node 6 [105,115,110,117,108,108] vk vn vs [X])=RES:=⟨_,rfl⟩
 rw [hres]
 have HR:=hid hres
 obtain ⟨kb,ko,o1,t1,k1',n1,s1,m1,B1,d1,rfl,-,hc1,hnv,-⟩:=kid_call (i:=0) (by simp) (hX 0 (by simp)) hb hk
 simp only [List.getElem_cons_zero,Nat.zero_mul,Nat.add_zero] at hc1 hnv
 have hev:Ev.isnR (Ev.ev C W X)=RES:=by rw [← hres,Ev.ev,if_neg (by decide),if_neg (by decide)]; exact (comb_isnull _).symm
 have CALL:Hid (∀ U,Below w.heap.size w U→Calls Tryz.prog 55 #[ovV C Ac cc W Ar cr,.agg (ncells o1 t1 k1' n1 s1 B1 m1 d1)] U fun e w'=>e=.returned (outR RES)∧Below U.heap.size U w'):=hid (fun U hU=>by
  have h:=isNull_of (hX 0 (by simp)) (hp 0 (by simp)) _ U (bstep hb hU) (hnv U hU)
  simp only [List.getElem_cons_zero] at h
  rw [hev] at h; exact h)
 have HC1:=hid hc1
 clear hev hc1 hnv
 have B2:=hid b2
 have R2:=hid r2
 obtain ⟨⟨rk,rn,rs⟩,re_⟩:=RES
 unfold ovV outR vv vcells ncells at *
 try dsimp only at *
 clear hX hp hA hV hC hl hE hb hk hcc b0 b1 HR hres
 generalize C.length=cn at *
 generalize W.length=wn at *
 simp only [List.length_cons,List.length_nil,Nat.zero_add,Nat.reduceAdd]
 have x0:=k0.cell 0
 have x1:=k0.cell 1
 simp only [List.getElem?_toArray,List.getElem?_cons_zero,List.getElem?_cons_succ] at x0 x1
 obtain ⟨c0,c1,c2,c3,c4,c5⟩:=six_of k1
 have Q1:Hid (NdS w W1 #[.slice Ac cn cc,.slice Ar wn cr] (#[.int .i64 6,.string (tx [105,115,110,117,108,108]),.int .i64 vk,.int .i64 vn,.string (tx vs),.slice (some ⟨kb,ko,none⟩) 1 c])):=hid ⟨b2,k0,k1⟩
 have KK:Hid (∀ U,NdS w U #[.slice Ac cn cc,.slice Ar wn cr] (#[.int .i64 6,.string (tx [105,115,110,117,108,108]),.int .i64 vk,.int .i64 vn,.string (tx vs),.slice (some ⟨kb,ko,none⟩) 1 c])→(U.cell? ⟨w.heap.size,0,none⟩=some (.slice Ac cn cc)∧U.cell? ⟨w.heap.size,1,none⟩=some (.slice Ar wn cr))∧U.cell? ⟨w.heap.size + 1,5,none⟩=some (.slice (some ⟨kb,ko,none⟩) 1 c)):=hid (fun U hU=>⟨⟨by rw [hU.2.1.cell]; rfl,by rw [hU.2.1.cell]; rfl⟩,by rw [hU.2.2.cell]; rfl⟩)
 clear b2 r2 k0 k1 x0 x1
 go_enter Tryz.func27,Tryz.ntmps27
 go_upto_region 12 with fail
 clear c0 c1 c2 c3 c4 c5
 have QD:Hid (NdS w W1.drew #[.slice Ac cn cc,.slice Ar wn cr] (#[.int .i64 6,.string (tx [105,115,110,117,108,108]),.int .i64 vk,.int .i64 vn,.string (tx vs),.slice (some ⟨kb,ko,none⟩) 1 c])):=hid Q1.out.drew
 refine wp_region_held_drew (S:=fun U=>NdS w U #[.slice Ac cn cc,.slice Ar wn cr] (#[.int .i64 6,.string (tx [105,115,110,117,108,108]),.int .i64 vk,.int .i64 vn,.string (tx vs),.slice (some ⟨kb,ko,none⟩) 1 c])) (by kernel_rfl) QD.out (fun _=>?_)
 refine qTk 0 (v:=?_) QD.out ?_ ?_
 rotate_left
 ·(intro U hw; obtain ⟨⟨a0,a1⟩,p5⟩:=KK.out U hw; obtain ⟨u0,u1,u2,u3,u4,u5⟩:=HC1.out U hw.1; go_simp; try with_reducible rfl)
 refine qTk 1 (v:=?_) QD.out ?_ ?_
 rotate_left
 ·(intro U hw; go_simp; try with_reducible rfl)
 refine qTk 2 (v:=?_) QD.out ?_ ?_
 rotate_left
 ·(intro U hw; obtain ⟨⟨a0,a1⟩,p5⟩:=KK.out U hw; obtain ⟨u0,u1,u2,u3,u4,u5⟩:=HC1.out U hw.1; go_simp; try with_reducible rfl)
 refine qTk 3 (v:=?_) QD.out ?_ ?_
 rotate_left
 ·(intro U hw; go_simp; try with_reducible rfl)
 refine qTk 4 (v:=?_) QD.out ?_ ?_
 rotate_left
 ·(intro U hw; obtain ⟨⟨a0,a1⟩,p5⟩:=KK.out U hw; obtain ⟨u0,u1,u2,u3,u4,u5⟩:=HC1.out U hw.1; go_simp; try with_reducible rfl)
 refine qTr1 5 (fun K hK=>?_)
 go_simp
 refine (CALL.out _ QD.out.1).mono ?_
 rintro e V1 ⟨rfl,hv1⟩
 have QV1:=hid (QD.out.call hv1)
 have ZB1:=Row3.below (w':=V1) (g:=w.heap.size + 2) (k:=0) (n:=0) (s:=⟨#[]⟩) (by exact R2.out) hv1 (by exact R2.out.lt)
 obtain ⟨z0,z1,z2⟩:=ZB1.holds
 have f0:=ZB1.frozen 0
 have f1:=ZB1.frozen 1
 have f2:=ZB1.frozen 2
 refine hK.out _ _ QV1.out (fun _=>?_)
 clear hK K
 refine qTk 6 (v:=?_) QV1.out ?_ ?_
 rotate_left
 ·(intro U hw; go_simp; try with_reducible rfl)
 refine qTk 7 (v:=?_) QV1.out ?_ ?_
 rotate_left
 ·(intro U hw; go_simp; try with_reducible rfl)
 refine qTr1 8 (fun K hK=>?_)
 go_simp
 have QS:=hid (QV1.out.set3 (g:=w.heap.size + 2) (by first | omega | exact Nat.le_refl _) (.int .i64 rk) (.int .i64 rn) (.string (tx rs)))
 have FW:=hid (ZB1.set3 rk rn (tx rs))
 refine hK.out _ _ QS.out (fun _=>?_)
 clear hK K
 refine qTk 9 (v:=?_) QS.out ?_ ?_
 rotate_left
 ·(intro U hw; go_simp; try with_reducible rfl)
 refine wpAnyH_done (by kernel_rfl) ?_ _
 try simp only  [Act.put,List.setIfInBounds_toArray,List.set_cons_zero,List.set_cons_succ]
 go_wp2_with fail
 exact fin_R2 (r:=⟨⟨rk,rn,rs⟩,re_⟩) Tryz.results27 rfl rfl rfl FW.out QS.out.1 rfl
end Go.Proofs.YteghhmomhlnccaaGreatDoor
namespace Go.Proofs.YteghhmomhlnccaaGreatDoor
attribute [local go_sem ↓] eqVal neqVal
open Ex (Tree)
open Ev (V R Pl)
variable {C : List Col} {Ac : Option Addr} {cc : Nat} {W : List V} {Ar : Option Addr} {cr : Nat} {w0 : World}
theorem comesTo_all {C:List Col} {W:List V} (hW:∀ v ∈ W,Pl v) (hA:ColsAt w0 Ac C) (hV:ValsAt w0 Ar W) (hC:C.length≤1000000) (hl:W.length=C.length) (ad:Addr) (mx:Int) (hE:Env w0 ad mx) (N:Nat):∀ T:Tree,Ex.count T≤N→Ex.ones nodeB T=true→Ex.ones rngN T=true→CT C Ac cc W Ar cr w0 T:=by
 induction N with
 | zero=>intro T h; have:=Ex.count_pos T; omega
 | succ N ih=>
  intro T hN hO hG
  cases T with
  | node op t vk vn vs ks=>
  rw [Ex.ones,Bool.and_eq_true] at hO hG
  have hX:∀ i (h:i < ks.length),CT C Ac cc W Ar cr w0 ks[i]:=fun i hi=>ih ks[i] (by have:=count_lt (op:=op) (t:=t) (vk:=vk) (vn:=vn) (vs:=vs) (List.getElem_mem hi); omega) (Kd.oness_get hO.2 i hi) (Kd.oness_get hG.2 i hi)
  have hp:∀ i (h:i < ks.length),Pl (Ev.ev C W ks[i]).v:=fun i hi=>Ev.ev_pl hW _ (Kd.oness_get hO.2 i hi) (Kd.oness_get hG.2 i hi)
  by_cases h1:op=1
  ·exact ct_val hX hp hA hV hC hl ad mx hE h1
  by_cases h2:op=2
  ·exact ct_name hX hp hA hV hC hl ad mx hE h2
  rcases node_is hO.1 h1 h2 with h | h | h | h | h | h
  ·exact ct_or hX hp hA hV hC hl ad mx hE h
  ·exact ct_and hX hp hA hV hC hl ad mx hE h
  ·exact ct_isnull hX hp hA hV hC hl ad mx hE h
  ·exact ct_nvl hX hp hA hV hC hl ad mx hE h
  ·exact ct_if hX hp hA hV hC hl ad mx hE h
  ·exact ct_all hX hp hA hV hC hl ad mx hE h1 h2 h
end Go.Proofs.YteghhmomhlnccaaGreatDoor
namespace Go.Proofs.YteghhmomhlnccaaGreatDoor
attribute [local go_sem ↓] eqVal neqVal
open Ex (Tree)
open Ev (V R Pl)
def Ev.rowB (C:List Col) (L:List V):Bool:=Kd.goodB C && (L.all (fun v=>plainB v.k v.n (tx v.s)) && Ev.areB L (C.map (·.2)))
theorem take_kinds (C:List Col) (i:Nat) (h:i < C.length):(C.take (i + 1)).map (·.2)=(C.take i).map (·.2) ++ [C[i].2]:=by
 rw [List.take_succ_eq_append_getElem h,List.map_append]; rfl
theorem pl_of {v:V} (h:plainB v.k v.n (tx v.s)=true) (hn:Fits v.n):Pl v:=by
 have hs:(tx v.s).size=v.s.length:=by simp [ByteArray.size,tx]
 rcases plainB_iff.1 h with ⟨h1,h2,h3⟩ | ⟨h1,h3⟩ | ⟨h1,h2,h3⟩ | ⟨h1,h3,h4,h5⟩
 ·exact .inl ⟨h1,h2,List.eq_nil_of_length_eq_zero (by rw [← hs]; exact h3)⟩
 ·exact .inr (.inl ⟨h1,hn,List.eq_nil_of_length_eq_zero (by rw [← hs]; exact h3)⟩)
 ·exact .inr (.inr (.inl ⟨h1,h2,by rw [← hs]; exact h3⟩))
 ·exact .inr (.inr (.inr ⟨h1,by omega,List.eq_nil_of_length_eq_zero (by rw [← hs]; exact h3)⟩))
theorem Ev.rowB_is {C:List Col} {L:List V} (h:Ev.rowB C L=true) (hf:fitV L):Kd.Good C∧L.length=C.length∧(∀ v ∈ L,Pl v)∧∀ i (h:i < L.length) (h2:i < C.length),L[i].k=C[i].2∨L[i].k=0:=by
 rw [Ev.rowB,Bool.and_eq_true,Bool.and_eq_true,Kd.goodB_iff,List.all_eq_true,Ev.areB_iff] at h
 obtain ⟨h1,h2,h3,h4⟩:=h
 refine ⟨h1,by simpa using h3,fun v hv=>pl_of (h2 v hv) (hf v hv).2,fun i hi hi2=>?_⟩
 have:=h4 i hi (by simpa using hi2)
 rwa [List.getElem_map] at this
theorem row_any2 (C:List Col) (L:List V) (A AL:Option Addr) (c cl:Nat) (w:World) (hA:ColsAt w A C) (hF:fitC C) (hV:ValsAt w AL L) (hFV:fitV L) (hC:C.length≤1000000) (hL:L.length≤1000000) (a:Addr) (mx:Int) (hv:Env w a mx) :
  Calls Tryz.prog 15 #[.slice A C.length c,.slice AL L.length cl] w fun e w'=>e=.returned (.bool (Ev.rowB C L))∧Below w.heap.size w w':=by
 have HCO:=hid (columns_any C A c w hA hF hC a mx hv)
 have HA:=hid hA
 have HV:=hid hV
 have HF:=hid hF
 have HFV:=hid hFV
 have hm9:(C.length:Int)≤1000000:=by omega
 have hl9:(L.length:Int)≤1000000:=by omega
 obtain ⟨m,hm⟩:∃ m,C.length=m:=⟨_,rfl⟩
 obtain ⟨q,hq⟩:∃ q,L.length=q:=⟨_,rfl⟩
 have HM:=hid hm
 have HQ:=hid hq
 rw [hm] at HCO hm9 ⊢
 rw [hq] at hl9 ⊢
 clear hA hF hV hFV hC hL hv hm hq
 go_enter Tryz.func15,Tryz.ntmps15
 go_wp2_with fail
 refine HCO.out.mono ?_
 rintro e W1 ⟨rfl,hb1⟩
 have B1:=hid hb1
 clear hb1 HCO
 cases hg:Kd.goodB C
 ·have HR:Hid (Ev.rowB C L=false):=hid (by rw [Ev.rowB,hg]; rfl)
  clear hg
  go_wp2_with fail
  go_ret
  exact ⟨retB2 HR.out.symm,B1.out⟩
 have HR:Hid (Ev.rowB C L=(L.all (fun v=>plainB v.k v.n (tx v.s)) && Ev.areB L (C.map (·.2)))):=hid (by rw [Ev.rowB,hg]; rfl)
 clear hg
 go_wp2_with fail
 go_loopg [5,7,15] (m + 1) (fun j s5 s7 s15 wr=>∃ i:Nat,i≤m∧m < i + j∧s15=.int .i64 (i:Nat)∧Hid (RowI wr W1.heap.size s5 ((C.take i).map (·.2)))∧Hid (Below W1.heap.size W1 wr))
 case atStart=>exact ⟨0,by omega,by omega,rfl,hid (RowI.nil _ _),hid (Below.refl _ _)⟩
 case round=>
  obtain ⟨i,hi,hj,rfl,HRow,HB⟩:=hrel
  by_cases hlt:i < m
  ·have hlt':(i:Int) < (m:Int):=by omega
   have hik:i < C.length:=by rw [HM.out]; exact hlt
   obtain ⟨b,o,rfl,hx,c0,c1⟩:=(HA.out.below (bstep B1.out HB.out)) i hik
   obtain ⟨nm,hnm⟩:∃ nm,C[i].1=nm:=⟨_,rfl⟩
   obtain ⟨kk,hkk⟩:∃ kk,C[i].2=kk:=⟨_,rfl⟩
   have HTK:Hid ((C.take (i + 1)).map (·.2)=(C.take i).map (·.2) ++ [kk]):=hid (by rw [take_kinds C i hik,hkk])
   have HLT:Hid (((C.take i).map (·.2)).length≤1000000):=hid (by rw [List.length_map,List.length_take]; omega)
   rw [hnm] at c0
   rw [hkk] at c1
   clear hnm hkk hik
   have hbk:=(Below.refl wr.heap.size wr).alloc (Nat.le_refl _) (.cells #[.string (tx nm),.int .i64 kk] 45)
   have q1:=Whole.new wr 45 #[.string (tx nm),.int .i64 kk]
   have e0:=q1.cell 0
   have e1:=q1.cell 1
   simp only [List.getElem?_toArray,List.getElem?_cons_zero,List.getElem?_cons_succ] at e0 e1
   obtain ⟨W2,hW2⟩:∃ W2,wr.alloc (.cells #[.string (tx nm),.int .i64 kk] 45)=W2:=⟨_,rfl⟩
   rw [hW2] at hbk q1 e0 e1
   have hlt2:wr.heap.size < W2.heap.size:=q1.lt
   have R2:=HRow.out.below hbk
   have B2:=hid (bstep HB.out hbk)
   obtain ⟨v5,w5,hrun,r5,T5,o5⟩:=append_int R2 kk HLT.out B2.out.size
   have HR5:Hid (RowI w5 W1.heap.size v5 ((C.take (i + 1)).map (·.2))):=hid (by rw [HTK.out]; exact r5)
   have B5:Hid (Below W1.heap.size W1 w5):=hid (T5.fresh B2.out (fun k hk=>(R2.block k (by simpa using hk)).1))
   have HRUN:=hid hrun
   clear hrun r5 T5 o5 HTK HRow hbk q1 R2
   go_wp2_with (at_builtin; refine Lib.wpList_append_run _ rfl (.tmp 19) (.tmp 22) 65 65 rfl _ _ rfl rfl _ _ HRUN.out ?_)
   go_roundg (m - i)
   case measure=>omega
   case rel=>exact ⟨i + 1,by omega,by omega,by go_num,HR5,B5⟩
  ·have hlt':¬ (i:Int) < (m:Int):=by omega
   have hin:C.take i=C:=List.take_of_length_le (by have:=HM.out; omega)
   have hrow:=HRow.out
   rw [hin] at hrow
   obtain ⟨A6,c6,rfl,-,-,hI6⟩:=hrow.shape
   have HI6:=hid hI6
   have HML:Hid ((C.map (·.2)).length=m):=hid (by rw [List.length_map,HM.out])
   have BW:=hid (bstep B1.out HB.out)
   obtain ⟨W3,hW3⟩:∃ W3,W3=wr:=⟨_,rfl⟩
   subst hW3
   rw [HML.out]
   clear hin hrow HRow hI6 HB HA HF
   go_wp2_with fail
   go_loopg [9,27] (q + 1) (fun j s9 s27 wr=>∃ i:Nat,i≤q∧q < i + j∧s27=.int .i64 (i:Nat)∧Hid (∀ k (h:k < L.length),k < i→plainB L[k].k L[k].n (tx L[k].s)=true)∧Hid (Below W3.heap.size W3 wr))
   case atStart=>exact ⟨0,by omega,by omega,rfl,hid (fun k _ h=>absurd h (Nat.not_lt_zero _)),hid (Below.refl _ _)⟩
   case round=>
    obtain ⟨i2,hi2,hj2,rfl,HE,HB⟩:=hrel
    have BF:=hid (bstep BW.out HB.out)
    by_cases hlt2:i2 < q
    ·have hlt2':(i2:Int) < (q:Int):=by omega
     have hik:i2 < L.length:=by rw [HQ.out]; exact hlt2
     obtain ⟨b,o,rfl,hx,c0,c1,c2⟩:=(HV.out.below BF.out) i2 hik
     have hfv:=HFV.out _ (List.getElem_mem hik)
     obtain ⟨x,hx'⟩:∃ x,L[i2]=x:=⟨_,rfl⟩
     have HX:=hid hx'
     rw [hx'] at c0 c1 c2 hfv
     have HSZ:(tx x.s).size≤9223372036854775807:=by
      have h1:=hfv.1
      simp only [maxLen] at h1
      have h2:(tx x.s).size=x.s.length:=by simp [ByteArray.size,tx]
      omega
     have PL:=hid (fun U=>plain_any x.k x.n (tx x.s) U HSZ)
     obtain ⟨d0,d1,d2⟩:=(Row3.new wr x.k x.n (tx x.s)).holds
     have hbk:=hid ((Below.refl wr.heap.size wr).alloc (Nat.le_refl _) (.cells #[.int .i64 x.k,.int .i64 x.n,.string (tx x.s)] 23))
     clear hx' hfv HSZ
     go_wp2_with fail
     refine (PL.out _).mono ?_
     rintro e w5 ⟨rfl,hb5⟩
     have HB5:=hid (bstep (bstep HB.out hbk.out) hb5)
     have BF5:=hid (bstep BW.out HB5.out)
     clear hb5 c0 c1 c2 d0 d1 d2 PL hbk
     cases hp:plainB x.k x.n (tx x.s)
     ·have HR2:Hid (Ev.rowB C L=false):=hid (by
       rw [HR.out,Bool.and_eq_false_iff]
       refine .inl ?_
       rw [Bool.eq_false_iff]
       intro h
       have:=List.all_eq_true.1 h _ (List.getElem_mem hik)
       rw [HX.out,hp] at this
       cases this)
      clear hp
      go_wp2_with fail
      go_ret
      exact ⟨retB2 HR2.out.symm,BF5.out⟩
     ·have HE2:Hid (∀ k (h:k < L.length),k < i2 + 1→plainB L[k].k L[k].n (tx L[k].s)=true):=hid (fun k h1 h3=>by
       by_cases hki:k=i2
       ·subst hki; rw [HX.out]; exact hp
       ·exact HE.out k h1 (by omega))
      clear HE hp
      go_wp2_with fail
      go_roundg (q - i2)
      case measure=>omega
      case rel=>exact ⟨i2 + 1,by omega,by omega,by go_num,HE2,HB5⟩
    ·have hlt2':¬ (i2:Int) < (q:Int):=by omega
     have HALL:Hid (L.all (fun v=>plainB v.k v.n (tx v.s))=true):=hid (List.all_eq_true.2 (fun v hv=>by
      obtain ⟨k,hk,rfl⟩:=List.getElem_of_mem hv
      exact HE.out k hk (by have:=HQ.out; omega)))
     have HR2:Hid (Ev.rowB C L=Ev.areB L (C.map (·.2))):=hid (by rw [HR.out,HALL.out]; rfl)
     have AR:=hid (are_any L (C.map (·.2)) AL A6 cl c6 wr (HV.out.below BF.out) (HI6.out.below HB.out) (by have:=HQ.out; omega))
     rw [HQ.out,HML.out] at AR
     clear HE HALL HR
     go_wp2_with fail
     refine AR.out.mono ?_
     rintro e w5 ⟨rfl,hb5⟩
     have BF5:=hid (bstep BF.out hb5)
     clear hb5
     go_wp2_with fail
     go_ret
     exact ⟨retB2 HR2.out.symm,BF5.out⟩
end Go.Proofs.YteghhmomhlnccaaGreatDoor
namespace Go.Proofs.YteghhmomhlnccaaGreatDoor
attribute [local go_sem ↓] eqVal neqVal
open Ex (Tree)
open Ev (V R Pl)
def Ev.evalR (C:List Col) (L:List V) (T:Tree):R:=if Ex.rightB nodeB T=true∧Ev.rowB C L=true then Ev.ev C L T else Ev.err 1
theorem eval_any (C:List Col) (L:List V) (A AL:Option Addr) (c cl:Nat) (T:Tree) (v:Value) (w:World) (hA:ColsAt w A C) (hF:fitC C) (hV:ValsAt w AL L) (hFV:fitV L) (hC:C.length≤1000000) (hL:L.length≤1000000) (a:Addr) (mx:Int) (hv:Env w a mx)
  (h:NodeV w v T) (hfT:fitT T) (hM:Ex.count T≤1000000) (hG:Ex.ones rngN T=true) :
  Calls Tryz.prog 12 #[v,.slice A C.length c,.slice AL L.length cl] w fun e w'=>e=.returned (outR (Ev.evalR C L T))∧Below w.heap.size w w':=by
 cases T with
 | node op t vk vn vs ks=>
 have hnv:=h
 obtain ⟨B,n,rfl,hcc,hk⟩:=h
 have b0:=(Below.refl w.heap.size w).alloc (Nat.le_refl _) (.cells (ncells op t vk vn vs B ks.length n) 26)
 have b1:=b0.alloc (by simp) (.cells #[.int .i64 0,.int .i64 0,.string ⟨#[]⟩] 23)
 have k0:=(Whole.new w 26 (ncells op t vk vn vs B ks.length n)).alloc (.cells #[.int .i64 0,.int .i64 0,.string ⟨#[]⟩] 23)
 have r0:=Row3.new (w.alloc (.cells (ncells op t vk vn vs B ks.length n) 26)) 0 0 ⟨#[]⟩
 rw [World.size_alloc] at r0
 obtain ⟨W1,hW1⟩:∃ W1,(w.alloc (.cells (ncells op t vk vn vs B ks.length n) 26)).alloc (.cells #[.int .i64 0,.int .i64 0,.string ⟨#[]⟩] 23)=W1:=⟨_,rfl⟩
 rw [hW1] at b1 k0 r0
 have hd:Ex.depth (.node op t vk vn vs ks)≤1000000:=Nat.le_trans (depth_count _) hM
 have RT:=hid (callsIn_wide.1 (right_in _ _ W1 (hnv.below b1) hfT hd a mx (hv.below b1)))
 have RO:=hid (fun U (hU:Below w.heap.size w U)=>row_any2 C L A AL c cl U (hA.below hU) hF (hV.below hU) hFV hC hL a mx (hv.below hU))
 have CM:Hid (Ex.rightB nodeB (.node op t vk vn vs ks)=true→Ev.rowB C L=true→∀ U,Below w.heap.size w U→Calls Tryz.prog 27 #[ovV C A c L AL cl,.agg (ncells op t vk vn vs B ks.length n)] U fun e w'=>e=.returned (outR (Ev.ev C L (.node op t vk vn vs ks)))∧Below U.heap.size U w'):=hid (fun hr hrow U hU=>by
  obtain ⟨-,hl,hp,-⟩:=Ev.rowB_is hrow hFV
  have ho:Ex.ones nodeB (.node op t vk vn vs ks)=true:=by
   rw [Ex.rightB,Bool.and_eq_true,Bool.and_eq_true] at hr
   exact hr.2.2
  exact comesTo_all hp hA hV hC hl a mx hv _ _ (Nat.le_refl _) ho hG _ U hU (hnv.below hU))
 have B1:=hid b1
 have K0:=hid k0
 have R0:=hid r0
 obtain ⟨c0,c1,c2,c3,c4,c5⟩:=six_of k0
 clear hA hF hV hFV hC hL hv hfT hM hG hd hnv hk hcc b0 b1 k0 r0
 unfold ovV ncells at *
 generalize C.length=cn at *
 generalize L.length=ln at *
 generalize ks.length=kn at *
 cases hr:Ex.rightB nodeB (.node op t vk vn vs ks)
 case false=>
  have HR:Hid (Ev.evalR C L (.node op t vk vn vs ks)=Ev.err 1):=hid (by rw [Ev.evalR,if_neg (by rw [hr]; simp)])
  rw [hr] at RT
  clear hr CM
  go_enter Tryz.func12,Tryz.ntmps12
  go_wp2_with fail
  refine RT.out.mono ?_
  rintro e W2 ⟨rfl,hb2⟩
  have R2:=hid (R0.out.below hb2 R0.out.lt)
  have B2:=hid (bstep B1.out hb2)
  clear hb2 c0 c1 c2 c3 c4 c5
  go_wp2_with fail
  refine (null_any _).mono ?_
  rintro e W3 ⟨rfl,hb3⟩
  have R3:=hid (R2.out.below hb3 R2.out.lt)
  have B3:=hid (bstep B2.out hb3)
  clear hb3
  obtain ⟨d0,d1,d2⟩:=R3.out.holds
  have f0:=R3.out.frozen 0
  have f1:=R3.out.frozen 1
  have f2:=R3.out.frozen 2
  go_wp2_with fail
  exact fin_R Tryz.results12 rfl rfl rfl R3.out B3.out (by omega) (by rw [HR.out]; rfl)
 case true=>
  rw [hr] at RT
  cases hrow:Ev.rowB C L
  case false=>
   have HR:Hid (Ev.evalR C L (.node op t vk vn vs ks)=Ev.err 1):=hid (by rw [Ev.evalR,if_neg (by rw [hrow]; simp)])
   rw [hrow] at RO
   clear hr hrow CM
   go_enter Tryz.func12,Tryz.ntmps12
   go_wp2_with fail
   refine RT.out.mono ?_
   rintro e W2 ⟨rfl,hb2⟩
   have R2:=hid (R0.out.below hb2 R0.out.lt)
   have B2:=hid (bstep B1.out hb2)
   clear hb2 c0 c1 c2 c3 c4 c5
   go_wp2_with fail
   refine (RO.out _ B2.out).mono ?_
   rintro e W4 ⟨rfl,hb4⟩
   have R4:=hid (R2.out.below hb4 R2.out.lt)
   have B4:=hid (bstep B2.out hb4)
   clear hb4
   go_wp2_with fail
   refine (null_any _).mono ?_
   rintro e W3 ⟨rfl,hb3⟩
   have R3:=hid (R4.out.below hb3 R4.out.lt)
   have B3:=hid (bstep B4.out hb3)
   clear hb3
   obtain ⟨d0,d1,d2⟩:=R3.out.holds
   have f0:=R3.out.frozen 0
   have f1:=R3.out.frozen 1
   have f2:=R3.out.frozen 2
   go_wp2_with fail
   exact fin_R Tryz.results12 rfl rfl rfl R3.out B3.out (by omega) (by rw [HR.out]; rfl)
  case true=>
   have HR:Hid (Ev.evalR C L (.node op t vk vn vs ks)=Ev.ev C L (.node op t vk vn vs ks)):=hid (by rw [Ev.evalR,if_pos ⟨hr,hrow⟩])
   have CM2:=hid (CM.out hr hrow)
   rw [hrow] at RO
   obtain ⟨RES,hres⟩:∃ RES,Ev.ev C L (.node op t vk vn vs ks)=RES:=⟨_,rfl⟩
   rw [hres] at CM2 HR
   obtain ⟨⟨rk,rn,rs⟩,re_⟩:=RES
   unfold outR vv vcells at CM2
   dsimp only at CM2
   clear hr hrow CM hres
   go_enter Tryz.func12,Tryz.ntmps12
   go_wp2_with fail
   refine RT.out.mono ?_
   rintro e W2 ⟨rfl,hb2⟩
   have R2:=hid (R0.out.below hb2 R0.out.lt)
   have K2:=hid (K0.out.below hb2 K0.out.lt)
   have B2:=hid (bstep B1.out hb2)
   clear hb2 c0 c1 c2 c3 c4 c5
   go_wp2_with fail
   refine (RO.out _ B2.out).mono ?_
   rintro e W4 ⟨rfl,hb4⟩
   have R4:=hid (R2.out.below hb4 R2.out.lt)
   have k4:=K2.out.below hb4 K2.out.lt
   have B4:=hid (bstep B2.out hb4)
   obtain ⟨c0,c1,c2,c3,c4,c5⟩:=six_of k4
   clear hb4 k4
   go_wp2_with fail
   refine (CM2.out _ B4.out).mono ?_
   rintro e W3 ⟨rfl,hb3⟩
   have R3:=hid (R4.out.below hb3 R4.out.lt)
   have B3:=hid (bstep B4.out hb3)
   clear hb3 c0 c1 c2 c3 c4 c5
   obtain ⟨d0,d1,d2⟩:=R3.out.holds
   have f0:=R3.out.frozen 0
   have f1:=R3.out.frozen 1
   have f2:=R3.out.frozen 2
   go_wp2_with fail
   exact fin_R Tryz.results12 rfl rfl rfl R3.out B3.out (by omega) (by rw [HR.out])
end Go.Proofs.YteghhmomhlnccaaGreatDoor
namespace Go.Proofs.YteghhmomhlnccaaGreatDoor
open Go.Lib
open Ex (Tree)
namespace Ev
abbrev opT (t:List UInt8) (x y:Tree):Tree:=.node 5 t 0 0 [] [x,y]
theorem awIf_parse:Ps.parse [105,102,40,116,114,117,101,44,32,49,44,32,49,32,47,32,48,41]=.ok (.node 6 [105,102] 0 0 [] [.node 1 [] 3 1 [] [],.node 1 [] 1 1 [] [],opT [47] (.node 1 [] 1 1 [] []) (.node 1 [] 1 0 [] [])]) 10:=by kernel_rfl
theorem awNvl_parse:Ps.parse [110,118,108,40,49,32,47,32,48,44,32,49,41]=.ok (.node 6 [110,118,108] 0 0 [] [opT [47] (.node 1 [] 1 1 [] []) (.node 1 [] 1 0 [] []),.node 1 [] 1 1 [] []]) 8:=by kernel_rfl
end Ev
end Go.Proofs.YteghhmomhlnccaaGreatDoor
