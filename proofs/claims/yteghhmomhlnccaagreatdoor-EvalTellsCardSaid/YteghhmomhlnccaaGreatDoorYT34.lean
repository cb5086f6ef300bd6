import Derived.Test.YteghhmomhlnccaaGreatDoorYT1
import Derived.Test.YteghhmomhlnccaaGreatDoorYT30
import Derived.Test.YteghhmomhlnccaaGreatDoorYT33
set_option linter.unusedVariables false
set_option linter.unusedSimpArgs false
set_option maxRecDepth 100000
set_option maxHeartbeats 100000000
open Go.RowKit Go.Lib
namespace Go.Proofs.YteghhmomhlnccaaGreatDoor
attribute [local go_sem ↓] eqVal neqVal
open Ex (Tree)
open Ev (V R Pl)
def Ev.rowAt (C:List Col) (L:List V) (i:Nat):Prop:=∃ (h:i < L.length) (h2:i < C.length),plainB L[i].k L[i].n (tx L[i].s)=true∧(L[i].k=C[i].2∨L[i].k=0)
theorem Ev.row_all {C:List Col} {L:List V} (hg:Kd.goodB C=true) (hl:L.length=C.length) (h:∀ i,i < L.length→Ev.rowAt C L i):Ev.rowB C L=true:=by
 rw [Ev.rowB,hg,Bool.true_and,Bool.and_eq_true]
 refine ⟨List.all_eq_true.2 (fun v hv=>?_),(Ev.areB_iff L _).2 ⟨by simpa using hl,fun i hi hi2=>?_⟩⟩
 ·obtain ⟨k,hk,rfl⟩:=List.getElem_of_mem hv
  obtain ⟨_,_,h1,-⟩:=h k hk
  exact h1
 ·obtain ⟨_,_,-,h1⟩:=h i hi
  rw [List.getElem_map]; exact h1
theorem Ev.row_no {C:List Col} {L:List V} (i:Nat) (hi:i < L.length) (h:¬ Ev.rowAt C L i) (hl:L.length=C.length):Ev.rowB C L=false:=by
 rw [Bool.eq_false_iff]
 intro hr
 rw [Ev.rowB,Bool.and_eq_true,Bool.and_eq_true] at hr
 obtain ⟨-,h2,h3⟩:=hr
 refine h ⟨hi,by omega,List.all_eq_true.1 h2 _ (List.getElem_mem hi),?_⟩
 have:=((Ev.areB_iff L _).1 h3).2 i hi (by simpa using (by omega:i < C.length))
 rwa [List.getElem_map] at this
theorem rrow_any (C:List Col) (L:List V) (A AL:Option Addr) (c cl:Nat) (w:World) (hA:ColsAt w A C) (hF:shortC C) (hV:ValsAt w AL L) (hFV:fitV L) (hC:C.length≤1000000) (hL:L.length≤1000000) :
  Calls Tryz.prog 14 #[.slice A C.length c,.slice AL L.length cl] w fun e w'=>e=.returned (.bool (Ev.rowB C L))∧Below w.heap.size w w':=by
 have HCO:=hid (refColumns_any C A c w hA hF hC)
 have HA:=hid hA
 have HV:=hid hV
 have HFV:=hid hFV
 have hm9:(C.length:Int)≤1000000:=by omega
 have hl9:(L.length:Int)≤1000000:=by omega
 obtain ⟨m,hm⟩:∃ m,C.length=m:=⟨_,rfl⟩
 obtain ⟨q,hq⟩:∃ q,L.length=q:=⟨_,rfl⟩
 have HM:=hid hm
 have HQ:=hid hq
 rw [hm] at HCO hm9 ⊢
 rw [hq] at hl9 ⊢
 clear hA hF hV hFV hC hL hm hq
 go_enter Tryz.func14,Tryz.ntmps14
 go_wp2_with fail
 refine HCO.out.mono ?_
 rintro e W1 ⟨rfl,hb1⟩
 have B1:=hid hb1
 clear hb1 HCO
 cases hg:Kd.goodB C
 ·have HR:Hid (Ev.rowB C L=false):=hid (by rw [Ev.rowB,hg]; rfl)
  clear hg
  go_wp2_with fail
  go_ret
  exact ⟨retB2 HR.out.symm,B1.out⟩
 by_cases hqm:q=m
 case neg=>
  have hn:((q:Int) != (m:Int))=true:=by simp; omega
  have HR:Hid (Ev.rowB C L=false):=hid (by
   rw [Ev.rowB,Ev.areB_len (by rw [List.length_map,HM.out,HQ.out]; exact hqm),Bool.and_false,Bool.and_false])
  clear hg hqm
  go_wp2_with fail
  go_ret
  exact ⟨retB2 HR.out.symm,B1.out⟩
 subst hqm
 have HG:=hid hg
 have HLC:Hid (L.length=C.length):=hid (by rw [HM.out,HQ.out])
 have hn:((q:Int) != (q:Int))=false:=by simp
 clear hg
 go_wp2_with fail
 go_loopg [5] (q + 1) (fun j s5 wr=>∃ i:Nat,i≤q∧q < i + j∧s5=.int .i64 (i:Nat)∧Hid (∀ k,k < i→Ev.rowAt C L k)∧Hid (Below W1.heap.size W1 wr))
 case atStart=>exact ⟨0,by omega,by omega,rfl,hid (fun k h=>absurd h (Nat.not_lt_zero _)),hid (Below.refl _ _)⟩
 case round=>
  obtain ⟨i,hi,hj,rfl,HE,HB⟩:=hrel
  have BF:=hid (bstep B1.out HB.out)
  by_cases hlt:i < q
  ·have hlt':(i:Int) < (q:Int):=by omega
   have hik:i < L.length:=by rw [HQ.out]; exact hlt
   have hic:i < C.length:=by rw [HM.out]; exact hlt
   have hvx:=HV.out.below BF.out
   have hax:=HA.out.below BF.out
   obtain ⟨b,o,rfl,hx,c0,c1,c2⟩:=hvx i hik
   obtain ⟨b2,o2,rfl,hx2,-,e1⟩:=hax i hic
   have hfv:=HFV.out _ (List.getElem_mem hik)
   obtain ⟨x,hx'⟩:∃ x,L[i]=x:=⟨_,rfl⟩
   obtain ⟨kk,hkk⟩:∃ x,C[i].2=x:=⟨_,rfl⟩
   have HRA:Hid (Ev.rowAt C L i ↔ plainB x.k x.n (tx x.s)=true∧(x.k=kk∨x.k=0)):=hid (by
    subst hx' hkk
    exact ⟨fun ⟨_,_,h⟩=>h,fun h=>⟨hik,hic,h⟩⟩)
   rw [hx'] at c0 c1 c2 hfv
   rw [hkk] at e1
   have HSZ:(tx x.s).size≤9223372036854775807:=by
    have h1:=hfv.1
    simp only [maxLen] at h1
    have h2:(tx x.s).size=x.s.length:=by simp [ByteArray.size,tx]
    omega
   have HIL:=hid hik
   have PL:=hid (fun U=>refplain_any x.k x.n (tx x.s) U)
   have KK:Hid (∀ U,Below wr.heap.size wr U→(U.cell? ⟨b,o + i * 3,none⟩=some (.int .i64 x.k)∧U.cell? ⟨b,o + i * 3 + 1,none⟩=some (.int .i64 x.n)∧U.cell? ⟨b,o + i * 3 + 2,none⟩=some (.string (tx x.s)))∧U.cell? ⟨b2,o2 + i * 2 + 1,none⟩=some (.int .i64 kk)):=hid (fun U hU=>⟨⟨(hU.cell (p:=⟨b,o + i * 3,none⟩) hx).trans c0,(hU.cell (p:=⟨b,o + i * 3 + 1,none⟩) hx).trans c1,(hU.cell (p:=⟨b,o + i * 3 + 2,none⟩) hx).trans c2⟩,(hU.cell (p:=⟨b2,o2 + i * 2 + 1,none⟩) hx2).trans e1⟩)
   obtain ⟨p,hp⟩:∃ p,plainB x.k x.n (tx x.s)=p:=⟨_,rfl⟩
   rw [hp] at PL HRA
   obtain ⟨xk,xn,xs⟩:=x
   dsimp only at *
   clear hvx hax hfv hx' hkk HSZ hik hic hp c0 c1 c2 e1
   go_upto_region 6 with fail
   go_cut [48] from 22 to 48 (fun s48 wc=>s48=.bool (!p || (xk != 0 && xk != kk))∧Hid (Below wr.heap.size wr wc))
   case first=>
    have QD:Hid (Below wr.heap.size wr wr.drew):=hid (Below.refl _ _).drew
    cases p
    ·
     refine wp_region_held_drew (S:=fun U=>Below wr.heap.size wr U) (by kernel_rfl) QD.out (fun _=>?_)
     refine qTk 0 (v:=?_) QD.out ?_ ?_
     rotate_left
     ·(intro W hw; go_simp; try with_reducible rfl)
     refine qTk 1 (v:=?_) QD.out ?_ ?_
     rotate_left
     ·(intro W hw; go_simp; try with_reducible rfl)
     refine qTk 2 (v:=?_) QD.out ?_ ?_
     rotate_left
     ·(intro W hw; go_simp; try with_reducible rfl)
     refine qTk 3 (v:=?_) QD.out ?_ ?_
     rotate_left
     ·(intro W hw; obtain ⟨⟨x0,x1,x2⟩,y1⟩:=KK.out W hw; go_simp; try with_reducible rfl)
     refine qTr1 4 (fun K hK=>?_)
     go_simp
     refine (PL.out _).mono ?_
     rintro e V1 ⟨rfl,hv1⟩
     have QV1:=hid (bstep QD.out hv1)
     refine hK.out _ _ QV1.out (fun _=>?_)
     clear hK K
     refine qTk 5 (v:=?_) QV1.out ?_ ?_
     rotate_left
     ·(intro W hw; go_simp; try with_reducible rfl)
     refine qTk 6 (v:=?_) QV1.out ?_ ?_
     rotate_left
     ·(intro W hw; go_simp; try with_reducible rfl)
     refine qTs 7 QV1.out ?_
     refine qTs 8 QV1.out ?_
     refine qTs 9 QV1.out ?_
     refine qTs 10 QV1.out ?_
     refine qTs 11 QV1.out ?_
     refine qTs 12 QV1.out ?_
     refine qTs 13 QV1.out ?_
     refine qTs 14 QV1.out ?_
     refine qTs 15 QV1.out ?_
     refine qTs 16 QV1.out ?_
     refine qTs 17 QV1.out ?_
     refine qTs 18 QV1.out ?_
     refine qTs 19 QV1.out ?_
     refine qTs 20 QV1.out ?_
     refine qTs 21 QV1.out ?_
     refine qTs 22 QV1.out ?_
     refine qTs 23 QV1.out ?_
     refine qTs 24 QV1.out ?_
     refine qTs 25 QV1.out ?_
     refine qTk 26 (v:=?_) QV1.out ?_ ?_
     rotate_left
     ·(intro W hw; go_simp; try with_reducible rfl)
     refine wpAnyH_done (by kernel_rfl) ?_ _
     try simp only  [Act.put,List.setIfInBounds_toArray,List.set_cons_zero,List.set_cons_succ]
     go_wp2_with fail
     go_meet
     case rel=>exact ⟨by first | rfl | (rw [h0']; rfl),QV1⟩
    ·by_cases h0:xk=0
     ·subst h0
      refine wp_region_held_drew (S:=fun U=>Below wr.heap.size wr U) (by kernel_rfl) QD.out (fun _=>?_)
      refine qTk 0 (v:=?_) QD.out ?_ ?_
      rotate_left
      ·(intro W hw; go_simp; try with_reducible rfl)
      refine qTk 1 (v:=?_) QD.out ?_ ?_
      rotate_left
      ·(intro W hw; go_simp; try with_reducible rfl)
      refine qTk 2 (v:=?_) QD.out ?_ ?_
      rotate_left
      ·(intro W hw; go_simp; try with_reducible rfl)
      refine qTk 3 (v:=?_) QD.out ?_ ?_
      rotate_left
      ·(intro W hw; obtain ⟨⟨x0,x1,x2⟩,y1⟩:=KK.out W hw; go_simp; try with_reducible rfl)
      refine qTr1 4 (fun K hK=>?_)
      go_simp
      refine (PL.out _).mono ?_
      rintro e V1 ⟨rfl,hv1⟩
      have QV1:=hid (bstep QD.out hv1)
      refine hK.out _ _ QV1.out (fun _=>?_)
      clear hK K
      refine qTk 5 (v:=?_) QV1.out ?_ ?_
      rotate_left
      ·(intro W hw; go_simp; try with_reducible rfl)
      refine qTk 6 (v:=?_) QV1.out ?_ ?_
      rotate_left
      ·(intro W hw; go_simp; try with_reducible rfl)
      refine qTk 7 (v:=?_) QV1.out ?_ ?_
      rotate_left
      ·(intro W hw; go_simp; try with_reducible rfl)
      refine qTk 8 (v:=?_) QV1.out ?_ ?_
      rotate_left
      ·(intro W hw; go_simp; try with_reducible rfl)
      refine qTk 9 (v:=?_) QV1.out ?_ ?_
      rotate_left
      ·(intro W hw; go_simp; try with_reducible rfl)
      refine qTk 10 (v:=?_) QV1.out ?_ ?_
      rotate_left
      ·(intro W hw; go_simp; try with_reducible rfl)
      refine qTk 11 (v:=?_) QV1.out ?_ ?_
      rotate_left
      ·(intro W hw; obtain ⟨⟨x0,x1,x2⟩,y1⟩:=KK.out W hw; go_simp; try with_reducible rfl)
      refine qTk 12 (v:=?_) QV1.out ?_ ?_
      rotate_left
      ·(intro W hw; go_simp; try with_reducible rfl)
      refine qTk 13 (v:=?_) QV1.out ?_ ?_
      rotate_left
      ·(intro W hw; go_simp; try with_reducible rfl)
      refine qTs 14 QV1.out ?_
      refine qTs 15 QV1.out ?_
      refine qTs 16 QV1.out ?_
      refine qTs 17 QV1.out ?_
      refine qTs 18 QV1.out ?_
      refine qTs 19 QV1.out ?_
      refine qTs 20 QV1.out ?_
      refine qTs 21 QV1.out ?_
      refine qTs 22 QV1.out ?_
      refine qTs 23 QV1.out ?_
      refine qTs 24 QV1.out ?_
      refine qTk 25 (v:=?_) QV1.out ?_ ?_
      rotate_left
      ·(intro W hw; go_simp; try with_reducible rfl)
      refine qTk 26 (v:=?_) QV1.out ?_ ?_
      rotate_left
      ·(intro W hw; go_simp; try with_reducible rfl)
      refine wpAnyH_done (by kernel_rfl) ?_ _
      try simp only  [Act.put,List.setIfInBounds_toArray,List.set_cons_zero,List.set_cons_succ]
      go_wp2_with fail
      go_meet
      case rel=>exact ⟨by first | rfl | (rw [h0']; rfl),QV1⟩
     ·
      have h0':(xk != 0)=true:=by simpa using h0
      clear h0
      refine wp_region_held_drew (S:=fun U=>Below wr.heap.size wr U) (by kernel_rfl) QD.out (fun _=>?_)
      refine qTk 0 (v:=?_) QD.out ?_ ?_
      rotate_left
      ·(intro W hw; go_simp; try with_reducible rfl)
      refine qTk 1 (v:=?_) QD.out ?_ ?_
      rotate_left
      ·(intro W hw; go_simp; try with_reducible rfl)
      refine qTk 2 (v:=?_) QD.out ?_ ?_
      rotate_left
      ·(intro W hw; go_simp; try with_reducible rfl)
      refine qTk 3 (v:=?_) QD.out ?_ ?_
      rotate_left
      ·(intro W hw; obtain ⟨⟨x0,x1,x2⟩,y1⟩:=KK.out W hw; go_simp; try with_reducible rfl)
      refine qTr1 4 (fun K hK=>?_)
      go_simp
      refine (PL.out _).mono ?_
      rintro e V1 ⟨rfl,hv1⟩
      have QV1:=hid (bstep QD.out hv1)
      refine hK.out _ _ QV1.out (fun _=>?_)
      clear hK K
      refine qTk 5 (v:=?_) QV1.out ?_ ?_
      rotate_left
      ·(intro W hw; go_simp; try with_reducible rfl)
      refine qTk 6 (v:=?_) QV1.out ?_ ?_
      rotate_left
      ·(intro W hw; go_simp; try with_reducible rfl)
      refine qTk 7 (v:=?_) QV1.out ?_ ?_
      rotate_left
      ·(intro W hw; go_simp; try with_reducible rfl)
      refine qTk 8 (v:=?_) QV1.out ?_ ?_
      rotate_left
      ·(intro W hw; go_simp; try with_reducible rfl)
      refine qTk 9 (v:=?_) QV1.out ?_ ?_
      rotate_left
      ·(intro W hw; go_simp; try with_reducible rfl)
      refine qTk 10 (v:=?_) QV1.out ?_ ?_
      rotate_left
      ·(intro W hw; go_simp; try with_reducible rfl)
      refine qTk 11 (v:=?_) QV1.out ?_ ?_
      rotate_left
      ·(intro W hw; obtain ⟨⟨x0,x1,x2⟩,y1⟩:=KK.out W hw; go_simp; try with_reducible rfl)
      refine qTk 12 (v:=?_) QV1.out ?_ ?_
      rotate_left
      ·(intro W hw; go_simp; try with_reducible rfl)
      refine qTk 13 (v:=?_) QV1.out ?_ ?_
      rotate_left
      ·(intro W hw; go_simp; try with_reducible rfl)
      refine qTk 14 (v:=?_) QV1.out ?_ ?_
      rotate_left
      ·(intro W hw; go_simp; try with_reducible rfl)
      refine qTk 15 (v:=?_) QV1.out ?_ ?_
      rotate_left
      ·(intro W hw; go_simp; try with_reducible rfl)
      refine qTk 16 (v:=?_) QV1.out ?_ ?_
      rotate_left
      ·(intro W hw; go_simp; try with_reducible rfl)
      refine qTk 17 (v:=?_) QV1.out ?_ ?_
      rotate_left
      ·(intro W hw; go_simp; try with_reducible rfl)
      refine qTk 18 (v:=?_) QV1.out ?_ ?_
      rotate_left
      ·(intro W hw; obtain ⟨⟨x0,x1,x2⟩,y1⟩:=KK.out W hw; go_simp; try with_reducible rfl)
      refine qTk 19 (v:=?_) QV1.out ?_ ?_
      rotate_left
      ·(intro W hw; go_simp; try with_reducible rfl)
      refine qTk 20 (v:=?_) QV1.out ?_ ?_
      rotate_left
      ·(intro W hw; go_simp; try with_reducible rfl)
      refine qTk 21 (v:=?_) QV1.out ?_ ?_
      rotate_left
      ·(intro W hw; go_simp; try with_reducible rfl)
      refine qTk 22 (v:=?_) QV1.out ?_ ?_
      rotate_left
      ·(intro W hw; go_simp; try with_reducible rfl)
      refine qTk 23 (v:=?_) QV1.out ?_ ?_
      rotate_left
      ·(intro W hw; obtain ⟨⟨x0,x1,x2⟩,y1⟩:=KK.out W hw; go_simp; try with_reducible rfl)
      refine qTk 24 (v:=?_) QV1.out ?_ ?_
      rotate_left
      ·(intro W hw; go_simp; try with_reducible rfl)
      refine qTk 25 (v:=?_) QV1.out ?_ ?_
      rotate_left
      ·(intro W hw; go_simp; try with_reducible rfl)
      refine qTk 26 (v:=?_) QV1.out ?_ ?_
      rotate_left
      ·(intro W hw; go_simp; try with_reducible rfl)
      refine wpAnyH_done (by kernel_rfl) ?_ _
      try simp only  [Act.put,List.setIfInBounds_toArray,List.set_cons_zero,List.set_cons_succ]
      go_wp2_with fail
      go_meet
      case rel=>exact ⟨by first | rfl | (rw [h0']; rfl),QV1⟩
   case rest=>
    obtain ⟨rfl,HB2⟩:=hcut
    have HB3:=hid (bstep HB.out HB2.out)
    have BF3:=hid (bstep B1.out HB3.out)
    cases hz:(!p || (xk != 0 && xk != kk))
    ·have HRI:Hid (∀ k,k < i + 1→Ev.rowAt C L k):=hid (fun k hk=>by
      by_cases hki:k=i
      ·subst hki
       refine HRA.out.2 ?_
       simp at hz
       exact ⟨hz.1,by have:=hz.2; omega⟩
      ·exact HE.out k (by omega))
     clear hz HE PL KK
     go_wp2_with fail
     go_roundg (q - i)
     case measure=>omega
     case rel=>exact ⟨i + 1,by omega,by omega,by go_num,HRI,HB3⟩
    ·have HR:Hid (Ev.rowB C L=false):=hid (Ev.row_no i HIL.out (fun h=>by
      obtain ⟨h1,h2⟩:=HRA.out.1 h
      subst h1
      simp at hz
      omega) HLC.out)
     clear hz HE PL KK
     go_wp2_with fail
     go_ret
     exact ⟨retB2 HR.out.symm,BF3.out⟩
  ·have hlt':¬ (i:Int) < (q:Int):=by omega
   have HR:Hid (Ev.rowB C L=true):=hid (Ev.row_all HG.out HLC.out (fun k hk=>HE.out k (by have:=HQ.out; omega)))
   go_wp2_with fail
   go_ret
   exact ⟨retB2 HR.out.symm,BF.out⟩
end Go.Proofs.YteghhmomhlnccaaGreatDoor
