import Derived.Test.YteghhmomhlnccaaGreatDoorYT17
import Derived.Test.YteghhmomhlnccaaGreatDoorYT9
set_option linter.unusedVariables false
set_option linter.unusedSimpArgs false
set_option maxRecDepth 100000
set_option maxHeartbeats 100000000
open Go.RowKit Go.Lib
namespace Go.Proofs.YteghhmomhlnccaaGreatDoor
attribute [local go_sem ↓] eqVal neqVal
theorem refColumns_any (C:List Col) (A:Option Addr) (c:Nat) (w:World) (hA:ColsAt w A C) (hF:shortC C) (hC:C.length≤1000000) :
  Calls Tryz.prog 30 #[.slice A C.length c] w fun e w'=>e=.returned (.bool (Kd.goodB C))∧Below w.heap.size w w':=by
 have HA:=hid hA
 have HF:=hid hF
 have hm9:(C.length:Int)≤1000000:=by omega
 have HC:=hid hC
 obtain ⟨m,hm⟩:∃ m,C.length=m:=⟨_,rfl⟩
 have HM:=hid hm
 rw [hm] at hm9 ⊢
 clear hA hm hF hC
 go_enter Tryz.func30,Tryz.ntmps30
 go_wp2_with fail
 go_loopg [3] (m + 1) (fun j s3 wr=>∃ i:Nat,i≤m∧m < i + j∧s3=.int .i64 (i:Nat)∧Hid (∀ k,k < i→Kd.goodAt C k)∧Hid (Below w.heap.size w wr))
 case atStart=>exact ⟨0,by omega,by omega,rfl,hid (fun k h=>absurd h (Nat.not_lt_zero _)),hid (Below.refl _ _)⟩
 case round=>
  obtain ⟨i,hi,hj,rfl,HE,HB⟩:=hrel
  by_cases hlt:i < m
  ·have hlt':(i:Int) < (m:Int):=by omega
   have hik:i < C.length:=by rw [HM.out]; exact hlt
   obtain ⟨b,o,rfl,hx,c0,c1⟩:=(HA.out.below HB.out) i hik
   have hf0:=HF.out C[i] (List.getElem_mem hik)
   obtain ⟨nm,hnm⟩:∃ nm,C[i].1=nm:=⟨_,rfl⟩
   obtain ⟨kk,hkk⟩:∃ kk,C[i].2=kk:=⟨_,rfl⟩
   have HGA:Hid (Kd.goodAt C i ↔ Lx.isName nm=true∧1≤kk∧kk≤3∧Kd.ix C nm=some i):=hid (by
    rw [← hnm,← hkk]
    constructor
    ·rintro ⟨_,h1,h2,h3,h4⟩
     exact ⟨h1,h2,h3,Kd.ix_some hik rfl (fun j hj hji=>h4 j hj hji)⟩
    ·rintro ⟨h1,h2,h3,h4⟩
     obtain ⟨_,_,h5⟩:=Kd.ix_spec h4
     exact ⟨hik,h1,h2,h3,fun j hj hji=>h5 j hj hji⟩)
   have HIK:=hid hik
   rw [hnm] at c0 hf0
   rw [hkk] at c1
   clear hnm hkk hik
   have NM:=hid (refName_any (tx nm) wr (by simp [ByteArray.size,tx]; omega))
   go_wp2_with fail
   refine NM.out.mono ?_
   rintro e W3 ⟨rfl,hb3⟩
   have B3:=hid (HB.out.trans (hb3.mono HB.out.size))
   have d0:W3.cell? ⟨b,o + i * 2,none⟩=some (.string (tx nm)):=(hb3.cell (p:=⟨b,o + i * 2,none⟩) hx).trans c0
   have d1:W3.cell? ⟨b,o + i * 2 + 1,none⟩=some (.int .i64 kk):=(hb3.cell (p:=⟨b,o + i * 2 + 1,none⟩) hx).trans c1
   clear NM hb3 c0 c1
   have HGA':Hid (Kd.goodAt C i ↔ Lx.isName (tx nm).data.toList=true∧1≤kk∧kk≤3∧Kd.ix C nm=some i):=HGA
   generalize Lx.isName (tx nm).data.toList=q at *
   clear HGA
   cases q
   case false=>
    have HR:Hid (Kd.goodB C=false):=hid (Kd.goodB_false HIK.out (fun h=>by cases (HGA'.out.1 h).1))
    go_wp2_with fail
    go_ret
    exact ⟨retB2 HR.out.symm,B3.out⟩
   case true=>
    by_cases h1:kk < 1
    ·have HR:Hid (Kd.goodB C=false):=hid (Kd.goodB_false HIK.out (fun h=>by have:=(HGA'.out.1 h).2.1; omega))
     go_wp2_with fail
     go_ret
     exact ⟨retB2 HR.out.symm,B3.out⟩
    by_cases h3:3 < kk
    ·have HR:Hid (Kd.goodB C=false):=hid (Kd.goodB_false HIK.out (fun h=>by have:=(HGA'.out.1 h).2.2.1; omega))
     go_wp2_with fail
     go_ret
     exact ⟨retB2 HR.out.symm,B3.out⟩
    have FD:=hid (refFind_any C nm (some ⟨b,o,none⟩) c W3 (HA.out.below B3.out) HC.out)
    rw [HM.out] at FD
    by_cases hix:Kd.ix C nm=some i
    ·have HG:Hid (Kd.goodAt C i):=hid (HGA'.out.2 ⟨rfl,by omega,by omega,hix⟩)
     rw [hix] at FD
     have HE4:Hid (∀ k,k < i + 1→Kd.goodAt C k):=hid (fun k hk=>by
      by_cases hki:k=i
      ·rw [hki]; exact HG.out
      ·exact HE.out k (by omega))
     clear HE HG hix HGA'
     unfold Kd.ixV at FD
     go_wp2_with fail
     refine FD.out.mono ?_
     rintro e W4 ⟨rfl,rfl⟩
     go_wp2_with fail
     go_roundg (m - i)
     case measure=>omega
     case rel=>exact ⟨i + 1,by omega,by omega,by go_num,HE4,B3⟩
    ·have HR:Hid (Kd.goodB C=false):=hid (Kd.goodB_false HIK.out (fun h=>hix (HGA'.out.1 h).2.2.2))
     have hne:Kd.ixV (Kd.ix C nm) ≠ (i:Int):=by
      cases hx2:Kd.ix C nm with
      | none=>show (-1:Int) ≠ i; omega
      | some k=>
       rw [hx2] at hix
       show (k:Int) ≠ i
       intro e
       exact hix (by rw [show k=i by omega])
     generalize Kd.ixV (Kd.ix C nm)=z at *
     have hne':(z != (i:Int))=true:=by simpa using hne
     clear hix HGA' HE hne
     go_wp2_with fail
     refine FD.out.mono ?_
     rintro e W4 ⟨rfl,rfl⟩
     go_wp2_with fail
     go_ret
     exact ⟨retB2 HR.out.symm,B3.out⟩
  ·have hlt':¬ (i:Int) < (m:Int):=by omega
   have HR:Hid (Kd.goodB C=true):=hid (Kd.goodB_true (fun k hk=>HE.out k (by have:=HM.out; omega)))
   go_wp2_with fail
   go_ret
   exact ⟨retB2 HR.out.symm,HB.out⟩
end Go.Proofs.YteghhmomhlnccaaGreatDoor
