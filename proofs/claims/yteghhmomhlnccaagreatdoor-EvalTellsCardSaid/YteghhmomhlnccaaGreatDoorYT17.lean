import Derived.Test.YteghhmomhlnccaaGreatDoorYT11
import Derived.Test.YteghhmomhlnccaaGreatDoorYT16
import Derived.Test.YteghhmomhlnccaaGreatDoorYT10
import Derived.Test.YteghhmomhlnccaaGreatDoorYT15
set_option linter.unusedVariables false
set_option linter.unusedSimpArgs false
set_option maxRecDepth 100000
set_option maxHeartbeats 100000000
open Go.RowKit Go.Lib
namespace Go.Proofs.YteghhmomhlnccaaGreatDoor
attribute [local go_sem ↓] eqVal neqVal
theorem indexFunc_any (C:List Col) (n:List UInt8) (A:Option Addr) (c g:Nat) (w:World) (hA:ColsAt w A C) (hg:w.cell? ⟨g,0,none⟩=some (.string (tx n))) (hC:C.length≤1000000) :
  Calls Tryz.prog 111 #[.slice A C.length c,.func (.func 112) #[] #[.pointer (some ⟨g,0,none⟩)]] w fun e w'=>e=.returned (.int .i64 (Kd.ixV (Kd.ix C n)))∧Below w.heap.size w w':=by
 have HA:=hid hA
 have HG:=hid hg
 have HGL:=hid (World.block_lt_of_cell? w _ hg)
 have hm9:(C.length:Int)≤1000000:=by omega
 obtain ⟨m,hm⟩:∃ m,C.length=m:=⟨_,rfl⟩
 have HM:=hid hm
 rw [hm] at hm9 ⊢
 clear hA hg hC hm
 go_enter Tryz.func111,Tryz.ntmps111
 go_wp2_with fail
 go_loopg [5,8] (m + 1) (fun j s5 s8 wr=>∃ i:Nat,i≤m∧m < i + j∧s8=.int .i64 (i:Nat)∧Hid (∀ k (h1:k < C.length),k < i→C[k].1 ≠ n)∧Hid (Below w.heap.size w wr))
 case atStart=>exact ⟨0,by omega,by omega,rfl,hid (fun k _ h=>absurd h (Nat.not_lt_zero _)),hid (Below.refl _ _)⟩
 case round=>
  obtain ⟨i,hi,hj,rfl,HE,HB⟩:=hrel
  by_cases hlt:i < m
  ·have hlt':(i:Int) < (m:Int):=by omega
   have hik:i < C.length:=by rw [HM.out]; exact hlt
   obtain ⟨b,o,rfl,hx,c0,c1⟩:=(HA.out.below HB.out) i hik
   have hg1:wr.cell? ⟨g,0,none⟩=some (.string (tx n)):=(HB.out.cell (p:=⟨g,0,none⟩) HGL.out).trans HG.out
   have hgl:g < wr.heap.size:=Nat.lt_of_lt_of_le HGL.out HB.out.size
   obtain ⟨nm,hnm⟩:∃ nm,C[i].1=nm:=⟨_,rfl⟩
   obtain ⟨kk,hkk⟩:∃ kk,C[i].2=kk:=⟨_,rfl⟩
   rw [hnm] at c0
   rw [hkk] at c1
   have HB2:Hid (Below w.heap.size w (wr.alloc (.cells #[.string (tx nm),.int .i64 kk] 45))):=hid (HB.out.alloc HB.out.size _)
   cases hq:nm == n
   ·have HE2:Hid (∀ k (h1:k < C.length),k < i + 1→C[k].1 ≠ n):=hid (fun k h1 h3=>by
     by_cases hki:k=i
     ·subst hki; rw [hnm]; simpa using hq
     ·exact HE.out k h1 (by omega))
    clear HE hnm hkk
    go_wp2
    go_roundg (m - i)
    case measure=>omega
    case rel=>exact ⟨i + 1,by omega,by omega,by go_num,HE2,HB2⟩
   ·have HR:Hid (Kd.ixV (Kd.ix C n)=(i:Int)):=hid (by rw [Kd.ix_some hik (by rw [hnm]; exact eq_of_beq hq) (fun j hj hji=>HE.out j hj hji)]; rfl)
    clear HE hnm hkk
    go_wp2
    go_ret
    exact ⟨by rw [HR.out]; rfl,HB2.out⟩
  ·have hlt':¬ (i:Int) < (m:Int):=by omega
   have HR:Hid (Kd.ixV (Kd.ix C n)=-1):=hid (by rw [Kd.ix_none (fun k h1=>HE.out k h1 (by have:=HM.out; omega))]; rfl)
   go_wp2_with fail
   go_ret
   exact ⟨by rw [HR.out]; rfl,HB.out⟩
theorem find_any (C:List Col) (n:List UInt8) (A:Option Addr) (c:Nat) (w:World) (hA:ColsAt w A C) (hC:C.length≤1000000) :
  Calls Tryz.prog 89 #[.slice A C.length c,.string (tx n)] w fun e w'=>e=.returned (.int .i64 (Kd.ixV (Kd.ix C n)))∧Below w.heap.size w w':=by
 have b0:Below w.heap.size w (w.alloc (.cells #[.string (tx n)] 9)):=(Below.refl _ _).alloc (Nat.le_refl _) _
 have k0:=Whole.new w 9 #[.string (tx n)]
 have IX:=hid (indexFunc_any C n A c w.heap.size _ (hA.below b0) (by rw [k0.cell]; rfl) hC)
 have B0:=hid b0
 clear hA b0 k0
 generalize hm:C.length=m at *
 clear hm
 go_enter Tryz.func89,Tryz.ntmps89
 go_wp2_with fail
 refine IX.out.mono ?_
 rintro e w2 ⟨rfl,hb⟩
 have B2:=hid (bstep B0.out hb)
 clear hb IX
 go_wp2_with fail
 go_ret
 exact ⟨rfl,B2.out⟩
theorem refFind_any (C:List Col) (n:List UInt8) (A:Option Addr) (c:Nat) (w:World) (hA:ColsAt w A C) (hC:C.length≤1000000) :
  Calls Tryz.prog 22 #[.slice A C.length c,.string (tx n)] w fun e w'=>e=.returned (.int .i64 (Kd.ixV (Kd.ix C n)))∧w'=w:=by
 have HA:=hid hA
 have hm9:(C.length:Int)≤1000000:=by omega
 obtain ⟨m,hm⟩:∃ m,C.length=m:=⟨_,rfl⟩
 have HM:=hid hm
 rw [hm] at hm9 ⊢
 clear hA hC hm
 go_enter Tryz.func22,Tryz.ntmps22
 go_wp2_with fail
 go_loopg [5] (m + 1) (fun j s5 wr=>∃ i:Nat,i≤m∧m < i + j∧s5=.int .i64 (i:Nat)∧Hid (∀ k (h1:k < C.length),k < i→C[k].1 ≠ n)∧wr=w)
 case atStart=>exact ⟨0,by omega,by omega,rfl,hid (fun k _ h=>absurd h (Nat.not_lt_zero _)),rfl⟩
 case round=>
  obtain ⟨i,hi,hj,rfl,HE,hwr⟩:=hrel
  subst hwr
  by_cases hlt:i < m
  ·have hlt':(i:Int) < (m:Int):=by omega
   have hik:i < C.length:=by rw [HM.out]; exact hlt
   obtain ⟨b,o,rfl,hx,c0,c1⟩:=HA.out i hik
   obtain ⟨nm,hnm⟩:∃ nm,C[i].1=nm:=⟨_,rfl⟩
   rw [hnm] at c0
   clear c1
   cases hq:nm == n
   ·have HE2:Hid (∀ k (h1:k < C.length),k < i + 1→C[k].1 ≠ n):=hid (fun k h1 h3=>by
     by_cases hki:k=i
     ·subst hki; rw [hnm]; simpa using hq
     ·exact HE.out k h1 (by omega))
    clear HE hnm
    go_wp2
    go_roundg (m - i)
    case measure=>omega
    case rel=>exact ⟨i + 1,by omega,by omega,by go_num,HE2,rfl⟩
   ·have HR:Hid (Kd.ixV (Kd.ix C n)=(i:Int)):=hid (by rw [Kd.ix_some hik (by rw [hnm]; exact eq_of_beq hq) (fun j hj hji=>HE.out j hj hji)]; rfl)
    clear HE hnm
    go_wp2
    go_ret
    exact ⟨by rw [HR.out]; rfl,rfl⟩
  ·have hlt':¬ (i:Int) < (m:Int):=by omega
   have HR:Hid (Kd.ixV (Kd.ix C n)=-1):=hid (by rw [Kd.ix_none (fun k h1=>HE.out k h1 (by have:=HM.out; omega))]; rfl)
   go_wp2_with fail
   go_ret
   exact ⟨by rw [HR.out]; rfl,rfl⟩
end Go.Proofs.YteghhmomhlnccaaGreatDoor
namespace Go.Proofs.YteghhmomhlnccaaGreatDoor
attribute [local go_sem ↓] eqVal neqVal
open Ex (Tree)
def Kd.kn (C:List Col) (n:List UInt8):Int × Int:=match Kd.fk C n with
 | none=>(0,9)
 | some k=>(k,0)
def kindText (k:Int):ByteArray:=if k=1 then ⟨#[105,110,116]⟩ else if k=2 then ⟨#[116,101,120,116]⟩ else if k=3 then ⟨#[98,111,111,108]⟩ else ⟨#[]⟩
theorem kindText_any (k:Int) (w:World):Calls Tryz.prog 62 #[.int .i64 k] w fun e w'=>e=.returned (.string (kindText k))∧w'=w:=by
 by_cases h1:k=1
 ·subst h1
  go_enter Tryz.func62,Tryz.ntmps62
  go_wp2_with fail
  go_ret
  exact ⟨rfl,rfl⟩
 by_cases h2:k=2
 ·subst h2
  go_enter Tryz.func62,Tryz.ntmps62
  go_wp2_with fail
  go_ret
  exact ⟨rfl,rfl⟩
 by_cases h3:k=3
 ·subst h3
  go_enter Tryz.func62,Tryz.ntmps62
  go_wp2_with fail
  go_ret
  exact ⟨rfl,rfl⟩
 ·have HT:Hid (kindText k=⟨#[]⟩):=hid (by rw [kindText,if_neg h1,if_neg h2,if_neg h3])
  have k1:(k == 1)=false:=by simpa using h1
  have k2:(k == 2)=false:=by simpa using h2
  have k3:(k == 3)=false:=by simpa using h3
  clear h1 h2 h3
  go_enter Tryz.func62,Tryz.ntmps62
  go_wp2_with fail
  go_ret
  exact ⟨congrArg (fun z=>Ending.returned (Value.string z)) HT.out.symm,rfl⟩
abbrev nameT (n:List UInt8):Tree:=.node 2 n 0 0 [] []
theorem name_right (n:List UInt8):Ex.rightB nodeB (nameT n)=Lx.isName n:=by
 simp [Ex.rightB,Ex.depth,Ex.depths,Ex.count,Ex.counts,Ex.ones,Ex.oness,nodeB,same]
theorem named_any (n:List UInt8) (k:Int) (w:World) (hn:n.length≤maxLen) (a:Addr) (m:Int) (hv:Env w a m) :
  Calls Tryz.prog 61 #[.agg #[.string (tx n),.int .i64 k]] w fun e w'=>e=.returned (.bool (Lx.isName n))∧Below w.heap.size w w':=by
 have b0:Below w.heap.size w (w.alloc (.cells #[.string (tx n),.int .i64 k] 45)):=(Below.refl _ _).alloc (Nat.le_refl _) _
 have k0:=Whole.new w 45 #[.string (tx n),.int .i64 k]
 have c0:(w.alloc (.cells #[.string (tx n),.int .i64 k] 45)).cell? ⟨w.heap.size,0,none⟩=some (.string (tx n)):=by rw [k0.cell]; rfl
 have hr:=callsIn_wide.1 (right_in (nameT n) (.agg (ncells 2 n 0 0 [] none 0 0)) (w.alloc (.cells #[.string (tx n),.int .i64 k] 45)) ⟨none,0,rfl,Nat.le_refl _,by rw [TreesAt]; trivial⟩ (by rw [fitT]; exact ⟨hn,Nat.zero_le _,by rw [fitTs]; trivial⟩) (by simp [Ex.depth,Ex.depths]) a m (hv.below b0))
 rw [name_right] at hr
 have HR:=hid hr
 have B0:=hid b0
 unfold ncells at *
 clear hr b0 k0 hv
 go_enter Tryz.func61,Tryz.ntmps61
 go_wp2_with fail
 refine HR.out.mono ?_
 rintro e w2 ⟨rfl,hb⟩
 have B2:=hid (bstep B0.out hb)
 clear hb HR
 go_wp2_with fail
 go_ret
 exact ⟨rfl,B2.out⟩
end Go.Proofs.YteghhmomhlnccaaGreatDoor
namespace Go.Proofs.YteghhmomhlnccaaGreatDoor
attribute [local go_sem ↓] eqVal neqVal
def Kd.goodB (C:List Col):Bool:=C.all (fun c=>Lx.isName c.1 && decide (1≤c.2∧c.2≤3)) && decide ((C.map (·.1)).Nodup)
theorem Kd.goodB_iff (C:List Col):Kd.goodB C=true ↔ Kd.Good C:=by
 rw [Kd.good_iff,Kd.goodB,Bool.and_eq_true,List.all_eq_true,decide_eq_true_iff]
 simp only [Bool.and_eq_true,decide_eq_true_iff]
theorem Kd.goodB_true {C:List Col} (h:∀ i,i < C.length→Kd.goodAt C i):Kd.goodB C=true:=(Kd.goodB_iff C).2 h
theorem Kd.goodB_false {C:List Col} {i:Nat} (hi:i < C.length) (h:¬ Kd.goodAt C i):Kd.goodB C=false:=by
 rw [Bool.eq_false_iff]
 intro e
 exact h ((Kd.goodB_iff C).1 e i hi)
theorem Kd.seen {C:List Col} {i:Nat} (hi:i < C.length):((C.take i).map (·.1)).contains C[i].1=true ↔ ∃ j,∃ hj:j < C.length,j < i∧C[j].1=C[i].1:=by
 rw [List.contains_iff_mem,List.mem_map]
 constructor
 ·rintro ⟨c,hc,e⟩
  obtain ⟨j,hj,rfl⟩:=List.getElem_of_mem hc
  rw [List.length_take] at hj
  exact ⟨j,by omega,by omega,by rw [List.getElem_take] at e; exact e⟩
 ·rintro ⟨j,hj,hji,e⟩
  refine ⟨C[j],?_,e⟩
  rw [List.mem_take_iff_getElem]
  exact ⟨j,by omega,rfl⟩
def shortC (C:List Col):Prop:=∀ c ∈ C,c.1.length≤100
theorem many_any (C:List Col) (A:Option Addr) (c:Nat) (w:World) (hA:ColsAt w A C) (hF:fitC C) :
  Calls Tryz.prog 10 #[.slice A C.length c] w fun e w'=>(e=.returned (.bool false)∧w'=w∧C.length≤50∧shortC C)∨(e=.returned (.bool true)∧w'=w):=by
 have HA:=hid hA
 have HF:=hid hF
 obtain ⟨m,hm⟩:∃ m,C.length=m:=⟨_,rfl⟩
 have HM:=hid hm
 rw [hm]
 clear hA hm hF
 by_cases hb:(m:Int)≤50
 ·have hb':¬ (50:Int) < (m:Int):=by omega
  go_enter Tryz.func10,Tryz.ntmps10
  go_wp2_with fail
  go_loopg [3] (m + 1) (fun j s3 wr=>∃ i:Nat,i≤m∧m < i + j∧s3=.int .i64 (i:Nat)∧Hid (∀ k (h1:k < C.length),k < i→C[k].1.length≤100)∧wr=w)
  case atStart=>exact ⟨0,by omega,by omega,rfl,hid (fun k _ h=>absurd h (Nat.not_lt_zero _)),rfl⟩
  case round=>
   obtain ⟨i,hi,hj,rfl,HE,hwr⟩:=hrel
   subst hwr
   by_cases hlt:i < m
   ·have hlt':(i:Int) < (m:Int):=by omega
    have hik:i < C.length:=by rw [HM.out]; exact hlt
    obtain ⟨b,o,rfl,hx,c0,c1⟩:=HA.out i hik
    have hf0:=HF.out C[i] (List.getElem_mem hik)
    simp only [maxLen] at hf0
    obtain ⟨nm,hnm⟩:∃ nm,C[i].1=nm:=⟨_,rfl⟩
    rw [hnm] at c0 hf0
    clear c1
    by_cases hq:(nm.length:Int)≤100
    ·have hq':¬ (100:Int) < (nm.length:Int):=by omega
     have HE2:Hid (∀ k (h1:k < C.length),k < i + 1→C[k].1.length≤100):=hid (fun k h1 h3=>by
      by_cases hki:k=i
      ·subst hki; rw [hnm]; omega
      ·exact HE.out k h1 (by omega))
     clear HE hnm hik
     go_wp2_with fail
     go_roundg (m - i)
     case measure=>omega
     case rel=>exact ⟨i + 1,by omega,by omega,by go_num,HE2,rfl⟩
    ·have hq':(100:Int) < (nm.length:Int):=by omega
     clear HE hnm hik hq
     go_wp2_with fail
     go_ret
     exact .inr ⟨rfl,rfl⟩
   ·have hlt':¬ (i:Int) < (m:Int):=by omega
    have HR:Hid (shortC C):=hid (fun c hc=>by
     obtain ⟨k,hk,rfl⟩:=List.getElem_of_mem hc
     exact HE.out k hk (by have:=HM.out; omega))
    go_wp2_with fail
    go_ret
    exact .inl ⟨rfl,rfl,by omega,HR.out⟩
 ·have hb':(50:Int) < (m:Int):=by omega
  clear hb
  go_enter Tryz.func10,Tryz.ntmps10
  go_wp2_with fail
  go_ret
  exact .inr ⟨rfl,rfl⟩
theorem cols_of_kind {k:Int} (h:1≤k∧k≤3):(kindText k).toList.isEmpty=false:=by
 have:k=1∨k=2∨k=3:=by omega
 rcases this with rfl | rfl | rfl <;> (rw [ByteArray.toList_eq]; rfl)
theorem cols_no_kind {k:Int} (h:¬ (1≤k∧k≤3)):kindText k=⟨#[]⟩:=by
 rw [kindText,if_neg (by omega),if_neg (by omega),if_neg (by omega)]
theorem columns_any (C:List Col) (A:Option Addr) (c:Nat) (w:World) (hA:ColsAt w A C) (hF:fitC C) (hC:C.length≤1000000) (a:Addr) (mx:Int) (hv:Env w a mx) :
  Calls Tryz.prog 32 #[.slice A C.length c] w fun e w'=>e=.returned (.bool (Kd.goodB C))∧Below w.heap.size w w':=by
 have HA:=hid hA
 have HF:=hid hF
 have HV:=hid hv
 have hm9:(C.length:Int)≤1000000:=by omega
 obtain ⟨m,hm⟩:∃ m,C.length=m:=⟨_,rfl⟩
 have HM:=hid hm
 rw [hm] at hm9 ⊢
 clear hA hm hF hC hv
 have hmm:=@run_makeMap Tryz.prog
 have S0:Hid (SetAt (w.alloc (.map #[] 0)) w.heap.size 0 []):=hid (SetAt.made w)
 have B0:Hid (Below w.heap.size w (w.alloc (.map #[] 0))):=hid ((Below.refl _ _).alloc (Nat.le_refl _) _)
 go_enter Tryz.func32,Tryz.ntmps32
 go_wp2_with fail
 obtain ⟨W0,hW0⟩:∃ W0,w.alloc (.map #[] 0)=W0:=⟨_,rfl⟩
 rw [hW0] at S0 B0 ⊢
 go_loopg [5,6,7,11] (m + 1) (fun j s5 s6 s7 s11 wr=>∃ i:Nat,i≤m∧m < i + j∧s11=.int .i64 (i:Nat)∧Hid (∃ n,n≤i∧SetAt wr w.heap.size n ((C.take i).map (·.1)))∧Hid (∀ k,k < i→Kd.goodAt C k)∧Hid (Below w.heap.size w wr)∧w.heap.size < wr.heap.size)
 case atStart=>exact ⟨0,by omega,by omega,rfl,hid ⟨0,Nat.le_refl _,S0.out⟩,hid (fun k h=>absurd h (Nat.not_lt_zero _)),B0,S0.out.lt⟩
 case round=>
  obtain ⟨i,hi,hj,rfl,HS,HE,HB,hwr⟩:=hrel
  clear S0 B0
  by_cases hlt:i < m
  ·have hlt':(i:Int) < (m:Int):=by omega
   have hik:i < C.length:=by rw [HM.out]; exact hlt
   obtain ⟨b,o,rfl,hx,c0,c1⟩:=(HA.out.below HB.out) i hik
   have hf0:=HF.out C[i] (List.getElem_mem hik)
   obtain ⟨nm,hnm⟩:∃ nm,C[i].1=nm:=⟨_,rfl⟩
   obtain ⟨kk,hkk⟩:∃ kk,C[i].2=kk:=⟨_,rfl⟩
   have hsn:=Kd.seen hik
   have HGA:Hid (Kd.goodAt C i ↔ Lx.isName nm=true∧1≤kk∧kk≤3∧¬ (((C.take i).map (·.1)).contains nm=true)):=hid (by
    rw [← hnm,← hkk,hsn]
    constructor
    ·rintro ⟨_,h1,h2,h3,h4⟩
     exact ⟨h1,h2,h3,fun ⟨j,hj,hji,e⟩=>h4 j hj hji e⟩
    ·rintro ⟨h1,h2,h3,h4⟩
     exact ⟨hik,h1,h2,h3,fun j hj hji e=>h4 ⟨j,hj,hji,e⟩⟩)
   have HTK:Hid ((C.take (i + 1)).map (·.1)=(C.take i).map (·.1) ++ [nm]):=hid (by rw [List.take_succ_eq_append_getElem hik,List.map_append,List.map_cons,List.map_nil,hnm])
   have HIK:=hid hik
   obtain ⟨L,hL⟩:∃ L,(C.take i).map (·.1)=L:=⟨_,rfl⟩
   rw [hL] at HS HGA HTK
   rw [hnm] at c0 hf0
   rw [hkk] at c1
   clear hsn hnm hkk hL hik
   obtain ⟨n,hn,SA⟩:=HS.out
   have al1:Below wr.heap.size wr (wr.alloc (.cells #[.string (tx nm),.int .i64 kk] 45)):=(Below.refl _ _).alloc (Nat.le_refl _) _
   have q1:=Whole.new wr 45 #[.string (tx nm),.int .i64 kk]
   obtain ⟨W1,hW1⟩:∃ W1,wr.alloc (.cells #[.string (tx nm),.int .i64 kk] 45)=W1:=⟨_,rfl⟩
   rw [hW1] at al1 q1
   have S1:=SA.moved (al1.block _ SA.lt)
   have hlk:=S1.look hf0
   have al2:Below wr.heap.size wr (W1.alloc (.cells #[] 97)):=al1.alloc al1.size _
   have q2:=q1.alloc (.cells #[] 97)
   obtain ⟨W2,hW2⟩:∃ W2,W1.alloc (.cells #[] 97)=W2:=⟨_,rfl⟩
   rw [hW2] at al2 q2
   have S2:=hid (SA.moved (al2.block _ SA.lt))
   have B2:=hid (HB.out.trans (al2.mono HB.out.size))
   have Q2:=hid q2
   have d0:=q2.cell 0
   have d1:=q2.cell 1
   have e0:=q1.cell 0
   have e1:=q1.cell 1
   simp only [List.getElem?_toArray,List.getElem?_cons_zero,List.getElem?_cons_succ] at d0 d1 e0 e1
   have NM:=hid (named_any nm kk W2 hf0 a mx (HV.out.below B2.out))
   clear al1 al2 q1 q2 S1 SA HS
   cases hcon:L.contains nm
   case true=>
    rw [hcon] at hlk
    have HR:Hid (Kd.goodB C=false):=hid (Kd.goodB_false HIK.out (fun h=>(HGA.out.1 h).2.2.2 hcon))
    clear hcon HGA NM
    go_wp2_with fail
    go_ret
    exact ⟨retB2 HR.out.symm,B2.out⟩
   case false=>
    rw [hcon] at hlk
    go_wp2_with fail
    refine NM.out.mono ?_
    rintro e W3 ⟨rfl,hb3⟩
    have hlt3:wr.heap.size < W2.heap.size:=Q2.out.lt
    have q3:=Q2.out.below hb3 hlt3
    have S3:=hid (S2.out.moved (hb3.block _ S2.out.lt))
    have B3:=hid (B2.out.trans (hb3.mono B2.out.size))
    have f0:=q3.cell 0
    have f1:=q3.cell 1
    simp only [List.getElem?_toArray,List.getElem?_cons_zero,List.getElem?_cons_succ] at f0 f1
    have hw3:w.heap.size < W3.heap.size:=S3.out.lt
    clear NM hb3 c0 c1 d0 d1 e0 e1 hW1 hW2 hlk q3
    cases hnm:Lx.isName nm
    case false=>
     have HR:Hid (Kd.goodB C=false):=hid (Kd.goodB_false HIK.out (fun h=>by have:=(HGA.out.1 h).1; rw [hnm] at this; cases this))
     clear HGA hcon hnm
     go_wp2_with fail
     go_ret
     exact ⟨retB2 HR.out.symm,B3.out⟩
    case true=>
     have KT:=hid (kindText_any kk W3)
     by_cases hk:1≤kk∧kk≤3
     case neg=>
      have HR:Hid (Kd.goodB C=false):=hid (Kd.goodB_false HIK.out (fun h=>hk ⟨(HGA.out.1 h).2.1,(HGA.out.1 h).2.2.1⟩))
      rw [cols_no_kind hk] at KT
      clear HGA hcon hnm hk
      go_wp2_with fail
      refine KT.out.mono ?_
      rintro e W4 ⟨rfl,rfl⟩
      go_wp2_with fail
      go_ret
      exact ⟨retB2 HR.out.symm,B3.out⟩
     case pos=>
      have hse:=cols_of_kind hk
      obtain ⟨s,hs⟩:∃ s,kindText kk=s:=⟨_,rfl⟩
      rw [hs] at KT hse
      have HG:Hid (Kd.goodAt C i):=hid (HGA.out.2 ⟨hnm,hk.1,hk.2,by rw [hcon]; decide⟩)
      clear HGA hcon hnm hk hs
      obtain ⟨W4,hst,S4,T4⟩:=S3.out.store hf0 (by omega)
      have B4:Hid (Below w.heap.size w W4):=hid (T4.fresh B3.out (by simp))
      have HS4:Hid (∃ n,n≤i + 1∧SetAt W4 w.heap.size n ((C.take (i + 1)).map (·.1))):=hid ⟨n + 1,by omega,by rw [HTK.out]; exact S4⟩
      have HE4:Hid (∀ k,k < i + 1→Kd.goodAt C k):=hid (fun k hk=>by
       by_cases hki:k=i
       ·rw [hki]; exact HG.out
       ·exact HE.out k (by omega))
      have hw4:w.heap.size < W4.heap.size:=S4.lt
      clear HE T4 S4 HG
      go_wp2_with fail
      refine KT.out.mono ?_
      rintro e W5 ⟨rfl,rfl⟩
      go_wp2_with fail
      go_roundg (m - i)
      case measure=>omega
      case rel=>exact ⟨i + 1,by omega,by omega,by go_num,HS4,HE4,B4,hw4⟩
  ·have hlt':¬ (i:Int) < (m:Int):=by omega
   have HR:Hid (Kd.goodB C=true):=hid (Kd.goodB_true (fun k hk=>HE.out k (by have:=HM.out; omega)))
   go_wp2_with fail
   go_ret
   exact ⟨retB2 HR.out.symm,HB.out⟩
end Go.Proofs.YteghhmomhlnccaaGreatDoor
namespace Go.Proofs.YteghhmomhlnccaaGreatDoor
attribute [local go_sem ↓] eqVal neqVal
open Ev (V R Pl)
theorem are_one (v:V) (q:Int) (W:World) (g:Nat) (hg:g=W.heap.size):Calls Tryz.prog 34 #[.slice (some ⟨g,0,none⟩) 1 1,.slice (some ⟨g + 1,0,none⟩) 1 1] ((W.alloc (.cells (vcells v) 23)).alloc (.cells #[.int .i64 q] 3)) fun e w'=>e=.returned (.bool (decide (v.k=q∨v.k=0)))∧Below W.heap.size W w':=by
 subst hg
 have b0:Below W.heap.size W (W.alloc (.cells (vcells v) 23)):=(Below.refl _ _).alloc (Nat.le_refl _) _
 have b1:Below W.heap.size W ((W.alloc (.cells (vcells v) 23)).alloc (.cells #[.int .i64 q] 3)):=b0.alloc (by simp) _
 have k0:=(Whole.new W 23 (vcells v)).alloc (.cells #[.int .i64 q] 3)
 have k1:=Whole.new (W.alloc (.cells (vcells v) 23)) 3 #[.int .i64 q]
 rw [World.size_alloc] at k1
 have hA:ValsAt ((W.alloc (.cells (vcells v) 23)).alloc (.cells #[.int .i64 q] 3)) (some ⟨W.heap.size,0,none⟩) [v]:=ValsAt.of_cells k0.lt (fun j u hu=>by rw [Nat.zero_add,k0.cell,← hu]; simp [valCells])
 have hK:IntsAt ((W.alloc (.cells (vcells v) 23)).alloc (.cells #[.int .i64 q] 3)) (some ⟨W.heap.size + 1,0,none⟩) [q]:=IntsAt.whole k1
 refine (are_any [v] [q] _ _ 1 1 _ hA hK (by simp)).mono ?_
 rintro e w' ⟨rfl,hb⟩
 exact ⟨by simp [Ev.areB],bstep b1 hb⟩
def Ev.truthR (r:R):R:=if r.e=0 then (if r.v.k=3∨r.v.k=0 then Ev.ok r.v else Ev.err 10) else Ev.err r.e
theorem truth_any (r:R) (w:World):Calls Tryz.prog 28 #[vv r.v,.int .i64 r.e] w fun e w'=>e=.returned (outR (Ev.truthR r))∧Below w.heap.size w w':=by
 obtain ⟨⟨k,n,s⟩,c⟩:=r
 have b0:=(Below.refl w.heap.size w).alloc (Nat.le_refl _) (.cells (vcells ⟨k,n,s⟩) 23)
 have b1:=b0.alloc (by simp) (.cells #[.int .i64 0,.int .i64 0,.string ⟨#[]⟩] 23)
 have q0:=(Row3.new w k n (tx s)).alloc (.cells #[.int .i64 0,.int .i64 0,.string ⟨#[]⟩] 23)
 have r0:=Row3.new (w.alloc (.cells (vcells ⟨k,n,s⟩) 23)) 0 0 ⟨#[]⟩
 rw [World.size_alloc] at r0
 unfold vv vcells at *
 dsimp only at *
 have B1:=hid b1
 have R0:=hid r0
 have Q0:=hid q0
 obtain ⟨c0,c1,c2⟩:=q0.holds
 have FAIL:=hid efail_any
 by_cases h:c=0
 ·have h':(c != 0)=false:=by simpa using h
  have AO:=hid (fun W g hg=>are_one ⟨k,n,s⟩ 3 W g hg)
  by_cases hk:k=3∨k=0
  ·have HR:Hid (Ev.truthR ⟨⟨k,n,s⟩,c⟩=Ev.ok ⟨k,n,s⟩):=hid (by rw [Ev.truthR,if_pos h,if_pos hk])
   have HK:Hid (decide (k=3∨k=0)=true):=hid (by simpa using hk)
   dsimp only at AO
   rw [HK.out] at AO
   clear h hk b0 b1 q0 r0
   go_enter Tryz.func28,Tryz.ntmps28
   go_wp2_with fail
   refine (AO.out _ _ (by simp)).mono ?_
   rintro e w2 ⟨rfl,hb⟩
   have Q2:=Q0.out.below hb (by simp; omega)
   have R2:=hid (R0.out.below hb (by simp))
   have B2:=hid (bstep B1.out hb)
   clear c0 c1 c2 hb
   obtain ⟨c0,c1,c2⟩:=Q2.holds
   obtain ⟨d1,d2,d3⟩:=R2.out.holds
   have f0:=R2.out.frozen 0
   have f1:=R2.out.frozen 1
   have f2:=R2.out.frozen 2
   clear Q2
   go_wp2_with fail
   exact fin_R Tryz.results28 rfl rfl rfl R2.out B2.out (by omega) (by rw [HR.out]; rfl)
  ·have HR:Hid (Ev.truthR ⟨⟨k,n,s⟩,c⟩=Ev.err 10):=hid (by rw [Ev.truthR,if_pos h,if_neg hk])
   have HK:Hid (decide (k=3∨k=0)=false):=hid (by simpa using hk)
   dsimp only at AO
   rw [HK.out] at AO
   clear h hk b0 b1 q0 r0
   go_enter Tryz.func28,Tryz.ntmps28
   go_wp2_with fail
   refine (AO.out _ _ (by simp)).mono ?_
   rintro e w2 ⟨rfl,hb⟩
   have R2:=hid (R0.out.below hb (by simp))
   have B2:=hid (bstep B1.out hb)
   clear c0 c1 c2 hb
   go_wp2_with fail
   refine (FAIL.out _ _).mono ?_
   rintro e w3 ⟨rfl,hb3⟩
   have R3:=hid (R2.out.below hb3 R2.out.lt)
   have B3:=hid (bstep B2.out hb3)
   clear hb3
   obtain ⟨d1,d2,d3⟩:=R3.out.holds
   have f0:=R3.out.frozen 0
   have f1:=R3.out.frozen 1
   have f2:=R3.out.frozen 2
   unfold outR vv vcells Ev.err Ev.z
   go_wp2_with fail
   exact fin_R Tryz.results28 rfl rfl rfl R3.out B3.out (by omega) (by rw [HR.out]; rfl)
 ·have h':(c != 0)=true:=by simpa using h
  have HR:Hid (Ev.truthR ⟨⟨k,n,s⟩,c⟩=Ev.err c):=hid (by rw [Ev.truthR,if_neg h])
  clear h b0 b1 q0 r0 c0 c1 c2
  go_enter Tryz.func28,Tryz.ntmps28
  go_wp2_with fail
  refine (FAIL.out _ _).mono ?_
  rintro e w3 ⟨rfl,hb3⟩
  have R3:=hid (R0.out.below hb3 R0.out.lt)
  have B3:=hid (bstep B1.out hb3)
  clear hb3
  obtain ⟨d1,d2,d3⟩:=R3.out.holds
  have f0:=R3.out.frozen 0
  have f1:=R3.out.frozen 1
  have f2:=R3.out.frozen 2
  unfold outR vv vcells Ev.err Ev.z
  go_wp2_with fail
  exact fin_R Tryz.results28 rfl rfl rfl R3.out B3.out (by omega) (by rw [HR.out]; rfl)
def Ev.wholeR (n c:Int):R:=if c=0 then Ev.ok ⟨1,n,[]⟩ else Ev.err c
theorem whole_any (n c:Int) (w:World):Calls Tryz.prog 117 #[.int .i64 n,.int .i64 c] w fun e w'=>e=.returned (outR (Ev.wholeR n c))∧Below w.heap.size w w':=by
 have R0:=hid (Row3.new w 0 0 ⟨#[]⟩)
 have B0:=hid ((Below.refl w.heap.size w).alloc (Nat.le_refl _) (.cells #[.int .i64 0,.int .i64 0,.string ⟨#[]⟩] 23))
 by_cases h:c=0
 ·have h':(c != 0)=false:=by simpa using h
  have HR:Hid (Ev.wholeR n c=Ev.ok ⟨1,n,[]⟩):=hid (by rw [Ev.wholeR,if_pos h])
  clear h
  go_enter Tryz.func117,Tryz.ntmps117
  go_wp2_with fail
  refine (int_any _ _).mono ?_
  rintro e w1 ⟨rfl,hb1⟩
  have R1:=hid (R0.out.below hb1 R0.out.lt)
  have B1:=hid (bstep B0.out hb1)
  clear hb1 R0 B0
  obtain ⟨d1,d2,d3⟩:=R1.out.holds
  have f0:=R1.out.frozen 0
  have f1:=R1.out.frozen 1
  have f2:=R1.out.frozen 2
  go_wp2_with fail
  exact fin_R Tryz.results117 rfl rfl rfl R1.out B1.out (Nat.le_refl _) (by rw [HR.out]; rfl)
 ·have h':(c != 0)=true:=by simpa using h
  have HR:Hid (Ev.wholeR n c=Ev.err c):=hid (by rw [Ev.wholeR,if_neg h])
  clear h
  go_enter Tryz.func117,Tryz.ntmps117
  go_wp2_with fail
  refine (efail_any _ _).mono ?_
  rintro e w1 ⟨rfl,hb1⟩
  have R1:=hid (R0.out.below hb1 R0.out.lt)
  have B1:=hid (bstep B0.out hb1)
  clear hb1 R0 B0
  obtain ⟨d1,d2,d3⟩:=R1.out.holds
  have f0:=R1.out.frozen 0
  have f1:=R1.out.frozen 1
  have f2:=R1.out.frozen 2
  unfold outR vv vcells Ev.err Ev.z
  go_wp2_with fail
  exact fin_R Tryz.results117 rfl rfl rfl R1.out B1.out (Nat.le_refl _) (by rw [HR.out]; rfl)
def Ev.joinR (l:List UInt8):R:=if l.length≤200 then Ev.ok ⟨2,0,l⟩ else Ev.err 3
theorem joined_any (l:List UInt8) (w:World) (hl:l.length≤1000000):Calls Tryz.prog 116 #[.string (tx l)] w fun e w'=>e=.returned (outR (Ev.joinR l))∧Below w.heap.size w w':=by
 have R0:=hid (Row3.new w 0 0 ⟨#[]⟩)
 have B0:=hid ((Below.refl w.heap.size w).alloc (Nat.le_refl _) (.cells #[.int .i64 0,.int .i64 0,.string ⟨#[]⟩] 23))
 have hs:(tx l).size=l.length:=by simp [ByteArray.size,tx]
 have hl9:(l.length:Int)≤1000000:=by omega
 by_cases h:l.length≤200
 ·have h':¬ (200:Int) < (l.length:Int):=by omega
  have HR:Hid (Ev.joinR l=Ev.ok ⟨2,0,l⟩):=hid (by rw [Ev.joinR,if_pos h])
  have TS:=hid (fun W=>text_small (tx l) W (by rw [hs]; exact h))
  clear h hs hl
  go_enter Tryz.func116,Tryz.ntmps116
  go_wp2_with fail
  refine (TS.out _).mono ?_
  rintro e w1 ⟨rfl,hb1⟩
  have R1:=hid (R0.out.below hb1 R0.out.lt)
  have B1:=hid (bstep B0.out hb1)
  clear hb1 R0 B0
  obtain ⟨d1,d2,d3⟩:=R1.out.holds
  have f0:=R1.out.frozen 0
  have f1:=R1.out.frozen 1
  have f2:=R1.out.frozen 2
  go_wp2_with fail
  exact fin_R Tryz.results116 rfl rfl rfl R1.out B1.out (Nat.le_refl _) (by rw [HR.out]; rfl)
 ·have h':(200:Int) < (l.length:Int):=by omega
  have HR:Hid (Ev.joinR l=Ev.err 3):=hid (by rw [Ev.joinR,if_neg h])
  clear h hs hl
  go_enter Tryz.func116,Tryz.ntmps116
  go_wp2_with fail
  refine (efail_any _ _).mono ?_
  rintro e w1 ⟨rfl,hb1⟩
  have R1:=hid (R0.out.below hb1 R0.out.lt)
  have B1:=hid (bstep B0.out hb1)
  clear hb1 R0 B0
  obtain ⟨d1,d2,d3⟩:=R1.out.holds
  have f0:=R1.out.frozen 0
  have f1:=R1.out.frozen 1
  have f2:=R1.out.frozen 2
  unfold outR vv vcells Ev.err Ev.z
  go_wp2_with fail
  exact fin_R Tryz.results116 rfl rfl rfl R1.out B1.out (Nat.le_refl _) (by rw [HR.out]; rfl)
end Go.Proofs.YteghhmomhlnccaaGreatDoor
namespace Go.Proofs.YteghhmomhlnccaaGreatDoor
attribute [local go_sem ↓] eqVal neqVal
open Ev (V R Pl)
def Ev.standB (t:List UInt8) (o:Int):Bool:=if t == [61] then decide (o=0) else if t == [33,61] then !decide (o=0) else if t == [60] then decide (o < 0) else if t == [60,61] then decide (o≤0) else if t == [62] then decide (0 < o) else decide (0≤o)
theorem stands_any (t:List UInt8) (o:Int) (w:World):Calls Tryz.prog 114 #[.string (tx t),.int .i64 o] w fun e w'=>e=.returned (.bool (Ev.standB t o))∧w'=w:=by
 cases t0:(t == [61])
 case true=>
  have HR:Hid (Ev.standB t o=(decide (o=0))):=hid (by simp only [Ev.standB,t0] <;> rfl)
  go_enter Tryz.func114,Tryz.ntmps114
  go_wp2_with fail
  all_goals (go_ret; exact ⟨retB2 (by (rw [HR.out]) <;> first | rfl | (rw [Bool.eq_iff_iff]; simp; done) | (rw [Bool.eq_iff_iff]; simp; omega)),rfl⟩)
 case false=>
  cases t1:(t == [33,61])
  case true=>
   have HR:Hid (Ev.standB t o=(!decide (o=0))):=hid (by simp only [Ev.standB,t0,t1] <;> rfl)
   go_enter Tryz.func114,Tryz.ntmps114
   go_wp2_with fail
   all_goals (go_ret; exact ⟨retB2 (by (rw [HR.out]) <;> first | rfl | (rw [Bool.eq_iff_iff]; simp; done) | (rw [Bool.eq_iff_iff]; simp; omega)),rfl⟩)
  case false=>
   cases t2:(t == [60])
   case true=>
    have HR:Hid (Ev.standB t o=(decide (o < 0))):=hid (by simp only [Ev.standB,t0,t1,t2] <;> rfl)
    go_enter Tryz.func114,Tryz.ntmps114
    go_wp2_with fail
    all_goals (go_ret; exact ⟨retB2 (by (rw [HR.out]) <;> first | rfl | (rw [Bool.eq_iff_iff]; simp; done) | (rw [Bool.eq_iff_iff]; simp; omega)),rfl⟩)
   case false=>
    cases t3:(t == [60,61])
    case true=>
     have HR:Hid (Ev.standB t o=(decide (o≤0))):=hid (by simp only [Ev.standB,t0,t1,t2,t3] <;> rfl)
     go_enter Tryz.func114,Tryz.ntmps114
     go_wp2_with fail
     all_goals (go_ret; exact ⟨retB2 (by (rw [HR.out]) <;> first | rfl | (rw [Bool.eq_iff_iff]; simp; done) | (rw [Bool.eq_iff_iff]; simp; omega)),rfl⟩)
    case false=>
     cases t4:(t == [62])
     case true=>
      have HR:Hid (Ev.standB t o=(decide (0 < o))):=hid (by simp only [Ev.standB,t0,t1,t2,t3,t4] <;> rfl)
      go_enter Tryz.func114,Tryz.ntmps114
      go_wp2_with fail
      all_goals (go_ret; exact ⟨retB2 (by (rw [HR.out]) <;> first | rfl | (rw [Bool.eq_iff_iff]; simp; done) | (rw [Bool.eq_iff_iff]; simp; omega)),rfl⟩)
     case false=>
      have HR:Hid (Ev.standB t o=(decide (0≤o))):=hid (by simp only [Ev.standB,t0,t1,t2,t3,t4] <;> rfl)
      go_enter Tryz.func114,Tryz.ntmps114
      go_wp2_with fail
      all_goals (go_ret; exact ⟨retB2 (by (rw [HR.out]) <;> first | rfl | (rw [Bool.eq_iff_iff]; simp; done) | (rw [Bool.eq_iff_iff]; simp; omega)),rfl⟩)
theorem Ev.whole_num (n:Int):Ev.wholeR (sv n) (se n)=Ev.num n:=by
 unfold Ev.wholeR Ev.num sv se
 by_cases h:Fits n
 ·simp [h]
 ·simp [h]
theorem fits_tmod {a b:Int} (hb:Fits b) (h0:b ≠ 0):Fits (a.tmod b):=by
 have h:=Int.natAbs_tmod a b
 have h2:=Nat.mod_lt a.natAbs (show b.natAbs > 0 by omega)
 unfold Fits at *
 omega
def Ev.reckR (t:List UInt8) (a b:Int):R:=
 if t == [43] then Ev.num (a + b) else if t == [45] then Ev.num (a - b) else if t == [42] then Ev.num (a * b) else if b=0 then Ev.err 5 else if t == [47] then Ev.num (a.tdiv b) else Ev.num (a.tmod b)
theorem reckoned_any (t:List UInt8) (a b:Int) (w:World) (ha:Fits a) (hb:Fits b):Calls Tryz.prog 118 #[.string (tx t),.int .i64 a,.int .i64 b] w fun e w'=>(∃ n c,e=.returned (.tuple #[.int .i64 n,.int .i64 c])∧Ev.wholeR n c=Ev.reckR t a b)∧w'=w:=by
 cases t0:(t == [43])
 case true=>
  have HC:=hid (fun W=>add_any a b W ha hb)
  clear ha hb
  go_enter Tryz.func118,Tryz.ntmps118
  go_wp2_with fail
  refine (HC.out _).mono ?_
  rintro e w1 ⟨rfl,rfl⟩
  go_wp2_with fail
  refine bodyPost_ret (results_tmp2 Tryz.results118 _ _ _) rfl ⟨⟨_,_,rfl,by simp only [Ev.reckR,t0]; exact Ev.whole_num _⟩,rfl⟩
 case false=>
  cases t1:(t == [45])
  case true=>
   have HC:=hid (fun W=>sub_any a b W ha hb)
   clear ha hb
   go_enter Tryz.func118,Tryz.ntmps118
   go_wp2_with fail
   refine (HC.out _).mono ?_
   rintro e w1 ⟨rfl,rfl⟩
   go_wp2_with fail
   refine bodyPost_ret (results_tmp2 Tryz.results118 _ _ _) rfl ⟨⟨_,_,rfl,by simp only [Ev.reckR,t0,t1]; exact Ev.whole_num _⟩,rfl⟩
  case false=>
   cases t2:(t == [42])
   case true=>
    have HC:=hid (fun W=>mul_any a b W ha hb)
    clear ha hb
    go_enter Tryz.func118,Tryz.ntmps118
    go_wp2_with fail
    refine (HC.out _).mono ?_
    rintro e w1 ⟨rfl,rfl⟩
    go_wp2_with fail
    refine bodyPost_ret (results_tmp2 Tryz.results118 _ _ _) rfl ⟨⟨_,_,rfl,by simp only [Ev.reckR,t0,t1,t2]; exact Ev.whole_num _⟩,rfl⟩
   case false=>
    by_cases h0:b=0
    ·subst h0
     cases t3:(t == [47])
     case false=>
      have HC:=hid (fun W=>rem_zero a W)
      clear ha hb
      go_enter Tryz.func118,Tryz.ntmps118
      go_wp2_with fail
      refine (HC.out _).mono ?_
      rintro e w1 ⟨rfl,rfl⟩
      go_wp2_with fail
      refine bodyPost_ret (results_tmp2 Tryz.results118 _ _ _) rfl ⟨⟨_,_,rfl,by simp only [Ev.reckR,t0,t1,t2]; rfl⟩,rfl⟩
     case true=>
      have HC:=hid (fun W=>div_zero a W)
      clear ha hb
      go_enter Tryz.func118,Tryz.ntmps118
      go_wp2_with fail
      refine (HC.out _).mono ?_
      rintro e w1 ⟨rfl,rfl⟩
      go_wp2_with fail
      refine bodyPost_ret (results_tmp2 Tryz.results118 _ _ _) rfl ⟨⟨_,_,rfl,by simp only [Ev.reckR,t0,t1,t2]; rfl⟩,rfl⟩
    ·cases t3:(t == [47])
     case false=>
      have HF:=hid (fits_tmod (a:=a) hb h0)
      have H0:=hid h0
      have HC:=hid (fun W=>rem_any a b W ha hb h0)
      clear ha hb
      go_enter Tryz.func118,Tryz.ntmps118
      go_wp2_with fail
      refine (HC.out _).mono ?_
      rintro e w1 ⟨rfl,rfl⟩
      go_wp2_with fail
      refine bodyPost_ret (results_tmp2 Tryz.results118 _ _ _) rfl ⟨⟨_,_,rfl,by simp only [Ev.reckR,t0,t1,t2,t3]; rw [if_neg H0.out]; simp [Ev.wholeR,Ev.num,HF.out]⟩,rfl⟩
     case true=>
      have H0:=hid h0
      have HC:=hid (fun W=>div_any a b W ha hb h0)
      clear ha hb
      go_enter Tryz.func118,Tryz.ntmps118
      go_wp2_with fail
      refine (HC.out _).mono ?_
      rintro e w1 ⟨rfl,rfl⟩
      go_wp2_with fail
      refine bodyPost_ret (results_tmp2 Tryz.results118 _ _ _) rfl ⟨⟨_,_,rfl,by simp only [Ev.reckR,t0,t1,t2,t3]; rw [if_neg H0.out]; exact Ev.whole_num _⟩,rfl⟩
theorem within_any (n:Int) (m:Nat) (w:World):Calls Tryz.prog 121 #[.int .i64 n,.int .i64 (m:Nat)] w fun e w'=>e=.returned (.int .i64 (Ev.cutN n m:Nat))∧w'=w:=by
 have HR:Hid (((Ev.cutN n m:Nat):Int)=min (max n 0) (m:Int)):=hid (by
  unfold Ev.cutN
  by_cases h1:n < 0
  ·rw [if_pos h1]; omega
  ·rw [if_neg h1]
   by_cases h2:n < (m:Int)
   ·rw [if_pos h2]; omega
   ·rw [if_neg h2]; omega)
 go_enter Tryz.func121,Tryz.ntmps121
 go_wp2_with fail
 go_ret
 exact ⟨by rw [HR.out]; rfl,rfl⟩
abbrev ovV (C:List Col) (Ac:Option Addr) (cc:Nat) (W:List V) (Ar:Option Addr) (cr:Nat):Value:=.agg #[.slice Ac C.length cc,.slice Ar W.length cr]
def Ev.colR (C:List Col) (W:List V) (t:List UInt8):R:=match Kd.ix C t with | none=>Ev.err 9 | some i=>Ev.ok (W.getD i Ev.z)
theorem column_any (C:List Col) (W:List V) (Ac Ar:Option Addr) (cc cr:Nat) (t:List UInt8) (w:World) (hA:ColsAt w Ac C) (hV:ValsAt w Ar W) (hC:C.length≤1000000) (hl:W.length=C.length) :
  Calls Tryz.prog 53 #[ovV C Ac cc W Ar cr,.string (tx t)] w fun e w'=>e=.returned (outR (Ev.colR C W t))∧Below w.heap.size w w':=by
 have b0:=(Below.refl w.heap.size w).alloc (Nat.le_refl _) (.cells #[.slice Ac C.length cc,.slice Ar W.length cr] 60)
 have b1:=b0.alloc (by simp) (.cells #[.int .i64 0,.int .i64 0,.string ⟨#[]⟩] 23)
 have k0:=(Whole.new w 60 #[.slice Ac C.length cc,.slice Ar W.length cr]).alloc (.cells #[.int .i64 0,.int .i64 0,.string ⟨#[]⟩] 23)
 have r0:=Row3.new (w.alloc (.cells #[.slice Ac C.length cc,.slice Ar W.length cr] 60)) 0 0 ⟨#[]⟩
 rw [World.size_alloc] at r0
 have FI:=hid (find_any C t Ac cc _ (hA.below b1) hC)
 have HV:=hid (hV.below b1)
 have B1:=hid b1
 have K0:=hid k0
 have R0:=hid r0
 have x0:=k0.cell 0
 have x1:=k0.cell 1
 simp only [List.getElem?_toArray,List.getElem?_cons_zero,List.getElem?_cons_succ] at x0 x1
 have HIX:=hid (fun i=>@Kd.ix_spec C t i)
 have HL:=hid hl
 clear hA hV hl b0 b1 k0 r0
 obtain ⟨ix,hix⟩:∃ ix,Kd.ix C t=ix:=⟨_,rfl⟩
 have HX:=hid hix
 rw [hix] at FI HIX
 clear hix
 unfold ovV at *
 have hC9:(C.length:Int)≤1000000:=by omega
 obtain ⟨m,hm⟩:∃ m,C.length=m:=⟨_,rfl⟩
 have HM:=hid hm
 rw [hm] at FI x0 B1 K0 R0 HV hC9 ⊢
 clear hm hC
 cases ix with
 | none=>
  have HR:Hid (Ev.colR C W t=Ev.err 9):=hid (by rw [Ev.colR,HX.out])
  have HXV:Hid (Kd.ixV none=-1):=hid rfl
  rw [HXV.out] at FI
  go_enter Tryz.func53,Tryz.ntmps53
  go_wp2_with fail
  refine FI.out.mono ?_
  rintro e w1 ⟨rfl,hb1⟩
  have B2:=hid (bstep B1.out hb1)
  have R1:=hid (R0.out.below hb1 R0.out.lt)
  clear hb1 FI x0 x1
  go_wp2_with fail
  refine (efail_any _ _).mono ?_
  rintro e w3 ⟨rfl,hb3⟩
  have R3:=hid (R1.out.below hb3 R1.out.lt)
  have B3:=hid (bstep B2.out hb3)
  clear hb3 R1 B2 R0 B1
  obtain ⟨d1,d2,d3⟩:=R3.out.holds
  have f0:=R3.out.frozen 0
  have f1:=R3.out.frozen 1
  have f2:=R3.out.frozen 2
  unfold outR vv vcells Ev.err Ev.z
  go_wp2_with fail
  exact fin_R Tryz.results53 rfl rfl rfl R3.out B3.out (by omega) (by rw [HR.out]; rfl)
 | some i=>
  obtain ⟨hi,-,-⟩:=HIX.out i rfl
  have hiW:i < W.length:=by rw [HL.out]; exact hi
  have hi9:(i:Int) < (m:Int):=by have:=HM.out; omega
  have hiw:(i:Int) < (W.length:Int):=by omega
  have HR:Hid (Ev.colR C W t=Ev.ok W[i]):=hid (by rw [Ev.colR,HX.out]; show Ev.ok (W.getD i Ev.z)=_; rw [List.getD_eq_getElem?_getD,List.getElem?_eq_getElem hiW]; rfl)
  have HXV:Hid (Kd.ixV (some i)=(i:Nat)):=hid rfl
  rw [HXV.out] at FI
  obtain ⟨x,hx⟩:∃ x,W[i]=x:=⟨_,rfl⟩
  have VAL:Hid (∀ w1,Below (w.heap.size + 1 + 1) ((w.alloc (.cells #[.slice Ac m cc,.slice Ar W.length cr] 60)).alloc (.cells #[.int .i64 0,.int .i64 0,.string ⟨#[]⟩] 23)) w1→∃ b o,Ar=some ⟨b,o,none⟩∧b < w1.heap.size∧w1.cell? ⟨b,o + i * 3,none⟩=some (.int .i64 x.k)∧w1.cell? ⟨b,o + i * 3 + 1,none⟩=some (.int .i64 x.n)∧w1.cell? ⟨b,o + i * 3 + 2,none⟩=some (.string (tx x.s))):=hid (fun w1 hb=>by rw [← hx]; exact (HV.out.below (by simpa using hb)) i hiW)
  rw [hx] at HR
  clear hx
  generalize W.length=wl at *
  go_enter Tryz.func53,Tryz.ntmps53
  go_wp2_with fail
  refine FI.out.mono ?_
  rintro e w1 ⟨rfl,hb1⟩
  obtain ⟨b,o,rfl,hbl,y0,y1,y2⟩:=VAL.out w1 (by simpa using hb1)
  have B2:=hid (bstep B1.out hb1)
  have R1:=hid (R0.out.below hb1 R0.out.lt)
  have k1:=K0.out.below hb1 K0.out.lt
  clear x0 x1
  have x0:=k1.cell 0
  have x1:=k1.cell 1
  simp only [List.getElem?_toArray,List.getElem?_cons_zero,List.getElem?_cons_succ] at x0 x1
  clear hb1 FI VAL R0 B1 k1
  obtain ⟨d1,d2,d3⟩:=R1.out.holds
  have f0:=R1.out.frozen 0
  have f1:=R1.out.frozen 1
  have f2:=R1.out.frozen 2
  go_wp2_with fail
  exact fin_R Tryz.results53 rfl rfl rfl R1.out B2.out (by omega) (by rw [HR.out]; rfl)
end Go.Proofs.YteghhmomhlnccaaGreatDoor
