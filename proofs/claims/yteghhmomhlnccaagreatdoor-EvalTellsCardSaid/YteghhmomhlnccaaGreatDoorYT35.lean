import Derived.Test.YteghhmomhlnccaaGreatDoorYT26
import Derived.Deep.LoopGhost
import Derived.Laws.IdiomStrings
import Derived.Deep.DeepCutAuto
set_option linter.unusedVariables false
set_option linter.unusedSimpArgs false
set_option maxRecDepth 100000
set_option maxHeartbeats 100000000
open Go.RowKit Go.Lib
namespace Go.Proofs.YteghhmomhlnccaaGreatDoor
def Made (u0 x:Nat) (l:List UInt8):Prop:=(l=[]∧x=u0)∨(l ≠ []∧decDigits u0=(if x=0 then [] else decDigits x) ++ l)
theorem Made.step {u0 x:Nat} {l:List UInt8} (h:Made u0 x l) (hr:0 < x∨l=[]):Made u0 (x / 10) (UInt8.ofNat (48 + x % 10) :: l):=by
 have key:decDigits x=(if x / 10=0 then [] else decDigits (x / 10)) ++ [UInt8.ofNat (48 + x % 10)]:=by
  by_cases hx:x < 10
  ·rw [dec_one hx,if_pos (by omega),Nat.mod_eq_of_lt hx]; rfl
  ·rw [dec_step hx,if_neg (by omega)]
 right
 refine ⟨by simp,?_⟩
 rcases h with ⟨rfl,rfl⟩ | ⟨h1,h2⟩
 ·rw [key]
 ·have hx:x ≠ 0:=by rcases hr with h | h; omega; exact absurd h h1
  rw [h2,if_neg hx,key,List.append_assoc]; rfl
theorem Made.done {u0 x:Nat} {l:List UInt8} (h:Made u0 x l) (hx:x=0) (hl:l ≠ []):l=decDigits u0:=by
 rcases h with ⟨h1,-⟩ | ⟨-,h2⟩
 ·exact absurd h1 hl
 ·rw [h2,if_pos hx]; rfl
theorem World.cell?_alloc_old' {w:World} {p:Addr} {o:Obj} {v:Value} (h:w.cell? p=some v):(w.alloc o).cell? p=w.cell? p:=by
 have hlt:=World.block_lt_of_cell? w _ h
 have hb:=(Below.refl w.heap.size w).alloc (Nat.le_refl _) o
 exact hb.cell hlt
def lastDigit (x:Int):UInt8:=UInt8.ofNat (48 + x.toNat % 10)
theorem glue (c:UInt8) (l:List UInt8):(⟨#[c]⟩:ByteArray) ++ ⟨l.toArray⟩=⟨(c :: l).toArray⟩:=by
 apply ByteArray.ext
 simp
theorem conv_one (w:World) (x:Int) (h0:0≤x):(convert 111 9 (.slice (some ⟨w.heap.size,0,none⟩) 1 1)).run Tryz.prog (w.alloc (.cells #[.int .u8 (48 + x % 10)] 5))=.ok (.string ⟨[lastDigit x].toArray⟩) (w.alloc (.cells #[.int .u8 (48 + x % 10)] 5)):=
 run_convert_bytes_back (P:=Tryz.prog) _ 111 9 5 ⟨w.heap.size,0,none⟩ 1 [lastDigit x] Tryz.underlying111 Tryz.underlying5 Tryz.underlying9 (fun j hj=>by
  have hj0:j=0:=by simpa using hj
  subst hj0
  have e:((⟨w.heap.size,0,none⟩:Addr).add 0)=⟨w.heap.size,0,none⟩:=Addr.add_lit ..
  rw [e,cell_of_row _ _ 0 _ _ _ (heap_alloc_new w _)]
  simp only [List.getElem?_toArray,List.getElem?_cons_zero,List.getElem_cons_zero]
  unfold lastDigit
  rw [ofNat_dig _ (by omega)]
  congr 3; omega)
theorem pow_step {x j:Nat} (h:x < 10 ^ (j + 1)):x / 10 < 10 ^ j:=by
 rw [Nat.pow_succ] at h
 exact Nat.div_lt_of_lt_mul (by omega)
theorem refprint_walk (sg:Bool) (a:Int) (m0 m1:Int) (u0:Nat) (w:World) (hm0:Part m0) (hm1:Part m1) (hu:m1 * 4294967296 + m0=u0)
  (hof:∀ w:World,Calls Tryz.prog 42 #[.int .i64 a] w fun e w'=>e=.returned (wide sg m0 m1 0 0 0)∧Below w.heap.size w w') :
  Calls Tryz.prog 43 #[.int .i64 a] w fun e w'=>e=.returned (.string ⟨(if sg then 45 :: decDigits u0 else decDigits u0).toArray⟩)∧Below w.heap.size w w':=by
 have HO:=hid hof
 have HU:=hid hu
 clear hof hu
 obtain ⟨a0,b0⟩:=hm0
 obtain ⟨a1,b1⟩:=hm1
 go_enter Tryz.func43,Tryz.ntmps43
 go_wp2_with fail
 refine (HO.out _).mono ?_
 rintro e w1 ⟨rfl,hb1⟩
 have B1:=hid hb1
 clear hb1
 go_wp2
 generalize hX:m1 * 4294967296 + m0=X at *
 have HX:=hid hX
 have X0:0≤X:=by omega
 have X1:X≤18446744073709551615:=by omega
 clear hX
 go_loopg [4,5] 21 (fun j u4 s5 wr=>∃ (x:Int) (l:List UInt8),0≤x∧x≤18446744073709551615∧u4=.int .u64 x∧s5=.string ⟨l.toArray⟩∧Hid (Made u0 x.toNat l∧l.length + j=21∧x.toNat < 10 ^ j∧wr.cell? ⟨w1.heap.size,0,none⟩=some (.bool sg)∧w1.heap.size < wr.heap.size∧Below w.heap.size w wr))
 case atStart=>exact ⟨X,[],X0,X1,rfl,rfl,hid ⟨Or.inl ⟨rfl,by have:=HU.out; omega⟩,rfl,by have:(10:Nat) ^ 21=1000000000000000000000:=rfl; omega,by rw [cell_of_row _ _ 0 _ _ _ (heap_alloc_new w1 _)]; rfl,by simp,B1.out.alloc B1.out.size _⟩⟩
 case round=>
  obtain ⟨x,l,x0,x1,rfl,rfl,H⟩:=hrel
  have hcv:=conv_one wr x x0
  have hl:l.length≤21:=by have:=H.out.2.1; omega
  have hcell:=H.out.2.2.2.1
  have NXT:0 < x.toNat∨l=[]→Hid (∃ k,gk=k + 1∧Made u0 (x / 10).toNat (lastDigit x :: l)∧(lastDigit x :: l).length + k=21∧(x / 10).toNat < 10 ^ k∧(wr.alloc (.cells #[.int .u8 (48 + x % 10)] 5)).cell? ⟨w1.heap.size,0,none⟩=some (.bool sg)∧w1.heap.size < (wr.alloc (.cells #[.int .u8 (48 + x % 10)] 5)).heap.size∧Below w.heap.size w (wr.alloc (.cells #[.int .u8 (48 + x % 10)] 5))):=fun hr=>hid (by
   obtain ⟨h1,h2,h3,h4,h5,h6⟩:=H.out
   have hj:gk ≠ 0:=by
    intro e0
    rw [e0] at h2 h3
    rw [Nat.pow_zero] at h3
    rcases hr with hr | hr
    ·omega
    ·rw [hr] at h2; simp at h2
   obtain ⟨k,hk⟩:=Nat.exists_eq_succ_of_ne_zero hj
   rw [hk] at h2 h3
   have e:(x / 10).toNat=x.toNat / 10:=by omega
   refine ⟨k,hk,by rw [e]; exact h1.step hr,by simp; omega,by rw [e]; exact pow_step h3,?_,by simp; omega,h6.alloc h6.size _⟩
   rw [World.cell?_alloc_old' h4]; exact h4)
  by_cases hx:x > 0
  ·have N:=NXT (Or.inl (by omega))
   clear NXT hcell
   obtain ⟨k,hk,hn⟩:=N.out
   have HK:=hid hk
   have HN:=hid hn
   clear N hk hn
   go_wp2
   go_roundg k
   case measure=>have:=HK.out; omega
   case rel=>exact ⟨x / 10,lastDigit x :: l,by omega,by omega,rfl,by rw [glue],HN⟩
  ·have hx0:x=0:=by omega
   by_cases hn:l=[]
   ·subst hn
    have N:=NXT (Or.inr rfl)
    clear NXT hcell
    obtain ⟨k,hk,hn⟩:=N.out
    have HK:=hid hk
    have HN:=hid hn
    clear N hk hn
    clear hx0
    go_wp2
    go_roundg k
    case measure=>have:=HK.out; omega
    case rel=>exact ⟨x / 10,[lastDigit x],by omega,by omega,rfl,rfl,HN⟩
   ·clear NXT hcv
    have hd:Hid (l=decDigits u0):=hid (H.out.1.done (by omega) hn)
    have hb:=hid H.out.2.2.2.2.2
    have he:l.isEmpty=false:=by cases l; exact absurd rfl hn; rfl
    clear H hn hx0
    cases sg
    ·go_wp2
     go_ret
     exact ⟨congrArg (fun b=>Ending.returned (.string ⟨b⟩)) (congrArg List.toArray hd.out),hb.out⟩
    ·go_wp2
     go_ret
     exact ⟨congrArg (fun b=>Ending.returned (.string b)) ((glue 45 l).trans (congrArg (fun z=>(⟨(45 :: z).toArray⟩:ByteArray)) hd.out)),hb.out⟩
end Go.Proofs.YteghhmomhlnccaaGreatDoor
namespace Go.Proofs.YteghhmomhlnccaaGreatDoor
theorem refprint_any (a:Int) (w:World) (ha:Fits a):Calls Tryz.prog 43 #[.int .i64 a] w fun e w'=>e=.returned (.string ⟨(itoa a).toArray⟩)∧Below w.heap.size w w':=by
 obtain ⟨a1,a2⟩:=ha
 by_cases h:a < 0
 ·have e:itoa a=if (true=true) then 45 :: decDigits a.natAbs else decDigits a.natAbs:=by simp [itoa,h]
  rw [e]
  have K:=fun w=>of_neg (-a) w (by omega) (by omega)
  simp only [Int.neg_neg] at K
  exact refprint_walk true a _ _ a.natAbs w ⟨by omega,by omega⟩ ⟨by omega,by omega⟩ (by omega) K
 ·have e:itoa a=if (false=true) then 45 :: decDigits a.toNat else decDigits a.toNat:=by simp [itoa,h]
  rw [e]
  exact refprint_walk false a _ _ a.toNat w ⟨by omega,by omega⟩ ⟨by omega,by omega⟩ (by omega) (fun w=>of_pos a w (by omega) a2)
end Go.Proofs.YteghhmomhlnccaaGreatDoor
