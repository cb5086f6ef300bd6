import Derived.Test.YteghhmomhlnccaaGreatDoorYP2
import Derived.Test.YteghhmomhlnccaaGreatDoorRows
import Derived.WalkKit
import Derived.ProofKit
import Derived.OpenShut
import Derived.IntWalk
import Derived.Lib.Hide
import Derived.LaidEql
import Derived.Stop.Asserts
import Derived.RowKitTokens
import Derived.WalkSmall
import Derived.Lib.AppendIntMem
import Derived.Test.YteghhmomhlnccaaGreatDoorYP3
import Derived.Test.YteghhmomhlnccaaGreatDoorYP4
set_option linter.unusedVariables false
set_option linter.unusedSimpArgs false
namespace Go.Proofs.YteghhmomhlnccaaGreatDoor
open Go.RowKit Go.Lib
def allD (l : List UInt8) : Bool := l.all dig
theorem take_snoc' (s : ByteArray) (k : Nat) (h : k < s.size) : s.data.toList.take (k + 1) = s.data.toList.take k ++ [s[k]] := by
 rw [List.take_succ_eq_append_getElem (by simpa using h)]; rfl
set_option maxRecDepth 100000 in
theorem alldigits_any (d : ByteArray) (w : World) (hs : d.size ≤ 1000000) :
  Calls Tryz.prog 164 #[.string d] w fun e w' => e = .returned (.bool (allD d.data.toList)) ∧ w' = w := by
 go_enter Tryz.func164, Tryz.ntmps164
 go_wp2
 go_loop [6] (fun i => ∃ k : Nat, k ≤ d.size ∧ i = .int .i64 k ∧ Hid (∀ c ∈ d.data.toList.take k, dig c = true)) (fun i => d.size - (RowKit.intOf i).toNat)
 case atStart => exact ⟨0, Nat.zero_le _, rfl, Lib.hid (by simp)⟩
 case round =>
  obtain ⟨k, hk, rfl, H⟩ := hrel
  by_cases hlt : k < d.size
  ·by_cases c48 : (d[k].toNat : Int) < 48
   ·have NA : Hid (allD d.data.toList = false) := Lib.hid (by unfold allD; rw [List.all_eq_false]; exact ⟨d[k], List.getElem_mem (l := d.data.toList) (by simpa using hlt), by simp [dig]; omega⟩)
    go_wp2
    go_ret
    exact ⟨by rw [NA.out]; rfl, rfl⟩
   ·by_cases c57 : (d[k].toNat : Int) > 57
    ·have NA : Hid (allD d.data.toList = false) := Lib.hid (by unfold allD; rw [List.all_eq_false]; exact ⟨d[k], List.getElem_mem (l := d.data.toList) (by simpa using hlt), by simp [dig]; omega⟩)
     go_wp2
     go_ret
     exact ⟨by rw [NA.out]; rfl, rfl⟩
    ·have DG : Hid (∀ c ∈ d.data.toList.take (k + 1), dig c = true) := Lib.hid (by
      rw [take_snoc' d k hlt]
      intro c hc
      rw [List.mem_append] at hc
      rcases hc with hc | hc
      ·exact H.out c hc
      ·simp only [List.mem_singleton] at hc; subst hc; simp [dig]; omega)
     go_wp2
     go_round
     case rel => exact ⟨k + 1, by omega, by go_num, DG⟩
     case measure => simp [RowKit.intOf]; omega
  ·have AA : Hid (allD d.data.toList = true) := Lib.hid (by
    unfold allD
    rw [List.all_eq_true]
    have h := H.out
    rwa [List.take_of_length_le (by simp; omega)] at h)
   go_wp2
   go_ret
   exact ⟨by rw [AA.out]; rfl, rfl⟩
def lk (l : List UInt8) (b : Bool) : Bool := l != [] && allD l && ((l.head?.map (·.toNat) != some 48) || (l.length == 1 && !b))
set_option maxRecDepth 100000 in
theorem looks_walk (s d : ByteArray) (b : Bool) (w : World) (hs : d.size ≤ 1000000)
  (hcut : ∀ w, Calls Tryz.prog 163 #[.string s, .string ⟨#[45]⟩] w fun e w' => e = .returned (.tuple #[.string d, .bool b]) ∧ w' = w) :
  Calls Tryz.prog 146 #[.string s] w fun e w' => e = .returned (.bool (lk d.data.toList b)) ∧ w' = w := by
 have HC := Lib.hid hcut
 clear hcut
 by_cases hz : d.size = 0
 ·have hde : d = ByteArray.empty := by
   apply ByteArray.ext
   exact Array.eq_empty_of_size_eq_zero hz
  subst hde
  clear hz
  go_enter Tryz.func146, Tryz.ntmps146
  go_wp2_with fail
  refine (HC.out _).mono ?_
  rintro e w' ⟨rfl, rfl⟩
  go_wp2
  go_ret
  exact ⟨rfl, rfl⟩
 ·have hz' : 0 < d.size := by omega
  have hhd : d.data.toList.head? = some d[0] := by rw [List.head?_eq_getElem?, List.getElem?_eq_getElem (by simpa using hz')]; rfl
  have HHD := Lib.hid hhd
  have HNE : Hid (d.data.toList ≠ []) := Lib.hid (by intro e; rw [e] at hhd; cases hhd)
  have AC := Lib.hid fun w => alldigits_any d w hs
  have he : d.toList.isEmpty = false := by
   rw [Lib.toList_data]
   cases hq : d.data.toList with
   | nil => exact absurd hq HNE.out
   | cons c r => rfl
  clear hz hhd
  cases ha : allD d.data.toList
  ·have HA := Lib.hid ha
   have AC' := Lib.hid fun w => ha ▸ AC.out w
   clear ha
   go_enter Tryz.func146, Tryz.ntmps146
   go_wp2_with fail
   refine (HC.out _).mono ?_
   rintro e w' ⟨rfl, rfl⟩
   go_wp2_with fail
   refine (AC'.out _).mono ?_
   rintro e w' ⟨rfl, rfl⟩
   go_wp2
   go_ret
   exact ⟨by rw [lk, HA.out]; simp, rfl⟩
  ·have HA := Lib.hid ha
   have AC' := Lib.hid fun w => ha ▸ AC.out w
   clear ha
   by_cases h48 : (d[0].toNat : Int) = 48
   ·have hb48 : ((d[0].toNat : Int) == 48) = true := by rw [beq_iff_eq]; exact h48
    have hb48' : ((d[0].toNat : Int) != 48) = false := by rw [bne, hb48]; rfl
    have e1 : Hid (d.data.toList.head?.map (·.toNat) = some 48) := Lib.hid (by
     rw [HHD.out]
     simp only [Option.map_some]; congr 1; omega)
    clear h48
    by_cases h1 : d.size = 1
    ·have hs1 : ((d.size : Int) == 1) = true := by rw [beq_iff_eq]; omega
     have HL : Hid (d.data.toList.length = 1) := Lib.hid (by simpa using h1)
     clear h1
     cases b <;> (
      go_enter Tryz.func146, Tryz.ntmps146
      go_wp2_with fail
      refine (HC.out _).mono ?_
      rintro e w' ⟨rfl, rfl⟩
      go_wp2_with fail
      refine (AC'.out _).mono ?_
      rintro e w' ⟨rfl, rfl⟩
      go_wp2
      go_ret
      exact ⟨by rw [lk, HA.out, e1.out, HL.out]; simp [HNE.out], rfl⟩)
    ·have hs1 : ((d.size : Int) == 1) = false := by rw [beq_eq_false_iff_ne]; omega
     have HL : Hid (d.data.toList.length ≠ 1) := Lib.hid (by simpa using h1)
     clear h1
     go_enter Tryz.func146, Tryz.ntmps146
     go_wp2_with fail
     refine (HC.out _).mono ?_
     rintro e w' ⟨rfl, rfl⟩
     go_wp2_with fail
     refine (AC'.out _).mono ?_
     rintro e w' ⟨rfl, rfl⟩
     go_wp2
     go_ret
     exact ⟨by rw [lk, HA.out, e1.out]; simp [HNE.out]; exact fun h => absurd (by simpa using h) HL.out, rfl⟩
   ·have hb48 : ((d[0].toNat : Int) == 48) = false := by rw [beq_eq_false_iff_ne]; exact h48
    have hb48' : ((d[0].toNat : Int) != 48) = true := by rw [bne, hb48]; rfl
    have e1 : Hid (d.data.toList.head?.map (·.toNat) ≠ some 48) := Lib.hid (by
     rw [HHD.out]
     simp only [Option.map_some, ne_eq, Option.some.injEq]; omega)
    clear h48
    go_enter Tryz.func146, Tryz.ntmps146
    go_wp2_with fail
    refine (HC.out _).mono ?_
    rintro e w' ⟨rfl, rfl⟩
    go_wp2_with fail
    refine (AC'.out _).mono ?_
    rintro e w' ⟨rfl, rfl⟩
    go_wp2
    go_ret
    have hh : (d.data.toList.head?.map (·.toNat) != some 48) = true := bne_iff_ne.2 e1.out
    have hn : (d.data.toList != []) = true := bne_iff_ne.2 HNE.out
    exact ⟨by rw [lk, HA.out, hh, hn]; rfl, rfl⟩
theorem cut_minus (s : ByteArray) (w : World) : Calls Tryz.prog 163 #[.string s, .string ⟨#[45]⟩] w fun e w' => e = .returned (.tuple #[.string ⟨(body s.data.toList).toArray⟩, .bool (minus s.data.toList)]) ∧ w' = w := by
 have h := Tryz.strings_CutPrefix s ⟨#[45]⟩ w
 have e1 : Lib.hasPrefix s.data.toList (⟨#[45]⟩ : ByteArray).data.toList = minus s.data.toList := by
  unfold Lib.hasPrefix minus
  show List.isPrefixOf [45] s.data.toList = _
  cases hq : s.data.toList with
  | nil => rfl
  | cons c r =>
   simp only [List.isPrefixOf, List.head?_cons, Option.map_some, Bool.and_true]
   rw [Bool.eq_iff_iff]
   simp only [beq_iff_eq, Option.some.injEq]
   constructor
   ·intro h; rw [← h]; rfl
   ·intro h; exact (UInt8.toNat_inj.1 h).symm
 have e2 : Lib.trimPrefix s.data.toList (⟨#[45]⟩ : ByteArray).data.toList = body s.data.toList := by
  unfold Lib.trimPrefix
  rw [e1]
  unfold body
  by_cases hm : minus s.data.toList = true
  ·rw [if_pos hm, if_pos hm]
   show s.data.toList.drop 1 = _
   rw [List.drop_one]
  ·rw [if_neg hm, if_neg hm]
 rwa [e1, e2] at h
theorem looks_any (s : ByteArray) (w : World) (hs : s.size ≤ 1000000) :
  Calls Tryz.prog 146 #[.string s] w fun e w' => e = .returned (.bool (looks s.data.toList)) ∧ w' = w := by
 have hl : (⟨(body s.data.toList).toArray⟩ : ByteArray).size ≤ 1000000 := by
  show (body s.data.toList).toArray.size ≤ 1000000
  have hss : s.data.toList.length = s.size := by simp
  unfold body
  split
  ·simp; omega
  ·simp; omega
 exact looks_walk s ⟨(body s.data.toList).toArray⟩ (minus s.data.toList) w hl (fun w => cut_minus s w)
end Go.Proofs.YteghhmomhlnccaaGreatDoor
namespace Go.Proofs.YteghhmomhlnccaaGreatDoor
open Go.RowKit Go.Extern.Stop Go.Stop Go.Extern
theorem isTypeOf (v : Value) (w : World) : (Extern.ReflectliteType.typeOf #[.iface 242 v]).run Tryz.prog w = .ok (.iface 204 (.agg #[.pointer (some ⟨8, 242, none⟩)])) w := by kernel_rfl
theorem isComparable (w : World) : ((Extern.ReflectliteType.method fun t => do Extern.Rtype.noPackHeld "Comparable" t; (fun a => Value.bool a.comparable) <$> typeInfo t) #[.agg #[.pointer (some ⟨8, 242, none⟩)]]).run Tryz.prog w = .ok (.bool true) w := by kernel_rfl
theorem isMethodComparable (v : Value) (w : World) : (Go.method 383 204 v "Comparable").run Tryz.prog w = .ok (254, v) w := by kernel_rfl
theorem isComp : (Tryz.prog.info? 242).map (·.comparable) = some true := by kernel_rfl
theorem isSize : (Tryz.prog.info? 244).map (·.size) = some 1 := by kernel_rfl
theorem noIsE (v : Value) (xT : TypeId) (w : World) : (Instr.typeAssert (.iface 242 v) xT 206 true).run Tryz.prog w = .ok (.tuple #[.nilIface, .bool false]) w := run_typeAssert_lacksB Tryz.underlying206 (by kernel_rfl) (by kernel_rfl) v xT w
theorem noUnwrapE (v : Value) (xT : TypeId) (w : World) : (Instr.typeAssert (.iface 242 v) xT 209 true).run Tryz.prog w = .ok (.tuple #[.nilIface, .bool false]) w := run_typeAssert_lacksB Tryz.underlying209 (by kernel_rfl) (by kernel_rfl) v xT w
theorem noUnwrapsE (v : Value) (xT : TypeId) (w : World) : (Instr.typeAssert (.iface 242 v) xT 211 true).run Tryz.prog w = .ok (.tuple #[.nilIface, .bool false]) w := run_typeAssert_lacksB Tryz.underlying211 (by kernel_rfl) (by kernel_rfl) v xT w
theorem noIsW (v : Value) (xT : TypeId) (w : World) : (Instr.typeAssert (.iface 200 v) xT 206 true).run Tryz.prog w = .ok (.tuple #[.nilIface, .bool false]) w := run_typeAssert_lacksB Tryz.underlying206 (by kernel_rfl) (by kernel_rfl) v xT w
theorem hasUnwrapW (v : Value) (xT : TypeId) (w : World) : (Instr.typeAssert (.iface 200 v) xT 209 true).run Tryz.prog w = .ok (.tuple #[.iface 200 v, .bool true]) w := run_typeAssert_hasB Tryz.underlying209 (by kernel_rfl) v xT w
theorem methodUnwrap (v : Value) (w : World) : (Go.method 383 200 v "Unwrap").run Tryz.prog w = .ok (250, v) w := by kernel_rfl
theorem is_nil (b : Addr) (w : World) :
  Calls Tryz.prog 148 #[.nilIface, .iface 242 (.pointer (some b))] w fun e w' => e = .returned (.bool false) ∧ w' = w := by
 have hn := run_eql_iface_nil_left (P := Tryz.prog) w 242 (.pointer (some b)) Tryz.underlying168
 go_enter Tryz.func148, Tryz.ntmps148
 go_wp2
 go_ret
 exact ⟨rfl, rfl⟩
set_option maxRecDepth 100000 in
theorem is_wrap_same (pb po : Nat) (b : Addr) (w : World) (h1 : w.cell? ⟨pb, po + 2, none⟩ = some (.iface 242 (.pointer (some b)))) :
  Calls Tryz.prog 148 #[.iface 200 (.pointer (some ⟨pb, po, none⟩)), .iface 242 (.pointer (some b))] w fun e w' => e = .returned (.bool true) ∧ w' = w := by
 obtain ⟨i, hi, hcmp⟩ := Option.map_eq_some_iff.1 isComp
 obtain ⟨j, hj, hjs⟩ := Option.map_eq_some_iff.1 isSize
 have h8 := @run_callFunc_extern Tryz.prog 167 _ Extern.ReflectliteType.typeOf Tryz.func167 (by kernel_rfl) (by kernel_rfl) (by kernel_rfl) (by kernel_rfl)
 have h32 := @run_callFunc_extern Tryz.prog 254 _ (Extern.ReflectliteType.method fun t => do Extern.Rtype.noPackHeld "Comparable" t; pure (.bool (← typeInfo t).comparable)) Tryz.func254 (by kernel_rfl) (by kernel_rfl) (by kernel_rfl) (by kernel_rfl)
 have tT := isTypeOf
 have mR := isMethodComparable
 have mU := methodUnwrap
 have cT := isComparable
 have nE := noIsE
 have uE := noUnwrapE
 have vE := noUnwrapsE
 have nW := noIsW
 have uW := hasUnwrapW
 have heq := run_eql_iface_ptr_same (P := Tryz.prog) w b Tryz.underlying168 Tryz.underlying242 hi hcmp hj
 have hty := run_eql_iface_types (P := Tryz.prog) 200 242 (.pointer (some ⟨pb, po, none⟩)) (.pointer (some b)) Tryz.underlying168 (by decide) w
 go_enter Tryz.func148, Tryz.ntmps148
 go_wp2
 refine wp_loop_rounds 2 ?_
 rw [rounds_succ]
 go_wp2
 rw [rounds_succ]
 go_wp2
 go_ret
 exact ⟨rfl, rfl⟩
end Go.Proofs.YteghhmomhlnccaaGreatDoor
namespace Go.Proofs.YteghhmomhlnccaaGreatDoor
open Go.RowKit Go.Lib
theorem read_no (s : ByteArray) (w : World) (hs : s.size ≤ 6000) (hl : looks s.data.toList = false) :
  Calls Tryz.prog 120 #[.string s] w fun e w' => e = .returned (.tuple #[.int .i64 0, .int .i64 6]) ∧ Below w.heap.size w w' := by
 have L := fun w => looks_any s w (by omega)
 rw [hl] at L
 have LL := Lib.hid L
 clear L hl
 go_enter Tryz.func120, Tryz.ntmps120
 go_wp2_with fail
 refine (LL.out _).mono ?_
 rintro e w' ⟨rfl, rfl⟩
 go_wp2
 go_ret2
 exact ⟨rfl, Below.refl _ _⟩
theorem read_ok (s : ByteArray) (w : World) (hs : s.size ≤ 6000) (hl : looks s.data.toList = true) (v : Int) (hv : Lib.parseIntB 64 s.data.toList = .ok v) (a : Addr) (hc : w.cell? ⟨0, 0, none⟩ = some (.iface 242 (.pointer (some a)))) :
  Calls Tryz.prog 120 #[.string s] w fun e w' => e = .returned (.tuple #[.int .i64 v, .int .i64 0]) ∧ Below w.heap.size w w' := by
 have L := fun w => looks_any s w (by omega)
 rw [hl] at L
 have LL := Lib.hid L
 have PP := Lib.hid fun w => Tryz.strconv_ParseInt_10_at64_ok s (by omega) v hv w
 have hlt := World.block_lt_of_cell? w _ hc
 have HC := Lib.hid hc
 clear L hl hv hc
 go_enter Tryz.func120, Tryz.ntmps120
 go_wp2_with fail
 refine (LL.out _).mono ?_
 rintro e w' ⟨rfl, rfl⟩
 go_wp2_with fail
 refine (PP.out _).mono ?_
 rintro e w2 ⟨rfl, hw⟩
 have hb : Below w'.heap.size w' w2 := by
  rcases hw with rfl | ⟨t, rfl⟩
  ·exact Below.refl _ _
  ·exact Lib.bytesWorld_below ..
 have c2 : w2.cell? ⟨0, 0, none⟩ = some (.iface 242 (.pointer (some a))) := (hb.cell hlt).trans HC.out
 have HB := Lib.hid hb
 clear hw hb
 go_wp2_with fail
 refine (is_nil a _).mono ?_
 rintro e w' ⟨rfl, rfl⟩
 go_wp2
 go_ret2
 exact ⟨rfl, HB.out⟩
theorem read_range (s : ByteArray) (w : World) (hs : s.size ≤ 6000) (hl : looks s.data.toList = true) (hv : Lib.parseIntB 64 s.data.toList = .range) (a : Addr) (hc : w.cell? ⟨0, 0, none⟩ = some (.iface 242 (.pointer (some a)))) (hvar : w.var? Tryz.prog "strconv.ErrRange" = some #[.iface 242 (.pointer (some a))]) :
  Calls Tryz.prog 120 #[.string s] w fun e w' => e = .returned (.tuple #[.int .i64 0, .int .i64 4]) ∧ Below w.heap.size w w' := by
 have L := fun w => looks_any s w (by omega)
 rw [hl] at L
 have LL := Lib.hid L
 have PP := Lib.hid (Tryz.strconv_ParseInt_10_at64_range_var s (by omega) hv 242 (.pointer (some a)) w hvar)
 have hlt := World.block_lt_of_cell? w _ hc
 have HC := Lib.hid hc
 clear L hl hv hc hvar
 go_enter Tryz.func120, Tryz.ntmps120
 go_wp2_with fail
 refine (LL.out _).mono ?_
 rintro e w' ⟨rfl, rfl⟩
 go_wp2_with fail
 refine (PP.out).mono ?_
 rintro e w2 ⟨N, rfl, hN, hrow, hb⟩
 have c2 : w2.cell? ⟨0, 0, none⟩ = some (.iface 242 (.pointer (some a))) := (hb.cell hlt).trans HC.out
 have CN : Hid (w2.cell? ⟨N, 0 + 2, none⟩ = some (.iface 242 (.pointer (some a)))) := Lib.hid (cell_of_row w2 N 2 _ _ _ hrow)
 have HB := Lib.hid hb
 clear hb hrow
 go_wp2_with fail
 refine (is_wrap_same N 0 a _ CN.out).mono ?_
 rintro e w' ⟨rfl, rfl⟩
 go_wp2
 go_ret2
 exact ⟨rfl, HB.out⟩
theorem read_any (s : ByteArray) (w : World) (hs : s.size ≤ 6000) (a : Addr) (hc : w.cell? ⟨0, 0, none⟩ = some (.iface 242 (.pointer (some a)))) (hvar : w.var? Tryz.prog "strconv.ErrRange" = some #[.iface 242 (.pointer (some a))]) :
  Calls Tryz.prog 120 #[.string s] w fun e w' => e = .returned (.tuple #[.int .i64 (rv s.data.toList), .int .i64 (re s.data.toList)]) ∧ Below w.heap.size w w' := by
 cases hl : looks s.data.toList
 ·rw [show rv s.data.toList = 0 by simp [rv, hl], show re s.data.toList = 6 by simp [re, hl]]
  exact read_no s w hs hl
 ·have hp := parse_looks s.data.toList hl
  by_cases hf : Fits (signed (minus s.data.toList) (dv 0 (body s.data.toList)))
  ·rw [if_pos hf] at hp
   rw [show rv s.data.toList = signed (minus s.data.toList) (dv 0 (body s.data.toList)) by rw [rv, if_pos hl, sv, if_pos hf], show re s.data.toList = 0 by rw [re, if_pos hl, se, if_pos hf]]
   exact read_ok s w hs hl _ hp a hc
  ·rw [if_neg hf] at hp
   rw [show rv s.data.toList = 0 by rw [rv, if_pos hl, sv, if_neg hf], show re s.data.toList = 4 by rw [re, if_pos hl, se, if_neg hf]]
   exact read_range s w hs hl hp a hc hvar
theorem print_any (n : Int) (w : World) (hn : Fits n) (htab : Lib.TabIs Tryz.prog w powName .u64 Lib.pow10Tab) :
  Calls Tryz.prog 119 #[.int .i64 n] w fun e w' => e = .returned (.string ⟨(itoa n).toArray⟩) ∧ Below w.heap.size w w' := by
 have F := Lib.hid (Tryz.strconv_FormatInt_10 n hn.1 hn.2 w htab)
 clear htab hn
 go_enter Tryz.func119, Tryz.ntmps119
 go_wp2_with fail
 refine (F.out).mono ?_
 rintro e w2 ⟨rfl, k, os, rfl⟩
 go_wp2
 go_ret
 exact ⟨rfl, Lib.below_grow _ _ (Nat.le_refl _) _ _⟩
end Go.Proofs.YteghhmomhlnccaaGreatDoor
namespace Go.Proofs.YteghhmomhlnccaaGreatDoor
open Go.RowKit Go.Lib
attribute [local go_sem ↓] eqVal neqVal
structure Env (w : World) (a : Addr) (m : Int) : Prop where
 tab : Lib.TabIs Tryz.prog w powName .u64 Lib.pow10Tab
 var : w.var? Tryz.prog "strconv.ErrRange" = some #[.iface 242 (.pointer (some a))]
 max : MaxAt w m
theorem errRange_at : Tryz.prog.globalNamed "strconv.ErrRange" = some 0 := by kernel_rfl
theorem pow10_lt : (Tryz.prog.globalNamed powName).all (fun g => decide (g < 8)) = true := by kernel_rfl
theorem pow10_at : ∃ g, Tryz.prog.globalNamed powName = some g ∧ g < 8 := by
 have h := pow10_lt
 have h2 : (Tryz.prog.globalNamed powName).isSome = true := by kernel_rfl
 obtain ⟨g, hg⟩ := Option.isSome_iff_exists.1 h2
 rw [hg] at h
 exact ⟨g, hg, by simpa using h⟩
theorem Env.cell {w : World} {a : Addr} {m : Int} (h : Env w a m) : w.cell? ⟨0, 0, none⟩ = some (.iface 242 (.pointer (some a))) := by
 rw [World.var?_cell errRange_at h.var 0]; rfl
theorem Env.below {w w' : World} {a : Addr} {m : Int} (h : Env w a m) (hb : Below w.heap.size w w') : Env w' a m := by
 obtain ⟨g, hg, -⟩ := pow10_at
 have c0 := World.block_lt_of_cell? w _ h.cell
 have c1 : w.cell? ⟨g, 0, none⟩ = some (.int .u64 1) := by
  rw [World.var?_cell hg h.tab 0]; rfl
 have l1 := World.block_lt_of_cell? w _ c1
 exact ⟨var?_below hb hg l1 h.tab, var?_below hb errRange_at c0 h.var, h.max.below hb⟩
abbrev out (t : Told) : Value := .tuple #[val t.k t.n (str t.s), .int .i64 t.e]
set_option maxRecDepth 100000 in
set_option maxHeartbeats 1000000 in
theorem readText_yes (s : ByteArray) (w : World) (m : Int) (hm : MaxAt w m) (hs : s.size ≤ 6000) (q r : ByteArray) (hq : q = str (trimSuffix (trimPrefix s.data.toList [39]) [39])) (hr : r = str (replaceAll q.data.toList [39, 39] [39])) (hx : ((str (quo (cut r).data.toList)).toList == s.toList) = true) :
  Calls Tryz.prog 153 #[.string s] w fun e w' => e = .returned (.tuple #[val 2 0 (cut r), .int .i64 0]) ∧ Below w.heap.size w w' := by
 have HM := Lib.hid hm
 have hq6 : q.size ≤ 6000 := by
  have := trim_length s.data.toList
  have e : s.data.toList.length = s.size := by simp
  rw [hq]
  show (trimSuffix (trimPrefix s.data.toList [39]) [39]).toArray.size ≤ 6000
  rw [List.size_toArray]; omega
 have hr6 : r.size ≤ 6000 := by
  have := ra2_length _ q.data.toList (Nat.le_refl _)
  have e : q.data.toList.length = q.size := by simp
  rw [hr]
  show (replaceAll q.data.toList [39, 39] [39]).toArray.size ≤ 6000
  rw [List.size_toArray]; omega
 obtain ⟨p, hp⟩ : ∃ p, p = str (trimPrefix s.data.toList [39]) := ⟨_, rfl⟩
 have P1 : Hid (∀ w, Calls Tryz.prog 176 #[.string s, .string ⟨#[39]⟩] w fun e w' => e = .returned (.string p) ∧ w' = w) := Lib.hid (fun w => by rw [hp]; exact Tryz.strings_TrimPrefix s ⟨#[39]⟩ w)
 have P2 : Hid (∀ w, Calls Tryz.prog 175 #[.string p, .string ⟨#[39]⟩] w fun e w' => e = .returned (.string q) ∧ w' = w) := Lib.hid (fun w => by
  rw [hp, hq]
  exact Tryz.strings_TrimSuffix (str (trimPrefix s.data.toList [39])) ⟨#[39]⟩ w (by
   have h2 : (trimPrefix s.data.toList [39]).length ≤ s.data.toList.length := by unfold trimPrefix; split <;> simp
   have e : s.data.toList.length = s.size := by simp
   show (trimPrefix s.data.toList [39]).toArray.size ≤ _
   rw [List.size_toArray]; omega))
 have P3 : Hid (∀ w, MaxAt w m → Calls Tryz.prog 177 #[.string q, .string ⟨#[39, 39]⟩, .string ⟨#[39]⟩] w fun e w' => e = .returned (.string r) ∧ Below w.heap.size w w') := Lib.hid (fun w hm => by
  rw [hr]
  exact Tryz.strings_ReplaceAll q ⟨#[39, 39]⟩ ⟨#[39]⟩ m w (by omega) hm (by decide) (by
   have hc := Lib.countB_le ⟨#[39, 39]⟩ (by decide) q.size q (Nat.le_refl _)
   have e : (⟨#[39]⟩ : ByteArray).size = 1 := rfl
   rw [e]; omega))
 have P5 := Lib.hid (fun w (hm : MaxAt w m) => print_text (cut r) w (cut_size r) m hm)
 have P4 := Lib.hid (fun w => text_any r w (by omega))
 clear hm hq hr hp
 generalize cut r = v at *
 generalize str (quo v.data.toList) = x at *
 go_enter Tryz.func153, Tryz.ntmps153
 go_wp2_with fail
 refine (P1.out _).mono ?_
 rintro e w' ⟨rfl, rfl⟩
 go_wp2_with fail
 refine (P2.out _).mono ?_
 rintro e w' ⟨rfl, rfl⟩
 have R0 := Lib.hid (Row3.new w 0 0 ⟨#[]⟩)
 have B0 := Lib.hid ((Below.refl w.heap.size w).alloc (Nat.le_refl _) (.cells #[.int .i64 0, .int .i64 0, .string ⟨#[]⟩] 23))
 go_wp2_with fail
 refine (P3.out _ (HM.out.below B0.out)).mono ?_
 rintro e w1 ⟨rfl, hb1⟩
 have R1 := Lib.hid (R0.out.below hb1 R0.out.lt)
 have B1 := Lib.hid (bstep B0.out hb1)
 clear hb1 R0 B0
 go_wp2_with fail
 refine (P4.out _).mono ?_
 rintro e w2 ⟨rfl, hb2⟩
 have R2 := Lib.hid (R1.out.below hb2 R1.out.lt)
 have B2 := Lib.hid (bstep B1.out hb2)
 clear hb2 R1 B1
 go_wp2_with fail
 have R3 := Lib.hid (R2.out.alloc (.cells #[.int .i64 2, .int .i64 0, .string v] 23))
 have B3 := Lib.hid (B2.out.alloc B2.out.size (.cells #[.int .i64 2, .int .i64 0, .string v] 23))
 have V3 := Lib.hid (Holds3.new w2 2 0 v 23)
 refine (P5.out _ (HM.out.below B3.out)).mono ?_
 rintro e w4 ⟨rfl, hb4⟩
 have R4 := Lib.hid (R3.out.below hb4 R3.out.lt)
 have V4 := Lib.hid (V3.out.below hb4 V3.out.lt)
 have B4 := Lib.hid (bstep B3.out hb4)
 clear hb4 R3 B3 V3 R2 B2
 obtain ⟨c1, c2, c3⟩ := V4.out
 obtain ⟨d1, d2, d3⟩ := R4.out.holds
 have f0 := R4.out.frozen 0
 have f1 := R4.out.frozen 1
 have f2 := R4.out.frozen 2
 go_wp2
 have hb := (((B4.out).setCell (p := ⟨w.heap.size, 0, none⟩) (Nat.le_refl _) (.int .i64 2)).setCell (p := ⟨w.heap.size, 1, none⟩) (Nat.le_refl _) (.int .i64 0)).setCell (p := ⟨w.heap.size, 2, none⟩) (Nat.le_refl _) (.string v)
 have hq := R4.out.set3 2 0 v
 generalize ((w4.setCell ⟨w.heap.size, 0, none⟩ (.int .i64 2)).setCell ⟨w.heap.size, 1, none⟩ (.int .i64 0)).setCell ⟨w.heap.size, 2, none⟩ (.string v) = W at hb hq ⊢
 obtain ⟨q1, q2, q3⟩ := hq.holds
 exact bodyPost_ret (v := .tuple #[val 2 0 v, .int .i64 0]) (by simp [results, Tryz.results153, go_sem, q1, q2, q3]) rfl ⟨rfl, hb⟩
set_option maxRecDepth 100000 in
set_option maxHeartbeats 1000000 in
theorem readText_no (s : ByteArray) (w : World) (m : Int) (hm : MaxAt w m) (hs : s.size ≤ 6000) (q r : ByteArray) (hq : q = str (trimSuffix (trimPrefix s.data.toList [39]) [39])) (hr : r = str (replaceAll q.data.toList [39, 39] [39])) (hx : ((str (quo (cut r).data.toList)).toList == s.toList) = false) :
  Calls Tryz.prog 153 #[.string s] w fun e w' => e = .returned (.tuple #[val 0 0 ⟨#[]⟩, .int .i64 7]) ∧ Below w.heap.size w w' := by
 have HM := Lib.hid hm
 have hq6 : q.size ≤ 6000 := by
  have := trim_length s.data.toList
  have e : s.data.toList.length = s.size := by simp
  rw [hq]
  show (trimSuffix (trimPrefix s.data.toList [39]) [39]).toArray.size ≤ 6000
  rw [List.size_toArray]; omega
 have hr6 : r.size ≤ 6000 := by
  have := ra2_length _ q.data.toList (Nat.le_refl _)
  have e : q.data.toList.length = q.size := by simp
  rw [hr]
  show (replaceAll q.data.toList [39, 39] [39]).toArray.size ≤ 6000
  rw [List.size_toArray]; omega
 obtain ⟨p, hp⟩ : ∃ p, p = str (trimPrefix s.data.toList [39]) := ⟨_, rfl⟩
 have P1 : Hid (∀ w, Calls Tryz.prog 176 #[.string s, .string ⟨#[39]⟩] w fun e w' => e = .returned (.string p) ∧ w' = w) := Lib.hid (fun w => by rw [hp]; exact Tryz.strings_TrimPrefix s ⟨#[39]⟩ w)
 have P2 : Hid (∀ w, Calls Tryz.prog 175 #[.string p, .string ⟨#[39]⟩] w fun e w' => e = .returned (.string q) ∧ w' = w) := Lib.hid (fun w => by
  rw [hp, hq]
  exact Tryz.strings_TrimSuffix (str (trimPrefix s.data.toList [39])) ⟨#[39]⟩ w (by
   have h2 : (trimPrefix s.data.toList [39]).length ≤ s.data.toList.length := by unfold trimPrefix; split <;> simp
   have e : s.data.toList.length = s.size := by simp
   show (trimPrefix s.data.toList [39]).toArray.size ≤ _
   rw [List.size_toArray]; omega))
 have P3 : Hid (∀ w, MaxAt w m → Calls Tryz.prog 177 #[.string q, .string ⟨#[39, 39]⟩, .string ⟨#[39]⟩] w fun e w' => e = .returned (.string r) ∧ Below w.heap.size w w') := Lib.hid (fun w hm => by
  rw [hr]
  exact Tryz.strings_ReplaceAll q ⟨#[39, 39]⟩ ⟨#[39]⟩ m w (by omega) hm (by decide) (by
   have hc := Lib.countB_le ⟨#[39, 39]⟩ (by decide) q.size q (Nat.le_refl _)
   have e : (⟨#[39]⟩ : ByteArray).size = 1 := rfl
   rw [e]; omega))
 have P5 := Lib.hid (fun w (hm : MaxAt w m) => print_text (cut r) w (cut_size r) m hm)
 have P4 := Lib.hid (fun w => text_any r w (by omega))
 clear hm hq hr hp
 generalize cut r = v at *
 generalize str (quo v.data.toList) = x at *
 go_enter Tryz.func153, Tryz.ntmps153
 go_wp2_with fail
 refine (P1.out _).mono ?_
 rintro e w' ⟨rfl, rfl⟩
 go_wp2_with fail
 refine (P2.out _).mono ?_
 rintro e w' ⟨rfl, rfl⟩
 have R0 := Lib.hid (Row3.new w 0 0 ⟨#[]⟩)
 have B0 := Lib.hid ((Below.refl w.heap.size w).alloc (Nat.le_refl _) (.cells #[.int .i64 0, .int .i64 0, .string ⟨#[]⟩] 23))
 go_wp2_with fail
 refine (P3.out _ (HM.out.below B0.out)).mono ?_
 rintro e w1 ⟨rfl, hb1⟩
 have R1 := Lib.hid (R0.out.below hb1 R0.out.lt)
 have B1 := Lib.hid (bstep B0.out hb1)
 clear hb1 R0 B0
 go_wp2_with fail
 refine (P4.out _).mono ?_
 rintro e w2 ⟨rfl, hb2⟩
 have R2 := Lib.hid (R1.out.below hb2 R1.out.lt)
 have B2 := Lib.hid (bstep B1.out hb2)
 clear hb2 R1 B1
 go_wp2_with fail
 have R3 := Lib.hid (R2.out.alloc (.cells #[.int .i64 2, .int .i64 0, .string v] 23))
 have B3 := Lib.hid (B2.out.alloc B2.out.size (.cells #[.int .i64 2, .int .i64 0, .string v] 23))
 have V3 := Lib.hid (Holds3.new w2 2 0 v 23)
 refine (P5.out _ (HM.out.below B3.out)).mono ?_
 rintro e w4 ⟨rfl, hb4⟩
 have R4 := Lib.hid (R3.out.below hb4 R3.out.lt)
 have V4 := Lib.hid (V3.out.below hb4 V3.out.lt)
 have B4 := Lib.hid (bstep B3.out hb4)
 clear hb4 R3 B3 V3 R2 B2
 obtain ⟨c1, c2, c3⟩ := V4.out
 go_wp2_with fail
 clear c1 c2 c3
 refine (null_any _).mono ?_
 rintro e w5 ⟨rfl, hb5⟩
 have R5 := Lib.hid (R4.out.below hb5 R4.out.lt)
 have B5 := Lib.hid (bstep B4.out hb5)
 clear hb5
 obtain ⟨d1, d2, d3⟩ := R5.out.holds
 have f0 := R5.out.frozen 0
 have f1 := R5.out.frozen 1
 have f2 := R5.out.frozen 2
 go_wp2
 have hb := (((B5.out).setCell (p := ⟨w.heap.size, 0, none⟩) (Nat.le_refl _) (.int .i64 0)).setCell (p := ⟨w.heap.size, 1, none⟩) (Nat.le_refl _) (.int .i64 0)).setCell (p := ⟨w.heap.size, 2, none⟩) (Nat.le_refl _) (.string ⟨#[]⟩)
 have hq := R5.out.set3 0 0 ⟨#[]⟩
 generalize ((w5.setCell ⟨w.heap.size, 0, none⟩ (.int .i64 0)).setCell ⟨w.heap.size, 1, none⟩ (.int .i64 0)).setCell ⟨w.heap.size, 2, none⟩ (.string ⟨#[]⟩) = W at hb hq ⊢
 obtain ⟨q1, q2, q3⟩ := hq.holds
 exact bodyPost_ret (v := .tuple #[val 0 0 ⟨#[]⟩, .int .i64 7]) (by simp [results, Tryz.results153, go_sem, q1, q2, q3]) rfl ⟨rfl, hb⟩
theorem str_list (l : List UInt8) : (str l).toList = l := by rw [ByteArray.toList_eq]
theorem readText_any (s : ByteArray) (w : World) (m : Int) (hm : MaxAt w m) (hs : s.size ≤ 6000) (hh : s.data.toList.head? = some 39) :
  Calls Tryz.prog 153 #[.string s] w fun e w' => e = .returned (out (toldText s.data.toList)) ∧ Below w.heap.size w w' := by
 by_cases h : ∃ u : List UInt8, u.length ≤ 200 ∧ quo u = s.data.toList
 ·obtain ⟨u, hu, he⟩ := h
  have hc : cut (str u) = str u := cut_small (by show u.toArray.size ≤ 200; rw [List.size_toArray]; exact hu)
  rw [← he, toldText_quo u hu]
  have K := readText_yes s w m hm hs (str (esc u)) (str u) (by rw [← he, inside_quo]) (by show _ = str (replaceAll (esc u) [39, 39] [39]); rw [ra_unesc]) (by
   rw [hc, str_list, ByteArray.toList_eq, ← he]; simp)
  rw [hc] at K
  exact K
 ·have hn : ∀ u : List UInt8, u.length ≤ 200 → quo u ≠ s.data.toList := fun u hu he => h ⟨u, hu, he⟩
  rw [toldText_not _ hh hn]
  refine readText_no s w m hm hs _ _ rfl rfl ?_
  rw [beq_eq_false_iff_ne, str_list, ByteArray.toList_eq]
  refine hn _ ?_
  have := cut_size (str (replaceAll (str (trimSuffix (trimPrefix s.data.toList [39]) [39])).data.toList [39, 39] [39]))
  generalize cut (str (replaceAll (str (trimSuffix (trimPrefix s.data.toList [39]) [39])).data.toList [39, 39] [39])) = v at *
  have e : v.data.toList.length = v.size := by simp
  omega
theorem re_cases (l : List UInt8) : re l = 0 ∨ re l = 4 ∨ re l = 6 := by
 unfold re se
 split
 ·split <;> simp
 ·simp
set_option maxRecDepth 100000 in
set_option maxHeartbeats 1000000 in
theorem readInt_ok (s : ByteArray) (w : World) (a : Addr) (m : Int) (hv : Env w a m) (hs : s.size ≤ 6000) (x : Int) (hx : rv s.data.toList = x) (he : re s.data.toList = 0) :
  Calls Tryz.prog 154 #[.string s] w fun e w' => e = .returned (.tuple #[val 1 x ⟨#[]⟩, .int .i64 0]) ∧ Below w.heap.size w w' := by
 have R0 := Lib.hid (Row3.new w 0 0 ⟨#[]⟩)
 have B0 := Lib.hid ((Below.refl w.heap.size w).alloc (Nat.le_refl _) (.cells #[.int .i64 0, .int .i64 0, .string ⟨#[]⟩] 23))
 have E0 := Lib.hid (hv.below B0.out)
 have P := read_any s _ hs a E0.out.cell E0.out.var
 rw [hx, he] at P
 have PP := Lib.hid P
 clear P hv hx he
 go_enter Tryz.func154, Tryz.ntmps154
 go_wp2_with fail
 refine (PP.out).mono ?_
 rintro e w1 ⟨rfl, hb1⟩
 have R1 := Lib.hid (R0.out.below hb1 R0.out.lt)
 have B1 := Lib.hid (bstep B0.out hb1)
 clear hb1
 go_wp2_with fail
 refine (int_any _ _).mono ?_
 rintro e w5 ⟨rfl, hb5⟩
 have R5 := Lib.hid (R1.out.below hb5 R1.out.lt)
 have B5 := Lib.hid (bstep B1.out hb5)
 clear hb5 R0 B0 E0 PP
 obtain ⟨d1, d2, d3⟩ := R5.out.holds
 have f0 := R5.out.frozen 0
 have f1 := R5.out.frozen 1
 have f2 := R5.out.frozen 2
 go_wp2
 have hb := (((B5.out).setCell (p := ⟨w.heap.size, 0, none⟩) (Nat.le_refl _) (.int .i64 1)).setCell (p := ⟨w.heap.size, 1, none⟩) (Nat.le_refl _) (.int .i64 x)).setCell (p := ⟨w.heap.size, 2, none⟩) (Nat.le_refl _) (.string ⟨#[]⟩)
 have hq := R5.out.set3 1 x ⟨#[]⟩
 generalize ((w5.setCell ⟨w.heap.size, 0, none⟩ (.int .i64 1)).setCell ⟨w.heap.size, 1, none⟩ (.int .i64 x)).setCell ⟨w.heap.size, 2, none⟩ (.string ⟨#[]⟩) = W at hb hq ⊢
 obtain ⟨q1, q2, q3⟩ := hq.holds
 exact bodyPost_ret (v := .tuple #[val 1 x ⟨#[]⟩, .int .i64 0]) (by simp [results, Tryz.results154, go_sem, q1, q2, q3]) rfl ⟨rfl, hb⟩
set_option maxRecDepth 100000 in
set_option maxHeartbeats 1000000 in
theorem readInt_over (s : ByteArray) (w : World) (a : Addr) (m : Int) (hv : Env w a m) (hs : s.size ≤ 6000) (x : Int) (hx : rv s.data.toList = x) (he : re s.data.toList = 4) :
  Calls Tryz.prog 154 #[.string s] w fun e w' => e = .returned (.tuple #[val 0 0 ⟨#[]⟩, .int .i64 4]) ∧ Below w.heap.size w w' := by
 have R0 := Lib.hid (Row3.new w 0 0 ⟨#[]⟩)
 have B0 := Lib.hid ((Below.refl w.heap.size w).alloc (Nat.le_refl _) (.cells #[.int .i64 0, .int .i64 0, .string ⟨#[]⟩] 23))
 have E0 := Lib.hid (hv.below B0.out)
 have P := read_any s _ hs a E0.out.cell E0.out.var
 rw [hx, he] at P
 have PP := Lib.hid P
 clear P hv hx he
 go_enter Tryz.func154, Tryz.ntmps154
 go_wp2_with fail
 refine (PP.out).mono ?_
 rintro e w1 ⟨rfl, hb1⟩
 have R1 := Lib.hid (R0.out.below hb1 R0.out.lt)
 have B1 := Lib.hid (bstep B0.out hb1)
 clear hb1
 go_wp2_with fail
 refine (null_any _).mono ?_
 rintro e w5 ⟨rfl, hb5⟩
 have R5 := Lib.hid (R1.out.below hb5 R1.out.lt)
 have B5 := Lib.hid (bstep B1.out hb5)
 clear hb5 R0 B0 E0 PP
 obtain ⟨d1, d2, d3⟩ := R5.out.holds
 have f0 := R5.out.frozen 0
 have f1 := R5.out.frozen 1
 have f2 := R5.out.frozen 2
 go_wp2
 have hb := (((B5.out).setCell (p := ⟨w.heap.size, 0, none⟩) (Nat.le_refl _) (.int .i64 0)).setCell (p := ⟨w.heap.size, 1, none⟩) (Nat.le_refl _) (.int .i64 0)).setCell (p := ⟨w.heap.size, 2, none⟩) (Nat.le_refl _) (.string ⟨#[]⟩)
 have hq := R5.out.set3 0 0 ⟨#[]⟩
 generalize ((w5.setCell ⟨w.heap.size, 0, none⟩ (.int .i64 0)).setCell ⟨w.heap.size, 1, none⟩ (.int .i64 0)).setCell ⟨w.heap.size, 2, none⟩ (.string ⟨#[]⟩) = W at hb hq ⊢
 obtain ⟨q1, q2, q3⟩ := hq.holds
 exact bodyPost_ret (v := .tuple #[val 0 0 ⟨#[]⟩, .int .i64 4]) (by simp [results, Tryz.results154, go_sem, q1, q2, q3]) rfl ⟨rfl, hb⟩
set_option maxRecDepth 100000 in
set_option maxHeartbeats 1000000 in
theorem readInt_no (s : ByteArray) (w : World) (a : Addr) (m : Int) (hv : Env w a m) (hs : s.size ≤ 6000) (x : Int) (hx : rv s.data.toList = x) (he : re s.data.toList = 6) :
  Calls Tryz.prog 154 #[.string s] w fun e w' => e = .returned (.tuple #[val 0 0 ⟨#[]⟩, .int .i64 7]) ∧ Below w.heap.size w w' := by
 have R0 := Lib.hid (Row3.new w 0 0 ⟨#[]⟩)
 have B0 := Lib.hid ((Below.refl w.heap.size w).alloc (Nat.le_refl _) (.cells #[.int .i64 0, .int .i64 0, .string ⟨#[]⟩] 23))
 have E0 := Lib.hid (hv.below B0.out)
 have P := read_any s _ hs a E0.out.cell E0.out.var
 rw [hx, he] at P
 have PP := Lib.hid P
 clear P hv hx he
 go_enter Tryz.func154, Tryz.ntmps154
 go_wp2_with fail
 refine (PP.out).mono ?_
 rintro e w1 ⟨rfl, hb1⟩
 have R1 := Lib.hid (R0.out.below hb1 R0.out.lt)
 have B1 := Lib.hid (bstep B0.out hb1)
 clear hb1
 go_wp2_with fail
 refine (null_any _).mono ?_
 rintro e w5 ⟨rfl, hb5⟩
 have R5 := Lib.hid (R1.out.below hb5 R1.out.lt)
 have B5 := Lib.hid (bstep B1.out hb5)
 clear hb5 R0 B0 E0 PP
 obtain ⟨d1, d2, d3⟩ := R5.out.holds
 have f0 := R5.out.frozen 0
 have f1 := R5.out.frozen 1
 have f2 := R5.out.frozen 2
 go_wp2
 have hb := (((B5.out).setCell (p := ⟨w.heap.size, 0, none⟩) (Nat.le_refl _) (.int .i64 0)).setCell (p := ⟨w.heap.size, 1, none⟩) (Nat.le_refl _) (.int .i64 0)).setCell (p := ⟨w.heap.size, 2, none⟩) (Nat.le_refl _) (.string ⟨#[]⟩)
 have hq := R5.out.set3 0 0 ⟨#[]⟩
 generalize ((w5.setCell ⟨w.heap.size, 0, none⟩ (.int .i64 0)).setCell ⟨w.heap.size, 1, none⟩ (.int .i64 0)).setCell ⟨w.heap.size, 2, none⟩ (.string ⟨#[]⟩) = W at hb hq ⊢
 obtain ⟨q1, q2, q3⟩ := hq.holds
 exact bodyPost_ret (v := .tuple #[val 0 0 ⟨#[]⟩, .int .i64 7]) (by simp [results, Tryz.results154, go_sem, q1, q2, q3]) rfl ⟨rfl, hb⟩
theorem readInt_any (s : ByteArray) (w : World) (a : Addr) (m : Int) (hv : Env w a m) (hs : s.size ≤ 6000) :
  Calls Tryz.prog 154 #[.string s] w fun e w' => e = .returned (out (toldInt s.data.toList)) ∧ Below w.heap.size w w' := by
 unfold toldInt
 rcases re_cases s.data.toList with h | h | h
 ·rw [if_pos h]; exact readInt_ok s w a m hv hs _ rfl h
 ·rw [if_neg (by rw [h]; decide), if_pos h]; exact readInt_over s w a m hv hs _ rfl h
 ·rw [if_neg (by rw [h]; decide), if_neg (by rw [h]; decide)]; exact readInt_no s w a m hv hs _ rfl h
set_option maxRecDepth 100000 in
set_option maxHeartbeats 1000000 in
theorem readw_null (s : ByteArray) (w : World) (h1 : (s.toList == [110, 117, 108, 108]) = true) :
  Calls Tryz.prog 130 #[.string s] w fun e w' => e = .returned (.tuple #[val 0 0 ⟨#[]⟩, .int .i64 0]) ∧ Below w.heap.size w w' := by
 have R0 := Lib.hid (Row3.new w 0 0 ⟨#[]⟩)
 have B0 := Lib.hid ((Below.refl w.heap.size w).alloc (Nat.le_refl _) (.cells #[.int .i64 0, .int .i64 0, .string ⟨#[]⟩] 23))
 go_enter Tryz.func130, Tryz.ntmps130
 go_wp2_with fail
 refine (null_any _).mono ?_
 rintro e w5 ⟨rfl, hb5⟩
 have R5 := Lib.hid (R0.out.below hb5 R0.out.lt)
 have B5 := Lib.hid (bstep B0.out hb5)
 clear hb5 R0 B0
 obtain ⟨d1, d2, d3⟩ := R5.out.holds
 have f0 := R5.out.frozen 0
 have f1 := R5.out.frozen 1
 have f2 := R5.out.frozen 2
 go_wp2
 have hb := (((B5.out).setCell (p := ⟨w.heap.size, 0, none⟩) (Nat.le_refl _) (.int .i64 0)).setCell (p := ⟨w.heap.size, 1, none⟩) (Nat.le_refl _) (.int .i64 0)).setCell (p := ⟨w.heap.size, 2, none⟩) (Nat.le_refl _) (.string ⟨#[]⟩)
 have hq := R5.out.set3 0 0 ⟨#[]⟩
 generalize ((w5.setCell ⟨w.heap.size, 0, none⟩ (.int .i64 0)).setCell ⟨w.heap.size, 1, none⟩ (.int .i64 0)).setCell ⟨w.heap.size, 2, none⟩ (.string ⟨#[]⟩) = W at hb hq ⊢
 obtain ⟨q1, q2, q3⟩ := hq.holds
 exact bodyPost_ret (v := .tuple #[val 0 0 ⟨#[]⟩, .int .i64 0]) (by simp [results, Tryz.results130, go_sem, q1, q2, q3]) rfl ⟨rfl, hb⟩
set_option maxRecDepth 100000 in
set_option maxHeartbeats 1000000 in
theorem readw_true (s : ByteArray) (w : World) (h1 : (s.toList == [110, 117, 108, 108]) = false) (h2 : (s.toList == [116, 114, 117, 101]) = true) :
  Calls Tryz.prog 130 #[.string s] w fun e w' => e = .returned (.tuple #[val 3 1 ⟨#[]⟩, .int .i64 0]) ∧ Below w.heap.size w w' := by
 have R0 := Lib.hid (Row3.new w 0 0 ⟨#[]⟩)
 have B0 := Lib.hid ((Below.refl w.heap.size w).alloc (Nat.le_refl _) (.cells #[.int .i64 0, .int .i64 0, .string ⟨#[]⟩] 23))
 go_enter Tryz.func130, Tryz.ntmps130
 go_wp2_with fail
 refine (bool_true _).mono ?_
 rintro e w5 ⟨rfl, hb5⟩
 have R5 := Lib.hid (R0.out.below hb5 R0.out.lt)
 have B5 := Lib.hid (bstep B0.out hb5)
 clear hb5 R0 B0
 obtain ⟨d1, d2, d3⟩ := R5.out.holds
 have f0 := R5.out.frozen 0
 have f1 := R5.out.frozen 1
 have f2 := R5.out.frozen 2
 go_wp2
 have hb := (((B5.out).setCell (p := ⟨w.heap.size, 0, none⟩) (Nat.le_refl _) (.int .i64 3)).setCell (p := ⟨w.heap.size, 1, none⟩) (Nat.le_refl _) (.int .i64 1)).setCell (p := ⟨w.heap.size, 2, none⟩) (Nat.le_refl _) (.string ⟨#[]⟩)
 have hq := R5.out.set3 3 1 ⟨#[]⟩
 generalize ((w5.setCell ⟨w.heap.size, 0, none⟩ (.int .i64 3)).setCell ⟨w.heap.size, 1, none⟩ (.int .i64 1)).setCell ⟨w.heap.size, 2, none⟩ (.string ⟨#[]⟩) = W at hb hq ⊢
 obtain ⟨q1, q2, q3⟩ := hq.holds
 exact bodyPost_ret (v := .tuple #[val 3 1 ⟨#[]⟩, .int .i64 0]) (by simp [results, Tryz.results130, go_sem, q1, q2, q3]) rfl ⟨rfl, hb⟩
set_option maxRecDepth 100000 in
set_option maxHeartbeats 1000000 in
theorem readw_false (s : ByteArray) (w : World) (h1 : (s.toList == [110, 117, 108, 108]) = false) (h2 : (s.toList == [116, 114, 117, 101]) = false) (h3 : (s.toList == [102, 97, 108, 115, 101]) = true) :
  Calls Tryz.prog 130 #[.string s] w fun e w' => e = .returned (.tuple #[val 3 0 ⟨#[]⟩, .int .i64 0]) ∧ Below w.heap.size w w' := by
 have R0 := Lib.hid (Row3.new w 0 0 ⟨#[]⟩)
 have B0 := Lib.hid ((Below.refl w.heap.size w).alloc (Nat.le_refl _) (.cells #[.int .i64 0, .int .i64 0, .string ⟨#[]⟩] 23))
 go_enter Tryz.func130, Tryz.ntmps130
 go_wp2_with fail
 refine (bool_false _).mono ?_
 rintro e w5 ⟨rfl, hb5⟩
 have R5 := Lib.hid (R0.out.below hb5 R0.out.lt)
 have B5 := Lib.hid (bstep B0.out hb5)
 clear hb5 R0 B0
 obtain ⟨d1, d2, d3⟩ := R5.out.holds
 have f0 := R5.out.frozen 0
 have f1 := R5.out.frozen 1
 have f2 := R5.out.frozen 2
 go_wp2
 have hb := (((B5.out).setCell (p := ⟨w.heap.size, 0, none⟩) (Nat.le_refl _) (.int .i64 3)).setCell (p := ⟨w.heap.size, 1, none⟩) (Nat.le_refl _) (.int .i64 0)).setCell (p := ⟨w.heap.size, 2, none⟩) (Nat.le_refl _) (.string ⟨#[]⟩)
 have hq := R5.out.set3 3 0 ⟨#[]⟩
 generalize ((w5.setCell ⟨w.heap.size, 0, none⟩ (.int .i64 3)).setCell ⟨w.heap.size, 1, none⟩ (.int .i64 0)).setCell ⟨w.heap.size, 2, none⟩ (.string ⟨#[]⟩) = W at hb hq ⊢
 obtain ⟨q1, q2, q3⟩ := hq.holds
 exact bodyPost_ret (v := .tuple #[val 3 0 ⟨#[]⟩, .int .i64 0]) (by simp [results, Tryz.results130, go_sem, q1, q2, q3]) rfl ⟨rfl, hb⟩
set_option maxRecDepth 100000 in
set_option maxHeartbeats 1000000 in
theorem readw_text (s : ByteArray) (w : World) (h1 : (s.toList == [110, 117, 108, 108]) = false) (h2 : (s.toList == [116, 114, 117, 101]) = false) (h3 : (s.toList == [102, 97, 108, 115, 101]) = false) (hp : ∀ w, Calls Tryz.prog 101 #[.string s, .string ⟨#[39]⟩] w fun e w' => e = .returned (.bool true) ∧ w' = w) (k n : Int) (u : ByteArray) (x : Int) (hc : Calls Tryz.prog 153 #[.string s] (w.alloc (.cells #[.int .i64 0, .int .i64 0, .string ⟨#[]⟩] 23)) fun e w' => e = .returned (.tuple #[val k n u, .int .i64 x]) ∧ Below (w.alloc (.cells #[.int .i64 0, .int .i64 0, .string ⟨#[]⟩] 23)).heap.size (w.alloc (.cells #[.int .i64 0, .int .i64 0, .string ⟨#[]⟩] 23)) w') :
  Calls Tryz.prog 130 #[.string s] w fun e w' => e = .returned (.tuple #[val k n u, .int .i64 x]) ∧ Below w.heap.size w w' := by
 have R0 := Lib.hid (Row3.new w 0 0 ⟨#[]⟩)
 have B0 := Lib.hid ((Below.refl w.heap.size w).alloc (Nat.le_refl _) (.cells #[.int .i64 0, .int .i64 0, .string ⟨#[]⟩] 23))
 have HP := Lib.hid hp
 have CC := Lib.hid hc
 clear hp hc
 go_enter Tryz.func130, Tryz.ntmps130
 go_wp2_with fail
 refine (HP.out _).mono ?_
 rintro e w' ⟨rfl, rfl⟩
 go_wp2_with fail
 refine (CC.out).mono ?_
 rintro e w5 ⟨rfl, hb5⟩
 have R5 := Lib.hid (R0.out.below hb5 R0.out.lt)
 have B5 := Lib.hid (bstep B0.out hb5)
 clear hb5 R0 B0
 obtain ⟨d1, d2, d3⟩ := R5.out.holds
 have f0 := R5.out.frozen 0
 have f1 := R5.out.frozen 1
 have f2 := R5.out.frozen 2
 go_wp2
 have hb := (((B5.out).setCell (p := ⟨w.heap.size, 0, none⟩) (Nat.le_refl _) (.int .i64 k)).setCell (p := ⟨w.heap.size, 1, none⟩) (Nat.le_refl _) (.int .i64 n)).setCell (p := ⟨w.heap.size, 2, none⟩) (Nat.le_refl _) (.string u)
 have hq := R5.out.set3 k n u
 generalize ((w5.setCell ⟨w.heap.size, 0, none⟩ (.int .i64 k)).setCell ⟨w.heap.size, 1, none⟩ (.int .i64 n)).setCell ⟨w.heap.size, 2, none⟩ (.string u) = W at hb hq ⊢
 obtain ⟨q1, q2, q3⟩ := hq.holds
 exact bodyPost_ret (v := .tuple #[val k n u, .int .i64 x]) (by simp [results, Tryz.results130, go_sem, q1, q2, q3]) rfl ⟨rfl, hb⟩
set_option maxRecDepth 100000 in
set_option maxHeartbeats 1000000 in
theorem readw_int (s : ByteArray) (w : World) (h1 : (s.toList == [110, 117, 108, 108]) = false) (h2 : (s.toList == [116, 114, 117, 101]) = false) (h3 : (s.toList == [102, 97, 108, 115, 101]) = false) (hp : ∀ w, Calls Tryz.prog 101 #[.string s, .string ⟨#[39]⟩] w fun e w' => e = .returned (.bool false) ∧ w' = w) (k n : Int) (u : ByteArray) (x : Int) (hc : Calls Tryz.prog 154 #[.string s] (w.alloc (.cells #[.int .i64 0, .int .i64 0, .string ⟨#[]⟩] 23)) fun e w' => e = .returned (.tuple #[val k n u, .int .i64 x]) ∧ Below (w.alloc (.cells #[.int .i64 0, .int .i64 0, .string ⟨#[]⟩] 23)).heap.size (w.alloc (.cells #[.int .i64 0, .int .i64 0, .string ⟨#[]⟩] 23)) w') :
  Calls Tryz.prog 130 #[.string s] w fun e w' => e = .returned (.tuple #[val k n u, .int .i64 x]) ∧ Below w.heap.size w w' := by
 have R0 := Lib.hid (Row3.new w 0 0 ⟨#[]⟩)
 have B0 := Lib.hid ((Below.refl w.heap.size w).alloc (Nat.le_refl _) (.cells #[.int .i64 0, .int .i64 0, .string ⟨#[]⟩] 23))
 have HP := Lib.hid hp
 have CC := Lib.hid hc
 clear hp hc
 go_enter Tryz.func130, Tryz.ntmps130
 go_wp2_with fail
 refine (HP.out _).mono ?_
 rintro e w' ⟨rfl, rfl⟩
 go_wp2_with fail
 refine (CC.out).mono ?_
 rintro e w5 ⟨rfl, hb5⟩
 have R5 := Lib.hid (R0.out.below hb5 R0.out.lt)
 have B5 := Lib.hid (bstep B0.out hb5)
 clear hb5 R0 B0
 obtain ⟨d1, d2, d3⟩ := R5.out.holds
 have f0 := R5.out.frozen 0
 have f1 := R5.out.frozen 1
 have f2 := R5.out.frozen 2
 go_wp2
 have hb := (((B5.out).setCell (p := ⟨w.heap.size, 0, none⟩) (Nat.le_refl _) (.int .i64 k)).setCell (p := ⟨w.heap.size, 1, none⟩) (Nat.le_refl _) (.int .i64 n)).setCell (p := ⟨w.heap.size, 2, none⟩) (Nat.le_refl _) (.string u)
 have hq := R5.out.set3 k n u
 generalize ((w5.setCell ⟨w.heap.size, 0, none⟩ (.int .i64 k)).setCell ⟨w.heap.size, 1, none⟩ (.int .i64 n)).setCell ⟨w.heap.size, 2, none⟩ (.string u) = W at hb hq ⊢
 obtain ⟨q1, q2, q3⟩ := hq.holds
 exact bodyPost_ret (v := .tuple #[val k n u, .int .i64 x]) (by simp [results, Tryz.results130, go_sem, q1, q2, q3]) rfl ⟨rfl, hb⟩
theorem hasPrefix_mark (l : List UInt8) : hasPrefix l [39] = (l.head? == some 39) := by
 cases l with
 | nil => rfl
 | cons c r =>
  by_cases h : c = 39
  ·subst h; simp [hasPrefix, List.isPrefixOf]
  ·have : ((39 : UInt8) == c) = false := by simpa using fun e => h e.symm
   have h2 : (c == 39) = false := by simpa using h
   simp [hasPrefix, List.isPrefixOf, this, h]
theorem vread_any (s : ByteArray) (w : World) (a : Addr) (m : Int) (hv : Env w a m) (hs : s.size ≤ 6000) :
  Calls Tryz.prog 130 #[.string s] w fun e w' => e = .returned (out (told s.data.toList)) ∧ Below w.heap.size w w' := by
 have el : s.toList = s.data.toList := ByteArray.toList_eq s
 unfold told
 by_cases h1 : s.data.toList = [110, 117, 108, 108]
 ·rw [if_pos h1]; exact readw_null s w (by rw [el, h1]; rfl)
 have b1 : (s.toList == [110, 117, 108, 108]) = false := by rw [el]; simpa using h1
 rw [if_neg h1]
 by_cases h2 : s.data.toList = [116, 114, 117, 101]
 ·rw [if_pos h2]; exact readw_true s w b1 (by rw [el, h2]; rfl)
 have b2 : (s.toList == [116, 114, 117, 101]) = false := by rw [el]; simpa using h2
 rw [if_neg h2]
 by_cases h3 : s.data.toList = [102, 97, 108, 115, 101]
 ·rw [if_pos h3]; exact readw_false s w b1 b2 (by rw [el, h3]; rfl)
 have b3 : (s.toList == [102, 97, 108, 115, 101]) = false := by rw [el]; simpa using h3
 rw [if_neg h3]
 have HB := hv.below ((Below.refl w.heap.size w).alloc (Nat.le_refl _) (.cells #[.int .i64 0, .int .i64 0, .string ⟨#[]⟩] 23))
 have P := fun w => Tryz.strings_HasPrefix s ⟨#[39]⟩ w
 rw [show (⟨#[39]⟩ : ByteArray).data.toList = [39] from rfl, hasPrefix_mark] at P
 by_cases h4 : s.data.toList.head? = some 39
 ·rw [if_pos h4]
  rw [h4] at P
  exact readw_text s w b1 b2 b3 P _ _ _ _ (readText_any s _ m HB.max hs h4)
 ·rw [if_neg h4]
  have e : (s.data.toList.head? == some 39) = false := by rw [beq_eq_false_iff_ne]; exact h4
  rw [e] at P
  exact readw_int s w b1 b2 b3 P _ _ _ _ (readInt_any s _ a m HB hs)
end Go.Proofs.YteghhmomhlnccaaGreatDoor
namespace Go.Proofs.YteghhmomhlnccaaGreatDoor
open Go.RowKit Go.Lib
abbrev wd (k : Int) (s : ByteArray) (n : Int) : Value := .agg #[.int .i64 k, .string s, .int .i64 n]
def RowW (w : World) (g : Nat) (t : TypeId) (k : Int) (s : ByteArray) (n : Int) : Prop := w.heap[g]? = some (.cells #[.int .i64 k, .string s, .int .i64 n] t (0, 0))
theorem RowW.lt {w : World} {g : Nat} {t : TypeId} {k n : Int} {s : ByteArray} (h : RowW w g t k s n) : g < w.heap.size := by
 rcases Nat.lt_or_ge g w.heap.size with hlt | hge
 ·exact hlt
 ·unfold RowW at h; rw [Array.getElem?_eq_none hge] at h; cases h
theorem RowW.new (w : World) (t : TypeId) (k n : Int) (s : ByteArray) : RowW (w.alloc (.cells #[.int .i64 k, .string s, .int .i64 n] t)) w.heap.size t k s n := heap_alloc_new w _
theorem RowW.below {w w' : World} {g : Nat} {t : TypeId} {k n : Int} {s : ByteArray} {B : Nat} (h : RowW w g t k s n) (hb : Below B w w') (hg : g < B) : RowW w' g t k s n := (hb.block g hg).trans h
theorem RowW.alloc {w : World} {g : Nat} {t : TypeId} {k n : Int} {s : ByteArray} (h : RowW w g t k s n) (o : Obj) : RowW (w.alloc o) g t k s n := (Below.heap_alloc w o g h.lt).trans h
theorem RowW.cells {w : World} {g : Nat} {t : TypeId} {k n : Int} {s : ByteArray} (h : RowW w g t k s n) : w.cell? ⟨g, 0, none⟩ = some (.int .i64 k) ∧ w.cell? ⟨g, 1, none⟩ = some (.string s) ∧ w.cell? ⟨g, 2, none⟩ = some (.int .i64 n) :=
 ⟨cell_of_row w g 0 _ _ _ h, cell_of_row w g 1 _ _ _ h, cell_of_row w g 2 _ _ _ h⟩
theorem RowW.frozen {w : World} {g : Nat} {t : TypeId} {k n : Int} {s : ByteArray} (h : RowW w g t k s n) (i : Nat) : w.frozen? ⟨g, i, none⟩ = false := by
 unfold RowW at h
 simp [World.frozen?, h]
theorem RowW.set3 {w : World} {g : Nat} {t : TypeId} {k n : Int} {s : ByteArray} (h : RowW w g t k s n) (k' n' : Int) (s' : ByteArray) :
  RowW (((w.setCell ⟨g, 0, none⟩ (.int .i64 k')).setCell ⟨g, 1, none⟩ (.string s')).setCell ⟨g, 2, none⟩ (.int .i64 n')) g t k' s' n' := by
 have h0 := heap_setCell_same w g 0 _ _ (.int .i64 k') h
 have h1 := heap_setCell_same _ g 1 _ _ (.string s') h0
 have h2 := heap_setCell_same _ g 2 _ _ (.int .i64 n') h1
 simpa [RowW] using h2
theorem str_size (l : List UInt8) : (str l).size = l.length := List.size_toArray
theorem retI {a b : Int} (h : a = b) : Ending.returned (.int .i64 a) = .returned (.int .i64 b) := by rw [h]
theorem list_size (s : ByteArray) : s.data.toList.length = s.size := by simp
set_option maxRecDepth 100000 in
theorem run_any (s cs : ByteArray) (p : UInt8 → Bool) (hp : (cs.data.toList.contains ·) = p) (hc : cs.size ≤ 1000) (ha : cs.data.toList.all (fun b => decide (b.toNat < 128)) = true) (w : World) (hs : s.size ≤ 6000) :
  Calls Tryz.prog 103 #[.string s, .string cs] w fun e w' => e = .returned (.int .i64 ((s.data.toList.takeWhile p).length : Nat)) ∧ Below w.heap.size w w' := by
 have T := Tryz.strings_TrimLeft_set s cs w (by omega) (ascii_of_all ha)
 rw [Lib.trimLeftS, hp, Lx.dw_drop] at T
 have hl := Lx.tw_le p s.data.toList
 have hL := list_size s
 generalize (s.data.toList.takeWhile p).length = n at *
 obtain ⟨d, hd⟩ : ∃ d : ByteArray, d = ⟨(s.data.toList.drop n).toArray⟩ := ⟨_, rfl⟩
 have hds : d.size + n = s.size := by
  have := str_size (s.data.toList.drop n)
  rw [List.length_drop] at this
  rw [hd]
  show (str (s.data.toList.drop n)).size + n = s.size
  omega
 rw [← hd] at T
 have TT := Lib.hid T
 have h1 : (d.size : Int) ≤ s.size := by omega
 have h2 : (s.size : Int) ≤ 6000 := by omega
 have HD := Lib.hid hds
 clear T hd hp hc ha hl hL hds hs
 go_enter Tryz.func103, Tryz.ntmps103
 go_wp2_with fail
 refine (TT.out).mono ?_
 rintro e w1 ⟨rfl, hb⟩
 have HB := Lib.hid hb
 clear hb
 go_wp2
 go_ret
 exact ⟨retI (by have := HD.out; omega), HB.out⟩
theorem run_small (s : ByteArray) (w : World) (hs : s.size ≤ 6000) : Calls Tryz.prog 103 #[.string s, .string ⟨#[97, 98, 99, 100, 101, 102, 103, 104, 105, 106, 107, 108, 109, 110, 111, 112, 113, 114, 115, 116, 117, 118, 119, 120, 121, 122]⟩] w fun e w' => e = .returned (.int .i64 ((s.data.toList.takeWhile Lx.low).length : Nat)) ∧ Below w.heap.size w w' :=
 run_any s _ Lx.low Lx.small_eq (by decide) (by decide) w hs
theorem run_digits (s : ByteArray) (w : World) (hs : s.size ≤ 6000) : Calls Tryz.prog 103 #[.string s, .string ⟨#[48, 49, 50, 51, 52, 53, 54, 55, 56, 57]⟩] w fun e w' => e = .returned (.int .i64 ((s.data.toList.takeWhile dig).length : Nat)) ∧ Below w.heap.size w w' :=
 run_any s _ dig Lx.digits_eq (by decide) (by decide) w hs
theorem run_inNames (s : ByteArray) (w : World) (hs : s.size ≤ 6000) : Calls Tryz.prog 103 #[.string s, .string ⟨#[97, 98, 99, 100, 101, 102, 103, 104, 105, 106, 107, 108, 109, 110, 111, 112, 113, 114, 115, 116, 117, 118, 119, 120, 121, 122, 48, 49, 50, 51, 52, 53, 54, 55, 56, 57, 95]⟩] w fun e w' => e = .returned (.int .i64 ((s.data.toList.takeWhile Lx.nm).length : Nat)) ∧ Below w.heap.size w w' :=
 run_any s _ Lx.nm Lx.inNames_eq (by decide) (by decide) w hs
theorem trim_any (s : ByteArray) (w : World) : Calls Tryz.prog 100 #[.string s, .string ⟨#[32, 9, 10]⟩] w fun e w' => e = .returned (.string (str (trimLeftS s.data.toList Lx.blanksL))) ∧ Below w.heap.size w w' :=
 Tryz.strings_TrimLeft_set s ⟨#[32, 9, 10]⟩ w (by decide) (ascii_of_all (by decide))
theorem trimB_le (l : List UInt8) : (trimLeftS l Lx.blanksL).length ≤ l.length := by
 rw [Lx.trim_blanks, List.length_drop]; omega
theorem trimB_head (l : List UInt8) : ∀ c, (trimLeftS l Lx.blanksL).head? = some c → ¬ Lx.blank c = true := fun c hc => by
 rw [Lx.trim_blanks] at hc
 have := Lx.tw_next Lx.blank l c hc
 rw [this]; decide
theorem note_any (s : ByteArray) (w : World) : Calls Tryz.prog 101 #[.string s, .string ⟨#[35]⟩] w fun e w' => e = .returned (.bool (s.data.toList.head? == some 35)) ∧ w' = w := by
 have h := Tryz.strings_HasPrefix s ⟨#[35]⟩ w
 have e : Lib.hasPrefix s.data.toList (⟨#[35]⟩ : ByteArray).data.toList = (s.data.toList.head? == some 35) := by
  unfold Lib.hasPrefix
  show List.isPrefixOf [35] s.data.toList = _
  cases hq : s.data.toList with
  | nil => rfl
  | cons c r =>
   simp only [List.isPrefixOf, List.head?_cons, Bool.and_true]
   rw [Bool.eq_iff_iff]
   simp only [beq_iff_eq, Option.some.injEq]
   constructor <;> (intro h; exact h.symm)
 rwa [e] at h
theorem cutLine_any (s : ByteArray) (m : Int) (w : World) (hm : MaxAt w m) (hs : s.size ≤ 6000) : Calls Tryz.prog 102 #[.string s, .string ⟨#[10]⟩] w fun e w' => ∃ (a : ByteArray) (b : Bool), e = .returned (.tuple #[.string a, .string (str (Lib.cut s.data.toList [10]).2.1), .bool b]) ∧ ∃ n, w' = w.drewN n :=
 (Tryz.strings_Cut s ⟨#[10]⟩ m w (by omega) hm).mono fun e w' ⟨h1, h2⟩ => ⟨_, _, h1, h2⟩
end Go.Proofs.YteghhmomhlnccaaGreatDoor
