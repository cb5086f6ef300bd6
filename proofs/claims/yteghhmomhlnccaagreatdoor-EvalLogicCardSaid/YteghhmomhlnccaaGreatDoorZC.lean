import Derived.Test.YteghhmomhlnccaaGreatDoorRows
import Derived.WalkKit
import Derived.ProofKit
import Derived.LaidEql
import Derived.Stop.Asserts
import Derived.RowKitTokens
import Derived.Lib.Hide
import Derived.Test.YteghhmomhlnccaaGreatDoorZC2
import Derived.Test.YteghhmomhlnccaaGreatDoorShelf
import Derived.OpenShut
import Derived.IntWalk
import Derived.WalkSmall
import Derived.Lib.AppendIntMem

/- errors.Is over the library's sentinel, and over a *strconv.NumError that bears it. -/
namespace Go.Proofs.YteghhmomhlnccaaGreatDoor
open Go.RowKit Go.Extern.Stop Go.Stop Go.Extern

theorem isTypeOf (v : Value) (w : World) : (Extern.ReflectliteType.typeOf #[.iface 242 v]).run Tryz.prog w = .ok (.iface 204 (.agg #[.pointer (some ⟨8, 242, none⟩)])) w := by kernel_rfl
theorem isComparable (w : World) : ((Extern.ReflectliteType.method fun t => do Extern.Rtype.noPackHeld "Comparable" t; (fun a => Value.bool a.comparable) <$> typeInfo t) #[.agg #[.pointer (some ⟨8, 242, none⟩)]]).run Tryz.prog w = .ok (.bool true) w := by kernel_rfl
theorem isMethodComparable (v : Value) (w : World) : (Go.method 383 204 v "Comparable").run Tryz.prog w = .ok (254, v) w := by kernel_rfl
theorem isComp : (Tryz.prog.info? 242).map (·.comparable) = some true := by kernel_rfl
theorem isSize : (Tryz.prog.info? 244).map (·.size) = some 1 := by kernel_rfl
theorem noIsE (v : Value) (xT : TypeId) (w : World) : (Instr.typeAssert (.iface 242 v) xT 206 true).run Tryz.prog w = .ok (.tuple #[.nilIface, .bool false]) w := run_typeAssert_lacksB Tryz.underlying206 (by kernel_rfl) (by kernel_rfl) v xT w
theorem noUnwrapE (v : Value) (xT : TypeId) (w : World) : (Instr.typeAssert (.iface 242 v) xT 209 true).run Tryz.prog w = .ok (.tuple #[.nilIface, .bool false]) w := run_typeAssert_lacksB Tryz.underlying209 (by kernel_rfl) (by kernel_rfl) v xT w
theorem noUnwrapsE (v : Value) (xT : TypeId) (w : World) : (Instr.typeAssert (.iface 242 v) xT 211 true).run Tryz.prog w = .ok (.tuple #[.nilIface, .bool false]) w := run_typeAssert_lacksB Tryz.underlying211 (by kernel_rfl) (by kernel_rfl) v xT w
theorem noIsW (v : Value) (xT : TypeId) (w : World) : (Instr.typeAssert (.iface 200 v) xT 206 true).run Tryz.prog w = .ok (.tuple #[.nilIface, .bool false]) w := run_typeAssert_lacksB Tryz.underlying206 (by kernel_rfl) (by kernel_rfl) v xT w
theorem hasUnwrapW (v : Value) (xT : TypeId) (w : World) : (Instr.typeAssert (.iface 200 v) xT 209 true).run Tryz.prog w = .ok (.tuple #[.iface 200 v, .bool true]) w := run_typeAssert_hasB Tryz.underlying209 (by kernel_rfl) v xT w

theorem methodUnwrap (v : Value) (w : World) : (Go.method 383 200 v "Unwrap").run Tryz.prog w = .ok (250, v) w := by kernel_rfl

theorem is_nil (b : Addr) (w : World) :
    Calls Tryz.prog 148 #[.nilIface, .iface 242 (.pointer (some b))] w fun e w' => e = .returned (.bool false) ∧ w' = w := by
  have hn := run_eql_iface_nil_left (P := Tryz.prog) w 242 (.pointer (some b)) Tryz.underlying168
  go_enter Tryz.func148, Tryz.ntmps148
  go_wp2
  go_ret
  exact ⟨rfl, rfl⟩

set_option maxRecDepth 100000 in
theorem is_wrap_same (pb po : Nat) (b : Addr) (w : World) (h1 : w.cell? ⟨pb, po + 2, none⟩ = some (.iface 242 (.pointer (some b)))) :
    Calls Tryz.prog 148 #[.iface 200 (.pointer (some ⟨pb, po, none⟩)), .iface 242 (.pointer (some b))] w fun e w' => e = .returned (.bool true) ∧ w' = w := by
  obtain ⟨i, hi, hcmp⟩ := Option.map_eq_some_iff.1 isComp
  obtain ⟨j, hj, hjs⟩ := Option.map_eq_some_iff.1 isSize
  have h8 := @run_callFunc_extern Tryz.prog 167 _ Extern.ReflectliteType.typeOf Tryz.func167 (by kernel_rfl) (by kernel_rfl) (by kernel_rfl) (by kernel_rfl)
  have h32 := @run_callFunc_extern Tryz.prog 254 _ (Extern.ReflectliteType.method fun t => do Extern.Rtype.noPackHeld "Comparable" t; pure (.bool (← typeInfo t).comparable)) Tryz.func254 (by kernel_rfl) (by kernel_rfl) (by kernel_rfl) (by kernel_rfl)
  have tT := isTypeOf
  have mR := isMethodComparable
  have mU := methodUnwrap
  have cT := isComparable
  have nE := noIsE
  have uE := noUnwrapE
  have vE := noUnwrapsE
  have nW := noIsW
  have uW := hasUnwrapW
  have heq := run_eql_iface_ptr_same (P := Tryz.prog) w b Tryz.underlying168 Tryz.underlying242 hi hcmp hj
  have hty := run_eql_iface_types (P := Tryz.prog) 200 242 (.pointer (some ⟨pb, po, none⟩)) (.pointer (some b)) Tryz.underlying168 (by decide) w
  go_enter Tryz.func148, Tryz.ntmps148
  go_wp2
  refine wp_loop_rounds 2 ?_
  rw [rounds_succ]
  go_wp2
  rw [rounds_succ]
  go_wp2
  go_ret
  exact ⟨rfl, rfl⟩
end Go.Proofs.YteghhmomhlnccaaGreatDoor

/- num's allDigits, looksPrinted. -/
namespace Go.Proofs.YteghhmomhlnccaaGreatDoor
open Go.RowKit Go.Lib

/-- are they all digits? -/
def allD (l : List UInt8) : Bool := l.all dig
theorem take_snoc' (s : ByteArray) (k : Nat) (h : k < s.size) : s.data.toList.take (k + 1) = s.data.toList.take k ++ [s[k]] := by
  rw [List.take_succ_eq_append_getElem (by simpa using h)]; rfl
set_option maxRecDepth 100000 in
theorem alldigits_any (d : ByteArray) (w : World) (hs : d.size ≤ 1000000) :
    Calls Tryz.prog 164 #[.string d] w fun e w' => e = .returned (.bool (allD d.data.toList)) ∧ w' = w := by
  go_enter Tryz.func164, Tryz.ntmps164
  go_wp2
  go_loop [6] (fun i => ∃ k : Nat, k ≤ d.size ∧ i = .int .i64 k ∧ Hid (∀ c ∈ d.data.toList.take k, dig c = true)) (fun i => d.size - (RowKit.intOf i).toNat)
  case atStart => exact ⟨0, Nat.zero_le _, rfl, Lib.hid (by simp)⟩
  case round =>
    obtain ⟨k, hk, rfl, H⟩ := hrel
    by_cases hlt : k < d.size
    · by_cases c48 : (d[k].toNat : Int) < 48
      · have NA : Hid (allD d.data.toList = false) := Lib.hid (by unfold allD; rw [List.all_eq_false]; exact ⟨d[k], List.getElem_mem (l := d.data.toList) (by simpa using hlt), by simp [dig]; omega⟩)
        go_wp2
        go_ret
        exact ⟨by rw [NA.out]; rfl, rfl⟩
      · by_cases c57 : (d[k].toNat : Int) > 57
        · have NA : Hid (allD d.data.toList = false) := Lib.hid (by unfold allD; rw [List.all_eq_false]; exact ⟨d[k], List.getElem_mem (l := d.data.toList) (by simpa using hlt), by simp [dig]; omega⟩)
          go_wp2
          go_ret
          exact ⟨by rw [NA.out]; rfl, rfl⟩
        · have DG : Hid (∀ c ∈ d.data.toList.take (k + 1), dig c = true) := Lib.hid (by
            rw [take_snoc' d k hlt]
            intro c hc
            rw [List.mem_append] at hc
            rcases hc with hc | hc
            · exact H.out c hc
            · simp only [List.mem_singleton] at hc; subst hc; simp [dig]; omega)
          go_wp2
          go_round
          case rel => exact ⟨k + 1, by omega, by go_num, DG⟩
          case measure => simp [RowKit.intOf]; omega
    · have AA : Hid (allD d.data.toList = true) := Lib.hid (by
        unfold allD
        rw [List.all_eq_true]
        have h := H.out
        rwa [List.take_of_length_le (by simp; omega)] at h)
      go_wp2
      go_ret
      exact ⟨by rw [AA.out]; rfl, rfl⟩

/-- what is asked of the digits, and of the minus. -/
def lk (l : List UInt8) (b : Bool) : Bool := l != [] && allD l && ((l.head?.map (·.toNat) != some 48) || (l.length == 1 && !b))
set_option maxRecDepth 100000 in
theorem looks_walk (s d : ByteArray) (b : Bool) (w : World) (hs : d.size ≤ 1000000)
    (hcut : ∀ w, Calls Tryz.prog 163 #[.string s, .string ⟨#[45]⟩] w fun e w' => e = .returned (.tuple #[.string d, .bool b]) ∧ w' = w) :
    Calls Tryz.prog 146 #[.string s] w fun e w' => e = .returned (.bool (lk d.data.toList b)) ∧ w' = w := by
  have HC := Lib.hid hcut
  clear hcut
  by_cases hz : d.size = 0
  · have hde : d = ByteArray.empty := by
      apply ByteArray.ext
      exact Array.eq_empty_of_size_eq_zero hz
    subst hde
    clear hz
    go_enter Tryz.func146, Tryz.ntmps146
    go_wp2_with fail
    refine (HC.out _).mono ?_
    rintro e w' ⟨rfl, rfl⟩
    go_wp2
    go_ret
    exact ⟨rfl, rfl⟩
  · have hz' : 0 < d.size := by omega
    have hhd : d.data.toList.head? = some d[0] := by rw [List.head?_eq_getElem?, List.getElem?_eq_getElem (by simpa using hz')]; rfl
    have HHD := Lib.hid hhd
    have HNE : Hid (d.data.toList ≠ []) := Lib.hid (by intro e; rw [e] at hhd; cases hhd)
    have AC := Lib.hid fun w => alldigits_any d w hs
    have he : d.toList.isEmpty = false := by
      rw [Lib.toList_data]
      cases hq : d.data.toList with
      | nil => exact absurd hq HNE.out
      | cons c r => rfl
    clear hz hhd
    cases ha : allD d.data.toList
    · have HA := Lib.hid ha
      have AC' := Lib.hid fun w => ha ▸ AC.out w
      clear ha
      go_enter Tryz.func146, Tryz.ntmps146
      go_wp2_with fail
      refine (HC.out _).mono ?_
      rintro e w' ⟨rfl, rfl⟩
      go_wp2_with fail
      refine (AC'.out _).mono ?_
      rintro e w' ⟨rfl, rfl⟩
      go_wp2
      go_ret
      exact ⟨by rw [lk, HA.out]; simp, rfl⟩
    · have HA := Lib.hid ha
      have AC' := Lib.hid fun w => ha ▸ AC.out w
      clear ha
      by_cases h48 : (d[0].toNat : Int) = 48
      · have hb48 : ((d[0].toNat : Int) == 48) = true := by rw [beq_iff_eq]; exact h48
        have hb48' : ((d[0].toNat : Int) != 48) = false := by rw [bne, hb48]; rfl
        have e1 : Hid (d.data.toList.head?.map (·.toNat) = some 48) := Lib.hid (by
          rw [HHD.out]
          simp only [Option.map_some]; congr 1; omega)
        clear h48
        by_cases h1 : d.size = 1
        · have hs1 : ((d.size : Int) == 1) = true := by rw [beq_iff_eq]; omega
          have HL : Hid (d.data.toList.length = 1) := Lib.hid (by simpa using h1)
          clear h1
          cases b <;> (
            go_enter Tryz.func146, Tryz.ntmps146
            go_wp2_with fail
            refine (HC.out _).mono ?_
            rintro e w' ⟨rfl, rfl⟩
            go_wp2_with fail
            refine (AC'.out _).mono ?_
            rintro e w' ⟨rfl, rfl⟩
            go_wp2
            go_ret
            exact ⟨by rw [lk, HA.out, e1.out, HL.out]; simp [HNE.out], rfl⟩)
        · have hs1 : ((d.size : Int) == 1) = false := by rw [beq_eq_false_iff_ne]; omega
          have HL : Hid (d.data.toList.length ≠ 1) := Lib.hid (by simpa using h1)
          clear h1
          go_enter Tryz.func146, Tryz.ntmps146
          go_wp2_with fail
          refine (HC.out _).mono ?_
          rintro e w' ⟨rfl, rfl⟩
          go_wp2_with fail
          refine (AC'.out _).mono ?_
          rintro e w' ⟨rfl, rfl⟩
          go_wp2
          go_ret
          exact ⟨by rw [lk, HA.out, e1.out]; simp [HNE.out]; exact fun h => absurd (by simpa using h) HL.out, rfl⟩
      · have hb48 : ((d[0].toNat : Int) == 48) = false := by rw [beq_eq_false_iff_ne]; exact h48
        have hb48' : ((d[0].toNat : Int) != 48) = true := by rw [bne, hb48]; rfl
        have e1 : Hid (d.data.toList.head?.map (·.toNat) ≠ some 48) := Lib.hid (by
          rw [HHD.out]
          simp only [Option.map_some, ne_eq, Option.some.injEq]; omega)
        clear h48
        go_enter Tryz.func146, Tryz.ntmps146
        go_wp2_with fail
        refine (HC.out _).mono ?_
        rintro e w' ⟨rfl, rfl⟩
        go_wp2_with fail
        refine (AC'.out _).mono ?_
        rintro e w' ⟨rfl, rfl⟩
        go_wp2
        go_ret
        have hh : (d.data.toList.head?.map (·.toNat) != some 48) = true := bne_iff_ne.2 e1.out
        have hn : (d.data.toList != []) = true := bne_iff_ne.2 HNE.out
        exact ⟨by rw [lk, HA.out, hh, hn]; rfl, rfl⟩
/-- CutPrefix at a minus. -/
theorem cut_minus (s : ByteArray) (w : World) : Calls Tryz.prog 163 #[.string s, .string ⟨#[45]⟩] w fun e w' => e = .returned (.tuple #[.string ⟨(body s.data.toList).toArray⟩, .bool (minus s.data.toList)]) ∧ w' = w := by
  have h := Tryz.strings_CutPrefix s ⟨#[45]⟩ w
  have e1 : Lib.hasPrefix s.data.toList (⟨#[45]⟩ : ByteArray).data.toList = minus s.data.toList := by
    unfold Lib.hasPrefix minus
    show List.isPrefixOf [45] s.data.toList = _
    cases hq : s.data.toList with
    | nil => rfl
    | cons c r =>
      simp only [List.isPrefixOf, List.head?_cons, Option.map_some, Bool.and_true]
      rw [Bool.eq_iff_iff]
      simp only [beq_iff_eq, Option.some.injEq]
      constructor
      · intro h; rw [← h]; rfl
      · intro h; exact (UInt8.toNat_inj.1 h).symm
  have e2 : Lib.trimPrefix s.data.toList (⟨#[45]⟩ : ByteArray).data.toList = body s.data.toList := by
    unfold Lib.trimPrefix
    rw [e1]
    unfold body
    by_cases hm : minus s.data.toList = true
    · rw [if_pos hm, if_pos hm]
      show s.data.toList.drop 1 = _
      rw [List.drop_one]
    · rw [if_neg hm, if_neg hm]
  rwa [e1, e2] at h
theorem looks_any (s : ByteArray) (w : World) (hs : s.size ≤ 1000000) :
    Calls Tryz.prog 146 #[.string s] w fun e w' => e = .returned (.bool (looks s.data.toList)) ∧ w' = w := by
  have hl : (⟨(body s.data.toList).toArray⟩ : ByteArray).size ≤ 1000000 := by
    show (body s.data.toList).toArray.size ≤ 1000000
    have hss : s.data.toList.length = s.size := by simp
    unfold body
    split
    · simp; omega
    · simp; omega
  exact looks_walk s ⟨(body s.data.toList).toArray⟩ (minus s.data.toList) w hl (fun w => cut_minus s w)
end Go.Proofs.YteghhmomhlnccaaGreatDoor

/- num's Print and Read. -/
namespace Go.Proofs.YteghhmomhlnccaaGreatDoor
open Go.RowKit Go.Lib

theorem read_no (s : ByteArray) (w : World) (hs : s.size ≤ 6000) (hl : looks s.data.toList = false) :
    Calls Tryz.prog 120 #[.string s] w fun e w' => e = .returned (.tuple #[.int .i64 0, .int .i64 6]) ∧ Below w.heap.size w w' := by
  have L := fun w => looks_any s w (by omega)
  rw [hl] at L
  have LL := Lib.hid L
  clear L hl
  go_enter Tryz.func120, Tryz.ntmps120
  go_wp2_with fail
  refine (LL.out _).mono ?_
  rintro e w' ⟨rfl, rfl⟩
  go_wp2
  go_ret2
  exact ⟨rfl, Below.refl _ _⟩
theorem read_ok (s : ByteArray) (w : World) (hs : s.size ≤ 6000) (hl : looks s.data.toList = true) (v : Int) (hv : Lib.parseIntB 64 s.data.toList = .ok v) (a : Addr) (hc : w.cell? ⟨0, 0, none⟩ = some (.iface 242 (.pointer (some a)))) :
    Calls Tryz.prog 120 #[.string s] w fun e w' => e = .returned (.tuple #[.int .i64 v, .int .i64 0]) ∧ Below w.heap.size w w' := by
  have L := fun w => looks_any s w (by omega)
  rw [hl] at L
  have LL := Lib.hid L
  have PP := Lib.hid fun w => Tryz.strconv_ParseInt_10_at64_ok s (by omega) v hv w
  have hlt := World.block_lt_of_cell? w _ hc
  have HC := Lib.hid hc
  clear L hl hv hc
  go_enter Tryz.func120, Tryz.ntmps120
  go_wp2_with fail
  refine (LL.out _).mono ?_
  rintro e w' ⟨rfl, rfl⟩
  go_wp2_with fail
  refine (PP.out _).mono ?_
  rintro e w2 ⟨rfl, hw⟩
  have hb : Below w'.heap.size w' w2 := by
    rcases hw with rfl | ⟨t, rfl⟩
    · exact Below.refl _ _
    · exact Lib.bytesWorld_below ..
  have c2 : w2.cell? ⟨0, 0, none⟩ = some (.iface 242 (.pointer (some a))) := (hb.cell hlt).trans HC.out
  have HB := Lib.hid hb
  clear hw hb
  go_wp2_with fail
  refine (is_nil a _).mono ?_
  rintro e w' ⟨rfl, rfl⟩
  go_wp2
  go_ret2
  exact ⟨rfl, HB.out⟩
theorem read_range (s : ByteArray) (w : World) (hs : s.size ≤ 6000) (hl : looks s.data.toList = true) (hv : Lib.parseIntB 64 s.data.toList = .range) (a : Addr) (hc : w.cell? ⟨0, 0, none⟩ = some (.iface 242 (.pointer (some a)))) (hvar : w.var? Tryz.prog "strconv.ErrRange" = some #[.iface 242 (.pointer (some a))]) :
    Calls Tryz.prog 120 #[.string s] w fun e w' => e = .returned (.tuple #[.int .i64 0, .int .i64 4]) ∧ Below w.heap.size w w' := by
  have L := fun w => looks_any s w (by omega)
  rw [hl] at L
  have LL := Lib.hid L
  have PP := Lib.hid (Tryz.strconv_ParseInt_10_at64_range_var s (by omega) hv 242 (.pointer (some a)) w hvar)
  have hlt := World.block_lt_of_cell? w _ hc
  have HC := Lib.hid hc
  clear L hl hv hc hvar
  go_enter Tryz.func120, Tryz.ntmps120
  go_wp2_with fail
  refine (LL.out _).mono ?_
  rintro e w' ⟨rfl, rfl⟩
  go_wp2_with fail
  refine (PP.out).mono ?_
  rintro e w2 ⟨N, rfl, hN, hrow, hb⟩
  have c2 : w2.cell? ⟨0, 0, none⟩ = some (.iface 242 (.pointer (some a))) := (hb.cell hlt).trans HC.out
  have CN : Hid (w2.cell? ⟨N, 0 + 2, none⟩ = some (.iface 242 (.pointer (some a)))) := Lib.hid (cell_of_row w2 N 2 _ _ _ hrow)
  have HB := Lib.hid hb
  clear hb hrow
  go_wp2_with fail
  refine (is_wrap_same N 0 a _ CN.out).mono ?_
  rintro e w' ⟨rfl, rfl⟩
  go_wp2
  go_ret2
  exact ⟨rfl, HB.out⟩
theorem read_any (s : ByteArray) (w : World) (hs : s.size ≤ 6000) (a : Addr) (hc : w.cell? ⟨0, 0, none⟩ = some (.iface 242 (.pointer (some a)))) (hvar : w.var? Tryz.prog "strconv.ErrRange" = some #[.iface 242 (.pointer (some a))]) :
    Calls Tryz.prog 120 #[.string s] w fun e w' => e = .returned (.tuple #[.int .i64 (rv s.data.toList), .int .i64 (re s.data.toList)]) ∧ Below w.heap.size w w' := by
  cases hl : looks s.data.toList
  · rw [show rv s.data.toList = 0 by simp [rv, hl], show re s.data.toList = 6 by simp [re, hl]]
    exact read_no s w hs hl
  · have hp := parse_looks s.data.toList hl
    by_cases hf : Fits (signed (minus s.data.toList) (dv 0 (body s.data.toList)))
    · rw [if_pos hf] at hp
      rw [show rv s.data.toList = signed (minus s.data.toList) (dv 0 (body s.data.toList)) by rw [rv, if_pos hl, sv, if_pos hf], show re s.data.toList = 0 by rw [re, if_pos hl, se, if_pos hf]]
      exact read_ok s w hs hl _ hp a hc
    · rw [if_neg hf] at hp
      rw [show rv s.data.toList = 0 by rw [rv, if_pos hl, sv, if_neg hf], show re s.data.toList = 4 by rw [re, if_pos hl, se, if_neg hf]]
      exact read_range s w hs hl hp a hc hvar

theorem print_any (n : Int) (w : World) (hn : Fits n) (htab : Lib.TabIs Tryz.prog w powName .u64 Lib.pow10Tab) :
    Calls Tryz.prog 119 #[.int .i64 n] w fun e w' => e = .returned (.string ⟨(itoa n).toArray⟩) ∧ Below w.heap.size w w' := by
  have F := Lib.hid (Tryz.strconv_FormatInt_10 n hn.1 hn.2 w htab)
  clear htab hn
  go_enter Tryz.func119, Tryz.ntmps119
  go_wp2_with fail
  refine (F.out).mono ?_
  rintro e w2 ⟨rfl, k, os, rfl⟩
  go_wp2
  go_ret
  exact ⟨rfl, Lib.below_grow _ _ (Nat.le_refl _) _ _⟩
end Go.Proofs.YteghhmomhlnccaaGreatDoor
