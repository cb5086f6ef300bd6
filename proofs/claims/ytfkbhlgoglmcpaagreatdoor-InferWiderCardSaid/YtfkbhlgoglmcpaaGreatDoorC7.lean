/- num's allDigits, looksPrinted. -/
import Derived.Test.YtfkbhlgoglmcpaaGreatDoorC2
import Derived.Test.YtfkbhlgoglmcpaaGreatDoorRows
import Derived.Test.YtfkbhlgoglmcpaaGreatDoorShelf
import Derived.WalkKit
import Derived.ProofKit
import Derived.OpenShut
import Derived.IntWalk
import Derived.Lib.Hide
namespace Go.Proofs.YtfkbhlgoglmcpaaGreatDoor
open Go.RowKit Go.Lib

/-- are they all digits? -/
def allD (l : List UInt8) : Bool := l.all dig
theorem take_snoc' (s : ByteArray) (k : Nat) (h : k < s.size) : s.data.toList.take (k + 1) = s.data.toList.take k ++ [s[k]] := by
  rw [List.take_succ_eq_append_getElem (by simpa using h)]; rfl
set_option maxRecDepth 100000 in
theorem alldigits_any (d : ByteArray) (w : World) (hs : d.size ≤ 1000000) :
    Calls Tryz.prog 129 #[.string d] w fun e w' => e = .returned (.bool (allD d.data.toList)) ∧ w' = w := by
  go_enter Tryz.func129, Tryz.ntmps129
  go_wp2
  go_loop [6] (fun i => ∃ k : Nat, k ≤ d.size ∧ i = .int .i64 k ∧ Hid (∀ c ∈ d.data.toList.take k, dig c = true)) (fun i => d.size - (RowKit.intOf i).toNat)
  case atStart => exact ⟨0, Nat.zero_le _, rfl, Lib.hid (by simp)⟩
  case round =>
    obtain ⟨k, hk, rfl, H⟩ := hrel
    by_cases hlt : k < d.size
    · by_cases c48 : (d[k].toNat : Int) < 48
      · have NA : Hid (allD d.data.toList = false) := Lib.hid (by unfold allD; rw [List.all_eq_false]; exact ⟨d[k], List.getElem_mem (l := d.data.toList) (by simpa using hlt), by simp [dig]; omega⟩)
        go_wp2
        go_ret
        exact ⟨by rw [NA.out]; rfl, rfl⟩
      · by_cases c57 : (d[k].toNat : Int) > 57
        · have NA : Hid (allD d.data.toList = false) := Lib.hid (by unfold allD; rw [List.all_eq_false]; exact ⟨d[k], List.getElem_mem (l := d.data.toList) (by simpa using hlt), by simp [dig]; omega⟩)
          go_wp2
          go_ret
          exact ⟨by rw [NA.out]; rfl, rfl⟩
        · have DG : Hid (∀ c ∈ d.data.toList.take (k + 1), dig c = true) := Lib.hid (by
            rw [take_snoc' d k hlt]
            intro c hc
            rw [List.mem_append] at hc
            rcases hc with hc | hc
            · exact H.out c hc
            · simp only [List.mem_singleton] at hc; subst hc; simp [dig]; omega)
          go_wp2
          go_round
          case rel => exact ⟨k + 1, by omega, by go_num, DG⟩
          case measure => simp [RowKit.intOf]; omega
    · have AA : Hid (allD d.data.toList = true) := Lib.hid (by
        unfold allD
        rw [List.all_eq_true]
        have h := H.out
        rwa [List.take_of_length_le (by simp; omega)] at h)
      go_wp2
      go_ret
      exact ⟨by rw [AA.out]; rfl, rfl⟩

/-- what is asked of the digits, and of the minus. -/
def lk (l : List UInt8) (b : Bool) : Bool := l != [] && allD l && ((l.head?.map (·.toNat) != some 48) || (l.length == 1 && !b))
theorem looks_lk (l : List UInt8) : looks l = lk (body l) (minus l) := rfl

set_option maxRecDepth 100000 in
theorem looks_walk (s d : ByteArray) (b : Bool) (w : World) (hs : d.size ≤ 1000000)
    (hcut : ∀ w, Calls Tryz.prog 128 #[.string s, .string ⟨#[45]⟩] w fun e w' => e = .returned (.tuple #[.string d, .bool b]) ∧ w' = w) :
    Calls Tryz.prog 116 #[.string s] w fun e w' => e = .returned (.bool (lk d.data.toList b)) ∧ w' = w := by
  have HC := Lib.hid hcut
  clear hcut
  by_cases hz : d.size = 0
  · have hde : d = ByteArray.empty := by
      apply ByteArray.ext
      exact Array.eq_empty_of_size_eq_zero hz
    subst hde
    clear hz
    go_enter Tryz.func116, Tryz.ntmps116
    go_wp2_with fail
    refine (HC.out _).mono ?_
    rintro e w' ⟨rfl, rfl⟩
    go_wp2
    go_ret
    exact ⟨rfl, rfl⟩
  · have hz' : 0 < d.size := by omega
    have hhd : d.data.toList.head? = some d[0] := by rw [List.head?_eq_getElem?, List.getElem?_eq_getElem (by simpa using hz')]; rfl
    have HHD := Lib.hid hhd
    have HNE : Hid (d.data.toList ≠ []) := Lib.hid (by intro e; rw [e] at hhd; cases hhd)
    have AC := Lib.hid fun w => alldigits_any d w hs
    have he : d.toList.isEmpty = false := by
      rw [Lib.toList_data]
      cases hq : d.data.toList with
      | nil => exact absurd hq HNE.out
      | cons c r => rfl
    clear hz hhd
    cases ha : allD d.data.toList
    · have HA := Lib.hid ha
      have AC' := Lib.hid fun w => ha ▸ AC.out w
      clear ha
      go_enter Tryz.func116, Tryz.ntmps116
      go_wp2_with fail
      refine (HC.out _).mono ?_
      rintro e w' ⟨rfl, rfl⟩
      go_wp2_with fail
      refine (AC'.out _).mono ?_
      rintro e w' ⟨rfl, rfl⟩
      go_wp2
      go_ret
      exact ⟨by rw [lk, HA.out]; simp, rfl⟩
    · have HA := Lib.hid ha
      have AC' := Lib.hid fun w => ha ▸ AC.out w
      clear ha
      by_cases h48 : (d[0].toNat : Int) = 48
      · have hb48 : ((d[0].toNat : Int) == 48) = true := by rw [beq_iff_eq]; exact h48
        have hb48' : ((d[0].toNat : Int) != 48) = false := by rw [bne, hb48]; rfl
        have e1 : Hid (d.data.toList.head?.map (·.toNat) = some 48) := Lib.hid (by
          rw [HHD.out]
          simp only [Option.map_some]; congr 1; omega)
        clear h48
        by_cases h1 : d.size = 1
        · have hs1 : ((d.size : Int) == 1) = true := by rw [beq_iff_eq]; omega
          have HL : Hid (d.data.toList.length = 1) := Lib.hid (by simpa using h1)
          clear h1
          cases b <;> (
            go_enter Tryz.func116, Tryz.ntmps116
            go_wp2_with fail
            refine (HC.out _).mono ?_
            rintro e w' ⟨rfl, rfl⟩
            go_wp2_with fail
            refine (AC'.out _).mono ?_
            rintro e w' ⟨rfl, rfl⟩
            go_wp2
            go_ret
            exact ⟨by rw [lk, HA.out, e1.out, HL.out]; simp [HNE.out], rfl⟩)
        · have hs1 : ((d.size : Int) == 1) = false := by rw [beq_eq_false_iff_ne]; omega
          have HL : Hid (d.data.toList.length ≠ 1) := Lib.hid (by simpa using h1)
          clear h1
          go_enter Tryz.func116, Tryz.ntmps116
          go_wp2_with fail
          refine (HC.out _).mono ?_
          rintro e w' ⟨rfl, rfl⟩
          go_wp2_with fail
          refine (AC'.out _).mono ?_
          rintro e w' ⟨rfl, rfl⟩
          go_wp2
          go_ret
          exact ⟨by rw [lk, HA.out, e1.out]; simp [HNE.out]; exact fun h => absurd (by simpa using h) HL.out, rfl⟩
      · have hb48 : ((d[0].toNat : Int) == 48) = false := by rw [beq_eq_false_iff_ne]; exact h48
        have hb48' : ((d[0].toNat : Int) != 48) = true := by rw [bne, hb48]; rfl
        have e1 : Hid (d.data.toList.head?.map (·.toNat) ≠ some 48) := Lib.hid (by
          rw [HHD.out]
          simp only [Option.map_some, ne_eq, Option.some.injEq]; omega)
        clear h48
        go_enter Tryz.func116, Tryz.ntmps116
        go_wp2_with fail
        refine (HC.out _).mono ?_
        rintro e w' ⟨rfl, rfl⟩
        go_wp2_with fail
        refine (AC'.out _).mono ?_
        rintro e w' ⟨rfl, rfl⟩
        go_wp2
        go_ret
        have hh : (d.data.toList.head?.map (·.toNat) != some 48) = true := bne_iff_ne.2 e1.out
        have hn : (d.data.toList != []) = true := bne_iff_ne.2 HNE.out
        exact ⟨by rw [lk, HA.out, hh, hn]; rfl, rfl⟩
/-- CutPrefix at a minus. -/
theorem cut_minus (s : ByteArray) (w : World) : Calls Tryz.prog 128 #[.string s, .string ⟨#[45]⟩] w fun e w' => e = .returned (.tuple #[.string ⟨(body s.data.toList).toArray⟩, .bool (minus s.data.toList)]) ∧ w' = w := by
  have h := Tryz.strings_CutPrefix s ⟨#[45]⟩ w
  have e1 : Lib.hasPrefix s.data.toList (⟨#[45]⟩ : ByteArray).data.toList = minus s.data.toList := by
    unfold Lib.hasPrefix minus
    show List.isPrefixOf [45] s.data.toList = _
    cases hq : s.data.toList with
    | nil => rfl
    | cons c r =>
      simp only [List.isPrefixOf, List.head?_cons, Option.map_some, Bool.and_true]
      rw [Bool.eq_iff_iff]
      simp only [beq_iff_eq, Option.some.injEq]
      constructor
      · intro h; rw [← h]; rfl
      · intro h; exact (UInt8.toNat_inj.1 h).symm
  have e2 : Lib.trimPrefix s.data.toList (⟨#[45]⟩ : ByteArray).data.toList = body s.data.toList := by
    unfold Lib.trimPrefix
    rw [e1]
    unfold body
    by_cases hm : minus s.data.toList = true
    · rw [if_pos hm, if_pos hm]
      show s.data.toList.drop 1 = _
      rw [List.drop_one]
    · rw [if_neg hm, if_neg hm]
  rwa [e1, e2] at h
theorem looks_any (s : ByteArray) (w : World) (hs : s.size ≤ 1000000) :
    Calls Tryz.prog 116 #[.string s] w fun e w' => e = .returned (.bool (looks s.data.toList)) ∧ w' = w := by
  have hl : (⟨(body s.data.toList).toArray⟩ : ByteArray).size ≤ 1000000 := by
    show (body s.data.toList).toArray.size ≤ 1000000
    have hss : s.data.toList.length = s.size := by simp
    unfold body
    split
    · simp; omega
    · simp; omega
  exact looks_walk s ⟨(body s.data.toList).toArray⟩ (minus s.data.toList) w hl (fun w => cut_minus s w)
end Go.Proofs.YtfkbhlgoglmcpaaGreatDoor
