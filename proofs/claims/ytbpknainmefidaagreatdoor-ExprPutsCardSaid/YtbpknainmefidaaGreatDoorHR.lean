/- Strings of the reference at equal lists; in. -/
import Derived.Test.YtbpknainmefidaaGreatDoorHMB
import Derived.Test.YtbpknainmefidaaGreatDoorHQ
namespace Go.Proofs.YtbpknainmefidaaGreatDoor
open Go.RowKit Go.Lib
set_option linter.unusedVariables false
set_option linter.unusedSimpArgs false
set_option maxRecDepth 100000

theorem SRow.strs {w : World} {base : Nat} {v : Value} {ss : List ByteArray} (h : SRow w base v ss) : ∃ A c, v = .slice A ss.length c ∧ ss.length ≤ c ∧ Strs w A ss := by
  obtain ⟨A, c, h1, h2, h3⟩ := h.shape
  refine ⟨A, c, h1, h2, fun i hi => ?_⟩
  obtain ⟨g, e, -, hg, hc⟩ := h3 i hi
  exact ⟨g, 0, e, hg, by rwa [Nat.zero_add]⟩
set_option maxHeartbeats 1000000 in
theorem refStrings_same (A B : Option Addr) (c d : Nat) (N : List (List UInt8)) (w : World) (ha : Strs w A (N.map tx)) (hb : Strs w B (N.map tx)) (hn : N.length ≤ 500000) :
    Calls Tryz.prog 13 #[.slice A (N.map tx).length c, .slice B (N.map tx).length d] w fun e w' => e = .returned (.bool true) ∧ Below w.heap.size w w' := by
  obtain ⟨n, hn'⟩ : ∃ n, (N.map tx).length = n := ⟨_, rfl⟩
  rw [hn']
  have HN := Lib.hid hn'
  have hn9 : (n : Int) ≤ 500000 := by rw [List.length_map] at hn'; omega
  clear hn'
  go_enter Tryz.func13, Tryz.ntmps13
  go_wp2_with fail
  go_loopg [5] (n + 1) (fun j s5 wr => ∃ i : Nat, i ≤ n ∧ n < i + j ∧ s5 = .int .i64 (i : Nat) ∧ Hid (Below w.heap.size w wr))
  case atStart => exact ⟨0, by omega, by omega, rfl, Lib.hid (Below.refl _ _)⟩
  case round =>
    obtain ⟨i, hi, hj, rfl, HB⟩ := hrel
    by_cases hlt : i < n
    · have hlt' : (i : Int) < (n : Int) := by omega
      have hiN : i < (N.map tx).length := by rw [HN.out]; exact hlt
      obtain ⟨b, o, rfl, -, c0⟩ := (ha.below HB.out) i hiN
      obtain ⟨b2, o2, rfl, -, c1⟩ := (hb.below HB.out) i hiN
      obtain ⟨x, hx⟩ : ∃ x, (N.map tx)[i] = x := ⟨_, rfl⟩
      rw [hx] at c0 c1
      clear hx
      go_wp2_with fail
      go_quiet (fail)
      go_wp2_with fail
      go_roundg (n - i)
      case measure => omega
      case rel => exact ⟨i + 1, by omega, by omega, by go_num, Lib.hid (below_drewN HB.out _)⟩
    · have hlt' : ¬ (i : Int) < (n : Int) := by omega
      go_wp2_with fail
      go_ret
      exact ⟨rfl, HB.out⟩
set_option maxHeartbeats 1000000 in
theorem in_any (A : Option Addr) (c : Nat) (N : List (List UInt8)) (t : List UInt8) (w : World) (ha : Strs w A (N.map tx)) (hn : N.length ≤ 500000) :
    Calls Tryz.prog 22 #[.slice A (N.map tx).length c, .string (tx t)] w fun e w' => e = .returned (.bool (hasC N t)) ∧ w' = w := by
  obtain ⟨n, hn'⟩ : ∃ n, (N.map tx).length = n := ⟨_, rfl⟩
  rw [hn']
  have HN := Lib.hid hn'
  have hn9 : (n : Int) ≤ 500000 := by rw [List.length_map] at hn'; omega
  clear hn'
  go_enter Tryz.func22, Tryz.ntmps22
  go_wp2_with fail
  go_loopg [5] (n + 1) (fun j s5 wr => ∃ i : Nat, i ≤ n ∧ n < i + j ∧ s5 = .int .i64 (i : Nat) ∧ Hid (hasC (N.take i) t = false) ∧ wr = w)
  case atStart => exact ⟨0, by omega, by omega, rfl, Lib.hid rfl, rfl⟩
  case round =>
    obtain ⟨i, hi, hj, rfl, HC, rfl⟩ := hrel
    by_cases hlt : i < n
    · have hlt' : (i : Int) < (n : Int) := by omega
      have hiN : i < (N.map tx).length := by rw [HN.out]; exact hlt
      have hiN2 : i < N.length := by rwa [List.length_map] at hiN
      obtain ⟨b, o, rfl, -, c0⟩ := ha i hiN
      rw [List.getElem_map] at c0
      have HT := Lib.hid (contains_take N i hiN2 t)
      rw [HC.out, Bool.false_or] at HT
      have HM : Hid ((N[i] == t) = true → hasC N t = true) := Lib.hid (fun h => by
        have := eq_of_beq h
        simp only [hasC, List.contains_iff_mem]
        rw [← this]
        exact List.getElem_mem hiN2)
      cases hq : (N[i] == t)
      · rw [hq] at HT
        clear HM
        go_wp2_with fail
        go_roundg (n - i)
        case measure => omega
        case rel => exact ⟨i + 1, by omega, by omega, by go_num, HT, rfl⟩
      · have HF := Lib.hid (HM.out hq)
        clear HM HT
        go_wp2_with fail
        go_ret
        exact ⟨by rw [HF.out]; rfl, rfl⟩
    · have hlt' : ¬ (i : Int) < (n : Int) := by omega
      have HF : Hid (hasC N t = false) := Lib.hid (by have := HC.out; rwa [List.take_of_length_le (by have := HN.out; rw [List.length_map] at this; omega)] at this)
      go_wp2_with fail
      go_ret
      exact ⟨by rw [HF.out]; rfl, rfl⟩
end Go.Proofs.YtbpknainmefidaaGreatDoor
