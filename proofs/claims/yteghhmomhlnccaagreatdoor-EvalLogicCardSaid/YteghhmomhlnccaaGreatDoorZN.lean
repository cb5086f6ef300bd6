import Derived.Test.YteghhmomhlnccaaGreatDoorRows
import Derived.Test.YteghhmomhlnccaaGreatDoorZC2
import Derived.WalkKit
import Derived.ProofKit
import Derived.OpenShut
import Derived.IntWalk
import Derived.Lib.Hide

/- The plain contracts of num's calls: Add, Sub, Mul, Div, Rem, Neg. -/
namespace Go.Proofs.YteghhmomhlnccaaGreatDoor
open Go.RowKit

set_option maxRecDepth 100000 in
theorem add_any (a b : Int) (w : World) (ha : Fits a) (hb : Fits b) :
    Calls Tryz.prog 140 #[.int .i64 a, .int .i64 b] w fun e w' => e = .returned (.tuple #[.int .i64 (sv (a + b)), .int .i64 (se (a + b))]) ∧ w = w' := by
  obtain ⟨a1, a2⟩ := ha
  obtain ⟨b1, b2⟩ := hb
  by_cases hf : Fits (a + b)
  · have hv : sv (a + b) = a + b := if_pos hf
    have he : se (a + b) = 0 := if_pos hf
    rw [hv, he]
    clear hv he
    obtain ⟨f1, f2⟩ := hf
    by_cases h1 : b > 0
    · have h2 : ¬ a > 9223372036854775807 - b := by omega
      go_enter Tryz.func140, Tryz.ntmps140
      go_wp2
      go_ret2
      exact ⟨rfl, rfl⟩
    · by_cases h3 : b < 0
      · have h2 : ¬ a < -9223372036854775808 - b := by omega
        go_enter Tryz.func140, Tryz.ntmps140
        go_wp2
        go_ret2
        exact ⟨rfl, rfl⟩
      · go_enter Tryz.func140, Tryz.ntmps140
        go_wp2
        go_ret2
        exact ⟨rfl, rfl⟩
  · have hv : sv (a + b) = 0 := if_neg hf
    have he : se (a + b) = 4 := if_neg hf
    rw [hv, he]
    clear hv he
    unfold Fits at hf
    by_cases h1 : b > 0
    · have h2 : a > 9223372036854775807 - b := by omega
      go_enter Tryz.func140, Tryz.ntmps140
      go_wp2
      go_ret2
      exact ⟨rfl, rfl⟩
    · have h3 : b < 0 := by omega
      have h2 : a < -9223372036854775808 - b := by omega
      go_enter Tryz.func140, Tryz.ntmps140
      go_wp2
      go_ret2
      exact ⟨rfl, rfl⟩
end Go.Proofs.YteghhmomhlnccaaGreatDoor

/- The plain contracts of num's calls: Add, Sub, Mul, Div, Rem, Neg. -/
namespace Go.Proofs.YteghhmomhlnccaaGreatDoor
open Go.RowKit

theorem tdiv_bd (M b : Int) (_hM : 0 ≤ M) (_hb : b ≠ 0) : -M ≤ Int.tdiv M b ∧ Int.tdiv M b ≤ M := by
  have h := Int.natAbs_tdiv_le_natAbs M b
  omega
theorem tdiv_neg_right (M b : Int) (hM : 0 ≤ M) (_hb : b < 0) : Int.tdiv M b = -(M / (-b)) := by
  have : b = -(-b) := by omega
  rw [this, Int.tdiv_neg, Int.tdiv_eq_ediv_of_nonneg hM, Int.neg_neg]

theorem fits_pp {a b : Int} (h1 : a > 0) (h2 : b > 0) : decide (a ≤ 9223372036854775807 / b) = decide (Fits (a * b)) := by
  rw [decide_eq_decide, Int.le_ediv_iff_mul_le h2]
  have := Int.mul_pos h1 h2
  unfold Fits; omega
theorem fits_nn {a b : Int} (h1 : a < 0) (h2 : b < 0) : decide (wrap64 (Int.tdiv 9223372036854775807 b) ≤ a) = decide (Fits (a * b)) := by
  have hb := tdiv_bd 9223372036854775807 b (by decide) (by omega)
  rw [IntWalk.wrap64_in _ (by omega), tdiv_neg_right _ b (by decide) h2, decide_eq_decide]
  have hh : (-(9223372036854775807 / -b) ≤ a) ↔ (-a ≤ 9223372036854775807 / -b) := by omega
  rw [hh, Int.le_ediv_iff_mul_le (by omega), Int.neg_mul_neg]
  have := Int.mul_pos_of_neg_of_neg h1 h2
  unfold Fits; omega
theorem fits_np {a b : Int} (h1 : a < 0) (h2 : b > 0) : decide (wrap64 (-Int.tdiv 9223372036854775808 b) ≤ a) = decide (Fits (a * b)) := by
  have e : Int.tdiv 9223372036854775808 b = 9223372036854775808 / b := Int.tdiv_eq_ediv_of_nonneg (by decide)
  have l1 : 0 ≤ 9223372036854775808 / b := Int.ediv_nonneg (by decide) (by omega)
  have l2 := Int.ediv_le_self b (a := 9223372036854775808) (by decide)
  rw [e, IntWalk.wrap64_in _ (by omega), decide_eq_decide]
  have hh : (-(9223372036854775808 / b) ≤ a) ↔ (-a ≤ 9223372036854775808 / b) := by omega
  rw [hh, Int.le_ediv_iff_mul_le h2, Int.neg_mul]
  have := Int.mul_neg_of_neg_of_pos h1 h2
  unfold Fits; omega

set_option maxRecDepth 100000 in
theorem fits_any (a b : Int) (w : World) (ha : Fits a) (hb : Fits b) :
    Calls Tryz.prog 161 #[.int .i64 a, .int .i64 b] w fun e w' => e = .returned (.bool (decide (Fits (a * b)))) ∧ w = w' := by
  obtain ⟨a1, a2⟩ := ha
  obtain ⟨b1, b2⟩ := hb
  by_cases h1 : a > 0
  · by_cases h2 : b > 0
    · rw [← fits_pp h1 h2]
      go_enter Tryz.func161, Tryz.ntmps161
      go_wp2
      go_ret
      exact ⟨rfl, rfl⟩
    · have h3 : ¬ a < 0 := by omega
      by_cases h4 : b < 0
      · rw [Int.mul_comm, ← fits_np h4 h1]
        go_enter Tryz.func161, Tryz.ntmps161
        go_wp2
        go_ret
        exact ⟨rfl, rfl⟩
      · obtain rfl : b = 0 := by omega
        have e : decide (Fits (a * 0)) = true := by rw [Int.mul_zero]; decide
        rw [e]
        clear e h2 h4 b1 b2
        go_enter Tryz.func161, Tryz.ntmps161
        go_wp2
        go_ret
        exact ⟨rfl, rfl⟩
  · by_cases h2 : a < 0
    · by_cases h3 : b < 0
      · rw [← fits_nn h2 h3]
        go_enter Tryz.func161, Tryz.ntmps161
        go_wp2
        go_ret
        exact ⟨rfl, rfl⟩
      · by_cases h4 : b > 0
        · rw [← fits_np h2 h4]
          go_enter Tryz.func161, Tryz.ntmps161
          go_wp2
          go_ret
          exact ⟨rfl, rfl⟩
        · obtain rfl : b = 0 := by omega
          have e : decide (Fits (a * 0)) = true := by rw [Int.mul_zero]; decide
          rw [e]
          clear e h4 h3 b1 b2
          go_enter Tryz.func161, Tryz.ntmps161
          go_wp2
          go_ret
          exact ⟨rfl, rfl⟩
    · obtain rfl : a = 0 := by omega
      have e : decide (Fits (0 * b)) = true := by rw [Int.zero_mul]; decide
      rw [e]
      clear e h1 h2 a1 a2
      go_enter Tryz.func161, Tryz.ntmps161
      go_wp2
      go_ret
      exact ⟨rfl, rfl⟩

/-- what the walk makes of a product that fits. -/
theorem mul_any (a b : Int) (w : World) (ha : Fits a) (hb : Fits b) :
    Calls Tryz.prog 142 #[.int .i64 a, .int .i64 b] w fun e w' => e = .returned (.tuple #[.int .i64 (sv (a * b)), .int .i64 (se (a * b))]) ∧ w = w' := by
  by_cases hf : Fits (a * b)
  · have hv : sv (a * b) = a * b := if_pos hf
    have he : se (a * b) = 0 := if_pos hf
    rw [hv, he]
    have H : decide (Fits (a * b)) = true := decide_eq_true hf
    have K := fun w => fits_any a b w ha hb
    rw [H] at K
    have K' := Lib.hid K
    clear hv he H K ha hb
    obtain ⟨f1, f2⟩ := hf
    go_enter Tryz.func142, Tryz.ntmps142
    go_wp2_with (go_at_call 161; refine (K'.out _).mono ?_; rintro e w' ⟨rfl, rfl⟩)
    go_ret2
    exact ⟨rfl, rfl⟩
  · have hv : sv (a * b) = 0 := if_neg hf
    have he : se (a * b) = 4 := if_neg hf
    rw [hv, he]
    have H : decide (Fits (a * b)) = false := decide_eq_false hf
    have K := fun w => fits_any a b w ha hb
    rw [H] at K
    have K' := Lib.hid K
    clear hv he H K ha hb hf
    go_enter Tryz.func142, Tryz.ntmps142
    go_wp2_with (go_at_call 161; refine (K'.out _).mono ?_; rintro e w' ⟨rfl, rfl⟩)
    go_ret2
    exact ⟨rfl, rfl⟩

set_option maxRecDepth 100000 in
theorem sub_any (a b : Int) (w : World) (ha : Fits a) (hb : Fits b) :
    Calls Tryz.prog 141 #[.int .i64 a, .int .i64 b] w fun e w' => e = .returned (.tuple #[.int .i64 (sv (a - b)), .int .i64 (se (a - b))]) ∧ w = w' := by
  obtain ⟨a1, a2⟩ := ha
  obtain ⟨b1, b2⟩ := hb
  by_cases hf : Fits (a - b)
  · have hv : sv (a - b) = a - b := if_pos hf
    have he : se (a - b) = 0 := if_pos hf
    rw [hv, he]
    clear hv he
    obtain ⟨f1, f2⟩ := hf
    by_cases h1 : b < 0
    · have h2 : ¬ a > 9223372036854775807 + b := by omega
      have h4 : ¬ b > 0 := by omega
      go_enter Tryz.func141, Tryz.ntmps141
      go_wp2
      go_ret2
      exact ⟨rfl, rfl⟩
    · by_cases h3 : b > 0
      · have h2 : ¬ a < -9223372036854775808 + b := by omega
        go_enter Tryz.func141, Tryz.ntmps141
        go_wp2
        go_ret2
        exact ⟨rfl, rfl⟩
      · go_enter Tryz.func141, Tryz.ntmps141
        go_wp2
        go_ret2
        exact ⟨rfl, rfl⟩
  · have hv : sv (a - b) = 0 := if_neg hf
    have he : se (a - b) = 4 := if_neg hf
    rw [hv, he]
    clear hv he
    unfold Fits at hf
    by_cases h1 : b < 0
    · have h2 : a > 9223372036854775807 + b := by omega
      go_enter Tryz.func141, Tryz.ntmps141
      go_wp2
      go_ret2
      exact ⟨rfl, rfl⟩
    · have h3 : b > 0 := by omega
      have h2 : a < -9223372036854775808 + b := by omega
      go_enter Tryz.func141, Tryz.ntmps141
      go_wp2
      go_ret2
      exact ⟨rfl, rfl⟩

theorem fits0 : Fits 0 := by decide
theorem neg_any (a : Int) (w : World) (ha : Fits a) :
    Calls Tryz.prog 122 #[.int .i64 a] w fun e w' => e = .returned (.tuple #[.int .i64 (sv (-a)), .int .i64 (se (-a))]) ∧ w = w' := by
  have K := fun w => sub_any 0 a w fits0 ha
  rw [Int.zero_sub] at K
  have K' := Lib.hid K
  clear K ha
  go_enter Tryz.func122, Tryz.ntmps122
  go_wp2_with (go_at_call 141; refine (K'.out _).mono ?_; rintro e w' ⟨rfl, rfl⟩)
  go_ret2
  exact ⟨rfl, rfl⟩

/-- the quotient, and what is left, of a divisor that isn't 0; the errors. -/
theorem div_any (a b : Int) (w : World) (ha : Fits a) (hb : Fits b) (h0 : b ≠ 0) :
    Calls Tryz.prog 143 #[.int .i64 a, .int .i64 b] w fun e w' => e = .returned (.tuple #[.int .i64 (sv (a.tdiv b)), .int .i64 (se (a.tdiv b))]) ∧ w = w' := by
  obtain ⟨a1, a2⟩ := ha
  obtain ⟨b1, b2⟩ := hb
  by_cases hs : a = -9223372036854775808 ∧ b = -1
  · obtain ⟨rfl, rfl⟩ := hs
    have hv : sv ((-9223372036854775808 : Int).tdiv (-1)) = 0 := by decide
    have he : se ((-9223372036854775808 : Int).tdiv (-1)) = 4 := by decide
    rw [hv, he]
    clear hv he a1 a2 b1 b2 h0
    go_enter Tryz.func143, Tryz.ntmps143
    go_wp2
    go_ret2
    exact ⟨rfl, rfl⟩
  · have hf : Fits (a.tdiv b) := by
      have h := Int.natAbs_tdiv_le_natAbs a b
      by_cases e : a = -9223372036854775808
      · have hb1 : b ≠ -1 := fun e' => hs ⟨e, e'⟩
        subst e
        by_cases hb2 : b > 0
        · have e2 : Int.tdiv (-9223372036854775808) b = -(9223372036854775808 / b) := by
            rw [show (-9223372036854775808 : Int) = -(9223372036854775808) from rfl, Int.neg_tdiv, Int.tdiv_eq_ediv_of_nonneg (by decide)]
          have l1 : 0 ≤ 9223372036854775808 / b := Int.ediv_nonneg (by decide) (by omega)
          have l2 := Int.ediv_le_self b (a := 9223372036854775808) (by decide)
          rw [e2]; unfold Fits; omega
        · have e2 : Int.tdiv (-9223372036854775808) b = 9223372036854775808 / (-b) := by
            rw [show (-9223372036854775808 : Int) = -(9223372036854775808) from rfl, show b = -(-b) by omega, Int.neg_tdiv, Int.tdiv_neg, Int.neg_neg, Int.tdiv_eq_ediv_of_nonneg (by decide), Int.neg_neg]
          have l1 : 0 ≤ 9223372036854775808 / (-b) := Int.ediv_nonneg (by decide) (by omega)
          have l2 : 9223372036854775808 / (-b) ≤ 4611686018427387904 := by
            have q1 := Int.ediv_mul_le 9223372036854775808 (show (-b) ≠ 0 by omega)
            have q2 := Int.mul_le_mul_of_nonneg_left (show (2 : Int) ≤ -b by omega) l1
            omega
          rw [e2]; unfold Fits; omega
      · unfold Fits; omega
    have hv : sv (a.tdiv b) = a.tdiv b := if_pos hf
    have he : se (a.tdiv b) = 0 := if_pos hf
    rw [hv, he]
    obtain ⟨f1, f2⟩ := hf
    have hw : wrap64 (a.tdiv b) = a.tdiv b := IntWalk.wrap64_in _ ⟨f1, f2⟩
    have HW := Lib.hid hw
    clear hv he hw
    by_cases e : a = -9223372036854775808
    · have hb1 : ¬ b = -1 := fun e' => hs ⟨e, e'⟩
      clear hs
      subst e
      go_enter Tryz.func143, Tryz.ntmps143
      go_wp2
      go_ret2
      exact ⟨by first | rfl | (have := HW.out; simp_all), rfl⟩
    · clear hs
      go_enter Tryz.func143, Tryz.ntmps143
      go_wp2
      go_ret2
      exact ⟨by first | rfl | (have := HW.out; simp_all), rfl⟩
theorem div_zero (a : Int) (w : World) :
    Calls Tryz.prog 143 #[.int .i64 a, .int .i64 0] w fun e w' => e = .returned (.tuple #[.int .i64 0, .int .i64 5]) ∧ w = w' := by
  go_enter Tryz.func143, Tryz.ntmps143
  go_wp2
  go_ret2
  exact ⟨rfl, rfl⟩
theorem rem_zero (a : Int) (w : World) :
    Calls Tryz.prog 144 #[.int .i64 a, .int .i64 0] w fun e w' => e = .returned (.tuple #[.int .i64 0, .int .i64 5]) ∧ w = w' := by
  go_enter Tryz.func144, Tryz.ntmps144
  go_wp2
  go_ret2
  exact ⟨rfl, rfl⟩
theorem rem_any (a b : Int) (w : World) (ha : Fits a) (hb : Fits b) (h0 : b ≠ 0) :
    Calls Tryz.prog 144 #[.int .i64 a, .int .i64 b] w fun e w' => e = .returned (.tuple #[.int .i64 (a.tmod b), .int .i64 0]) ∧ w = w' := by
  obtain ⟨a1, a2⟩ := ha
  obtain ⟨b1, b2⟩ := hb
  by_cases hs : b = -1
  · subst hs
    have e : a.tmod (-1) = 0 := by rw [Int.tmod_neg, Int.tmod_one]
    rw [e]
    clear e h0 b1 b2
    go_enter Tryz.func144, Tryz.ntmps144
    go_wp2
    go_ret2
    exact ⟨rfl, rfl⟩
  · have hf : Fits (a.tmod b) := by
      have h := Int.natAbs_tmod a b
      have h2 := Nat.mod_le a.natAbs b.natAbs
      have h3 : a.natAbs % b.natAbs < b.natAbs := Nat.mod_lt _ (by omega)
      unfold Fits; omega
    obtain ⟨f1, f2⟩ := hf
    have hw : wrap64 (a.tmod b) = a.tmod b := IntWalk.wrap64_in _ ⟨f1, f2⟩
    have HW := Lib.hid hw
    clear hw
    go_enter Tryz.func144, Tryz.ntmps144
    go_wp2
    go_ret2
    exact ⟨by first | rfl | (have := HW.out; simp_all), rfl⟩

end Go.Proofs.YteghhmomhlnccaaGreatDoor
