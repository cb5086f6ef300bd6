/- NumTurns walked. -/
import Derived.Test.YtppcgjdggkhndaaA2
namespace Go.Proofs.Ytppcgjdggkhndaa
open Go.RowKit

theorem neg_yes (a : Int) (w : World) (ha : Fits a) (hn : Fits (-a)) :
    Calls Try.prog 11 #[.int .i64 a] w fun e w' => e = .returned (.tuple #[.int .i64 (-a), .int .i64 0]) ∧ w = w' := by
  have h := neg_any a w ha
  rwa [show sv (-a) = -a from if_pos hn, show se (-a) = 0 from if_pos hn] at h
theorem neg_no (w : World) :
    Calls Try.prog 11 #[.int .i64 (-9223372036854775808)] w fun e w' => e = .returned (.tuple #[.int .i64 0, .int .i64 4]) ∧ w = w' :=
  neg_any (-9223372036854775808) w (by decide)
theorem add_turned (a b : Int) (w : World) (ha : Fits a) (hb : Fits b) :
    Calls Try.prog 8 #[.int .i64 b, .int .i64 a] w fun e w' => e = .returned (.tuple #[.int .i64 (sv (a + b)), .int .i64 (se (a + b))]) ∧ w = w' := by
  have h := add_any b a w hb ha
  rwa [Int.add_comm] at h
theorem mul_turned (a b : Int) (w : World) (ha : Fits a) (hb : Fits b) :
    Calls Try.prog 10 #[.int .i64 b, .int .i64 a] w fun e w' => e = .returned (.tuple #[.int .i64 (sv (a * b)), .int .i64 (se (a * b))]) ∧ w = w' := by
  have h := mul_any b a w hb ha
  rwa [Int.mul_comm] at h
theorem sub_self_ok (a : Int) (w : World) (ha : Fits a) :
    Calls Try.prog 9 #[.int .i64 a, .int .i64 a] w fun e w' => e = .returned (.tuple #[.int .i64 0, .int .i64 0]) ∧ w = w' := by
  have h := sub_any a a w ha ha
  rw [Int.sub_self] at h
  exact h

set_option maxRecDepth 100000 in
theorem turns_ok (a b : Int) (w : World) (ha : Fits a) (hb : Fits b) :
    Calls Try.prog 5 #[.int .i64 a, .int .i64 b] w fun e w' => e = .returned (.bool true) ∧ w = w' := by
  have HA := Lib.hid ha
  have HB := Lib.hid hb
  by_cases hm : a = -9223372036854775808
  · subst hm
    clear ha hb
    go_enter Try.func5, Try.ntmps5
    go_wp2_with (fail)
    refine (awake_ok _).mono ?_; rintro e w' ⟨rfl, rfl⟩
    go_wp2_with (fail)
    refine (add_any _ _ _ HA.out HB.out).mono ?_; rintro e w' ⟨rfl, rfl⟩
    go_wp2_with (fail)
    refine (add_turned _ _ _ HA.out HB.out).mono ?_; rintro e w' ⟨rfl, rfl⟩
    go_wp2_with (fail)
    refine (mul_any _ _ _ HA.out HB.out).mono ?_; rintro e w' ⟨rfl, rfl⟩
    go_wp2_with (fail)
    refine (mul_turned _ _ _ HA.out HB.out).mono ?_; rintro e w' ⟨rfl, rfl⟩
    go_wp2_with (fail)
    refine (neg_no _).mono ?_; rintro e w' ⟨rfl, rfl⟩
    go_wp2_with (fail)
    refine (sub_self_ok _ _ HA.out).mono ?_; rintro e w' ⟨rfl, rfl⟩
    go_wp2
    go_ret
    exact ⟨rfl, rfl⟩
  · obtain ⟨a1, a2⟩ := ha
    have hn : Fits (-a) := by unfold Fits; omega
    have HN := Lib.hid hn
    clear hn hb
    go_enter Try.func5, Try.ntmps5
    go_wp2_with (fail)
    refine (awake_ok _).mono ?_; rintro e w' ⟨rfl, rfl⟩
    go_wp2_with (fail)
    refine (add_any _ _ _ HA.out HB.out).mono ?_; rintro e w' ⟨rfl, rfl⟩
    go_wp2_with (fail)
    refine (add_turned _ _ _ HA.out HB.out).mono ?_; rintro e w' ⟨rfl, rfl⟩
    go_wp2_with (fail)
    refine (mul_any _ _ _ HA.out HB.out).mono ?_; rintro e w' ⟨rfl, rfl⟩
    go_wp2_with (fail)
    refine (mul_turned _ _ _ HA.out HB.out).mono ?_; rintro e w' ⟨rfl, rfl⟩
    go_wp2_with (fail)
    refine (neg_yes _ _ HA.out HN.out).mono ?_; rintro e w' ⟨rfl, rfl⟩
    go_wp2_with (fail)
    refine (neg_yes _ _ HN.out (by rw [Int.neg_neg]; exact HA.out)).mono ?_; rintro e w' ⟨rfl, rfl⟩
    go_wp2_with (fail)
    refine (sub_self_ok _ _ HA.out).mono ?_; rintro e w' ⟨rfl, rfl⟩
    go_wp2
    go_ret
    have e : (a != -9223372036854775808) = true := by simpa using hm
    exact ⟨congrArg (fun b => Ending.returned (.bool b)) e, rfl⟩

theorem add_yes (a b : Int) (w : World) (ha : Fits a) (hb : Fits b) (h : Fits (a + b)) :
    Calls Try.prog 8 #[.int .i64 a, .int .i64 b] w fun e w' => e = .returned (.tuple #[.int .i64 (a + b), .int .i64 0]) ∧ w = w' := by
  have g := add_any a b w ha hb
  rwa [show sv (a + b) = a + b from if_pos h, show se (a + b) = 0 from if_pos h] at g
theorem add_no (a b : Int) (w : World) (ha : Fits a) (hb : Fits b) (h : ¬ Fits (a + b)) :
    Calls Try.prog 8 #[.int .i64 a, .int .i64 b] w fun e w' => e = .returned (.tuple #[.int .i64 0, .int .i64 4]) ∧ w = w' := by
  have g := add_any a b w ha hb
  rwa [show sv (a + b) = 0 from if_neg h, show se (a + b) = 4 from if_neg h] at g
theorem back_yes (a b : Int) (w : World) (ha : Fits a) (hb : Fits b) (h : Fits (a + b)) :
    Calls Try.prog 9 #[.int .i64 (a + b), .int .i64 b] w fun e w' => e = .returned (.tuple #[.int .i64 a, .int .i64 0]) ∧ w = w' := by
  have g := sub_any (a + b) b w h hb
  rw [Int.add_sub_cancel] at g
  rwa [show sv a = a from if_pos ha, show se a = 0 from if_pos ha] at g
theorem div_yes (a b : Int) (w : World) (ha : Fits a) (hb : Fits b) (h0 : b ≠ 0) (h : Fits (a.tdiv b)) :
    Calls Try.prog 16 #[.int .i64 a, .int .i64 b] w fun e w' => e = .returned (.tuple #[.int .i64 (a.tdiv b), .int .i64 0]) ∧ w = w' := by
  have g := div_any a b w ha hb h0
  rwa [show sv (a.tdiv b) = a.tdiv b from if_pos h, show se (a.tdiv b) = 0 from if_pos h] at g
theorem div_no (a b : Int) (w : World) (ha : Fits a) (hb : Fits b) (h0 : b ≠ 0) (h : ¬ Fits (a.tdiv b)) :
    Calls Try.prog 16 #[.int .i64 a, .int .i64 b] w fun e w' => e = .returned (.tuple #[.int .i64 0, .int .i64 4]) ∧ w = w' := by
  have g := div_any a b w ha hb h0
  rwa [show sv (a.tdiv b) = 0 from if_neg h, show se (a.tdiv b) = 4 from if_neg h] at g
theorem tdiv_fits (a b : Int) (ha : Fits a) (h : b ≠ -1) : Fits (a.tdiv b) := by
  obtain ⟨a1, a2⟩ := ha
  have h1 := Int.natAbs_tdiv_le_natAbs a b
  by_cases e : a = -9223372036854775808
  · subst e
    by_cases hb2 : 0 ≤ b
    · have e2 : Int.tdiv (-9223372036854775808) b = -(9223372036854775808 / b) := by
        rw [show (-9223372036854775808 : Int) = -(9223372036854775808) from rfl, Int.neg_tdiv, Int.tdiv_eq_ediv_of_nonneg (by decide)]
      have l1 : 0 ≤ 9223372036854775808 / b := Int.ediv_nonneg (by decide) (by omega)
      have l2 := Int.ediv_le_self b (a := 9223372036854775808) (by decide)
      rw [e2]; unfold Fits; omega
    · have e2 : Int.tdiv (-9223372036854775808) b = 9223372036854775808 / (-b) := by
        rw [show (-9223372036854775808 : Int) = -(9223372036854775808) from rfl, show b = -(-b) by omega, Int.neg_tdiv, Int.tdiv_neg, Int.neg_neg, Int.tdiv_eq_ediv_of_nonneg (by decide), Int.neg_neg]
      have l1 : 0 ≤ 9223372036854775808 / (-b) := Int.ediv_nonneg (by decide) (by omega)
      have q1 := Int.ediv_mul_le 9223372036854775808 (show (-b) ≠ 0 by omega)
      have q2 := Int.mul_le_mul_of_nonneg_left (show (2 : Int) ≤ -b by omega) l1
      rw [e2]; unfold Fits; omega
  · unfold Fits; omega
theorem tmod_fits (a b : Int) (hb : Fits b) (h0 : b ≠ 0) : Fits (a.tmod b) := by
  obtain ⟨b1, b2⟩ := hb
  have h := Int.natAbs_tmod a b
  have h3 : a.natAbs % b.natAbs < b.natAbs := Nat.mod_lt _ (by omega)
  unfold Fits; omega
theorem quo_fits (a b : Int) (ha : Fits a) : Fits (a.tdiv b * b) := by
  obtain ⟨a1, a2⟩ := ha
  have e := Int.mul_tdiv_add_tmod a b
  have hm := Int.natAbs_tmod a b
  have hl := Nat.mod_le a.natAbs b.natAbs
  rw [Int.mul_comm] at e
  have hs : 0 ≤ a → 0 ≤ a.tmod b := fun h => Int.tmod_nonneg b h
  have hs2 : a ≤ 0 → a.tmod b ≤ 0 := fun h => by
    have := Int.tmod_nonneg b (show 0 ≤ -a by omega)
    rw [Int.neg_tmod] at this
    omega
  unfold Fits
  by_cases hz : 0 ≤ a
  · have := hs hz; omega
  · have := hs2 (by omega); omega
theorem quo_mul (a b : Int) (w : World) (ha : Fits a) (hb : Fits b) (h : Fits (a.tdiv b)) :
    Calls Try.prog 10 #[.int .i64 (a.tdiv b), .int .i64 b] w fun e w' => e = .returned (.tuple #[.int .i64 (a.tdiv b * b), .int .i64 0]) ∧ w = w' := by
  have g := mul_any (a.tdiv b) b w h hb
  have hf := quo_fits a b ha
  rwa [show sv (a.tdiv b * b) = a.tdiv b * b from if_pos hf, show se (a.tdiv b * b) = 0 from if_pos hf] at g
theorem quo_add (a b : Int) (w : World) (ha : Fits a) (hb : Fits b) (h0 : b ≠ 0) (hf : Fits (a.tdiv b * b)) :
    Calls Try.prog 8 #[.int .i64 (a.tdiv b * b), .int .i64 (a.tmod b)] w fun e w' => e = .returned (.tuple #[.int .i64 a, .int .i64 0]) ∧ w = w' := by
  have e := Int.mul_tdiv_add_tmod a b
  rw [Int.mul_comm] at e
  have g := add_any (a.tdiv b * b) (a.tmod b) w hf (tmod_fits a b hb h0)
  rw [e] at g
  rwa [show sv a = a from if_pos ha, show se a = 0 from if_pos ha] at g
end Go.Proofs.Ytppcgjdggkhndaa
