/- NumComesBack walked. -/
import Derived.Test.YtppcgjdggkhndaaA3
namespace Go.Proofs.Ytppcgjdggkhndaa
open Go.RowKit

theorem add_nought (a : Int) (w : World) (ha : Fits a) :
    Calls Try.prog 8 #[.int .i64 a, .int .i64 0] w fun e w' => e = .returned (.tuple #[.int .i64 a, .int .i64 0]) ∧ w = w' := by
  have g := add_any a 0 w ha fits0
  rw [Int.add_zero] at g
  rwa [show sv a = a from if_pos ha, show se a = 0 from if_pos ha] at g
theorem sub_nought (a : Int) (w : World) (ha : Fits a) :
    Calls Try.prog 9 #[.int .i64 a, .int .i64 0] w fun e w' => e = .returned (.tuple #[.int .i64 a, .int .i64 0]) ∧ w = w' := by
  have g := sub_any a 0 w ha fits0
  rw [Int.sub_zero] at g
  rwa [show sv a = a from if_pos ha, show se a = 0 from if_pos ha] at g
set_option maxRecDepth 100000 in
theorem back_y_zero (a : Int) (w : World) (HA : Hid (Fits a)) :
    Calls Try.prog 4 #[.int .i64 a, .int .i64 0] w fun e w' => e = .returned (.bool true) ∧ w = w' := by
    go_enter Try.func4, Try.ntmps4
    go_wp2_with (fail)
    refine (awake_ok _).mono ?_; rintro e w' ⟨rfl, rfl⟩
    go_wp2_with (fail)
    refine (add_nought _ _ HA.out).mono ?_; rintro e w' ⟨rfl, rfl⟩
    go_wp2_with (fail)
    refine (sub_nought _ _ HA.out).mono ?_; rintro e w' ⟨rfl, rfl⟩
    go_wp2_with (fail)
    refine (div_zero _ _).mono ?_; rintro e w' ⟨rfl, rfl⟩
    go_wp2_with (fail)
    refine (rem_zero _ _).mono ?_; rintro e w' ⟨rfl, rfl⟩
    go_wp2
    go_ret
    exact ⟨rfl, rfl⟩
set_option maxRecDepth 100000 in
theorem back_y_no (a : Int) (w : World) (HA : Hid (Fits a)) (HB : Hid (Fits (-1))) (HS : Hid (Fits (a + (-1)))) (HD : Hid (¬ Fits (a.tdiv (-1)))) (H1 : Hid ((-1) ≠ 0)) :
    Calls Try.prog 4 #[.int .i64 a, .int .i64 (-1)] w fun e w' => e = .returned (.bool true) ∧ w = w' := by
    go_enter Try.func4, Try.ntmps4
    go_wp2_with (fail)
    refine (awake_ok _).mono ?_; rintro e w' ⟨rfl, rfl⟩
    go_wp2_with (fail)
    refine (add_yes _ _ _ HA.out HB.out HS.out).mono ?_; rintro e w' ⟨rfl, rfl⟩
    go_wp2_with (fail)
    refine (back_yes _ _ _ HA.out HB.out HS.out).mono ?_; rintro e w' ⟨rfl, rfl⟩
    go_wp2_with (fail)
    refine (div_no _ _ _ HA.out HB.out H1.out HD.out).mono ?_; rintro e w' ⟨rfl, rfl⟩
    go_wp2_with (fail)
    refine (rem_any _ _ _ HA.out HB.out H1.out).mono ?_; rw [show a.tmod (-1) = 0 by rw [Int.tmod_neg, Int.tmod_one]]; rintro e w' ⟨rfl, rfl⟩
    go_wp2
    go_ret
    exact ⟨rfl, rfl⟩
set_option maxRecDepth 100000 in
theorem back_y_yes (a b : Int) (w : World) (HA : Hid (Fits a)) (HB : Hid (Fits b)) (HS : Hid (Fits (a + b))) (HD : Hid (Fits (a.tdiv b))) (H1 : Hid (b ≠ 0)) :
    Calls Try.prog 4 #[.int .i64 a, .int .i64 b] w fun e w' => e = .returned (.bool true) ∧ w = w' := by
    go_enter Try.func4, Try.ntmps4
    go_wp2_with (fail)
    refine (awake_ok _).mono ?_; rintro e w' ⟨rfl, rfl⟩
    go_wp2_with (fail)
    refine (add_yes _ _ _ HA.out HB.out HS.out).mono ?_; rintro e w' ⟨rfl, rfl⟩
    go_wp2_with (fail)
    refine (back_yes _ _ _ HA.out HB.out HS.out).mono ?_; rintro e w' ⟨rfl, rfl⟩
    go_wp2_with (fail)
    refine (div_yes _ _ _ HA.out HB.out H1.out HD.out).mono ?_; rintro e w' ⟨rfl, rfl⟩
    go_wp2_with (fail)
    refine (rem_any _ _ _ HA.out HB.out H1.out).mono ?_; rintro e w' ⟨rfl, rfl⟩
    go_wp2_with (fail)
    refine (quo_mul _ _ _ HA.out HB.out HD.out).mono ?_; rintro e w' ⟨rfl, rfl⟩
    go_wp2_with (fail)
    refine (quo_add _ _ _ HA.out HB.out H1.out (quo_fits _ _ HA.out)).mono ?_; rintro e w' ⟨rfl, rfl⟩
    go_wp2
    go_ret
    exact ⟨rfl, rfl⟩
set_option maxRecDepth 100000 in
theorem back_n_no (a : Int) (w : World) (HA : Hid (Fits a)) (HB : Hid (Fits (-1))) (HS : Hid (¬ Fits (a + (-1)))) (HD : Hid (¬ Fits (a.tdiv (-1)))) (H1 : Hid ((-1) ≠ 0)) :
    Calls Try.prog 4 #[.int .i64 a, .int .i64 (-1)] w fun e w' => e = .returned (.bool true) ∧ w = w' := by
    go_enter Try.func4, Try.ntmps4
    go_wp2_with (fail)
    refine (awake_ok _).mono ?_; rintro e w' ⟨rfl, rfl⟩
    go_wp2_with (fail)
    refine (add_no _ _ _ HA.out HB.out HS.out).mono ?_; rintro e w' ⟨rfl, rfl⟩
    go_wp2_with (fail)
    refine (div_no _ _ _ HA.out HB.out H1.out HD.out).mono ?_; rintro e w' ⟨rfl, rfl⟩
    go_wp2_with (fail)
    refine (rem_any _ _ _ HA.out HB.out H1.out).mono ?_; rw [show a.tmod (-1) = 0 by rw [Int.tmod_neg, Int.tmod_one]]; rintro e w' ⟨rfl, rfl⟩
    go_wp2
    go_ret
    exact ⟨rfl, rfl⟩
set_option maxRecDepth 100000 in
theorem back_n_yes (a b : Int) (w : World) (HA : Hid (Fits a)) (HB : Hid (Fits b)) (HS : Hid (¬ Fits (a + b))) (HD : Hid (Fits (a.tdiv b))) (H1 : Hid (b ≠ 0)) :
    Calls Try.prog 4 #[.int .i64 a, .int .i64 b] w fun e w' => e = .returned (.bool true) ∧ w = w' := by
    go_enter Try.func4, Try.ntmps4
    go_wp2_with (fail)
    refine (awake_ok _).mono ?_; rintro e w' ⟨rfl, rfl⟩
    go_wp2_with (fail)
    refine (add_no _ _ _ HA.out HB.out HS.out).mono ?_; rintro e w' ⟨rfl, rfl⟩
    go_wp2_with (fail)
    refine (div_yes _ _ _ HA.out HB.out H1.out HD.out).mono ?_; rintro e w' ⟨rfl, rfl⟩
    go_wp2_with (fail)
    refine (rem_any _ _ _ HA.out HB.out H1.out).mono ?_; rintro e w' ⟨rfl, rfl⟩
    go_wp2_with (fail)
    refine (quo_mul _ _ _ HA.out HB.out HD.out).mono ?_; rintro e w' ⟨rfl, rfl⟩
    go_wp2_with (fail)
    refine (quo_add _ _ _ HA.out HB.out H1.out (quo_fits _ _ HA.out)).mono ?_; rintro e w' ⟨rfl, rfl⟩
    go_wp2
    go_ret
    exact ⟨rfl, rfl⟩

theorem back_ok (a b : Int) (w : World) (ha : Fits a) (hb : Fits b) :
    Calls Try.prog 4 #[.int .i64 a, .int .i64 b] w fun e w' => e = .returned (.bool true) ∧ w = w' := by
  by_cases hs : Fits (a + b)
  · by_cases h0 : b = 0
    · subst h0; exact back_y_zero a w (Lib.hid ha)
    · by_cases hd : Fits (a.tdiv b)
      · exact back_y_yes a b w (Lib.hid ha) (Lib.hid hb) (Lib.hid hs) (Lib.hid hd) (Lib.hid h0)
      · have h1 : b = -1 := Classical.byContradiction fun h => hd (tdiv_fits a b ha h)
        subst h1; exact back_y_no a w (Lib.hid ha) (Lib.hid hb) (Lib.hid hs) (Lib.hid hd) (Lib.hid h0)
  · by_cases h0 : b = 0
    · subst h0; rw [Int.add_zero] at hs; exact absurd ha hs
    · by_cases hd : Fits (a.tdiv b)
      · exact back_n_yes a b w (Lib.hid ha) (Lib.hid hb) (Lib.hid hs) (Lib.hid hd) (Lib.hid h0)
      · have h1 : b = -1 := Classical.byContradiction fun h => hd (tdiv_fits a b ha h)
        subst h1; exact back_n_no a w (Lib.hid ha) (Lib.hid hb) (Lib.hid hs) (Lib.hid hd) (Lib.hid h0)
end Go.Proofs.Ytppcgjdggkhndaa
