/- The reference's Begin, at fields of 60 bytes. -/
import Derived.Test.YthoihlebplmcoaaJA0
namespace Go.Proofs.Ythoihlebplmcoaa
open Go.RowKit
set_option linter.unusedVariables false
theorem beg60_step (a : Nat) (h : 48 < a % 60) : beg 60 (a + 1) = beg 60 a ∧ a + 1 ≤ beg 60 a := by
  unfold beg
  rw [if_pos (show 60 - a % 60 < 12 by omega)]
  split <;> omega
theorem beg60_stop (a : Nat) (h : ¬ 48 < a % 60) : beg 60 a = a := by
  unfold beg
  rw [if_neg (by omega)]
set_option maxRecDepth 100000 in
theorem refBegin_any (n : Nat) (hn : n ≤ 1000000) (w : World) : Calls Try.prog 46 #[.int .i64 (n : Nat), .int .i64 60] w fun e w' => e = .returned (.int .i64 (beg 60 n : Nat)) ∧ w = w' := by
  have hbb := beg_bounds 60 n (by omega)
  go_enter Try.func46, Try.ntmps46
  go_wp2_with fail
  go_loopg [0] (beg 60 n + 1) (fun j s0 wr => ∃ a : Nat, s0 = .int .i64 (a : Nat) ∧ beg 60 a = beg 60 n ∧ a ≤ beg 60 n ∧ beg 60 n < a + j ∧ wr = w)
  case atStart => exact ⟨n, rfl, rfl, hbb.1, by omega, rfl⟩
  case round =>
    obtain ⟨a, rfl, h1, h2, h3, rfl⟩ := hrel
    have hal : a ≤ 1000011 := by omega
    by_cases h : 48 < a % 60
    · have hs := beg60_step a h
      have hi : (48 : Int) < (a : Int) % 60 := by omega
      have H1 := Lib.hid (And.intro (hs.1.trans h1) (And.intro (Nat.le_trans hs.2 (Nat.le_of_eq h1)) h3))
      clear hs h1 h2 h3
      go_wp2_with fail
      go_roundg (beg 60 n - a)
      case measure =>
        have := H1.out.2.1
        have := H1.out.2.2
        omega
      case rel => exact ⟨a + 1, by go_num, H1.out.1, H1.out.2.1, by have := H1.out.2.1; have := H1.out.2.2; omega, rfl⟩
    · have hi : ¬ (48 : Int) < (a : Int) % 60 := by omega
      have H1 := Lib.hid ((beg60_stop a h).symm.trans h1)
      clear h1 h2 h3
      go_wp2_with fail
      go_ret
      refine ⟨?_, rfl⟩
      rw [← H1.out]
      rfl
end Go.Proofs.Ythoihlebplmcoaa
