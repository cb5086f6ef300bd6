/- The plain contracts of num's calls: Add, Sub, Mul, Div, Rem, Neg. -/
import Derived.Test.YtppcgjdggkhndaaRows
import Derived.WalkKit
import Derived.ProofKit
import Derived.OpenShut
import Derived.IntWalk
import Derived.Lib.Hide
namespace Go.Proofs.Ytppcgjdggkhndaa
open Go.RowKit

/-- a number of 64 bits. -/
def Fits (n : Int) : Prop := -9223372036854775808 ≤ n ∧ n ≤ 9223372036854775807
instance (n : Int) : Decidable (Fits n) := inferInstanceAs (Decidable (_ ∧ _))
/-- the number, if it is one of 64 bits; the error. -/
def sv (n : Int) : Int := if Fits n then n else 0
def se (n : Int) : Int := if Fits n then 0 else 4

set_option maxRecDepth 100000 in
theorem add_any (a b : Int) (w : World) (ha : Fits a) (hb : Fits b) :
    Calls Try.prog 8 #[.int .i64 a, .int .i64 b] w fun e w' => e = .returned (.tuple #[.int .i64 (sv (a + b)), .int .i64 (se (a + b))]) ∧ w = w' := by
  obtain ⟨a1, a2⟩ := ha
  obtain ⟨b1, b2⟩ := hb
  by_cases hf : Fits (a + b)
  · have hv : sv (a + b) = a + b := if_pos hf
    have he : se (a + b) = 0 := if_pos hf
    rw [hv, he]
    clear hv he
    obtain ⟨f1, f2⟩ := hf
    by_cases h1 : b > 0
    · have h2 : ¬ a > 9223372036854775807 - b := by omega
      go_enter Try.func8, Try.ntmps8
      go_wp2
      go_ret2
      exact ⟨rfl, rfl⟩
    · by_cases h3 : b < 0
      · have h2 : ¬ a < -9223372036854775808 - b := by omega
        go_enter Try.func8, Try.ntmps8
        go_wp2
        go_ret2
        exact ⟨rfl, rfl⟩
      · go_enter Try.func8, Try.ntmps8
        go_wp2
        go_ret2
        exact ⟨rfl, rfl⟩
  · have hv : sv (a + b) = 0 := if_neg hf
    have he : se (a + b) = 4 := if_neg hf
    rw [hv, he]
    clear hv he
    unfold Fits at hf
    by_cases h1 : b > 0
    · have h2 : a > 9223372036854775807 - b := by omega
      go_enter Try.func8, Try.ntmps8
      go_wp2
      go_ret2
      exact ⟨rfl, rfl⟩
    · have h3 : b < 0 := by omega
      have h2 : a < -9223372036854775808 - b := by omega
      go_enter Try.func8, Try.ntmps8
      go_wp2
      go_ret2
      exact ⟨rfl, rfl⟩
end Go.Proofs.Ytppcgjdggkhndaa
