/- SuperLasts at every input. -/
import Derived.Test.YtjoenmmjpmnkfaaUN
namespace Go.Proofs.Ytjoenmmjpmnkfaa
open Go.RowKit
theorem bit_par (x : Nat) : bit x 0 = decide (x % 2 = 1) := by unfold bit; simp
theorem superLasts_all (e a u used f x : Int) (he : 0 ≤ e) (hf0 : 0 ≤ f) (hf1 : f < 256) (hx0 : 0 ≤ x) (hx1 : x < 18446744073709551616) (w : World) :
    Calls Try.prog 4 #[sup e a u, .int .i64 used, .int .u8 f, .int .u64 x] w fun r w' => r = .returned (.bool true) ∧ Below w.heap.size w w' := by
  obtain ⟨xn, rfl⟩ : ∃ n : Nat, x = n := ⟨x.toNat, by omega⟩
  cases hb : fitsB e a u with
  | false => exact lasts_bad e a u used f xn hb w
  | true =>
    obtain ⟨s, hs, rfl, rfl, rfl⟩ := fits_sup he hb
    cases hn : fitsB ((s.e : Int) + 1) (1 - s.a) used with
    | false =>
      by_cases hm : s.e = 2147483648
      · exact lasts_no1 s hs used f xn hn hm w
      · exact lasts_no2 s hs used f xn hn hm w
    | true =>
      obtain ⟨t, ht, e1, e2, e3⟩ := fits_sup (by omega) hn
      have hte : t.e = s.e + 1 := by omega
      have hnv : t.v = sup ((s.e : Int) + 1) (1 - s.a) used := by show sup _ _ _ = _; rw [← e1, ← e2, ← e3]
      have hw : wrap64 f = f := by simp only [wrap64]; omega
      have hK : (wrap64 f).tmod 4 = f % 4 := by rw [hw]; exact Int.tmod_eq_emod_of_nonneg hf0
      have hc : f % 4 = 0 ∨ f % 4 = 1 ∨ f % 4 = 2 ∨ f % 4 = 3 := by omega
      rcases hc with h | h | h | h <;> rw [h] at hK
      · exact lasts_0 s t hs ht used hte hnv f hK xn (by omega) hn w
      · by_cases hp : xn % 2 = 1
        · exact lasts_11 s t hs ht used hte hnv f hK xn (by omega) (by rw [bit_par, decide_eq_true hp]) (by omega) hn w
        · exact lasts_10 s t hs ht used hte hnv f hK xn (by omega) (by rw [bit_par, decide_eq_false hp]) (by omega) hn w
      · exact lasts_2 s t hs ht used hte hnv f hK xn (by omega) hn w
      · exact lasts_3 s t hs ht used hte hnv f hK xn (by omega) hn w
end Go.Proofs.Ytjoenmmjpmnkfaa
