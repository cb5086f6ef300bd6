/- Rows: the same values. -/
import Derived.Test.YtmpiknaoocflcaaT1
import Derived.Test.YtmpiknaoocflcaaS8
namespace Go.Proofs.Ytmpiknaoocflcaa
open Go.RowKit

/-- values in memory. -/
def VAt (w : World) (a : Option Addr) (xs : List Tri) : Prop := ∀ i (h : i < xs.length), ∃ b off, a = some ⟨b, off, none⟩ ∧ b < w.heap.size ∧ w.cell? ⟨b, off + i * 3, none⟩ = some (.int .i64 xs[i].1) ∧ w.cell? ⟨b, off + i * 3 + 1, none⟩ = some (.int .i64 xs[i].2.1) ∧ w.cell? ⟨b, off + i * 3 + 2, none⟩ = some (.string xs[i].2.2)
theorem VAt.below {w w' : World} {a : Option Addr} {xs : List Tri} (h : VAt w a xs) (hb : Below w.heap.size w w') : VAt w' a xs := fun i hi => by
  obtain ⟨b, off, h1, h2, h3, h4, h5⟩ := h i hi
  exact ⟨b, off, h1, Nat.lt_of_lt_of_le h2 hb.size, (hb.cell h2).trans h3, (hb.cell h2).trans h4, (hb.cell h2).trans h5⟩
theorem VIn.at_ {w : World} {a : Option Addr} {xs : List Tri} (h : VIn w a xs) : VAt w a xs := h.cell
theorem VBlock.at_ {w : World} {q m : Nat} {xs : List Tri} (h : VBlock w q m xs) : VAt w (some ⟨q, 0, none⟩) xs := fun i hi => by
  obtain ⟨cs, hw, h1, h2⟩ := h
  obtain ⟨k0, k1, k2⟩ := h2 i hi
  exact ⟨q, 0, rfl, hw.lt, by rw [Nat.zero_add, hw.cell]; exact k0, by rw [Nat.zero_add, hw.cell]; exact k1, by rw [Nat.zero_add, hw.cell]; exact k2⟩

attribute [local go_sem ↓] Val.neqVal in
set_option maxRecDepth 100000 in
set_option maxHeartbeats 1000000 in
theorem rows_same (A B : Option Addr) (c d : Nat) (xs : List Tri) (w : World) (hA : VAt w A xs) (hB : VAt w B xs) (hx : xs.length ≤ 1000) :
    Calls Try.prog 26 #[.slice A xs.length c, .slice B xs.length d] w fun e w' => e = .returned (.bool true) ∧ ∃ k, w' = w.drewN k := by
  have HA := Lib.hid hA
  have HB := Lib.hid hB
  clear hA hB
  go_enter Try.func26, Try.ntmps26
  go_wp2_with fail
  go_loopg [5] (xs.length + 1) (fun j s5 wr => ∃ i : Nat, i ≤ xs.length ∧ xs.length < i + j ∧ s5 = .int .i64 (i : Nat) ∧ ∃ k, wr = w.drewN k)
  case atStart => exact ⟨0, by omega, by omega, rfl, 0, rfl⟩
  case round =>
    obtain ⟨i, hi, hj, rfl, m, rfl⟩ := hrel
    by_cases hend : i = xs.length
    · subst hend
      have hno : ¬ (xs.length : Int) < (xs.length : Int) := by omega
      go_wp2_with fail
      go_ret
      exact ⟨rfl, m, rfl⟩
    · have hlt : i < xs.length := by omega
      have hlt' : (i : Int) < (xs.length : Int) := by omega
      have hi9 : (i : Int) < 5000 := by omega
      obtain ⟨b, off, hAe, hbl, c0, c1, c2⟩ := HA.out i hlt
      obtain ⟨b', off', hBe, hbl', e0, e1, e2⟩ := HB.out i hlt
      subst hAe
      subst hBe
      generalize xs[i] = x at *
      obtain ⟨k, n, s⟩ := x
      dsimp only at c0 c1 c2 e0 e1 e2
      have hs : Val.same k n s k n s = true := Val.same_iff.2 ⟨rfl, rfl, rfl⟩
      go_wp2_with fail
      go_quiet (fail)
      go_wp2_with fail
      go_roundg (xs.length - i)
      case measure => omega
      case rel => exact ⟨i + 1, by omega, by omega, by simp, m + nq, rfl⟩
end Go.Proofs.Ytmpiknaoocflcaa
