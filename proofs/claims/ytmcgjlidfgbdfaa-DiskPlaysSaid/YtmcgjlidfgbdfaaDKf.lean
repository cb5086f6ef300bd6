/- Dark is dark (plain): what a deed does to the numbers. -/
import Derived.Test.YtmcgjlidfgbdfaaDKe
namespace Go.Proofs.Ytmcgjlidfgbdfaa
open Go.RowKit

/-- what a deed that answers r does to the numbers. -/
def Deed (m m' : Mod) (r : Int) : Prop :=
  m'.n = m.n ∧ m'.size = m.size ∧ ((r = 0 ∧ m.dark = false ∧ m.blown = false ∧ m'.deeds = m.deeds + 1 ∧ m'.fused = m.fused ∧ m'.fuse = (if m.fused then m.fuse - 1 else m.fuse) ∧ m'.dark = false ∧ m'.waits ≤ m.waits + 1) ∨
    (¬ r = 0 ∧ m'.deeds = m.deeds ∧ m'.fused = m.fused ∧ m'.fuse = m.fuse ∧ m'.waits = m.waits ∧ (m.dark = true → r = 17 ∧ m'.dark = true) ∧ (m'.dark = true → m.dark = true ∨ m.blown = true)))
theorem blown_deed {m : Mod} (h : m.blown = true) : m.deed = { m with dark := true } := if_pos h
theorem lit_deed {m : Mod} (h : m.blown = false) : m.deed = { m with deeds := m.deeds + 1, fuse := if m.fused then m.fuse - 1 else m.fuse } := if_neg (by simp [h])
theorem deed_flush (m : Mod) : Deed m m.flush m.flushR := by
  unfold Mod.flush Mod.flushR
  cases hd : m.dark with
  | true => exact ⟨rfl, rfl, .inr ⟨by simp, rfl, rfl, rfl, rfl, fun _ => ⟨rfl, hd⟩, fun h => .inl h⟩⟩
  | false =>
    cases hb : m.blown with
    | true =>
      simp only [if_true, if_false, Bool.false_eq_true, blown_deed hb]
      exact ⟨rfl, rfl, .inr ⟨by simp, rfl, rfl, rfl, rfl, (fun h => by rw [hd] at h; cases h), fun _ => .inr hb⟩⟩
    | false =>
      simp only [if_false, Bool.false_eq_true, lit_deed hb]
      exact ⟨rfl, rfl, .inl ⟨rfl, hd, hb, rfl, rfl, rfl, hd, Nat.zero_le _⟩⟩
theorem deed_write (m : Mod) (i : Int) (b : List UInt8) : Deed m (m.write i b) (m.writeR i b.length) := by
  unfold Mod.write Mod.writeR
  by_cases ht : m.takes i b.length = 0
  · have hd : m.dark = false := by
      cases h : m.dark with
      | false => rfl
      | true => unfold Mod.takes at ht; rw [h] at ht; simp at ht
    simp only [ht, if_true]
    cases hb : m.blown with
    | true =>
      simp only [if_true, blown_deed hb]
      exact ⟨rfl, rfl, .inr ⟨by simp, rfl, rfl, rfl, rfl, (fun h => by rw [hd] at h; cases h), fun _ => .inr hb⟩⟩
    | false =>
      simp only [if_false, Bool.false_eq_true, lit_deed hb]
      exact ⟨rfl, rfl, .inl ⟨rfl, hd, hb, rfl, rfl, rfl, hd, Nat.le_refl _⟩⟩
  · simp only [ht, if_false]
    refine ⟨rfl, rfl, .inr ⟨ht, rfl, rfl, rfl, rfl, fun h => ⟨?_, h⟩, fun h => .inl h⟩⟩
    unfold Mod.takes
    rw [if_pos h]
/-- what holds of a fused disk between two calls. -/
def Fused (n : Int) (j : Nat) (m : Mod) : Prop :=
  m.n = 8 ∧ m.size = 64 ∧ m.waits ≤ j ∧ m.deeds ≤ j ∧ m.fuse ≤ 9223372036854775807 ∧
  (0 ≤ n → m.fused = true ∧ ((m.fuse : Int) + m.deeds = n) ∧ (m.dark = true → m.fuse = 0)) ∧ (n < 0 → m.fused = false ∧ m.dark = false)
theorem Fused.new (n : Int) (hn : n ≤ 9223372036854775807) : Fused n 0 ((Mod.new 8 64).fuseTo n) := by
  refine ⟨rfl, rfl, Nat.le_refl _, Nat.le_refl _, ?_, fun h => ⟨?_, ?_, fun h => by cases h⟩, fun h => ⟨?_, rfl⟩⟩
  · show n.toNat ≤ _; omega
  · show decide (0 ≤ n) = true; simp [h]
  · show ((n.toNat : Nat) : Int) + ((0 : Nat) : Int) = n; omega
  · show decide (0 ≤ n) = false; simp; omega
theorem Fused.low {n : Int} {j : Nat} {m : Mod} (h : Fused n j m) (hj : j ≤ 1000) : m.Low := by
  obtain ⟨_, _, h1, h2, h3, _⟩ := h
  exact ⟨by omega, by omega, h3⟩
theorem Fused.step {n : Int} {j : Nat} {m m' : Mod} {r : Int} (h : Fused n j m) (hd : Deed m m' r) : Fused n (j + 1) m' := by
  obtain ⟨a1, a2, a3, a4, a5, a6, a7⟩ := h
  obtain ⟨b1, b2, hd⟩ := hd
  rcases hd with ⟨-, c1, c2, c3, c4, c5, c6, c7⟩ | ⟨-, c1, c2, c3, c4, c5, c6⟩
  · refine ⟨by omega, by omega, by omega, by omega, ?_, fun h0 => ?_, fun h0 => ?_⟩
    · rw [c5]; split <;> omega
    · obtain ⟨d1, d2, d3⟩ := a6 h0
      have hf : ¬ m.fuse = 0 := by
        unfold Mod.blown at c2
        rw [d1] at c2
        simpa using c2
      rw [d1, if_pos rfl] at c5
      exact ⟨by rw [c4]; exact d1, by omega, fun h => by rw [c6] at h; cases h⟩
    · exact ⟨by rw [c4]; exact (a7 h0).1, c6⟩
  · refine ⟨by omega, by omega, by omega, by omega, by omega, fun h0 => ?_, fun h0 => ?_⟩
    · obtain ⟨d1, d2, d3⟩ := a6 h0
      refine ⟨by rw [c2]; exact d1, by omega, fun h => ?_⟩
      rcases c6 h with e | e
      · rw [c3]; exact d3 e
      · unfold Mod.blown at e
        rw [d1] at e
        rw [c3]
        simpa using e
    · obtain ⟨d1, d2⟩ := a7 h0
      refine ⟨by rw [c2]; exact d1, ?_⟩
      cases hm : m'.dark with
      | false => rfl
      | true =>
        rcases c6 hm with e | e
        · rw [d2] at e; cases e
        · unfold Mod.blown at e
          rw [d1] at e
          simp at e
end Go.Proofs.Ytmcgjlidfgbdfaa
