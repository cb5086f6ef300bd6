/- does: any call; what a play keeps. -/
import Derived.Test.YtmcgjlidfgbdfaaDRk
namespace Go.Proofs.Ytmcgjlidfgbdfaa
open Go.RowKit

theorem does_any {w0 w : World} {p q : Nat} {F : List Nat} {m : Mod} {r : Rf} (h : Both w0 w p q F m r) (ho : Okay m) (x : ActG) (hA : Holds w x.A x.b) (hf : x.b = [] ∨ Far w0 w x.A) (hr : Rng x.i) (hp : x.p < 18446744073709551616) :
    Calls Try.prog 11 #[.pointer (some ⟨p, 0, none⟩), .pointer (some ⟨q, 0, none⟩), actV x] w fun e w' => e = .returned (.bool true) ∧ ∃ F' r', Both w0 w' p q F' (stepM m x) r' := by
  by_cases h1 : x.k = 1
  · exact does_write h ho x h1 hA hf
  by_cases h2 : x.k = 2
  · exact does_flush h ho x h2
  by_cases h3 : x.k = 3
  · exact does_fuse h x h3 hr
  by_cases h4 : x.k = 4
  · exact does_crash h ho x h4 hp
  by_cases h5 : x.k = 5
  · by_cases h0 : m.takes x.i 0 = 0
    · exact does_read h ho x h5 h0
    · exact does_readErr h x h5 h0
  exact does_else h x h1 h2 h3 h4 h5
structure Play (n size i : Nat) (m : Mod) : Prop where
  n : m.n = n
  size : m.size = size
  waits : m.waits ≤ i
  deeds : m.deeds ≤ i
  fuse : m.fuse ≤ 9223372036854775807
theorem Play.new (n size : Nat) : Play n size 0 (Mod.new n size) := ⟨rfl, rfl, Nat.le_refl _, Nat.le_refl _, Nat.zero_le _⟩
theorem Play.okay {n size i : Nat} {m : Mod} (h : Play n size i m) (hi : i ≤ 100) (h1 : 1 ≤ n) (h2 : n ≤ 600) (h3 : size ≤ 1024) : Okay m :=
  ⟨by rw [h.n]; exact ⟨h1, h2⟩, by rw [h.size]; exact h3, by have := h.waits; omega, by have := h.deeds; omega, h.fuse⟩
theorem Play.up {n size i : Nat} {m : Mod} (h : Play n size i m) : Play n size (i + 1) m := ⟨h.n, h.size, by have := h.waits; omega, by have := h.deeds; omega, h.fuse⟩
theorem Play.deed {n size i : Nat} {m : Mod} (h : Play n size i m) : Play n size (i + 1) m.deed ∧ m.deed.waits = m.waits := by
  obtain ⟨a, b, c, d, e⟩ := h
  unfold Mod.deed
  split
  · exact ⟨⟨a, b, by show m.waits ≤ _; omega, by show m.deeds ≤ _; omega, e⟩, rfl⟩
  · refine ⟨⟨a, b, by show m.waits ≤ _; omega, by show m.deeds + 1 ≤ _; omega, ?_⟩, rfl⟩
    show (if m.fused = true then m.fuse - 1 else m.fuse) ≤ _
    split <;> omega
theorem Play.step {n size i : Nat} {m : Mod} (h : Play n size i m) (x : ActG) (hr : Rng x.i) : Play n size (i + 1) (stepM m x) := by
  have hd := h.deed
  have hr2 := hr.2
  unfold stepM
  split
  · unfold Mod.write
    split
    · split
      · exact hd.1
      · exact ⟨hd.1.n, hd.1.size, by show m.waits + 1 ≤ _; have := h.waits; omega, hd.1.deeds, hd.1.fuse⟩
    · exact h.up
  split
  · unfold Mod.flush
    split
    · exact h.up
    split
    · exact hd.1
    · exact ⟨hd.1.n, hd.1.size, Nat.zero_le _, hd.1.deeds, hd.1.fuse⟩
  split
  · exact ⟨h.n, h.size, by show m.waits ≤ _; have := h.waits; omega, by show m.deeds ≤ _; have := h.deeds; omega, by show x.i.toNat ≤ _; omega⟩
  split
  · exact ⟨h.n, h.size, Nat.zero_le _, by show m.deeds ≤ _; have := h.deeds; omega, by show (0:Nat) ≤ _; omega⟩
  · exact h.up
end Go.Proofs.Ytmcgjlidfgbdfaa
