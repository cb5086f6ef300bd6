/- What a call on the disk leaves of all else; writes on a disk without a fuse (plain). -/
import Derived.Test.YtmcgjlidfgbdfaaDKh
import Derived.Test.YtmcgjlidfgbdfaaDKf
namespace Go.Proofs.Ytmcgjlidfgbdfaa
open Go.RowKit

/-- blocks of other kinds than the disk's own stand as they stood. -/
structure Still (w w' : World) : Prop where
  size : w.heap.size ≤ w'.heap.size
  block : ∀ (k : Nat) (cs : Array Value) (t : TypeId) (z : Nat × Nat), w.heap[k]? = some (.cells cs t z) → t ≠ 56 → t ≠ 63 → t ≠ 68 → w'.heap[k]? = w.heap[k]?
theorem Still.refl (w : World) : Still w w := ⟨Nat.le_refl _, fun _ _ _ _ _ _ _ _ => rfl⟩
theorem Still.trans {a b c : World} (h : Still a b) (k : Still b c) : Still a c :=
  ⟨Nat.le_trans h.size k.size, fun x cs t z e h1 h2 h3 => (k.block x cs t z ((h.block x cs t z e h1 h2 h3).trans e) h1 h2 h3).trans (h.block x cs t z e h1 h2 h3)⟩
theorem Still.of_below {w w' : World} (h : Below w.heap.size w w') : Still w w' := ⟨h.size, fun k _ _ _ e _ _ _ => h.block k (Array.getElem?_eq_some_iff.1 e).1⟩
theorem DiskAt.kinds {w : World} {d : Dsk} (h : DiskAt w d) {k : Nat} (hk : k ∈ foot d) : ∃ cs t, w.heap[k]? = some (.cells cs t (0, 0)) ∧ (t = 56 ∨ t = 63 ∨ t = 68) := by
  rcases foot_cases hk with rfl | rfl | ⟨s, hs, e⟩
  · exact ⟨_, _, h.top, .inl rfl⟩
  · exact ⟨_, _, h.sec, .inr (.inl rfl)⟩
  · obtain ⟨cur, hc⟩ := row_kind (h.ok s hs).wrow e
    exact ⟨_, _, hc, .inr (.inr rfl)⟩
theorem IsD.not_kind {w : World} {p : Nat} {F : List Nat} {m : Mod} (h : IsD w p F m) {k : Nat} {cs : Array Value} {t : TypeId} {z : Nat × Nat} (e : w.heap[k]? = some (.cells cs t z)) (h1 : t ≠ 56) (h2 : t ≠ 63) (h3 : t ≠ 68) : k ∉ F := by
  obtain ⟨d, hd, _, _, rfl⟩ := h
  intro hk
  obtain ⟨cs', t', e', ht⟩ := hd.kinds hk
  rw [e] at e'
  simp at e'
  rcases ht with h | h | h
  · exact h1 (e'.2.1.trans h)
  · exact h2 (e'.2.1.trans h)
  · exact h3 (e'.2.1.trans h)
theorem GoesM.still {w w' : World} {p : Nat} {F : List Nat} {m m' : Mod} (hd : IsD w p F m) (hg : GoesM w w' p F m') : Still w w' := by
  obtain ⟨F', _, _, ht⟩ := hg
  exact ⟨ht.size, fun k cs t z e h1 h2 h3 => ht.block k (Array.getElem?_eq_some_iff.1 e).1 (hd.not_kind e h1 h2 h3)⟩
theorem Whole.still {w w' : World} {g : Nat} {t : TypeId} {cs : Array Value} (h : Whole w g t cs) (hs : Still w w') (h1 : t ≠ 56) (h2 : t ≠ 63) (h3 : t ≠ 68) : Whole w' g t cs := (hs.block g cs t _ h h1 h2 h3).trans h
theorem SRow.still {w w' : World} {base : Nat} {v : Value} {ss : List ByteArray} (h : SRow w base v ss) (hs : Still w w') : SRow w' base v ss :=
  h.of_heap fun b hb => by
    obtain ⟨cur, hc⟩ := row_kind h hb
    exact hs.block b _ _ _ hc (by decide) (by decide) (by decide)
section
variable {w0 w : World} {p : Nat} {m : Mod}
theorem OwnD.writeS (h : OwnD w0 w p m) (hl : m.Low) (i : Int) (A : Option Addr) (c : Nat) (b : List UInt8) (hA : Holds w A b) (hf : b = [] ∨ Far w0 w A) : Calls Try.prog 19 #[.pointer (some ⟨p, 0, none⟩), .int .i64 i, .slice A b.length c] w fun e w' => e = .returned (.int .i64 (m.writeR i b.length)) ∧ OwnD w0 w' p (m.write i b) ∧ Still w w' := by
  have h' := h
  obtain ⟨F, h1, h2, h3⟩ := h
  refine (h1.write hl i A c b hA (hf.imp id (fun f => f.off h1 h2))).mono ?_
  rintro e w' ⟨rfl, hg⟩
  exact ⟨rfl, h'.of_goes h2 hg, hg.still h1⟩
theorem OwnD.flushS (h : OwnD w0 w p m) (hl : m.Low) : Calls Try.prog 20 #[.pointer (some ⟨p, 0, none⟩)] w fun e w' => e = .returned (.int .i64 m.flushR) ∧ OwnD w0 w' p m.flush ∧ Still w w' := by
  have h' := h
  obtain ⟨F, h1, h2, h3⟩ := h
  refine (h1.flush hl).mono ?_
  rintro e w' ⟨rfl, hg⟩
  exact ⟨rfl, h'.of_goes h2 hg, hg.still h1⟩
theorem OwnD.crashS (h : OwnD w0 w p m) (hw : m.waits ≤ 1000000) (x : Nat) (hx : x < 18446744073709551616) : Calls Try.prog 22 #[.pointer (some ⟨p, 0, none⟩), .int .u64 (x : Nat)] w fun e w' => (∃ v, e = .returned v) ∧ OwnD w0 w' p (m.crash x) ∧ Still w w' := by
  have h' := h
  obtain ⟨F, h1, h2, h3⟩ := h
  refine (h1.crash hw x hx).mono ?_
  rintro e w' ⟨hv, hg⟩
  exact ⟨hv, h'.of_goes h2 hg, hg.still h1⟩
theorem OwnD.fuseS (h : OwnD w0 w p m) (n : Int) : Calls Try.prog 23 #[.pointer (some ⟨p, 0, none⟩), .int .i64 n] w fun e w' => (∃ v, e = .returned v) ∧ OwnD w0 w' p (m.fuseTo n) ∧ Still w w' := by
  have h' := h
  obtain ⟨F, h1, h2, h3⟩ := h
  refine (h1.fuse n).mono ?_
  rintro e w' ⟨hv, hg⟩
  exact ⟨hv, h'.of_goes h2 hg, hg.still h1⟩
theorem OwnD.all (h : OwnD w0 w p m) (hw : m.waits ≤ 1000000) (hdk : m.dark = false) (hn : m.n ≤ 600) : Calls Try.prog 21 #[.pointer (some ⟨p, 0, none⟩)] w fun e w' => ∃ v, e = .returned v ∧ SRow w' w.heap.size v (looks m) ∧ Below w.heap.size w w' ∧ OwnD w0 w' p m := by
  have h' := h
  obtain ⟨F, h1, h2, h3⟩ := h
  refine (all_at h1 hw hdk hn).mono ?_
  rintro e w' ⟨v, rfl, hr, hb⟩
  exact ⟨v, rfl, hr, hb, h'.below hb⟩
/-- a store elsewhere. -/
theorem OwnD.poke (h : OwnD w0 w p m) {g : Nat} {cs : Array Value} {t : TypeId} {z : Nat × Nat} (e : w.heap[g]? = some (.cells cs t z)) (h1 : t ≠ 56) (h2 : t ≠ 63) (h3 : t ≠ 68) (h5 : t ≠ 5) (hg : w0.heap.size ≤ g) (i : Nat) (u : Value) : OwnD w0 (w.setCell ⟨g, i, none⟩ u) p m := by
  obtain ⟨F, k1, k2, k3⟩ := h
  have ht : Touch [g] w (w.setCell ⟨g, i, none⟩ u) := Touch.one (by simp)
  refine ⟨F, k1.touch ht (fun k hk hm => ?_) (fun k hb hm => ?_), k2, Touch.fresh k3 ht (by simpa using hg)⟩
  · simp at hm
    subst hm
    exact k1.not_kind e h1 h2 h3 hk
  · simp at hm
    subst hm
    obtain ⟨cs', z', e'⟩ := hb
    rw [e] at e'
    simp at e'
    exact h5 e'.2.1
end

/-- a disk that never goes dark. -/
structure Lit (j : Nat) (m : Mod) : Prop where
  n : m.n = 8
  size : m.size = 64
  dark : m.dark = false
  fused : m.fused = false
  fuse : m.fuse = 0
  waits : m.waits ≤ j
  deeds : m.deeds ≤ 2 * j + 5
theorem Lit.new : Lit 0 (Mod.new 8 64) := ⟨rfl, rfl, rfl, rfl, rfl, Nat.le_refl _, Nat.zero_le _⟩
theorem Lit.blown {j : Nat} {m : Mod} (h : Lit j m) : m.blown = false := by unfold Mod.blown; rw [h.fused]; rfl
theorem Lit.low {j : Nat} {m : Mod} (h : Lit j m) (hj : j ≤ 1000) : m.Low := ⟨by have := h.waits; omega, by have := h.deeds; omega, by rw [h.fuse]; omega⟩
theorem Lit.deed {j : Nat} {m : Mod} (h : Lit j m) : m.deed = { m with deeds := m.deeds + 1 } := by
  rw [lit_deed h.blown, h.fused]
  rfl
/-- a write: it is taken, or it is none. -/
theorem Lit.write {j : Nat} {m : Mod} (h : Lit j m) (i : Int) (b : List UInt8) : Lit (j + 1) (m.write i b) ∧
    ((m.writeR i b.length = 0 ∧ ∃ k : Nat, k < 8 ∧ i = k ∧ (m.write i b).deeds = m.deeds + 1 ∧ ∀ p x, (m.write i b).cont p x = if x = k ∧ bit p m.waits = true then b else m.cont p x) ∨
     (¬ m.writeR i b.length = 0 ∧ m.write i b = m)) := by
  have hb := h.blown
  have hd := h.deed
  unfold Mod.write Mod.writeR
  by_cases ht : m.takes i b.length = 0
  · simp only [ht, if_true, hb, if_false, Bool.false_eq_true, hd]
    refine ⟨⟨h.n, h.size, h.dark, h.fused, h.fuse, ?_, ?_⟩, .inl ⟨trivial, ?_⟩⟩
    · have := h.waits; show m.waits + 1 ≤ _; omega
    · have := h.deeds; show m.deeds + 1 ≤ _; omega
    · unfold Mod.takes at ht
      rw [h.dark, h.n, h.size] at ht
      have hno : ¬ (i < 0 ∨ ((8 : Nat) : Int) ≤ i ∨ ((64 : Nat) : Int) < (b.length : Int)) := fun e => by
        rw [if_neg (by simp), if_pos e] at ht
        omega
      refine ⟨i.toNat, by omega, by omega, trivial, fun p x => ?_⟩
      have e : ((x : Int) = i) = (x = i.toNat) := propext ⟨fun e => by omega, fun e => by omega⟩
      simp only [e]
  · simp only [ht, if_false]
    exact ⟨⟨h.n, h.size, h.dark, h.fused, h.fuse, by have := h.waits; omega, by have := h.deeds; omega⟩, .inr ⟨fun h => h, trivial⟩⟩
theorem Lit.flushR {j : Nat} {m : Mod} (h : Lit j m) : m.flushR = 0 := by unfold Mod.flushR; rw [h.dark, h.blown]; rfl
theorem Lit.flush {j : Nat} {m : Mod} (h : Lit j m) : m.flush = { m with deeds := m.deeds + 1, waits := 0, cont := fun _ k => m.cont ones k } := by
  unfold Mod.flush
  rw [if_neg (by rw [h.dark]; simp), if_neg (by rw [h.blown]; simp), h.deed]
theorem bit_zero (n : Nat) : bit 0 n = false := by unfold bit; simp
theorem bit_ones (n : Nat) : bit ones n = true := by
  unfold bit ones
  have h : n % 64 < 64 := Nat.mod_lt _ (by omega)
  generalize n % 64 = k at *
  have key : ∀ k, k < 64 → 18446744073709551615 / 2 ^ k % 2 = 1 := by decide
  simp [key k h]
end Go.Proofs.Ytmcgjlidfgbdfaa
