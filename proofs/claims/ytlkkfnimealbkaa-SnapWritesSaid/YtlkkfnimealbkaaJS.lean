/- What a call on the disk leaves of all else (stage 8's US, without its Waits). -/
import Derived.Test.YtlkkfnimealbkaaMD2
namespace Go.Proofs.Ytlkkfnimealbkaa
open Go.RowKit
set_option linter.unusedVariables false

/-- blocks of other kinds than the disk's own stand as they stood. -/
structure Still (w w' : World) : Prop where
  size : w.heap.size ≤ w'.heap.size
  block : ∀ (k : Nat) (cs : Array Value) (t : TypeId) (z : Nat × Nat), w.heap[k]? = some (.cells cs t z) → t ≠ 53 → t ≠ 66 → t ≠ 77 → w'.heap[k]? = w.heap[k]?
theorem Still.refl (w : World) : Still w w := ⟨Nat.le_refl _, fun _ _ _ _ _ _ _ _ => rfl⟩
theorem Still.trans {a b c : World} (h : Still a b) (k : Still b c) : Still a c :=
  ⟨Nat.le_trans h.size k.size, fun x cs t z e h1 h2 h3 => (k.block x cs t z ((h.block x cs t z e h1 h2 h3).trans e) h1 h2 h3).trans (h.block x cs t z e h1 h2 h3)⟩
theorem Still.of_below {w w' : World} (h : Below w.heap.size w w') : Still w w' := ⟨h.size, fun k _ _ _ e _ _ _ => h.block k (Array.getElem?_eq_some_iff.1 e).1⟩
theorem DiskAt.kinds {w : World} {d : Dsk} (h : DiskAt w d) {k : Nat} (hk : k ∈ foot d) : ∃ cs t, w.heap[k]? = some (.cells cs t (0, 0)) ∧ (t = 53 ∨ t = 66 ∨ t = 77) := by
  rcases foot_cases hk with rfl | rfl | ⟨s, hs, e⟩
  · exact ⟨_, _, h.top, .inl rfl⟩
  · exact ⟨_, _, h.sec, .inr (.inl rfl)⟩
  · obtain ⟨cur, hc⟩ := row_kind (h.ok s hs).wrow e
    exact ⟨_, _, hc, .inr (.inr rfl)⟩
theorem IsD.not_kind {w : World} {p : Nat} {F : List Nat} {m : Mod} (h : IsD w p F m) {k : Nat} {cs : Array Value} {t : TypeId} {z : Nat × Nat} (e : w.heap[k]? = some (.cells cs t z)) (h1 : t ≠ 53) (h2 : t ≠ 66) (h3 : t ≠ 77) : k ∉ F := by
  obtain ⟨d, hd, _, _, rfl⟩ := h
  intro hk
  obtain ⟨cs', t', e', ht⟩ := hd.kinds hk
  rw [e] at e'
  simp at e'
  rcases ht with h | h | h
  · exact h1 (e'.2.1.trans h)
  · exact h2 (e'.2.1.trans h)
  · exact h3 (e'.2.1.trans h)
theorem GoesM.still {w w' : World} {p : Nat} {F : List Nat} {m m' : Mod} (hd : IsD w p F m) (hg : GoesM w w' p F m') : Still w w' := by
  obtain ⟨F', _, _, ht⟩ := hg
  exact ⟨ht.size, fun k cs t z e h1 h2 h3 => ht.block k (Array.getElem?_eq_some_iff.1 e).1 (hd.not_kind e h1 h2 h3)⟩
theorem Whole.still {w w' : World} {g : Nat} {t : TypeId} {cs : Array Value} (h : Whole w g t cs) (hs : Still w w') (h1 : t ≠ 53) (h2 : t ≠ 66) (h3 : t ≠ 77) : Whole w' g t cs := (hs.block g cs t _ h h1 h2 h3).trans h
section
variable {w0 w : World} {p : Nat} {m : Mod}
theorem OwnD.writeS (h : OwnD w0 w p m) (hl : m.Low) (i : Int) (A : Option Addr) (c : Nat) (b : List UInt8) (hA : Holds w A b) (hf : b = [] ∨ Far w0 w A) : Calls Try.prog 17 #[.pointer (some ⟨p, 0, none⟩), .int .i64 i, .slice A b.length c] w fun e w' => e = .returned (.int .i64 (m.writeR i b.length)) ∧ OwnD w0 w' p (m.write i b) ∧ Still w w' := by
  have h' := h
  obtain ⟨F, h1, h2, h3⟩ := h
  refine (h1.write hl i A c b hA (hf.imp id (fun f => f.off h1 h2))).mono ?_
  rintro e w' ⟨rfl, hg⟩
  exact ⟨rfl, h'.of_goes h2 hg, hg.still h1⟩
theorem OwnD.flushS (h : OwnD w0 w p m) (hl : m.Low) : Calls Try.prog 20 #[.pointer (some ⟨p, 0, none⟩)] w fun e w' => e = .returned (.int .i64 m.flushR) ∧ OwnD w0 w' p m.flush ∧ Still w w' := by
  have h' := h
  obtain ⟨F, h1, h2, h3⟩ := h
  refine (h1.flush hl).mono ?_
  rintro e w' ⟨rfl, hg⟩
  exact ⟨rfl, h'.of_goes h2 hg, hg.still h1⟩
theorem OwnD.fuseS (h : OwnD w0 w p m) (n : Int) : Calls Try.prog 19 #[.pointer (some ⟨p, 0, none⟩), .int .i64 n] w fun e w' => (∃ v, e = .returned v) ∧ OwnD w0 w' p (m.fuseTo n) ∧ Still w w' := by
  have h' := h
  obtain ⟨F, h1, h2, h3⟩ := h
  refine (h1.fuse n).mono ?_
  rintro e w' ⟨hv, hg⟩
  exact ⟨hv, h'.of_goes h2 hg, hg.still h1⟩
/-- a store elsewhere. -/
theorem OwnD.poke (h : OwnD w0 w p m) {g : Nat} {cs : Array Value} {t : TypeId} {z : Nat × Nat} (e : w.heap[g]? = some (.cells cs t z)) (h1 : t ≠ 53) (h2 : t ≠ 66) (h3 : t ≠ 77) (h5 : t ≠ 5) (hg : w0.heap.size ≤ g) (i : Nat) (u : Value) : OwnD w0 (w.setCell ⟨g, i, none⟩ u) p m := by
  obtain ⟨F, k1, k2, k3⟩ := h
  have ht : Touch [g] w (w.setCell ⟨g, i, none⟩ u) := Touch.one (by simp)
  refine ⟨F, k1.touch ht (fun k hk hm => ?_) (fun k hb hm => ?_), k2, Touch.fresh k3 ht (by simpa using hg)⟩
  · simp at hm
    subst hm
    exact k1.not_kind e h1 h2 h3 hk
  · simp at hm
    subst hm
    obtain ⟨cs', z', e'⟩ := hb
    rw [e] at e'
    simp at e'
    exact h5 e'.2.1
end
end Go.Proofs.Ytlkkfnimealbkaa
