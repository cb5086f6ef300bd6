/- Add, and what turns in a journal's own block. -/
import Derived.Test.YthoihlebplmcoaaJE
import Derived.Test.YthoihlebplmcoaaJD
namespace Go.Proofs.Ythoihlebplmcoaa
open Go.RowKit
set_option linter.unusedVariables false
/-- blocks of other kinds than the disk's and the journal's stand as they stood, but for the row's own. -/
structure Stay (a : Option Nat) (w w' : World) : Prop where
  size : w.heap.size ≤ w'.heap.size
  block : ∀ (k : Nat) (cs : Array Value) (t : TypeId) (z : Nat × Nat), w.heap[k]? = some (.cells cs t z) → t ≠ 55 → t ≠ 71 → t ≠ 74 → t ≠ 57 → a ≠ some k → w'.heap[k]? = w.heap[k]?
theorem Still.stay {w w' : World} (h : Still w w') (a : Option Nat) : Stay a w w' := ⟨h.size, fun k cs t z e h1 h2 h3 _ _ => h.block k cs t z e h1 h2 h3⟩
theorem Stay.trans {a a' : Option Nat} {w w1 w2 : World} (h : Stay a w w1) (k : Stay a' w1 w2) (ha : a' = a ∨ ∃ g, a' = some g ∧ w.heap.size ≤ g) : Stay a w w2 :=
  ⟨Nat.le_trans h.size k.size, fun x cs t z e h1 h2 h3 h4 h5 => (k.block x cs t z ((h.block x cs t z e h1 h2 h3 h4 h5).trans e) h1 h2 h3 h4 (by
    have hx := (Array.getElem?_eq_some_iff.1 e).1
    rcases ha with rfl | ⟨g, rfl, hg⟩
    · exact h5
    · intro e'; injection e' with e'; omega)).trans (h.block x cs t z e h1 h2 h3 h4 h5)⟩
theorem JRow.of_heap {w w' : World} {A : Option Addr} {c : Nat} {l : List UInt8} (h : JRow w A c l) (hb : ∀ k, Bytes w k → w'.heap[k]? = w.heap[k]?) (hs : w.heap.size ≤ w'.heap.size) : JRow w' A c l := by
  refine ⟨fun i hi => ?_, h.le, h.top, fun a e => ?_, h.own.imp (fun r => r.of_heap fun k hk => hb k (r.bytes hk)) id⟩
  · obtain ⟨b, o, e, hlt, hc⟩ := h.held i hi
    refine ⟨b, o, e, Nat.lt_of_lt_of_le hlt hs, ?_⟩
    rw [← hc]
    simp only [World.cell?, hb b (h.bytes _ e)]
  · obtain ⟨cs, z, e'⟩ := h.bytes a e
    exact ⟨cs, z, (hb _ ⟨cs, z, e'⟩).trans e'⟩
theorem Longer.jrow {w w' : World} {A A' : Option Addr} {c' : Nat} {l : List UInt8} (h : Longer w w' A A' c' l) : JRow w' A' c' l := by
  obtain ⟨B, d, e, h1, h2, h3⟩ := h.row.shape
  injection e with e1 e2 e3
  subst e1 e3
  exact ⟨h1, h2, h3, fun a e => by subst e; exact h.row.bytes rfl, .inl h.row⟩
section
variable {w0 w w1 : World} {J : Jd} {m : Mod}
theorem JP.ob_lt (h : JP w0 w J m) {k : Nat} (hk : ob J.A = some k) : Bytes w k ∧ w0.heap.size ≤ k := by
  cases hA : J.A with
  | none => rw [hA] at hk; cases hk
  | some a =>
    rw [hA] at hk
    have hb := h.row.bytes a hA
    injection hk with hk
    subst hk
    exact ⟨hb, h.rowNew _ (by unfold Jd.v; rw [hA]; rfl)⟩
theorem JP.p_bytes (h : JP w0 w J m) : ¬ Bytes w J.p := not_bytes h.is (by decide)
/-- the row's block, and what is new, turned; then the row is another one. -/
theorem JP.grow (h : JP w0 w J m) (ht : Touch (ob J.A).toList w w1) {A' : Option Addr} {c' : Nat} {row' : List UInt8} (hr : JRow w1 A' c' row') (hb : ob A' = ob J.A ∨ ∃ g, ob A' = some g ∧ w.heap.size ≤ g) (hlen : row'.length ≤ 700000) :
    w1.cell? ⟨J.p, 5, none⟩ = some J.v ∧ w1.frozen? ⟨J.p, 5, none⟩ = false ∧ (JIs w1 J) ∧
    JP w0 (w1.setCell ⟨J.p, 5, none⟩ (.slice A' row'.length c')) { J with A := A', c := c', row := row' } m ∧ Stay (ob J.A) w (w1.setCell ⟨J.p, 5, none⟩ (.slice A' row'.length c')) := by
  have hpn : J.p ∉ (ob J.A).toList := fun hm => by
    simp only [Option.mem_toList] at hm
    exact h.p_bytes (h.ob_lt hm).1
  have hi1 : JIs w1 J := (ht.block J.p h.is.lt hpn).trans h.is
  have hw2 : JIs (w1.setCell ⟨J.p, 5, none⟩ (.slice A' row'.length c')) { J with A := A', c := c', row := row' } := by
    have := Whole.set_ hi1 5 (.slice A' row'.length c')
    exact this
  have ht2 : Touch (J.p :: (ob J.A).toList) w (w1.setCell ⟨J.p, 5, none⟩ (.slice A' row'.length c')) := (ht.mono (fun x hx => .inl (List.mem_cons_of_mem J.p hx))).setCell (q := ⟨J.p, 5, none⟩) (.inl List.mem_cons_self) _
  have hnew : ∀ k, ob A' = some k → w0.heap.size ≤ k := fun k hk => by
    rcases hb with e | ⟨g, e, hg⟩
    · exact (h.ob_lt (e ▸ hk)).2
    · rw [e] at hk
      injection hk with hk
      have := h.own.bel.size
      omega
  have hav : OwnA (fun k => ob J.A = some k ∨ ob A' = some k) w0 w J.dp m := h.own.avoid fun k hk => by
    rcases hk with hk | hk
    · exact .inl (by unfold Jd.v; rw [ob_own]; exact hk)
    · rcases hb with e | ⟨g, e, hg⟩
      · exact .inl (by unfold Jd.v; rw [ob_own, ← e]; exact hk)
      · rw [e] at hk
        injection hk with hk
        exact .inr (by omega)
  have ho : OwnA (fun k => ob J.A = some k ∨ ob A' = some k) w0 (w1.setCell ⟨J.p, 5, none⟩ (.slice A' row'.length c')) J.dp m := by
    refine hav.touch ht2 fun k hk => ?_
    rcases List.mem_cons.1 hk with rfl | hk
    · exact ⟨h.new, .inr ⟨_, _, _, h.is, by decide, by decide, by decide, by decide⟩⟩
    · simp only [Option.mem_toList] at hk
      exact ⟨(h.ob_lt hk).2, .inl ⟨(h.ob_lt hk).1, .inl hk⟩⟩
  refine ⟨hi1.c5, hi1.fz 5, hi1, ⟨?_, hw2, h.new, fun k hk => hnew k (by unfold Jd.v at hk; rw [ob_own] at hk; exact hk), ?_, ?_⟩, ht2.size, fun k cs t z e h1 h2 h3 h4 h5 => ht2.block k (Array.getElem?_eq_some_iff.1 e).1 fun hm => ?_⟩
  · exact ho.avoid fun k hk => .inl (.inr (by unfold Jd.v at hk; rw [ob_own] at hk; exact hk))
  · refine hr.of_heap (fun k hk => Below.heap_setCell _ _ _ _ fun e => ?_) (by simp [World.setCell])
    subst e
    exact not_bytes hi1 (by decide) hk
  · have := h.ok
    exact ⟨this.lo, this.hi, this.n, this.size, this.f1, this.f2, this.e, hlen⟩
  · rcases List.mem_cons.1 hm with rfl | hm
    · have := h.is
      unfold JIs Whole at this
      rw [this] at e
      simp at e
      exact h4 e.2.1.symm
    · simp only [Option.mem_toList] at hm
      exact h5 hm
end
end Go.Proofs.Ythoihlebplmcoaa
