/- Rows of bytes of the call's own; append; bytes.Clone. -/
import Derived.Test.YtbdaoecpmodgcaaB2
import Derived.Maps.AppendAt
import Derived.WalkLawsBesides
import Derived.Lib.AppendZeros
namespace Go.Proofs.Ytbdaoecpmodgcaa
open Go.RowKit

/-- v is a slice of the call's own (no block below base), of just these bytes. -/
def Row (w : World) (base : Nat) (v : Value) (l : List UInt8) : Prop := w.ownsRow base 5 1 v l.length (encB l)
theorem Row.shape {w : World} {base : Nat} {v : Value} {l : List UInt8} (h : Row w base v l) : ∃ A c, v = .slice A l.length c ∧ Holds w A l ∧ l.length ≤ c ∧ c ≤ maxLen := by
  obtain ⟨_, h2⟩ := h
  rcases h2 with ⟨rfl, h0⟩ | ⟨g, cap, cur, rfl, hb, hh, hn, hm, hs, ht⟩
  · exact ⟨none, 0, by rw [h0], by rw [List.eq_nil_of_length_eq_zero h0]; exact Holds.nil _ _, by omega, Nat.zero_le _⟩
  · refine ⟨_, cap, rfl, fun i hi => ⟨g, 0, rfl, ?_, ?_⟩, hn, hm⟩
    · exact (Array.getElem?_eq_some_iff.1 hh).1
    · rw [Nat.zero_add, cell_of_row w g i cur 5 (0, 0) hh, ← encB_at l i hi, ← ht]
      rw [List.getElem?_take, if_pos (by omega)]
      simp
theorem Row.below {w w' : World} {base : Nat} {v : Value} {l : List UInt8} (h : Row w base v l) (hb : Below w.heap.size w w') : Row w' base v l := by
  obtain ⟨h1, h2⟩ := h
  refine ⟨h1, h2.imp id ?_⟩
  rintro ⟨g, cap, cur, hv, hg, hh, r⟩
  exact ⟨g, cap, cur, hv, hg, (hb.block g (Array.getElem?_eq_some_iff.1 hh).1).trans hh, r⟩
theorem Row.drew {w : World} {base : Nat} {v : Value} {l : List UInt8} (h : Row w base v l) : Row w.drew base v l := h
theorem Row.of_block {w : World} {g base : Nat} {l : List UInt8} (h : BB w g l) (hb : base ≤ g) (hl : l.length ≤ maxLen) : Row w base (.slice (some ⟨g, 0, none⟩) l.length l.length) l :=
  ⟨by simp [encB], .inr ⟨g, l.length, _, rfl, hb, h, Nat.le_refl _, hl, by simp [encB], by rw [Nat.mul_one]; exact List.take_of_length_le (by simp [encB])⟩⟩
theorem Row.block {w : World} {base : Nat} {v : Value} {l : List UInt8} (h : Row w base v l) : ∀ k, v.ownBlock = some k → base ≤ k := by
  rcases h.2 with ⟨rfl, _⟩ | ⟨g, cap, cur, rfl, hb, _⟩
  · intro k e; simp [Value.ownBlock] at e
  · intro k e; simp [Value.ownBlock] at e; omega
/-- what grows in a row of the call's own leaves the rest. -/
theorem below_grown {w0 w w' : World} {v : Value} (hb : Below w0.heap.size w0 w) (hg : w.grownBy w' v.ownBlock) (hv : ∀ k, v.ownBlock = some k → w0.heap.size ≤ k) : Below w0.heap.size w0 w' :=
  ⟨hg.os.trans hb.os, hg.tape.trans hb.tape, hg.output.trans hb.output, Nat.le_trans hb.size hg.size, fun k hk => (hg.block k (Nat.lt_of_lt_of_le hk hb.size) (fun e => by have := hv k e.symm; omega)).trans (hb.block k hk)⟩

/-- append of bytes to a row of the call's own. -/
theorem append_bytes {w : World} {base : Nat} {v : Value} {l : List UInt8} (h : Row w base v l) (A : Option Addr) (c : Nat) (m : List UInt8) (hm : Holds w A m) (hn : l.length + m.length ≤ 1000000) (hbase : base ≤ w.heap.size) :
    ∃ v' w', Sem.run Try.prog (Builtin.append_ #[22, 22] 22 #[v, .slice A m.length c]) w = .ok v' w' ∧ Row w' base v' (l ++ m) ∧ w.grownBy w' v.ownBlock ∧ (v'.ownBlock = v.ownBlock ∨ v'.ownBlock = some w.heap.size) := by
  have hinf := info5
  cases hi : Try.prog.info? 5 with
  | none => rw [hi] at hinf; simp at hinf
  | some i =>
    rw [hi] at hinf
    simp at hinf
    obtain ⟨i1, i2, i3⟩ := hinf
    have go : ∀ a : Addr, A = some a → (∀ j u, (encB m)[j]? = some u → w.cell? (a.add j) = some u) → ∃ v' w', Sem.run Try.prog (Builtin.append_ #[22, 22] 22 #[v, .slice A m.length c]) w = .ok v' w' ∧ Row w' base v' (l ++ m) ∧ w.grownBy w' v.ownBlock ∧ (v'.ownBlock = v.ownBlock ∨ v'.ownBlock = some w.heap.size) := by
      intro a e hc
      subst e
      obtain ⟨v', w', hr, ho, hg, _, hb⟩ := run_append_own_at (P := Try.prog) w base 22 22 5 i _ 1 1 Try.underlying22 hi i1 i2 i3 rfl (by omega) v l.length (encB l) h a m.length c (encB m) (by simp [encB]) hc (encB_one m) (by simp only [maxLen]; omega) (by omega) hbase
      refine ⟨v', w', hr, ?_, hg, hb⟩
      unfold Row
      rw [List.length_append, encB_append]
      exact ho
    cases A with
    | none =>
      have hm0 : m = [] := by
        cases m with
        | nil => rfl
        | cons x r => obtain ⟨b, o, e, _⟩ := hm 0 (by simp); cases e
      subst hm0
      refine ⟨v, w, ?_, by simpa using h, World.grownBy.refl w _, .inl rfl⟩
      rcases h.2 with ⟨rfl, _⟩ | ⟨g, cap, cur, rfl, _, _, hnc, _⟩
      · simp [Builtin.append_, run_underlying Try.underlying22, sizeOf, typeInfo, hi, Builtin.lenOf, Builtin.firstCells]
      · simp [Builtin.append_, run_underlying Try.underlying22, sizeOf, typeInfo, hi, Builtin.lenOf, Builtin.firstCells, hnc, storeCells]
    | some a =>
      refine go a rfl fun j u hu => ?_
      have hj : j < m.length := by
        have := (List.getElem?_eq_some_iff.1 hu).1
        rwa [encB_length] at this
      obtain ⟨b, o, e, _, hc⟩ := hm j hj
      cases e
      rw [Addr.add_lit, hc, ← hu, encB_at m j hj]

set_option maxRecDepth 100000 in
theorem clone_any (A : Option Addr) (c : Nat) (l : List UInt8) (w : World) (h : Holds w A l) (hn : l.length ≤ 1000000) :
    Calls Try.prog 20 #[.slice A l.length c] w fun r w' => ∃ v, r = .returned v ∧ Row w' w.heap.size v l ∧ Below w.heap.size w w' := by
  have H0 := Lib.hid h
  clear h
  cases A with
  | none =>
    have hl : l = [] := by
      cases l with
      | nil => rfl
      | cons x r => obtain ⟨b, o, e, _⟩ := H0.out 0 (by simp); cases e
    subst hl
    have hq := fun W => Lib.run_eql_slice_nil (P := Try.prog) W 22 5 none 0 c 0 0 Try.underlying22
    go_enter Try.func20, Try.ntmps20
    go_wp2_with fail
    go_ret
    exact ⟨_, rfl, ⟨rfl, .inl ⟨rfl, rfl⟩⟩, Below.refl _ _⟩
  | some a =>
    have hrow : Row (w.alloc (.cells #[] 5)) w.heap.size (.slice (some ⟨w.heap.size, 0, none⟩) 0 0) [] := ⟨rfl, .inr ⟨w.heap.size, 0, #[], rfl, Nat.le_refl _, heap_alloc_new w _, Nat.le_refl _, Nat.zero_le _, rfl, rfl⟩⟩
    obtain ⟨v', w', hr, ho, hg, hb⟩ := append_bytes hrow (some a) c l (H0.out.below ((Below.refl _ _).alloc (Nat.le_refl _) _)) (by simpa using hn) (by simp)
    have HO := Lib.hid ho
    have HB : Hid (Below w.heap.size w w') := Lib.hid (below_grown ((Below.refl _ _).alloc (Nat.le_refl _) _) hg hrow.block)
    have HR := Lib.hid hr
    clear ho hg hb hrow hr
    have hq := fun W => Lib.run_eql_slice_nil (P := Try.prog) W 22 5 (some a) l.length c 0 0 Try.underlying22
    go_enter Try.func20, Try.ntmps20
    go_wp2_with (at_builtin; refine Lib.wpList_append_run _ rfl _ _ 22 22 rfl _ _ rfl rfl _ _ HR.out ?_)
    go_ret
    exact ⟨_, rfl, HO.out, HB.out⟩
end Go.Proofs.Ytbdaoecpmodgcaa
