/- Pages as the reference keeps them: rows of strings in a row. -/
import Derived.Test.YtlkkfnimealbkaaNW
import Derived.Test.YtlkkfnimealbkaaNZ0
namespace Go.Proofs.Ytlkkfnimealbkaa
open Go.RowKit
open Pag (strL strL_len)
set_option linter.unusedVariables false
theorem infoStrs : (Try.prog.info? 39).map (fun i => (i.zero, i.size, decide (i.bytes ≤ 1000))) = some (some (.slice none 0 0), 1, true) := by kernel_rfl
theorem append_str2 {w : World} {base : Nat} {v : Value} {ss : List ByteArray} (h : SRow w base v ss) (x : ByteArray) (hn : ss.length ≤ 1000000) (hbase : base ≤ w.heap.size) :
    ∃ g c w', Sem.run Try.prog (Builtin.append_ #[39, 39] 39 #[v, .slice (some ⟨w.heap.size, 0, none⟩) 1 1]) (w.alloc (.cells #[.string x] 9)) = .ok (.slice (some ⟨g, 0, none⟩) (ss.length + 1) c) w' ∧ SRow w' base (.slice (some ⟨g, 0, none⟩) (ss.length + 1) c) (ss ++ [x]) ∧ (w.alloc (.cells #[.string x] 9)).grownBy w' v.ownBlock ∧ (v.ownBlock = some g ∨ g = w.heap.size + 1) := by
  have hinf := infoStr
  cases hi : Try.prog.info? 9 with
  | none => rw [hi] at hinf; simp at hinf
  | some i =>
    rw [hi] at hinf
    simp at hinf
    obtain ⟨i1, i2, i3⟩ := hinf
    have hb : ∀ (a b : Nat), a ≤ 1000001 → b ≤ 1000 → a * b ≤ 140737488355328 := fun a b h1 h2 => Nat.le_trans (Nat.mul_le_mul h1 h2) (by omega)
    obtain ⟨v', w', hr, ho, hg, _, hown⟩ := run_append_own_at (P := Try.prog) (w.alloc (.cells #[.string x] 9)) base 39 39 9 i _ 1 i.bytes Try.underlying39 hi i1 i2 rfl rfl (by omega) v ss.length (strs ss) (h.below ((Below.refl _ _).alloc (Nat.le_refl _) _)) ⟨w.heap.size, 0, none⟩ 1 1 (strs [x]) rfl (by
      intro j u hu
      rw [Addr.add_lit, Nat.zero_add, cell_of_row _ w.heap.size j #[.string x] 9 (0, 0) (heap_alloc_new w _), ← hu, show strs [x] = [Value.string x] from rfl]
      simp) (by
      intro u hu
      simp [strs] at hu
      subst hu
      rfl) (by simp only [maxLen]; omega) (hb _ _ (by omega) i3) (by simp; omega)
    obtain ⟨g', cap', e'⟩ := ownsRow_succ ho
    subst e'
    refine ⟨g', cap', w', hr, ?_, hg, ?_⟩
    · unfold SRow
      rw [List.length_append, show strs (ss ++ [x]) = strs ss ++ strs [x] by simp [strs]]
      exact ho
    · rcases hown with h1 | h1
      · exact .inl h1.symm
      · refine .inr ?_
        simp [Value.ownBlock] at h1
        exact h1
theorem SRow.grown {W w' : World} {base base' n : Nat} {s v : Value} {ss : List ByteArray} {xs : List Value} (h : SRow W base s ss) (hv : W.ownsRow base' 39 1 v n xs) (hg : W.grownBy w' v.ownBlock) : SRow w' base s ss := h.of_heap fun k hk => by
  obtain ⟨cur, hc⟩ := row_kind h hk
  refine hg.block k (Array.getElem?_eq_some_iff.1 hc).1 fun e => ?_
  obtain ⟨cur', hc'⟩ := row_kind hv e.symm
  rw [hc] at hc'
  simp at hc'
/-- pages: a row of rows of strings, each of its own. -/
structure SS (w : World) (base : Nat) (v : Value) (P : List (List (List UInt8))) : Prop where
  rows : ∃ ys : List Value, ys.length = P.length ∧ w.ownsRow base 39 1 v ys.length ys ∧ (∀ i (h : i < ys.length) (h' : i < P.length), SRow w base ys[i] (strL P[i])) ∧ ∀ i j (h : i < ys.length) (h' : j < ys.length) k, i ≠ j → ys[i].ownBlock = some k → ys[j].ownBlock ≠ some k
theorem rows_belowT {t : TypeId} {w w' : World} {base : Nat} {v : Value} {n : Nat} {xs : List Value} (h : w.ownsRow base t 1 v n xs) (hb : Below w.heap.size w w') : w'.ownsRow base t 1 v n xs := ownsRow_of_heap h fun k hk => by
  obtain ⟨cur, hc⟩ := row_kind h hk
  exact hb.block k (Array.getElem?_eq_some_iff.1 hc).1
theorem SS.below {w w' : World} {base : Nat} {v : Value} {P : List (List (List UInt8))} (h : SS w base v P) (hb : Below w.heap.size w w') : SS w' base v P := by
  obtain ⟨ys, e, ho, hy, hd⟩ := h.rows
  exact ⟨ys, e, rows_belowT ho hb, fun i h h' => (hy i h h').below hb, hd⟩
theorem SS.new (w : World) : SS (w.alloc (.cells #[] 39)) w.heap.size (.slice (some ⟨w.heap.size, 0, none⟩) 0 0) [] :=
  ⟨[], rfl, ⟨rfl, .inr ⟨w.heap.size, 0, #[], rfl, Nat.le_refl _, heap_alloc_new w _, Nat.le_refl _, Nat.zero_le _, rfl, rfl⟩⟩, fun i h => absurd h (by simp), fun i j h => absurd h (by simp)⟩
theorem SS.block {w : World} {base : Nat} {v : Value} {P : List (List (List UInt8))} (h : SS w base v P) : ∀ k, v.ownBlock = some k → base ≤ k ∧ k < w.heap.size := by
  obtain ⟨ys, -, ho, -⟩ := h.rows
  intro k e
  obtain ⟨cur, hc⟩ := row_kind ho e
  exact ⟨own_ge ho e, (Array.getElem?_eq_some_iff.1 hc).1⟩
/-- a page's row. -/
theorem SS.at_ {w : World} {base : Nat} {v : Value} {P : List (List (List UInt8))} (h : SS w base v P) : ∃ A c, v = .slice A P.length c ∧ ∀ i (hi : i < P.length), ∃ g A' c', A = some ⟨g, 0, none⟩ ∧ g < w.heap.size ∧ w.cell? ⟨g, i, none⟩ = some (.slice A' P[i].length c') ∧ SRow w base (.slice A' P[i].length c') (strL P[i]) := by
  obtain ⟨ys, hl, ho, hy, -⟩ := h.rows
  obtain ⟨h1, h2⟩ := ho
  rcases h2 with ⟨rfl, h0⟩ | ⟨g, cap, cur, rfl, hg, hh, hn, hm, hs, ht⟩
  · exact ⟨none, 0, by rw [← hl, h0], fun i hi => absurd hi (by omega)⟩
  · refine ⟨_, cap, by rw [hl], fun i hi => ?_⟩
    have hi' : i < ys.length := by omega
    have hr := hy i hi' hi
    obtain ⟨A', c', e, -, -⟩ := hr.asStrs
    rw [strL_len] at e
    rw [e] at hr
    refine ⟨g, A', c', rfl, (Array.getElem?_eq_some_iff.1 hh).1, ?_, hr⟩
    have hu : ys[i]? = some ys[i] := List.getElem?_eq_getElem hi'
    rw [cell_of_row w g i cur 39 (0, 0) hh, ← e, ← hu, ← ht, List.getElem?_take, if_pos (by omega)]
    simp
/-- an empty page comes. -/
theorem SS.pushE {w : World} {base : Nat} {v : Value} {P : List (List (List UInt8))} (h : SS w base v P) (hbase : base ≤ w.heap.size) (hn : P.length ≤ 1000000) :
    ∃ v' w', Sem.run Try.prog (Builtin.append_ #[32, 32] 32 #[v, .slice (some ⟨w.heap.size + 1, 0, none⟩) 1 1]) ((w.alloc (.cells #[] 9)).alloc (.cells #[.slice (some ⟨w.heap.size, 0, none⟩) 0 0] 39)) = .ok v' w' ∧ SS w' base v' (P ++ [[]]) ∧ ((w.alloc (.cells #[] 9)).alloc (.cells #[.slice (some ⟨w.heap.size, 0, none⟩) 0 0] 39)).grownBy w' v.ownBlock := by
  have hinf := infoStrs
  cases hi : Try.prog.info? 39 with
  | none => rw [hi] at hinf; simp at hinf
  | some i =>
    rw [hi] at hinf
    simp at hinf
    obtain ⟨i1, i2, i3⟩ := hinf
    have hb : ∀ (a b : Nat), a ≤ 1000001 → b ≤ 1000 → a * b ≤ 140737488355328 := fun a b h1 h2 => Nat.le_trans (Nat.mul_le_mul h1 h2) (by omega)
    obtain ⟨ys, hl, ho, hy, hd⟩ := h.rows
    have b1 : Below w.heap.size w (w.alloc (.cells #[] 9)) := (Below.refl _ _).alloc (Nat.le_refl _) _
    have b2 : Below w.heap.size w ((w.alloc (.cells #[] 9)).alloc (.cells #[.slice (some ⟨w.heap.size, 0, none⟩) 0 0] 39)) := b1.alloc (by simp) _
    have hcell : ((w.alloc (.cells #[] 9)).alloc (.cells #[.slice (some ⟨w.heap.size, 0, none⟩) 0 0] 39)).cell? ⟨w.heap.size + 1, 0, none⟩ = some (.slice (some ⟨w.heap.size, 0, none⟩) 0 0) := by
      have := cell_of_row _ (w.alloc (.cells #[] 9)).heap.size 0 #[.slice (some ⟨w.heap.size, 0, none⟩) 0 0] 39 (0, 0) (heap_alloc_new (w.alloc (.cells #[] 9)) _)
      rw [World.size_alloc] at this
      exact this
    have hrE : SRow ((w.alloc (.cells #[] 9)).alloc (.cells #[.slice (some ⟨w.heap.size, 0, none⟩) 0 0] 39)) base (.slice (some ⟨w.heap.size, 0, none⟩) 0 0) [] := ((SRow.new w).below ((Below.refl _ _).alloc (Nat.le_refl _) _)).le hbase
    have hszW : ((w.alloc (.cells #[] 9)).alloc (.cells #[.slice (some ⟨w.heap.size, 0, none⟩) 0 0] 39)).heap.size = w.heap.size + 2 := by simp
    have hoW := rows_belowT ho b2
    generalize ((w.alloc (.cells #[] 9)).alloc (.cells #[.slice (some ⟨w.heap.size, 0, none⟩) 0 0] 39)) = W at *
    obtain ⟨v', w', hr, ho', hg, _, hown⟩ := run_append_own_at (P := Try.prog) W base 32 32 39 i _ 1 i.bytes Try.underlying32 hi i1 i2 rfl rfl (by omega) v ys.length ys hoW ⟨w.heap.size + 1, 0, none⟩ 1 1 [.slice (some ⟨w.heap.size, 0, none⟩) 0 0] rfl (by
      intro j u hu
      have hj : j = 0 := by
        have := (List.getElem?_eq_some_iff.1 hu).1
        simp at this
        exact this
      subst hj
      simp at hu
      subst hu
      exact hcell) (by
      intro u hu
      simp at hu
      subst hu
      rfl) (by simp only [maxLen]; omega) (hb _ _ (by omega) i3) (by omega)
    refine ⟨v', w', hr, ⟨ys ++ [.slice (some ⟨w.heap.size, 0, none⟩) 0 0], by simp [hl], by rw [List.length_append]; exact ho', fun j h1 h2 => ?_, fun a b h1 h2 k hab e => ?_⟩, hg⟩
    · rw [List.length_append, List.length_singleton] at h1
      by_cases hj : j < ys.length
      · rw [List.getElem_append_left hj, List.getElem_append_left (by omega)]
        exact ((hy j hj (by omega)).below b2).grown hoW hg
      · have hje : j = ys.length := by omega
        subst hje
        rw [List.getElem_append_right (by omega), List.getElem_append_right (by omega)]
        simp only [Nat.sub_self, List.getElem_cons_zero, hl]
        exact hrE.grown hoW hg
    · rw [List.length_append, List.length_singleton] at h1 h2
      have hold : ∀ j (hj : j < ys.length) k, ys[j].ownBlock = some k → k < w.heap.size := fun j hj k e => ((hy j hj (by omega)).block k e).2
      by_cases ha : a < ys.length
      · rw [List.getElem_append_left ha] at e
        by_cases hb' : b < ys.length
        · rw [List.getElem_append_left hb']
          exact hd a b ha hb' k hab e
        · rw [List.getElem_append_right (by omega)]
          have hz : b - ys.length = 0 := by omega
          simp only [hz, List.getElem_cons_zero]
          have := hold a ha k e
          simp [Value.ownBlock]
          omega
      · rw [List.getElem_append_right (by omega)] at e
        have hz : a - ys.length = 0 := by omega
        simp only [hz, List.getElem_cons_zero] at e
        simp [Value.ownBlock] at e
        rw [List.getElem_append_left (by omega)]
        intro e2
        have := hold b (by omega) k e2
        omega
end Go.Proofs.Ytlkkfnimealbkaa
