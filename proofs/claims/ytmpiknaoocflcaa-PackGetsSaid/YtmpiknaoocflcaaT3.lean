/- A list of values of the call's own: append. -/
import Derived.Test.YtmpiknaoocflcaaT2
namespace Go.Proofs.Ytmpiknaoocflcaa
open Go.RowKit

def encV (xs : List Tri) : List Value := xs.flatMap fun x => [.int .i64 x.1, .int .i64 x.2.1, .string x.2.2]
theorem encV_length : ∀ xs : List Tri, (encV xs).length = xs.length * 3
  | [] => rfl
  | x :: xs => by
    have := encV_length xs
    unfold encV at *
    rw [List.flatMap_cons, List.length_append, this, List.length_cons]
    simp only [List.length_cons, List.length_nil]
    omega
theorem encV_append (xs ys : List Tri) : encV (xs ++ ys) = encV xs ++ encV ys := by simp [encV]
theorem encV_at : ∀ (xs : List Tri) (i : Nat) (h : i < xs.length), (encV xs)[i * 3]? = some (.int .i64 xs[i].1) ∧ (encV xs)[i * 3 + 1]? = some (.int .i64 xs[i].2.1) ∧ (encV xs)[i * 3 + 2]? = some (.string xs[i].2.2)
  | [], i, h => absurd h (by simp)
  | x :: xs, 0, h => ⟨rfl, rfl, rfl⟩
  | x :: xs, i + 1, h => by
    have := encV_at xs i (by simpa using h)
    have e : encV (x :: xs) = Value.int .i64 x.1 :: .int .i64 x.2.1 :: .string x.2.2 :: encV xs := rfl
    rw [e]
    have e0 : (i + 1) * 3 = i * 3 + 1 + 1 + 1 := by omega
    rw [e0]
    simp only [List.getElem?_cons_succ, List.getElem_cons_succ]
    exact this
def VRow (w : World) (base : Nat) (v : Value) (xs : List Tri) : Prop := w.ownsRow base 42 3 v xs.length (encV xs)
theorem VRow.shape {w : World} {base : Nat} {v : Value} {xs : List Tri} (h : VRow w base v xs) : ∃ A c, v = .slice A xs.length c ∧ VAt w A xs := by
  obtain ⟨_, h2⟩ := h
  rcases h2 with ⟨rfl, h0⟩ | ⟨g, cap, cur, rfl, hb, hh, hn, hm, hs, ht⟩
  · exact ⟨none, 0, by rw [h0], fun i hi => absurd hi (by omega)⟩
  · refine ⟨_, cap, rfl, fun i hi => ⟨g, 0, rfl, (Array.getElem?_eq_some_iff.1 hh).1, ?_⟩⟩
    obtain ⟨k0, k1, k2⟩ := encV_at xs i hi
    have key : ∀ j u, j < xs.length * 3 → (encV xs)[j]? = some u → w.cell? ⟨g, 0 + j, none⟩ = some u := by
      intro j u hj hu
      rw [Nat.zero_add, cell_of_row w g j cur 42 (0, 0) hh, ← hu, ← ht, List.getElem?_take, if_pos hj]
      simp
    exact ⟨key _ _ (by omega) k0, key _ _ (by omega) k1, key _ _ (by omega) k2⟩
theorem VRow.below {w w' : World} {base : Nat} {v : Value} {xs : List Tri} (h : VRow w base v xs) (hb : Below w.heap.size w w') : VRow w' base v xs := by
  obtain ⟨h1, h2⟩ := h
  refine ⟨h1, h2.imp id ?_⟩
  rintro ⟨g, cap, cur, hv, hg, hh, r⟩
  exact ⟨g, cap, cur, hv, hg, (hb.block g (Array.getElem?_eq_some_iff.1 hh).1).trans hh, r⟩
theorem VRow.block {w : World} {base : Nat} {v : Value} {xs : List Tri} (h : VRow w base v xs) : ∀ k, v.ownBlock = some k → base ≤ k ∧ k < w.heap.size := by
  rcases h.2 with ⟨rfl, _⟩ | ⟨g, cap, cur, rfl, hb, hh, _⟩
  · intro k e; simp [Value.ownBlock] at e
  · intro k e
    simp [Value.ownBlock] at e
    subst e
    exact ⟨hb, (Array.getElem?_eq_some_iff.1 hh).1⟩
theorem VRow.new (w : World) : VRow (w.alloc (.cells #[] 42)) w.heap.size (.slice (some ⟨w.heap.size, 0, none⟩) 0 0) [] :=
  ⟨rfl, .inr ⟨w.heap.size, 0, #[], rfl, Nat.le_refl _, heap_alloc_new w _, Nat.le_refl _, Nat.zero_le _, rfl, rfl⟩⟩
theorem zero42 : (Try.prog.info? 42).map (fun i => (i.zero.map (fun z => z.cells.size), i.size, decide (i.bytes ≤ 1000))) = some (some 3, 3, true) := by kernel_rfl
/-- append of a value that was built. -/
theorem append_val {w : World} {base : Nat} {v : Value} {xs : List Tri} (h : VRow w base v xs) (x : Tri) (hn : xs.length ≤ 1000) (hbase : base ≤ w.heap.size) :
    ∃ v' w', Sem.run Try.prog (Builtin.append_ #[40, 40] 40 #[v, .slice (some ⟨w.heap.size, 0, none⟩) 1 1]) (w.alloc (.cells #[.int .i64 x.1, .int .i64 x.2.1, .string x.2.2] 42)) = .ok v' w' ∧ VRow w' base v' (xs ++ [x]) ∧ (w.alloc (.cells #[.int .i64 x.1, .int .i64 x.2.1, .string x.2.2] 42)).grownBy w' v.ownBlock := by
  have hinf := zero42
  cases hi : Try.prog.info? 42 with
  | none => rw [hi] at hinf; simp at hinf
  | some i =>
    rw [hi] at hinf
    simp at hinf
    obtain ⟨⟨z, hz, i1⟩, i2, i3⟩ := hinf
    have hb : ∀ (a b c : Nat), a ≤ 1001 → b ≤ 1000 → a * b ≤ 140737488355328 := fun a b c h1 h2 => Nat.le_trans (Nat.mul_le_mul h1 h2) (by omega)
    obtain ⟨v', w', hr, ho, hg, _, _⟩ := run_append_own_at (P := Try.prog) (w.alloc (.cells #[.int .i64 x.1, .int .i64 x.2.1, .string x.2.2] 42)) base 40 40 42 i z 3 i.bytes Try.underlying40 hi hz i2 rfl i1 (by omega) v xs.length (encV xs) (h.below ((Below.refl _ _).alloc (Nat.le_refl _) _)) ⟨w.heap.size, 0, none⟩ 1 1 (encV [x]) rfl (by
      intro j u hu
      rw [Addr.add_lit, Nat.zero_add, cell_of_row _ w.heap.size j #[.int .i64 x.1, .int .i64 x.2.1, .string x.2.2] 42 (0, 0) (heap_alloc_new w _), ← hu, show encV [x] = [Value.int .i64 x.1, .int .i64 x.2.1, .string x.2.2] from rfl]
      simp) (by
      intro u hu
      simp [encV] at hu
      rcases hu with rfl | rfl | rfl <;> rfl) (by simp only [maxLen]; omega) (hb _ _ 0 (by omega) i3) (by simp; omega)
    refine ⟨v', w', hr, ?_, hg⟩
    unfold VRow
    rw [List.length_append, encV_append]
    exact ho
end Go.Proofs.Ytmpiknaoocflcaa
