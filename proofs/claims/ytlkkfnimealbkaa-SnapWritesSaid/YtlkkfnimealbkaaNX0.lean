/- A list of byte strings of the reference's own. -/
import Derived.Test.YtlkkfnimealbkaaNW
import Derived.Lib.ConvBytes
namespace Go.Proofs.Ytlkkfnimealbkaa
open Go.RowKit
open Pag (Bx bvs bbs infoBs)
set_option linter.unusedVariables false
theorem conv_str (l : List UInt8) (W : World) : ∃ c W', Sem.run Try.prog (convert 9 35 (.string ⟨l.toArray⟩)) W = .ok (.slice (some ⟨W.heap.size, 0, none⟩) l.length c) W' ∧ Holds W' (some ⟨W.heap.size, 0, none⟩) l ∧ l.length ≤ c ∧ Below W.heap.size W W' := by
  have hs : (⟨l.toArray⟩ : ByteArray).size = l.length := by show l.toArray.size = _; simp
  refine ⟨grownCap W l.length 0 5, Lib.bytesWorld W 5 ⟨l.toArray⟩, ?_, ?_, ?_, ?_⟩
  · have := Lib.run_convert_string_bytes (P := Try.prog) W 9 35 5 ⟨l.toArray⟩ Try.underlying9 Try.underlying35 Try.underlying5
    rw [hs] at this
    exact this
  · intro i hi
    refine ⟨W.heap.size, 0, rfl, by rw [Lib.bytesWorld_size]; omega, ?_⟩
    rw [Nat.zero_add, Lib.bytesWorld_cell W 5 ⟨l.toArray⟩ i (by rw [hs]; exact hi)]
    simp [List.getD_eq_getElem?_getD, hi]
  · exact grownCap_ge W l.length 0 5
  · exact ⟨rfl, rfl, rfl, by rw [Lib.bytesWorld_size]; omega, fun k hk => Lib.bytesWorld_at_old W 5 _ k hk⟩
theorem Holds.of_block {w w' : World} {A : Option Addr} {l : List UInt8} (h : Holds w A l) (hs : w.heap.size ≤ w'.heap.size) (hb : l ≠ [] → ∀ a : Addr, A = some a → w'.heap[a.block]? = w.heap[a.block]?) : Holds w' A l := fun i hi => by
  obtain ⟨g, o, e, hlt, hc⟩ := h i hi
  refine ⟨g, o, e, Nat.lt_of_lt_of_le hlt hs, ?_⟩
  have := hb (fun e => by rw [e] at hi; simp at hi) _ e
  rw [← hc]
  simp only [World.cell?, this]
theorem rows_below {w w' : World} {base : Nat} {v : Value} {n : Nat} {xs : List Value} (h : w.ownsRow base 35 1 v n xs) (hb : Below w.heap.size w w') : w'.ownsRow base 35 1 v n xs := ownsRow_of_heap h fun k hk => by
  obtain ⟨cur, hc⟩ := row_kind h hk
  exact hb.block k (Array.getElem?_eq_some_iff.1 hc).1
/-- a list of byte strings, none of whose blocks is another's. -/
structure LRo (w : World) (base : Nat) (v : Value) (L : List (List UInt8)) : Prop where
  rows : ∃ ys : List Bx, bbs ys = L ∧ w.ownsRow base 35 1 v ys.length (bvs ys) ∧ ∀ y ∈ ys, Holds w y.A y.b ∧ (y.b = [] ∨ ∀ a : Addr, y.A = some a → v.ownBlock ≠ some a.block)
theorem LRo.new (w : World) : LRo (w.alloc (.cells #[] 35)) w.heap.size (.slice (some ⟨w.heap.size, 0, none⟩) 0 0) [] :=
  ⟨[], rfl, ⟨rfl, .inr ⟨w.heap.size, 0, #[], rfl, Nat.le_refl _, heap_alloc_new w _, Nat.le_refl _, Nat.zero_le _, rfl, rfl⟩⟩, fun y hy => absurd hy (by simp)⟩
theorem LRo.below {w w' : World} {base : Nat} {v : Value} {L : List (List UInt8)} (h : LRo w base v L) (hb : Below w.heap.size w w') : LRo w' base v L := by
  obtain ⟨ys, e, ho, hy⟩ := h.rows
  exact ⟨ys, e, rows_below ho hb, fun y hy' => ⟨(hy y hy').1.below hb, (hy y hy').2⟩⟩
theorem LRo.block {w : World} {base : Nat} {v : Value} {L : List (List UInt8)} (h : LRo w base v L) : ∀ k, v.ownBlock = some k → base ≤ k ∧ k < w.heap.size := by
  obtain ⟨ys, -, ho, -⟩ := h.rows
  intro k e
  obtain ⟨cur, hc⟩ := row_kind ho e
  exact ⟨own_ge ho e, (Array.getElem?_eq_some_iff.1 hc).1⟩
theorem LRo.lists {w : World} {base : Nat} {v : Value} {L : List (List UInt8)} (h : LRo w base v L) : ∃ A c, v = .slice A L.length c ∧ ∀ i (hi : i < L.length), ∃ g o B d, A = some ⟨g, o, none⟩ ∧ g < w.heap.size ∧ w.cell? ⟨g, o + i, none⟩ = some (.slice B L[i].length d) ∧ Holds w B L[i] := by
  obtain ⟨ys, rfl, ho, he⟩ := h.rows
  obtain ⟨h1, h2⟩ := ho
  have hl : (bbs ys).length = ys.length := Pag.bbs_len ys
  rcases h2 with ⟨rfl, h0⟩ | ⟨g, cap, cur, rfl, hg, hh, hn, hm, hs, ht⟩
  · exact ⟨none, 0, by rw [hl, h0], fun i hi => absurd hi (by omega)⟩
  · refine ⟨_, cap, by rw [hl], fun i hi => ?_⟩
    have hi' : i < ys.length := by omega
    have hbi : (bbs ys)[i] = ys[i].b := Pag.bbs_at _ _ _
    refine ⟨g, 0, ys[i].A, ys[i].c, rfl, (Array.getElem?_eq_some_iff.1 hh).1, ?_, ?_⟩
    · have hu : (bvs ys)[i]? = some (ys[i]).v := by simp [bvs, hi']
      rw [Nat.zero_add, cell_of_row w g i cur 35 (0, 0) hh, hbi, ← hu, ← ht, List.getElem?_take, if_pos (by omega)]
      simp
    · rw [hbi]; exact (he _ (List.getElem_mem hi')).1
theorem LRo.push {w : World} {base : Nat} {v : Value} {L : List (List UInt8)} (h : LRo w base v L) (hbase : base ≤ w.heap.size) (hn : L.length ≤ 1000000) (A : Option Addr) (c : Nat) (b : List UInt8) (hA : Holds w A b) (hd : b = [] ∨ ∀ a : Addr, A = some a → v.ownBlock ≠ some a.block) :
    ∃ v' w', Sem.run Try.prog (Builtin.append_ #[22, 22] 22 #[v, .slice (some ⟨w.heap.size, 0, none⟩) 1 1]) (w.alloc (.cells #[.slice A b.length c] 35)) = .ok v' w' ∧ LRo w' base v' (L ++ [b]) ∧ (w.alloc (.cells #[.slice A b.length c] 35)).grownBy w' v.ownBlock := by
  obtain ⟨i, hi, hz0, hz1, hz2⟩ := info_parts infoBs
  obtain ⟨ys, rfl, ho, hy⟩ := h.rows
  have hl : (bbs ys).length = ys.length := Pag.bbs_len ys
  have balW : Below w.heap.size w (w.alloc (.cells #[.slice A b.length c] 35)) := (Below.refl _ _).alloc (Nat.le_refl _) _
  have hcell : (w.alloc (.cells #[.slice A b.length c] 35)).cell? ⟨w.heap.size, 0, none⟩ = some (.slice A b.length c) := cell_of_row _ w.heap.size 0 #[.slice A b.length c] 35 (0, 0) (heap_alloc_new w _)
  have hszW : (w.alloc (.cells #[.slice A b.length c] 35)).heap.size = w.heap.size + 1 := by simp
  have hoW := rows_below ho balW
  have hblk := h.block
  generalize w.alloc (.cells #[.slice A b.length c] 35) = W at *
  obtain ⟨v', w4, hr, ho4, hg, -, hown⟩ := run_append_own_at (P := Try.prog) W base 22 22 35 i (.slice none 0 0) 1 24 Try.underlying22 hi hz0 hz1 hz2 rfl (by omega) v ys.length (bvs ys) hoW ⟨w.heap.size, 0, none⟩ 1 1 [.slice A b.length c] rfl (by
    intro j u hu
    have hj : j = 0 := by
      have := (List.getElem?_eq_some_iff.1 hu).1
      simp at this
      exact this
    subst hj
    simp at hu
    subst hu
    exact hcell) (by
    intro u hu
    simp at hu
    subst hu
    rfl) (by simp only [maxLen]; omega) (by omega) (by omega)
  have key : ∀ (B : Option Addr) (x : List UInt8), Holds w B x → (x = [] ∨ ∀ a : Addr, B = some a → v.ownBlock ≠ some a.block) → Holds w4 B x ∧ (x = [] ∨ ∀ a : Addr, B = some a → v'.ownBlock ≠ some a.block) := fun B x hB hor => by
    by_cases hx : x = []
    · subst hx; exact ⟨Holds.nil _ _, .inl rfl⟩
    have hlt : ∀ a : Addr, B = some a → a.block < w.heap.size := fun a e => by
      obtain ⟨g, o, e', hlt, -⟩ := hB 0 (List.length_pos_iff.2 hx)
      rw [e] at e'
      cases e'
      exact hlt
    have hne := hor.resolve_left hx
    refine ⟨hB.of_block (by have := hg.size; omega) fun _ a e => ?_, .inr fun a e hh => ?_⟩
    · exact (hg.block a.block (by have := hlt a e; omega) (fun e2 => hne a e e2.symm)).trans (balW.block _ (hlt a e))
    · rcases hown with h1 | h1
      · exact hne a e (h1.symm.trans hh)
      · rw [h1] at hh
        have := hlt a e
        simp only [Option.some.injEq] at hh
        omega
  refine ⟨v', w4, hr, ⟨ys ++ [⟨A, c, b⟩], by simp [bbs], ?_, fun y hy' => ?_⟩, hg⟩
  · rw [List.length_append, show bvs (ys ++ [⟨A, c, b⟩]) = bvs ys ++ [.slice A b.length c] by simp [bvs]]
    exact ho4
  · rcases List.mem_append.1 hy' with h1 | h1
    · exact key _ _ (hy y h1).1 (hy y h1).2
    · rw [List.mem_singleton.1 h1]
      exact key A b hA hd
end Go.Proofs.Ytlkkfnimealbkaa
