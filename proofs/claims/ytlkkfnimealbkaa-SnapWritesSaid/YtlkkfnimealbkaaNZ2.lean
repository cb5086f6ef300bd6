/- A piece is put to the last page. -/
import Derived.Test.YtlkkfnimealbkaaNZ1
namespace Go.Proofs.Ytlkkfnimealbkaa
open Go.RowKit
open Pag (strL strL_len ownsRow_set)
set_option linter.unusedVariables false
theorem lastP_at {P : List (List (List UInt8))} (h : P.length - 1 < P.length) : lastP P = P[P.length - 1] := by
  unfold lastP
  rw [List.getD_eq_getElem?_getD, List.getElem?_eq_getElem h]
  rfl
theorem SS.add {w : World} {base : Nat} {v : Value} {P : List (List (List UInt8))} (h : SS w base v P) (hbase : base ≤ w.heap.size) (h0 : P ≠ []) (hlen : (lastP P).length ≤ 1000) (s : List UInt8) :
    ∃ g c A' c', v = .slice (some ⟨g, 0, none⟩) P.length c ∧ w.cell? ⟨g, P.length - 1, none⟩ = some (.slice A' (lastP P).length c') ∧ base ≤ g ∧ g < w.heap.size ∧ SRow w base (.slice A' (lastP P).length c') (strL (lastP P)) ∧
      ∃ g2 c2 w2, Sem.run Try.prog (Builtin.append_ #[39, 39] 39 #[.slice A' (lastP P).length c', .slice (some ⟨w.heap.size, 0, none⟩) 1 1]) (w.alloc (.cells #[.string ⟨s.toArray⟩] 9)) = .ok (.slice (some ⟨g2, 0, none⟩) ((lastP P).length + 1) c2) w2 ∧
        w2.cell? ⟨g, P.length - 1, none⟩ = some (.slice A' (lastP P).length c') ∧ w2.frozen? ⟨g, P.length - 1, none⟩ = false ∧
        SS (w2.setCell ⟨g, P.length - 1, none⟩ (.slice (some ⟨g2, 0, none⟩) ((lastP P).length + 1) c2)) base v (P.set (P.length - 1) (lastP P ++ [s])) ∧
        ∀ w0 : World, base = w0.heap.size → Below w0.heap.size w0 w → Below w0.heap.size w0 (w2.setCell ⟨g, P.length - 1, none⟩ (.slice (some ⟨g2, 0, none⟩) ((lastP P).length + 1) c2)) := by
  have hpos : 0 < P.length := List.length_pos_iff.2 h0
  obtain ⟨l, hl⟩ : ∃ l, P.length - 1 = l := ⟨_, rfl⟩
  have hlP : l < P.length := by omega
  have hL : lastP P = P[l] := by
    rw [lastP_at (by omega)]
    simp only [hl]
  rw [hl]
  obtain ⟨ys, hyl, ho, hy, hd⟩ := h.rows
  have hly : l < ys.length := by omega
  have hr := hy l hly hlP
  rw [← hL] at hr
  obtain ⟨A', c', eY, -, -⟩ := hr.asStrs
  rw [strL_len] at eY
  rw [eY] at hr
  obtain ⟨g2, c2, w2, hap, hr2, hg, hor⟩ := append_str2 hr ⟨s.toArray⟩ (by rw [strL_len]; omega) hbase
  rw [strL_len] at hap hr2
  have hoo := ho
  obtain ⟨h1, h2⟩ := hoo
  rcases h2 with ⟨-, hz⟩ | ⟨g, cap, cur, hv, hg0, hh, hn, hm, hs, ht⟩
  · omega
  have hglt := (Array.getElem?_eq_some_iff.1 hh).1
  have hvo : v.ownBlock = some g := by rw [hv]; rfl
  have bW : Below w.heap.size w (w.alloc (.cells #[.string ⟨s.toArray⟩] 9)) := (Below.refl _ _).alloc (Nat.le_refl _) _
  have hWsz : (w.alloc (.cells #[.string ⟨s.toArray⟩] 9)).heap.size = w.heap.size + 1 := by simp
  have hcell : w.cell? ⟨g, l, none⟩ = some (.slice A' (lastP P).length c') := by
    have hu : ys[l]? = some ys[l] := List.getElem?_eq_getElem hly
    rw [cell_of_row w g l cur 39 (0, 0) hh, ← eY, ← hu, ← ht, List.getElem?_take, if_pos (by omega)]
    simp
  have hlast : ∀ k, (Value.slice A' (lastP P).length c').ownBlock = some k → k < w.heap.size ∧ k ≠ g := fun k hk => by
    obtain ⟨cur', hc'⟩ := row_kind hr hk
    refine ⟨(Array.getElem?_eq_some_iff.1 hc').1, fun e => ?_⟩
    rw [e, hh] at hc'
    simp at hc'
  have kG : w2.heap[g]? = w.heap[g]? := (hg.block g (by omega) (fun e => (hlast g e.symm).2 rfl)).trans (bW.block g hglt)
  have hc2 : w2.cell? ⟨g, l, none⟩ = some (.slice A' (lastP P).length c') := by
    rw [← hcell]
    simp only [World.cell?, kG]
  have hf2 : w2.frozen? ⟨g, l, none⟩ = false := by simp [World.frozen?, kG, hh]
  have o2 : w2.ownsRow base 39 1 v ys.length ys := ownsRow_of_heap ho fun k hk => by
    rw [hvo] at hk
    cases hk
    exact kG
  have oS := ownsRow_set o2 hvo l (.slice (some ⟨g2, 0, none⟩) ((lastP P).length + 1) c2)
  have far : ∀ {u : Value} {ss : List ByteArray}, SRow w2 base u ss → SRow (w2.setCell ⟨g, l, none⟩ (.slice (some ⟨g2, 0, none⟩) ((lastP P).length + 1) c2)) base u ss := fun {u ss} hu => hu.of_heap fun k hk => by
    obtain ⟨cur', hc'⟩ := row_kind hu hk
    refine heap_set_other _ _ _ _ _ fun e => ?_
    rw [e, kG, hh] at hc'
    simp at hc'
  have hset : (ys.set l (.slice (some ⟨g2, 0, none⟩) ((lastP P).length + 1) c2)).length = ys.length := List.length_set
  have hold : ∀ j (hj : j < ys.length) k, ys[j].ownBlock = some k → k < w.heap.size := fun j hj k e => ((hy j hj (by omega)).block k e).2
  have hgo : (ys[l]).ownBlock = some g2 ∨ g2 = w.heap.size + 1 := by rw [eY]; exact hor
  refine ⟨g, cap, A', c', by rw [hv, hyl], hcell, hg0, hglt, hr, g2, c2, w2, hap, hc2, hf2, ⟨ys.set l (.slice (some ⟨g2, 0, none⟩) ((lastP P).length + 1) c2), by rw [hset, List.length_set, hyl], by rw [hset]; exact oS, fun j j1 j2 => ?_, fun a b a1 b1 k hab e => ?_⟩, fun w0 e0 hb0 => ?_⟩
  · rw [hset] at j1
    by_cases hjl : j = l
    · subst hjl
      rw [List.getElem_set_self, List.getElem_set_self, show strL (lastP P ++ [s]) = strL (lastP P) ++ [⟨s.toArray⟩] by simp [strL]]
      exact far hr2
    · rw [List.getElem_set_ne (fun e => hjl e.symm), List.getElem_set_ne (fun e => hjl e.symm)]
      have hj := hy j j1 (by omega)
      refine far (hj.of_heap fun k hk => ?_)
      have hk2 := (hj.block k hk).2
      refine (hg.block k (by omega) fun e => ?_).trans (bW.block k hk2)
      exact hd j l j1 hly k hjl hk (by rw [eY]; exact e.symm)
  · have a2 : a < ys.length := by rw [hset] at a1; exact a1
    have b2 : b < ys.length := by rw [hset] at b1; exact b1
    by_cases hal : a = l
    · subst hal
      rw [List.getElem_set_self] at e
      rw [List.getElem_set_ne hab]
      simp [Value.ownBlock] at e
      subst e
      intro e2
      rcases hgo with h3 | h3
      · exact hd a b hly b2 g2 hab h3 e2
      · have := hold b b2 _ e2
        omega
    · rw [List.getElem_set_ne (fun e => hal e.symm)] at e
      by_cases hbl : b = l
      · subst hbl
        rw [List.getElem_set_self]
        simp [Value.ownBlock]
        intro e2
        subst e2
        rcases hgo with h3 | h3
        · exact hd a b a2 hly g2 hal e h3
        · have := hold a a2 _ e
          omega
      · rw [List.getElem_set_ne (fun e => hbl e.symm)]
        exact hd a b a2 b2 k hab e
  · have hb1 := below_grown (below_next hb0 bW) hg (fun k hk => by rw [← e0]; exact own_ge hr hk)
    exact hb1.setCell (by rw [← e0]; exact hg0) _
/-- whatever piece it is. -/
theorem SS.adds {w : World} {base : Nat} {v : Value} {P : List (List (List UInt8))} (h : SS w base v P) (hbase : base ≤ w.heap.size) (h0 : P ≠ []) (hlen : (lastP P).length ≤ 1000) :
    ∃ g c A' c', v = .slice (some ⟨g, 0, none⟩) P.length c ∧ w.cell? ⟨g, P.length - 1, none⟩ = some (.slice A' (lastP P).length c') ∧ base ≤ g ∧ g < w.heap.size ∧ SRow w base (.slice A' (lastP P).length c') (strL (lastP P)) ∧
      ∀ s : List UInt8, ∃ g2 c2 w2, Sem.run Try.prog (Builtin.append_ #[39, 39] 39 #[.slice A' (lastP P).length c', .slice (some ⟨w.heap.size, 0, none⟩) 1 1]) (w.alloc (.cells #[.string ⟨s.toArray⟩] 9)) = .ok (.slice (some ⟨g2, 0, none⟩) ((lastP P).length + 1) c2) w2 ∧
        w2.cell? ⟨g, P.length - 1, none⟩ = some (.slice A' (lastP P).length c') ∧ w2.frozen? ⟨g, P.length - 1, none⟩ = false ∧
        SS (w2.setCell ⟨g, P.length - 1, none⟩ (.slice (some ⟨g2, 0, none⟩) ((lastP P).length + 1) c2)) base v (P.set (P.length - 1) (lastP P ++ [s])) ∧
        ∀ w0 : World, base = w0.heap.size → Below w0.heap.size w0 w → Below w0.heap.size w0 (w2.setCell ⟨g, P.length - 1, none⟩ (.slice (some ⟨g2, 0, none⟩) ((lastP P).length + 1) c2)) := by
  obtain ⟨g, c, A', c', e, k1, k2, k3, k4, -⟩ := h.add hbase h0 hlen []
  refine ⟨g, c, A', c', e, k1, k2, k3, k4, fun s => ?_⟩
  obtain ⟨g', c'', A2, c2, e', j1, j2, j3, j4, j5⟩ := h.add hbase h0 hlen s
  rw [e] at e'
  cases e'
  rw [k1] at j1
  cases j1
  exact j5
/-- in whatever world later on. -/
theorem SS.addsW {w : World} {base : Nat} {v : Value} {P : List (List (List UInt8))} (h : SS w base v P) (hbase : base ≤ w.heap.size) (h0 : P ≠ []) (hlen : (lastP P).length ≤ 1000) :
    ∃ g c A' c', v = .slice (some ⟨g, 0, none⟩) P.length c ∧ w.cell? ⟨g, P.length - 1, none⟩ = some (.slice A' (lastP P).length c') ∧ base ≤ g ∧ g < w.heap.size ∧ SRow w base (.slice A' (lastP P).length c') (strL (lastP P)) ∧
      ∀ W : World, Below w.heap.size w W → ∀ s : List UInt8, ∃ g2 c2 w2, Sem.run Try.prog (Builtin.append_ #[39, 39] 39 #[.slice A' (lastP P).length c', .slice (some ⟨W.heap.size, 0, none⟩) 1 1]) (W.alloc (.cells #[.string ⟨s.toArray⟩] 9)) = .ok (.slice (some ⟨g2, 0, none⟩) ((lastP P).length + 1) c2) w2 ∧
        w2.cell? ⟨g, P.length - 1, none⟩ = some (.slice A' (lastP P).length c') ∧ w2.frozen? ⟨g, P.length - 1, none⟩ = false ∧
        SS (w2.setCell ⟨g, P.length - 1, none⟩ (.slice (some ⟨g2, 0, none⟩) ((lastP P).length + 1) c2)) base v (P.set (P.length - 1) (lastP P ++ [s])) ∧
        ∀ w0 : World, base = w0.heap.size → Below w0.heap.size w0 W → Below w0.heap.size w0 (w2.setCell ⟨g, P.length - 1, none⟩ (.slice (some ⟨g2, 0, none⟩) ((lastP P).length + 1) c2)) := by
  obtain ⟨g, c, A', c', e, k1, k2, k3, k4, -⟩ := h.adds hbase h0 hlen
  refine ⟨g, c, A', c', e, k1, k2, k3, k4, fun W hW s => ?_⟩
  obtain ⟨g', c'', A2, c2, e', j1, j2, j3, j4, j5⟩ := (h.below hW).adds (Nat.le_trans hbase hW.size) h0 hlen
  rw [e] at e'
  cases e'
  rw [(hW.cell (p := ⟨g, P.length - 1, none⟩) k3).trans k1] at j1
  cases j1
  exact j5 s
end Go.Proofs.Ytlkkfnimealbkaa
