/- Plain: records cut into parts that fill pages. -/
import Derived.Test.YtlkkfnimealbkaaNA
namespace Go.Proofs.Ytlkkfnimealbkaa
set_option linter.unusedVariables false
/-- a part that is told: its page's number, its bytes, whether it is a record's last one. -/
structure Pb where
  n : Nat
  b : List UInt8
  last : Bool
def Pb.piece (x : Pb) : List UInt8 := (if x.last then 0 else 1) :: x.b
/-- the page, and what it has left, where the next part of a rest of so many bytes goes. -/
def spot (whole m : Nat) (s : Nat × Nat) : Nat × Nat := if 5 + min m 1 ≤ s.2 then s else (s.1 + 1, whole)
/-- the page, and what it has left, behind a part. -/
def st1 (whole : Nat) (s : Nat × Nat) (x : Pb) : Nat × Nat := (x.n, (if x.n = s.1 then s.2 else whole) - 5 - x.b.length)
def stA (whole : Nat) (s : Nat × Nat) (l : List Pb) : Nat × Nat := l.foldl (st1 whole) s
theorem stA_append (whole : Nat) (s : Nat × Nat) (a b : List Pb) : stA whole s (a ++ b) = stA whole (stA whole s a) b := List.foldl_append ..
/-- the parts of a record. -/
def cutF (whole : Nat) : Nat → Nat × Nat → List UInt8 → List Pb
  | 0, _, _ => []
  | f + 1, s, r => if r.length ≤ (spot whole r.length s).2 - 5 then [⟨(spot whole r.length s).1, r, true⟩]
      else ⟨(spot whole r.length s).1, r.take ((spot whole r.length s).2 - 5), false⟩ :: cutF whole f ((spot whole r.length s).1, 0) (r.drop ((spot whole r.length s).2 - 5))
/-- the parts of records. -/
def cutA (whole : Nat) : Nat × Nat → List (List UInt8) → List Pb
  | _, [] => []
  | s, r :: l => cutF whole (r.length + 1) s r ++ cutA whole (stA whole s (cutF whole (r.length + 1) s r)) l
theorem spot_room {whole m : Nat} {s : Nat × Nat} (hw : 6 ≤ whole) : 5 + min m 1 ≤ (spot whole m s).2 := by
  unfold spot
  split
  · assumption
  · show 5 + min m 1 ≤ whole
    omega
theorem spot_le {whole m : Nat} {s : Nat × Nat} (hs : s.2 ≤ whole) : (spot whole m s).2 ≤ whole := by
  unfold spot
  split
  · exact hs
  · exact Nat.le_refl _
/-- a part may stand there behind what was told. -/
def Nx (whole : Nat) (s : Nat × Nat) (x : Pb) : Prop := (x.n = s.1 ∧ 5 + x.b.length ≤ s.2) ∨ (x.n = s.1 + 1 ∧ 5 + x.b.length ≤ whole ∧ s.2 < whole)
def OkT (whole : Nat) : Nat × Nat → List Pb → Prop
  | _, [] => True
  | s, x :: r => Nx whole s x ∧ OkT whole (st1 whole s x) r
theorem okT_append (whole : Nat) : ∀ (a b : List Pb) (s : Nat × Nat), OkT whole s (a ++ b) ↔ OkT whole s a ∧ OkT whole (stA whole s a) b
  | [], b, s => by simp [OkT, stA]
  | x :: a, b, s => by
    simp only [List.cons_append, OkT, okT_append whole a b (st1 whole s x), and_assoc]
    rfl
theorem st1_le {whole : Nat} {s : Nat × Nat} {x : Pb} (hw : 6 ≤ whole) (hs : s.2 ≤ whole) : (st1 whole s x).2 < whole := by
  unfold st1
  show (if x.n = s.1 then s.2 else whole) - 5 - x.b.length < whole
  split <;> omega
theorem spot_nx {whole : Nat} {s : Nat × Nat} (hw : 6 ≤ whole) (hs : s.2 ≤ whole) {m : Nat} (h0 : s.2 < whole ∨ 5 + min m 1 ≤ s.2) {b : List UInt8} {t : Bool} (hb : b.length ≤ (spot whole m s).2 - 5) :
    Nx whole s ⟨(spot whole m s).1, b, t⟩ ∧ st1 whole s ⟨(spot whole m s).1, b, t⟩ = ((spot whole m s).1, (spot whole m s).2 - 5 - b.length) := by
  have h5 := spot_room (m := m) (s := s) hw
  unfold Nx st1
  unfold spot at *
  split at hb
  · rename_i h
    rw [if_pos h] at h5 ⊢
    exact ⟨.inl ⟨rfl, by simp only; omega⟩, by simp⟩
  · rename_i h
    rw [if_neg h] at h5 ⊢
    refine ⟨.inr ⟨rfl, ?_, ?_⟩, ?_⟩
    · simp only at hb h5 ⊢; omega
    · rcases h0 with h0 | h0
      · exact h0
      · exact absurd h0 h
    · simp
theorem cutF_ok {whole : Nat} (hw : 6 ≤ whole) : ∀ (f : Nat) (s : Nat × Nat) (r : List UInt8), s.2 ≤ whole → OkT whole s (cutF whole f s r) ∧ (stA whole s (cutF whole f s r)).2 ≤ whole
  | 0, s, r, hs => ⟨trivial, hs⟩
  | f + 1, s, r, hs => by
    have h0 : s.2 < whole ∨ 5 + min r.length 1 ≤ s.2 := by omega
    unfold cutF
    split
    · rename_i h
      obtain ⟨h1, h2⟩ := spot_nx hw hs h0 (t := true) h
      refine ⟨⟨h1, trivial⟩, ?_⟩
      have := spot_le (m := r.length) hs
      simp only [stA, List.foldl_cons, List.foldl_nil, h2]
      omega
    · rename_i h
      have ht : (r.take ((spot whole r.length s).2 - 5)).length = (spot whole r.length s).2 - 5 := by rw [List.length_take]; omega
      obtain ⟨h1, h2⟩ := spot_nx hw hs h0 (b := r.take ((spot whole r.length s).2 - 5)) (t := false) (Nat.le_of_eq ht)
      rw [ht, Nat.sub_self] at h2
      obtain ⟨h3, h4⟩ := cutF_ok hw f ((spot whole r.length s).1, 0) (r.drop ((spot whole r.length s).2 - 5)) (Nat.zero_le _)
      refine ⟨⟨h1, ?_⟩, ?_⟩
      · rw [h2]; exact h3
      · simp only [stA, List.foldl_cons, h2]
        exact h4
theorem cutA_ok {whole : Nat} (hw : 6 ≤ whole) : ∀ (l : List (List UInt8)) (s : Nat × Nat), s.2 ≤ whole → OkT whole s (cutA whole s l)
  | [], s, hs => trivial
  | r :: l, s, hs => by
    obtain ⟨h1, h2⟩ := cutF_ok hw (r.length + 1) s r hs
    exact (okT_append whole _ _ s).2 ⟨h1, cutA_ok hw l _ h2⟩
/-- whatever is told next may stand there. -/
theorem ok_next {whole : Nat} {T pre : List Pb} {x : Pb} {s : Nat × Nat} (h : OkT whole s T) (hp : pre ++ [x] <+: T) : Nx whole (stA whole s pre) x := by
  obtain ⟨r, rfl⟩ := hp
  rw [List.append_assoc, okT_append] at h
  exact h.2.1
/-- a part is put to its page. -/
def putP (ps : List (List (List UInt8))) (x : Pb) : List (List (List UInt8)) := if x.n = ps.length then ps ++ [[x.piece]] else ps.set x.n (ps.getD x.n [] ++ [x.piece])
def pagesOf (l : List Pb) : List (List (List UInt8)) := l.foldl putP []
theorem pagesOf_snoc (l : List Pb) (x : Pb) : pagesOf (l ++ [x]) = putP (pagesOf l) x := by simp [pagesOf]
/-- what the pages hold, by where the telling stands. -/
structure PgsOk (whole : Nat) (pre : List Pb) : Prop where
  zero : pre = [] → pagesOf pre = [] ∧ stA whole (0, whole) pre = (0, whole)
  some : pre ≠ [] → (pagesOf pre).length = (stA whole (0, whole) pre).1 + 1 ∧ (stA whole (0, whole) pre).2 < whole ∧
    4 * ((pagesOf pre).getD (stA whole (0, whole) pre).1 []).length + Pag.used ((pagesOf pre).getD (stA whole (0, whole) pre).1 []) + (stA whole (0, whole) pre).2 = whole
  five : ∀ L ∈ pagesOf pre, 5 * L.length ≤ 4 * L.length + Pag.used L ∧ 4 * L.length + Pag.used L ≤ whole ∧ L ≠ [] ∧ ∀ b ∈ L, b ≠ []
theorem piece_length (x : Pb) : x.piece.length = x.b.length + 1 := by simp [Pb.piece]
theorem pgs_step {whole : Nat} (hw : 6 ≤ whole) {pre : List Pb} {x : Pb} (h : PgsOk whole pre) (hx : Nx whole (stA whole (0, whole) pre) x) :
    PgsOk whole (pre ++ [x]) ∧ ((x.n = (pagesOf pre).length ∧ pagesOf (pre ++ [x]) = pagesOf pre ++ [[x.piece]] ∧ 5 + x.b.length ≤ whole) ∨
      (pre ≠ [] ∧ x.n + 1 = (pagesOf pre).length ∧ pagesOf (pre ++ [x]) = (pagesOf pre).set x.n ((pagesOf pre).getD x.n [] ++ [x.piece]) ∧ 4 * ((pagesOf pre).getD x.n []).length + Pag.used ((pagesOf pre).getD x.n []) + (5 + x.b.length) ≤ whole)) := by
  have hst : stA whole (0, whole) (pre ++ [x]) = st1 whole (stA whole (0, whole) pre) x := by rw [stA_append]; rfl
  have hpc := piece_length x
  have hp0 : x.piece ≠ [] := by simp [Pb.piece]
  by_cases h0 : pre = []
  · obtain ⟨e1, e2⟩ := h.zero h0
    rw [e2] at hx hst
    have hn : x.n = 0 ∧ 5 + x.b.length ≤ whole := by
      rcases hx with ⟨a, b⟩ | ⟨-, -, b⟩
      · exact ⟨a, b⟩
      · exact absurd b (by simp)
    have e3 : pagesOf (pre ++ [x]) = [[x.piece]] := by rw [pagesOf_snoc, e1]; simp [putP, hn.1]
    have e4 : st1 whole (0, whole) x = (0, whole - 5 - x.b.length) := by simp [st1, hn.1]
    rw [e4] at hst
    refine ⟨⟨fun e => by simp at e, fun _ => ?_, fun L hL => ?_⟩, .inl ⟨by rw [e1]; exact hn.1, by rw [e3, e1]; rfl, hn.2⟩⟩
    · rw [e3, hst]
      refine ⟨rfl, by simp only; omega, ?_⟩
      simp only [List.getD_cons_zero, List.length_singleton, Pag.used_one, hpc]
      omega
    · rw [e3] at hL
      have : L = [x.piece] := by simpa using hL
      subst this
      simp only [List.length_singleton, Pag.used_one, hpc]
      refine ⟨by omega, by omega, by simp, fun b hb => ?_⟩
      have : b = x.piece := by simpa using hb
      rw [this]; exact hp0
  · obtain ⟨e1, e2, e3⟩ := h.some h0
    generalize stA whole (0, whole) pre = s at *
    rcases hx with ⟨a, b⟩ | ⟨a, b, -⟩
    · have hne : ¬ x.n = (pagesOf pre).length := by omega
      have e4 : pagesOf (pre ++ [x]) = (pagesOf pre).set x.n ((pagesOf pre).getD x.n [] ++ [x.piece]) := by rw [pagesOf_snoc]; simp [putP, hne]
      have e5 : st1 whole s x = (s.1, s.2 - 5 - x.b.length) := by simp [st1, a]
      have hlt : x.n < (pagesOf pre).length := by omega
      have hget : ((pagesOf pre).set x.n ((pagesOf pre).getD x.n [] ++ [x.piece])).getD s.1 [] = (pagesOf pre).getD x.n [] ++ [x.piece] := by
        rw [← a]
        simp [List.getD, hlt]
      have hmem : (pagesOf pre).getD x.n [] ∈ pagesOf pre := by
        simp only [List.getD, List.getElem?_eq_getElem hlt, Option.getD_some]
        exact List.getElem_mem hlt
      rw [← a] at e3
      rw [e5] at hst
      refine ⟨⟨fun e => by simp at e, fun _ => ?_, fun L hL => ?_⟩, .inr ⟨h0, by omega, e4, by omega⟩⟩
      · rw [e4, hst]
        refine ⟨by simpa using e1, by simp only; omega, ?_⟩
        simp only
        rw [hget, List.length_append, Pag.used_append, Pag.used_one, List.length_singleton, hpc]
        omega
      · rw [e4] at hL
        rcases List.mem_or_eq_of_mem_set hL with hL | rfl
        · exact h.five L hL
        · obtain ⟨f1, f2, f3, f4⟩ := h.five _ hmem
          rw [List.length_append, Pag.used_append, Pag.used_one, List.length_singleton, hpc]
          refine ⟨by omega, by omega, by simp, fun b hb => ?_⟩
          rcases List.mem_append.1 hb with hb | hb
          · exact f4 b hb
          · have : b = x.piece := by simpa using hb
            rw [this]; exact hp0
    · have hn : x.n = (pagesOf pre).length := by omega
      have e4 : pagesOf (pre ++ [x]) = pagesOf pre ++ [[x.piece]] := by rw [pagesOf_snoc]; simp [putP, hn]
      have e5 : st1 whole s x = (s.1 + 1, whole - 5 - x.b.length) := by simp [st1, a]
      rw [e5] at hst
      refine ⟨⟨fun e => by simp at e, fun _ => ?_, fun L hL => ?_⟩, .inl ⟨hn, e4, b⟩⟩
      · rw [e4, hst]
        refine ⟨by simp [e1], by simp only; omega, ?_⟩
        simp only
        rw [show (pagesOf pre ++ [[x.piece]]).getD (s.1 + 1) [] = [x.piece] by simp [List.getD, e1]]
        rw [Pag.used_one, List.length_singleton, hpc]
        omega
      · rw [e4] at hL
        rcases List.mem_append.1 hL with hL | hL
        · exact h.five L hL
        · have : L = [x.piece] := by simpa using hL
          subst this
          simp only [List.length_singleton, Pag.used_one, hpc]
          refine ⟨by omega, by omega, by simp, fun b hb => ?_⟩
          have : b = x.piece := by simpa using hb
          rw [this]; exact hp0
theorem pgs_nil (whole : Nat) : PgsOk whole [] := ⟨fun _ => ⟨rfl, rfl⟩, fun h => absurd rfl h, fun L hL => absurd hL (by simp [pagesOf])⟩
theorem snoc_ind {α : Type} {P : List α → Prop} (h0 : P []) (h1 : ∀ l x, P l → P (l ++ [x])) (l : List α) : P l := by
  have : ∀ m : List α, P m.reverse := fun m => by
    induction m with
    | nil => exact h0
    | cons x m ih => rw [List.reverse_cons]; exact h1 _ _ ih
  have := this l.reverse
  rwa [List.reverse_reverse] at this
theorem pgs_pre {whole : Nat} (hw : 6 ≤ whole) {T : List Pb} (h : OkT whole (0, whole) T) (pre : List Pb) : pre <+: T → PgsOk whole pre :=
  snoc_ind (P := fun pre => pre <+: T → PgsOk whole pre) (fun _ => pgs_nil whole) (fun pre x ih hp => (pgs_step hw (ih ((List.prefix_append _ _).trans hp)) (ok_next h hp)).1) pre
end Go.Proofs.Ytlkkfnimealbkaa
