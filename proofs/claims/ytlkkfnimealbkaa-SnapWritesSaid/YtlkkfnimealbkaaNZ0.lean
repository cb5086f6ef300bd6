/- Plain: the reference's way of filling pages. -/
import Derived.Test.YtlkkfnimealbkaaNT0
namespace Go.Proofs.Ytlkkfnimealbkaa
open Go.RowKit
open Pag (used)
set_option linter.unusedVariables false
/-- where the telling of parts stands behind so many. -/
def stP (size : Nat) (pre : List Pb) : Nat × Nat := stA (size - 1) (0, size - 1) pre
/-- what the last page has left. -/
def lastP (P : List (List (List UInt8))) : List (List UInt8) := P.getD (P.length - 1) []
def usedP (L : List (List UInt8)) : Nat := 4 * L.length + used L
/-- between two records. -/
structure RfO (size : Nat) (rs : List (List UInt8)) (i : Nat) (pre : List Pb) (P : List (List (List UInt8))) : Prop where
  left : partsL size rs = pre ++ cutA (size - 1) (stP size pre) (rs.drop i)
  ok : PgsOk (size - 1) pre
  pages : P = pagesOf pre
/-- within a record, whose rest is b; fr: there is no new page yet. -/
structure RfP (size : Nat) (rs : List (List UInt8)) (i f : Nat) (b : List UInt8) (pre : List Pb) (P : List (List (List UInt8))) (fr : Nat) : Prop where
  left : partsL size rs = pre ++ (cutF (size - 1) f (stP size pre) b ++ cutA (size - 1) (stA (size - 1) (stP size pre) (cutF (size - 1) f (stP size pre) b)) (rs.drop (i + 1)))
  fuel : b.length < f
  ok : PgsOk (size - 1) pre
  pages : (P = pagesOf pre ∧ fr = 1) ∨ (P = pagesOf pre ++ [[]] ∧ fr = 0 ∧ (pre = [] ∨ ¬ 5 + min b.length 1 ≤ (stP size pre).2))
theorem RfO.start (size : Nat) (rs : List (List UInt8)) : RfO size rs 0 [] [] := ⟨rfl, pgs_nil _, rfl⟩
theorem RfO.next {size : Nat} {rs : List (List UInt8)} {i : Nat} {pre : List Pb} {P : List (List (List UInt8))} (h : RfO size rs i pre P) (hi : i < rs.length) : RfP size rs i (rs[i].length + 1) rs[i] pre P 1 := by
  refine ⟨?_, Nat.lt_succ_self _, h.ok, .inl ⟨h.pages, rfl⟩⟩
  have := h.left
  rw [List.drop_eq_getElem_cons hi] at this
  exact this
theorem RfO.done {size : Nat} {rs : List (List UInt8)} {i : Nat} {pre : List Pb} {P : List (List (List UInt8))} (h : RfO size rs i pre P) (hi : rs.length ≤ i) : P = pagesOf (partsL size rs) := by
  have := h.left
  rw [List.drop_of_length_le hi] at this
  rw [this, h.pages]
  simp [cutA]
theorem stP_le {size : Nat} {pre : List Pb} (h : PgsOk (size - 1) pre) : (stP size pre).2 ≤ size - 1 := by
  by_cases hp : pre = []
  · have := (h.zero hp).2
    unfold stP
    rw [this]
    exact Nat.le_refl _
  · exact Nat.le_of_lt (h.some hp).2.1
/-- no page yet: there is one now. -/
theorem RfP.first {size : Nat} {rs : List (List UInt8)} {i f : Nat} {b : List UInt8} {pre : List Pb} {P : List (List (List UInt8))} {fr : Nat} (h : RfP size rs i f b pre P fr) (h0 : P = []) : fr = 1 ∧ RfP size rs i f b pre [[]] 0 := by
  rcases h.pages with ⟨e, hf⟩ | ⟨e, -, -⟩
  · have hpre : pre = [] := Classical.byContradiction fun hp => by
      have := (h.ok.some hp).1
      rw [← e, h0] at this
      simp at this
    refine ⟨hf, ⟨h.left, h.fuel, h.ok, .inr ⟨?_, rfl, .inl hpre⟩⟩⟩
    rw [← e, h0]
    rfl
  · rw [h0] at e
    exact absurd e.symm (by simp)
theorem getD_last {α : Type} (l : List α) (x d : α) : (l ++ [x]).getD ((l ++ [x]).length - 1) d = x := by
  simp [List.getD_eq_getElem?_getD]
/-- the last page: the next part goes there, or a new page comes. -/
theorem RfP.last {size : Nat} (hs : 64 ≤ size) {rs : List (List UInt8)} {i f : Nat} {b : List UInt8} {pre : List Pb} {P : List (List (List UInt8))} {fr : Nat} (h : RfP size rs i f b pre P fr) (h0 : P ≠ []) :
    usedP (lastP P) ≤ size - 1 ∧ 5 * (lastP P).length ≤ size - 1 ∧
      ((5 + min b.length 1 + usedP (lastP P) ≤ size - 1 ∧ spot (size - 1) b.length (stP size pre) = (P.length - 1, size - 1 - usedP (lastP P))) ∨
       (¬ 5 + min b.length 1 + usedP (lastP P) ≤ size - 1 ∧ fr = 1 ∧ RfP size rs i f b pre (P ++ [[]]) 0)) := by
  rcases h.pages with ⟨e, hf⟩ | ⟨e, hf, hor⟩
  · have hpre : pre ≠ [] := fun hp => h0 (by rw [e, (h.ok.zero hp).1])
    obtain ⟨s1, s2, s3⟩ := h.ok.some hpre
    rw [← e] at s1 s3
    have hl : P.length - 1 = (stP size pre).1 := by unfold stP; omega
    have hL : lastP P = P.getD (stA (size - 1) (0, size - 1) pre).1 [] := by unfold lastP; rw [hl]; rfl
    have hu : usedP (lastP P) + (stP size pre).2 = size - 1 := by
      unfold usedP stP
      rw [hL]
      omega
    have h5 := h.ok.five (lastP P) (by
      rw [hL, ← e, List.getD_eq_getElem?_getD, List.getElem?_eq_getElem (by omega)]
      exact List.getElem_mem _)
    refine ⟨by omega, by unfold usedP at hu; omega, ?_⟩
    by_cases hh : 5 + min b.length 1 ≤ (stP size pre).2
    · refine .inl ⟨by omega, ?_⟩
      unfold spot
      rw [if_pos hh, hl]
      exact Prod.ext rfl (by show _ = size - 1 - usedP (lastP P); omega)
    · exact .inr ⟨by omega, hf, ⟨h.left, h.fuel, h.ok, .inr ⟨by rw [e], rfl, .inr hh⟩⟩⟩
  · have hL : lastP P = [] := by unfold lastP; rw [e]; exact getD_last _ _ _
    have hu : usedP (lastP P) = 0 := by rw [hL]; rfl
    refine ⟨by omega, by rw [hL]; simp, .inl ⟨by omega, ?_⟩⟩
    rw [hu]
    by_cases hpre : pre = []
    · have hz := h.ok.zero hpre
      have : stP size pre = (0, size - 1) := hz.2
      unfold spot
      rw [this, if_pos (by simp only; omega), e, hz.1]
      rfl
    · have hno := hor.resolve_left hpre
      obtain ⟨s1, s2, s3⟩ := h.ok.some hpre
      unfold spot
      rw [if_neg hno, e]
      refine Prod.ext ?_ (by simp)
      show (stP size pre).1 + 1 = _
      rw [List.length_append, s1]
      rfl
/-- a part is put to the last page. -/
theorem RfP.part {size : Nat} (hs : 64 ≤ size) {rs : List (List UInt8)} {i f : Nat} {b : List UInt8} {pre : List Pb} {P : List (List (List UInt8))} {fr : Nat} (h : RfP size rs i f b pre P fr) (h0 : P ≠ [])
    (hsp : spot (size - 1) b.length (stP size pre) = (P.length - 1, size - 1 - usedP (lastP P))) (x : Pb) (hn : x.n = P.length - 1) (hx : x.b.length ≤ size - 1 - usedP (lastP P) - 5) :
    PgsOk (size - 1) (pre ++ [x]) ∧ P.set (P.length - 1) (lastP P ++ [x.piece]) = pagesOf (pre ++ [x]) ∧ stP size (pre ++ [x]) = (P.length - 1, size - 1 - usedP (lastP P) - 5 - x.b.length) := by
  have hle := stP_le h.ok
  obtain ⟨n1, n2⟩ := spot_nx (whole := size - 1) (m := b.length) (s := stP size pre) (by omega) hle (by omega) (b := x.b) (t := x.last) (by rw [hsp]; exact hx)
  have hxe : (⟨(spot (size - 1) b.length (stP size pre)).1, x.b, x.last⟩ : Pb) = x := by rw [hsp]; cases x; simp_all
  rw [hxe] at n1 n2
  obtain ⟨g1, g2⟩ := pgs_step (whole := size - 1) (by omega) h.ok n1
  have hpos : 0 < P.length := List.length_pos_iff.2 h0
  refine ⟨g1, ?_, ?_⟩
  · rcases h.pages with ⟨e, -⟩ | ⟨e, -, -⟩
    · rcases g2 with ⟨k1, k2, -⟩ | ⟨-, k1, k2, -⟩
      · rw [← e] at k1; omega
      · rw [k2, ← e, hn]
        rfl
    · have hpl : P.length = (pagesOf pre).length + 1 := by rw [e]; simp
      rcases g2 with ⟨k1, k2, -⟩ | ⟨-, k1, -, -⟩
      · have hL : lastP P = [] := by unfold lastP; rw [e]; exact getD_last _ _ _
        rw [k2, hL, hpl, e]
        simp
      · omega
  · show stA (size - 1) (0, size - 1) (pre ++ [x]) = _
    rw [stA_append]
    show st1 (size - 1) (stP size pre) x = _
    rw [n2, hsp]
theorem RfP.whole {size : Nat} (hs : 64 ≤ size) {rs : List (List UInt8)} {i f : Nat} {b : List UInt8} {pre : List Pb} {P : List (List (List UInt8))} {fr : Nat} (h : RfP size rs i f b pre P fr) (h0 : P ≠ [])
    (hsp : spot (size - 1) b.length (stP size pre) = (P.length - 1, size - 1 - usedP (lastP P))) (hx : b.length ≤ size - 1 - usedP (lastP P) - 5) :
    RfO size rs (i + 1) (pre ++ [⟨P.length - 1, b, true⟩]) (P.set (P.length - 1) (lastP P ++ [0 :: b])) := by
  obtain ⟨g1, g2, g3⟩ := h.part hs h0 hsp ⟨P.length - 1, b, true⟩ rfl hx
  have hf := h.fuel
  obtain ⟨f', rfl⟩ : ∃ f', f = f' + 1 := ⟨f - 1, by omega⟩
  have hc : cutF (size - 1) (f' + 1) (stP size pre) b = [⟨P.length - 1, b, true⟩] := by
    unfold cutF
    rw [hsp, if_pos hx]
  refine ⟨?_, g1, g2⟩
  have := h.left
  rw [hc] at this
  rw [this, List.append_assoc]
  congr 1
  show _ ++ _ = _ ++ cutA _ (stA (size - 1) (0, size - 1) (pre ++ [_])) _
  rw [stA_append]
  rfl
theorem RfP.more {size : Nat} (hs : 64 ≤ size) {rs : List (List UInt8)} {i f : Nat} {b : List UInt8} {pre : List Pb} {P : List (List (List UInt8))} {fr : Nat} (h : RfP size rs i f b pre P fr) (h0 : P ≠ [])
    (hsp : spot (size - 1) b.length (stP size pre) = (P.length - 1, size - 1 - usedP (lastP P))) (hx : ¬ b.length ≤ size - 1 - usedP (lastP P) - 5) :
    RfP size rs i (f - 1) (b.drop (size - 1 - usedP (lastP P) - 5)) (pre ++ [⟨P.length - 1, b.take (size - 1 - usedP (lastP P) - 5), false⟩]) (P.set (P.length - 1) (lastP P ++ [1 :: b.take (size - 1 - usedP (lastP P) - 5)])) 1 ∧
      5 + 1 + usedP (lastP P) ≤ size - 1 := by
  have hm := spot_room (whole := size - 1) (m := b.length) (s := stP size pre) (by omega)
  rw [hsp] at hm
  simp only at hm
  have hb1 : min b.length 1 = 1 := by omega
  have htl : (b.take (size - 1 - usedP (lastP P) - 5)).length = size - 1 - usedP (lastP P) - 5 := by rw [List.length_take]; omega
  obtain ⟨g1, g2, g3⟩ := h.part hs h0 hsp ⟨P.length - 1, b.take (size - 1 - usedP (lastP P) - 5), false⟩ rfl (by rw [htl]; exact Nat.le_refl _)
  simp only [htl, Nat.sub_self] at g3
  have hf := h.fuel
  obtain ⟨f', rfl⟩ : ∃ f', f = f' + 1 := ⟨f - 1, by omega⟩
  have hc : cutF (size - 1) (f' + 1) (stP size pre) b = ⟨P.length - 1, b.take (size - 1 - usedP (lastP P) - 5), false⟩ :: cutF (size - 1) f' (P.length - 1, 0) (b.drop (size - 1 - usedP (lastP P) - 5)) := by
    conv => lhs; unfold cutF
    rw [hsp, if_neg hx]
  refine ⟨⟨?_, by rw [List.length_drop]; omega, g1, .inl ⟨g2, rfl⟩⟩, by omega⟩
  have := h.left
  rw [hc] at this
  rw [this, List.append_assoc]
  congr 1
  rw [show f' + 1 - 1 = f' by omega, g3]
  simp only [List.cons_append, List.nil_append]
  congr 2
  have g3' : st1 (size - 1) (stP size pre) ⟨P.length - 1, b.take (size - 1 - usedP (lastP P) - 5), false⟩ = (P.length - 1, 0) := by
    rw [← g3]
    show _ = stA (size - 1) (0, size - 1) (pre ++ [_])
    rw [stA_append]
    rfl
  show cutA _ (stA (size - 1) (stP size pre) (_ :: cutF _ _ _ _)) _ = _
  simp only [stA, List.foldl_cons, g3']
end Go.Proofs.Ytlkkfnimealbkaa
