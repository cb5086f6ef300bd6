/- Plain: what is written is read. -/
import Derived.Test.YtlkkfnimealbkaaNP
namespace Go.Proofs.Ytlkkfnimealbkaa
open Pag (IsPage)
set_option linter.unusedVariables false
theorem flatten_set_last {α : Type} : ∀ (l : List (List α)) (i : Nat) (x : List α), i + 1 = l.length → (l.set i (l.getD i [] ++ x)).flatten = l.flatten ++ x
  | [], i, x, h => by simp at h
  | [a], 0, x, h => by simp
  | a :: c :: l, 0, x, h => by simp at h
  | a :: l, i + 1, x, h => by
    have := flatten_set_last l i x (by simpa using h)
    simp only [List.set_cons_succ, List.flatten_cons, List.getD_cons_succ, List.append_assoc]
    rw [this]
theorem pages_flat {whole : Nat} (hw : 6 ≤ whole) {T : List Pb} (h : OkT whole (0, whole) T) (pre : List Pb) : pre <+: T → (pagesOf pre).flatten = pre.map Pb.piece :=
  snoc_ind (P := fun pre => pre <+: T → (pagesOf pre).flatten = pre.map Pb.piece) (fun _ => rfl) (fun pre x ih hp => by
    have hpp := (List.prefix_append pre [x]).trans hp
    rw [List.map_append, ← ih hpp]
    rcases (pgs_step hw (pgs_pre hw h pre hpp) (ok_next h hp)).2 with ⟨-, e, -⟩ | ⟨-, hn, e, -⟩
    · rw [e]; simp
    · rw [e, flatten_set_last _ _ _ hn]; simp) pre
theorem tellK_piece (x : Pb) : tellK x.piece = ⟨x.b, x.last, 0⟩ := by
  unfold Pb.piece
  cases x.last <;> simp [tellK]
theorem tellP_ok : ∀ L : List (List UInt8), (∀ q ∈ L, (tellK q).e = 0) → tellP L = L.map tellK ∧ okP L = true
  | [], _ => ⟨rfl, rfl⟩
  | q :: r, h => by
    obtain ⟨h1, h2⟩ := tellP_ok r (fun q' h' => h q' (by simp [h']))
    have h0 := h q (by simp)
    simp [tellP, okP, h0, h1, h2]
theorem tellS_ok : ∀ Ls : List (List (List UInt8)), (∀ L ∈ Ls, ∀ q ∈ L, (tellK q).e = 0) → tellS (Ls.map fun L => (0, L)) = Ls.flatten.map tellK
  | [], _ => rfl
  | L :: r, h => by
    obtain ⟨h1, h2⟩ := tellP_ok L (h L (by simp))
    have ih := tellS_ok r (fun L' h' => h L' (by simp [h']))
    simp only [List.map_cons, tellS, if_true, List.flatten_cons, List.map_append]
    rw [h1, h2, if_pos rfl, ih]
theorem fold_join : ∀ (l : List Tb) (s : List (List UInt8) × List UInt8 × Bool), l.foldl stepJ s = joinP s (l.map fun t => (t.b, t.last))
  | [], s => rfl
  | t :: l, (a, r, w) => by
    rw [List.foldl_cons, List.map_cons, joinP, fold_join l]
    rfl
/-- what is written is read. -/
theorem round_trip {size : Nat} (h : 64 ≤ size) (rs : List (List UInt8)) : resS ((pagesOf (partsL size rs)).map fun L => (0, L)) = (0, rs) := by
  have hflat := pages_flat (whole := size - 1) (by omega) (partsL_ok h rs) _ (List.prefix_refl _)
  have hall : ∀ L ∈ pagesOf (partsL size rs), ∀ q ∈ L, (tellK q).e = 0 := fun L hL q hq => by
    have : q ∈ (pagesOf (partsL size rs)).flatten := List.mem_flatten.2 ⟨L, hL, hq⟩
    rw [hflat] at this
    obtain ⟨x, -, rfl⟩ := List.mem_map.1 this
    rw [tellK_piece]
  unfold resS
  rw [tellS_ok _ hall, hflat, List.map_map]
  have e1 : (partsL size rs).map (tellK ∘ Pb.piece) = (partsL size rs).map fun x => (⟨x.b, x.last, 0⟩ : Tb) := List.map_congr_left fun x _ => tellK_piece x
  rw [e1]
  have := resF_pre ((partsL size rs).map fun x => (⟨x.b, x.last, 0⟩ : Tb)) [] ([], [], true) (fun t ht => by
    obtain ⟨x, -, rfl⟩ := List.mem_map.1 ht
    rfl)
  rw [List.append_nil] at this
  rw [this, fold_join, List.map_map]
  have e2 : (partsL size rs).map ((fun t : Tb => (t.b, t.last)) ∘ fun x => (⟨x.b, x.last, 0⟩ : Tb)) = (partsL size rs).map Pb.bt := rfl
  rw [e2, partsL_join h]
  rfl
theorem trimN_full_last (L : List (List UInt8)) (h : ∀ b ∈ L, b ≠ []) : Pag.trimN L L.length = L.length := by
  cases hn : L.length with
  | zero => rfl
  | succ n =>
    refine Pag.trimN_full L n fun e => ?_
    have hlt : n < L.length := by omega
    rw [List.getD_eq_getElem?_getD, List.getElem?_eq_getElem hlt] at e
    exact h _ (List.getElem_mem hlt) e
/-- each page's bytes are the page's. -/
theorem page_is {size : Nat} (h : 64 ≤ size) (h2 : size ≤ 1024) (rs : List (List UInt8)) (L : List (List UInt8)) (hL : L ∈ pagesOf (partsL size rs)) : (Pag.pageB size L).length = size ∧ IsPage (Pag.pageB size L) L ∧ 1 + 4 * L.length + Pag.used L ≤ size ∧ L.length ≤ 250 := by
  obtain ⟨f1, f2, f3, f4⟩ := (partsL_pages h rs).five L hL
  have hfit : 1 + 4 * L.length + Pag.used L ≤ size := by omega
  have hl := Pag.pageB_length size L hfit
  exact ⟨hl, ⟨by omega, by rw [hl]; exact hfit, Pag.trimL_ofT (trimN_full_last L f4), by rw [hl]⟩, hfit, by omega⟩
/-- the sectors, behind a write. -/
theorem written_secs {size fr : Nat} (h : 64 ≤ size) (h2 : size ≤ 1024) (rs : List (List UInt8)) {m' : Mod} (hd : m'.dark = false) (hs : m'.size = size) (hn : fr + nPages size rs ≤ m'.n)
    (hc : ∀ i (hi : i < (pagesOf (partsL size rs)).length), m'.cont ones (fr + i) = Pag.pageB size ((pagesOf (partsL size rs)).getD i [])) : SecsAre m' fr ((pagesOf (partsL size rs)).map fun L => (0, L)) := fun i hi => by
  rw [List.length_map] at hi
  have hmem := List.getElem_mem hi
  obtain ⟨p1, p2, -, -⟩ := page_is h h2 rs _ hmem
  refine .inl ⟨hd, by unfold nPages at hn; omega, .inl ⟨by simp, ?_⟩⟩
  have e : secB m' (fr + i) = Pag.pageB size (pagesOf (partsL size rs))[i] := by
    unfold secB
    rw [hc i hi, hs, List.getD_eq_getElem?_getD, List.getElem?_eq_getElem hi, Option.getD_some]
    unfold pad
    rw [p1, Nat.sub_self]
    simp [zeros]
  rw [e]
  simpa using p2
end Go.Proofs.Ytlkkfnimealbkaa
