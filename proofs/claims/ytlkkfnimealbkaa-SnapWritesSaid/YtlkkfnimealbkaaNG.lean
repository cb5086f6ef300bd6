/- Pages in memory, in a list of the call's own. -/
import Derived.Test.YtlkkfnimealbkaaNF
namespace Go.Proofs.Ytlkkfnimealbkaa
open Go.RowKit Go.Shelf
open Pag (Pg PgAt)
set_option linter.unusedVariables false
def ptrs (Ps : List Pg) : List Value := Ps.map Pg.ptr
theorem ptrs_len (Ps : List Pg) : (ptrs Ps).length = Ps.length := by simp [ptrs]
def pgLs (Ps : List Pg) : List (List (List UInt8)) := Ps.map Pg.L
theorem pgLs_len (Ps : List Pg) : (pgLs Ps).length = Ps.length := by simp [pgLs]
/-- a list of pages of the call's own, above n₀. -/
structure PgsAt (n₀ size : Nat) (W : World) (v : Value) (Ps : List Pg) : Prop where
  row : W.ownsRow n₀ 60 1 v Ps.length (ptrs Ps)
  each : ∀ P ∈ Ps, PgAt W P ∧ P.size = size ∧ ∀ k ∈ Pag.foot P, n₀ ≤ k
  apart : Ps.Pairwise (fun P Q => ∀ k ∈ Pag.foot P, k ∉ Pag.foot Q)
theorem PgsAt.nil (n₀ size : Nat) (W : World) : PgsAt n₀ size W (.slice none 0 0) [] := ⟨World.ownsRow_nil _ _ _ _, fun _ h => absurd h (by simp), List.Pairwise.nil⟩
theorem PgsAt.of_heap {n₀ size : Nat} {W W' : World} {v : Value} {Ps : List Pg} (h : PgsAt n₀ size W v Ps) (hv : ∀ b, v.ownBlock = some b → W'.heap[b]? = W.heap[b]?) (hf : ∀ P ∈ Ps, ∀ k ∈ Pag.foot P, W'.heap[k]? = W.heap[k]?) (hb : ∀ k, Bytes W k → W'.heap[k]? = W.heap[k]?) : PgsAt n₀ size W' v Ps :=
  ⟨ownsRow_of_heap h.row hv, fun P hP => ⟨(h.each P hP).1.of_heap (hf P hP) hb, (h.each P hP).2⟩, h.apart⟩
/-- turns of blocks of other kinds leave the pages. -/
theorem PgsAt.other {n₀ size : Nat} {W W' : World} {v : Value} {Ps : List Pg} (h : PgsAt n₀ size W v Ps) (hk : ∀ (k : Nat) (cs : Array Value) (t : TypeId) (z : Nat × Nat), W.heap[k]? = some (Obj.cells cs t z) → t = 60 ∨ t = 96 ∨ t = 35 ∨ t = 5 → W'.heap[k]? = W.heap[k]?) : PgsAt n₀ size W' v Ps := by
  refine h.of_heap (fun b hb => ?_) (fun P hP k hf => ?_) (fun k hb => ?_)
  · obtain ⟨cs, hc⟩ := row_kind h.row hb
    exact hk _ _ _ _ hc (.inl rfl)
  · obtain ⟨cs, t, hc, ht⟩ := (h.each P hP).1.kinds hf
    exact hk _ _ _ _ hc (by rcases ht with ht | ht <;> simp [ht])
  · obtain ⟨cs, z, hc⟩ := hb
    exact hk _ _ _ _ hc (by simp)
theorem PgsAt.below {n₀ size : Nat} {W W' : World} {v : Value} {Ps : List Pg} (h : PgsAt n₀ size W v Ps) (hb : Below W.heap.size W W') : PgsAt n₀ size W' v Ps :=
  h.other fun k cs t z e _ => hb.block k (Array.getElem?_eq_some_iff.1 e).1
theorem PgsAt.ownT {β : Type} (n₀ size B : Nat) (f : β → Value → List Pg → Prop) : OwnT 85 B (fun s W => ∃ v Ps, PgsAt n₀ size W v Ps ∧ f s v Ps) := by
  rintro s W W' row ⟨v, Ps, h, hf⟩ hg hr
  refine ⟨v, Ps, h.other fun k cs t z e ht => hg.block k (Array.getElem?_eq_some_iff.1 e).1 (fun e' => ?_), hf⟩
  obtain ⟨_, o, ho, hc⟩ := hr k e'.symm
  rw [e] at ho
  cases ho
  rcases hc with hc | ⟨cs', z', hc⟩
  · simp [Obj.isCells] at hc
  · cases hc
    revert ht
    decide
/-- a page's pointer, as it stands in the list. -/
theorem PgsAt.at_ {n₀ size : Nat} {W : World} {v : Value} {Ps : List Pg} (h : PgsAt n₀ size W v Ps) (i : Nat) (hi : i < Ps.length) : ∃ g c, v = .slice (some ⟨g, 0, none⟩) Ps.length c ∧ g < W.heap.size ∧ Ps.length ≤ c ∧ W.cell? ⟨g, i, none⟩ = some (Ps[i]).ptr := by
  obtain ⟨h1, h2⟩ := h.row
  rcases h2 with ⟨rfl, h0⟩ | ⟨g, cap, cur, rfl, hg, hh, hn, hm, hs, ht⟩
  · omega
  · refine ⟨g, cap, rfl, (Array.getElem?_eq_some_iff.1 hh).1, hn, ?_⟩
    have hu : (ptrs Ps)[i]? = some (Ps[i]).ptr := by simp [ptrs, hi]
    rw [cell_of_row W g i cur 60 (0, 0) hh, ← hu, ← ht, List.getElem?_take, if_pos (by omega)]
    simp
theorem PgsAt.shape {n₀ size : Nat} {W : World} {v : Value} {Ps : List Pg} (h : PgsAt n₀ size W v Ps) : ∃ A c, v = .slice A Ps.length c ∧ Ps.length ≤ c := by
  obtain ⟨h1, h2⟩ := h.row
  rcases h2 with ⟨rfl, h0⟩ | ⟨g, cap, cur, rfl, hg, hh, hn, hm, hs, ht⟩
  · exact ⟨none, 0, by rw [h0], by omega⟩
  · exact ⟨_, _, rfl, hn⟩
/-- one of the pages goes on. -/
theorem PgsAt.goes {n₀ size : Nat} {W W' : World} {v : Value} {Ps : List Pg} (h : PgsAt n₀ size W v Ps) (hn : n₀ ≤ W.heap.size) (i : Nat) (hi : i < Ps.length) {P' : Pg} (hg : Pag.Goes W W' Ps[i] P') :
    PgsAt n₀ size W' v (Ps.set i P') := by
  obtain ⟨g1, g2, g3, g4, g5⟩ := hg
  have hE := h.each _ (List.getElem_mem hi)
  have hkeep : ∀ k, k < W.heap.size → k ∉ Pag.foot Ps[i] → W'.heap[k]? = W.heap[k]? := fun k hk hn => g5.block k hk hn
  have hrowb : ∀ b, v.ownBlock = some b → b ∉ Pag.foot Ps[i] := fun b hb hf => by
    obtain ⟨cs, hc⟩ := row_kind h.row hb
    obtain ⟨cs', t, hc', ht⟩ := hE.1.kinds hf
    rw [hc] at hc'
    simp at hc'
    rcases ht with ht | ht
    · exact absurd (hc'.2.trans ht) (by decide)
    · exact absurd (hc'.2.trans ht) (by decide)
  have hbytes : ∀ k, Bytes W k → W'.heap[k]? = W.heap[k]? := fun k hb => hkeep k hb.lt (fun hf => hE.1.plain hf hb)
  have hptr : ptrs (Ps.set i P') = ptrs Ps := by
    unfold ptrs
    rw [List.map_set]
    refine List.ext_getElem? fun j => ?_
    rw [List.getElem?_set]
    split
    · rename_i e
      subst e
      simp [hi, Pg.ptr, g2]
    · rfl
  have hpair := List.pairwise_iff_getElem.1 h.apart
  refine ⟨?_, fun P hP => ?_, ?_⟩
  · rw [List.length_set, hptr]
    refine ownsRow_of_heap h.row fun b hb => hkeep b ?_ (hrowb b hb)
    obtain ⟨cs, hc⟩ := row_kind h.row hb
    exact (Array.getElem?_eq_some_iff.1 hc).1
  · obtain ⟨j, hj, rfl⟩ := List.mem_iff_getElem.1 hP
    rw [List.length_set] at hj
    by_cases e : i = j
    · subst e
      rw [List.getElem_set_self]
      refine ⟨g1, g3.trans hE.2.1, fun k hk => ?_⟩
      rcases g4 k hk with h1 | h1
      · exact hE.2.2 k h1
      · omega
    · rw [List.getElem_set_ne e]
      have hF := h.each _ (List.getElem_mem hj)
      refine ⟨hF.1.of_heap (fun k hk => hkeep k (hF.1.footlt hk) (fun hf => ?_)) hbytes, hF.2⟩
      rcases Nat.lt_or_ge i j with hij | hij
      · exact hpair i j hi hj hij k hf hk
      · exact hpair j i hj hi (by omega) k hk hf
  · refine List.pairwise_iff_getElem.2 fun a b ha hb hab k hk hk' => ?_
    rw [List.length_set] at ha hb
    rw [List.getElem_set] at hk hk'
    by_cases ea : i = a
    · rw [if_pos ea] at hk
      rw [if_neg (by omega)] at hk'
      subst ea
      rcases g4 k hk with h1 | h1
      · exact hpair i b hi hb hab k h1 hk'
      · have := (h.each _ (List.getElem_mem hb)).1.footlt hk'
        omega
    · rw [if_neg ea] at hk
      by_cases eb : i = b
      · rw [if_pos eb] at hk'
        subst eb
        rcases g4 k hk' with h1 | h1
        · exact hpair a i ha hi hab k hk h1
        · have := (h.each _ (List.getElem_mem ha)).1.footlt hk
          omega
      · rw [if_neg eb] at hk'
        exact hpair a b ha hb hab k hk hk'
/-- a page that is made beside the others. -/
theorem PgsAt.more {n₀ size : Nat} {W : World} {v v' : Value} {Ps : List Pg} (h : PgsAt n₀ size W v Ps) {W2 : World} {P : Pg} (hP : PgAt W2 P) (hs : P.size = size) (hf : ∀ k ∈ Pag.foot P, W.heap.size ≤ k) (hn : n₀ ≤ W.heap.size) (hb : Below W.heap.size W W2)
    {W3 : World} (hk : ∀ (k : Nat) (cs : Array Value) (t : TypeId) (z : Nat × Nat), W2.heap[k]? = some (Obj.cells cs t z) → t = 96 ∨ t = 35 ∨ t = 5 → W3.heap[k]? = W2.heap[k]?) (hr : W3.ownsRow n₀ 60 1 v' (Ps.length + 1) (ptrs Ps ++ [P.ptr])) :
    PgsAt n₀ size W3 v' (Ps ++ [P]) := by
  have move : ∀ {Q : Pg}, PgAt W2 Q → PgAt W3 Q := fun {Q} hQ => hQ.of_heap (fun k hk' => by
      obtain ⟨cs, t, hc, ht⟩ := hQ.kinds hk'
      exact hk _ _ _ _ hc (by rcases ht with ht | ht <;> simp [ht])) (fun k hb' => by
      obtain ⟨cs, z, hc⟩ := hb'
      exact hk _ _ _ _ hc (by simp))
  refine ⟨?_, fun Q hQ => ?_, ?_⟩
  · rw [List.length_append, List.length_singleton, show ptrs (Ps ++ [P]) = ptrs Ps ++ [P.ptr] by simp [ptrs]]
    exact hr
  · rcases List.mem_append.1 hQ with hQ | hQ
    · exact ⟨move ((h.each Q hQ).1.below hb), (h.each Q hQ).2⟩
    · have : Q = P := by simpa using hQ
      subst this
      exact ⟨move hP, hs, fun k hk' => Nat.le_trans hn (hf k hk')⟩
  · refine List.pairwise_append.2 ⟨h.apart, List.pairwise_singleton _ _, fun Q hQ R hR k hk1 hk2 => ?_⟩
    have : R = P := by simpa using hR
    subst this
    have := (h.each Q hQ).1.footlt hk1
    have := hf k hk2
    omega
theorem pgLs_set (Ps : List Pg) (i : Nat) (P : Pg) : pgLs (Ps.set i P) = (pgLs Ps).set i P.L := by simp [pgLs, List.map_set]
theorem pgLs_snoc (Ps : List Pg) (P : Pg) : pgLs (Ps ++ [P]) = pgLs Ps ++ [P.L] := by simp [pgLs]
/-- how many pages there are never falls. -/
theorem pages_mono (pre : List Pb) : ∀ r : List Pb, (pagesOf pre).length ≤ (pagesOf (pre ++ r)).length := fun r => by
  refine snoc_ind (P := fun r => (pagesOf pre).length ≤ (pagesOf (pre ++ r)).length) (by simp) (fun r x ih => ?_) r
  rw [← List.append_assoc, pagesOf_snoc]
  refine Nat.le_trans ih ?_
  unfold putP
  split <;> simp
theorem pages_some {size : Nat} (h : 64 ≤ size) {rs : List (List UInt8)} {pre : List Pt} {x : Pb} (hp : pbs pre ++ [x] <+: partsL size rs) : x.n < nPages size rs := by
  obtain ⟨r, hr⟩ := id hp
  have h1 := pgs_pre (whole := size - 1) (by omega) (partsL_ok h rs) _ hp
  have h2 := (h1.some (by simp)).1
  have h3 := pages_mono (pbs pre ++ [x]) r
  rw [hr] at h3
  rw [stA_append] at h2
  have e1 : (stA (size - 1) (stA (size - 1) (0, size - 1) (pbs pre)) [x]).1 = x.n := rfl
  unfold nPages
  omega
end Go.Proofs.Ytlkkfnimealbkaa
