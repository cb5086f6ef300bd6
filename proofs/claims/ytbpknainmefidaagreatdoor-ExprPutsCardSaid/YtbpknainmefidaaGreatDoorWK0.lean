/- Words of a source: plain facts for the laws. -/
import Derived.Test.YtbpknainmefidaaGreatDoorWJ
namespace Go.Proofs.YtbpknainmefidaaGreatDoor.Lx
open Go.Proofs.YtbpknainmefidaaGreatDoor
set_option linter.unusedVariables false

theorem lexF_bad : ∀ (f p : Nat) (l : List UInt8) (c q : Nat), l.length < f → lexF f p l = .bad c q → c ≠ 0
  | 0, _, l, _, _, h, _ => absurd h (Nat.not_lt_zero _)
  | f + 1, p, [], c, q, _, e => by rw [lex_nil] at e; cases e
  | f + 1, p, d :: r, c, q, hf, e => by
    simp only [List.length_cons] at hf
    by_cases h1 : blank d = true
    · rw [lex_blank _ _ _ h1] at e
      exact lexF_bad f _ r c q (by omega) e
    · by_cases h2 : d = 35
      · subst h2
        rw [lex_note] at e
        exact lexF_bad f _ _ c q (by rw [List.length_drop]; omega) e
      · by_cases h3 : (word (d :: r)).err = 0
        · have hw := word_ok d r h3
          rw [lex_word _ _ _ h1 h2 h3] at e
          cases hs : lexF f (p + (word (d :: r)).n) ((d :: r).drop (word (d :: r)).n) with
          | ok T => rw [hs] at e; cases e
          | bad a b =>
            rw [hs] at e
            cases e
            exact lexF_bad f _ _ c q (by rw [List.length_drop, List.length_cons]; omega) hs
        · rw [lex_bad _ _ _ h1 h2 h3] at e
          cases e
          exact h3
theorem lx_bad {l : List UInt8} {c q : Nat} (h : lx l = .bad c q) : c ≠ 0 := by
  unfold lx at h
  split at h
  · cases h; decide
  · exact lexF_bad _ _ _ _ _ (Nat.lt_succ_self _) h
theorem lx_small {l : List UInt8} {T : List Tk} (h : lx l = .ok T) : l.length ≤ 4000 ∧ lexF (l.length + 1) 0 l = .ok T := by
  unfold lx at h
  split at h
  · cases h
  · exact ⟨by omega, h⟩
theorem lx_ok {l : List UInt8} {T : List Tk} (h : lx l = .ok T) : ∃ A, T = A ++ [⟨0, [], l.length⟩] ∧ T.length ≤ l.length + 1 ∧ ∀ i (hi : i < T.length), T[i].at_ ≤ l.length := by
  obtain ⟨-, h2⟩ := lx_small h
  obtain ⟨A, hA, hi⟩ := lex_at _ _ _ _ (Nat.lt_succ_self _) h2
  rw [Nat.zero_add] at hA
  refine ⟨A, hA, ?_, fun i hT => ?_⟩
  · have : A.length ≤ l.length := by
      by_cases h0 : A.length = 0
      · omega
      · obtain ⟨q, -, q2, q3, -⟩ := hi (A.length - 1) (by omega)
        omega
    rw [hA]; simp; omega
  · subst hA
    by_cases hlt : i < A.length
    · rw [List.getElem_append_left hlt]
      obtain ⟨q, q1, q2, -⟩ := hi i hlt
      omega
    · rw [List.getElem_append_right (by omega)]
      simp at hT
      have : i - A.length = 0 := by omega
      simp [this]
theorem gaps_T (l note : List UInt8) (T : List Tk) (k : Nat) (hl : l.length ≤ 2000) (hn : note.length ≤ 1000) (h : lx l = .ok T) (hno : ∀ c ∈ note, c ≠ 10) (hk : k + 1 < T.length) :
    lx (l.take T[k].at_ ++ (gap note ++ l.drop T[k].at_)) = .ok (T.take k ++ (T.drop k).map (Tk.far (note.length + 5))) := by
  obtain ⟨-, h2⟩ := lx_small h
  have hg := lex_gaps note hno _ 0 l T (Nat.lt_succ_self _) h2 k hk T[k].at_ (by omega)
  have hlen : (l.take T[k].at_ ++ (gap note ++ l.drop T[k].at_)).length = l.length + (note.length + 5) := by
    simp only [List.length_append, List.length_take, List.length_drop, gap_length]
    omega
  rw [lx, if_neg (by omega), hlen]
  rw [show l.length + (note.length + 5) + 1 = l.length + 1 + (note.length + 5) by omega]
  exact hg
theorem far_at (T : List Tk) (k d i : Nat) (h : i < T.length) (h' : i < (T.take k ++ (T.drop k).map (Tk.far d)).length) :
    (T.take k ++ (T.drop k).map (Tk.far d))[i].kind = T[i].kind ∧ (T.take k ++ (T.drop k).map (Tk.far d))[i].text = T[i].text ∧ (T.take k ++ (T.drop k).map (Tk.far d))[i].at_ = T[i].at_ + (if k ≤ i then d else 0) := by
  by_cases hk : k ≤ i
  · rw [if_pos hk]
    rw [List.getElem_append_right (by simp; omega)]
    simp only [List.length_take, List.getElem_map, List.getElem_drop, Tk.far]
    have e : k + (i - min k T.length) = i := by omega
    simp only [e, and_self]
  · rw [if_neg hk]
    rw [List.getElem_append_left (by simp; omega)]
    simp
theorem far_length (T : List Tk) (k d : Nat) : (T.take k ++ (T.drop k).map (Tk.far d)).length = T.length := by simp; omega
end Go.Proofs.YtbpknainmefidaaGreatDoor.Lx
