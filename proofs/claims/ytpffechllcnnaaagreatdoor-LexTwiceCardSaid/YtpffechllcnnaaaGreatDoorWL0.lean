/- Words of a source: plain facts for word by word. -/
import Derived.Test.YtpffechllcnnaaaGreatDoorWK0
namespace Go.Proofs.YtpffechllcnnaaaGreatDoor.Lx
open Go.Proofs.YtpffechllcnnaaaGreatDoor
set_option linter.unusedVariables false

theorem spell_append : ∀ A B : List Tk, spell (A ++ B) = spell A ++ spell B
  | [], B => rfl
  | t :: A, B => by
    rw [List.cons_append, spell, spell_append A B, spell]
    simp
theorem spell_one (t : Tk) : spell [t] = spelt t.kind t.text ++ [32] := rfl
theorem spell_take_succ (A : List Tk) (i : Nat) (h : i < A.length) : spell (A.take (i + 1)) = spell (A.take i) ++ (spelt A[i].kind A[i].text ++ [32]) := by
  rw [List.take_succ_eq_append_getElem h, spell_append, spell_one]
theorem spell_take_le (A : List Tk) (i : Nat) : (spell (A.take i)).length ≤ (spell A).length := by
  have : spell A = spell (A.take i) ++ spell (A.drop i) := by rw [← spell_append, List.take_append_drop]
  rw [this]; simp
theorem word_text (c : UInt8) (r : List UInt8) (h : (word (c :: r)).err = 0) (hk : (word (c :: r)).kind = 4) : (word (c :: r)).text.length ≤ 200 := by
  unfold word at h hk ⊢
  by_cases h1 : low c = true
  · simp only [if_pos h1, nameW] at hk
    split at hk <;> exact absurd hk (by decide)
  · simp only [if_neg h1] at h hk ⊢
    by_cases h2 : dig c = true
    · simp only [if_pos h2, numW] at hk; exact absurd hk (by decide)
    · simp only [if_neg h2] at h hk ⊢
      by_cases h3 : c = 39
      · simp only [if_pos h3, textW] at h ⊢
        by_cases hq : (qt r).2.2 = true
        · rw [if_pos hq] at h
          by_cases hl : 200 < (qt r).1.length
          · rw [if_pos hl] at h; cases h
          · omega
        · rw [if_neg hq] at h; cases h
      · simp only [if_neg h3] at h hk
        by_cases h4 : (pre2 c && r.head? == some 61) = true
        · simp only [if_pos h4] at hk; exact absurd hk (by decide)
        · simp only [if_neg h4] at hk; exact absurd hk (by decide)
/-- the words of a source, each alone: their texts, and the same words. -/
theorem twice_T {l : List UInt8} {T : List Tk} (h : lx l = .ok T) (hl : l.length ≤ 2000) : ∃ A x, T = A ++ [x] ∧ (spell A).length ≤ 4000 ∧ (∀ i (hi : i < A.length), A[i].kind = 4 → A[i].text.length ≤ 200) ∧
    ∃ T2, lx (spell A) = .ok T2 ∧ T2.length = T.length ∧ ∀ i (hi : i < T.length) (hi2 : i < T2.length), T2[i].kind = T[i].kind ∧ T2[i].text = T[i].text := by
  obtain ⟨-, h2⟩ := lx_small h
  obtain ⟨A, hA, hi⟩ := lex_at _ _ _ _ (Nat.lt_succ_self _) h2
  rw [Nat.zero_add] at hA
  rw [hA] at h2
  obtain ⟨i1, i2⟩ := lex_twice _ 0 l A ⟨0, [], l.length⟩ (Nat.lt_succ_self _) h2
  obtain ⟨B, y, j1, j2, j3, j4, -, -⟩ := i2 ((spell A).length + 1) 0 (Nat.lt_succ_self _)
  refine ⟨A, _, hA, by omega, fun i hlt hk => ?_, B ++ [y], ?_, ?_, fun i hT hT2 => ?_⟩
  · obtain ⟨q, -, -, -, c, r, -, -, -, q7, q8, q9⟩ := hi i hlt
    rw [q9]
    exact word_text c r q7 (by rw [← q8]; exact hk)
  · rw [lx, if_neg (by omega), j1]
  · have := congrArg List.length j2
    simp only [List.length_map] at this
    rw [hA]; simp [this]
  · have hlen : B.length = A.length := by have := congrArg List.length j2; simpa using this
    subst hA
    by_cases hlt : i < A.length
    · rw [List.getElem_append_left hlt, List.getElem_append_left (by omega)]
      have : (B.map Tk.bare)[i]? = (A.map Tk.bare)[i]? := by rw [j2]
      rw [List.getElem?_map, List.getElem?_map, List.getElem?_eq_getElem (by omega), List.getElem?_eq_getElem hlt] at this
      simp only [Option.map_some, Option.some.injEq, Tk.bare, Prod.mk.injEq] at this
      exact this
    · rw [List.getElem_append_right (by omega), List.getElem_append_right (by omega)]
      have e1 : i - A.length = 0 := by simp at hT; omega
      have e2 : i - B.length = 0 := by simp at hT; omega
      simp only [e1, e2, List.getElem_cons_zero]
      exact ⟨j3, j4⟩
end Go.Proofs.YtpffechllcnnaaaGreatDoor.Lx
