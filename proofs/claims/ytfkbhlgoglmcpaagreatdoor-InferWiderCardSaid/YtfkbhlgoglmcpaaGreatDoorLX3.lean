/- Words of a source, as they are looked for: sets of bytes, what stands between words. Plain lists, of no program. -/
import Derived.Test.YtfkbhlgoglmcpaaGreatDoorLX2
import Derived.Test.YtfkbhlgoglmcpaaGreatDoorQ2
import Derived.Lib.SlTrimSet
import Derived.Lib.IndexMore
namespace Go.Proofs.YtfkbhlgoglmcpaaGreatDoor.Lx
open Go.Proofs.YtfkbhlgoglmcpaaGreatDoor
set_option linter.unusedVariables false

def smallL : List UInt8 := [97, 98, 99, 100, 101, 102, 103, 104, 105, 106, 107, 108, 109, 110, 111, 112, 113, 114, 115, 116, 117, 118, 119, 120, 121, 122]
def digitsL : List UInt8 := [48, 49, 50, 51, 52, 53, 54, 55, 56, 57]
def inNamesL : List UInt8 := [97, 98, 99, 100, 101, 102, 103, 104, 105, 106, 107, 108, 109, 110, 111, 112, 113, 114, 115, 116, 117, 118, 119, 120, 121, 122, 48, 49, 50, 51, 52, 53, 54, 55, 56, 57, 95]
def blanksL : List UInt8 := [32, 9, 10]
def singlesL : List UInt8 := [40, 41, 44, 59, 61, 60, 62, 43, 45, 42, 47, 37, 38, 58]
theorem all_bytes (p : UInt8 → Bool) (h : (List.range 256).all (fun n => p (UInt8.ofNat n)) = true) (c : UInt8) : p c = true := by
  have := List.all_eq_true.1 h c.toNat (List.mem_range.2 c.toNat_lt)
  simpa using this
theorem small_eq : (smallL.contains ·) = low := by
  funext c
  have := all_bytes (fun c => smallL.contains c == low c) (by decide +kernel) c
  simpa using this
theorem digits_eq : (digitsL.contains ·) = dig := by
  funext c
  have := all_bytes (fun c => digitsL.contains c == dig c) (by decide +kernel) c
  simpa using this
theorem inNames_eq : (inNamesL.contains ·) = nm := by
  funext c
  have := all_bytes (fun c => inNamesL.contains c == nm c) (by decide +kernel) c
  simpa using this
theorem blanks_eq : (blanksL.contains ·) = blank := by
  funext c
  have := all_bytes (fun c => blanksL.contains c == blank c) (by decide +kernel) c
  simpa using this

theorem dw_drop (p : UInt8 → Bool) : ∀ l : List UInt8, l.dropWhile p = l.drop (l.takeWhile p).length
  | [] => rfl
  | c :: l => by
    by_cases h : p c = true
    · rw [List.dropWhile_cons_of_pos h, List.takeWhile_cons_of_pos h, dw_drop p l]; rfl
    · rw [List.dropWhile_cons_of_neg h, List.takeWhile_cons_of_neg h]; rfl
theorem trim_small (l : List UInt8) : Lib.trimLeftS l smallL = l.drop (l.takeWhile low).length := by
  rw [Lib.trimLeftS, small_eq, dw_drop]
theorem trim_digits (l : List UInt8) : Lib.trimLeftS l digitsL = l.drop (l.takeWhile dig).length := by
  rw [Lib.trimLeftS, digits_eq, dw_drop]
theorem trim_inNames (l : List UInt8) : Lib.trimLeftS l inNamesL = l.drop (l.takeWhile nm).length := by
  rw [Lib.trimLeftS, inNames_eq, dw_drop]
theorem trim_blanks (l : List UInt8) : Lib.trimLeftS l blanksL = l.drop (l.takeWhile blank).length := by
  rw [Lib.trimLeftS, blanks_eq, dw_drop]

/-- what stands ahead of the first word is left out; in a note, if so. -/
def sk : Bool → List UInt8 → List UInt8
  | _, [] => []
  | false, c :: r => if blank c then sk false r else if c = 35 then sk true r else c :: r
  | true, c :: r => if c = 10 then sk false r else sk true r
theorem sk_nil (b : Bool) : sk b [] = [] := by cases b <;> rfl
theorem sk_blank (l : List UInt8) : sk false (l.drop (l.takeWhile blank).length) = sk false l := by
  induction l with
  | nil => rfl
  | cons c r ih =>
    by_cases h : blank c = true
    · rw [List.takeWhile_cons_of_pos h, sk, if_pos h]; exact ih
    · rw [List.takeWhile_cons_of_neg h]; rfl
theorem sk_note (r : List UInt8) : sk true r = sk false (r.drop ((r.takeWhile line).length + 1)) := by
  induction r with
  | nil => rfl
  | cons c r ih =>
    by_cases h : c = 10
    · subst h
      rw [List.takeWhile_cons_of_neg (by decide), sk, if_pos rfl]; rfl
    · rw [List.takeWhile_cons_of_pos (by simpa [line] using h), sk, if_neg h, ih]; rfl
theorem sk_stop {c : UInt8} (r : List UInt8) (h1 : ¬ blank c = true) (h2 : c ≠ 35) : sk false (c :: r) = c :: r := by
  rw [sk, if_neg h1, if_neg h2]
theorem sk_le : ∀ (b : Bool) (l : List UInt8), (sk b l).length ≤ l.length
  | b, [] => by rw [sk_nil]; exact Nat.le_refl _
  | false, c :: r => by
    have h1 := sk_le false r
    have h2 := sk_le true r
    rw [sk]; simp only [List.length_cons]
    split
    · omega
    · split
      · omega
      · simp
  | true, c :: r => by
    have h1 := sk_le false r
    have h2 := sk_le true r
    rw [sk]; simp only [List.length_cons]
    split <;> omega
theorem sk_drop : ∀ (b : Bool) (l : List UInt8), sk b l = l.drop (l.length - (sk b l).length)
  | b, [] => by rw [sk_nil]; rfl
  | false, c :: r => by
    have h1 := sk_drop false r
    have h2 := sk_drop true r
    have g1 := sk_le false r
    have g2 := sk_le true r
    rw [sk]
    split
    · rw [List.length_cons, show r.length + 1 - (sk false r).length = (r.length - (sk false r).length) + 1 by omega, List.drop_succ_cons]; exact h1
    · split
      · rw [List.length_cons, show r.length + 1 - (sk true r).length = (r.length - (sk true r).length) + 1 by omega, List.drop_succ_cons]; exact h2
      · simp
  | true, c :: r => by
    have h1 := sk_drop false r
    have h2 := sk_drop true r
    have g1 := sk_le false r
    have g2 := sk_le true r
    rw [sk]
    split
    · rw [List.length_cons, show r.length + 1 - (sk false r).length = (r.length - (sk false r).length) + 1 by omega, List.drop_succ_cons]; exact h1
    · rw [List.length_cons, show r.length + 1 - (sk true r).length = (r.length - (sk true r).length) + 1 by omega, List.drop_succ_cons]; exact h2
theorem sk_head : ∀ (b : Bool) (l : List UInt8) {c : UInt8} {r : List UInt8}, sk b l = c :: r → ¬ blank c = true ∧ c ≠ 35
  | b, [], c, r, h => by rw [sk_nil] at h; cases h
  | false, d :: l, c, r, h => by
    rw [sk] at h
    split at h
    · exact sk_head false l h
    · rename_i h1
      split at h
      · exact sk_head true l h
      · rename_i h2
        cases h
        exact ⟨h1, h2⟩
  | true, d :: l, c, r, h => by
    rw [sk] at h
    split at h
    · exact sk_head false l h
    · exact sk_head true l h
theorem sk_of_head {l : List UInt8} (h : ∀ c, l.head? = some c → ¬ blank c = true ∧ c ≠ 35) : sk false l = l := by
  cases l with
  | nil => rfl
  | cons c r => exact sk_stop r (h c rfl).1 (h c rfl).2
theorem sk_sk (l : List UInt8) : sk false (sk false l) = sk false l := by
  refine sk_of_head fun c hc => ?_
  cases h : sk false l with
  | nil => rw [h] at hc; cases hc
  | cons d r => rw [h] at hc; cases hc; exact sk_head false l h

/-- how many bytes stand ahead of the first word. -/
def btw (l : List UInt8) : Nat := l.length - (sk false l).length
theorem btw_le (l : List UInt8) : btw l ≤ l.length := Nat.sub_le _ _
theorem btw_drop (l : List UInt8) : l.drop (btw l) = sk false l := (sk_drop false l).symm
theorem lex_sk : ∀ (f p : Nat) (l : List UInt8), l.length < f → lexF f p l = lexF f (p + btw l) (sk false l)
  | 0, _, l, h => absurd h (Nat.not_lt_zero _)
  | f + 1, p, [], _ => rfl
  | f + 1, p, c :: r, hf => by
    simp only [List.length_cons] at hf
    have g1 := sk_le false r
    have g2 := sk_le true r
    by_cases h1 : blank c = true
    · have e : sk false (c :: r) = sk false r := by rw [sk, if_pos h1]
      have eb : btw (c :: r) = btw r + 1 := by simp only [btw, e, List.length_cons]; omega
      rw [lex_blank _ _ _ h1, lex_sk f (p + 1) r (by omega), eb, e]
      rw [lex_fuel f (f + 1) _ _ (by omega) (by omega)]
      congr 1; omega
    · by_cases h2 : c = 35
      · subst h2
        have e : sk false (35 :: r) = sk true r := by rw [sk, if_neg h1, if_pos rfl]
        have e2 : sk true r = sk false (r.drop (r.takeWhile line).length) := by
          rw [sk_note]
          have hn := tw_next line r
          cases hd : r.drop (r.takeWhile line).length with
          | nil => rw [← List.drop_drop, hd]; rfl
          | cons y z =>
            have hy := hn y (by rw [hd]; rfl)
            have hy' : y = 10 := by simpa [line] using hy
            subst hy'
            rw [← List.drop_drop, hd, sk, if_pos (by decide)]; rfl
        have hl := tw_le line r
        have hlen : (r.drop (r.takeWhile line).length).length = r.length - (r.takeWhile line).length := List.length_drop
        have g3 := sk_le false (r.drop (r.takeWhile line).length)
        have eb : btw (35 :: r) = btw (r.drop (r.takeWhile line).length) + 1 + (r.takeWhile line).length := by simp only [btw, e, e2, List.length_cons, hlen]; omega
        rw [lex_note, lex_sk f _ _ (by omega), eb, e, e2]
        rw [lex_fuel f (f + 1) _ _ (by omega) (by omega)]
        congr 1; omega
      · have e := sk_stop r h1 h2
        rw [btw, e, Nat.sub_self]; rfl

/-! a note's end -/
theorem index_line : ∀ l : List UInt8, Lib.index l [10] = if (l.takeWhile line).length < l.length then ((l.takeWhile line).length : Int) else -1
  | [] => rfl
  | c :: l => by
    have ih := index_line l
    by_cases h : c = 10
    · subst h
      rw [List.takeWhile_cons_of_neg (by decide)]
      simp [Lib.index, List.isPrefixOf]
    · have hp : ([10] : List UInt8).isPrefixOf (c :: l) = false := by
        simp [List.isPrefixOf]; exact fun e => h e.symm
      rw [index_skip hp, List.takeWhile_cons_of_pos (by simpa [line] using h)]
      by_cases hl : (l.takeWhile line).length < l.length
      · rw [if_pos hl] at ih
        have h2 : (c :: l.takeWhile line).length < (c :: l).length := by simp only [List.length_cons]; omega
        rw [if_pos h2, ih, if_neg (by first | (simp; done) | (simp; omega))]
        simp
      · rw [if_neg hl] at ih
        have h2 : ¬ (c :: l.takeWhile line).length < (c :: l).length := by simp only [List.length_cons]; omega
        rw [if_neg h2, ih]; rfl
theorem cut_line (l : List UInt8) : (Lib.cut l [10]).2.1 = l.drop ((l.takeWhile line).length + 1) := by
  have hl := tw_le line l
  rw [Lib.cut, index_line]
  by_cases h : (l.takeWhile line).length < l.length
  · rw [if_pos h, if_pos (by omega)]
    simp
  · rw [if_neg h, if_neg (by decide)]
    rw [List.drop_of_length_le (by omega)]
/-- a round of the search: a note and the blanks behind it. -/
theorem round_note (r : List UInt8) : sk false (35 :: r) = sk false (Lib.trimLeftS (Lib.cut (35 :: r) [10]).2.1 blanksL) := by
  rw [trim_blanks, sk_blank, cut_line, List.takeWhile_cons_of_pos (by decide), List.length_cons, List.drop_succ_cons, sk, if_neg (by decide), if_pos rfl, sk_note]
theorem note_less (l : List UInt8) (h : l ≠ []) : (Lib.trimLeftS (Lib.cut l [10]).2.1 blanksL).length < l.length := by
  rw [trim_blanks, cut_line, List.length_drop, List.length_drop]
  have : 0 < l.length := List.length_pos_iff.2 h
  omega

/-! a word, as it is told -/
theorem re_digits (t : List UInt8) : numErr t = if re t = 0 then 0 else if re t = 4 then 4 else 7 := rfl
theorem res_le : ∀ t : List UInt8, res t = true → t.length ≤ 6 := by
  intro t h
  have h2 : t ∈ reserved := by simpa [res] using h
  revert t
  have : ∀ t ∈ reserved, t.length ≤ 6 := by decide +kernel
  intro t _ h
  exact this t h
/-- what Read tells of a number's digits. -/
theorem told_digits (t : List UInt8) (h : ∀ c ∈ t, dig c = true) : told t = toldInt t := by
  have key : ∀ x : List UInt8, (∃ c ∈ x, dig c = false) → t ≠ x := fun x ⟨c, hc, hd⟩ e => by
    subst e
    rw [h c hc] at hd
    cases hd
  unfold told
  rw [if_neg (key _ ⟨110, by simp, by decide⟩), if_neg (key _ ⟨116, by simp, by decide⟩), if_neg (key _ ⟨102, by simp, by decide⟩), if_neg]
  cases t with
  | nil => simp
  | cons c r =>
    simp only [List.head?_cons, Option.some.injEq]
    intro e
    have := h c (by simp)
    rw [e] at this
    exact absurd this (by decide)
theorem toldInt_err (t : List UInt8) : (toldInt t).e = (numErr t : Nat) := by
  unfold toldInt numErr
  split
  · rfl
  · split <;> rfl
/-- what Read tells of a text in its marks. -/
theorem told_text (u : List UInt8) : told (quo u) = if u.length ≤ 200 then ⟨2, 0, u, 0⟩ else ⟨0, 0, [], 7⟩ := by
  unfold told
  rw [if_neg (by simp [quo]), if_neg (by simp [quo]), if_neg (by simp [quo]), if_pos (by simp [quo])]
  by_cases h : u.length ≤ 200
  · rw [toldText_quo u h, if_pos h]
  · rw [if_neg h]
    refine toldText_not _ (by simp [quo]) fun v hv e => h ?_
    have e2 : esc v ++ [39] = esc u ++ [39] := by simpa [quo] using e
    have : some v = some u := by rw [← unq_esc v, ← unq_esc u, e2]
    cases this
    exact hv
end Go.Proofs.YtfkbhlgoglmcpaaGreatDoor.Lx
