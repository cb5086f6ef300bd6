import Derived.Test.YteghhmomhlnccaaGreatDoorZC2
import Derived.Test.YteghhmomhlnccaaGreatDoorZB
import Derived.Lib.SlTrimSet
import Derived.Lib.IndexMore

/- A source's words: plain lists. Of no program. -/
namespace Go.Proofs.YteghhmomhlnccaaGreatDoor.Lx
open Go.Proofs.YteghhmomhlnccaaGreatDoor
set_option linter.unusedVariables false

def blank (c : UInt8) : Bool := c == 32 || c == 9 || c == 10
def low (c : UInt8) : Bool := decide (97 ≤ c.toNat ∧ c.toNat ≤ 122)
def nm (c : UInt8) : Bool := low c || dig c || c == 95
def line (c : UInt8) : Bool := c != 10
def reserved : List (List UInt8) := ["add", "drop", "rename", "split", "merge", "retype", "into", "to", "back", "and", "or", "not", "true", "false", "null", "int", "text", "bool", "select", "where", "from", "limit"].map fun s => s.toUTF8.data.toList
def res (t : List UInt8) : Bool := reserved.contains t
def single (c : UInt8) : Bool := [40, 41, 44, 59, 61, 60, 62, 43, 45, 42, 47, 37, 38, 58].contains c
def pre2 (c : UInt8) : Bool := c == 60 || c == 62 || c == 33
def numErr (t : List UInt8) : Nat := if re t = 0 then 0 else if re t = 4 then 4 else 7

/-- a text behind its first mark: its bytes, how many it takes with its last mark, whether that is there. -/
def qt : List UInt8 → List UInt8 × Nat × Bool
  | [] => ([], 0, false)
  | c :: r => if c = 39 then (match r with
      | [] => ([], 1, true)
      | d :: r' => if d = 39 then (39 :: (qt r').1, (qt r').2.1 + 2, (qt r').2.2) else ([], 1, true))
    else (c :: (qt r).1, (qt r).2.1 + 1, (qt r).2.2)

structure Wd where
  kind : Nat
  n : Nat
  text : List UInt8
  err : Nat

def nameW (t : List UInt8) : Wd := ⟨if res t then 2 else 1, t.length, t, if res t then 0 else if 16 < t.length then 3 else 0⟩
def numW (t : List UInt8) : Wd := ⟨3, t.length, t, numErr t⟩
def textW (q : List UInt8 × Nat × Bool) : Wd := ⟨4, q.2.1 + 1, q.1, if q.2.2 then (if 200 < q.1.length then 3 else 0) else 7⟩
/-- the word at the beginning. -/
def word : List UInt8 → Wd
  | [] => ⟨0, 0, [], 7⟩
  | c :: r =>
    if low c then nameW (c :: r.takeWhile nm)
    else if dig c then numW (c :: r.takeWhile dig)
    else if c = 39 then textW (qt r)
    else if pre2 c && r.head? == some 61 then ⟨5, 2, [c, 61], 0⟩
    else ⟨5, 1, [c], if single c then 0 else 7⟩

structure Tk where
  kind : Nat
  text : List UInt8
  at_ : Nat
deriving DecidableEq

inductive Out where
  | ok (l : List Tk)
  | bad (code at_ : Nat)
deriving DecidableEq
def Out.put (t : Tk) : Out → Out
  | ok l => ok (t :: l)
  | bad c a => bad c a

def lexF : Nat → Nat → List UInt8 → Out
  | 0, _, _ => .bad 0 0
  | _ + 1, p, [] => .ok [⟨0, [], p⟩]
  | f + 1, p, c :: r =>
    if blank c then lexF f (p + 1) r
    else if c = 35 then lexF f (p + 1 + (r.takeWhile line).length) (r.drop (r.takeWhile line).length)
    else if (word (c :: r)).err = 0 then (lexF f (p + (word (c :: r)).n) ((c :: r).drop (word (c :: r)).n)).put ⟨(word (c :: r)).kind, (word (c :: r)).text, p⟩
    else .bad (word (c :: r)).err p
def lx (l : List UInt8) : Out := if 4000 < l.length then .bad 3 0 else lexF (l.length + 1) 0 l

/-! what takeWhile takes -/
theorem tw_le (p : UInt8 → Bool) : ∀ l : List UInt8, (l.takeWhile p).length ≤ l.length
  | [] => Nat.le_refl _
  | c :: l => by
    have := tw_le p l
    unfold List.takeWhile
    split <;> simp <;> omega
theorem tw_take (p : UInt8 → Bool) : ∀ l : List UInt8, l.take (l.takeWhile p).length = l.takeWhile p
  | [] => rfl
  | c :: l => by
    have := tw_take p l
    unfold List.takeWhile
    split
    · simp [this]
    · rfl
theorem tw_all (p : UInt8 → Bool) : ∀ (l : List UInt8) (x : UInt8), x ∈ l.takeWhile p → p x = true
  | [], x, h => by simp at h
  | c :: l, x, h => by
    unfold List.takeWhile at h
    split at h
    · rcases List.mem_cons.1 h with rfl | h
      · assumption
      · exact tw_all p l x h
    · simp at h
theorem tw_next (p : UInt8 → Bool) : ∀ (l : List UInt8) (x : UInt8), (l.drop (l.takeWhile p).length).head? = some x → p x = false
  | [], x, h => by simp at h
  | c :: l, x, h => by
    by_cases hc : p c = true
    · rw [List.takeWhile_cons_of_pos hc] at h
      exact tw_next p l x h
    · rw [List.takeWhile_cons_of_neg hc] at h
      simp at h
      subst h
      simpa using hc
/-- all of a, and what stands behind does not go on. -/
theorem tw_of (p : UInt8 → Bool) : ∀ (a z : List UInt8), (∀ x ∈ a, p x = true) → (∀ x, z.head? = some x → p x = false) → (a ++ z).takeWhile p = a
  | [], z, _, hz => by
    cases z with
    | nil => rfl
    | cons y z => rw [List.nil_append, List.takeWhile_cons_of_neg (by rw [hz y rfl]; simp)]
  | c :: a, z, ha, hz => by
    rw [List.cons_append, List.takeWhile_cons_of_pos (ha c (by simp)), tw_of p a z (fun x hx => ha x (by simp [hx])) hz]
/-! texts in marks -/
theorem qt_take : ∀ (l : List UInt8), (qt l).2.2 = true → l.take (qt l).2.1 = esc (qt l).1 ++ [39] ∧ (qt l).2.1 ≤ l.length
  | [], h => by simp [qt] at h
  | [c], h => by
    by_cases hc : c = 39
    · subst hc; simp [qt, esc]
    · simp [qt, hc] at h
  | c :: d :: r, h => by
    unfold qt at h ⊢
    by_cases hc : c = 39
    · subst hc
      by_cases hd : d = 39
      · subst hd
        simp only [if_true] at h ⊢
        obtain ⟨i1, i2⟩ := qt_take r h
        refine ⟨?_, by simp; omega⟩
        simp [esc, i1]
      · simp [hd, esc]
    · simp only [if_neg hc] at h ⊢
      obtain ⟨i1, i2⟩ := qt_take (d :: r) h
      refine ⟨?_, by simp at i2 ⊢; omega⟩
      simp [esc, hc, i1]
/-! a word -/
theorem word_ok (c : UInt8) (r : List UInt8) (h : (word (c :: r)).err = 0) : 1 ≤ (word (c :: r)).n ∧ (word (c :: r)).n ≤ r.length + 1 := by
  have h1 := tw_le nm r
  have h2 := tw_le dig r
  unfold word at h ⊢
  by_cases n1 : low c = true
  · simp only [if_pos n1, nameW, List.length_cons]; omega
  · simp only [if_neg n1] at h ⊢
    by_cases n2 : dig c = true
    · simp only [if_pos n2, numW, List.length_cons]; omega
    · simp only [if_neg n2] at h ⊢
      by_cases n3 : c = 39
      · simp only [if_pos n3] at h ⊢
        have hq : (qt r).2.2 = true := by
          cases e : (qt r).2.2
          · simp [textW, e] at h
          · rfl
        have := (qt_take r hq).2
        simp only [textW]; omega
      · simp only [if_neg n3] at h ⊢
        by_cases n4 : (pre2 c && r.head? == some 61) = true
        · simp only [if_pos n4]
          have : 1 ≤ r.length := by
            cases r with
            | nil => simp at n4
            | cons => simp
          omega
        · simp only [if_neg n4]; omega
/-- how a word is written. -/
def spelt (k : Nat) (t : List UInt8) : List UInt8 := if k = 4 then quo t else t
theorem word_spelt (c : UInt8) (r : List UInt8) (h : (word (c :: r)).err = 0) : (c :: r).take (word (c :: r)).n = spelt (word (c :: r)).kind (word (c :: r)).text := by
  unfold word at h ⊢
  by_cases h1 : low c = true
  · simp only [if_pos h1] at h ⊢
    have : (nameW (c :: r.takeWhile nm)).kind ≠ 4 := by unfold nameW; simp only; split <;> decide
    rw [spelt, if_neg this]
    simp [nameW, tw_take]
  · simp only [if_neg h1] at h ⊢
    by_cases h2 : dig c = true
    · simp only [if_pos h2] at h ⊢
      rw [spelt, if_neg (by simp [numW])]
      simp [numW, tw_take]
    · simp only [if_neg h2] at h ⊢
      by_cases h3 : c = 39
      · simp only [if_pos h3] at h ⊢
        have hq : (qt r).2.2 = true := by
          cases e : (qt r).2.2
          · simp [textW, e] at h
          · rfl
        rw [spelt, if_pos (by simp [textW])]
        simp only [textW, List.take_succ_cons, (qt_take r hq).1]
        rw [h3]; rfl
      · simp only [if_neg h3] at h ⊢
        by_cases h4 : (pre2 c && r.head? == some 61) = true
        · simp only [if_pos h4] at h ⊢
          rw [spelt, if_neg (by decide)]
          cases r with
          | nil => simp at h4
          | cons d r => simp at h4; simp [h4.2]
        · simp only [if_neg h4] at h ⊢
          rw [spelt, if_neg (by decide)]
          simp
end Go.Proofs.YteghhmomhlnccaaGreatDoor.Lx

/- Words of a source: gaps play no part; each alone is the same; names. Plain lists, of no program. -/
namespace Go.Proofs.YteghhmomhlnccaaGreatDoor.Lx
open Go.Proofs.YteghhmomhlnccaaGreatDoor
set_option linter.unusedVariables false

theorem lex_nil (f p : Nat) : lexF (f + 1) p [] = .ok [⟨0, [], p⟩] := rfl
theorem lex_blank (f p : Nat) {c : UInt8} (r : List UInt8) (h : blank c = true) : lexF (f + 1) p (c :: r) = lexF f (p + 1) r := by
  rw [lexF, if_pos h]
theorem lex_note (f p : Nat) (r : List UInt8) : lexF (f + 1) p (35 :: r) = lexF f (p + 1 + (r.takeWhile line).length) (r.drop (r.takeWhile line).length) := by
  rw [lexF, if_neg (by decide), if_pos rfl]
theorem lex_word (f p : Nat) {c : UInt8} (r : List UInt8) (h1 : ¬ blank c = true) (h2 : c ≠ 35) (h : (word (c :: r)).err = 0) :
    lexF (f + 1) p (c :: r) = (lexF f (p + (word (c :: r)).n) ((c :: r).drop (word (c :: r)).n)).put ⟨(word (c :: r)).kind, (word (c :: r)).text, p⟩ := by
  rw [lexF, if_neg h1, if_neg h2, if_pos h]
theorem lex_bad (f p : Nat) {c : UInt8} (r : List UInt8) (h1 : ¬ blank c = true) (h2 : c ≠ 35) (h : (word (c :: r)).err ≠ 0) :
    lexF (f + 1) p (c :: r) = .bad (word (c :: r)).err p := by
  rw [lexF, if_neg h1, if_neg h2, if_neg h]

/-- more fuel than bytes: it plays no part. -/
theorem lex_fuel : ∀ (f g p : Nat) (l : List UInt8), l.length < f → l.length < g → lexF f p l = lexF g p l
  | 0, _, _, l, h, _ => absurd h (Nat.not_lt_zero _)
  | _, 0, _, l, _, h => absurd h (Nat.not_lt_zero _)
  | f + 1, g + 1, p, [], _, _ => rfl
  | f + 1, g + 1, p, c :: r, hf, hg => by
    simp only [List.length_cons] at hf hg
    by_cases h1 : blank c = true
    · rw [lex_blank _ _ _ h1, lex_blank _ _ _ h1]
      exact lex_fuel f g _ r (by omega) (by omega)
    · by_cases h2 : c = 35
      · subst h2
        rw [lex_note, lex_note]
        exact lex_fuel f g _ _ (by rw [List.length_drop]; omega) (by rw [List.length_drop]; omega)
      · by_cases h3 : (word (c :: r)).err = 0
        · have := word_ok c r h3
          rw [lex_word _ _ _ h1 h2 h3, lex_word _ _ _ h1 h2 h3, lex_fuel f g _ _ (by rw [List.length_drop, List.length_cons]; omega) (by rw [List.length_drop, List.length_cons]; omega)]
        · rw [lex_bad _ _ _ h1 h2 h3, lex_bad _ _ _ h1 h2 h3]

def Tk.far (d : Nat) (t : Tk) : Tk := ⟨t.kind, t.text, t.at_ + d⟩
def Out.far (d : Nat) : Out → Out
  | .ok l => .ok (l.map (Tk.far d))
  | .bad c a => .bad c (a + d)
/-- where the words stand: the end at the end, each other one at a byte that begins one; the first one no sooner than here, the others behind it. -/
theorem lex_at : ∀ (f p : Nat) (l : List UInt8) (T : List Tk), l.length < f → lexF f p l = .ok T →
    ∃ (A : List Tk), T = A ++ [⟨0, [], p + l.length⟩] ∧ ∀ i (h : i < A.length), ∃ q, A[i].at_ = p + q ∧ q < l.length ∧ i ≤ q ∧ (∃ c r, l.drop q = c :: r ∧ ¬ blank c = true ∧ c ≠ 35 ∧ (word (c :: r)).err = 0 ∧ A[i].kind = (word (c :: r)).kind ∧ A[i].text = (word (c :: r)).text)
  | 0, _, l, _, h, _ => absurd h (Nat.not_lt_zero _)
  | f + 1, p, [], T, _, e => by
    rw [lex_nil] at e
    cases e
    exact ⟨[], rfl, fun i h => absurd h (Nat.not_lt_zero _)⟩
  | f + 1, p, c :: r, T, hf, e => by
    simp only [List.length_cons] at hf
    by_cases h1 : blank c = true
    · rw [lex_blank _ _ _ h1] at e
      obtain ⟨A, hA, hi⟩ := lex_at f (p + 1) r T (by omega) e
      refine ⟨A, by rw [hA, List.length_cons]; congr 3; omega, fun i h => ?_⟩
      obtain ⟨q, q1, q2, q3, q4⟩ := hi i h
      exact ⟨q + 1, by omega, by simp; omega, by omega, by rw [List.drop_succ_cons]; exact q4⟩
    · by_cases h2 : c = 35
      · subst h2
        rw [lex_note] at e
        have hl := tw_le line r
        obtain ⟨A, hA, hi⟩ := lex_at f _ _ T (by rw [List.length_drop]; omega) e
        refine ⟨A, by rw [hA, List.length_cons, List.length_drop]; congr 3; omega, fun i h => ?_⟩
        obtain ⟨q, q1, q2, q3, q4⟩ := hi i h
        rw [List.drop_drop] at q4
        rw [List.length_drop] at q2
        exact ⟨q + (1 + (r.takeWhile line).length), by omega, by simp; omega, by omega, by rw [show q + (1 + (r.takeWhile line).length) = (r.takeWhile line).length + q + 1 by omega, List.drop_succ_cons]; exact q4⟩
      · by_cases h3 : (word (c :: r)).err = 0
        · have hw := word_ok c r h3
          rw [lex_word _ _ _ h1 h2 h3] at e
          cases hs : lexF f (p + (word (c :: r)).n) ((c :: r).drop (word (c :: r)).n) with
          | bad a b => rw [hs] at e; cases e
          | ok T' =>
            rw [hs] at e
            cases e
            obtain ⟨A, hA, hi⟩ := lex_at f _ _ T' (by rw [List.length_drop, List.length_cons]; omega) hs
            refine ⟨⟨(word (c :: r)).kind, (word (c :: r)).text, p⟩ :: A, ?_, fun i h => ?_⟩
            · rw [hA, List.length_drop, List.length_cons, List.cons_append]
              congr 4; omega
            · cases i with
              | zero => exact ⟨0, rfl, by simp, Nat.le_refl _, c, r, rfl, h1, h2, h3, rfl, rfl⟩
              | succ i =>
                obtain ⟨q, q1, q2, q3, q4⟩ := hi i (by simpa using h)
                rw [List.drop_drop] at q4
                rw [List.length_drop] at q2
                refine ⟨(word (c :: r)).n + q, ?_, by omega, by omega, q4⟩
                simp only [List.getElem_cons_succ]
                omega
        · rw [lex_bad _ _ _ h1 h2 h3] at e
          cases e

/-- a word and what stands behind it. -/
theorem lex_first (f p : Nat) (t z : List UInt8) (c : UInt8) (hc : t.head? = some c) (h1 : ¬ blank c = true) (h2 : c ≠ 35) (h : (word (t ++ z)).err = 0) (hn : (word (t ++ z)).n = t.length) :
    lexF (f + 1) p (t ++ z) = (lexF f (p + t.length) z).put ⟨(word (t ++ z)).kind, (word (t ++ z)).text, p⟩ := by
  cases t with
  | nil => cases hc
  | cons d t =>
    cases hc
    rw [List.cons_append] at h hn ⊢
    rw [lex_word f p _ h1 h2 h, hn]
    congr 2
    rw [← List.cons_append, List.drop_left]

/-- is it just one name? -/
def isName (s : List UInt8) : Bool := match s with
  | [] => false
  | c :: r => decide (s.length ≤ 16) && low c && r.all nm && !res s
theorem low_not {c : UInt8} (h : low c = true) : ¬ blank c = true ∧ c ≠ 35 ∧ nm c = true := by
  refine ⟨fun hb => ?_, fun e => ?_, by simp [nm, h]⟩
  · simp only [blank, Bool.or_eq_true, beq_iff_eq] at hb
    rcases hb with (rfl | rfl) | rfl <;> exact absurd h (by decide)
  · subst e; exact absurd h (by decide)
theorem name_lex {s : List UInt8} (h : isName s = true) : lx s = .ok [⟨1, s, 0⟩, ⟨0, [], s.length⟩] := by
  cases s with
  | nil => cases h
  | cons c r =>
    simp only [isName, Bool.and_eq_true, decide_eq_true_eq, Bool.not_eq_true', List.all_eq_true] at h
    obtain ⟨⟨⟨h1, h2⟩, h3⟩, h4⟩ := h
    obtain ⟨g1, g2, -⟩ := low_not h2
    have hw : word (c :: r) = ⟨1, r.length + 1, c :: r, 0⟩ := by
      have ht : r.takeWhile nm = r := by have := tw_of nm r [] h3 (by simp); rwa [List.append_nil] at this
      unfold word
      simp only [if_pos h2, ht, nameW, h4, Bool.false_eq_true, if_false, List.length_cons]
      rw [if_neg (by simp at h1; omega)]
    unfold lx
    rw [if_neg (by omega), List.length_cons, lex_word _ _ _ g1 g2 (by rw [hw]), hw]
    simp only [List.drop_succ_cons, List.drop_length, Nat.zero_add]
    rfl
end Go.Proofs.YteghhmomhlnccaaGreatDoor.Lx

/- Words of a source, as they are looked for: sets of bytes, what stands between words. Plain lists, of no program. -/
namespace Go.Proofs.YteghhmomhlnccaaGreatDoor.Lx
open Go.Proofs.YteghhmomhlnccaaGreatDoor
set_option linter.unusedVariables false

def smallL : List UInt8 := [97, 98, 99, 100, 101, 102, 103, 104, 105, 106, 107, 108, 109, 110, 111, 112, 113, 114, 115, 116, 117, 118, 119, 120, 121, 122]
def digitsL : List UInt8 := [48, 49, 50, 51, 52, 53, 54, 55, 56, 57]
def inNamesL : List UInt8 := [97, 98, 99, 100, 101, 102, 103, 104, 105, 106, 107, 108, 109, 110, 111, 112, 113, 114, 115, 116, 117, 118, 119, 120, 121, 122, 48, 49, 50, 51, 52, 53, 54, 55, 56, 57, 95]
def blanksL : List UInt8 := [32, 9, 10]
def singlesL : List UInt8 := [40, 41, 44, 59, 61, 60, 62, 43, 45, 42, 47, 37, 38, 58]
theorem all_bytes (p : UInt8 → Bool) (h : (List.range 256).all (fun n => p (UInt8.ofNat n)) = true) (c : UInt8) : p c = true := by
  have := List.all_eq_true.1 h c.toNat (List.mem_range.2 c.toNat_lt)
  simpa using this
theorem small_eq : (smallL.contains ·) = low := by
  funext c
  have := all_bytes (fun c => smallL.contains c == low c) (by decide +kernel) c
  simpa using this
theorem digits_eq : (digitsL.contains ·) = dig := by
  funext c
  have := all_bytes (fun c => digitsL.contains c == dig c) (by decide +kernel) c
  simpa using this
theorem inNames_eq : (inNamesL.contains ·) = nm := by
  funext c
  have := all_bytes (fun c => inNamesL.contains c == nm c) (by decide +kernel) c
  simpa using this
theorem blanks_eq : (blanksL.contains ·) = blank := by
  funext c
  have := all_bytes (fun c => blanksL.contains c == blank c) (by decide +kernel) c
  simpa using this

theorem dw_drop (p : UInt8 → Bool) : ∀ l : List UInt8, l.dropWhile p = l.drop (l.takeWhile p).length
  | [] => rfl
  | c :: l => by
    by_cases h : p c = true
    · rw [List.dropWhile_cons_of_pos h, List.takeWhile_cons_of_pos h, dw_drop p l]; rfl
    · rw [List.dropWhile_cons_of_neg h, List.takeWhile_cons_of_neg h]; rfl
theorem trim_blanks (l : List UInt8) : Lib.trimLeftS l blanksL = l.drop (l.takeWhile blank).length := by
  rw [Lib.trimLeftS, blanks_eq, dw_drop]

/-- what stands ahead of the first word is left out; in a note, if so. -/
def sk : Bool → List UInt8 → List UInt8
  | _, [] => []
  | false, c :: r => if blank c then sk false r else if c = 35 then sk true r else c :: r
  | true, c :: r => if c = 10 then sk false r else sk true r
theorem sk_nil (b : Bool) : sk b [] = [] := by cases b <;> rfl
theorem sk_blank (l : List UInt8) : sk false (l.drop (l.takeWhile blank).length) = sk false l := by
  induction l with
  | nil => rfl
  | cons c r ih =>
    by_cases h : blank c = true
    · rw [List.takeWhile_cons_of_pos h, sk, if_pos h]; exact ih
    · rw [List.takeWhile_cons_of_neg h]; rfl
theorem sk_note (r : List UInt8) : sk true r = sk false (r.drop ((r.takeWhile line).length + 1)) := by
  induction r with
  | nil => rfl
  | cons c r ih =>
    by_cases h : c = 10
    · subst h
      rw [List.takeWhile_cons_of_neg (by decide), sk, if_pos rfl]; rfl
    · rw [List.takeWhile_cons_of_pos (by simpa [line] using h), sk, if_neg h, ih]; rfl
theorem sk_stop {c : UInt8} (r : List UInt8) (h1 : ¬ blank c = true) (h2 : c ≠ 35) : sk false (c :: r) = c :: r := by
  rw [sk, if_neg h1, if_neg h2]
theorem sk_le : ∀ (b : Bool) (l : List UInt8), (sk b l).length ≤ l.length
  | b, [] => by rw [sk_nil]; exact Nat.le_refl _
  | false, c :: r => by
    have h1 := sk_le false r
    have h2 := sk_le true r
    rw [sk]; simp only [List.length_cons]
    split
    · omega
    · split
      · omega
      · simp
  | true, c :: r => by
    have h1 := sk_le false r
    have h2 := sk_le true r
    rw [sk]; simp only [List.length_cons]
    split <;> omega
theorem sk_drop : ∀ (b : Bool) (l : List UInt8), sk b l = l.drop (l.length - (sk b l).length)
  | b, [] => by rw [sk_nil]; rfl
  | false, c :: r => by
    have h1 := sk_drop false r
    have h2 := sk_drop true r
    have g1 := sk_le false r
    have g2 := sk_le true r
    rw [sk]
    split
    · rw [List.length_cons, show r.length + 1 - (sk false r).length = (r.length - (sk false r).length) + 1 by omega, List.drop_succ_cons]; exact h1
    · split
      · rw [List.length_cons, show r.length + 1 - (sk true r).length = (r.length - (sk true r).length) + 1 by omega, List.drop_succ_cons]; exact h2
      · simp
  | true, c :: r => by
    have h1 := sk_drop false r
    have h2 := sk_drop true r
    have g1 := sk_le false r
    have g2 := sk_le true r
    rw [sk]
    split
    · rw [List.length_cons, show r.length + 1 - (sk false r).length = (r.length - (sk false r).length) + 1 by omega, List.drop_succ_cons]; exact h1
    · rw [List.length_cons, show r.length + 1 - (sk true r).length = (r.length - (sk true r).length) + 1 by omega, List.drop_succ_cons]; exact h2
theorem sk_head : ∀ (b : Bool) (l : List UInt8) {c : UInt8} {r : List UInt8}, sk b l = c :: r → ¬ blank c = true ∧ c ≠ 35
  | b, [], c, r, h => by rw [sk_nil] at h; cases h
  | false, d :: l, c, r, h => by
    rw [sk] at h
    split at h
    · exact sk_head false l h
    · rename_i h1
      split at h
      · exact sk_head true l h
      · rename_i h2
        cases h
        exact ⟨h1, h2⟩
  | true, d :: l, c, r, h => by
    rw [sk] at h
    split at h
    · exact sk_head false l h
    · exact sk_head true l h
theorem sk_of_head {l : List UInt8} (h : ∀ c, l.head? = some c → ¬ blank c = true ∧ c ≠ 35) : sk false l = l := by
  cases l with
  | nil => rfl
  | cons c r => exact sk_stop r (h c rfl).1 (h c rfl).2
theorem sk_sk (l : List UInt8) : sk false (sk false l) = sk false l := by
  refine sk_of_head fun c hc => ?_
  cases h : sk false l with
  | nil => rw [h] at hc; cases hc
  | cons d r => rw [h] at hc; cases hc; exact sk_head false l h

/-- how many bytes stand ahead of the first word. -/
def btw (l : List UInt8) : Nat := l.length - (sk false l).length
theorem btw_le (l : List UInt8) : btw l ≤ l.length := Nat.sub_le _ _
theorem btw_drop (l : List UInt8) : l.drop (btw l) = sk false l := (sk_drop false l).symm
theorem lex_sk : ∀ (f p : Nat) (l : List UInt8), l.length < f → lexF f p l = lexF f (p + btw l) (sk false l)
  | 0, _, l, h => absurd h (Nat.not_lt_zero _)
  | f + 1, p, [], _ => rfl
  | f + 1, p, c :: r, hf => by
    simp only [List.length_cons] at hf
    have g1 := sk_le false r
    have g2 := sk_le true r
    by_cases h1 : blank c = true
    · have e : sk false (c :: r) = sk false r := by rw [sk, if_pos h1]
      have eb : btw (c :: r) = btw r + 1 := by simp only [btw, e, List.length_cons]; omega
      rw [lex_blank _ _ _ h1, lex_sk f (p + 1) r (by omega), eb, e]
      rw [lex_fuel f (f + 1) _ _ (by omega) (by omega)]
      congr 1; omega
    · by_cases h2 : c = 35
      · subst h2
        have e : sk false (35 :: r) = sk true r := by rw [sk, if_neg h1, if_pos rfl]
        have e2 : sk true r = sk false (r.drop (r.takeWhile line).length) := by
          rw [sk_note]
          have hn := tw_next line r
          cases hd : r.drop (r.takeWhile line).length with
          | nil => rw [← List.drop_drop, hd]; rfl
          | cons y z =>
            have hy := hn y (by rw [hd]; rfl)
            have hy' : y = 10 := by simpa [line] using hy
            subst hy'
            rw [← List.drop_drop, hd, sk, if_pos (by decide)]; rfl
        have hl := tw_le line r
        have hlen : (r.drop (r.takeWhile line).length).length = r.length - (r.takeWhile line).length := List.length_drop
        have g3 := sk_le false (r.drop (r.takeWhile line).length)
        have eb : btw (35 :: r) = btw (r.drop (r.takeWhile line).length) + 1 + (r.takeWhile line).length := by simp only [btw, e, e2, List.length_cons, hlen]; omega
        rw [lex_note, lex_sk f _ _ (by omega), eb, e, e2]
        rw [lex_fuel f (f + 1) _ _ (by omega) (by omega)]
        congr 1; omega
      · have e := sk_stop r h1 h2
        rw [btw, e, Nat.sub_self]; rfl

/-! a note's end -/
theorem index_line : ∀ l : List UInt8, Lib.index l [10] = if (l.takeWhile line).length < l.length then ((l.takeWhile line).length : Int) else -1
  | [] => rfl
  | c :: l => by
    have ih := index_line l
    by_cases h : c = 10
    · subst h
      rw [List.takeWhile_cons_of_neg (by decide)]
      simp [Lib.index, List.isPrefixOf]
    · have hp : ([10] : List UInt8).isPrefixOf (c :: l) = false := by
        simp [List.isPrefixOf]; exact fun e => h e.symm
      rw [index_skip hp, List.takeWhile_cons_of_pos (by simpa [line] using h)]
      by_cases hl : (l.takeWhile line).length < l.length
      · rw [if_pos hl] at ih
        have h2 : (c :: l.takeWhile line).length < (c :: l).length := by simp only [List.length_cons]; omega
        rw [if_pos h2, ih, if_neg (by first | (simp; done) | (simp; omega))]
        simp
      · rw [if_neg hl] at ih
        have h2 : ¬ (c :: l.takeWhile line).length < (c :: l).length := by simp only [List.length_cons]; omega
        rw [if_neg h2, ih]; rfl
theorem cut_line (l : List UInt8) : (Lib.cut l [10]).2.1 = l.drop ((l.takeWhile line).length + 1) := by
  have hl := tw_le line l
  rw [Lib.cut, index_line]
  by_cases h : (l.takeWhile line).length < l.length
  · rw [if_pos h, if_pos (by omega)]
    simp
  · rw [if_neg h, if_neg (by decide)]
    rw [List.drop_of_length_le (by omega)]
/-- a round of the search: a note and the blanks behind it. -/
theorem round_note (r : List UInt8) : sk false (35 :: r) = sk false (Lib.trimLeftS (Lib.cut (35 :: r) [10]).2.1 blanksL) := by
  rw [trim_blanks, sk_blank, cut_line, List.takeWhile_cons_of_pos (by decide), List.length_cons, List.drop_succ_cons, sk, if_neg (by decide), if_pos rfl, sk_note]
theorem note_less (l : List UInt8) (h : l ≠ []) : (Lib.trimLeftS (Lib.cut l [10]).2.1 blanksL).length < l.length := by
  rw [trim_blanks, cut_line, List.length_drop, List.length_drop]
  have : 0 < l.length := List.length_pos_iff.2 h
  omega

/-! a word, as it is told -/
theorem res_le : ∀ t : List UInt8, res t = true → t.length ≤ 6 := by
  intro t h
  have h2 : t ∈ reserved := by simpa [res] using h
  revert t
  have : ∀ t ∈ reserved, t.length ≤ 6 := by decide +kernel
  intro t _ h
  exact this t h
/-- what Read tells of a number's digits. -/
theorem told_digits (t : List UInt8) (h : ∀ c ∈ t, dig c = true) : told t = toldInt t := by
  have key : ∀ x : List UInt8, (∃ c ∈ x, dig c = false) → t ≠ x := fun x ⟨c, hc, hd⟩ e => by
    subst e
    rw [h c hc] at hd
    cases hd
  unfold told
  rw [if_neg (key _ ⟨110, by simp, by decide⟩), if_neg (key _ ⟨116, by simp, by decide⟩), if_neg (key _ ⟨102, by simp, by decide⟩), if_neg]
  cases t with
  | nil => simp
  | cons c r =>
    simp only [List.head?_cons, Option.some.injEq]
    intro e
    have := h c (by simp)
    rw [e] at this
    exact absurd this (by decide)
theorem toldInt_err (t : List UInt8) : (toldInt t).e = (numErr t : Nat) := by
  unfold toldInt numErr
  split
  · rfl
  · split <;> rfl
/-- what Read tells of a text in its marks. -/
theorem told_text (u : List UInt8) : told (quo u) = if u.length ≤ 200 then ⟨2, 0, u, 0⟩ else ⟨0, 0, [], 7⟩ := by
  unfold told
  rw [if_neg (by simp [quo]), if_neg (by simp [quo]), if_neg (by simp [quo]), if_pos (by simp [quo])]
  by_cases h : u.length ≤ 200
  · rw [toldText_quo u h, if_pos h]
  · rw [if_neg h]
    refine toldText_not _ (by simp [quo]) fun v hv e => h ?_
    have e2 : esc v ++ [39] = esc u ++ [39] := by simpa [quo] using e
    have : some v = some u := by rw [← unq_esc v, ← unq_esc u, e2]
    cases this
    exact hv
end Go.Proofs.YteghhmomhlnccaaGreatDoor.Lx
