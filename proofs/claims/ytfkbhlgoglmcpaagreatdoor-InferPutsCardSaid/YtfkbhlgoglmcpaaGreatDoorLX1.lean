/- A source's words: plain lists. Of no program. -/
import Derived.Test.YtfkbhlgoglmcpaaGreatDoorC2
import Derived.Test.YtfkbhlgoglmcpaaGreatDoorQ1
namespace Go.Proofs.YtfkbhlgoglmcpaaGreatDoor.Lx
open Go.Proofs.YtfkbhlgoglmcpaaGreatDoor
set_option linter.unusedVariables false

def blank (c : UInt8) : Bool := c == 32 || c == 9 || c == 10
def low (c : UInt8) : Bool := decide (97 ≤ c.toNat ∧ c.toNat ≤ 122)
def nm (c : UInt8) : Bool := low c || dig c || c == 95
def line (c : UInt8) : Bool := c != 10
def reserved : List (List UInt8) := ["add", "drop", "rename", "split", "merge", "retype", "into", "to", "back", "and", "or", "not", "true", "false", "null", "int", "text", "bool", "select", "where", "from", "limit"].map fun s => s.toUTF8.data.toList
def res (t : List UInt8) : Bool := reserved.contains t
def single (c : UInt8) : Bool := [40, 41, 44, 59, 61, 60, 62, 43, 45, 42, 47, 37, 38, 58].contains c
def pre2 (c : UInt8) : Bool := c == 60 || c == 62 || c == 33
def numErr (t : List UInt8) : Nat := if re t = 0 then 0 else if re t = 4 then 4 else 7

/-- a text behind its first mark: its bytes, how many it takes with its last mark, whether that is there. -/
def qt : List UInt8 → List UInt8 × Nat × Bool
  | [] => ([], 0, false)
  | c :: r => if c = 39 then (match r with
      | [] => ([], 1, true)
      | d :: r' => if d = 39 then (39 :: (qt r').1, (qt r').2.1 + 2, (qt r').2.2) else ([], 1, true))
    else (c :: (qt r).1, (qt r).2.1 + 1, (qt r).2.2)

structure Wd where
  kind : Nat
  n : Nat
  text : List UInt8
  err : Nat

def nameW (t : List UInt8) : Wd := ⟨if res t then 2 else 1, t.length, t, if res t then 0 else if 16 < t.length then 3 else 0⟩
def numW (t : List UInt8) : Wd := ⟨3, t.length, t, numErr t⟩
def textW (q : List UInt8 × Nat × Bool) : Wd := ⟨4, q.2.1 + 1, q.1, if q.2.2 then (if 200 < q.1.length then 3 else 0) else 7⟩
/-- the word at the beginning. -/
def word : List UInt8 → Wd
  | [] => ⟨0, 0, [], 7⟩
  | c :: r =>
    if low c then nameW (c :: r.takeWhile nm)
    else if dig c then numW (c :: r.takeWhile dig)
    else if c = 39 then textW (qt r)
    else if pre2 c && r.head? == some 61 then ⟨5, 2, [c, 61], 0⟩
    else ⟨5, 1, [c], if single c then 0 else 7⟩

structure Tk where
  kind : Nat
  text : List UInt8
  at_ : Nat
deriving DecidableEq

inductive Out where
  | ok (l : List Tk)
  | bad (code at_ : Nat)
deriving DecidableEq
def Out.put (t : Tk) : Out → Out
  | ok l => ok (t :: l)
  | bad c a => bad c a

def lexF : Nat → Nat → List UInt8 → Out
  | 0, _, _ => .bad 0 0
  | _ + 1, p, [] => .ok [⟨0, [], p⟩]
  | f + 1, p, c :: r =>
    if blank c then lexF f (p + 1) r
    else if c = 35 then lexF f (p + 1 + (r.takeWhile line).length) (r.drop (r.takeWhile line).length)
    else if (word (c :: r)).err = 0 then (lexF f (p + (word (c :: r)).n) ((c :: r).drop (word (c :: r)).n)).put ⟨(word (c :: r)).kind, (word (c :: r)).text, p⟩
    else .bad (word (c :: r)).err p
def lx (l : List UInt8) : Out := if 4000 < l.length then .bad 3 0 else lexF (l.length + 1) 0 l

/-! what takeWhile takes -/
theorem tw_le (p : UInt8 → Bool) : ∀ l : List UInt8, (l.takeWhile p).length ≤ l.length
  | [] => Nat.le_refl _
  | c :: l => by
    have := tw_le p l
    unfold List.takeWhile
    split <;> simp <;> omega
theorem tw_take (p : UInt8 → Bool) : ∀ l : List UInt8, l.take (l.takeWhile p).length = l.takeWhile p
  | [] => rfl
  | c :: l => by
    have := tw_take p l
    unfold List.takeWhile
    split
    · simp [this]
    · rfl
theorem tw_all (p : UInt8 → Bool) : ∀ (l : List UInt8) (x : UInt8), x ∈ l.takeWhile p → p x = true
  | [], x, h => by simp at h
  | c :: l, x, h => by
    unfold List.takeWhile at h
    split at h
    · rcases List.mem_cons.1 h with rfl | h
      · assumption
      · exact tw_all p l x h
    · simp at h
theorem tw_next (p : UInt8 → Bool) : ∀ (l : List UInt8) (x : UInt8), (l.drop (l.takeWhile p).length).head? = some x → p x = false
  | [], x, h => by simp at h
  | c :: l, x, h => by
    by_cases hc : p c = true
    · rw [List.takeWhile_cons_of_pos hc] at h
      exact tw_next p l x h
    · rw [List.takeWhile_cons_of_neg hc] at h
      simp at h
      subst h
      simpa using hc
/-- all of a, and what stands behind does not go on. -/
theorem tw_of (p : UInt8 → Bool) : ∀ (a z : List UInt8), (∀ x ∈ a, p x = true) → (∀ x, z.head? = some x → p x = false) → (a ++ z).takeWhile p = a
  | [], z, _, hz => by
    cases z with
    | nil => rfl
    | cons y z => rw [List.nil_append, List.takeWhile_cons_of_neg (by rw [hz y rfl]; simp)]
  | c :: a, z, ha, hz => by
    rw [List.cons_append, List.takeWhile_cons_of_pos (ha c (by simp)), tw_of p a z (fun x hx => ha x (by simp [hx])) hz]
theorem tw_split (p : UInt8 → Bool) : ∀ (a z : List UInt8), ((a ++ z).takeWhile p).length = a.length → (∀ x ∈ a, p x = true) ∧ (∀ x, z.head? = some x → p x = false)
  | [], z, h => by
    refine ⟨by simp, fun x hx => ?_⟩
    have := tw_next p z x
    rw [List.nil_append] at h
    rw [h] at this
    exact this hx
  | c :: a, z, h => by
    by_cases hc : p c = true
    · rw [List.cons_append, List.takeWhile_cons_of_pos hc] at h
      have ih := tw_split p a z (by simpa using h)
      exact ⟨fun x hx => by rcases List.mem_cons.1 hx with rfl | hx; exact hc; exact ih.1 x hx, ih.2⟩
    · rw [List.cons_append, List.takeWhile_cons_of_neg hc] at h
      simp at h
/-- cut: what is taken of a longer one that begins so, and goes on so or with a blank. -/
def Like (z z' : List UInt8) : Prop := z'.head? = z.head? ∨ z'.head? = some 32
theorem tw_like (p : UInt8 → Bool) (hp : p 32 = false) (a z z' : List UInt8) (h : ((a ++ z).takeWhile p).length = a.length) (hz : Like z z') : (a ++ z').takeWhile p = a ∧ (a ++ z).takeWhile p = a := by
  obtain ⟨h1, h2⟩ := tw_split p a z h
  refine ⟨tw_of p a z' h1 fun x hx => ?_, tw_of p a z h1 h2⟩
  rcases hz with e | e
  · exact h2 x (e ▸ hx)
  · rw [e] at hx; cases hx; exact hp

/-! texts in marks -/
theorem qt_take : ∀ (l : List UInt8), (qt l).2.2 = true → l.take (qt l).2.1 = esc (qt l).1 ++ [39] ∧ (qt l).2.1 ≤ l.length
  | [], h => by simp [qt] at h
  | [c], h => by
    by_cases hc : c = 39
    · subst hc; simp [qt, esc]
    · simp [qt, hc] at h
  | c :: d :: r, h => by
    unfold qt at h ⊢
    by_cases hc : c = 39
    · subst hc
      by_cases hd : d = 39
      · subst hd
        simp only [if_true] at h ⊢
        obtain ⟨i1, i2⟩ := qt_take r h
        refine ⟨?_, by simp; omega⟩
        simp [esc, i1]
      · simp [hd, esc]
    · simp only [if_neg hc] at h ⊢
      obtain ⟨i1, i2⟩ := qt_take (d :: r) h
      refine ⟨?_, by simp at i2 ⊢; omega⟩
      simp [esc, hc, i1]
theorem qt_esc : ∀ (u z : List UInt8), z.head? ≠ some 39 → qt (esc u ++ 39 :: z) = (u, (esc u).length + 1, true)
  | [], z, hz => by
    cases z with
    | nil => rfl
    | cons d z =>
      have : d ≠ 39 := by simpa using hz
      simp [esc, qt, this]
  | c :: u, z, hz => by
    have ih := qt_esc u z hz
    by_cases hc : c = 39
    · subst hc
      simp [esc, qt, ih]
    · simp only [esc, if_neg hc, List.cons_append]
      unfold qt
      rw [if_neg hc, ih]
      rfl
theorem qt_next : ∀ (l : List UInt8), (qt l).2.2 = true → (l.drop (qt l).2.1).head? ≠ some 39
  | [], h => by simp [qt] at h
  | [c], h => by
    by_cases hc : c = 39
    · subst hc; simp [qt]
    · simp [qt, hc] at h
  | c :: d :: r, h => by
    unfold qt at h ⊢
    by_cases hc : c = 39
    · subst hc
      by_cases hd : d = 39
      · subst hd
        simp only [if_true] at h ⊢
        exact qt_next r h
      · simp [hd]
    · simp only [if_neg hc] at h ⊢
      exact qt_next (d :: r) h
theorem qt_at (l : List UInt8) (h : (qt l).2.2 = true) : l = esc (qt l).1 ++ 39 :: l.drop (qt l).2.1 := by
  have := (qt_take l h).1
  calc l = l.take (qt l).2.1 ++ l.drop (qt l).2.1 := (List.take_append_drop _ _).symm
    _ = _ := by rw [this]; simp
theorem qt_n (l : List UInt8) (h : (qt l).2.2 = true) : (qt l).2.1 = (esc (qt l).1).length + 1 := by
  have h1 := (qt_take l h).1
  have h2 := (qt_take l h).2
  have := congrArg List.length h1
  rw [List.length_take] at this
  simp at this
  omega

/-! a word -/
theorem low32 : low 32 = false := by decide
theorem nm32 : nm 32 = false := by decide
theorem dig32 : dig 32 = false := by decide
theorem word_ok (c : UInt8) (r : List UInt8) (h : (word (c :: r)).err = 0) : 1 ≤ (word (c :: r)).n ∧ (word (c :: r)).n ≤ r.length + 1 := by
  have h1 := tw_le nm r
  have h2 := tw_le dig r
  unfold word at h ⊢
  by_cases n1 : low c = true
  · simp only [if_pos n1, nameW, List.length_cons]; omega
  · simp only [if_neg n1] at h ⊢
    by_cases n2 : dig c = true
    · simp only [if_pos n2, numW, List.length_cons]; omega
    · simp only [if_neg n2] at h ⊢
      by_cases n3 : c = 39
      · simp only [if_pos n3] at h ⊢
        have hq : (qt r).2.2 = true := by
          cases e : (qt r).2.2
          · simp [textW, e] at h
          · rfl
        have := (qt_take r hq).2
        simp only [textW]; omega
      · simp only [if_neg n3] at h ⊢
        by_cases n4 : (pre2 c && r.head? == some 61) = true
        · simp only [if_pos n4]
          have : 1 ≤ r.length := by
            cases r with
            | nil => simp at n4
            | cons => simp
          omega
        · simp only [if_neg n4]; omega
/-- a word is the same, whatever stands behind, so long as what is next is the same, or a blank. -/
theorem word_like (t z z' : List UInt8) (ht : t ≠ []) (h : (word (t ++ z)).err = 0) (hn : (word (t ++ z)).n = t.length) (hz : Like z z') : word (t ++ z') = word (t ++ z) := by
  cases t with
  | nil => exact absurd rfl ht
  | cons c t =>
    rw [List.cons_append] at h hn ⊢
    rw [List.cons_append]
    unfold word at h hn ⊢
    by_cases h1 : low c = true
    · simp only [if_pos h1] at h hn ⊢
      obtain ⟨e1, e2⟩ := tw_like nm nm32 t z z' (by simpa [nameW] using hn) hz
      rw [e1, e2]
    · simp only [if_neg h1] at h hn ⊢
      by_cases h2 : dig c = true
      · simp only [if_pos h2] at h hn ⊢
        obtain ⟨e1, e2⟩ := tw_like dig dig32 t z z' (by simpa [numW] using hn) hz
        rw [e1, e2]
      · simp only [if_neg h2] at h hn ⊢
        by_cases h3 : c = 39
        · simp only [if_pos h3] at h hn ⊢
          have hq : (qt (t ++ z)).2.2 = true := by
            cases e : (qt (t ++ z)).2.2
            · simp [textW, e] at h
            · rfl
          have hq1 := qt_at _ hq
          have hq2 := qt_n _ hq
          have hq3 := qt_next _ hq
          have hn' : (qt (t ++ z)).2.1 = t.length := by simpa [textW] using hn
          rw [hn'] at hq1 hq2 hq3
          rw [List.drop_left] at hq1 hq3
          obtain ⟨u, hu⟩ : ∃ u, (qt (t ++ z)).1 = u := ⟨_, rfl⟩
          rw [hu] at hq1 hq2
          have ht : t = esc u ++ [39] := by
            have : t ++ z = (esc u ++ [39]) ++ z := by rw [hq1]; simp
            exact List.append_cancel_right this
          rw [ht]
          simp only [List.append_assoc, List.cons_append, List.nil_append]
          rw [qt_esc u z hq3, qt_esc u z' (by rcases hz with e | e; rw [e]; exact hq3; rw [e]; simp)]
        · simp only [if_neg h3] at h hn ⊢
          by_cases h4 : (pre2 c && (t ++ z).head? == some 61) = true
          · simp only [if_pos h4] at h hn ⊢
            cases t with
            | nil => simp at hn
            | cons d t =>
              have h4' : (pre2 c && ((d :: t) ++ z').head? == some 61) = true := h4
              rw [if_pos h4']
          · simp only [if_neg h4] at h hn ⊢
            cases t with
            | cons d t => simp at hn
            | nil =>
              rw [List.nil_append] at h4 ⊢
              rw [if_neg]
              rcases hz with e | e
              · rw [e]; exact h4
              · rw [e]; simp
/-- how a word is written. -/
def spelt (k : Nat) (t : List UInt8) : List UInt8 := if k = 4 then quo t else t
theorem word_spelt (c : UInt8) (r : List UInt8) (h : (word (c :: r)).err = 0) : (c :: r).take (word (c :: r)).n = spelt (word (c :: r)).kind (word (c :: r)).text := by
  unfold word at h ⊢
  by_cases h1 : low c = true
  · simp only [if_pos h1] at h ⊢
    have : (nameW (c :: r.takeWhile nm)).kind ≠ 4 := by unfold nameW; simp only; split <;> decide
    rw [spelt, if_neg this]
    simp [nameW, tw_take]
  · simp only [if_neg h1] at h ⊢
    by_cases h2 : dig c = true
    · simp only [if_pos h2] at h ⊢
      rw [spelt, if_neg (by simp [numW])]
      simp [numW, tw_take]
    · simp only [if_neg h2] at h ⊢
      by_cases h3 : c = 39
      · simp only [if_pos h3] at h ⊢
        have hq : (qt r).2.2 = true := by
          cases e : (qt r).2.2
          · simp [textW, e] at h
          · rfl
        rw [spelt, if_pos (by simp [textW])]
        simp only [textW, List.take_succ_cons, (qt_take r hq).1]
        rw [h3]; rfl
      · simp only [if_neg h3] at h ⊢
        by_cases h4 : (pre2 c && r.head? == some 61) = true
        · simp only [if_pos h4] at h ⊢
          rw [spelt, if_neg (by decide)]
          cases r with
          | nil => simp at h4
          | cons d r => simp at h4; simp [h4.2]
        · simp only [if_neg h4] at h ⊢
          rw [spelt, if_neg (by decide)]
          simp
theorem word_kind (c : UInt8) (r : List UInt8) : (word (c :: r)).kind ≠ 0 := by
  unfold word
  by_cases h1 : low c = true
  · simp only [if_pos h1, nameW]; split <;> decide
  · simp only [if_neg h1]
    by_cases h2 : dig c = true
    · simp only [if_pos h2, numW]; decide
    · simp only [if_neg h2]
      by_cases h3 : c = 39
      · simp only [if_pos h3, textW]; decide
      · simp only [if_neg h3]
        by_cases h4 : (pre2 c && r.head? == some 61) = true
        · simp only [if_pos h4]; decide
        · simp only [if_neg h4]; decide
end Go.Proofs.YtfkbhlgoglmcpaaGreatDoor.Lx
