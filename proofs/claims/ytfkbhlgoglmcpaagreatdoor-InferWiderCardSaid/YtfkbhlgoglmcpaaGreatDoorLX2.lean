/- Words of a source: gaps play no part; each alone is the same; names. Plain lists, of no program. -/
import Derived.Test.YtfkbhlgoglmcpaaGreatDoorLX1
namespace Go.Proofs.YtfkbhlgoglmcpaaGreatDoor.Lx
open Go.Proofs.YtfkbhlgoglmcpaaGreatDoor
set_option linter.unusedVariables false

theorem lex_nil (f p : Nat) : lexF (f + 1) p [] = .ok [⟨0, [], p⟩] := rfl
theorem lex_blank (f p : Nat) {c : UInt8} (r : List UInt8) (h : blank c = true) : lexF (f + 1) p (c :: r) = lexF f (p + 1) r := by
  rw [lexF, if_pos h]
theorem lex_note (f p : Nat) (r : List UInt8) : lexF (f + 1) p (35 :: r) = lexF f (p + 1 + (r.takeWhile line).length) (r.drop (r.takeWhile line).length) := by
  rw [lexF, if_neg (by decide), if_pos rfl]
theorem lex_word (f p : Nat) {c : UInt8} (r : List UInt8) (h1 : ¬ blank c = true) (h2 : c ≠ 35) (h : (word (c :: r)).err = 0) :
    lexF (f + 1) p (c :: r) = (lexF f (p + (word (c :: r)).n) ((c :: r).drop (word (c :: r)).n)).put ⟨(word (c :: r)).kind, (word (c :: r)).text, p⟩ := by
  rw [lexF, if_neg h1, if_neg h2, if_pos h]
theorem lex_bad (f p : Nat) {c : UInt8} (r : List UInt8) (h1 : ¬ blank c = true) (h2 : c ≠ 35) (h : (word (c :: r)).err ≠ 0) :
    lexF (f + 1) p (c :: r) = .bad (word (c :: r)).err p := by
  rw [lexF, if_neg h1, if_neg h2, if_neg h]

/-- more fuel than bytes: it plays no part. -/
theorem lex_fuel : ∀ (f g p : Nat) (l : List UInt8), l.length < f → l.length < g → lexF f p l = lexF g p l
  | 0, _, _, l, h, _ => absurd h (Nat.not_lt_zero _)
  | _, 0, _, l, _, h => absurd h (Nat.not_lt_zero _)
  | f + 1, g + 1, p, [], _, _ => rfl
  | f + 1, g + 1, p, c :: r, hf, hg => by
    simp only [List.length_cons] at hf hg
    by_cases h1 : blank c = true
    · rw [lex_blank _ _ _ h1, lex_blank _ _ _ h1]
      exact lex_fuel f g _ r (by omega) (by omega)
    · by_cases h2 : c = 35
      · subst h2
        rw [lex_note, lex_note]
        exact lex_fuel f g _ _ (by rw [List.length_drop]; omega) (by rw [List.length_drop]; omega)
      · by_cases h3 : (word (c :: r)).err = 0
        · have := word_ok c r h3
          rw [lex_word _ _ _ h1 h2 h3, lex_word _ _ _ h1 h2 h3, lex_fuel f g _ _ (by rw [List.length_drop, List.length_cons]; omega) (by rw [List.length_drop, List.length_cons]; omega)]
        · rw [lex_bad _ _ _ h1 h2 h3, lex_bad _ _ _ h1 h2 h3]

def Tk.far (d : Nat) (t : Tk) : Tk := ⟨t.kind, t.text, t.at_ + d⟩
def Out.far (d : Nat) : Out → Out
  | .ok l => .ok (l.map (Tk.far d))
  | .bad c a => .bad c (a + d)
theorem far_put (d : Nat) (t : Tk) (o : Out) : (o.put t).far d = (o.far d).put (t.far d) := by cases o <;> rfl
theorem lex_far (d : Nat) : ∀ (f p : Nat) (l : List UInt8), l.length < f → lexF f (p + d) l = (lexF f p l).far d
  | 0, _, l, h => absurd h (Nat.not_lt_zero _)
  | f + 1, p, [], _ => rfl
  | f + 1, p, c :: r, hf => by
    simp only [List.length_cons] at hf
    by_cases h1 : blank c = true
    · rw [lex_blank _ _ _ h1, lex_blank _ _ _ h1, ← lex_far d f (p + 1) r (by omega)]
      congr 1; omega
    · by_cases h2 : c = 35
      · subst h2
        rw [lex_note, lex_note, ← lex_far d f _ _ (by rw [List.length_drop]; omega)]
        congr 1; omega
      · by_cases h3 : (word (c :: r)).err = 0
        · have := word_ok c r h3
          rw [lex_word _ _ _ h1 h2 h3, lex_word _ _ _ h1 h2 h3, far_put, ← lex_far d f _ _ (by rw [List.length_drop, List.length_cons]; omega)]
          rw [show p + d + (word (c :: r)).n = p + (word (c :: r)).n + d by omega]
          rfl
        · rw [lex_bad _ _ _ h1 h2 h3, lex_bad _ _ _ h1 h2 h3]
          rfl

/-- where the words stand: the end at the end, each other one at a byte that begins one; the first one no sooner than here, the others behind it. -/
theorem lex_at : ∀ (f p : Nat) (l : List UInt8) (T : List Tk), l.length < f → lexF f p l = .ok T →
    ∃ (A : List Tk), T = A ++ [⟨0, [], p + l.length⟩] ∧ ∀ i (h : i < A.length), ∃ q, A[i].at_ = p + q ∧ q < l.length ∧ i ≤ q ∧ (∃ c r, l.drop q = c :: r ∧ ¬ blank c = true ∧ c ≠ 35 ∧ (word (c :: r)).err = 0 ∧ A[i].kind = (word (c :: r)).kind ∧ A[i].text = (word (c :: r)).text)
  | 0, _, l, _, h, _ => absurd h (Nat.not_lt_zero _)
  | f + 1, p, [], T, _, e => by
    rw [lex_nil] at e
    cases e
    exact ⟨[], rfl, fun i h => absurd h (Nat.not_lt_zero _)⟩
  | f + 1, p, c :: r, T, hf, e => by
    simp only [List.length_cons] at hf
    by_cases h1 : blank c = true
    · rw [lex_blank _ _ _ h1] at e
      obtain ⟨A, hA, hi⟩ := lex_at f (p + 1) r T (by omega) e
      refine ⟨A, by rw [hA, List.length_cons]; congr 3; omega, fun i h => ?_⟩
      obtain ⟨q, q1, q2, q3, q4⟩ := hi i h
      exact ⟨q + 1, by omega, by simp; omega, by omega, by rw [List.drop_succ_cons]; exact q4⟩
    · by_cases h2 : c = 35
      · subst h2
        rw [lex_note] at e
        have hl := tw_le line r
        obtain ⟨A, hA, hi⟩ := lex_at f _ _ T (by rw [List.length_drop]; omega) e
        refine ⟨A, by rw [hA, List.length_cons, List.length_drop]; congr 3; omega, fun i h => ?_⟩
        obtain ⟨q, q1, q2, q3, q4⟩ := hi i h
        rw [List.drop_drop] at q4
        rw [List.length_drop] at q2
        exact ⟨q + (1 + (r.takeWhile line).length), by omega, by simp; omega, by omega, by rw [show q + (1 + (r.takeWhile line).length) = (r.takeWhile line).length + q + 1 by omega, List.drop_succ_cons]; exact q4⟩
      · by_cases h3 : (word (c :: r)).err = 0
        · have hw := word_ok c r h3
          rw [lex_word _ _ _ h1 h2 h3] at e
          cases hs : lexF f (p + (word (c :: r)).n) ((c :: r).drop (word (c :: r)).n) with
          | bad a b => rw [hs] at e; cases e
          | ok T' =>
            rw [hs] at e
            cases e
            obtain ⟨A, hA, hi⟩ := lex_at f _ _ T' (by rw [List.length_drop, List.length_cons]; omega) hs
            refine ⟨⟨(word (c :: r)).kind, (word (c :: r)).text, p⟩ :: A, ?_, fun i h => ?_⟩
            · rw [hA, List.length_drop, List.length_cons, List.cons_append]
              congr 4; omega
            · cases i with
              | zero => exact ⟨0, rfl, by simp, Nat.le_refl _, c, r, rfl, h1, h2, h3, rfl, rfl⟩
              | succ i =>
                obtain ⟨q, q1, q2, q3, q4⟩ := hi i (by simpa using h)
                rw [List.drop_drop] at q4
                rw [List.length_drop] at q2
                refine ⟨(word (c :: r)).n + q, ?_, by omega, by omega, q4⟩
                simp only [List.getElem_cons_succ]
                omega
        · rw [lex_bad _ _ _ h1 h2 h3] at e
          cases e

/-- a word and what stands behind it. -/
theorem lex_first (f p : Nat) (t z : List UInt8) (c : UInt8) (hc : t.head? = some c) (h1 : ¬ blank c = true) (h2 : c ≠ 35) (h : (word (t ++ z)).err = 0) (hn : (word (t ++ z)).n = t.length) :
    lexF (f + 1) p (t ++ z) = (lexF f (p + t.length) z).put ⟨(word (t ++ z)).kind, (word (t ++ z)).text, p⟩ := by
  cases t with
  | nil => cases hc
  | cons d t =>
    cases hc
    rw [List.cons_append] at h hn ⊢
    rw [lex_word f p _ h1 h2 h, hn]
    congr 2
    rw [← List.cons_append, List.drop_left]

/-- a gap: what is read over. -/
def gap (note : List UInt8) : List UInt8 := 32 :: 9 :: 35 :: (note ++ [10, 32])
theorem gap_length (note : List UInt8) : (gap note).length = note.length + 5 := by simp [gap]
theorem lex_gap (f p : Nat) (note l : List UInt8) (hn : ∀ c ∈ note, c ≠ 10) (hf : l.length < f) : lexF (f + 5) p (gap note ++ l) = lexF f (p + (note.length + 5)) l := by
  unfold gap
  simp only [List.cons_append]
  rw [lex_blank _ _ _ (by decide), lex_blank _ _ _ (by decide), lex_note]
  have ht : ((note ++ [10, 32] ++ l).takeWhile line) = note := by
    rw [List.append_assoc]
    refine tw_of line note _ (fun x hx => by simpa [line] using hn x hx) fun x hx => ?_
    simp at hx
    subst hx
    decide
  rw [ht, List.append_assoc, List.drop_left]
  show lexF (f + 1 + 1) _ (10 :: 32 :: l) = _
  rw [lex_blank _ _ _ (by decide), lex_blank _ _ _ (by decide)]
  congr 1; omega

/-- a gap ahead of a word that is not the end. -/
theorem lex_gaps (note : List UInt8) (hn : ∀ c ∈ note, c ≠ 10) : ∀ (f p : Nat) (l : List UInt8) (T : List Tk), l.length < f → lexF f p l = .ok T → ∀ k (hk : k + 1 < T.length) q, T[k].at_ = p + q →
    lexF (f + (note.length + 5)) p (l.take q ++ (gap note ++ l.drop q)) = .ok (T.take k ++ (T.drop k).map (Tk.far (note.length + 5)))
  | 0, _, l, _, h, _ => absurd h (Nat.not_lt_zero _)
  | f + 1, p, [], T, _, e => fun k hk => by
    rw [lex_nil] at e
    cases e
    simp at hk
  | f + 1, p, c :: r, T, hf, e => fun k hk q hq => by
    have hf' := hf
    simp only [List.length_cons] at hf
    obtain ⟨A, hA, hi⟩ := lex_at _ _ _ _ hf' e
    have hkA : k < A.length := by rw [hA] at hk; simp at hk; omega
    obtain ⟨q', q1, q2, q3, d, z, q4, q5, q6, q7, -⟩ := hi k hkA
    have hTk : T[k] = A[k] := by subst hA; rw [List.getElem_append_left hkA]
    have hqq : q' = q := by rw [hTk] at hq; omega
    subst hqq
    by_cases h0 : q' = 0
    · have hk0 : k = 0 := by omega
      subst h0 hk0
      simp only [List.take_zero, List.nil_append, List.drop_zero]
      have e1 := lex_gap (f + 1 + note.length) p note (c :: r) hn (by simp; omega)
      rw [show f + 1 + (note.length + 5) = f + 1 + note.length + 5 by omega, e1, lex_far _ _ _ _ (by simp; omega), lex_fuel _ (f + 1) _ _ (by simp; omega) (by simp; omega), e]
      rfl
    · obtain ⟨q, rfl⟩ : ∃ q, q' = q + 1 := ⟨q' - 1, by omega⟩
      by_cases h1 : blank c = true
      · rw [lex_blank _ _ _ h1] at e
        have ih := lex_gaps note hn f (p + 1) r T (by omega) e k hk q (by omega)
        rw [List.take_succ_cons, List.drop_succ_cons, List.cons_append, show f + 1 + (note.length + 5) = f + (note.length + 5) + 1 by omega, lex_blank _ _ _ h1]
        exact ih
      · by_cases h2 : c = 35
        · subst h2
          rw [lex_note] at e
          have hl := tw_le line r
          have htk := tw_take line r
          have htn := tw_next line r
          have hall := tw_all line r
          generalize hm : (r.takeWhile line).length = m at e hl htk htn
          have hlen : (r.drop m).length < f := by rw [List.length_drop]; omega
          obtain ⟨B, hB, hj⟩ := lex_at _ _ _ _ hlen e
          have hkB : k < B.length := by rw [hB] at hk; simp at hk; omega
          obtain ⟨j, j1, j2, -, d', z', j4, j5, -, -, -⟩ := hj k hkB
          have hTB : T[k] = B[k] := by subst hB; rw [List.getElem_append_left hkB]
          have hq2 : q = m + j := by rw [hTB] at hq; omega
          subst hq2
          have hj0 : j ≠ 0 := by
            intro h
            subst h
            rw [List.drop_zero] at j4
            have := htn d' (by rw [j4]; rfl)
            have : d' = 10 := by simpa [line] using this
            subst this
            exact j5 (by decide)
          have ih := lex_gaps note hn f (p + 1 + m) (r.drop m) T hlen e k hk j (by omega)
          rw [List.take_succ_cons, List.drop_succ_cons, List.cons_append, show f + 1 + (note.length + 5) = f + (note.length + 5) + 1 by omega, lex_note]
          have hcut : r.take (m + j) = r.takeWhile line ++ (r.drop m).take j := by
            rw [List.take_add, htk]
          have htw : ((r.take (m + j) ++ (gap note ++ r.drop (m + j))).takeWhile line) = r.takeWhile line := by
            rw [hcut, List.append_assoc]
            refine tw_of line _ _ hall fun x hx => ?_
            cases hz : r.drop m with
            | nil => rw [hz] at j2; simp at j2
            | cons y z =>
              rw [hz] at hx
              obtain ⟨j', rfl⟩ : ∃ j', j = j' + 1 := ⟨j - 1, by omega⟩
              rw [List.take_succ_cons, List.cons_append, List.head?_cons] at hx
              cases hx
              exact htn x (by rw [hz]; rfl)
          rw [htw, hm, hcut, List.append_assoc, ← hm, List.drop_left, hm, ← List.drop_drop]
          exact ih
        · by_cases h3 : (word (c :: r)).err = 0
          · have hw := word_ok c r h3
            have hkd := word_spelt c r h3
            rw [lex_word _ _ _ h1 h2 h3] at e
            cases hs : lexF f (p + (word (c :: r)).n) ((c :: r).drop (word (c :: r)).n) with
            | bad a b => rw [hs] at e; cases e
            | ok T' =>
              rw [hs] at e
              cases e
              cases k with
              | zero => simp at hq
              | succ k =>
                simp only [List.getElem_cons_succ] at hq
                have hk' : k + 1 < T'.length := by simpa using hk
                obtain ⟨n, hnn⟩ : ∃ n, (word (c :: r)).n = n := ⟨_, rfl⟩
                rw [hnn] at hs hw
                have hlen : ((c :: r).drop n).length < f := by rw [List.length_drop, List.length_cons]; omega
                obtain ⟨B, hB, hj⟩ := lex_at _ _ _ _ hlen hs
                have hkB : k < B.length := by rw [hB] at hk'; simp at hk'; omega
                obtain ⟨j, j1, j2, -, d', z', j4, -⟩ := hj k hkB
                have hTB : T'[k] = B[k] := by subst hB; rw [List.getElem_append_left hkB]
                have hq2 : q + 1 = n + j := by rw [hTB] at hq; omega
                have ih := lex_gaps note hn f (p + n) ((c :: r).drop n) T' hlen hs k hk' j (by omega)
                obtain ⟨t, ht⟩ : ∃ t, (c :: r).take n = t := ⟨_, rfl⟩
                obtain ⟨z, hz⟩ : ∃ z, (c :: r).drop n = z := ⟨_, rfl⟩
                have hcz : c :: r = t ++ z := by rw [← ht, ← hz, List.take_append_drop]
                have htl : t.length = n := by rw [← ht, List.length_take, List.length_cons]; omega
                have hth : t.head? = some c := by
                  rw [← ht]
                  obtain ⟨n', rfl⟩ : ∃ n', n = n' + 1 := ⟨n - 1, by omega⟩
                  rfl
                have htn : t ≠ [] := by intro h; rw [h] at hth; cases hth
                rw [hz] at ih j2
                rw [hcz] at h3 hnn ⊢
                rw [hq2, ← htl, List.take_length_add_append, List.drop_length_add_append, List.append_assoc]
                have hlike : Like z (z.take j ++ (gap note ++ z.drop j)) := by
                  cases j with
                  | zero => exact .inr rfl
                  | succ j =>
                    cases z with
                    | nil => simp at j2
                    | cons y z => exact .inl rfl
                have hwl := word_like t z _ htn h3 (by rw [hnn, htl]) hlike
                rw [show f + 1 + (note.length + 5) = f + (note.length + 5) + 1 by omega, lex_first _ _ t _ c hth h1 h2 (by rw [hwl]; exact h3) (by rw [hwl, hnn, htl]), htl, hwl, ih]
                rfl
          · rw [lex_bad _ _ _ h1 h2 h3] at e
            cases e

/-- each word as it is written, a blank behind it. -/
def spell : List Tk → List UInt8
  | [] => []
  | t :: T => spelt t.kind t.text ++ 32 :: spell T
def Tk.bare (t : Tk) : Nat × List UInt8 := (t.kind, t.text)
theorem lex_twice : ∀ (f p : Nat) (l : List UInt8) (A : List Tk) (x : Tk), l.length < f → lexF f p l = .ok (A ++ [x]) → (spell A).length ≤ 2 * l.length ∧
    ∀ g o, (spell A).length < g → ∃ B y, lexF g o (spell A) = .ok (B ++ [y]) ∧ B.map Tk.bare = A.map Tk.bare ∧ y.kind = 0 ∧ y.text = [] ∧ x.kind = 0 ∧ x.text = []
  | 0, _, l, _, _, h, _ => absurd h (Nat.not_lt_zero _)
  | f + 1, p, [], A, x, _, e => by
    rw [lex_nil] at e
    cases A with
    | cons a A => simp at e
    | nil =>
      simp at e
      subst e
      refine ⟨Nat.le_refl _, fun g o hg => ?_⟩
      obtain ⟨g, rfl⟩ : ∃ g', g = g' + 1 := ⟨g - 1, by simp [spell] at hg; omega⟩
      exact ⟨[], ⟨0, [], o⟩, rfl, rfl, rfl, rfl, rfl, rfl⟩
  | f + 1, p, c :: r, A, x, hf, e => by
    simp only [List.length_cons] at hf
    by_cases h1 : blank c = true
    · rw [lex_blank _ _ _ h1] at e
      obtain ⟨i1, i2⟩ := lex_twice f _ r A x (by omega) e
      exact ⟨by simp; omega, i2⟩
    · by_cases h2 : c = 35
      · subst h2
        rw [lex_note] at e
        obtain ⟨i1, i2⟩ := lex_twice f _ _ A x (by rw [List.length_drop]; omega) e
        rw [List.length_drop] at i1
        exact ⟨by simp; omega, i2⟩
      · by_cases h3 : (word (c :: r)).err = 0
        · have hw := word_ok c r h3
          have hsp := word_spelt c r h3
          rw [lex_word _ _ _ h1 h2 h3] at e
          cases hs : lexF f (p + (word (c :: r)).n) ((c :: r).drop (word (c :: r)).n) with
          | bad a b => rw [hs] at e; cases e
          | ok T' =>
            rw [hs] at e
            cases A with
            | nil =>
              simp only [Out.put, List.nil_append, Out.ok.injEq, List.cons.injEq] at e
              obtain ⟨-, rfl⟩ := e
              obtain ⟨B, hB, -⟩ := lex_at _ _ _ _ (by rw [List.length_drop, List.length_cons]; omega) hs
              cases B <;> simp at hB
            | cons a A =>
              simp only [Out.put, List.cons_append, Out.ok.injEq, List.cons.injEq] at e
              obtain ⟨rfl, rfl⟩ := e
              obtain ⟨i1, i2⟩ := lex_twice f _ _ A x (by rw [List.length_drop, List.length_cons]; omega) hs
              obtain ⟨t, ht⟩ : ∃ t, (c :: r).take (word (c :: r)).n = t := ⟨_, rfl⟩
              have htl : t.length = (word (c :: r)).n := by rw [← ht, List.length_take, List.length_cons]; omega
              have hth : t.head? = some c := by
                rw [← ht]
                obtain ⟨n', hn'⟩ : ∃ n', (word (c :: r)).n = n' + 1 := ⟨(word (c :: r)).n - 1, by omega⟩
                rw [hn']
                rfl
              have htn : t ≠ [] := by intro h; rw [h] at hth; cases hth
              rw [List.length_drop, List.length_cons] at i1
              have hsl : spell (⟨(word (c :: r)).kind, (word (c :: r)).text, p⟩ :: A) = t ++ 32 :: spell A := by
                rw [spell, ← hsp, ht]
              rw [hsl]
              refine ⟨by simp; omega, fun g o hg => ?_⟩
              obtain ⟨g, rfl⟩ : ∃ g', g = g' + 1 := ⟨g - 1, by omega⟩
              have hcz : c :: r = t ++ (c :: r).drop (word (c :: r)).n := by rw [← ht, List.take_append_drop]
              have hwl : word (t ++ 32 :: spell A) = word (c :: r) := by
                have h3' := h3
                have hn' := htl.symm
                rw [hcz] at h3'
                have := word_like t ((c :: r).drop (word (c :: r)).n) (32 :: spell A) htn h3' (by rw [← hcz]; exact hn') (.inr rfl)
                rw [← hcz] at this
                exact this
              simp only [List.length_append, List.length_cons] at hg
              have ht0 : t.length ≠ 0 := fun h => htn (List.eq_nil_of_length_eq_zero h)
              obtain ⟨g2, rfl⟩ : ∃ g', g = g' + 1 := ⟨g - 1, by omega⟩
              obtain ⟨B, y, j1, j2, j3⟩ := i2 g2 (o + t.length + 1) (by omega)
              rw [lex_first _ _ t _ c hth h1 h2 (by rw [hwl]; exact h3) (by rw [hwl, htl]), hwl, lex_blank _ _ _ (by decide), j1]
              exact ⟨⟨(word (c :: r)).kind, (word (c :: r)).text, o⟩ :: B, y, rfl, by simp [Tk.bare, j2], j3⟩
        · rw [lex_bad _ _ _ h1 h2 h3] at e
          cases e

/-- is it just one name? -/
def isName (s : List UInt8) : Bool := match s with
  | [] => false
  | c :: r => decide (s.length ≤ 16) && low c && r.all nm && !res s
theorem low_not {c : UInt8} (h : low c = true) : ¬ blank c = true ∧ c ≠ 35 ∧ nm c = true := by
  refine ⟨fun hb => ?_, fun e => ?_, by simp [nm, h]⟩
  · simp only [blank, Bool.or_eq_true, beq_iff_eq] at hb
    rcases hb with (rfl | rfl) | rfl <;> exact absurd h (by decide)
  · subst e; exact absurd h (by decide)
theorem name_lex {s : List UInt8} (h : isName s = true) : lx s = .ok [⟨1, s, 0⟩, ⟨0, [], s.length⟩] := by
  cases s with
  | nil => cases h
  | cons c r =>
    simp only [isName, Bool.and_eq_true, decide_eq_true_eq, Bool.not_eq_true', List.all_eq_true] at h
    obtain ⟨⟨⟨h1, h2⟩, h3⟩, h4⟩ := h
    obtain ⟨g1, g2, -⟩ := low_not h2
    have hw : word (c :: r) = ⟨1, r.length + 1, c :: r, 0⟩ := by
      have ht : r.takeWhile nm = r := by have := tw_of nm r [] h3 (by simp); rwa [List.append_nil] at this
      unfold word
      simp only [if_pos h2, ht, nameW, h4, Bool.false_eq_true, if_false, List.length_cons]
      rw [if_neg (by simp at h1; omega)]
    unfold lx
    rw [if_neg (by omega), List.length_cons, lex_word _ _ _ g1 g2 (by rw [hw]), hw]
    simp only [List.drop_succ_cons, List.drop_length, Nat.zero_add]
    rfl
theorem lex_name {s : List UInt8} {a : Tk} {x : Tk} (h : lx s = .ok [a, x]) (h1 : a.kind = 1) (h2 : a.text = s) : isName s = true := by
  unfold lx at h
  split at h
  · cases h
  · obtain ⟨A, hA, hi⟩ := lex_at _ _ _ _ (Nat.lt_succ_self _) h
    have hA2 : A = [a] := by
      cases A with
      | nil => simp at hA
      | cons y A =>
        cases A with
        | nil => simp at hA; rw [hA.1]
        | cons z A => simp at hA
    subst hA2
    obtain ⟨q, -, q2, -, c, r, q4, -, -, q7, q8, q9⟩ := hi 0 (by simp)
    simp only [List.getElem_cons_zero] at q8 q9
    have hw := word_ok c r q7
    have hlen : s.length - q = r.length + 1 := by have := congrArg List.length q4; simpa using this
    rw [h1] at q8
    rw [h2] at q9
    unfold word at q7 q8 q9
    by_cases n1 : low c = true
    · simp only [if_pos n1, nameW] at q7 q8 q9
      have htl := tw_le nm r
      have hsl := congrArg List.length q9
      simp only [List.length_cons] at hsl
      have hres : res (c :: r.takeWhile nm) = false := by
        cases hr : res (c :: r.takeWhile nm)
        · rfl
        · rw [hr] at q8; simp at q8
      simp only [hres, Bool.false_eq_true, if_false] at q7
      have h16 : ¬ 16 < (c :: r.takeWhile nm).length := fun h => by rw [if_pos h] at q7; cases q7
      rw [q9]
      simp only [isName, Bool.and_eq_true, decide_eq_true_eq, Bool.not_eq_true', List.all_eq_true]
      exact ⟨⟨⟨by omega, n1⟩, fun x hx => tw_all nm r x hx⟩, hres⟩
    · simp only [if_neg n1] at q8
      exfalso
      by_cases n2 : dig c = true
      · simp only [if_pos n2, numW] at q8; exact absurd q8 (by decide)
      · simp only [if_neg n2] at q8
        by_cases n3 : c = 39
        · simp only [if_pos n3, textW] at q8; exact absurd q8 (by decide)
        · simp only [if_neg n3] at q8
          by_cases n4 : (pre2 c && r.head? == some 61) = true
          · simp only [if_pos n4] at q8; exact absurd q8 (by decide)
          · simp only [if_neg n4] at q8; exact absurd q8 (by decide)
end Go.Proofs.YtfkbhlgoglmcpaaGreatDoor.Lx
