/- Words of a source, as the reference looks for them: plain facts. -/
import Derived.Test.YtpffechllcnnaaaGreatDoorWN0
import Derived.Test.YtpffechllcnnaaaGreatDoorRR
namespace Go.Proofs.YtpffechllcnnaaaGreatDoor.Lx
open Go.Proofs.YtpffechllcnnaaaGreatDoor
set_option linter.unusedVariables false

/-- where the reference looks: at p, with A told. -/
def RAt (l : List UInt8) (A : List Tk) (p : Nat) : Prop := lx l = (lexF (l.length + 1) p (l.drop p)).puts A ∧ p ≤ l.length ∧ A.length ≤ p
theorem RAt.start {l : List UInt8} (h : l.length ≤ 4000) : RAt l [] 0 := by
  refine ⟨?_, Nat.zero_le _, Nat.zero_le _⟩
  rw [puts_nil, lx, if_neg (by omega), List.drop_zero]
theorem RAt.done {l : List UInt8} {A : List Tk} {p : Nat} (h : RAt l A p) (hp : p = l.length) : lx l = .ok (A ++ [⟨0, [], l.length⟩]) := by
  obtain ⟨h1, -⟩ := h
  rw [h1, hp, List.drop_length]
  rfl
theorem drop_len {l : List UInt8} {p : Nat} {c : UInt8} {r : List UInt8} (hd : l.drop p = c :: r) : l.length = p + r.length + 1 ∧ l.drop (p + 1) = r := by
  have hlen := congrArg List.length hd
  simp at hlen
  refine ⟨by omega, ?_⟩
  rw [← List.drop_drop, hd]; rfl
theorem RAt.blank {l : List UInt8} {A : List Tk} {p : Nat} {c : UInt8} {r : List UInt8} (h : RAt l A p) (hd : l.drop p = c :: r) (hb : Lx.blank c = true) : RAt l A (p + 1) := by
  obtain ⟨h1, h2, h3⟩ := h
  obtain ⟨hl, hr⟩ := drop_len hd
  refine ⟨?_, by omega, by omega⟩
  rw [h1, hd, lex_blank _ _ _ hb, hr]
  congr 1
  exact lex_fuel _ _ _ _ (by omega) (by omega)
theorem RAt.note {l : List UInt8} {A : List Tk} {p : Nat} {r : List UInt8} (h : RAt l A p) (hd : l.drop p = 35 :: r) : RAt l A (p + ((l.drop p).takeWhile line).length) := by
  obtain ⟨h1, h2, h3⟩ := h
  obtain ⟨hl, hr⟩ := drop_len hd
  have htl := tw_le line r
  have e : ((l.drop p).takeWhile line).length = (r.takeWhile line).length + 1 := by rw [hd, List.takeWhile_cons_of_pos (by decide)]; rfl
  rw [e]
  refine ⟨?_, by omega, by omega⟩
  have hdd : l.drop (p + ((r.takeWhile line).length + 1)) = r.drop (r.takeWhile line).length := by
    rw [← hr, List.drop_drop]; congr 1; omega
  rw [h1, hd, lex_note, hdd, show p + ((r.takeWhile line).length + 1) = p + 1 + (r.takeWhile line).length by omega]
  congr 1
  exact lex_fuel _ _ _ _ (by rw [List.length_drop]; omega) (by rw [List.length_drop]; omega)
theorem RAt.word {l : List UInt8} {A : List Tk} {p : Nat} {c : UInt8} {r : List UInt8} (h : RAt l A p) (hd : l.drop p = c :: r) (g1 : ¬ Lx.blank c = true) (g2 : c ≠ 35) :
    ((Lx.word (c :: r)).err ≠ 0 → lx l = .bad (Lx.word (c :: r)).err p) ∧
    ((Lx.word (c :: r)).err = 0 → 1 ≤ (Lx.word (c :: r)).n ∧ p + (Lx.word (c :: r)).n ≤ l.length ∧ RAt l (A ++ [⟨(Lx.word (c :: r)).kind, (Lx.word (c :: r)).text, p⟩]) (p + (Lx.word (c :: r)).n)) := by
  obtain ⟨h1, h2, h3⟩ := h
  obtain ⟨hl, hr⟩ := drop_len hd
  refine ⟨fun he => by rw [h1, hd, lex_bad _ _ _ g1 g2 he]; rfl, fun he => ?_⟩
  have hw := word_ok c r he
  generalize hn : (Lx.word (c :: r)).n = n at *
  have hdn : l.drop (p + n) = (c :: r).drop n := by rw [← hd, List.drop_drop]
  refine ⟨hw.1, by omega, ?_, by omega, by simp; omega⟩
  rw [h1, hd, lex_word _ _ _ g1 g2 he, puts_put, hn, ← hdn]
  congr 1
  exact lex_fuel _ _ _ _ (by rw [List.length_drop]; omega) (by rw [List.length_drop]; omega)

/-! how far a loop goes -/
theorem far_step (p : UInt8 → Bool) (s : ByteArray) (k : Nat) (h : k < s.size) (hp : p s[k] = true) : ((s.data.toList.drop k).takeWhile p).length = ((s.data.toList.drop (k + 1)).takeWhile p).length + 1 := by
  rw [drop_at s k h, List.takeWhile_cons_of_pos hp]; rfl
theorem far_stop (p : UInt8 → Bool) (s : ByteArray) (k : Nat) (h : k < s.size) (hp : p s[k] = false) : ((s.data.toList.drop k).takeWhile p).length = 0 := by
  rw [drop_at s k h, List.takeWhile_cons_of_neg (by rw [hp]; decide)]; rfl
theorem far_end (p : UInt8 → Bool) (s : ByteArray) (k : Nat) (h : s.size ≤ k) : ((s.data.toList.drop k).takeWhile p).length = 0 := by
  rw [List.drop_of_length_le (by rw [list_size]; exact h)]; rfl
theorem cut_str (s : ByteArray) (a b : Nat) : (s.extract a b).data.toList = (s.data.toList.drop a).take (b - a) := by
  simp
theorem cut_tw (p : UInt8 → Bool) (s : ByteArray) (a : Nat) : s.extract a (a + ((s.data.toList.drop a).takeWhile p).length) = str ((s.data.toList.drop a).takeWhile p) := by
  apply ByteArray.ext
  apply Array.ext'
  rw [cut_str, Nat.add_sub_cancel_left, tw_take]
theorem far_le (p : UInt8 → Bool) (s : ByteArray) (a : Nat) (h : a ≤ s.size) : a + ((s.data.toList.drop a).takeWhile p).length ≤ s.size := by
  have := tw_le p (s.data.toList.drop a)
  rw [List.length_drop, list_size] at this
  omega
/-- digits: what the reference tells of them. -/
theorem numErr_re (t : List UInt8) : (re t = 0 ∧ numErr t = 0) ∨ (re t = 4 ∧ numErr t = 4) ∨ (re t = 6 ∧ numErr t = 7) := by
  rcases re_cases t with h | h | h
  · exact .inl ⟨h, by simp [numErr, h]⟩
  · exact .inr (.inl ⟨h, by simp [numErr, h]⟩)
  · exact .inr (.inr ⟨h, by simp [numErr, h]⟩)

/-! a text, byte by byte: at k, with b told. -/
def QAt (l : List UInt8) (p : Nat) (b : List UInt8) (k : Nat) : Prop := qt (l.drop (p + 1)) = (b ++ (qt (l.drop k)).1, k - (p + 1) + (qt (l.drop k)).2.1, (qt (l.drop k)).2.2) ∧ p + 1 ≤ k ∧ b.length + (p + 1) ≤ k
theorem QAt.start (l : List UInt8) (p : Nat) : QAt l p [] (p + 1) := ⟨by simp, Nat.le_refl _, by simp⟩
theorem QAt.byte {l : List UInt8} {p k : Nat} {b : List UInt8} {c : UInt8} {r : List UInt8} (h : QAt l p b k) (hd : l.drop k = c :: r) (hc : c ≠ 39) : QAt l p (b ++ [c]) (k + 1) := by
  obtain ⟨h1, h2, h3⟩ := h
  obtain ⟨-, hr⟩ := drop_len hd
  refine ⟨?_, by omega, by simp; omega⟩
  have e : qt (c :: r) = (c :: (qt r).1, (qt r).2.1 + 1, (qt r).2.2) := by rw [qt.eq_def]; simp only [if_neg hc]
  rw [h1, hd, e, hr]
  simp only [List.append_assoc, List.cons_append, List.nil_append, Prod.mk.injEq, true_and, and_true]
  omega
theorem QAt.mark {l : List UInt8} {p k : Nat} {b : List UInt8} {r : List UInt8} (h : QAt l p b k) (hd : l.drop k = 39 :: 39 :: r) : QAt l p (b ++ [39]) (k + 1 + 1) := by
  obtain ⟨h1, h2, h3⟩ := h
  obtain ⟨-, hr⟩ := drop_len hd
  obtain ⟨-, hr2⟩ := drop_len hr
  refine ⟨?_, by omega, by simp; omega⟩
  have e : qt (39 :: 39 :: r) = (39 :: (qt r).1, (qt r).2.1 + 2, (qt r).2.2) := by rw [qt.eq_def]; simp
  rw [h1, hd, e, hr2]
  simp only [List.append_assoc, List.cons_append, List.nil_append, Prod.mk.injEq, true_and, and_true]
  omega
theorem QAt.none {l : List UInt8} {p k : Nat} {b : List UInt8} (h : QAt l p b k) (hd : l.drop k = []) : textW (qt (l.drop (p + 1))) = ⟨4, k - (p + 1) + 1, b, 7⟩ := by
  rw [h.1, hd]
  simp [textW, qt]
theorem QAt.end_ {l : List UInt8} {p k : Nat} {b : List UInt8} {r : List UInt8} (h : QAt l p b k) (hd : l.drop k = 39 :: r) (hr : r.head? ≠ some 39) : textW (qt (l.drop (p + 1))) = ⟨4, k + 1 - p, b, if 200 < b.length then 3 else 0⟩ := by
  obtain ⟨h1, h2, h3⟩ := h
  have e : qt (39 :: r) = ([], 1, true) := by
    cases r with
    | nil => rfl
    | cons d r =>
      have : d ≠ 39 := by simpa using hr
      simp [qt, this]
  rw [h1, hd, e]
  simp only [textW, List.append_nil, if_true, Wd.mk.injEq, true_and, and_true]
  omega
end Go.Proofs.YtpffechllcnnaaaGreatDoor.Lx
