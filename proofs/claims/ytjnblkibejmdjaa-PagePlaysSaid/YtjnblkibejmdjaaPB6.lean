/- Plain: the bytes of a page. -/
import Derived.Test.YtjnblkibejmdjaaPB2
namespace Go.Proofs.Ytjnblkibejmdjaa
open Go.RowKit
set_option linter.unusedVariables false

theorem zeros_split (a b : Nat) : zeros (a + b) = zeros a ++ zeros b := by simp [zeros]
theorem zeros_len (a : Nat) : (zeros a).length = a := by simp [zeros]
/-- a number's two bytes, the lowest first. -/
def w2 (n : Nat) : List UInt8 := [UInt8.ofNat (n % 256), UInt8.ofNat (n / 256)]
theorem w2_length (n : Nat) : (w2 n).length = 2 := rfl
theorem w2_zero : w2 0 = zeros 2 := rfl
/-- where a piece stands, and its length; so many bytes have those of the lower slots. -/
def ent (size u : Nat) (b : List UInt8) : List UInt8 := w2 (if b = [] then 0 else size - (u + b.length)) ++ w2 b.length
theorem ent_length (size u : Nat) (b : List UInt8) : (ent size u b).length = 4 := rfl
def ents (size : Nat) : Nat → List (List UInt8) → List UInt8
  | _, [] => []
  | u, b :: r => ent size u b ++ ents size (u + b.length) r
def tails : List (List UInt8) → List UInt8
  | [] => []
  | b :: r => tails r ++ b
theorem ents_append (size : Nat) : ∀ (l r : List (List UInt8)) (u : Nat), ents size u (l ++ r) = ents size u l ++ ents size (u + used l) r
  | [], r, u => by simp [ents, used]
  | b :: l, r, u => by
    simp only [List.cons_append, ents, used, ents_append size l r, List.append_assoc]
    rw [show u + b.length + used l = u + (b.length + used l) by omega]
theorem ents_length (size : Nat) : ∀ (l : List (List UInt8)) (u : Nat), (ents size u l).length = 4 * l.length
  | [], u => rfl
  | b :: l, u => by simp only [ents, List.length_append, ent_length, ents_length size l, List.length_cons]; omega
theorem tails_append : ∀ (l r : List (List UInt8)), tails (l ++ r) = tails r ++ tails l
  | [], r => by simp [tails]
  | b :: l, r => by simp only [List.cons_append, tails, tails_append l r, List.append_assoc]
theorem tails_length : ∀ l : List (List UInt8), (tails l).length = used l
  | [] => rfl
  | b :: l => by simp only [tails, used, List.length_append, tails_length l]; omega
/-- the bytes of a page of n slots when these pieces have been written. -/
def stB (size n : Nat) (pre : List (List UInt8)) : List UInt8 := UInt8.ofNat n :: (ents size 0 pre ++ (zeros (size - 1 - 4 * pre.length - used pre) ++ tails pre))
def pageB (size : Nat) (L : List (List UInt8)) : List UInt8 := stB size L.length L
theorem stB_length (size n : Nat) (pre : List (List UInt8)) (h : 1 + 4 * pre.length + used pre ≤ size) : (stB size n pre).length = size := by
  simp only [stB, List.length_cons, List.length_append, ents_length, zeros_len, tails_length]
  omega
theorem lay_nil (l : List UInt8) (o : Nat) : lay l o [] = l := by simp [lay]
theorem lay_at (a m b x : List UInt8) (o : Nat) (ho : o = a.length) (h : x.length = m.length) : lay (a ++ (m ++ b)) o x = a ++ (x ++ b) := by
  subst ho
  rw [← List.append_assoc, lay_mid _ _ _ _ h, List.append_assoc]
theorem stB_nil (size n : Nat) (h : 1 ≤ size) : (zeros size).set 0 (UInt8.ofNat n) = stB size n [] := by
  obtain ⟨k, rfl⟩ : ∃ k, size = k + 1 := ⟨size - 1, by omega⟩
  simp [stB, ents, tails, used, zeros, List.replicate_succ]
theorem stB_split (size n : Nat) (pre : List (List UInt8)) (m : Nat) (h : 1 + 4 * (pre.length + 1) + used pre + m ≤ size) :
    stB size n pre = (UInt8.ofNat n :: ents size 0 pre) ++ (zeros 2 ++ (zeros 2 ++ (zeros (size - 1 - 4 * (pre.length + 1) - (used pre + m)) ++ (zeros m ++ tails pre)))) := by
  unfold stB
  rw [show size - 1 - 4 * pre.length - used pre = 2 + (2 + (size - 1 - 4 * (pre.length + 1) - (used pre + m) + m)) by omega, zeros_split, zeros_split, zeros_split]
  simp
theorem stB_snoc (size n : Nat) (pre : List (List UInt8)) (b : List UInt8) :
    stB size n (pre ++ [b]) = (UInt8.ofNat n :: ents size 0 pre) ++ (w2 (if b = [] then 0 else size - (used pre + b.length)) ++ (w2 b.length ++ (zeros (size - 1 - 4 * (pre.length + 1) - (used pre + b.length)) ++ (b ++ tails pre)))) := by
  unfold stB
  rw [ents_append, tails_append, used_append, used_one, List.length_append, List.length_singleton]
  simp [ents, ent, tails]
theorem stB_step (size n : Nat) (pre : List (List UInt8)) (b : List UInt8) (h : 1 + 4 * (pre.length + 1) + used pre + b.length ≤ size) (p : Nat) (hp : p = if b = [] then 0 else size - (used pre + b.length)) :
    lay (lay (lay (stB size n pre) (1 + 4 * pre.length) (w2 p)) (1 + 4 * pre.length + 2) (w2 b.length)) p b = stB size n (pre ++ [b]) := by
  rw [stB_split size n pre b.length h, stB_snoc, ← hp]
  rw [lay_at _ (zeros 2) _ (w2 p) _ (by simp [ents_length]; omega) rfl]
  rw [← List.append_assoc _ (w2 p), lay_at _ (zeros 2) _ (w2 b.length) _ (by simp [ents_length, w2_length]; omega) rfl]
  by_cases hb : b = []
  · subst hb
    rw [lay_nil]
    simp [zeros]
  · rw [if_neg hb] at hp
    rw [← List.append_assoc _ (w2 b.length), ← List.append_assoc _ (zeros (size - 1 - 4 * (pre.length + 1) - (used pre + b.length)))]
    rw [lay_at _ (zeros b.length) _ b _ (by simp [ents_length, w2_length, zeros_len]; omega) (by rw [zeros_len])]
    simp
theorem stB_skip (size n : Nat) (pre : List (List UInt8)) (h : 1 + 4 * (pre.length + 1) + used pre ≤ size) : stB size n (pre ++ [[]]) = stB size n pre := by
  rw [stB_split size n pre 0 h, stB_snoc]
  simp [w2_zero, zeros]
theorem set_lay1 (S : List UInt8) (k : Nat) (x : UInt8) (h : k < S.length) : S.set k x = lay S k [x] := by
  simp only [lay, List.length_singleton]
  rw [List.set_eq_take_append_cons_drop, if_pos h]
  simp
theorem lay_length2 (S : List UInt8) (k : Nat) (x : List UInt8) (h : k + x.length ≤ S.length) : (lay S k x).length = S.length := lay_length S k x h
theorem split3 (S : List UInt8) (k p q : Nat) (h : k + p + q ≤ S.length) : ∃ a m m2 r, S = a ++ (m ++ (m2 ++ r)) ∧ a.length = k ∧ m.length = p ∧ m2.length = q :=
  ⟨S.take k, (S.drop k).take p, ((S.drop k).drop p).take q, ((S.drop k).drop p).drop q, by rw [List.take_append_drop, List.take_append_drop, List.take_append_drop], by simp; omega, by simp; omega, by simp; omega⟩
theorem lay_more (S : List UInt8) (k : Nat) (x y : List UInt8) (h : k + x.length + y.length ≤ S.length) : lay (lay S k x) (k + x.length) y = lay S k (x ++ y) := by
  obtain ⟨a, m, m2, r, rfl, h1, h2, h3⟩ := split3 S k x.length y.length h
  rw [lay_at a m _ x k h1.symm h2.symm, ← List.append_assoc a x, lay_at (a ++ x) m2 _ y _ (by simp; omega) h3.symm]
  rw [← List.append_assoc m, lay_at a (m ++ m2) _ (x ++ y) k h1.symm (by simp; omega)]
  simp
theorem set_lay2 (S : List UInt8) (k : Nat) (x y : UInt8) (h : k + 2 ≤ S.length) : (S.set k x).set (k + 1) y = lay S k [x, y] := by
  rw [set_lay1 _ _ _ (by rw [List.length_set]; omega), set_lay1 _ _ _ (by omega), show k + 1 = k + [x].length from rfl, lay_more S k [x] [y] (by simpa using h)]
  rfl
end Go.Proofs.Ytjnblkibejmdjaa
