/- Plain: what sectors must hold, that records are told. -/
import Derived.Test.YthoihlebplmcoaaJT
namespace Go.Proofs.Ythoihlebplmcoaa
open Go.RowKit
set_option linter.unusedVariables false
def chunk (f : Nat) (r : List UInt8) (i : Nat) : List UInt8 := (r.drop (i * f)).take f
theorem chunk_succ (f : Nat) (r : List UInt8) (i : Nat) : chunk f r (i + 1) = chunk f (r.drop f) i := by
  unfold chunk
  rw [List.drop_drop, Nat.add_mul, Nat.one_mul, Nat.add_comm]
theorem rowO_chunks (f : Nat) : ∀ (K : Nat) (T : List UInt8) (fl : List (Option (List UInt8))), T.length = K * f → (∀ i, i < K → fl[i]? = some (some (chunk f T i))) → rowO fl = T ++ rowO (fl.drop K)
  | 0, T, fl, hT, _ => by
    rw [Nat.zero_mul] at hT
    rw [List.eq_nil_of_length_eq_zero hT]
    rfl
  | K + 1, T, fl, hT, h => by
    cases fl with
    | nil => have := h 0 (by omega); simp at this
    | cons x fl =>
      have h0 := h 0 (by omega)
      rw [List.getElem?_cons_zero] at h0
      injection h0 with h0
      have hT' : (T.drop f).length = K * f := by rw [List.length_drop, hT, Nat.add_mul, Nat.one_mul]; omega
      have ih := rowO_chunks f K (T.drop f) fl hT' fun i hi => by
        have := h (i + 1) (by omega)
        rw [List.getElem?_cons_succ, chunk_succ] at this
        exact this
      subst h0
      show chunk f T 0 ++ rowO fl = _
      rw [ih, List.drop_succ_cons, ← List.append_assoc]
      congr 1
      unfold chunk
      rw [Nat.zero_mul, List.drop_zero, List.take_append_drop]
/-- how many sectors have bytes of a row. -/
def secs (f len : Nat) : Nat := (len + f - 1) / f
theorem lt_secs {f : Nat} (hf : 12 ≤ f) (len i : Nat) : i < secs f len ↔ i * f < len := by
  unfold secs
  rw [Nat.lt_iff_add_one_le, Nat.le_div_iff_mul_le (by omega)]
  have : (i + 1) * f = i * f + f := by rw [Nat.add_mul, Nat.one_mul]
  omega
theorem secs_up {f : Nat} (hf : 12 ≤ f) (len : Nat) : len ≤ secs f len * f := by
  have := lt_secs hf len (secs f len)
  omega
theorem secs_down {f : Nat} (hf : 12 ≤ f) (len : Nat) : secs f len * f < len + f := by
  unfold secs
  have := Nat.div_mul_le_self (len + f - 1) f
  omega
/-- where the next record begins, and in which sector. -/
theorem beg_cases {f : Nat} (hf : 12 ≤ f) (len : Nat) : (beg f len = secs f len * f ∧ beg f len / f = secs f len) ∨ (beg f len = len ∧ len + 12 ≤ secs f len * f ∧ beg f len / f + 1 = secs f len) := by
  have hd := Nat.div_add_mod len f
  have hm := Nat.mod_lt len (show 0 < f by omega)
  have hu := secs_up hf len
  have hdn := secs_down hf len
  have hmul : ∀ a b : Nat, a * f < b * f + f → a ≤ b := fun a b h => by
    have h2 : a * f < (b + 1) * f := by rw [Nat.add_mul, Nat.one_mul]; exact h
    have := Nat.lt_of_mul_lt_mul_right h2
    omega
  rw [Nat.mul_comm] at hd
  by_cases h0 : len % f = 0
  · have e1 : secs f len = len / f := by
      have a1 := hmul (secs f len) (len / f) (by omega)
      have a2 := hmul (len / f) (secs f len) (by omega)
      omega
    have e2 : beg f len = len := by unfold beg; rw [if_neg (by omega)]
    left
    rw [e2, e1]
    omega
  · have e1 : secs f len = len / f + 1 := by
      have h1 : (len / f + 1) * f = len / f * f + f := by rw [Nat.add_mul, Nat.one_mul]
      have a1 := hmul (secs f len) (len / f + 1) (by omega)
      have a2 := (lt_secs hf len (len / f)).2 (by omega)
      omega
    have h1 : secs f len * f = len / f * f + f := by rw [e1, Nat.add_mul, Nat.one_mul]
    by_cases hl : f - len % f < 12
    · left
      have e2 : beg f len = secs f len * f := by unfold beg; rw [if_pos hl]; omega
      rw [e2]
      exact ⟨rfl, Nat.mul_div_cancel _ (by omega)⟩
    · right
      have e2 : beg f len = len := by unfold beg; rw [if_neg hl]
      rw [e2]
      omega
/-- the sectors hold a row; where the next record begins with another sector, that one is of another epoch. -/
structure Stands (c : Nat → List UInt8) (e f n : Nat) (r : List UInt8) : Prop where
  has : ∀ i, i * f < r.length → c i = word4 e ++ pad f (chunk f r i)
  stop : r.length ≤ (beg f r.length / f) * f → beg f r.length / f < n → ((c (beg f r.length / f)).take 4 == word4 e) = false
/-- no sector behind is of the epoch. -/
structure Clean (c : Nat → List UInt8) (e f n : Nat) (r : List UInt8) : Prop where
  has : ∀ i, i * f < r.length → c i = word4 e ++ pad f (chunk f r i)
  none : ∀ i, r.length ≤ i * f → i < n → ((c i).take 4 == word4 e) = false
theorem Clean.stands {c : Nat → List UInt8} {e f n : Nat} {r : List UInt8} (h : Clean c e f n r) : Stands c e f n r := ⟨h.has, fun h1 h2 => h.none _ h1 h2⟩
def fieldsOf (c : Nat → List UInt8) (e n : Nat) : List (Option (List UInt8)) := (List.range n).map fun i => if (c i).take 4 == word4 e then some ((c i).drop 4) else none
theorem fieldsOf_at (c : Nat → List UInt8) (e n i : Nat) (h : i < n) : (fieldsOf c e n)[i]? = some (if (c i).take 4 == word4 e then some ((c i).drop 4) else none) := by
  simp [fieldsOf, h]
theorem openE_zeros (e z : Nat) (Y : List UInt8) (hz : 12 ≤ z) (he : e ≠ 0) : openE e (zeros z ++ Y) ≠ 0 := by
  obtain ⟨k, rfl⟩ : ∃ k, z = 12 + k := ⟨z - 12, by omega⟩
  have e1 : zeros (12 + k) ++ Y = 0 :: 0 :: 0 :: 0 :: 0 :: 0 :: 0 :: 0 :: 0 :: 0 :: 0 :: 0 :: (zeros k ++ Y) := by
    rw [zeros_add]
    rfl
  rw [e1]
  unfold openE
  rw [if_neg (by simp [num4]), if_pos]
  · decide
  · left
    simp only [List.drop_succ_cons, List.drop_zero, num4, List.getD_cons_zero, List.getD_cons_succ]
    intro h
    exact he (by simpa using h.symm)
theorem rowO_stands {c : Nat → List UInt8} {e f n : Nat} {r : List UInt8} (hf : 12 ≤ f) (he : e ≠ 0) (h : Stands c e f n r) (hr : r.length ≤ n * f) :
    ∃ X, rowO (fieldsOf c e n) = r ++ X ∧ ((r ++ X).length ≤ beg f r.length ∨ openE e ((r ++ X).drop (beg f r.length)) ≠ 0) := by
  have hu := secs_up hf r.length
  have hdn := secs_down hf r.length
  have hKn : secs f r.length ≤ n := by
    have h1 : secs f r.length * f < (n + 1) * f := by rw [Nat.add_mul, Nat.one_mul]; omega
    have := Nat.lt_of_mul_lt_mul_right h1
    omega
  have hT : (r ++ zeros (secs f r.length * f - r.length)).length = secs f r.length * f := by rw [List.length_append, zeros_len]; omega
  have hch : ∀ i, i < secs f r.length → (fieldsOf c e n)[i]? = some (some (chunk f (r ++ zeros (secs f r.length * f - r.length)) i)) := fun i hi => by
    have hi2 := (lt_secs hf r.length i).1 hi
    rw [fieldsOf_at c e n i (by omega), h.has i hi2]
    have e1 : ((word4 e ++ pad f (chunk f r i)).take 4 == word4 e) = true := by
      rw [List.take_append_of_le_length (by simp [word4_length])]
      rw [List.take_of_length_le (by simp [word4_length])]
      simp
    have e2 : (word4 e ++ pad f (chunk f r i)).drop 4 = pad f (chunk f r i) := by
      have := List.drop_left (l₁ := word4 e) (l₂ := pad f (chunk f r i))
      rwa [word4_length] at this
    rw [e1, if_pos rfl, e2]
    congr 2
    unfold chunk pad
    have hle : (i + 1) * f ≤ secs f r.length * f := Nat.mul_le_mul_right _ hi
    rw [Nat.add_mul, Nat.one_mul] at hle
    rw [List.drop_append_of_le_length (by omega), List.take_append, List.length_take, List.length_drop]
    congr 1
    unfold zeros
    rw [List.take_replicate]
    congr 1
    omega
  have hrow := rowO_chunks f (secs f r.length) _ (fieldsOf c e n) hT hch
  refine ⟨zeros (secs f r.length * f - r.length) ++ rowO ((fieldsOf c e n).drop (secs f r.length)), by rw [hrow, List.append_assoc], ?_⟩
  rcases beg_cases hf r.length with ⟨b1, b2⟩ | ⟨b1, b2, b3⟩
  · left
    have hz : rowO ((fieldsOf c e n).drop (secs f r.length)) = [] := by
      by_cases hKlt : secs f r.length < n
      · have hs := h.stop (by rw [b2]; exact hu) (by rw [b2]; exact hKlt)
        rw [b2] at hs
        have hat := fieldsOf_at c e n _ hKlt
        rw [hs, if_neg (by simp)] at hat
        have hlt2 : secs f r.length < (fieldsOf c e n).length := by simp [fieldsOf]; exact hKlt
        rw [List.drop_eq_getElem_cons hlt2]
        rw [List.getElem?_eq_getElem hlt2] at hat
        injection hat with hat
        rw [hat]
        rfl
      · rw [List.drop_eq_nil_of_le (by simp [fieldsOf]; omega)]
        rfl
    rw [hz, List.append_nil, hT, b1]
    exact Nat.le_refl _
  · right
    rw [b1, List.drop_left]
    exact openE_zeros e _ _ (by omega) he
end Go.Proofs.Ythoihlebplmcoaa
