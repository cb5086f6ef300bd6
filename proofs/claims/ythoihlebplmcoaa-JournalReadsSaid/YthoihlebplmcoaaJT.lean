/- Plain: the row of records, and that it is told again. -/
import Derived.Test.YthoihlebplmcoaaJO
namespace Go.Proofs.Ythoihlebplmcoaa
open Go.RowKit
set_option linter.unusedVariables false
/-- the bytes of some records behind so many bytes. -/
def rowN (f e : Nat) : Nat → List (List UInt8) → List UInt8
  | _, [] => []
  | n, b :: R => zeros (beg f n - n) ++ (sealed e b ++ rowN f e (beg f n + (b.length + 12)) R)
def rowR (f e : Nat) (R : List (List UInt8)) : List UInt8 := rowN f e 0 R
/-- where each ends. -/
def standN (f : Nat) : Nat → List (List UInt8) → List (List UInt8 × Nat)
  | _, [] => []
  | n, b :: R => (b, beg f n + (b.length + 12)) :: standN f (beg f n + (b.length + 12)) R
theorem standN_fst (f : Nat) : ∀ (n : Nat) (R : List (List UInt8)), (standN f n R).map Prod.fst = R
  | _, [] => rfl
  | n, b :: R => by simp only [standN, List.map_cons, standN_fst f _ R]
theorem zeros_len (n : Nat) : (zeros n).length = n := by simp [zeros]
theorem rowN_cons_len (f e n : Nat) (b : List UInt8) (R : List (List UInt8)) (hf : 12 ≤ f) : n + (rowN f e n (b :: R)).length = beg f n + (b.length + 12) + (rowN f e (beg f n + (b.length + 12)) R).length := by
  have := beg_bounds f n hf
  simp only [rowN, List.length_append, zeros_len, sealed_length]
  omega
theorem rowN_snoc (f e : Nat) (hf : 12 ≤ f) (b : List UInt8) : ∀ (n : Nat) (R : List (List UInt8)), rowN f e n (R ++ [b]) = rowN f e n R ++ (zeros (beg f (n + (rowN f e n R).length) - (n + (rowN f e n R).length)) ++ sealed e b)
  | n, [] => by simp [rowN]
  | n, x :: R => by
    have h := rowN_cons_len f e n x R hf
    rw [h]
    simp only [List.cons_append, rowN]
    rw [rowN_snoc f e hf b _ R]
    simp only [List.append_assoc]
theorem rowR_snoc (f e : Nat) (hf : 12 ≤ f) (R : List (List UInt8)) (b : List UInt8) : rowR f e (R ++ [b]) = rowR f e R ++ zeros (beg f (rowR f e R).length - (rowR f e R).length) ++ sealed e b := by
  unfold rowR
  rw [rowN_snoc f e hf b 0 R]
  simp only [Nat.zero_add, List.append_assoc]
theorem standN_end (f e : Nat) (hf : 12 ≤ f) : ∀ (n : Nat) (R : List (List UInt8)) (x : List UInt8 × Nat), (standN f n R).getLast? = some x → x.2 = n + (rowN f e n R).length
  | _, [], x, h => by simp [standN] at h
  | n, b :: R, x, h => by
    rw [rowN_cons_len f e n b R hf]
    cases R with
    | nil =>
      simp [standN] at h
      rw [← h]
      simp [rowN]
    | cons c R =>
      have h' : (standN f (beg f n + (b.length + 12)) (c :: R)).getLast? = some x := by
        simp only [standN, List.getLast?_cons_cons] at h ⊢
        exact h
      exact standN_end f e hf _ (c :: R) x h'
theorem lastEnd_standN (f e : Nat) (hf : 12 ≤ f) (R : List (List UInt8)) : lastEnd (standN f 0 R) = (rowR f e R).length := by
  unfold lastEnd
  cases h : (standN f 0 R).getLast? with
  | none =>
    cases R with
    | nil => rfl
    | cons b R => simp [standN] at h
  | some x =>
    show x.2 = _
    rw [standN_end f e hf 0 R x h, Nat.zero_add]
    rfl
theorem standA_step (e f : Nat) (T : List UInt8) (hf : 12 ≤ f) (at_ : Nat) (h : at_ < T.length) (h0 : openE e (T.drop at_) = 0) :
    standA e f T (T.length + 1) at_ = (openB e (T.drop at_), at_ + openN e (T.drop at_)) :: standA e f T (T.length + 1) (beg f (at_ + openN e (T.drop at_))) := by
  have h1 : standA e f T (T.length + 1) at_ = if at_ < T.length ∧ openE e (T.drop at_) = 0 then (openB e (T.drop at_), at_ + openN e (T.drop at_)) :: standA e f T T.length (beg f (at_ + openN e (T.drop at_))) else [] := rfl
  have := (openN_pos h0).1
  have := beg_bounds f (at_ + openN e (T.drop at_)) hf
  rw [h1, if_pos ⟨h, h0⟩, standA_enough e f T hf T.length (T.length + 1) _ (by omega) (by omega)]
theorem standA_stop (e f : Nat) (T : List UInt8) (at_ : Nat) (h : T.length ≤ at_ ∨ openE e (T.drop at_) ≠ 0) : standA e f T (T.length + 1) at_ = [] := by
  show (if at_ < T.length ∧ openE e (T.drop at_) = 0 then _ else _) = _
  rw [if_neg (by omega)]
theorem parseN (f e : Nat) (hf : 12 ≤ f) (he : e < 4294967296) : ∀ (R : List (List UInt8)) (P X : List UInt8), (∀ b ∈ R, b.length ≤ 10000) →
    standA e f (P ++ (rowN f e P.length R ++ X)) ((P ++ (rowN f e P.length R ++ X)).length + 1) (beg f P.length) = standN f P.length R ++ standA e f (P ++ (rowN f e P.length R ++ X)) ((P ++ (rowN f e P.length R ++ X)).length + 1) (beg f (P.length + (rowN f e P.length R).length))
  | [], P, X, _ => by simp [rowN, standN]
  | b :: R, P, X, hR => by
    have hb := beg_bounds f P.length hf
    obtain ⟨T, hT⟩ : ∃ T, T = P ++ (rowN f e P.length (b :: R) ++ X) := ⟨_, rfl⟩
    have hT2 : T = (P ++ zeros (beg f P.length - P.length)) ++ (sealed e b ++ (rowN f e (beg f P.length + (b.length + 12)) R ++ X)) := by rw [hT]; simp only [rowN, List.append_assoc]
    have hPl : (P ++ zeros (beg f P.length - P.length)).length = beg f P.length := by rw [List.length_append, zeros_len]; omega
    have hdrop : T.drop (beg f P.length) = sealed e b ++ (rowN f e (beg f P.length + (b.length + 12)) R ++ X) := by
      have := List.drop_left (l₁ := P ++ zeros (beg f P.length - P.length)) (l₂ := sealed e b ++ (rowN f e (beg f P.length + (b.length + 12)) R ++ X))
      rw [hPl, ← hT2] at this
      exact this
    obtain ⟨o1, o2, o3⟩ := opens_sealed e he b (rowN f e (beg f P.length + (b.length + 12)) R ++ X) (hR b List.mem_cons_self)
    have hlt : beg f P.length < T.length := by
      rw [hT2, List.length_append, hPl, List.length_append, sealed_length]
      omega
    rw [← hT, standA_step e f T hf _ hlt (by rw [hdrop]; exact o1), hdrop, o2, o3]
    have ih := parseN f e hf he R (P ++ zeros (beg f P.length - P.length) ++ sealed e b) X fun x hx => hR x (List.mem_cons_of_mem _ hx)
    have hPl2 : (P ++ zeros (beg f P.length - P.length) ++ sealed e b).length = beg f P.length + (b.length + 12) := by rw [List.length_append, hPl, sealed_length]
    rw [hPl2] at ih
    have hT3 : P ++ zeros (beg f P.length - P.length) ++ sealed e b ++ (rowN f e (beg f P.length + (b.length + 12)) R ++ X) = T := by rw [hT2]; simp only [List.append_assoc]
    rw [hT3] at ih
    rw [ih]
    have hl := rowN_cons_len f e P.length b R hf
    rw [hl]
    rfl
theorem parseR (f e : Nat) (hf : 12 ≤ f) (he : e < 4294967296) (R : List (List UInt8)) (X : List UInt8) (hR : ∀ b ∈ R, b.length ≤ 10000)
    (hX : (rowR f e R ++ X).length ≤ beg f (rowR f e R).length ∨ openE e ((rowR f e R ++ X).drop (beg f (rowR f e R).length)) ≠ 0) :
    standR e f (rowR f e R ++ X) = standN f 0 R := by
  have h := parseN f e hf he R [] X hR
  simp only [List.length_nil, List.nil_append, Nat.zero_add] at h
  have h0 : beg f 0 = 0 := by unfold beg; rw [Nat.zero_mod, if_neg (by omega)]
  rw [h0] at h
  unfold standR
  unfold rowR at *
  rw [h, standA_stop e f _ _ hX, List.append_nil]
end Go.Proofs.Ythoihlebplmcoaa
