/- Plain: how the table of low bytes fills. -/
import Derived.Test.YtbdaoecpmodgcaaM1
namespace Go.Proofs.Ytbdaoecpmodgcaa

/-- right at all multiples of b. -/
def Good (b : Nat) (f : Nat → Nat) : Prop := (∀ x, x < 256 → f x < 4294967296) ∧ ∀ x, x < 256 → x % b = 0 → f x = stps 8 x
/-- right at all multiples of 2b, and at those of b below A. -/
def Mid (b A : Nat) (f : Nat → Nat) : Prop := (∀ x, x < 256 → f x < 4294967296) ∧ ∀ x, x < 256 → (x % (2 * b) = 0 ∨ (x % b = 0 ∧ x < A)) → f x = stps 8 x

theorem Good.first : Good 256 (fun _ => 0) := ⟨fun _ _ => Nat.zero_lt_succ _, fun x hx h => by
  obtain rfl : x = 0 := by omega
  decide⟩
theorem Good.last {f : Nat → Nat} (h : Good 1 f) : ∀ x, x < 256 → f x = stps 8 x := fun x hx => h.2 x hx (Nat.mod_one x)
theorem Good.mid {b : Nat} {f : Nat → Nat} (h : Good (2 * b) f) : Mid b 0 f := ⟨h.1, fun x hx hh => h.2 x hx (by omega)⟩
theorem Mid.good {b : Nat} {f : Nat → Nat} (h : Mid b 256 f) : Good b f := ⟨h.1, fun x hx hh => h.2 x hx (.inr ⟨hh, hx⟩)⟩
theorem join_xor : ∀ K : Fin 8, ∀ A : Fin 256, A.val % 2 ^ (K.val + 1) = 0 → A.val ^^^ 2 ^ K.val = A.val + 2 ^ K.val := by decide +kernel
theorem Mid.step {K A : Nat} {f : Nat → Nat} (hK : K < 8) (hA : A < 256) (hm : A % (2 * 2 ^ K) = 0) (h : Mid (2 ^ K) A f) :
    Mid (2 ^ K) (A + 2 * 2 ^ K) (fun x => if x = A + 2 ^ K then f A ^^^ stps 8 (2 ^ K) else f x) := by
  have hs : f A ^^^ stps 8 (2 ^ K) = stps 8 (A + 2 ^ K) := by
    rw [h.2 A hA (.inl hm), ← stps_xor]
    have := join_xor ⟨K, hK⟩ ⟨A, hA⟩ (by simp only; rw [Nat.pow_succ, Nat.mul_comm]; exact hm)
    simp only at this
    rw [this]
  refine ⟨fun x hx => ?_, fun x hx hh => ?_⟩
  · show (if x = A + 2 ^ K then f A ^^^ stps 8 (2 ^ K) else f x) < 4294967296
    split
    · rename_i he; subst he; rw [hs]; exact stps_lt (by omega) 8
    · exact h.1 x hx
  · show (if x = A + 2 ^ K then f A ^^^ stps 8 (2 ^ K) else f x) = _
    split
    · rename_i he; rw [hs, he]
    · rename_i he
      refine h.2 x hx ?_
      rcases hh with hh | ⟨h1, h2⟩
      · exact .inl hh
      · by_cases hlt : x < A
        · exact .inr ⟨h1, hlt⟩
        · left
          have hcase : ∀ K, K < 8 → A % (2 * 2 ^ K) = 0 → x % 2 ^ K = 0 → x < A + 2 * 2 ^ K → ¬ x = A + 2 ^ K → ¬ x < A → x % (2 * 2 ^ K) = 0 := by
            intro K hK a b c d e
            match K, hK with
            | 0, _ => simp only [Nat.pow_zero, Nat.mul_one] at *; omega
            | 1, _ => simp only [Nat.reducePow, Nat.reduceMul] at *; omega
            | 2, _ => simp only [Nat.reducePow, Nat.reduceMul] at *; omega
            | 3, _ => simp only [Nat.reducePow, Nat.reduceMul] at *; omega
            | 4, _ => simp only [Nat.reducePow, Nat.reduceMul] at *; omega
            | 5, _ => simp only [Nat.reducePow, Nat.reduceMul] at *; omega
            | 6, _ => simp only [Nat.reducePow, Nat.reduceMul] at *; omega
            | 7, _ => simp only [Nat.reducePow, Nat.reduceMul] at *; omega
          exact hcase K hK hm h1 h2 he hlt
/-- one bit alone, as far as it has fallen. -/
theorem alone_step (K : Nat) (hK : K < 8) : stps (8 - K) 1 = stps 8 (2 ^ K) := by
  have h := stps_high 1 K
  rw [Nat.mul_one] at h
  have := stps_add (2 ^ K) K (8 - K)
  rw [show 8 - K + K = 8 by omega, h] at this
  exact this.symm
/-- where the next ones stand. -/
theorem next_even (K A : Nat) (hm : A % (2 * 2 ^ K) = 0) : (A + 2 * 2 ^ K) % (2 * 2 ^ K) = 0 := by rw [Nat.add_mod_right]; exact hm
theorem room_even (K A : Nat) (hK : K < 8) (hA : A < 256) (hm : A % (2 * 2 ^ K) = 0) : A + 2 * 2 ^ K ≤ 256 := by
  match K, hK with
  | 0, _ => simp only [Nat.pow_zero, Nat.mul_one] at *; omega
  | 1, _ => simp only [Nat.reducePow, Nat.reduceMul] at *; omega
  | 2, _ => simp only [Nat.reducePow, Nat.reduceMul] at *; omega
  | 3, _ => simp only [Nat.reducePow, Nat.reduceMul] at *; omega
  | 4, _ => simp only [Nat.reducePow, Nat.reduceMul] at *; omega
  | 5, _ => simp only [Nat.reducePow, Nat.reduceMul] at *; omega
  | 6, _ => simp only [Nat.reducePow, Nat.reduceMul] at *; omega
  | 7, _ => simp only [Nat.reducePow, Nat.reduceMul] at *; omega
theorem pow_le (K : Nat) (hK : K < 8) : 1 ≤ 2 ^ K ∧ 2 ^ K ≤ 128 := by
  match K, hK with
  | 0, _ | 1, _ | 2, _ | 3, _ | 4, _ | 5, _ | 6, _ | 7, _ => decide
end Go.Proofs.Ytbdaoecpmodgcaa
