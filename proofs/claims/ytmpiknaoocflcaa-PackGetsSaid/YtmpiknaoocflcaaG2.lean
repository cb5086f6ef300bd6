/- Plain: what is read as a number stood there packed. -/
import Derived.Test.YtmpiknaoocflcaaS6
namespace Go.Proofs.Ytmpiknaoocflcaa

theorem ofNat_self (x : UInt8) (m : Nat) (h : m = x.toNat) : UInt8.ofNat m = x := by rw [h]; exact UInt8.ofNat_toNat
theorem numFrom_conv : ∀ (k acc : Nat) (l l' : List UInt8) (n : Nat), k ≤ 9 → numFrom (k + 1) acc l = some (n, l') →
    ∃ r, n = acc + r * 128 ^ (9 - k) ∧ l = grp r ++ l' ∧ (k < 9 → 0 < r) ∧ r < 2 ^ (7 * k + 1)
  | _, _, [], _, _, _ => by intro h; unfold numFrom at h; cases h
  | k, acc, x :: l, l', n, hk => by
    intro h
    rw [numFrom_cons] at h
    unfold stepN at h
    have hx := x.toNat_lt
    split at h
    · cases h
    · rename_i h1
      split at h
      · rename_i h2
        split at h
        · cases h
        · rename_i h3
          injection h with h
          injection h with e1 e2
          subst e1; subst e2
          refine ⟨x.toNat, by rw [Nat.mod_eq_of_lt h2], ?_, fun h4 => ?_, ?_⟩
          · rw [grp_small h2, ofNat_self x _ rfl]; rfl
          · rcases Nat.eq_zero_or_pos x.toNat with h5 | h5
            · exact absurd ⟨h5, h4⟩ h3
            · exact h5
          · rcases Nat.eq_zero_or_pos k with h5 | h5
            · subst h5
              have : x.toNat % 128 = x.toNat := Nat.mod_eq_of_lt h2
              simp at h1
              simp
              omega
            · have : 2 ^ 7 ≤ 2 ^ (7 * k + 1) := Nat.pow_le_pow_right (by omega) (by omega)
              omega
      · rename_i h2
        cases k with
        | zero => unfold numFrom at h; cases h
        | succ k =>
          obtain ⟨r, hn, hl, hr, hb⟩ := numFrom_conv k _ l l' n (by omega) h
          have hr0 : 0 < r := hr (by omega)
          have hmod : (x.toNat % 128 + r * 128) % 128 = x.toNat % 128 := by omega
          have hdiv : (x.toNat % 128 + r * 128) / 128 = r := by omega
          refine ⟨x.toNat % 128 + r * 128, ?_, ?_, fun _ => by omega, ?_⟩
          · rw [hn, show 9 - k = (9 - (k + 1)) + 1 by omega, Nat.pow_succ]
            generalize 128 ^ (9 - (k + 1)) = z
            rw [Nat.add_mul, Nat.add_assoc, Nat.mul_comm z 128, Nat.mul_assoc]
          · rw [grp_more (by omega), hmod, hdiv, hl, ofNat_self x _ (by omega)]; rfl
          · have e : 2 ^ (7 * (k + 1) + 1) = 128 * 2 ^ (7 * k + 1) := by rw [show 7 * (k + 1) + 1 = 7 + (7 * k + 1) by omega, Nat.pow_add]
            rw [e]
            omega
theorem numOf_conv {l l' : List UInt8} {n : Nat} (h : numOf l = some (n, l')) : l = grp n ++ l' ∧ n < 18446744073709551616 := by
  obtain ⟨r, hn, hl, -, hb⟩ := numFrom_conv 9 0 l l' n (Nat.le_refl _) h
  rw [show 9 - 9 = 0 from rfl, Nat.pow_zero, Nat.mul_one, Nat.zero_add] at hn
  subst hn
  exact ⟨hl, hb⟩
end Go.Proofs.Ytmpiknaoocflcaa
