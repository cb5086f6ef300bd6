/- Plain: what is packed is got back. -/
import Derived.Test.YtmpiknaoocflcaaR4
namespace Go.Proofs.Ytmpiknaoocflcaa

theorem byte_toNat (m : Nat) (h : m < 256) : (UInt8.ofNat m).toNat = m := by rw [UInt8.toNat_ofNat']; exact Nat.mod_eq_of_lt h
theorem numFrom_grp : ∀ (k : Nat), k ≤ 9 → ∀ (n acc : Nat) (t : List UInt8), n < 2 ^ (7 * k + 1) → (k < 9 → n ≠ 0) → numFrom (k + 1) acc (grp n ++ t) = some (acc + n * 128 ^ (9 - k), t)
  | 0, _ => by
    intro n acc t hn h0
    have hn2 : n < 2 := by simpa using hn
    rw [grp_small (by omega), List.singleton_append, numFrom_cons]
    unfold stepN
    rw [byte_toNat n (by omega), if_neg (by omega), if_pos (by omega), if_neg (by have := h0 (by omega); omega), Nat.mod_eq_of_lt (by omega)]
  | k + 1, hk => by
    intro n acc t hn h0
    by_cases hs : n < 128
    · rw [grp_small hs, List.singleton_append, numFrom_cons]
      unfold stepN
      rw [byte_toNat n (by omega), if_neg (by omega), if_pos hs, if_neg (by intro ⟨h1, h2⟩; exact h0 h2 h1), Nat.mod_eq_of_lt hs]
    · rw [grp_more hs, List.cons_append, numFrom_cons]
      unfold stepN
      rw [byte_toNat _ (by omega), if_neg (by omega), if_neg (by omega)]
      have hd : n / 128 < 2 ^ (7 * k + 1) := by
        have e : 2 ^ (7 * (k + 1) + 1) = 128 * 2 ^ (7 * k + 1) := by rw [show 7 * (k + 1) + 1 = 7 + (7 * k + 1) by omega, Nat.pow_add]
        rw [e] at hn
        exact Nat.div_lt_of_lt_mul hn
      rw [numFrom_grp k (by omega) (n / 128) _ t hd (fun _ => by omega)]
      have e1 : 9 - k = (9 - (k + 1)) + 1 := by omega
      rw [e1, Nat.pow_succ]
      have e2 : (n % 128 + 128) % 128 = n % 128 := by omega
      rw [e2]
      generalize 128 ^ (9 - (k + 1)) = z
      congr 2
      have h3 : n / 128 * (z * 128) = (n / 128 * 128) * z := by rw [Nat.mul_comm z, Nat.mul_assoc]
      have h4 : n * z = (n % 128) * z + (n / 128 * 128) * z := by rw [← Nat.add_mul]; congr 1; omega
      rw [h3, h4, Nat.add_assoc]
theorem numOf_grp (n : Nat) (h : n < 18446744073709551616) (t : List UInt8) : numOf (grp n ++ t) = some (n, t) := by
  have := numFrom_grp 9 (Nat.le_refl _) n 0 t h (fun q => absurd q (by omega))
  rw [show 9 - 9 = 0 from rfl, Nat.pow_zero, Nat.mul_one, Nat.zero_add] at this
  exact this
theorem wholeOf_grp (n : Int) (h1 : -9223372036854775808 ≤ n) (h2 : n ≤ 9223372036854775807) (t : List UInt8) : wholeOf (grp (zig n) ++ t) = some (n, t) := by
  unfold wholeOf
  rw [numOf_grp _ (zig_lt h1 h2)]
  simp only
  rw [zag_zig n h1 h2]
theorem textOf_txt (most : Nat) (s : ByteArray) (h : s.size ≤ most) (hm : most < 18446744073709551616) (t : List UInt8) : textOf most (txt s ++ t) = some (s, t) := by
  have hs : s.data.toList.length = s.size := Array.length_toList
  unfold textOf txt
  rw [List.append_assoc, numOf_grp _ (by omega)]
  simp only
  rw [if_neg (by rw [List.length_append, hs]; omega), List.take_left' hs, List.drop_left' hs]
end Go.Proofs.Ytmpiknaoocflcaa
