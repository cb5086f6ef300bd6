/- Plain: groups of 7 bits. -/
namespace Go.Proofs.Ytmpiknaoocflcaa

/-- a number's groups. -/
def grp (n : Nat) : List UInt8 := if n < 128 then [UInt8.ofNat n] else UInt8.ofNat (n % 128 + 128) :: grp (n / 128)
termination_by n
decreasing_by omega
theorem grp_small {n : Nat} (h : n < 128) : grp n = [UInt8.ofNat n] := by rw [grp, if_pos h]
theorem grp_more {n : Nat} (h : ¬ n < 128) : grp n = UInt8.ofNat (n % 128 + 128) :: grp (n / 128) := by rw [grp, if_neg h]
theorem grp_length (k : Nat) : ∀ n, n < 128 ^ (k + 1) → (grp n).length ≤ k + 1 := by
  induction k with
  | zero => intro n h; rw [grp_small (by omega)]; simp
  | succ k ih =>
    intro n h
    by_cases hs : n < 128
    · rw [grp_small hs]; simp
    · rw [grp_more hs, List.length_cons]
      have := ih (n / 128) (by rw [Nat.pow_succ] at h; omega)
      omega
theorem grp_ten {n : Nat} (h : n < 18446744073709551616) : (grp n).length ≤ 10 := grp_length 9 n (by omega)
theorem grp_pos (n : Nat) : 0 < (grp n).length := by
  by_cases hs : n < 128
  · rw [grp_small hs]; simp
  · rw [grp_more hs]; simp
end Go.Proofs.Ytmpiknaoocflcaa
