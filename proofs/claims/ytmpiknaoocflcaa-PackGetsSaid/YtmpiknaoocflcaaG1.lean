/- The reference's GetUint. -/
import Derived.Test.YtmpiknaoocflcaaS6
namespace Go.Proofs.Ytmpiknaoocflcaa
open Go.RowKit

/-- what a reading by places tells: what stands there, the next place. -/
def Placed {α : Type} (n : Nat) (want : Option (α × List UInt8)) (mk : α → Value) (zero : Value) : Value :=
  match want with
  | some (x, l') => .tuple #[mk x, .int .i64 ((n - l'.length : Nat) : Int), .bool true]
  | none => .tuple #[zero, .int .i64 0, .bool false]
theorem placed_some {α : Type} {l : List UInt8} {q : Nat} (hq : q ≤ l.length) (x : α) (mk : α → Value) (zero : Value) : Placed l.length (some (x, l.drop q)) mk zero = .tuple #[mk x, .int .i64 (q : Nat), .bool true] := by
  unfold Placed
  simp only
  rw [List.length_drop, show l.length - (l.length - q) = q by omega]
theorem unit_pow (i p acc : Nat) (hi : i ≤ 9) (hp : p < 128) (h9 : i = 9 → p ≤ 1) (ha : acc < 128 ^ i) : acc + p * 128 ^ i < 18446744073709551616 ∧ (i < 9 → acc + p * 128 ^ i < 128 ^ (i + 1)) := by
  have hs : 128 ^ (i + 1) = 128 ^ i * 128 := Nat.pow_succ 128 i
  generalize hu : 128 ^ i = u at *
  constructor
  · rcases Nat.lt_or_ge i 9 with h | h
    · have h1 : 128 ^ i ≤ 128 ^ 8 := Nat.pow_le_pow_right (by omega) (by omega)
      rw [hu] at h1
      have h2 : p * u ≤ 127 * u := Nat.mul_le_mul_right _ (by omega)
      have : 128 ^ 8 = 72057594037927936 := by decide
      omega
    · have e9 : i = 9 := by omega
      have h2 : p * u ≤ 1 * u := Nat.mul_le_mul_right _ (h9 e9)
      have h3 : u = 9223372036854775808 := by rw [← hu, e9]
      omega
  · intro h
    rw [hs]
    have h2 : p * u ≤ 127 * u := Nat.mul_le_mul_right _ (by omega)
    omega

set_option maxRecDepth 100000 in
set_option maxHeartbeats 1000000 in
theorem refGetUint (B : Option Addr) (c : Nat) (l : List UInt8) (p0 : Nat) (w : World) (h : Holds w B l) (hl : l.length ≤ 3000) (hp0 : p0 ≤ l.length) :
    Calls Try.prog 27 #[.slice B l.length c, .int .i64 (p0 : Nat)] w fun e w' => e = .returned (Placed l.length (numOf (l.drop p0)) (fun x => .int .u64 (x : Nat)) (.int .u64 0)) ∧ ∃ k, w' = w.drewN k := by
  have H := Lib.hid h
  clear h
  go_enter Try.func27, Try.ntmps27
  go_wp2_with fail
  go_loopg [7, 8, 9] 11 (fun j s7 s8 s9 wr => ∃ i acc u : Nat, i ≤ 10 ∧ 10 < i + j ∧ p0 + i ≤ l.length ∧ s7 = .int .u64 (acc : Nat) ∧ s8 = .int .u64 (u : Nat) ∧ s9 = .int .i64 (i : Nat) ∧ (i ≤ 9 → u = 128 ^ i ∧ acc < 128 ^ i) ∧ numOf (l.drop p0) = numFrom (10 - i) acc (l.drop (p0 + i)) ∧ ∃ k, wr = w.drewN k)
  case atStart => exact ⟨0, 0, 1, by omega, by omega, by omega, rfl, rfl, rfl, fun _ => ⟨rfl, by decide⟩, rfl, 0, rfl⟩
  case round =>
    obtain ⟨i, acc, u, hi, hj, hpl, rfl, rfl, rfl, hu, hn, m, rfl⟩ := hrel
    have HN := Lib.hid hn
    clear hn
    have hl9 : (l.length : Int) ≤ 3000 := by omega
    have hp9 : (p0 : Int) ≤ 3000 := by omega
    have hi9 : (i : Int) ≤ 10 := by omega
    by_cases hend : i = 10
    · subst hend
      have HF : Hid (numOf (l.drop p0) = none) := Lib.hid (by rw [HN.out]; rfl)
      clear hu
      go_wp2_with fail
      go_ret3
      exact ⟨by rw [HF.out]; rfl, m, rfl⟩
    · have hlt : (i : Int) < 10 := by omega
      by_cases hfull : p0 + i = l.length
      · have hf1 : (l.length : Int) ≤ (p0 : Int) + (i : Int) := by omega
        have HF : Hid (numOf (l.drop p0) = none) := Lib.hid (by
          rw [HN.out, hfull, List.drop_length]
          obtain ⟨k, hk⟩ : ∃ k, 10 - i = k + 1 := ⟨9 - i, by omega⟩
          rw [hk]; rfl)
        clear hu hfull
        go_wp2_with fail
        go_ret3
        exact ⟨by rw [HF.out]; rfl, m, rfl⟩
      · have hf1 : ¬ (l.length : Int) ≤ (p0 : Int) + (i : Int) := by omega
        have hlt2 : p0 + i < l.length := by omega
        obtain ⟨b, off, e, hbl, hcell⟩ := H.out (p0 + i) hlt2
        subst e
        have hdrop := List.drop_eq_getElem_cons hlt2
        generalize l[p0 + i] = x at *
        have hx := x.toNat_lt
        have HS : Hid (numOf (l.drop p0) = stepN (9 - i) acc x.toNat (l.drop (p0 + i + 1))) := Lib.hid (by
          rw [HN.out, hdrop, show 10 - i = (9 - i) + 1 by omega, numFrom_cons])
        generalize x.toNat = y at *
        obtain ⟨hu1, hu2⟩ := hu (by omega)
        clear hu HN hdrop
        have k1 : (y : Int) < 256 := by omega
        by_cases hA : i = 9 ∧ 1 < y % 128
        · obtain ⟨rfl, h2⟩ := hA
          have h2' : (1 : Int) < (y : Int) % 128 := by omega
          have HF : Hid (numOf (l.drop p0) = none) := Lib.hid (by rw [HS.out]; unfold stepN; rw [if_pos ⟨rfl, h2⟩])
          clear hu1 hu2 HS
          go_wp2_with fail
          go_ret3
          exact ⟨by rw [HF.out]; rfl, m, rfl⟩
        · obtain ⟨hb1, hb2⟩ := unit_pow i (y % 128) acc (by omega) (by omega) (by intro e; omega) hu2
          rw [← hu1] at hb1 hb2
          have e0 : IntKind.u64.wrap ((y : Int) % 128 * (u : Int)) = ((y % 128 * u : Nat) : Int) := by
            rw [show (y : Int) % 128 * (u : Int) = ((y % 128 * u : Nat) : Int) by rw [Int.natCast_mul]; rfl, IntKind.wrap_u64]; omega
          have e1 : IntKind.u64.wrap ((acc : Int) + ((y % 128 * u : Nat) : Int)) = ((acc + y % 128 * u : Nat) : Int) := by rw [IntKind.wrap_u64]; omega
          have hgA : i = 9 → (y : Int) % 128 ≤ 1 := by intro e; omega
          have hstep : stepN (9 - i) acc y (l.drop (p0 + i + 1)) = if y < 128 then (if y = 0 ∧ 9 - i < 9 then none else some (acc + y % 128 * u, l.drop (p0 + i + 1))) else numFrom (9 - i) (acc + y % 128 * u) (l.drop (p0 + i + 1)) := by
            unfold stepN
            rw [if_neg (by omega), show 9 - (9 - i) = i by omega, ← hu1]
          rw [hstep] at HS
          clear hstep hA hu2
          generalize hQ : y % 128 * u = Q at *
          generalize hN : acc + Q = N at *
          have HQ := Lib.hid hQ
          have HNN := Lib.hid hN
          have HBB := Lib.hid hb1
          clear hQ
          by_cases h9 : i = 9
          · subst h9
            have k3 : ¬ (1 : Int) < (y : Int) % 128 := by have := hgA rfl; omega
            by_cases h128 : y < 128
            · have k4 : (y : Int) < 128 := by omega
              by_cases hy0 : y = 0
              · have HF : Hid (numOf (l.drop p0) = none) := Lib.hid (by rw [HS.out, if_pos h128, if_pos ⟨hy0, by omega⟩])
                have k5 : (y : Int) = 0 := by omega
                clear hb1 hb2 hgA HS hu1 hN h128
                go_wp2_with fail
                go_ret3
                exact ⟨by rw [HF.out]; rfl, m, rfl⟩
              · have HF := Lib.hid (placed_some (l := l) (q := p0 + 9 + 1) (by omega) N (fun x => .int .u64 (x : Nat)) (.int .u64 0))
                have HE : Hid (numOf (l.drop p0) = some (N, l.drop (p0 + 9 + 1))) := Lib.hid (by rw [HS.out, if_pos h128, if_neg (by omega)])
                have k5 : ¬ (y : Int) = 0 := by omega
                clear hb1 hb2 hgA HS hu1 hN h128
                go_wp2_with fail
                go_ret3
                exact ⟨by rw [HE.out, HF.out]; rfl, m, rfl⟩
            · have k4 : ¬ (y : Int) < 128 := by omega
              have HE : Hid (numOf (l.drop p0) = numFrom 0 N (l.drop (p0 + 9 + 1))) := Lib.hid (by rw [HS.out, if_neg h128])
              have hz : 0 ≤ IntKind.u64.wrap ((u : Int) * 128) := wrap_u64_nonneg _
              obtain ⟨u', hu'⟩ := Int.eq_ofNat_of_zero_le hz
              clear hb1 hb2 hgA HS hu1 hN h128 hz
              go_wp2_with fail
              go_roundg (10 - 9)
              case measure => omega
              case rel => exact ⟨10, N, u', by omega, by omega, by omega, rfl, rfl, rfl, fun e => by omega, HE.out, m, rfl⟩
          · have k3 : ¬ (i : Int) = 9 := by omega
            have hb3 := hb2 (by omega)
            have hum : u * 128 = 128 ^ (i + 1) := by rw [hu1, Nat.pow_succ]
            have huk : u ≤ 72057594037927936 := by
              have : 128 ^ i ≤ 128 ^ 8 := Nat.pow_le_pow_right (by omega) (by omega)
              rw [hu1]
              exact Nat.le_trans this (by decide)
            have e2 : IntKind.u64.wrap ((u : Int) * 128) = ((u * 128 : Nat) : Int) := by rw [IntKind.wrap_u64]; omega
            by_cases h128 : y < 128
            · have k4 : (y : Int) < 128 := by omega
              by_cases hy0 : y = 0 ∧ 0 < i
              · have HF : Hid (numOf (l.drop p0) = none) := Lib.hid (by rw [HS.out, if_pos h128, if_pos ⟨hy0.1, by omega⟩])
                have k5 : (y : Int) = 0 := by omega
                have k6 : (0 : Int) < (i : Int) := by omega
                clear hb1 hb2 hgA HS hu1 hN h128 hb3 hum huk
                go_wp2_with fail
                go_ret3
                exact ⟨by rw [HF.out]; rfl, m, rfl⟩
              · have HF := Lib.hid (placed_some (l := l) (q := p0 + i + 1) (by omega) N (fun x => .int .u64 (x : Nat)) (.int .u64 0))
                have HE : Hid (numOf (l.drop p0) = some (N, l.drop (p0 + i + 1))) := Lib.hid (by rw [HS.out, if_pos h128, if_neg (by omega)])
                clear hb1 hb2 hgA HS hu1 hN h128 hb3 hum huk
                by_cases hy1 : y = 0
                · have k5 : (y : Int) = 0 := by omega
                  have k6 : ¬ (0 : Int) < (i : Int) := by omega
                  have hQ0 : Q = 0 := by rw [← HQ.out, hy1]; simp
                  have hNa : acc = N := by rw [← HNN.out, hQ0]; rfl
                  have hacc : acc < 18446744073709551616 := by have := HBB.out; omega
                  have e3 : IntKind.u64.wrap (acc : Int) = (N : Int) := by rw [← hNa, IntKind.wrap_u64]; omega
                  clear hQ0 hNa hacc
                  go_wp2_with fail
                  go_ret3
                  exact ⟨by rw [HE.out, HF.out]; rfl, m, rfl⟩
                · have k5 : ¬ (y : Int) = 0 := by omega
                  go_wp2_with fail
                  go_ret3
                  exact ⟨by rw [HE.out, HF.out]; rfl, m, rfl⟩
            · have k4 : ¬ (y : Int) < 128 := by omega
              have HE : Hid (numOf (l.drop p0) = numFrom (9 - i) N (l.drop (p0 + i + 1))) := Lib.hid (by rw [HS.out, if_neg h128])
              have HU := Lib.hid hum
              have HB := Lib.hid hb3
              clear hb1 hb2 hgA HS hu1 hN h128 hb3 hum huk
              go_wp2_with fail
              go_roundg (10 - i)
              case measure => omega
              case rel => exact ⟨i + 1, N, u * 128, by omega, by omega, by omega, rfl, rfl, rfl, fun _ => ⟨HU.out, HB.out⟩, by rw [HE.out, show 10 - (i + 1) = 9 - i by omega, show p0 + (i + 1) = p0 + i + 1 by omega], m, rfl⟩
end Go.Proofs.Ytmpiknaoocflcaa
