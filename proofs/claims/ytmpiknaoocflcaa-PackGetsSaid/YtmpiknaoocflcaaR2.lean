/- The reader's number. -/
import Derived.Test.YtmpiknaoocflcaaR1
namespace Go.Proofs.Ytmpiknaoocflcaa
open Go.RowKit

/-- one group, a byte of which y came. -/
def stepN (k acc y : Nat) (l : List UInt8) : Option (Nat × List UInt8) :=
  if k = 0 ∧ y % 128 > 1 then none
  else if y < 128 then (if y = 0 ∧ k < 9 then none else some (acc + y % 128 * 128 ^ (9 - k), l))
  else numFrom k (acc + y % 128 * 128 ^ (9 - k)) l
theorem numFrom_cons (k acc : Nat) (x : UInt8) (l : List UInt8) : numFrom (k + 1) acc (x :: l) = stepN k acc x.toNat l := rfl
theorem numFrom_nil (k acc : Nat) : numFrom k acc [] = none := by cases k <;> rfl

theorem single_any {w0 w1 W : World} {r : Nat} {l' : List UInt8} {b : Bool} (h : Rdr w0 w1 W r l' b) (hl : l'.length ≤ 9000000) :
    Calls Try.prog 52 #[.pointer (some ⟨r, 0, none⟩)] W fun e w' => ∃ (y : Nat) (l2 : List UInt8) (bad : Bool), y < 256 ∧ e = .returned (.int .u8 (y : Nat)) ∧ Rdr w0 w1 w' r l2 (b || bad) ∧ l2.length ≤ l'.length ∧
      ((bad = true ∧ l' = []) ∨ (bad = false ∧ ∃ x : UInt8, x.toNat = y ∧ l' = x :: l2)) := by
  cases l' with
  | nil =>
    refine (single_none h).mono ?_
    rintro e w' ⟨rfl, hr⟩
    exact ⟨0, [], true, by omega, rfl, by simpa using hr, Nat.le_refl _, .inl ⟨rfl, rfl⟩⟩
  | cons x l =>
    refine (single_some h hl).mono ?_
    rintro e w' ⟨rfl, hr⟩
    exact ⟨x.toNat, l, false, x.toNat_lt, rfl, by simpa using hr, by simp, .inr ⟨rfl, x, rfl, rfl⟩⟩

theorem group_of (y : Nat) (hy : y < 256) : IntKind.u64.wrap (bits .and .u8 (y : Int) 127) = ((y % 128 : Nat) : Int) := by
  have := u8_and_nat y 127 hy (by omega)
  rw [show y &&& 127 = y % 128 from Nat.and_two_pow_sub_one_eq_mod y 7] at this
  rw [show bits .and .u8 (y : Int) 127 = ((y % 128 : Nat) : Int) from this, IntKind.wrap_u64]
  omega
theorem shifted (g i : Nat) : IntKind.u64.wrap ((g : Int) * 2 ^ (7 * i)) = ((g * 2 ^ (7 * i) % 18446744073709551616 : Nat) : Int) := by
  rw [IntKind.wrap_u64, Int.natCast_emod, Int.natCast_mul, Int.natCast_pow]
  rfl
theorem lt64 (g i : Nat) (hg : g < 128) (hi : i ≤ 8) : g * 2 ^ (7 * i) < 18446744073709551616 :=
  Nat.lt_of_le_of_lt (Nat.mul_le_mul (show g ≤ 127 by omega) (Nat.pow_le_pow_right (by omega) (show 7 * i ≤ 56 by omega))) (by decide)
theorem lt64' (g i : Nat) (hg : g < 128) (hi : i ≤ 9) (h : ¬ (9 - i = 0 ∧ g > 1)) : g * 2 ^ (7 * i) < 18446744073709551616 := by
  by_cases h8 : i ≤ 8
  · exact lt64 g i hg h8
  · obtain rfl : i = 9 := by omega
    exact Nat.lt_of_le_of_lt (Nat.mul_le_mul_right _ (show g ≤ 1 by omega)) (by decide)
theorem back_nat (g i : Nat) (hg : g < 128) (hi : i ≤ 9) : (g * 2 ^ (7 * i) % 18446744073709551616) / 2 ^ (7 * i) = g ↔ ¬ (9 - i = 0 ∧ g > 1) := by
  constructor
  · rintro h ⟨h1, h2⟩
    obtain rfl : i = 9 := by omega
    have e : g * 2 ^ (7 * 9) % 18446744073709551616 = (g % 2) * 2 ^ (7 * 9) := by
      rw [show (18446744073709551616 : Nat) = 2 * 2 ^ (7 * 9) by decide]
      exact Nat.mul_mod_mul_right _ _ _
    rw [e, Nat.mul_div_cancel _ (Nat.two_pow_pos _)] at h
    omega
  · intro h
    rw [Nat.mod_eq_of_lt (lt64' g i hg hi h), Nat.mul_div_cancel _ (Nat.two_pow_pos _)]
theorem back_again (g i : Nat) (hg : g < 128) (hi : i ≤ 9) : ((((g * 2 ^ (7 * i) % 18446744073709551616 : Nat) : Int) / 2 ^ (7 * i)) == (g : Int)) = !decide (9 - i = 0 ∧ g > 1) := by
  have e : (((g * 2 ^ (7 * i) % 18446744073709551616 : Nat) : Int) / 2 ^ (7 * i)) = (((g * 2 ^ (7 * i) % 18446744073709551616) / 2 ^ (7 * i) : Nat) : Int) := by
    rw [Int.natCast_ediv, Int.natCast_pow]
    rfl
  rw [e, Bool.eq_iff_iff]
  simp only [beq_iff_eq, Bool.not_eq_true', decide_eq_false_iff_not, Int.natCast_inj]
  exact back_nat g i hg hi
theorem or_group (acc g i : Nat) (ha : acc < 18446744073709551616) : ∃ a2 : Nat, a2 < 18446744073709551616 ∧ bits .or .u64 (acc : Int) ((g * 2 ^ (7 * i) % 18446744073709551616 : Nat) : Int) = (a2 : Int) ∧
    (acc < 128 ^ i → g < 128 → i ≤ 9 → ¬ (9 - i = 0 ∧ g > 1) → a2 = acc + g * 128 ^ (9 - (9 - i)) ∧ a2 < 128 ^ (i + 1)) := by
  have hs : g * 2 ^ (7 * i) % 18446744073709551616 < 18446744073709551616 := Nat.mod_lt _ (by decide)
  refine ⟨acc ||| (g * 2 ^ (7 * i) % 18446744073709551616), Nat.or_lt_two_pow (n := 64) ha hs, u64_or_nat _ _ ha hs, ?_⟩
  intro h1 h2 h3 h4
  have hp : 128 ^ i = 2 ^ (7 * i) := by rw [show (128 : Nat) = 2 ^ 7 by rfl, ← Nat.pow_mul]
  rw [Nat.mod_eq_of_lt (lt64' g i h2 h3 h4), show 9 - (9 - i) = i by omega, hp]
  rw [hp] at h1
  have h5 := Nat.two_pow_add_eq_or_of_lt h1 g
  have h6 : 2 ^ (7 * i) * g ≤ 2 ^ (7 * i) * 127 := Nat.mul_le_mul_left _ (by omega)
  rw [Nat.or_comm, Nat.mul_comm g, ← h5, Nat.pow_succ, hp]
  clear hs h5
  generalize 2 ^ (7 * i) * g = z at *
  omega

theorem read_end {w0 w1 w : World} {r n i acc y g a2 : Nat} {b bad2 P1 P2 : Bool} {l l2 : List UInt8} (hN : numOf l = if bad2 then none else stepN (9 - i) acc y l2) (hP1 : decide (9 - i = 0 ∧ g > 1) = P1) (hg : y % 128 = g) (hy : y < 128) (hi : i ≤ 9)
    (hP2 : P2 = decide (0 < g ∨ i = 0)) (ha : bad2 = false → acc < 128 ^ i) (hv : acc < 128 ^ i → g < 128 → i ≤ 9 → ¬ (9 - i = 0 ∧ g > 1) → a2 = acc + g * 128 ^ (9 - (9 - i)) ∧ a2 < 128 ^ (i + 1)) (hl : l2.length ≤ n) (hr : Rdr w0 w1 w r l2 ((b || (bad2 || P1)) || !P2)) :
    Read w0 w1 r b n (numOf l) (fun x => a2 = x) w := by
  rw [hN]
  cases bad2 with
  | true => exact ⟨l2, hl, by simpa using hr⟩
  | false =>
    simp only [Bool.false_eq_true, if_false]
    unfold stepN
    rw [hg]
    cases P1 with
    | true =>
      rw [if_pos (by simpa using hP1)]
      exact ⟨l2, hl, by simpa using hr⟩
    | false =>
      have h1 : ¬ (9 - i = 0 ∧ g > 1) := of_decide_eq_false hP1
      rw [if_neg h1, if_pos hy]
      by_cases h2 : 0 < g ∨ i = 0
      · rw [if_neg (by omega)]
        rw [decide_eq_true h2] at hP2
        subst hP2
        exact ⟨(hv (ha rfl) (by omega) hi h1).1, hl, by simpa using hr⟩
      · rw [if_pos (by omega)]
        rw [decide_eq_false h2] at hP2
        subst hP2
        exact ⟨l2, hl, by simpa using hr⟩
theorem num_goes {i acc y g a2 : Nat} {bad2 P1 : Bool} {l l2 : List UInt8} (hN : numOf l = if bad2 then none else stepN (9 - i) acc y l2) (hP1 : decide (9 - i = 0 ∧ g > 1) = P1) (hg : y % 128 = g) (hy : ¬ y < 128) (hi : i ≤ 9)
    (ha : bad2 = false → acc < 128 ^ i) (hv : acc < 128 ^ i → g < 128 → i ≤ 9 → ¬ (9 - i = 0 ∧ g > 1) → a2 = acc + g * 128 ^ (9 - (9 - i)) ∧ a2 < 128 ^ (i + 1)) :
    ((bad2 || P1) = false → a2 < 128 ^ (i + 1)) ∧ numOf l = (if (bad2 || P1) then none else numFrom (10 - (i + 1)) a2 l2) := by
  rw [hN]
  cases bad2 with
  | true => exact ⟨fun h => (by cases h), rfl⟩
  | false =>
    simp only [Bool.false_or, Bool.false_eq_true, if_false]
    unfold stepN
    rw [hg]
    cases P1 with
    | true =>
      rw [if_pos (by simpa using hP1)]
      exact ⟨fun h => (by cases h), rfl⟩
    | false =>
      have h1 : ¬ (9 - i = 0 ∧ g > 1) := of_decide_eq_false hP1
      have h2 := hv (ha rfl) (by omega) hi h1
      rw [if_neg h1, if_neg hy]
      refine ⟨fun _ => h2.2, ?_⟩
      rw [← h2.1, show 9 - i = 10 - (i + 1) by omega]
      rfl

set_option maxRecDepth 100000 in
set_option maxHeartbeats 1000000 in
theorem number_any {w0 w1 W : World} {r : Nat} {l : List UInt8} {b : Bool} (h : Rdr w0 w1 W r l b) (hl : l.length ≤ 9000000) :
    Calls Try.prog 38 #[.pointer (some ⟨r, 0, none⟩)] W fun e w' => ∃ m : Nat, m < 18446744073709551616 ∧ e = .returned (.int .u64 (m : Nat)) ∧ Read w0 w1 r b l.length (numOf l) (fun x => m = x) w' := by
  have H := Lib.hid h
  clear h
  go_enter Try.func38, Try.ntmps38
  go_wp2_with fail
  go_loopg [3, 4] 11 (fun j s3 s4 wr => ∃ (i acc : Nat) (l' : List UInt8) (bad : Bool), i ≤ 10 ∧ 10 < i + j ∧ acc < 18446744073709551616 ∧ (bad = false → acc < 128 ^ i) ∧ s3 = .int .u64 (acc : Nat) ∧ s4 = .int .i64 (7 * i : Nat) ∧ l'.length ≤ l.length ∧
    Rdr w0 w1 wr r l' (b || bad) ∧ numOf l = (if bad then none else numFrom (10 - i) acc l'))
  case atStart => exact ⟨0, 0, l, false, by omega, by omega, by omega, fun _ => by omega, rfl, rfl, Nat.le_refl _, by simpa using H.out, rfl⟩
  case round =>
    obtain ⟨i, acc, l', bad, hi, hj, ha, hab, rfl, rfl, hll, hrd, hnum⟩ := hrel
    have HR := Lib.hid hrd
    have HN := Lib.hid hnum
    have HA := Lib.hid hab
    clear hrd hnum hab
    by_cases h10 : i = 10
    · subst h10
      have HN2 : Hid (numOf l = none) := Lib.hid (by rw [HN.out]; cases bad <;> rfl)
      obtain ⟨A, c, -, c1, -, f1, -, -, -, -⟩ := HR.out.cells
      have HW := Lib.hid (HR.out.wrongly true)
      clear HN HA
      go_wp2_with fail
      go_ret
      refine ⟨0, by omega, rfl, ?_⟩
      rw [HN2.out]
      exact ⟨l', hll, HW.out⟩
    · have hi9 : i ≤ 9 := by omega
      have h7 : ((7 * i : Nat) : Int) < 64 := by omega
      go_wp2_with fail
      refine (single_any HR.out (by omega)).mono ?_
      rintro e u1 ⟨y, l2, bad1, hy, rfl, hr1, hl2, hcase⟩
      have hN1 : numOf l = if (bad || bad1) then none else stepN (9 - i) acc y l2 := by
        rw [HN.out]
        rcases hcase with ⟨rfl, rfl⟩ | ⟨rfl, x, rfl, rfl⟩
        · cases bad <;> simp [numFrom_nil]
        · cases bad
          · rw [show 10 - i = (9 - i) + 1 by omega, numFrom_cons]; rfl
          · rfl
      rw [Bool.or_assoc] at hr1
      have hab1 : (bad || bad1) = false → acc < 128 ^ i := fun q => HA.out (by cases bad <;> simp_all)
      generalize (bad || bad1) = bad2 at *
      have HR1 := Lib.hid hr1
      have HN1 := Lib.hid hN1
      have HA1 := Lib.hid hab1
      clear hr1 hN1 hab1 hcase HR HN HA
      have hg := group_of y hy
      have hg128 : y % 128 < 128 := by omega
      have HSH := Lib.hid (shifted (y % 128) i)
      have HBK := Lib.hid (back_again (y % 128) i hg128 hi9)
      obtain ⟨a2, ha2, hor, hval⟩ := or_group acc (y % 128) i ha
      have HOR := Lib.hid hor
      have HV := Lib.hid hval
      clear hor hval
      generalize hgg : y % 128 = g at *
      have HG := Lib.hid hgg
      clear hgg
      go_wp2_with fail
      clear hg
      rw [HSH.out, HBK.out]
      generalize hP1 : decide (9 - i = 0 ∧ g > 1) = P1 at *
      have HP1 := Lib.hid hP1
      clear hP1
      refine (must_any HR1.out _).mono ?_
      rintro e w2 ⟨rfl, hr2⟩
      rw [Bool.not_not, Bool.or_assoc] at hr2
      have HR2 := Lib.hid hr2
      clear hr2
      go_upto_region 9 with fail
      rw [HSH.out, HOR.out]
      by_cases hy1 : y < 128
      · have hyI : (y : Int) < 128 := by omega
        by_cases hg0 : g = 0
        · subst hg0
          by_cases hi0 : i = 0
          · subst hi0
            have FIN := fun w' => read_end (w0 := w0) (w1 := w1) (w := w') (r := r) (b := b) (P2 := true) HN1.out HP1.out HG.out hy1 hi9 (by simp) HA1.out HV.out (Nat.le_trans hl2 hll)
            have HF := Lib.hid FIN
            clear FIN
            go_wp2_with fail
            refine (must_any HR2.out _).mono ?_
            rintro e w3 ⟨rfl, hr3⟩
            have H3 := Lib.hid (HF.out w3 hr3)
            clear hr3
            go_wp2_with fail
            go_ret
            exact ⟨a2, ha2, rfl, H3.out⟩
          · have hz : ((7 : Int) * (i : Int) == 0) = false := by simp; omega
            have FIN := fun w' => read_end (w0 := w0) (w1 := w1) (w := w') (r := r) (b := b) (P2 := false) HN1.out HP1.out HG.out hy1 hi9 (by simp; omega) HA1.out HV.out (Nat.le_trans hl2 hll)
            have HF := Lib.hid FIN
            clear FIN
            go_wp2_with fail
            refine (must_any HR2.out _).mono ?_
            rintro e w3 ⟨rfl, hr3⟩
            have H3 := Lib.hid (HF.out w3 hr3)
            clear hr3
            go_wp2_with fail
            go_ret
            exact ⟨a2, ha2, rfl, H3.out⟩
        · have hz : (0 : Int) < (g : Int) := by omega
          have FIN := fun w' => read_end (w0 := w0) (w1 := w1) (w := w') (r := r) (b := b) (P2 := true) HN1.out HP1.out HG.out hy1 hi9 (by simp; omega) HA1.out HV.out (Nat.le_trans hl2 hll)
          have HF := Lib.hid FIN
          clear FIN
          go_wp2_with fail
          refine (must_any HR2.out _).mono ?_
          rintro e w3 ⟨rfl, hr3⟩
          have H3 := Lib.hid (HF.out w3 hr3)
          clear hr3
          go_wp2_with fail
          go_ret
          exact ⟨a2, ha2, rfl, H3.out⟩
      · have hyI : ¬ (y : Int) < 128 := by omega
        have GO := Lib.hid (num_goes HN1.out HP1.out HG.out hy1 hi9 HA1.out HV.out)
        go_wp2_with fail
        go_roundg (10 - i)
        case measure => omega
        case rel => exact ⟨i + 1, a2, l2, (bad2 || P1), by omega, by omega, ha2, GO.out.1, rfl, by congr 1, Nat.le_trans hl2 hll, HR2.out, GO.out.2⟩
end Go.Proofs.Ytmpiknaoocflcaa
