/- PackCuts walked. -/
import Derived.Test.YtmpiknaoocflcaaS6
import Derived.Test.YtmpiknaoocflcaaR6
namespace Go.Proofs.Ytmpiknaoocflcaa
open Go.RowKit

theorem spot_of (n : Int) (m : Nat) (h0 : 0 < m) (h1 : m ≤ 20000) : ∃ k : Nat, wrap64 ((IntKind.u64.wrap n).tmod (m : Nat)) = (k : Int) ∧ k < m := by
  have a := Int.tmod_nonneg (m : Int) (wrap_u64_nonneg n)
  have b := Int.tmod_lt_of_pos (IntKind.u64.wrap n) (show (0 : Int) < (m : Int) by omega)
  exact ⟨((IntKind.u64.wrap n).tmod (m : Int)).toNat, by generalize (IntKind.u64.wrap n).tmod (m : Int) = z at *; unfold wrap64; omega, by omega⟩
theorem VIn.ranges {w : World} {a : Option Addr} {xs : List Tri} (h : VIn w a xs) : ∀ i (h : i < xs.length), InRange xs[i].2.1 := fun i hi => (h.fits i hi).1

set_option maxRecDepth 100000 in
set_option maxHeartbeats 1000000 in
theorem packCuts_all (A : Option Addr) (c : Nat) (xs : List Tri) (B : Option Addr) (d : Nat) (ys : List Tri) (n : Int) (w : World) (hA : VIn w A xs) (hB : VIn w B ys) :
    Calls Try.prog 6 #[.slice A xs.length c, .slice B ys.length d, .int .i64 n] w fun e w' => e = .returned (.bool true) ∧ Below w.heap.size w w' := by
  have HA := Lib.hid hA
  have HB := Lib.hid hB
  clear hA hB
  go_enter Try.func6, Try.ntmps6
  go_wp2_with fail
  refine (awake_any _).mono ?_
  rintro e w1 ⟨rfl, b1⟩
  have B1 := Lib.hid b1
  clear b1
  by_cases hx : xs.length ≤ 50
  · have hx' : ¬ (50 : Int) < (xs.length : Int) := by omega
    by_cases hy : ys.length ≤ 50
    · have hy' : ¬ (50 : Int) < (ys.length : Int) := by omega
      go_wp2_with fail
      go_loopg [7] (xs.length + 1) (fun j s7 wr => ∃ i : Nat, i ≤ xs.length ∧ xs.length < i + j ∧ s7 = .int .i64 (i : Nat) ∧ wr = w1 ∧ ∀ k (h : k < xs.length), k < i → xs[k].2.2.size ≤ 1000)
      case atStart => exact ⟨0, by omega, by omega, rfl, rfl, fun k _ h => absurd h (by omega)⟩
      case round =>
        obtain ⟨i, hi, hj, rfl, rfl, hall⟩ := hrel
        by_cases hend : i = xs.length
        · have hno : ¬ (i : Int) < (xs.length : Int) := by omega
          have HX : Hid (∀ k (h : k < xs.length), xs[k].2.2.size ≤ 1000) := Lib.hid (fun k h => hall k h (by omega))
          clear hall hend
          go_wp2_with fail
          go_loopg [8] (ys.length + 1) (fun j s8 wq => ∃ i : Nat, i ≤ ys.length ∧ ys.length < i + j ∧ s8 = .int .i64 (i : Nat) ∧ wq = wr ∧ ∀ k (h : k < ys.length), k < i → ys[k].2.2.size ≤ 1000)
          case atStart => exact ⟨0, by omega, by omega, rfl, rfl, fun k _ h => absurd h (by omega)⟩
          case round =>
            obtain ⟨i2, hi2, hj2, rfl, rfl, hall⟩ := hrel
            by_cases hend2 : i2 = ys.length
            · have hno2 : ¬ (i2 : Int) < (ys.length : Int) := by omega
              have HY : Hid (∀ k (h : k < ys.length), ys[k].2.2.size ≤ 1000) := Lib.hid (fun k h => hall k h (by omega))
              clear hall hend2
              go_wp2_with fail
              have L1 := rowB_length xs HA.out.ranges (by omega)
              have hm0 : ¬ ((rowB xs).length : Int) = 0 := by omega
              have hm1 : ((rowB xs).length : Int) ≤ 20000 := by omega
              refine (Row_any none 0 [] A c xs wr (Holds.nil _ _) (Nat.le_refl _) (by simp) (HA.out.below B1.out) (by omega) (fun k h => by have := HX.out k h; omega)).mono ?_
              rintro e w2 ⟨v, rfl, hr, hb⟩
              rw [List.nil_append] at hr
              obtain ⟨X, cx, rfl, hX, hcx, hmx⟩ := hr.shape
              have HX2 := Lib.hid hX
              have B2 := Lib.hid (below_next B1.out hb)
              obtain ⟨k, hk, hkm⟩ := spot_of n (rowB xs).length L1.1 (by omega)
              have hkc : (k : Int) ≤ (cx : Int) := by omega
              have CUT := Lib.hid (rowOf_cut xs HA.out.ranges (by omega) k hkm)
              have htl : ((rowB xs).take k).length = k := by rw [List.length_take]; omega
              have G1 := get_row X cx ((rowB xs).take k) w2 (hX.take k) (by omega) (by omega)
              rw [htl] at G1
              replace G1 := Lib.hid G1
              clear hr hX hb htl
              go_wp2_with fail
              refine G1.out.mono ?_
              rintro e w3 ⟨hb3, he⟩
              rw [CUT.out] at he
              subst he
              have B3 := Lib.hid (below_next B2.out hb3)
              have HX3 := HX2.out.below hb3
              have L2 := rowB_length ys HB.out.ranges (by omega)
              have R2 := Lib.hid (Row_any X cx (rowB xs) B d ys w3 HX3 hcx (by omega) (HB.out.below B3.out) (by omega) (fun k h => by have := HY.out k h; omega))
              have E1 := rowOf_rowB xs HA.out.ranges (by omega) (rowB ys)
              have E2 := rowOf_rowB ys HB.out.ranges (by omega) []
              rw [List.append_nil] at E2
              replace E1 := Lib.hid E1
              replace E2 := Lib.hid E2
              clear hb3 G1 CUT hk HX3
              go_wp2_with fail
              refine R2.out.mono ?_
              rintro e w4 ⟨v4, rfl, hr4, hb4⟩
              obtain ⟨Y, cy, rfl, hY, hcy, hmy⟩ := hr4.shape
              have B4 := Lib.hid (below_next B3.out hb4)
              have G2 := get_row Y cy (rowB xs ++ rowB ys) w4 hY (by omega) (by rw [List.length_append]; omega)
              rw [List.length_append] at G2
              replace G2 := Lib.hid G2
              clear hr4 hb4 hY R2
              go_wp2_with fail
              refine G2.out.mono ?_
              rintro e w5 ⟨hb5, he⟩
              rw [E1.out] at he
              obtain ⟨v5, r5, rfl, ⟨q5, rfl, -, -⟩, hr5⟩ := he
              obtain ⟨Z, cz, rfl, hZ, hcz, hmz⟩ := hr5.shape
              have B5 := Lib.hid (below_next B4.out hb5)
              have G3 := Lib.hid (get_row Z cz (rowB ys) w5 hZ (by omega) (by omega))
              clear hb5 hr5 hZ G2
              go_wp2_with fail
              refine G3.out.mono ?_
              rintro e w6 ⟨hb6, he⟩
              rw [E2.out] at he
              obtain ⟨v6, r6, rfl, ⟨q6, rfl, -, -⟩, hr6⟩ := he
              obtain ⟨U, cu, rfl, -, -, -⟩ := hr6.shape
              have B6 := Lib.hid (below_next B5.out hb6)
              clear hb6 hr6 G3
              go_wp2_with fail
              go_ret
              exact ⟨rfl, B6.out⟩
            · have hlt : i2 < ys.length := by omega
              have hlt' : (i2 : Int) < (ys.length : Int) := by omega
              obtain ⟨b, off, hBe, hbl, c0, c1, c2⟩ := (HB.out.below B1.out).cell i2 hlt
              subst hBe
              by_cases hbig : ys[i2].2.2.size ≤ 1000
              · have hbig' : ¬ (1000 : Int) < (ys[i2].2.2.size : Int) := by omega
                have HALL : Hid (∀ k (h : k < ys.length), k < i2 + 1 → ys[k].2.2.size ≤ 1000) := Lib.hid (fun k h hk => by
                  rcases Nat.lt_or_ge k i2 with h1 | h1
                  · exact hall k h h1
                  · have : k = i2 := by omega
                    subst this
                    exact hbig)
                clear hall
                go_wp2_with fail
                go_roundg (ys.length - i2)
                case measure => omega
                case rel => exact ⟨i2 + 1, by omega, by omega, rfl, rfl, HALL.out⟩
              · have hbig' : (1000 : Int) < (ys[i2].2.2.size : Int) := by omega
                clear hall
                go_wp2_with fail
                go_ret
                exact ⟨rfl, B1.out⟩
        · have hlt : i < xs.length := by omega
          have hlt' : (i : Int) < (xs.length : Int) := by omega
          obtain ⟨b, off, hAe, hbl, c0, c1, c2⟩ := (HA.out.below B1.out).cell i hlt
          subst hAe
          by_cases hbig : xs[i].2.2.size ≤ 1000
          · have hbig' : ¬ (1000 : Int) < (xs[i].2.2.size : Int) := by omega
            have HALL : Hid (∀ k (h : k < xs.length), k < i + 1 → xs[k].2.2.size ≤ 1000) := Lib.hid (fun k h hk => by
              rcases Nat.lt_or_ge k i with h1 | h1
              · exact hall k h h1
              · have : k = i := by omega
                subst this
                exact hbig)
            clear hall
            go_wp2_with fail
            go_roundg (xs.length - i)
            case measure => omega
            case rel => exact ⟨i + 1, by omega, by omega, rfl, rfl, HALL.out⟩
          · have hbig' : (1000 : Int) < (xs[i].2.2.size : Int) := by omega
            clear hall
            go_wp2_with fail
            go_ret
            exact ⟨rfl, B1.out⟩
    · have hy' : (50 : Int) < (ys.length : Int) := by omega
      go_wp2_with fail
      go_ret
      exact ⟨rfl, B1.out⟩
  · have hx' : (50 : Int) < (xs.length : Int) := by omega
    go_wp2_with fail
    go_ret
    exact ⟨rfl, B1.out⟩
end Go.Proofs.Ytmpiknaoocflcaa
