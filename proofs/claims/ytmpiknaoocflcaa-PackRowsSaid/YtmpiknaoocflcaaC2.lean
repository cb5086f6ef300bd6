/- PackRows walked. -/
import Derived.Test.YtmpiknaoocflcaaS6
import Derived.Test.YtmpiknaoocflcaaT4
namespace Go.Proofs.Ytmpiknaoocflcaa
open Go.RowKit

attribute [local go_sem ↓] Val.neqVal in
set_option maxRecDepth 100000 in
set_option maxHeartbeats 1000000 in
theorem packRows_all (A : Option Addr) (c : Nat) (xs : List Tri) (B : Option Addr) (d : Nat) (t : List UInt8) (w : World) (hA : VIn w A xs) (hB : Holds w B t) :
    Calls Try.prog 4 #[.slice A xs.length c, .slice B t.length d] w fun e w' => e = .returned (.bool true) ∧ Below w.heap.size w w' := by
  have HA := Lib.hid hA
  have HT := Lib.hid hB
  clear hA hB
  go_enter Try.func4, Try.ntmps4
  go_wp2_with fail
  refine (awake_any _).mono ?_
  rintro e w1 ⟨rfl, b1⟩
  have B0 := Lib.hid b1
  clear b1
  by_cases hx : xs.length ≤ 50
  · have hx' : ¬ (50 : Int) < (xs.length : Int) := by omega
    by_cases hy : t.length ≤ 1000
    · have hy' : ¬ (1000 : Int) < (t.length : Int) := by omega
      have NEW := Lib.hid (VRow.new w1)
      have bn : Hid (Below w1.heap.size w1 (w1.alloc (.cells #[] 42))) := Lib.hid ((Below.refl _ _).alloc (Nat.le_refl _) _)
      go_wp2_with fail
      go_loopg [5, 6] (xs.length + 1) (fun j s5 s6 wr => ∃ i : Nat, i ≤ xs.length ∧ xs.length < i + j ∧ s6 = .int .i64 (i : Nat) ∧ VRow wr w1.heap.size s5 ((xs.take i).map norm) ∧ Below w1.heap.size w1 wr ∧ ∀ k (h : k < xs.length), k < i → xs[k].2.2.size ≤ 1000)
      case atStart => exact ⟨0, by omega, by omega, rfl, by simpa using NEW.out, bn.out, fun k _ h => absurd h (by omega)⟩
      case round =>
        obtain ⟨i, hi, hj, rfl, hvr, hb, hall⟩ := hrel
        clear NEW bn
        have HVR := Lib.hid hvr
        have B1r := Lib.hid hb
        clear hvr hb
        by_cases hend : i = xs.length
        · have hno : ¬ (i : Int) < (xs.length : Int) := by omega
          have HALL : Hid (∀ k (h : k < xs.length), xs[k].2.2.size ≤ 1000) := Lib.hid (fun k h => hall k h (by omega))
          clear hall
          subst hend
          have hvr := HVR.out
          rw [List.take_length] at hvr
          obtain ⟨A5, c5, e5, hat5⟩ := hvr.shape
          rw [List.length_map] at e5
          subst e5
          have HAT := Lib.hid hat5
          have hrl := (rowB_length xs (fun i h => (HA.out.fits i h).1) (by omega)).2
          have B2r := Lib.hid (below_next B0.out B1r.out)
          clear hvr hat5 HVR
          go_wp2_with fail
          refine (Row_any none 0 [] A c xs wr (Holds.nil _ _) (Nat.le_refl _) (by simp) (HA.out.below B2r.out) (by omega) (fun k h => by have := HALL.out k h; omega)).mono ?_
          rintro e w2 ⟨v, rfl, hr, hb⟩
          rw [List.nil_append] at hr
          obtain ⟨X, cx, rfl, hX, hcx, -⟩ := hr.shape
          obtain ⟨v93, w3, hc3, hr3, hb3⟩ := fresh_copy hX cx (by omega)
          have hT3 : Holds w3 B t := HT.out.below (below_next (below_next B2r.out hb) hb3)
          obtain ⟨v95, w4, hc4, hr4, hg4, -⟩ := append_bytes hr3 B d t hT3 (by omega) hb3.size
          have hb24 := below_grown hb3 hg4 hr3.block
          obtain ⟨Y, cy, rfl, hY, hcy, -⟩ := hr4.shape
          have G := get_row Y cy (rowB xs ++ t) w4 hY hcy (by rw [List.length_append]; omega)
          rw [List.length_append] at hc4 G
          have hrow := rowOf_rowB xs (fun i h => (HA.out.fits i h).1) (by omega) t
          have HROW := Lib.hid hrow
          replace G := Lib.hid G
          have HC3 := Lib.hid hc3
          have HC4 := Lib.hid hc4
          have HX4 := Lib.hid (hX.below hb24)
          have B2 := Lib.hid (below_next hb hb24)
          clear hr hb hX hc3 hr3 hb3 hT3 hc4 hr4 hg4 hb24 hY hrow
          go_wp2_with (first | (at_builtin; refine Lib.wpList_append_run _ rfl (.tmp 91) (.tmp 92) 23 23 rfl _ _ rfl rfl _ _ HC3.out ?_) | (at_builtin; refine Lib.wpList_append_run _ rfl (.tmp 93) (.tmp 94) 23 23 rfl _ _ rfl rfl _ _ HC4.out ?_))
          refine G.out.mono ?_
          rintro e w5 ⟨hb5, he⟩
          rw [HROW.out] at he
          obtain ⟨v13, r14, rfl, ⟨q13, rfl, -, hvb⟩, hr14⟩ := he
          obtain ⟨P, cp, rfl, hP, hcp, -⟩ := hr14.shape
          have B5 := Lib.hid (below_next B2.out hb5)
          have RR := Lib.hid (refRow_any A c xs w5 (HA.out.below (below_next B2r.out B5.out)) (by omega))
          have HX5 := Lib.hid (HX4.out.below hb5)
          have HV5 := Lib.hid hvb.at_
          have HP5 := Lib.hid hP
          clear hb5 hvb hr14 hP HX4 G HC3 HC4 B2
          go_wp2_with fail
          refine RR.out.mono ?_
          rintro e w6 ⟨v102, rfl, hr6, hb6⟩
          obtain ⟨R, cR, rfl, hR, -, -⟩ := hr6.shape
          have SM := Lib.hid (same_self X R cx cR (rowB xs) w6 (HX5.out.below hb6) hR)
          have B6 := Lib.hid (below_next B5.out hb6)
          have SZ := Lib.hid (size_any A c xs w6 (HA.out.below (below_next B2r.out B6.out)) (by omega) (fun k h => by have := HALL.out k h; omega))
          have HV6 := Lib.hid (HV5.out.below hb6)
          have HP6 := Lib.hid (HP5.out.below hb6)
          clear hr6 hb6 hR RR HX5 HV5 HP5 B5
          go_wp2_with fail
          refine SM.out.mono ?_
          rintro e w6' ⟨rfl, rfl⟩
          go_wp2_with fail
          refine SZ.out.mono ?_
          rintro e w7 ⟨rfl, hb7⟩
          have B7 := Lib.hid (below_next B6.out hb7)
          have RS := rows_same (some ⟨q13, 0, none⟩) A5 (xs.map norm).length c5 (xs.map norm) w7 (HV6.out.below hb7) (HAT.out.below B7.out) (by rw [List.length_map]; omega)
          rw [List.length_map] at RS
          replace RS := Lib.hid RS
          have HP7 := Lib.hid (HP6.out.below hb7)
          clear hb7 SM SZ HV6 HP6 B6
          go_wp2_with fail
          refine RS.out.mono ?_
          rintro e w8 ⟨rfl, k8, rfl⟩
          have B8 := below_drewN B7.out k8
          have SM2 := Lib.hid (same_self P B cp d t (w7.drewN k8) (HP7.out.below (below_drewN (Below.refl _ _) k8)) (HT.out.below (below_next B2r.out B8)))
          replace B8 := Lib.hid B8
          clear RS
          go_wp2_with fail
          refine SM2.out.mono ?_
          rintro e w9 ⟨rfl, rfl⟩
          go_wp2_with fail
          go_ret
          exact ⟨rfl, below_next B2r.out B8.out⟩
        · have hlt : i < xs.length := by omega
          have hlt' : (i : Int) < (xs.length : Int) := by omega
          obtain ⟨b, off, hAe, hbl, c0, c1, c2⟩ := (HA.out.below (below_next B0.out B1r.out)).cell i hlt
          have hR := (HA.out.fits i hlt).1
          have HALL0 := Lib.hid hall
          clear hall
          rcases hx3 : xs[i] with ⟨k, n, s⟩
          rw [hx3] at c0 c1 c2 hR
          dsimp only at c0 c1 c2 hR
          have HX := Lib.hid hx3
          have HR := Lib.hid hR
          clear hx3 hR
          cases hAe
          by_cases hbig : s.size ≤ 1000
          · have hbig0 := Lib.hid hbig
            have hbig' : ¬ (1000 : Int) < (s.size : Int) := by omega
            have bal : Below wr.heap.size wr (wr.alloc (.cells #[.int .i64 k, .int .i64 n, .string s] 42)) := (Below.refl _ _).alloc (Nat.le_refl _) _
            have HW : Whole (wr.alloc (.cells #[.int .i64 k, .int .i64 n, .string s] 42)) wr.heap.size 42 #[.int .i64 k, .int .i64 n, .string s] := Whole.new _ _ _
            have a0 := HW.cell 0
            have a1 := HW.cell 1
            have a2 := HW.cell 2
            simp only [List.getElem?_toArray, List.getElem?_cons_zero, List.getElem?_cons_succ] at a0 a1 a2
            go_wp2_with fail
            refine (Val.refplain_any _ _ _ _).mono ?_
            rintro e u1 ⟨rfl, b1⟩
            have HU := HW.below b1 HW.lt
            have BU := below_next bal b1
            clear a0 a1 a2 HW bal b1
            cases hp : Val.plainB k n s with
            | true =>
              have HQ := Lib.hid HU
              have BR3 := Lib.hid BU
              have HN := Lib.hid (norm_plain hp)
              clear HU BU
              have e0 := HQ.out.cell 0
              have e1 := HQ.out.cell 1
              have e2 := HQ.out.cell 2
              simp only [List.getElem?_toArray, List.getElem?_cons_zero, List.getElem?_cons_succ] at e0 e1 e2
              obtain ⟨v5, u4, hap, hvr, hgr⟩ := append_val (HVR.out.below (BR3.out)) (k, n, s) (by simp; omega) (Nat.le_trans B1r.out.size BR3.out.size)
              have hown := HVR.out.block
              have B14 := Lib.hid (below_grown ((below_next B1r.out BR3.out).alloc (below_next B1r.out BR3.out).size _) hgr (fun k hk => (hown k hk).1))
              have hq4 : Whole u4 wr.heap.size 42 #[.int .i64 k, .int .i64 n, .string s] := by
                have h1 : Whole (u1.alloc (.cells #[.int .i64 k, .int .i64 n, .string s] 42)) wr.heap.size 42 #[.int .i64 k, .int .i64 n, .string s] := HQ.out.alloc _
                unfold Whole at *
                rw [hgr.block wr.heap.size (Array.getElem?_eq_some_iff.1 h1).1 (fun e => by have := (hown _ e.symm).2; omega)]
                exact h1
              have HQ4 := Lib.hid hq4
              have HAP := Lib.hid hap
              have HVR4 := Lib.hid hvr
              clear hap hvr hgr hq4 hown
              obtain ⟨b, off, hAe, hbl, g0, g1, g2⟩ := (HA.out.below (below_next B0.out B14.out)).cell i hlt
              rw [HX.out] at g0 g1 g2
              dsimp only at g0 g1 g2
              cases hAe
              have VA := Value_any (k, n, s) u4 HR.out (show s.size ≤ 9000000 by omega)
              have hvl : (vb (norm (k, n, s))).length ≤ 300 := vb_length (k, n, s) HR.out
              have hval : valOf (vb (norm (k, n, s)) ++ t) = some (norm (k, n, s), t) := valOf_vb (k, n, s) HR.out t
              rw [HN.out] at VA hvl hval
              dsimp only [tval, Val.val] at VA
              replace VA := Lib.hid VA
              go_wp2_with (at_builtin; refine Lib.wpList_append_run _ rfl (.tmp 48) (.tmp 50) 40 40 rfl _ _ rfl rfl _ _ HAP.out ?_)
              refine VA.out.mono ?_
              rintro e u5 ⟨v8, rfl, hr8, hb5⟩
              obtain ⟨Rb, cr, rfl, hRb, hcr, -⟩ := hr8.shape
              have hT5 : Holds u5 B t := HT.out.below (below_next (below_next B0.out B14.out) hb5)
              obtain ⟨v60, u6, hap6, hr6, hg6, -⟩ := append_bytes hr8 B d t hT5 (by omega) hb5.size
              have hold6 := append_old hr8 B d t hT5 (by omega) hap6 hr6
              have hb46 := below_grown hb5 hg6 hr8.block
              obtain ⟨R2, c2', rfl, hR2, hc2, -⟩ := hr6.shape
              have G := get_value R2 c2' (vb (k, n, s) ++ t) u6 hR2 hc2 (by rw [List.length_append]; omega)
              rw [List.length_append] at hap6 G
              replace G := Lib.hid G
              have HAP6 := Lib.hid hap6
              have HVAL := Lib.hid hval
              have HO6 := Lib.hid hold6
              have B46 := Lib.hid hb46
              clear hap6 hval hold6 hb46 hr6 hg6 hR2 hr8 hb5 hRb hT5 VA HAP g0 g1 g2 e0 e1 e2
              go_wp2_with (at_builtin; refine Lib.wpList_append_run _ rfl (.tmp 58) (.tmp 59) 23 23 rfl _ _ rfl rfl _ _ HAP6.out ?_)
              refine G.out.mono ?_
              rintro e u7 ⟨hb7, he⟩
              rw [HVAL.out] at he
              obtain ⟨v10, rfl, hr10⟩ := he
              obtain ⟨P, cp, rfl, hP, hcp, -⟩ := hr10.shape
              have bal9 : Below u7.heap.size u7 (u7.alloc (.cells #[.int .i64 k, .int .i64 n, .string s] 42)) := (Below.refl _ _).alloc (Nat.le_refl _) _
              have HW9 : Whole (u7.alloc (.cells #[.int .i64 k, .int .i64 n, .string s] 42)) u7.heap.size 42 #[.int .i64 k, .int .i64 n, .string s] := Whole.new _ _ _
              have hb48 := below_next (below_next B46.out hb7) bal9
              obtain ⟨b', off', hAe, hbl', h0, h1, h2⟩ := (HA.out.below (below_next (below_next B0.out B14.out) hb48)).cell i hlt
              rw [HX.out] at h0 h1 h2
              dsimp only at h0 h1 h2
              cases hAe
              have RV := refValue_any (k, n, s) (u7.alloc (.cells #[.int .i64 k, .int .i64 n, .string s] 42)) HR.out
              rw [HN.out] at RV
              dsimp only [tval, Val.val] at RV
              replace RV := Lib.hid RV
              have HO8 := Lib.hid ((HO6.out.below hb7).below bal9)
              have HP8 := Lib.hid (hP.below bal9)
              have B48 := Lib.hid hb48
              have W9 := Lib.hid HW9
              dsimp only [tval, Val.val]
              clear hr10 hb7 hP bal9 HW9 hb48 G HAP6 HO6 B46
              go_wp2_with fail
              refine RV.out.mono ?_
              rintro e u9 ⟨v70, rfl, hr70, hb9⟩
              obtain ⟨R7, c7, rfl, hR7, -, -⟩ := hr70.shape
              have SM := Lib.hid (same_self Rb R7 cr c7 _ u9 (HO8.out.below hb9) hR7)
              have b49 := below_next B48.out hb9
              have SM2 := Lib.hid (same_self P B cp d t u9 (HP8.out.below hb9) (HT.out.below (below_next (below_next B0.out B14.out) b49)))
              have w9 := W9.out.below hb9 W9.out.lt
              have x0 := w9.cell 0
              have x1 := w9.cell 1
              have x2 := w9.cell 2
              have q9 := HQ4.out.below b49 HQ4.out.lt
              have z0 := q9.cell 0
              have z1 := q9.cell 1
              have z2 := q9.cell 2
              simp only [List.getElem?_toArray, List.getElem?_cons_zero, List.getElem?_cons_succ] at x0 x1 x2 z0 z1 z2
              have hs : Val.same k n s k n s = true := Val.same_iff.2 ⟨rfl, rfl, rfl⟩
              have VR9 := Lib.hid (HVR4.out.below b49)
              have B19 := Lib.hid (below_next B14.out b49)
              clear hr70 hb9 hR7 b49 w9 q9 RV HO8 HP8 W9 B48 h0 h1 h2
              go_wp2_with fail
              refine SM.out.mono ?_
              rintro e u10 ⟨rfl, rfl⟩
              go_wp2_with fail
              refine SM2.out.mono ?_
              rintro e u11 ⟨rfl, rfl⟩
              go_wp2_with fail
              go_roundg (xs.length - i)
              case measure => omega
              case rel =>
                refine ⟨i + 1, by omega, by omega, rfl, ?_, B19.out, fun j hj hji => ?_⟩
                · rw [List.take_succ_eq_append_getElem hlt, List.map_append, HX.out, List.map_singleton, HN.out]
                  exact VR9.out
                · rcases Nat.lt_or_ge j i with h1 | h1
                  · exact HALL0.out j hj h1
                  · have : j = i := by omega
                    subst this
                    rw [HX.out]
                    exact hbig0.out
            | false =>
              have y0 := HU.cell 0
              have y1 := HU.cell 1
              have y2 := HU.cell 2
              have f0 := HU.frozen 0
              have f1 := HU.frozen 1
              have f2 := HU.frozen 2
              simp only [List.getElem?_toArray, List.getElem?_cons_zero, List.getElem?_cons_succ] at y0 y1 y2
              have HU3 := three (u := .int .i64 0) (v := .int .i64 0) (x := .string ⟨#[]⟩) HU
              have B3 := below_set3 BU (u := .int .i64 0) (v := .int .i64 0) (x := .string ⟨#[]⟩)
              clear HU BU
              generalize hU4 : ((u1.setCell ⟨wr.heap.size, 0, none⟩ (.int .i64 0)).setCell ⟨wr.heap.size, 1, none⟩ (.int .i64 0)).setCell ⟨wr.heap.size, 2, none⟩ (.string ⟨#[]⟩) = u3 at *
              have HQ : Hid (Whole u3 wr.heap.size 42 #[.int .i64 0, .int .i64 0, .string ⟨#[]⟩]) := Lib.hid HU3
              have BR3 := Lib.hid B3
              have HN := Lib.hid (norm_bad hp)
              clear HU3 B3
              have e0 := HQ.out.cell 0
              have e1 := HQ.out.cell 1
              have e2 := HQ.out.cell 2
              simp only [List.getElem?_toArray, List.getElem?_cons_zero, List.getElem?_cons_succ] at e0 e1 e2
              obtain ⟨v5, u4, hap, hvr, hgr⟩ := append_val (HVR.out.below (BR3.out)) (0, 0, ⟨#[]⟩) (by simp; omega) (Nat.le_trans B1r.out.size BR3.out.size)
              have hown := HVR.out.block
              have B14 := Lib.hid (below_grown ((below_next B1r.out BR3.out).alloc (below_next B1r.out BR3.out).size _) hgr (fun k hk => (hown k hk).1))
              have hq4 : Whole u4 wr.heap.size 42 #[.int .i64 0, .int .i64 0, .string ⟨#[]⟩] := by
                have h1 : Whole (u3.alloc (.cells #[.int .i64 0, .int .i64 0, .string ⟨#[]⟩] 42)) wr.heap.size 42 #[.int .i64 0, .int .i64 0, .string ⟨#[]⟩] := HQ.out.alloc _
                unfold Whole at *
                rw [hgr.block wr.heap.size (Array.getElem?_eq_some_iff.1 h1).1 (fun e => by have := (hown _ e.symm).2; omega)]
                exact h1
              have HQ4 := Lib.hid hq4
              have HAP := Lib.hid hap
              have HVR4 := Lib.hid hvr
              clear hap hvr hgr hq4 hown
              obtain ⟨b, off, hAe, hbl, g0, g1, g2⟩ := (HA.out.below (below_next B0.out B14.out)).cell i hlt
              rw [HX.out] at g0 g1 g2
              dsimp only at g0 g1 g2
              cases hAe
              have VA := Value_any (k, n, s) u4 HR.out (show s.size ≤ 9000000 by omega)
              have hvl : (vb (norm (k, n, s))).length ≤ 300 := vb_length (k, n, s) HR.out
              have hval : valOf (vb (norm (k, n, s)) ++ t) = some (norm (k, n, s), t) := valOf_vb (k, n, s) HR.out t
              rw [HN.out] at VA hvl hval
              dsimp only [tval, Val.val] at VA
              replace VA := Lib.hid VA
              go_wp2_with (at_builtin; refine Lib.wpList_append_run _ rfl (.tmp 48) (.tmp 50) 40 40 rfl _ _ rfl rfl _ _ HAP.out ?_)
              refine VA.out.mono ?_
              rintro e u5 ⟨v8, rfl, hr8, hb5⟩
              obtain ⟨Rb, cr, rfl, hRb, hcr, -⟩ := hr8.shape
              have hT5 : Holds u5 B t := HT.out.below (below_next (below_next B0.out B14.out) hb5)
              obtain ⟨v60, u6, hap6, hr6, hg6, -⟩ := append_bytes hr8 B d t hT5 (by omega) hb5.size
              have hold6 := append_old hr8 B d t hT5 (by omega) hap6 hr6
              have hb46 := below_grown hb5 hg6 hr8.block
              obtain ⟨R2, c2', rfl, hR2, hc2, -⟩ := hr6.shape
              have G := get_value R2 c2' (vb (0, 0, ⟨#[]⟩) ++ t) u6 hR2 hc2 (by rw [List.length_append]; omega)
              rw [List.length_append] at hap6 G
              replace G := Lib.hid G
              have HAP6 := Lib.hid hap6
              have HVAL := Lib.hid hval
              have HO6 := Lib.hid hold6
              have B46 := Lib.hid hb46
              clear hap6 hval hold6 hb46 hr6 hg6 hR2 hr8 hb5 hRb hT5 VA HAP g0 g1 g2 e0 e1 e2
              go_wp2_with (at_builtin; refine Lib.wpList_append_run _ rfl (.tmp 58) (.tmp 59) 23 23 rfl _ _ rfl rfl _ _ HAP6.out ?_)
              refine G.out.mono ?_
              rintro e u7 ⟨hb7, he⟩
              rw [HVAL.out] at he
              obtain ⟨v10, rfl, hr10⟩ := he
              obtain ⟨P, cp, rfl, hP, hcp, -⟩ := hr10.shape
              have bal9 : Below u7.heap.size u7 (u7.alloc (.cells #[.int .i64 0, .int .i64 0, .string ⟨#[]⟩] 42)) := (Below.refl _ _).alloc (Nat.le_refl _) _
              have HW9 : Whole (u7.alloc (.cells #[.int .i64 0, .int .i64 0, .string ⟨#[]⟩] 42)) u7.heap.size 42 #[.int .i64 0, .int .i64 0, .string ⟨#[]⟩] := Whole.new _ _ _
              have hb48 := below_next (below_next B46.out hb7) bal9
              obtain ⟨b', off', hAe, hbl', h0, h1, h2⟩ := (HA.out.below (below_next (below_next B0.out B14.out) hb48)).cell i hlt
              rw [HX.out] at h0 h1 h2
              dsimp only at h0 h1 h2
              cases hAe
              have RV := refValue_any (k, n, s) (u7.alloc (.cells #[.int .i64 0, .int .i64 0, .string ⟨#[]⟩] 42)) HR.out
              rw [HN.out] at RV
              dsimp only [tval, Val.val] at RV
              replace RV := Lib.hid RV
              have HO8 := Lib.hid ((HO6.out.below hb7).below bal9)
              have HP8 := Lib.hid (hP.below bal9)
              have B48 := Lib.hid hb48
              have W9 := Lib.hid HW9
              dsimp only [tval, Val.val]
              clear hr10 hb7 hP bal9 HW9 hb48 G HAP6 HO6 B46
              go_wp2_with fail
              refine RV.out.mono ?_
              rintro e u9 ⟨v70, rfl, hr70, hb9⟩
              obtain ⟨R7, c7, rfl, hR7, -, -⟩ := hr70.shape
              have SM := Lib.hid (same_self Rb R7 cr c7 _ u9 (HO8.out.below hb9) hR7)
              have b49 := below_next B48.out hb9
              have SM2 := Lib.hid (same_self P B cp d t u9 (HP8.out.below hb9) (HT.out.below (below_next (below_next B0.out B14.out) b49)))
              have w9 := W9.out.below hb9 W9.out.lt
              have x0 := w9.cell 0
              have x1 := w9.cell 1
              have x2 := w9.cell 2
              have q9 := HQ4.out.below b49 HQ4.out.lt
              have z0 := q9.cell 0
              have z1 := q9.cell 1
              have z2 := q9.cell 2
              simp only [List.getElem?_toArray, List.getElem?_cons_zero, List.getElem?_cons_succ] at x0 x1 x2 z0 z1 z2
              have hs : Val.same 0 0 ⟨#[]⟩ 0 0 ⟨#[]⟩ = true := Val.same_iff.2 ⟨rfl, rfl, rfl⟩
              have VR9 := Lib.hid (HVR4.out.below b49)
              have B19 := Lib.hid (below_next B14.out b49)
              clear hr70 hb9 hR7 b49 w9 q9 RV HO8 HP8 W9 B48 h0 h1 h2
              go_wp2_with fail
              refine SM.out.mono ?_
              rintro e u10 ⟨rfl, rfl⟩
              go_wp2_with fail
              refine SM2.out.mono ?_
              rintro e u11 ⟨rfl, rfl⟩
              go_wp2_with fail
              go_roundg (xs.length - i)
              case measure => omega
              case rel =>
                refine ⟨i + 1, by omega, by omega, rfl, ?_, B19.out, fun j hj hji => ?_⟩
                · rw [List.take_succ_eq_append_getElem hlt, List.map_append, HX.out, List.map_singleton, HN.out]
                  exact VR9.out
                · rcases Nat.lt_or_ge j i with h1 | h1
                  · exact HALL0.out j hj h1
                  · have : j = i := by omega
                    subst this
                    rw [HX.out]
                    exact hbig0.out
          · have hbig' : (1000 : Int) < (s.size : Int) := by omega
            go_wp2_with fail
            go_ret
            exact ⟨rfl, below_next B0.out B1r.out⟩
    · have hy' : (1000 : Int) < (t.length : Int) := by omega
      go_wp2_with fail
      go_ret
      exact ⟨rfl, B0.out⟩
  · have hx' : (50 : Int) < (xs.length : Int) := by omega
    go_wp2_with fail
    go_ret
    exact ⟨rfl, B0.out⟩
end Go.Proofs.Ytmpiknaoocflcaa
