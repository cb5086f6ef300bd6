/- TrailPlays walked. -/
import Derived.Test.YtekbfjdjgpgmpaaT6
import Derived.Test.YtekbfjdjgpgmpaaS9
namespace Go.Proofs.Ytekbfjdjgpgmpaa
open Go.RowKit

theorem Both.lenL {w0 w : World} {p r : Nat} {X : List (Nat × Array Value)} {ms : List Nat} {l : List One} (h : Both w0 p r X w (things l) ms l) : Calls Try.prog 20 #[.pointer (some ⟨p, 0, none⟩)] w fun e w' => e = .returned (.int .i64 (Ytekbfjdjgpgmpaa.count false l : Nat)) ∧ w' = w := by
  have := h.len; rwa [things_len] at this
theorem Both.marksL {w0 w : World} {p r : Nat} {X : List (Nat × Array Value)} {ts : List ByteArray} {l : List One} (h : Both w0 p r X w ts (Ytekbfjdjgpgmpaa.marks 0 l) l) : Calls Try.prog 21 #[.pointer (some ⟨p, 0, none⟩)] w fun e w' => e = .returned (.int .i64 (Ytekbfjdjgpgmpaa.count true l : Nat)) ∧ w' = w := by
  have := h.marks; rwa [marks_len] at this



set_option maxRecDepth 100000 in
set_option maxHeartbeats 4000000 in
theorem trailPlays_any (a : Option Addr) (c : Nat) (ds : List Deed) (w : World) (h : CameA w a ds) : Calls Try.prog 3 #[.slice a ds.length c] w fun e w' => e = .returned (.bool true) ∧ Below w.heap.size w w' := by
  have H := Lib.hid h
  clear h
  go_enter Try.func3, Try.ntmps3
  go_wp2_with fail
  refine (awake_any _).mono ?_
  rintro e w1 ⟨rfl, hb1⟩
  have B1 := Lib.hid hb1
  have H1 := Lib.hid (H.out.below hb1)
  clear hb1 H
  go_wp2_with fail
  refine (new_ok _).mono ?_
  rintro e w2 ⟨rfl, hw2⟩
  have A2 : Hid (Both w1 w1.heap.size w2.heap.size [] (w2.alloc (.cells #[.slice none 0 0] 29)) [] [] []) := by
    rw [hw2, World.size_alloc]; exact Both.new w1
  clear hw2
  go_wp2_with fail
  generalize w2.heap.size = r at *
  generalize hp : w1.heap.size = p at *
  go_loopg [5] ds.length (fun j s5 wr => ∃ (i : Nat) (L : List One), i + j = ds.length ∧ i ≤ 200 ∧ s5 = .int .i64 (i : Nat) ∧ L.length ≤ i ∧ Both w1 p r [] wr (things L) (marks 0 L) L)
  case atStart => exact ⟨0, [], by omega, by omega, rfl, Nat.le_refl _, A2.out⟩
  case round =>
    obtain ⟨i, L, hij, hi2, rfl, hL, hb⟩ := hrel
    have BB := Lib.hid hb
    have HIJ := Lib.hid hij
    have HL := Lib.hid hL
    have Hr := Lib.hid (H1.out.below hb.out)
    clear hij hL hb A2
    by_cases h1 : (i : Int) < (ds.length : Int)
    · by_cases h2 : (i : Int) < 200
      · have hi : i < ds.length := by omega
        obtain ⟨b, off, rfl, hbs, k0, k1, k2⟩ := Hr.out.cell i hi
        have HI := Lib.hid h1
        have HI2 := Lib.hid h2
        go_wp2_with fail
        generalize ds[i].k = K at *
        generalize ds[i].n = M at *
        generalize ds[i].x = S at *
        have ba := Both.local BB.out #[.int .i64 K, .int .i64 M, .string S]
        generalize wr.heap.size = nb at *
        generalize wr.alloc (.cells #[.int .i64 K, .int .i64 M, .string S] 31) = wa at *
        have BA := Lib.hid ba
        have l0 : wa.cell? ⟨nb, 0, none⟩ = some (.int .i64 K) := ba.cells 0
        have l1 : wa.cell? ⟨nb, 1, none⟩ = some (.int .i64 M) := ba.cells 1
        have l2 : wa.cell? ⟨nb, 2, none⟩ = some (.string S) := ba.cells 2
        clear k0 k1 k2 hbs ba Hr BB h1 h2 hi
        refine (BA.out.at M (by have := HL.out; omega)).mono ?_
        rintro e wb ⟨rfl, rfl⟩
        by_cases e2 : K = 2
        · subst e2
          have LN : Hid ((L ++ [(true, ByteArray.empty)]).length ≤ i + 1) := Lib.hid (by have := HL.out; simp; omega)
          have LL : Hid ((L ++ [(true, ByteArray.empty)]).length ≤ 500000) := Lib.hid (by have := HL.out; simp; omega)
          have hml : (marks 0 L).length = count true L := marks_len 0 L
          have htl : (things L).length ≤ 1000 := by have h8 := things_len L; have h9 := count_le false L; have := HL.out; omega
          have hcl : count true L ≤ 1000 := by have h9 := count_le true L; have := HL.out; omega
          have MARK := Lib.hid (BA.out.mark (by omega) (by omega))
          rw [hml] at MARK
          clear hml htl
          go_wp2_with fail
          refine MARK.out.mono ?_
          rintro e wc ⟨rfl, b3⟩
          have B3 := Lib.hid b3
          clear b3 MARK l0 l1 l2
          go_wp2_with fail
          refine (B3.out.count true (by have := HL.out; omega)).mono ?_
          rintro e wd ⟨rfl, rfl⟩
          obtain ⟨ar, nr, cr, q0, q1, pu⟩ := B3.out.push true ByteArray.empty (by have := HL.out; omega)
          obtain ⟨ar', nr', cr', we, r1, q2, q3, b4⟩ := pu _ rfl ((Touch.refl _ _).alloc _)
          have R1 := Lib.hid r1
          have e1 : things (L ++ [(true, ByteArray.empty)]) = things L := by rw [things_append]; simp [things]
          have e2 : marks 0 (L ++ [(true, ByteArray.empty)]) = marks 0 L ++ [(things L).length] := by rw [marks_append]; simp [marks]
          rw [← e2, ← e1] at b4
          have TT := Lib.hid b4
          clear e1 e2
          clear pu r1 b4 B3
          go_wp2_with (at_builtin; refine Held.go ?_)
          unfold Held
          refine wpList_append_want _ ?hw (.tmp 69) (.tmp 71) 27 27 ?ho _ _ ?hs ?hx R1.out ?_
          case hw => kernel_rfl
          case ho => rfl
          case hs => rfl
          case hx => rfl
          clear R1
          go_wp2_with fail
          refine (TT.out.lenL).mono ?_
          rintro e wc ⟨rfl, rfl⟩
          go_wp2_with fail
          refine (TT.out.count false LL.out).mono ?_
          rintro e wd ⟨rfl, rfl⟩
          go_wp2_with fail
          refine (TT.out.marksL).mono ?_
          rintro e we ⟨rfl, rfl⟩
          go_wp2_with fail
          refine (TT.out.count true LL.out).mono ?_
          rintro e wf ⟨rfl, rfl⟩
          go_wp2_with fail
          go_roundg (ds.length - i - 1)
          case measure => have := HIJ.out; have := HI.out; omega
          case rel => exact ⟨i + 1, _, by have := HIJ.out; have := HI.out; omega, by have := HI2.out; omega, by simp, LN.out, TT.out.forgetX⟩
        · by_cases e1 : K = 1
          · subst e1
            have LN : Hid ((L ++ [(false, S)]).length ≤ i + 1) := Lib.hid (by have := HL.out; simp; omega)
            have LL : Hid ((L ++ [(false, S)]).length ≤ 500000) := Lib.hid (by have := HL.out; simp; omega)
            have ADD := Lib.hid (BA.out.add S (by have h8 := things_len L; have h9 := count_le false L; have := HL.out; omega))
            go_wp2_with fail
            refine ADD.out.mono ?_
            rintro e wc ⟨rfl, b3⟩
            have m2 : wc.cell? ⟨nb, 2, none⟩ = some (.string S) := b3.cells 2
            obtain ⟨ar, nr, cr, q0, q1, pu⟩ := b3.push false S (by have := HL.out; omega)
            obtain ⟨ar', nr', cr', we, r1, q2, q3, b4⟩ := pu (wc.alloc (.cells #[.bool false, .string S] 36)).drew rfl ((Touch.refl _ _).alloc _).drew
            have R1 := Lib.hid r1
            have e1 : things (L ++ [(false, S)]) = things L ++ [S] := by rw [things_append]; simp [things]
            have e2 : marks 0 (L ++ [(false, S)]) = marks 0 L := by rw [marks_append]; simp [marks]
            rw [← e2, ← e1] at b4
            have TT := Lib.hid b4
            clear pu r1 b4 b3 e1 e2 ADD l0 l1 l2
            go_wp2_with fail
            go_region_law (refine step_append_runI rfl _ _ 27 27 rfl _ _ ?h1 ?h2 R1.out ?_; (case h1 => rfl); (case h2 => rfl))
            all_goals (
              clear R1
              go_wp2_with fail
              refine (TT.out.lenL).mono ?_
              rintro e wc ⟨rfl, rfl⟩
              go_wp2_with fail
              refine (TT.out.count false LL.out).mono ?_
              rintro e wd ⟨rfl, rfl⟩
              go_wp2_with fail
              refine (TT.out.marksL).mono ?_
              rintro e we ⟨rfl, rfl⟩
              go_wp2_with fail
              refine (TT.out.count true LL.out).mono ?_
              rintro e wf ⟨rfl, rfl⟩
              go_wp2_with fail
              go_roundg (ds.length - i - 1)
              case measure => have := HIJ.out; have := HI.out; omega
              case rel => exact ⟨i + 1, _, by have := HIJ.out; have := HI.out; omega, by have := HI2.out; omega, by simp, LN.out, TT.out.forgetX⟩)
          · by_cases e3 : K = 3
            · subst e3
              by_cases hk : M.toNat < count true L ∧ 0 ≤ M
              · obtain ⟨hk, hM0⟩ := hk
                obtain ⟨A, x, B, hAB, hcA⟩ := parts M.toNat L hk
                have hM : M = (count true A : Nat) := by omega
                have hge : at' M 0 0 L ≥ 0 := by rw [hAB, at_there A B x M 0 0 (by omega)]; omega
                have hkA : (marks 0 L)[count true A]? = some (things A).length := by
                  rw [hAB, marks_append, List.getElem?_append_right (by rw [marks_len]; exact Nat.le_refl _), marks_len, Nat.sub_self]
                  simp [marks]
                have htA : things L = things A ++ things B := by rw [hAB, things_append]; rfl
                have htk : (marks 0 L).take (count true A) = marks 0 A := by rw [hAB, marks_append]; exact List.take_left' (marks_len 0 A)
                have hLA : A.length + B.length + 1 = L.length := by rw [hAB]; simp; omega
                have htd : (things L).drop (things A).length = things B := by rw [htA]; exact List.drop_left' rfl
                have htt : (things L).take (things A).length = things A := by rw [htA]; exact List.take_left' rfl
                have htl : (things L).length - (things A).length = (things B).length := by rw [htA, List.length_append]; omega
                have hts : (things L).length ≤ 1000 := by have h8 := things_len L; have h9 := count_le false L; have := HL.out; omega
                have htB : (things B).length ≤ 1000 := by omega
                have hle : (things A).length ≤ (things L).length := by rw [htA, List.length_append]; omega
                have LN : Hid (A.length ≤ i + 1) := Lib.hid (by have := HL.out; omega)
                have LL : Hid (A.length ≤ 500000) := Lib.hid (by have := HL.out; omega)
                have SN := BA.out.cut M (count true A) (things A).length hM hkA hle (by omega)
                rw [htd, htl, htt, htk] at SN
                have SI := Lib.hid SN
                have HAB := Lib.hid hAB
                have HM := Lib.hid hM
                have HTB := Lib.hid htB
                clear hle hAB hM hkA htA htk htd htt htl hts htB hcA hk hM0 hLA SN
                go_wp2_with fail
                refine SI.out.mono ?_
                rintro e wc ⟨v, rfl, o1, b3, -⟩
                obtain ⟨a1, c1, rfl⟩ := slice_shape o1
                have m1 : wc.cell? ⟨nb, 1, none⟩ = some (.int .i64 M) := b3.cells 1
                have SR := Lib.hid (b3.cutR HAB.out M HM.out (by have := HL.out; omega) _ _ _ _ o1)
                have O1 := Lib.hid o1
                clear b3 o1 SI l0 l1 l2
                generalize hgn : (things B).length = N at *
                have HGN := Lib.hid hgn
                clear hgn
                go_wp2_with fail
                refine SR.out.mono ?_
                rintro e wd ⟨u, rfl, o2, b4, o3⟩
                obtain ⟨a2, c2, rfl⟩ := slice_shape o2
                have SAME := Lib.hid (same_eq a1 a2 N c1 c2 (things B).reverse wd (by rw [List.length_reverse]; exact HGN.out.symm) (by have := HTB.out; omega) (Came.of_row o3) (Came.of_row o2))
                have B4 := Lib.hid b4
                clear o2 o3 b4 SR O1 m1
                go_wp2_with fail
                refine SAME.out.mono ?_
                rintro e we ⟨rfl, b5⟩
                have TT := Lib.hid (B4.out.below b5)
                clear b5 B4 SAME
                go_wp2_with fail
                refine (TT.out.lenL).mono ?_
                rintro e wc ⟨rfl, rfl⟩
                go_wp2_with fail
                refine (TT.out.count false LL.out).mono ?_
                rintro e wd ⟨rfl, rfl⟩
                go_wp2_with fail
                refine (TT.out.marksL).mono ?_
                rintro e we ⟨rfl, rfl⟩
                go_wp2_with fail
                refine (TT.out.count true LL.out).mono ?_
                rintro e wf ⟨rfl, rfl⟩
                go_wp2_with fail
                go_roundg (ds.length - i - 1)
                case measure => have := HIJ.out; have := HI.out; omega
                case rel => exact ⟨i + 1, _, by have := HIJ.out; have := HI.out; omega, by have := HI2.out; omega, by simp, LN.out, TT.out.forgetX⟩
              · have hk2 : M < 0 ∨ (count true L : Int) ≤ M := by omega
                have hno : M < 0 ∨ ((marks 0 L).length : Int) ≤ M := by rw [marks_len]; omega
                have hge : ¬ at' M 0 0 L ≥ 0 := by rw [at_not L M 0 0 (by rw [marks_len] at hno; omega)]; omega
                have LN : Hid (L.length ≤ i + 1) := Lib.hid (by have := HL.out; omega)
                have LL : Hid (L.length ≤ 500000) := Lib.hid (by have := HL.out; omega)
                have TT := BA
                have FG := Lib.hid (BA.out.cutNo M hno)
                clear hno hk hk2
                go_wp2_with fail
                refine FG.out.mono ?_
                rintro e wc ⟨rfl, rfl⟩
                go_wp2_with fail
                refine (TT.out.lenL).mono ?_
                rintro e wc ⟨rfl, rfl⟩
                go_wp2_with fail
                refine (TT.out.count false LL.out).mono ?_
                rintro e wd ⟨rfl, rfl⟩
                go_wp2_with fail
                refine (TT.out.marksL).mono ?_
                rintro e we ⟨rfl, rfl⟩
                go_wp2_with fail
                refine (TT.out.count true LL.out).mono ?_
                rintro e wf ⟨rfl, rfl⟩
                go_wp2_with fail
                go_roundg (ds.length - i - 1)
                case measure => have := HIJ.out; have := HI.out; omega
                case rel => exact ⟨i + 1, _, by have := HIJ.out; have := HI.out; omega, by have := HI2.out; omega, by simp, LN.out, TT.out.forgetX⟩
            · by_cases e4 : K = 4
              · subst e4
                by_cases hk : M.toNat < count true L ∧ 0 ≤ M
                · obtain ⟨hk, hM0⟩ := hk
                  obtain ⟨A, x, B, hAB, hcA⟩ := parts M.toNat L hk
                  have hM : M = (count true A : Nat) := by omega
                  have hge : at' M 0 0 L ≥ 0 := by rw [hAB, at_there A B x M 0 0 (by omega)]; omega
                  have hkA : (marks 0 L)[count true A]? = some (things A).length := by
                    rw [hAB, marks_append, List.getElem?_append_right (by rw [marks_len]; exact Nat.le_refl _), marks_len, Nat.sub_self]
                    simp [marks]
                  have htA : things L = things A ++ things B := by rw [hAB, things_append]; rfl
                  have htk : (marks 0 L).take (count true A) = marks 0 A := by rw [hAB, marks_append]; exact List.take_left' (marks_len 0 A)
                  have hLA : A.length + B.length + 1 = L.length := by rw [hAB]; simp; omega
                  have htd : (things L).drop (things A).length = things B := by rw [htA]; exact List.drop_left' rfl
                  have htt : (things L).take (things A).length = things A := by rw [htA]; exact List.take_left' rfl
                  have htl : (things L).length - (things A).length = (things B).length := by rw [htA, List.length_append]; omega
                  have hts : (things L).length ≤ 1000 := by have h8 := things_len L; have h9 := count_le false L; have := HL.out; omega
                  have htB : (things B).length ≤ 1000 := by omega
                  have hle : (things A).length ≤ (things L).length := by rw [htA, List.length_append]; omega
                  have LN : Hid ((A ++ plain B).length ≤ i + 1) := Lib.hid (by have := HL.out; have := plain_len B; simp; omega)
                  have LL : Hid ((A ++ plain B).length ≤ 500000) := Lib.hid (by have := HL.out; have := plain_len B; simp; omega)
                  have FG := Lib.hid (BA.out.forget M (count true A) hM (by have := (List.getElem?_eq_some_iff.1 hkA).1; exact this))
                  have HAB := Lib.hid hAB
                  have HM := Lib.hid hM
                  have e1 : things (A ++ plain B) = things L := by rw [htA, things_append, plain_things]
                  have e2 : marks 0 (A ++ plain B) = (marks 0 L).take (count true A) := by rw [htk, marks_append, plain_marks, List.append_nil]
                  have E1 := Lib.hid e1
                  have E2 := Lib.hid e2
                  clear hle hAB hM hkA htA htk htd htt htl hts htB e1 e2 hcA hk hM0 hLA
                  go_wp2_with fail
                  refine FG.out.mono ?_
                  rintro e wc ⟨rfl, b3⟩
                  have m1 : wc.cell? ⟨nb, 1, none⟩ = some (.int .i64 M) := b3.cells 1
                  have FR := Lib.hid (b3.forgetR HAB.out M HM.out (by have := HL.out; omega))
                  clear b3 FG l0 l1 l2
                  go_wp2_with fail
                  refine FR.out.mono ?_
                  rintro e wd ⟨rfl, b4⟩
                  rw [← E2.out, ← E1.out] at b4
                  have TT := Lib.hid b4
                  clear b4 FR
                  go_wp2_with fail
                  refine (TT.out.lenL).mono ?_
                  rintro e wc ⟨rfl, rfl⟩
                  go_wp2_with fail
                  refine (TT.out.count false LL.out).mono ?_
                  rintro e wd ⟨rfl, rfl⟩
                  go_wp2_with fail
                  refine (TT.out.marksL).mono ?_
                  rintro e we ⟨rfl, rfl⟩
                  go_wp2_with fail
                  refine (TT.out.count true LL.out).mono ?_
                  rintro e wf ⟨rfl, rfl⟩
                  go_wp2_with fail
                  go_roundg (ds.length - i - 1)
                  case measure => have := HIJ.out; have := HI.out; omega
                  case rel => exact ⟨i + 1, _, by have := HIJ.out; have := HI.out; omega, by have := HI2.out; omega, by simp, LN.out, TT.out.forgetX⟩
                · have hk2 : M < 0 ∨ (count true L : Int) ≤ M := by omega
                  have hno : M < 0 ∨ ((marks 0 L).length : Int) ≤ M := by rw [marks_len]; omega
                  have hge : ¬ at' M 0 0 L ≥ 0 := by rw [at_not L M 0 0 (by rw [marks_len] at hno; omega)]; omega
                  have LN : Hid (L.length ≤ i + 1) := Lib.hid (by have := HL.out; omega)
                  have LL : Hid (L.length ≤ 500000) := Lib.hid (by have := HL.out; omega)
                  have TT := BA
                  have FG := Lib.hid (BA.out.forgetNo M hno)
                  clear hno hk hk2
                  go_wp2_with fail
                  refine FG.out.mono ?_
                  rintro e wc ⟨rfl, rfl⟩
                  go_wp2_with fail
                  refine (TT.out.lenL).mono ?_
                  rintro e wc ⟨rfl, rfl⟩
                  go_wp2_with fail
                  refine (TT.out.count false LL.out).mono ?_
                  rintro e wd ⟨rfl, rfl⟩
                  go_wp2_with fail
                  refine (TT.out.marksL).mono ?_
                  rintro e we ⟨rfl, rfl⟩
                  go_wp2_with fail
                  refine (TT.out.count true LL.out).mono ?_
                  rintro e wf ⟨rfl, rfl⟩
                  go_wp2_with fail
                  go_roundg (ds.length - i - 1)
                  case measure => have := HIJ.out; have := HI.out; omega
                  case rel => exact ⟨i + 1, _, by have := HIJ.out; have := HI.out; omega, by have := HI2.out; omega, by simp, LN.out, TT.out.forgetX⟩
              · by_cases e5 : K = 5
                · subst e5
                  by_cases hk : M.toNat < count true L ∧ 0 ≤ M
                  · obtain ⟨hk, hM0⟩ := hk
                    obtain ⟨A, x, B, hAB, hcA⟩ := parts M.toNat L hk
                    have hM : M = (count true A : Nat) := by omega
                    have hge : at' M 0 0 L ≥ 0 := by rw [hAB, at_there A B x M 0 0 (by omega)]; omega
                    have hkA : (marks 0 L)[count true A]? = some (things A).length := by
                      rw [hAB, marks_append, List.getElem?_append_right (by rw [marks_len]; exact Nat.le_refl _), marks_len, Nat.sub_self]
                      simp [marks]
                    have htA : things L = things A ++ things B := by rw [hAB, things_append]; rfl
                    have htk : (marks 0 L).take (count true A) = marks 0 A := by rw [hAB, marks_append]; exact List.take_left' (marks_len 0 A)
                    have hLA : A.length + B.length + 1 = L.length := by rw [hAB]; simp; omega
                    have htd : (things L).drop (things A).length = things B := by rw [htA]; exact List.drop_left' rfl
                    have htt : (things L).take (things A).length = things A := by rw [htA]; exact List.take_left' rfl
                    have htl : (things L).length - (things A).length = (things B).length := by rw [htA, List.length_append]; omega
                    have hts : (things L).length ≤ 1000 := by have h8 := things_len L; have h9 := count_le false L; have := HL.out; omega
                    have htB : (things B).length ≤ 1000 := by omega
                    have hle : (things A).length ≤ (things L).length := by rw [htA, List.length_append]; omega
                    have LN : Hid (L.length ≤ i + 1) := Lib.hid (by have := HL.out; omega)
                    have LL : Hid (L.length ≤ 500000) := Lib.hid (by have := HL.out; omega)
                    have SN := BA.out.since M (count true A) (things A).length hM hkA hle (by omega)
                    rw [htd, htl] at SN
                    have SI := Lib.hid SN
                    have HAB := Lib.hid hAB
                    have HM := Lib.hid hM
                    have HTB := Lib.hid htB
                    clear hle hAB hM hkA htA htk htd htt htl hts htB hcA hk hM0 hLA SN
                    go_wp2_with fail
                    refine SI.out.mono ?_
                    rintro e wc ⟨v, rfl, o1, b3⟩
                    obtain ⟨a1, c1, rfl⟩ := slice_shape o1
                    have m1 : wc.cell? ⟨nb, 1, none⟩ = some (.int .i64 M) := b3.cells 1
                    have SR := Lib.hid (b3.sinceR HAB.out M HM.out (by have := HL.out; omega))
                    have O1 := Lib.hid o1
                    clear b3 o1 SI l0 l1 l2
                    generalize hgn : (things B).length = N at *
                    have HGN := Lib.hid hgn
                    clear hgn
                    go_wp2_with fail
                    refine SR.out.mono ?_
                    rintro e wd ⟨u, rfl, o2, bl, b4⟩
                    obtain ⟨a2, c2, rfl⟩ := slice_shape o2
                    have SAME := Lib.hid (same_eq a1 a2 N c1 c2 (things B) wd HGN.out.symm (by have := HTB.out; omega) (Came.of_row (ownsRow_of_heap O1.out fun k hk => bl.block k (O1.out.lt k hk).2)) (Came.of_row o2))
                    have B4 := Lib.hid b4
                    clear o2 bl b4 SR O1 m1
                    go_wp2_with fail
                    refine SAME.out.mono ?_
                    rintro e we ⟨rfl, b5⟩
                    have TT := Lib.hid (B4.out.below b5)
                    clear b5 B4 SAME
                    go_wp2_with fail
                    refine (TT.out.lenL).mono ?_
                    rintro e wc ⟨rfl, rfl⟩
                    go_wp2_with fail
                    refine (TT.out.count false LL.out).mono ?_
                    rintro e wd ⟨rfl, rfl⟩
                    go_wp2_with fail
                    refine (TT.out.marksL).mono ?_
                    rintro e we ⟨rfl, rfl⟩
                    go_wp2_with fail
                    refine (TT.out.count true LL.out).mono ?_
                    rintro e wf ⟨rfl, rfl⟩
                    go_wp2_with fail
                    go_roundg (ds.length - i - 1)
                    case measure => have := HIJ.out; have := HI.out; omega
                    case rel => exact ⟨i + 1, _, by have := HIJ.out; have := HI.out; omega, by have := HI2.out; omega, by simp, LN.out, TT.out.forgetX⟩
                  · have hk2 : M < 0 ∨ (count true L : Int) ≤ M := by omega
                    have hno : M < 0 ∨ ((marks 0 L).length : Int) ≤ M := by rw [marks_len]; omega
                    have hge : ¬ at' M 0 0 L ≥ 0 := by rw [at_not L M 0 0 (by rw [marks_len] at hno; omega)]; omega
                    have LN : Hid (L.length ≤ i + 1) := Lib.hid (by have := HL.out; omega)
                    have LL : Hid (L.length ≤ 500000) := Lib.hid (by have := HL.out; omega)
                    have TT := BA
                    have FG := Lib.hid (BA.out.sinceNo M hno)
                    clear hno hk hk2
                    go_wp2_with fail
                    refine FG.out.mono ?_
                    rintro e wc ⟨rfl, rfl⟩
                    go_wp2_with fail
                    refine (TT.out.lenL).mono ?_
                    rintro e wc ⟨rfl, rfl⟩
                    go_wp2_with fail
                    refine (TT.out.count false LL.out).mono ?_
                    rintro e wd ⟨rfl, rfl⟩
                    go_wp2_with fail
                    refine (TT.out.marksL).mono ?_
                    rintro e we ⟨rfl, rfl⟩
                    go_wp2_with fail
                    refine (TT.out.count true LL.out).mono ?_
                    rintro e wf ⟨rfl, rfl⟩
                    go_wp2_with fail
                    go_roundg (ds.length - i - 1)
                    case measure => have := HIJ.out; have := HI.out; omega
                    case rel => exact ⟨i + 1, _, by have := HIJ.out; have := HI.out; omega, by have := HI2.out; omega, by simp, LN.out, TT.out.forgetX⟩
                · have LN : Hid (L.length ≤ i + 1) := Lib.hid (by have := HL.out; omega)
                  have LL : Hid (L.length ≤ 500000) := Lib.hid (by have := HL.out; omega)
                  have TT := BA
                  clear BA
                  go_wp2_with fail
                  refine (TT.out.lenL).mono ?_
                  rintro e wc ⟨rfl, rfl⟩
                  go_wp2_with fail
                  refine (TT.out.count false LL.out).mono ?_
                  rintro e wd ⟨rfl, rfl⟩
                  go_wp2_with fail
                  refine (TT.out.marksL).mono ?_
                  rintro e we ⟨rfl, rfl⟩
                  go_wp2_with fail
                  refine (TT.out.count true LL.out).mono ?_
                  rintro e wf ⟨rfl, rfl⟩
                  go_wp2_with fail
                  go_roundg (ds.length - i - 1)
                  case measure => have := HIJ.out; have := HI.out; omega
                  case rel => exact ⟨i + 1, _, by have := HIJ.out; have := HI.out; omega, by have := HI2.out; omega, by simp, LN.out, TT.out.forgetX⟩
      · go_wp2_with fail
        go_ret
        exact ⟨rfl, B1.out.trans (BB.out.out.mono B1.out.size)⟩
    · go_wp2_with fail
      go_ret
      exact ⟨rfl, B1.out.trans (BB.out.out.mono B1.out.size)⟩
end Go.Proofs.Ytekbfjdjgpgmpaa
