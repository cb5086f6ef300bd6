/- PagePlays: a page that is there. -/
import Derived.Test.YtjnblkibejmdjaaPC6
import Derived.Deep.CutBlock
namespace Go.Proofs.Ytjnblkibejmdjaa
open Go.RowKit
set_option linter.unusedVariables false
set_option maxRecDepth 100000 in
set_option maxHeartbeats 40000000 in
theorem plays_good (size : Nat) (a : Option Addr) (c : Nat) (xs : List ActG) (w : World) (h1 : 64 ≤ size) (h2 : size ≤ 1024) (hA : CameA w a xs) :
    Calls Try.prog 3 #[.int .i64 (size : Nat), .slice a xs.length c] w fun e w' => e = .returned (.bool true) ∧ Below w.heap.size w w' := by
  have AW := Lib.hid (awake_any w)
  have NW := Lib.hid fun W hb => own_new W size h1 h2 w hb
  have i1 : ¬ (size : Int) < 64 := by omega
  have i2 : ¬ (size : Int) > 1024 := by omega
  have i3 : (size : Int) ≤ 1024 := by omega
  have HA := Lib.hid hA
  clear hA
  go_enter Try.func3, Try.ntmps3
  go_wp2_with fail
  refine AW.out.mono ?_
  rintro e w1 ⟨rfl, hb1⟩
  go_wp2_with fail
  refine (NW.out _ hb1).mono ?_
  rintro e w2 ⟨p, rfl, ho⟩
  have hbn : Below w2.heap.size w2 (w2.alloc (.cells #[] 9)) := (Below.refl _ _).alloc (Nat.le_refl _) _
  have BO : Hid (Both w (w2.alloc (.cells #[] 9)) p size [] (.slice (some ⟨w2.heap.size, 0, none⟩) 0 0)) := Lib.hid ⟨ho.below hbn, (SRow.new w2).le ho.bel.size, rfl⟩
  clear AW NW hb1 ho hbn
  go_wp2_with fail
  generalize w2.alloc (.cells #[] 9) = w3 at *
  generalize Value.slice (some ⟨w2.heap.size, 0, none⟩) 0 0 = v0 at *
  go_loopg [7, 8] 122 (fun j s7 s8 wr => ∃ (i : Nat) (L : List (List UInt8)), i ≤ xs.length ∧ i ≤ 120 ∧ 121 < i + j ∧ s8 = .int .i64 (i : Nat) ∧ Both w wr p size L s7)
  case atStart => exact ⟨0, [], by omega, by omega, by omega, rfl, BO.out⟩
  case round =>
    obtain ⟨i, L, hi, hi2, hj, rfl, hb⟩ := hrel
    have HB := Lib.hid hb
    clear hb BO
    by_cases hx : i < xs.length ∧ i < 120
    · have hx1 : (i : Int) < (xs.length : Int) := by omega
      have hx2 : (i : Int) < 120 := by omega
      obtain ⟨ga, oa, rfl, hga, k0, k1, k2⟩ := HA.out.cell i hx.1
      obtain ⟨hy1, hy2, hy3⟩ := HA.out.bytes i hx.1
      obtain ⟨hf1, hf2⟩ := HA.out.fits i hx.1
      have bel := HB.out.own.bel
      have d0 := (bel.cell (p := ⟨ga, oa + i * 3, none⟩) hga).trans k0
      have d1 := (bel.cell (p := ⟨ga, oa + i * 3 + 1, none⟩) hga).trans k1
      have d2 := (bel.cell (p := ⟨ga, oa + i * 3 + 2, none⟩) hga).trans k2
      have HY := Lib.hid hy1
      clear k0 k1 k2 hy1
      generalize xs[i] = d at *
      obtain ⟨dk, di, dA, dc, db⟩ := d
      dsimp only at *
      obtain ⟨A7, c7, e7, hS, hc7⟩ := HB.out.row.asStrs
      rw [strL_len] at e7 hc7
      subst e7
      obtain ⟨f1, f2, f3, f4⟩ := HB.out.own.fits
      obtain ⟨lf, hlf⟩ : ∃ lf, leftL size L = lf := ⟨_, rfl⟩
      have hlfi : (size : Int) - 1 - 4 * (L.length : Int) - (used L : Nat) = (lf : Nat) := by unfold leftL at hlf; omega
      have ha1 : Below wr.heap.size wr (wr.alloc (.cells #[.int .i64 dk, .int .i64 di, .slice dA db.length dc] 31)) := (Below.refl _ _).alloc (Nat.le_refl _) _
      have RR := refRoom_any A7 c7 L size (wr.alloc (.cells #[.int .i64 dk, .int .i64 di, .slice dA db.length dc] 31)) (hS.below ha1) h2 (by omega) (by omega)
      rw [hlfi] at RR
      replace RR := Lib.hid RR
      have BX := Lib.hid (Whole.new wr 31 #[.int .i64 dk, .int .i64 di, .slice dA db.length dc])
      have B1 := Lib.hid (HB.out.below ha1)
      have HY1 : Hid (Holds (wr.alloc (.cells #[.int .i64 dk, .int .i64 di, .slice dA db.length dc] 31)) dA db) := Lib.hid ((HY.out.below bel).below ha1)
      have hlf2 : lf ≤ 1024 := by unfold leftL at hlf; omega
      clear hS hlfi ha1 bel
      go_upto_region 11 with fail
      generalize wr.alloc (.cells #[.int .i64 dk, .int .i64 di, .slice dA db.length dc] 31) = W1 at *
      have x0 := BX.out.cell 0
      have x1 := BX.out.cell 1
      have x2 := BX.out.cell 2
      simp only [List.getElem?_toArray, List.getElem?_cons_zero, List.getElem?_cons_succ] at x0 x1 x2
      go_cut [10] from 41 to 213 (fun s10 wc => ∃ th : Bool, s10 = .bool th ∧ (th = true ↔ (0 ≤ di ∧ di < (L.length : Int))) ∧ wc = W1)
      case first =>
        by_cases g1 : 0 ≤ di
        · have g1' : di ≥ 0 := g1
          by_cases g2 : di < (L.length : Int)
          · as_aux_lemma =>
              go_wp2_with fail
              go_meet
              case rel => exact ⟨true, rfl, by simp; omega, rfl⟩
          · as_aux_lemma =>
              go_wp2_with fail
              go_meet
              case rel => exact ⟨false, rfl, by simp; omega, rfl⟩
        · have g1' : ¬ di ≥ 0 := g1
          as_aux_lemma =>
            go_wp2_with fail
            go_meet
            case rel => exact ⟨false, rfl, by simp; omega, rfl⟩
      case rest =>
        obtain ⟨th, rfl, hth, rfl⟩ := hcut
        have HTH := Lib.hid hth
        clear hth
        go_wp2_with fail
        refine RR.out.mono ?_
        rintro e w5 ⟨rfl, rfl⟩
        go_upto_block 2 with fail
        go_cut [7, 12, 13, 14, 15, 16, 17, 18] from 41 to 213 (fun s7 s12 s13 s14 s15 s16 s17 s18 wc2 => ∃ L', Both w wc2 p size L' s7)
        case first =>
          clear RR d0 d1 d2 HA hga hx hx1 hx2 hi hi2 hj
          obtain ⟨wz, hwz⟩ : ∃ wz, wz = wc := ⟨_, rfl⟩
          subst hwz
          have hy6 : ∀ W, Below w.heap.size w W → Holds W dA db := fun W hb => HY.out.below hb
          by_cases q1 : dk = 1
          · subst q1
            by_cases hb0 : db = []
            · subst hb0
              rw [show ([] : List UInt8).length = 0 from rfl] at x2
              have AD := Lib.hid (B1.out.own.add_none dA dc)
              by_cases r1 : (L.length : Int) ≥ 250
              · skip
                as_aux_lemma =>
                  go_wp2_with fail
                  refine AD.out.mono ?_
                  rintro e w6 ⟨rfl, ho, hs⟩
                  have B6 := Lib.hid (And.intro ho (B1.out.row.still hs))
                  have HY6 := Lib.hid (hy6 _ ho.bel)
                  have hX := BX.out.still hs (by decide) (by decide)
                  have y1 := hX.cell 1
                  have y2 := hX.cell 2
                  simp only [List.getElem?_toArray, List.getElem?_cons_zero, List.getElem?_cons_succ] at y1 y2
                  clear ho hs hX AD x0 x1 x2
                  go_wp2_with fail
                  go_meet
                  case rel => exact ⟨L, ⟨B6.out.1, B6.out.2, B1.out.trim⟩⟩
              · by_cases r2 : (lf : Int) - 4 < (0 : Int)
                · skip
                  as_aux_lemma =>
                    go_wp2_with fail
                    refine AD.out.mono ?_
                    rintro e w6 ⟨rfl, ho, hs⟩
                    have B6 := Lib.hid (And.intro ho (B1.out.row.still hs))
                    have HY6 := Lib.hid (hy6 _ ho.bel)
                    have hX := BX.out.still hs (by decide) (by decide)
                    have y1 := hX.cell 1
                    have y2 := hX.cell 2
                    simp only [List.getElem?_toArray, List.getElem?_cons_zero, List.getElem?_cons_succ] at y1 y2
                    clear ho hs hX AD x0 x1 x2
                    go_wp2_with fail
                    go_meet
                    case rel => exact ⟨L, ⟨B6.out.1, B6.out.2, B1.out.trim⟩⟩
                · skip
                  as_aux_lemma =>
                    go_wp2_with fail
                    refine AD.out.mono ?_
                    rintro e w6 ⟨rfl, ho, hs⟩
                    have B6 := Lib.hid (And.intro ho (B1.out.row.still hs))
                    have HY6 := Lib.hid (hy6 _ ho.bel)
                    have hX := BX.out.still hs (by decide) (by decide)
                    have y1 := hX.cell 1
                    have y2 := hX.cell 2
                    simp only [List.getElem?_toArray, List.getElem?_cons_zero, List.getElem?_cons_succ] at y1 y2
                    clear ho hs hX AD x0 x1 x2
                    go_wp2_with fail
                    go_meet
                    case rel => exact ⟨L, ⟨B6.out.1, B6.out.2, B1.out.trim⟩⟩
            · have hpos : 0 < db.length := List.length_pos_iff.2 hb0
              have hm0 : ¬ (db.length : Int) = 0 := by omega
              have hm0b : ((db.length : Int) == 0) = false := by simp; omega
              by_cases r1 : (L.length : Int) ≥ 250
              · skip
                as_aux_lemma =>
                  have AD := Lib.hid (B1.out.own.add_full dA db.length dc hpos (by unfold maxLen at hy3; omega) (by rw [hlf]; omega))
                  generalize db.length = m at *
                  go_wp2_with fail
                  refine AD.out.mono ?_
                  rintro e w6 ⟨rfl, ho, hs⟩
                  have B6 := Lib.hid (And.intro ho (B1.out.row.still hs))
                  have HY6 := Lib.hid (hy6 _ ho.bel)
                  have hX := BX.out.still hs (by decide) (by decide)
                  have y1 := hX.cell 1
                  have y2 := hX.cell 2
                  simp only [List.getElem?_toArray, List.getElem?_cons_zero, List.getElem?_cons_succ] at y1 y2
                  clear ho hs hX AD x0 x1 x2
                  go_wp2_with fail
                  go_meet
                  case rel => exact ⟨L, ⟨B6.out.1, B6.out.2, B1.out.trim⟩⟩
              · by_cases r2 : (lf : Int) - 4 < (db.length : Int)
                · skip
                  as_aux_lemma =>
                    have AD := Lib.hid (B1.out.own.add_full dA db.length dc hpos (by unfold maxLen at hy3; omega) (by rw [hlf]; omega))
                    generalize db.length = m at *
                    go_wp2_with fail
                    refine AD.out.mono ?_
                    rintro e w6 ⟨rfl, ho, hs⟩
                    have B6 := Lib.hid (And.intro ho (B1.out.row.still hs))
                    have HY6 := Lib.hid (hy6 _ ho.bel)
                    have hX := BX.out.still hs (by decide) (by decide)
                    have y1 := hX.cell 1
                    have y2 := hX.cell 2
                    simp only [List.getElem?_toArray, List.getElem?_cons_zero, List.getElem?_cons_succ] at y1 y2
                    clear ho hs hX AD x0 x1 x2
                    go_wp2_with fail
                    go_meet
                    case rel => exact ⟨L, ⟨B6.out.1, B6.out.2, B1.out.trim⟩⟩
                · skip
                  as_aux_lemma =>
                    have AD := Lib.hid (B1.out.own.add_ok dA dc db HY1.out hb0 (by omega) (by rw [hlf]; omega))
                    go_wp2_with fail
                    refine AD.out.mono ?_
                    rintro e w6 ⟨rfl, ho, hs⟩
                    have B6 := Lib.hid (And.intro ho (B1.out.row.still hs))
                    have HY6 := Lib.hid (hy6 _ ho.bel)
                    have hX := BX.out.still hs (by decide) (by decide)
                    have y1 := hX.cell 1
                    have y2 := hX.cell 2
                    simp only [List.getElem?_toArray, List.getElem?_cons_zero, List.getElem?_cons_succ] at y1 y2
                    clear ho hs hX AD x0 x1 x2
                    have CV := conv_bytes HY6.out dc
                    obtain ⟨v7, w7, hap, hb7⟩ := Both.push B6.out.1 B6.out.2 hb0 (by omega)
                    have HAP := Lib.hid hap
                    have B7 := Lib.hid hb7
                    clear hap hb7
                    generalize (⟨db.toArray⟩ : ByteArray) = sb at *
                    generalize db.length = m at *
                    go_wp2_with (at_builtin; refine Lib.wpList_append_run _ rfl (.tmp 117) (.tmp 121) 28 28 rfl _ _ rfl rfl _ _ HAP.out ?_)
                    go_meet
                    case rel => exact ⟨_, B7.out⟩
          · have q1b : (dk == 1) = false := by simp [q1]
            by_cases q2 : dk = 2
            · subst q2
              cases th with
              | false =>
                as_aux_lemma =>
                  have hno : di < 0 ∨ (L.length : Int) ≤ di := by have := HTH.out; simp at this; omega
                  have AD := Lib.hid (B1.out.own.set_no di hno dA db.length dc)
                  generalize db.length = m at *
                  go_wp2_with fail
                  refine AD.out.mono ?_
                  rintro e w6 ⟨rfl, ho, hs⟩
                  have B6 := Lib.hid (And.intro ho (B1.out.row.still hs))
                  have HY6 := Lib.hid (hy6 _ ho.bel)
                  have hX := BX.out.still hs (by decide) (by decide)
                  have y1 := hX.cell 1
                  have y2 := hX.cell 2
                  simp only [List.getElem?_toArray, List.getElem?_cons_zero, List.getElem?_cons_succ] at y1 y2
                  clear ho hs hX AD x0 x1 x2
                  go_wp2_with fail
                  go_quiet (fail)
                  go_wp2_with fail
                  go_meet
                  case rel => exact ⟨L, Both.below ⟨B6.out.1, B6.out.2, B1.out.trim⟩ (below_drewN (Below.refl _ _) nq)⟩
              | true =>
                have hin : 0 ≤ di ∧ di < (L.length : Int) := HTH.out.1 rfl
                obtain ⟨iN, rfl⟩ : ∃ iN : Nat, di = (iN : Nat) := ⟨di.toNat, by omega⟩
                have hiN : iN < L.length := by omega
                have hiNi : (iN : Int) < (L.length : Int) := hin.2
                have hsz := bsize L[iN]
                have hszi : (((⟨L[iN].toArray⟩ : ByteArray).size : Nat) : Int) = (L[iN].length : Nat) := by rw [hsz]
                have hxl : L[iN].length ≤ 1024 := by have := used_at L iN hiN; omega
                have hxli : (L[iN].length : Int) ≤ 1024 := by omega
                by_cases hb0 : db = []
                · subst hb0
                  as_aux_lemma =>
                    rw [show ([] : List UInt8).length = 0 from rfl] at x2
                    have AD := Lib.hid (B1.out.own.set_none iN hiN dA dc)
                    go_wp2_with fail
                    refine AD.out.mono ?_
                    rintro e w6 ⟨rfl, ho, hs⟩
                    have B6 := Lib.hid (And.intro ho (B1.out.row.still hs))
                    have HY6 := Lib.hid (hy6 _ ho.bel)
                    have hX := BX.out.still hs (by decide) (by decide)
                    have y1 := hX.cell 1
                    have y2 := hX.cell 2
                    simp only [List.getElem?_toArray, List.getElem?_cons_zero, List.getElem?_cons_succ] at y1 y2
                    clear ho hs hX AD x0 x1 x2
                    obtain ⟨A9, c9, e9, hS9, -⟩ := B6.out.2.asStrs
                    rw [strL_len] at e9
                    cases e9
                    obtain ⟨g9, o9, rfl, hg9, k9⟩ := hS9.one iN hiN
                    have hcm : ¬ (lf : Int) + (L[iN].length : Nat) < 0 := by omega
                    generalize (⟨L[iN].toArray⟩ : ByteArray) = sb at *
                    generalize L[iN].length = lm at *
                    clear hS9
                    go_wp2_with fail
                    go_quiet (fail)
                    go_wp2_with fail
                    go_meet
                    case rel => exact ⟨L, Both.below ⟨B6.out.1, B6.out.2, B1.out.trim⟩ (below_drewN (Below.refl _ _) nq)⟩
                · have hpos : 0 < db.length := List.length_pos_iff.2 hb0
                  have hm0 : ¬ (db.length : Int) = 0 := by omega
                  have hm0b : ((db.length : Int) == 0) = false := by simp; omega
                  by_cases r2 : (lf : Int) + (L[iN].length : Nat) < (db.length : Int)
                  · skip
                    as_aux_lemma =>
                      have AD := Lib.hid (B1.out.own.set_full iN hiN dA db.length dc hpos (by unfold maxLen at hy3; omega) (by rw [hlf]; omega))
                      go_wp2_with fail
                      refine AD.out.mono ?_
                      rintro e w6 ⟨rfl, ho, hs⟩
                      have B6 := Lib.hid (And.intro ho (B1.out.row.still hs))
                      have HY6 := Lib.hid (hy6 _ ho.bel)
                      have hX := BX.out.still hs (by decide) (by decide)
                      have y1 := hX.cell 1
                      have y2 := hX.cell 2
                      simp only [List.getElem?_toArray, List.getElem?_cons_zero, List.getElem?_cons_succ] at y1 y2
                      clear ho hs hX AD x0 x1 x2
                      obtain ⟨A9, c9, e9, hS9, -⟩ := B6.out.2.asStrs
                      rw [strL_len] at e9
                      cases e9
                      obtain ⟨g9, o9, rfl, hg9, k9⟩ := hS9.one iN hiN
                      generalize (⟨L[iN].toArray⟩ : ByteArray) = sb at *
                      generalize L[iN].length = lm at *
                      generalize db.length = m at *
                      clear hS9 HY6 HY1 hy6 HY
                      go_wp2_with fail
                      go_quiet (fail)
                      go_wp2_with fail
                      go_meet
                      case rel => exact ⟨L, Both.below ⟨B6.out.1, B6.out.2, B1.out.trim⟩ (below_drewN (Below.refl _ _) nq)⟩
                  · skip
                    as_aux_lemma =>
                      have AD := Lib.hid (B1.out.own.set_ok iN hiN dA dc db HY1.out hb0 (by rw [hlf]; omega))
                      go_wp2_with fail
                      refine AD.out.mono ?_
                      rintro e w6 ⟨rfl, ho, hs⟩
                      have B6 := Lib.hid (And.intro ho (B1.out.row.still hs))
                      have HY6 := Lib.hid (hy6 _ ho.bel)
                      have hX := BX.out.still hs (by decide) (by decide)
                      have y1 := hX.cell 1
                      have y2 := hX.cell 2
                      simp only [List.getElem?_toArray, List.getElem?_cons_zero, List.getElem?_cons_succ] at y1 y2
                      clear ho hs hX AD x0 x1 x2
                      obtain ⟨A9, c9, e9, hS9, -⟩ := B6.out.2.asStrs
                      rw [strL_len] at e9
                      cases e9
                      obtain ⟨g9, o9, rfl, hg9, k9⟩ := hS9.one iN hiN
                      generalize hsb9 : (⟨L[iN].toArray⟩ : ByteArray) = sb at *
                      generalize hlm : L[iN].length = lm at *
                      clear hS9
                      go_wp2_with fail
                      go_quiet (fail)
                      have hbq : Below w6.heap.size w6 (w6.drewN nq) := below_drewN (Below.refl _ _) nq
                      have HO7 := Lib.hid (B6.out.1.below hbq)
                      have HR7 := Lib.hid (B6.out.2.below hbq)
                      have CV := conv_bytes (HY6.out.below hbq) dc
                      have z1 : (w6.drewN nq).cell? ⟨wr.heap.size, 1, none⟩ = _ := y1
                      have z2 : (w6.drewN nq).cell? ⟨wr.heap.size, 2, none⟩ = _ := y2
                      generalize w6.drewN nq = W7 at *
                      obtain ⟨g8, e8, ⟨z8, c8⟩, f8, HO8, HR8⟩ := Both.poke (b := db) HO7.out HR7.out iN hiN
                      cases e8
                      have B8 := Lib.hid (And.intro HO8 HR8)
                      clear HO8 HR8 hbq y1 y2 k9
                      generalize (⟨db.toArray⟩ : ByteArray) = sb2 at *
                      generalize db.length = m at *
                      go_wp2_with fail
                      go_meet
                      case rel => exact ⟨_, ⟨B8.out.1, B8.out.2, trimL_set B1.out.trim iN db hb0⟩⟩
            · have q2b : (dk == 2) = false := by simp [q2]
              by_cases q3 : dk = 3
              · subst q3
                cases th with
                | false =>
                  as_aux_lemma =>
                    have hno : di < 0 ∨ (L.length : Int) ≤ di := by have := HTH.out; simp at this; omega
                    have AD := Lib.hid (B1.out.own.drop_no di hno)
                    generalize db.length = m at *
                    go_wp2_with fail
                    refine AD.out.mono ?_
                    rintro e w6 ⟨rfl, ho, hs⟩
                    have B6 := Lib.hid (And.intro ho (B1.out.row.still hs))
                    have HY6 := Lib.hid (hy6 _ ho.bel)
                    have hX := BX.out.still hs (by decide) (by decide)
                    have y1 := hX.cell 1
                    have y2 := hX.cell 2
                    simp only [List.getElem?_toArray, List.getElem?_cons_zero, List.getElem?_cons_succ] at y1 y2
                    clear ho hs hX AD x0 x1 x2
                    go_wp2_with fail
                    go_meet
                    case rel => exact ⟨L, ⟨B6.out.1, B6.out.2, B1.out.trim⟩⟩
                | true =>
                  have hin : 0 ≤ di ∧ di < (L.length : Int) := HTH.out.1 rfl
                  obtain ⟨iN, rfl⟩ : ∃ iN : Nat, di = (iN : Nat) := ⟨di.toNat, by omega⟩
                  have hiN : iN < L.length := by omega
                  have hiNi : (iN : Int) < (L.length : Int) := hin.2
                  by_cases hx0 : L[iN] = []
                  · skip
                    as_aux_lemma =>
                      have AD := Lib.hid (B1.out.own.drop_empty iN hiN hx0)
                      generalize db.length = m at *
                      go_wp2_with fail
                      refine AD.out.mono ?_
                      rintro e w6 ⟨rfl, ho, hs⟩
                      have B6 := Lib.hid (And.intro ho (B1.out.row.still hs))
                      have HY6 := Lib.hid (hy6 _ ho.bel)
                      have hX := BX.out.still hs (by decide) (by decide)
                      have y1 := hX.cell 1
                      have y2 := hX.cell 2
                      simp only [List.getElem?_toArray, List.getElem?_cons_zero, List.getElem?_cons_succ] at y1 y2
                      clear ho hs hX AD x0 x1 x2
                      obtain ⟨A9, c9, e9, hS9, -⟩ := B6.out.2.asStrs
                      rw [strL_len] at e9
                      cases e9
                      obtain ⟨g9, o9, rfl, hg9, k9⟩ := hS9.one iN hiN
                      have hse := str_empty hx0
                      generalize (⟨L[iN].toArray⟩ : ByteArray) = sb at *
                      clear hS9
                      go_wp2_with fail
                      go_meet
                      case rel => exact ⟨L, ⟨B6.out.1, B6.out.2, B1.out.trim⟩⟩
                  · skip
                    as_aux_lemma =>
                      have AD := Lib.hid (B1.out.own.drop_ok iN hiN hx0)
                      generalize db.length = m at *
                      go_wp2_with fail
                      refine AD.out.mono ?_
                      rintro e w6 ⟨rfl, ho, hs⟩
                      have B6 := Lib.hid (And.intro ho (B1.out.row.still hs))
                      have HY6 := Lib.hid (hy6 _ ho.bel)
                      have hX := BX.out.still hs (by decide) (by decide)
                      have y1 := hX.cell 1
                      have y2 := hX.cell 2
                      simp only [List.getElem?_toArray, List.getElem?_cons_zero, List.getElem?_cons_succ] at y1 y2
                      clear ho hs hX AD x0 x1 x2
                      obtain ⟨A9, c9, e9, hS9, -⟩ := B6.out.2.asStrs
                      rw [strL_len] at e9
                      cases e9
                      obtain ⟨g9, o9, rfl, hg9, k9⟩ := hS9.one iN hiN
                      have hse := str_full hx0
                      generalize hsb9 : (⟨L[iN].toArray⟩ : ByteArray) = sb at *
                      obtain ⟨g8, e8, ⟨z8, c8⟩, f8, HO8, HR8⟩ := Both.poke (b := []) B6.out.1 B6.out.2 iN hiN
                      cases e8
                      have B8 := Lib.hid (And.intro HO8 HR8)
                      rw [Nat.zero_add] at k9
                      rw [k9] at c8
                      cases c8
                      obtain ⟨M, hM⟩ : ∃ M, M = L.set iN [] := ⟨_, rfl⟩
                      have hMl : M.length = L.length := by rw [hM, List.length_set]
                      rw [← hM] at B8
                      clear HO8 HR8 hS9
                      have HALL : Hid (∀ j (hj : j < M.length), (w6.setCell ⟨g9, iN, none⟩ (.string ⟨#[]⟩)).cell? ⟨g9, j, none⟩ = some (.string ⟨M[j].toArray⟩)) := Lib.hid fun j hj => by
                        obtain ⟨A5, c5, e5, hS5, -⟩ := B8.out.2.asStrs
                        rw [strL_len, hMl] at e5
                        cases e5
                        obtain ⟨g5, o5, e5, -, k5⟩ := hS5.one j hj
                        cases e5
                        rw [Nat.zero_add] at k5
                        exact k5
                      have FINB : Hid (∀ k, k ≤ M.length → trimN M k = trimN M M.length → trimN M k = k → Both w (w6.setCell ⟨g9, iN, none⟩ (.string ⟨#[]⟩)) p size (trimL M) (.slice (some ⟨g9, 0, none⟩) k c7)) := Lib.hid fun k hk h1 h2 => by
                        have hT : trimL M = M.take k := by unfold trimL; rw [← h1, h2]
                        have hr := B8.out.2.cut k (by rw [strL_len]; exact hk)
                        refine ⟨B8.out.1, ?_, trimL_trimL M⟩
                        rw [hT, strL_take]
                        exact hr
                      have hML : Hid (trimN M M.length = trimN M M.length) := Lib.hid rfl
                      have hc7i : (L.length : Int) ≤ (c7 : Int) := by omega
                      have hMi : (L.length : Int) ≤ 250 := by omega
                      clear B8 B6 B1 BX HY6 HY1 hy6 HY HB
                      go_wp2_with fail
                      generalize w6.setCell ⟨g9, iN, none⟩ (.string ⟨#[]⟩) = W8 at *
                      clear y1 y2 k9 f8
                      go_loopg [7] (M.length + 1) (fun jj s7 wx => ∃ k : Nat, k ≤ M.length ∧ k < jj ∧ s7 = .slice (some ⟨g9, 0, none⟩) k c7 ∧ trimN M k = trimN M M.length ∧ wx = W8)
                      case atStart => exact ⟨M.length, Nat.le_refl _, by omega, by rw [hMl], rfl, rfl⟩
                      case round =>
                        obtain ⟨k, hk, hjj, rfl, ht, rfl⟩ := hrel
                        have HT2 := Lib.hid ht
                        clear ht
                        by_cases hk0 : k = 0
                        · subst hk0
                          have hgf : ¬ ((0 : Nat) : Int) > 0 := by omega
                          have FIN := Lib.hid (FINB.out 0 (by omega) HT2.out rfl)
                          clear FINB HALL
                          go_wp2_with fail
                          go_meet
                          case rel => exact ⟨_, FIN.out⟩
                        · obtain ⟨m2, rfl⟩ : ∃ m2, k = m2 + 1 := ⟨k - 1, by omega⟩
                          have hm2 : m2 < M.length := by omega
                          have hcm := HALL.out m2 hm2
                          have hgt0 : ((m2 + 1 : Nat) : Int) > 0 := by omega
                          have hsub : ((m2 + 1 : Nat) : Int) - 1 = (m2 : Nat) := by omega
                          have hmi1 : (m2 : Int) < ((m2 + 1 : Nat) : Int) := by omega
                          have hmc : (m2 : Int) ≤ (c7 : Int) := by omega
                          have hMg : M.getD m2 [] = M[m2] := by rw [List.getD_eq_getElem?_getD, List.getElem?_eq_getElem hm2]; rfl
                          by_cases hme : M[m2] = []
                          · have hse2 := str_empty hme
                            have HS2 : Hid (trimN M m2 = trimN M M.length) := Lib.hid (by rw [← HT2.out, trimN_empty _ _ (by rw [hMg]; exact hme)])
                            generalize (⟨M[m2].toArray⟩ : ByteArray) = sb3 at *
                            clear hme hMg FINB HALL HT2
                            go_wp2_with fail
                            go_roundg (m2 + 1)
                            case measure => omega
                            case rel => exact ⟨m2, by omega, by omega, by first | rfl | (congr 1; omega), HS2.out, rfl⟩
                          · have hse2 := str_full hme
                            have FIN := Lib.hid (FINB.out (m2 + 1) hk HT2.out (trimN_full _ _ (by rw [hMg]; exact hme)))
                            generalize (⟨M[m2].toArray⟩ : ByteArray) = sb3 at *
                            clear hme hMg FINB HALL HT2
                            go_wp2_with fail
                            go_meet
                            case rel => exact ⟨_, FIN.out⟩
              · have q3b : (dk == 3) = false := by simp [q3]
                as_aux_lemma =>
                  generalize db.length = m at *
                  go_wp2_with fail
                  go_meet
                  case rel => exact ⟨L, B1.out⟩
        case rest =>
          obtain ⟨L', hb'⟩ := hcut
          obtain ⟨A8, c8, e8, hS8, -⟩ := hb'.row.asStrs
          rw [strL_len] at e8
          subst e8
          have SM := Lib.hid (hb'.own.same A8 c8 hS8)
          have HB8 := Lib.hid hb'
          as_aux_lemma =>
            clear hS8 hb' RR d0 d1 d2 x0 x1 x2 BX B1 HY1 HB
            go_wp2_with fail
            refine SM.out.mono ?_
            rintro e w9 ⟨rfl, hb9⟩
            have HB9 := Lib.hid (HB8.out.below hb9)
            clear SM HB8 hb9
            go_wp2_with fail
            go_roundg (121 - i)
            case measure => omega
            case rel => exact ⟨i + 1, L', by omega, by omega, by omega, rfl, HB9.out⟩
    · obtain ⟨A7, c7, e7, -, -⟩ := HB.out.row.asStrs
      rw [strL_len] at e7
      subst e7
      obtain ⟨f1, f2, f3, f4⟩ := HB.out.own.fits
      have BY := Lib.hid HB.out.own.bytes
      by_cases hx1 : i < xs.length
      · have hx1i : (i : Int) < (xs.length : Int) := by omega
        have hx2i : ¬ (i : Int) < 120 := by omega
        as_aux_lemma =>
          go_wp2_with fail
          refine BY.out.mono ?_
          rintro e w6 ⟨g, rfl, hbb, hb6⟩
          have RD := Lib.hid (own_read size f1 f2 f4 f3 HB.out.trim g hbb)
          have HB6 := Lib.hid (HB.out.below hb6)
          clear BY hbb hb6 HB
          go_wp2_with fail
          refine RD.out.mono ?_
          rintro e w7 ⟨q, rfl, hq, hb7⟩
          have HB7 := Lib.hid (HB6.out.below hb7)
          obtain ⟨A9, c9, e9, hS9, -⟩ := HB7.out.row.asStrs
          rw [strL_len] at e9
          cases e9
          have SM := Lib.hid (hq.same A7 c7 hS9)
          clear RD hq hb7 hS9 HB6
          go_wp2_with fail
          refine SM.out.mono ?_
          rintro e w8 ⟨rfl, hb8⟩
          have FIN := Lib.hid (below_next HB7.out.own.bel hb8)
          clear SM hb8 HB7
          go_wp2_with fail
          go_ret
          exact ⟨rfl, FIN.out⟩
      · have hx1i : ¬ (i : Int) < (xs.length : Int) := by omega
        as_aux_lemma =>
          go_wp2_with fail
          refine BY.out.mono ?_
          rintro e w6 ⟨g, rfl, hbb, hb6⟩
          have RD := Lib.hid (own_read size f1 f2 f4 f3 HB.out.trim g hbb)
          have HB6 := Lib.hid (HB.out.below hb6)
          clear BY hbb hb6 HB
          go_wp2_with fail
          refine RD.out.mono ?_
          rintro e w7 ⟨q, rfl, hq, hb7⟩
          have HB7 := Lib.hid (HB6.out.below hb7)
          obtain ⟨A9, c9, e9, hS9, -⟩ := HB7.out.row.asStrs
          rw [strL_len] at e9
          cases e9
          have SM := Lib.hid (hq.same A7 c7 hS9)
          clear RD hq hb7 hS9 HB6
          go_wp2_with fail
          refine SM.out.mono ?_
          rintro e w8 ⟨rfl, hb8⟩
          have FIN := Lib.hid (below_next HB7.out.own.bel hb8)
          clear SM hb8 HB7
          go_wp2_with fail
          go_ret
          exact ⟨rfl, FIN.out⟩
theorem plays_any (n : Int) (h1 : -9223372036854775808 ≤ n) (h2 : n ≤ 9223372036854775807) (a : Option Addr) (c : Nat) (xs : List ActG) (w : World) (hA : CameA w a xs) :
    Calls Try.prog 3 #[.int .i64 n, .slice a xs.length c] w fun e w' => e = .returned (.bool true) ∧ Below w.heap.size w w' := by
  by_cases h : n < 64 ∨ 1024 < n
  · exact plays_bad n h a xs.length c w
  · obtain ⟨k, rfl⟩ : ∃ k : Nat, n = (k : Nat) := ⟨n.toNat, by omega⟩
    exact plays_good k a c xs w (by omega) (by omega) hA
end Go.Proofs.Ytjnblkibejmdjaa
