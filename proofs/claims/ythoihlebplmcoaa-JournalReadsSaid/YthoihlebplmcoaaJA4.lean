/- JournalReads, at every input. -/
import Derived.Test.YthoihlebplmcoaaJA3
import Derived.Test.YthoihlebplmcoaaJ4
import Derived.Deep.CutBlock
namespace Go.Proofs.Ythoihlebplmcoaa
open Go.RowKit
set_option linter.unusedVariables false
theorem SRow.still {w w' : World} {base : Nat} {v : Value} {ss : List ByteArray} (h : SRow w base v ss) (hs : Still w w') : SRow w' base v ss :=
  h.of_heap fun k hk => by
    obtain ⟨cs, hc⟩ := row_kind h hk
    exact hs.block k cs _ _ hc (by decide) (by decide) (by decide)
theorem records_of {w0 w : World} {J : Jd} {m : Mod} (h : JP w0 w J m) (hlen : J.row.length ≤ 100000) : Calls Try.prog 15 #[J.ptr] w fun e w' => ∃ v, e = .returned v ∧ LRow w' w.heap.size v ((standR J.e J.f J.row).map Prod.fst) ∧ Below w.heap.size w w' := by
  refine (callsIn_wide.1 (records_in h hlen)).mono ?_
  rintro e w' ⟨v, ys, rfl, h1, h2, h3⟩
  refine ⟨v, rfl, ⟨ys, ?_, h2⟩, h3⟩
  have := congrArg (List.map Prod.fst) h1
  rw [List.map_map] at this
  exact this
theorem standA_len (e f : Nat) (T : List UInt8) : ∀ k at_, (standA e f T k at_).length ≤ k
  | 0, _ => Nat.le_refl _
  | k + 1, at_ => by
    show (if at_ < T.length ∧ openE e (T.drop at_) = 0 then (openB e (T.drop at_), at_ + openN e (T.drop at_)) :: standA e f T k (beg f (at_ + openN e (T.drop at_))) else []).length ≤ k + 1
    split
    · have := standA_len e f T k (beg f (at_ + openN e (T.drop at_)))
      rw [List.length_cons]
      omega
    · simp
theorem hasC_opF (m : Mod) (e fr tt j : Nat) (hj : j < tt - fr) : hasC (opF m fr tt e) j = ((secB m (fr + j)).take 4 == word4 e) := by
  unfold hasC opF fldsC
  rw [List.getElem?_map, List.getElem?_range hj]
  show (match some (fldC m e (fr + j)) with | some (some _) => true | _ => false) = _
  unfold fldC
  cases hh : ((secB m (fr + j)).take 4 == word4 e) <;> simp
/-- what stands in a sector that was opened. -/
theorem sector_now {m M : Mod} {e fr tt E : Nat} (hM : M.size = 64) (hm : m.size = 64) (hft : fr < tt) (MC : ∀ k, M.cont ones k = if fr + (E + 60 - 1) / 60 ≤ k ∧ k < fr + (E + 60 - 1) / 60 + (tt - fr - (E + 60 - 1) / 60) ∧ hasC (opF m fr tt e) (k - fr) = true then [] else m.cont ones k) (k : Nat) :
    ((fr ≤ k ∧ k < tt ∧ E ≤ (k - fr) * 60 ∧ (((look m k).extract 0 4).toList == word4 e) = true) → look M k = ⟨(zeros 64).toArray⟩) ∧
    (¬ (fr ≤ k ∧ k < tt ∧ E ≤ (k - fr) * 60 ∧ (((look m k).extract 0 4).toList == word4 e) = true) → look M k = look m k) := by
  have hx : ((look m k).extract 0 4).toList = (secB m k).take 4 := extract_front (look m k)
  rw [hx]
  constructor
  · rintro ⟨h1, h2, h3, h4⟩
    have hc := MC k
    rw [if_pos ⟨by omega, by omega, by rw [hasC_opF m e fr tt (k - fr) (by omega), show fr + (k - fr) = k by omega]; exact h4⟩] at hc
    unfold look
    rw [hc, hM]
    rfl
  · intro hb
    have hc := MC k
    rw [if_neg] at hc
    · unfold look
      rw [hc, hM, hm]
    · rintro ⟨h1, h2, h3⟩
      have h5 : k - fr < tt - fr := by omega
      rw [hasC_opF m e fr tt (k - fr) h5, show fr + (k - fr) = k by omega] at h3
      exact hb ⟨by omega, by omega, by omega, h3⟩
set_option maxRecDepth 100000 in
set_option maxHeartbeats 2000000 in
theorem journalReads_all (fr0 tt0 : Int) (hfr0 : -9223372036854775808 ≤ fr0 ∧ fr0 ≤ 9223372036854775807) (htt0 : -9223372036854775808 ≤ tt0 ∧ tt0 ≤ 9223372036854775807) (e : Nat) (he : e < 4294967296) (A : Option Addr) (c : Nat) (l : List (List UInt8)) (w : World) (hl : CameL w A l) :
    Calls Try.prog 4 #[.int .i64 fr0, .int .i64 tt0, .int .u32 (e : Nat), .slice A l.length c] w fun r w' => r = .returned (.bool true) ∧ Below w.heap.size w w' := by
  have AW := Lib.hid (awake9 w)
  have HL := Lib.hid hl
  have hfew := hl.few
  clear hl
  go_enter Try.func4, Try.ntmps4
  go_wp2_with fail
  with_reducible refine AW.out.mono ?_
  rintro r w1 ⟨rfl, b1⟩
  have N := Lib.hid (OwnA.newA (a := fun _ => False) w 4 64 w1 b1 (by omega) (by omega) (by omega) (by omega))
  clear b1 AW
  go_wp2_with fail
  refine N.out.mono ?_
  rintro r w2 ⟨p, rfl, o2, -⟩
  have O2 := Lib.hid o2
  clear N o2
  go_upto_block 0 with fail
  go_cut [11] from 29 to 45 (fun s11 wc => ∃ m : Mod, OwnA (fun _ => False) w wc p m ∧ m.dark = false ∧ m.fused = false ∧ m.n = 4 ∧ m.size = 64 ∧ LowS m 2000)
  case first =>
    go_wp2_with fail
    go_loopg [11] 5 (fun j s11 wr => ∃ (i : Nat) (m : Mod), i ≤ 4 ∧ 4 < i + j ∧ s11 = .int .i64 (i : Nat) ∧ OwnA (fun _ => False) w wr p m ∧ m.dark = false ∧ m.fused = false ∧ m.n = 4 ∧ m.size = 64 ∧ LowS m (3000 - i))
    case atStart => exact ⟨0, _, by omega, by omega, rfl, O2.out, rfl, rfl, rfl, rfl, ⟨by show 0 + _ ≤ _; omega, by show 0 + _ ≤ _; omega, by show 0 ≤ _; omega⟩⟩
    case round =>
      obtain ⟨i, m, hi, hj, rfl, o, h1, h2, h3, h4, h5⟩ := hrel
      have OO := Lib.hid (And.intro o (And.intro h1 (And.intro h2 (And.intro h3 (And.intro h4 h5)))))
      clear o h1 h2 h3 h4 h5 O2
      by_cases hlt : i < l.length
      case neg =>
        have hge : ¬ (i : Int) < (l.length : Int) := by omega
        go_wp2_with fail
        go_meet
        exact ⟨m, OO.out.1, OO.out.2.1, OO.out.2.2.1, OO.out.2.2.2.1, OO.out.2.2.2.2.1, OO.out.2.2.2.2.2.mono (by omega)⟩
      have hlti : (i : Int) < (l.length : Int) := by omega
      by_cases hlt2 : i < 4
      case neg =>
        have hge : ¬ (i : Int) < 4 := by omega
        go_wp2_with fail
        go_meet
        exact ⟨m, OO.out.1, OO.out.2.1, OO.out.2.2.1, OO.out.2.2.2.1, OO.out.2.2.2.2.1, OO.out.2.2.2.2.2.mono (by omega)⟩
      have hlti2 : (i : Int) < 4 := by omega
      obtain ⟨g, o, B, cb, rfl, km, n1⟩ := HL.out.all hlt
      obtain ⟨b, hbe⟩ : ∃ b, l[i] = b := ⟨_, rfl⟩
      rw [hbe] at n1
      simp only [hbe] at km
      have kc := (km _ OO.out.1.bel).1
      have WR := Lib.hid (OO.out.1.writeA (fun _ hk => hk.elim) ((OO.out.2.2.2.2.2.mono (by omega) : LowS m (0 + 1)).low) (i : Nat) B cb b (km _ OO.out.1.bel).2 (n1.imp id fun hx x hxe => .inl (hx x hxe)))
      have N2 : Hid ((m.write (i : Nat) b).dark = false ∧ (m.write (i : Nat) b).fused = false ∧ (m.write (i : Nat) b).n = 4 ∧ (m.write (i : Nat) b).size = 64 ∧ LowS (m.write (i : Nat) b) (3000 - (i + 1))) := Lib.hid ⟨(write_lit OO.out.2.1 OO.out.2.2.1 _ _).1, (write_lit OO.out.2.1 OO.out.2.2.1 _ _).2, (mod_write_n _ _ _).1.trans OO.out.2.2.2.1, (mod_write_n _ _ _).2.trans OO.out.2.2.2.2.1, (OO.out.2.2.2.2.2.mono (by omega)).write _ _⟩
      generalize m.write (i : Nat) b = m2 at *
      generalize m.writeR (i : Nat) b.length = r2 at *
      clear OO km n1 hbe
      go_wp2_with fail
      refine WR.out.mono ?_
      rintro r w5 ⟨rfl, o5, -⟩
      have O5 := Lib.hid o5
      clear WR o5
      go_wp2_with fail
      go_roundg (4 - i)
      case measure => omega
      case rel => exact ⟨i + 1, m2, by omega, by omega, by go_num, O5.out, N2.out.1, N2.out.2.1, N2.out.2.2.1, N2.out.2.2.2.1, N2.out.2.2.2.2⟩
  case rest =>
    obtain ⟨m, o4, hd, hf, hn, hz, hlow⟩ := hcut
    have S1 := sectors_any o4 (by have := hlow.waits; omega) hd (by omega)
    rw [hn] at S1
    replace S1 := Lib.hid S1
    have OO := Lib.hid o4
    have HM := Lib.hid (And.intro hd (And.intro hf (And.intro hn (And.intro hz hlow))))
    clear o4 hd hf hn hz hlow O2
    go_wp2_with fail
    refine S1.out.mono ?_
    rintro r w5 ⟨v5, rfl, sr5, b5⟩
    have O5 := Lib.hid (OO.out.below b5)
    have hlk : (looks m).length = 4 := by unfold looks; rw [List.length_map, List.length_range, HM.out.2.2.1]
    have JN := fun (W : World) => jopen_none fr0 tt0 e W
    replace JN := Lib.hid JN
    by_cases hbad : fr0 < 0 ∨ tt0 ≤ fr0 ∨ (4 : Int) < tt0
    · have JB := Lib.hid (jopen_bad O5.out.own fr0 tt0 e (by rw [HM.out.2.2.1]; exact hbad))
      have B5 := Lib.hid O5.out.bel
      clear sr5 b5 OO O5 S1
      go_wp2_with fail
      refine JB.out.mono ?_
      rintro r w6 ⟨rfl, rfl⟩
      go_wp2_with fail
      refine (JN.out _).mono ?_
      rintro r w6 ⟨rfl, rfl⟩
      clear JB JN
      by_cases q1 : fr0 < 0
      · go_wp2_with fail
        go_ret
        exact ⟨rfl, B5.out⟩
      · by_cases q2 : tt0 ≤ fr0
        · go_wp2_with fail
          go_ret
          exact ⟨rfl, B5.out⟩
        · have q3 : (4 : Int) < tt0 := by omega
          go_wp2_with fail
          go_ret
          exact ⟨rfl, B5.out⟩
    obtain ⟨fr, rfl⟩ : ∃ fr : Nat, fr0 = (fr : Nat) := ⟨fr0.toNat, by omega⟩
    obtain ⟨tt, rfl⟩ : ∃ tt : Nat, tt0 = (tt : Nat) := ⟨tt0.toNat, by omega⟩
    have hft : fr < tt := by omega
    have ht4 : tt ≤ 4 := by omega
    have hE : opE m fr tt e ≤ (opR m fr tt e).length := lastEnd_le _ _ _
    have OF := fun pj A6 => opJ_facts O5.out.own pj fr tt e A6
    have hRl : (opR m fr tt e).length ≤ 240 := by
      have h1 := rowO_len (m.size - 4) (opF m fr tt e) fun b hb => Nat.le_of_eq (fldsC_each m e fr (tt - fr) (fun k => secB_len O5.out.own k) b hb)
      have h2 : (opF m fr tt e).length = tt - fr := by simp [opF, fldsC]
      rw [h2, HM.out.2.2.2.1] at h1
      have h3 : (tt - fr) * 60 ≤ 4 * 60 := Nat.mul_le_mul_right _ (by omega)
      have h4 : (opR m fr tt e).length = (rowO (opF m fr tt e)).length := rfl
      omega
    have CL := clrF_lit fr (hasC (opF m fr tt e)) (tt - fr - (((opR m fr tt e).take (opE m fr tt e)).length + (m.size - 4) - 1) / (m.size - 4)) ((((opR m fr tt e).take (opE m fr tt e)).length + (m.size - 4) - 1) / (m.size - 4)) m false HM.out.1 HM.out.2.1 (by
      have h1 := (OF 0 none).1
      have h2 : (opJ m 0 p fr tt e none).row = (opR m fr tt e).take (opE m fr tt e) := rfl
      rw [h2, HM.out.2.2.2.1] at h1
      rw [HM.out.2.2.1, HM.out.2.2.2.1]
      omega)
    have hM : clrF fr (hasC (opF m fr tt e)) m false ((((opR m fr tt e).take (opE m fr tt e)).length + (m.size - 4) - 1) / (m.size - 4)) (tt - fr - (((opR m fr tt e).take (opE m fr tt e)).length + (m.size - 4) - 1) / (m.size - 4)) = opM m fr tt e := rfl
    rw [hM] at CL
    obtain ⟨M0, MD, MF, MN, MZ, MC⟩ := CL
    have htl : ((opR m fr tt e).take (opE m fr tt e)).length = opE m fr tt e := by rw [List.length_take]; omega
    rw [htl, HM.out.2.2.2.1] at MC
    have OP := jopen_good O5.out fr tt e hft (by rw [HM.out.2.2.1]; exact ht4) (by rw [HM.out.2.2.1]; omega) (by rw [HM.out.2.2.2.1]; omega) (by rw [HM.out.2.2.2.1]; omega) he (HM.out.2.2.2.2.mono (by omega)) HM.out.1
    have ML : LowS (opM m fr tt e).1 1000 := by
      unfold opM
      generalize ((((opR m fr tt e).take (opE m fr tt e)).length + (m.size - 4) - 1) / (m.size - 4)) = z
      exact LowS.clr _ _ _ _ _ _ _ (HM.out.2.2.2.2.mono (by omega))
    have SC := standR_cut e 60 he (by omega) (opR m fr tt e) (by omega)
    have hEE : opE m fr tt e = lastEnd (standR e 60 (opR m fr tt e)) := by
      unfold opE
      rw [HM.out.2.2.2.1]
    rw [← hEE] at SC
    replace OP := Lib.hid OP
    replace MC := Lib.hid MC
    have MM := Lib.hid (And.intro M0 (And.intro MD (And.intro MF (And.intro (MN.trans HM.out.2.2.1) (And.intro (MZ.trans HM.out.2.2.2.1) ML)))))
    replace SC := Lib.hid SC
    replace hEE := Lib.hid hEE
    have SR5 := Lib.hid sr5
    have SBL := Lib.hid fun k => secB_len O5.out.own k
    clear M0 MD MF MN MZ ML hM htl b5 sr5 OO O5 S1 hbad
    go_wp2_with fail
    refine OP.out.mono ?_
    rintro r w6 ⟨s6, o6⟩
    unfold Opened at o6
    rw [if_pos MM.out.1] at o6
    obtain ⟨pj, A6, rfl, -, j6, -⟩ := o6
    have OJ := OF pj A6
    have hJ1 : (opJ m pj p fr tt e A6).ptr = .pointer (some ⟨pj, 0, none⟩) := rfl
    have hJ2 : (opJ m pj p fr tt e A6).dp = p := rfl
    have hJ3 : (opJ m pj p fr tt e A6).pend = 0 := rfl
    have hJ4 : (opJ m pj p fr tt e A6).row = (opR m fr tt e).take (opE m fr tt e) := rfl
    have hJ5 : (opJ m pj p fr tt e A6).e = e := rfl
    have hJ6 : (opJ m pj p fr tt e A6).f = 60 := by show m.size - 4 = 60; rw [HM.out.2.2.2.1]
    generalize opJ m pj p fr tt e A6 = J at *
    have J6 := Lib.hid j6
    have SR6 := Lib.hid (SR5.out.still s6)
    have JJ := Lib.hid (And.intro hJ1 (And.intro hJ2 (And.intro hJ3 (And.intro hJ4 (And.intro hJ5 hJ6)))))
    clear OP s6 j6 OF OJ hJ1 hJ2 hJ3 hJ4 hJ5 hJ6 SR5
    go_wp2_with fail
    refine (JN.out _).mono ?_
    rintro r w7 ⟨rfl, rfl⟩
    have g1 : ¬ (fr : Int) < 0 := by omega
    have g2 : ¬ (tt : Int) ≤ (fr : Int) := by omega
    have g3 : ¬ (4 : Int) < (tt : Int) := by omega
    obtain ⟨A5, c5, rfl, hc5, hcell⟩ := SR6.out.shape
    obtain ⟨gs, rfl, -, hgs, -⟩ := hcell 0 (by omega)
    rw [hlk] at hc5
    have hss : ((List.range (tt - fr)).map fun i => look m (fr + i)).length = tt - fr := by simp
    have ST : Strs w6 (some ⟨gs, fr, none⟩) ((List.range (tt - fr)).map fun i => look m (fr + i)) := fun i hi => by
      have hi' : i < tt - fr := by rw [hss] at hi; exact hi
      obtain ⟨g', e', -, -, hc⟩ := hcell (fr + i) (by omega)
      cases e'
      refine ⟨gs, fr, rfl, hgs, ?_⟩
      rw [hc]
      congr 2
      rw [List.getElem_map, List.getElem_range]
      simp [looks]
    have FI := refFields_any (some ⟨gs, fr, none⟩) (c5 - fr) _ e he w6 ST (fun s hs => by
      obtain ⟨i, -, rfl⟩ := List.mem_map.1 hs
      have : (look m (fr + i)).size = (secB m (fr + i)).length := by
        show (secB m (fr + i)).toArray.size = _
        simp
      rw [this, SBL.out]
      have := HM.out.2.2.2.1
      omega) (by rw [hss]; omega)
    rw [hss, fields_opR] at FI
    replace FI := Lib.hid FI
    have hfc : (fr : Int) ≤ (c5 : Int) := by omega
    have htc : (tt : Int) ≤ (c5 : Int) := by omega
    have hfti : (fr : Int) ≤ (tt : Int) := by omega
    rw [hlk]
    clear JN ST hss hcell
    go_wp2_with fail
    refine FI.out.mono ?_
    rintro r w7 ⟨v7, rfl, r7, b7⟩
    obtain ⟨A7, c7, rfl, h7, l7, -⟩ := r7.shape
    have RE := refRecords_any A7 c7 (opR m fr tt e) e he w7 h7 l7 (by omega)
    rw [← hEE.out] at RE
    replace RE := Lib.hid RE
    have J7 := Lib.hid (J6.out.below b7)
    have SR7 := Lib.hid (SR6.out.below b7)
    clear FI r7 b7 h7 J6 SR6
    go_wp2_with fail
    refine RE.out.mono ?_
    rintro r w8 ⟨v8, rfl, r8, b8⟩
    have J8 := Lib.hid (J7.out.below b8)
    have SR8 := Lib.hid (SR7.out.below b8)
    obtain ⟨A8, c8, rfl, l8, -⟩ := r8.lists b8
    have HL8 := Lib.hid l8
    have RC := records_of J8.out (by rw [JJ.out.2.2.2.1, List.length_take]; omega)
    rw [JJ.out.1, JJ.out.2.2.2.2.1, JJ.out.2.2.2.2.2, JJ.out.2.2.2.1, SC.out] at RC
    replace RC := Lib.hid RC
    have hsl : ((standR e 60 (opR m fr tt e)).map Prod.fst).length ≤ 100000 := by
      have h := standA_len e 60 (opR m fr tt e) ((opR m fr tt e).length + 1) 0
      rw [List.length_map]
      exact Nat.le_trans h (by omega)
    clear RE r8 b8 l8 J7 SR7
    go_wp2_with fail
    refine RC.out.mono ?_
    rintro r w9 ⟨v9, rfl, l9, b9⟩
    obtain ⟨A9, c9, rfl, ls9, -⟩ := l9.lists
    have J9 := Lib.hid (J8.out.below b9)
    have SR9 := Lib.hid (SR8.out.below b9)
    have SA := refSame_any A9 A8 c9 c8 _ _ w9 ls9 (HL8.out.below b9) (by omega)
    rw [decide_eq_true rfl] at SA
    simp only [List.length_map] at SA
    replace SA := Lib.hid SA
    clear RC l9 b9 ls9 J8 SR8 HL8
    go_wp2_with fail
    refine SA.out.mono ?_
    rintro r w10 ⟨rfl, b10⟩
    have J10 := Lib.hid (J9.out.below b10)
    have SR10 := Lib.hid (SR9.out.below b10)
    have US := used_any J10.out
    have PE := pending_any J10.out
    have hrl : J.row.length = opE m fr tt e := by rw [JJ.out.2.2.2.1, List.length_take]; omega
    rw [JJ.out.1, hrl] at US
    rw [JJ.out.1, JJ.out.2.2.1] at PE
    replace US := Lib.hid US
    replace PE := Lib.hid PE
    have S2 := sectors_any J10.out.own (by have := MM.out.2.2.2.2.2.waits; omega) MM.out.2.1 (by rw [MM.out.2.2.2.1]; omega)
    rw [JJ.out.2.1, MM.out.2.2.2.1] at S2
    replace S2 := Lib.hid S2
    clear SA b10 J9 SR9 hrl
    go_wp2_with fail
    refine US.out.mono ?_
    rintro r w11 ⟨rfl, rfl⟩
    go_wp2_with fail
    refine PE.out.mono ?_
    rintro r w11 ⟨rfl, rfl⟩
    go_wp2_with fail
    refine S2.out.mono ?_
    rintro r w12 ⟨v12, rfl, sr12, b12⟩
    have W4 := Lib.hid (refWord_any e he w12)
    have SRa := Lib.hid (SR10.out.below b12)
    have SRb := Lib.hid sr12
    have BB12 := Lib.hid (below_next J10.out.own.bel b12)
    clear US PE S2 sr12 b12 J10 SR10
    go_wp2_with fail
    refine W4.out.mono ?_
    rintro r w13 ⟨v13, rfl, r13, b13⟩
    obtain ⟨A13, c13, rfl, h13, -, -⟩ := r13.shape
    have CV : Sem.run Try.prog (convert 35 9 (.slice A13 4 c13)) w13 = .ok (.string ⟨(word4 e).toArray⟩) w13 := conv_bytes h13 c13
    have e4 : (word4 e).length = 4 := rfl
    rw [e4]
    have SRc := Lib.hid (SRa.out.below b13)
    have SRd := Lib.hid (SRb.out.below b13)
    have BB13 := Lib.hid (below_next BB12.out b13)
    clear W4 r13 h13 b13 SRa SRb BB12 e4
    obtain ⟨A12, c12, rfl, hc12, hcell12⟩ := SRd.out.shape
    obtain ⟨g', e', -, -, -⟩ := hcell12 0 (by unfold looks; rw [List.length_map, List.length_range, MM.out.2.2.2.1]; omega)
    subst e'
    have hlk2 : (looks (opM m fr tt e).1).length = 4 := by unfold looks; rw [List.length_map, List.length_range, MM.out.2.2.2.1]
    rw [hlk2] at hc12
    rw [hlk2]
    obtain ⟨A5', c5', ev, -, hcell5⟩ := SRc.out.shape
    cases ev
    have CW : Hid (∀ W, Below w13.heap.size w13 W → ∀ k, k < 4 → W.cell? ⟨gs, k, none⟩ = some (.string (look m k)) ∧ W.cell? ⟨g', k, none⟩ = some (.string (look (opM m fr tt e).1 k))) := Lib.hid fun W hb k hk => by
      obtain ⟨q1, e1, -, h1, k1⟩ := hcell5 k (by omega)
      obtain ⟨q2, e2, -, h2, k2⟩ := hcell12 k (by omega)
      cases e1
      cases e2
      refine ⟨((hb.cell (p := ⟨gs, k, none⟩) h1).trans k1).trans ?_, ((hb.cell (p := ⟨g', k, none⟩) h2).trans k2).trans ?_⟩
      · simp [looks]
      · simp [looks]
    have SN := Lib.hid (sector_now (E := opE m fr tt e) MM.out.2.2.2.2.1 HM.out.2.2.2.1 hft MC.out)
    have B13 := Lib.hid (Below.refl w13.heap.size w13)
    clear SRc SRd hcell12 hcell5 MC
    generalize opE m fr tt e = E at *
    go_wp2_with fail
    go_loopg [21, 22] 5 (fun j s21 s22 wr => ∃ k : Nat, k ≤ 4 ∧ 4 < k + j ∧ s21 = .int .i64 (k : Nat) ∧ Below w13.heap.size w13 wr)
    case atStart => exact ⟨0, by omega, by omega, rfl, B13.out⟩
    case round =>
      obtain ⟨k, hk, hj, rfl, hb⟩ := hrel
      have HB := Lib.hid hb
      clear hb B13
      by_cases hk4 : k < 4
      case neg =>
        have hge : ¬ (k : Int) < 4 := by omega
        have BE := Lib.hid (below_next BB13.out HB.out)
        go_wp2_with fail
        go_ret
        exact ⟨rfl, BE.out⟩
      have hk4i : (k : Int) < 4 := by omega
      obtain ⟨cw, cn⟩ := CW.out _ HB.out k hk4
      have SK := Lib.hid (SN.out k)
      have hsz : (look m k).size = 64 := by
        have h1 : (look m k).size = (secB m k).length := by
          show (secB m k).toArray.size = _
          simp
        rw [h1, SBL.out, HM.out.2.2.2.1]
      have hs4 : (4 : Int) ≤ ((look m k).size : Int) := by omega
      have CK : Hid (∀ W, Below w13.heap.size w13 W → W.cell? ⟨gs, k, none⟩ = some (.string (look m k)) ∧ W.cell? ⟨g', k, none⟩ = some (.string (look (opM m fr tt e).1 k))) := Lib.hid fun W hb => CW.out W hb k hk4
      generalize look m k = sw at *
      generalize look (opM m fr tt e).1 k = sn at *
      have CN := Lib.hid cn
      clear cn
      go_upto_region 23 with fail
      go_cut [22] (fun s22 wx => ∃ bb : Bool, s22 = .bool bb ∧ Below w13.heap.size w13 wx ∧ (if bb = true then sn = ⟨(zeros 64).toArray⟩ else sn = sw))
      case first =>
        by_cases q1 : fr ≤ k
        case neg =>
          have q1i : ¬ (fr : Int) ≤ (k : Int) := by omega
          go_wp2_with fail
          go_meet
          exact ⟨false, rfl, HB.out, by rw [if_neg (by simp)]; exact SK.out.2 fun h => q1 h.1⟩
        have q1i : (fr : Int) ≤ (k : Int) := by omega
        by_cases q2 : k < tt
        case neg =>
          have q2i : ¬ (k : Int) < (tt : Int) := by omega
          go_wp2_with fail
          go_meet
          exact ⟨false, rfl, HB.out, by rw [if_neg (by simp)]; exact SK.out.2 fun h => q2 h.2.1⟩
        have q2i : (k : Int) < (tt : Int) := by omega
        by_cases q3 : E ≤ (k - fr) * 60
        case neg =>
          have q3i : ¬ (E : Int) ≤ ((k : Int) - (fr : Int)) * 60 := by omega
          go_wp2_with fail
          go_meet
          exact ⟨false, rfl, HB.out, by rw [if_neg (by simp)]; exact SK.out.2 fun h => q3 h.2.2.1⟩
        have q3i : (E : Int) ≤ ((k : Int) - (fr : Int)) * 60 := by omega
        cases q4 : ((sw.extract 0 4).toList == word4 e) with
        | false =>
          go_wp2_with fail
          go_meet
          exact ⟨false, rfl, HB.out, by rw [if_neg (by simp)]; exact SK.out.2 fun h => by rw [q4] at h; simp at h⟩
        | true =>
          go_wp2_with fail
          go_meet
          exact ⟨true, rfl, HB.out, by rw [if_pos rfl]; exact SK.out.1 ⟨q1, q2, q3, q4⟩⟩
      case rest =>
        obtain ⟨bb, rfl, hbx, hsn⟩ := hcut
        obtain ⟨cw2, cn2⟩ := CK.out _ hbx
        have BX := Lib.hid hbx
        cases bb with
        | false =>
          rw [if_neg (by simp)] at hsn
          subst hsn
          clear SK CN CK hbx
          go_wp2_with fail
          go_quiet (fail)
          have B9 := Lib.hid (BX.out.trans (below_drewN (Below.refl _ _) nq))
          go_wp2_with fail
          go_roundg (4 - k)
          case measure => omega
          case rel => exact ⟨k + 1, by omega, by omega, by go_num, B9.out⟩
        | true =>
          rw [if_pos rfl] at hsn
          subst hsn
          clear SK CN CK hbx
          obtain ⟨zc, hzc⟩ : ∃ zc, (encB (zeros 64)).toArray = zc := ⟨_, rfl⟩
          obtain ⟨zs, hzs⟩ : ∃ zs : ByteArray, (⟨(zeros 64).toArray⟩ : ByteArray) = zs := ⟨_, rfl⟩
          have hmk : ∀ W, Sem.run Try.prog (Instr.makeSlice 35 (.int .i64 64) (.int .i64 64)) W = .ok (.slice (some ⟨W.heap.size, 0, none⟩) 64 64) (W.alloc (.cells zc 5)) := fun W => by
            rw [← hzc]
            exact make_bytes 64 64 rfl (by omega) W
          have hcv : ∀ W : World, Sem.run Try.prog (convert 35 9 (.slice (some ⟨W.heap.size, 0, none⟩) 64 64)) (W.alloc (.cells zc 5)) = .ok (.string zs) (W.alloc (.cells zc 5)) := fun W => by
            have hb : BB (W.alloc (.cells (encB (zeros 64)).toArray 5)) W.heap.size (zeros 64) := Whole.new W _ _
            rw [← hzc, ← hzs]
            exact conv_bytes (l := zeros 64) hb.holds0 64
          have hcv2 : Sem.run Try.prog (convert 35 9 (.slice (some ⟨wc.heap.size, 0, none⟩) 64 64)) (wc.alloc (.cells zc 5)).drew = .ok (.string zs) (wc.alloc (.cells zc 5)).drew := hcv wc.drew
          rw [hzs] at cn2
          have hca2 : ∀ o, (wc.alloc o).drew.cell? ⟨g', k, none⟩ = some (.string zs) := fun o => cell_alloc_l (W := wc) o cn2
          have QD : Hid (wc.drew.cell? ⟨g', k, none⟩ = some (.string zs)) := Lib.hid cn2
          have BA : Hid (Below w13.heap.size w13 (wc.alloc (.cells zc 5)).drew) := Lib.hid ((BX.out.alloc BX.out.size _).drew)
          clear hzc hzs cn2 hcv cw2 cw
          go_wp2_with fail
          refine wp_region_held_drew (S := fun W => W.cell? ⟨g', k, none⟩ = some (.string zs)) (by kernel_rfl) QD.out (fun _ => ?_)
          refine wpAnyH_take (i := 0) (oi := { dst := some 147, op := Op.move (Operand.tmp 22), type := 4, pos := "law.go:206", after := #[], guard := none }) (v := ?_) rfl (by kernel_rfl) (by kernel_rfl) (by kernel_rfl) (fun _ _ _ h => h) (Or.inl ⟨by rfl, ?_⟩) QD.out ?_
          rotate_left
          · (intro w hw; go_simp; try with_reducible rfl)
          simp only [Act.put, List.setIfInBounds_toArray, List.set_cons_zero, List.set_cons_succ]
          refine wpAnyH_take (i := 1) (oi := { dst := some 148, op := Op.move (Operand.tmp 147), type := 4, pos := "law.go:206", after := #[{ on := 0, ground := Ground.data }], guard := none }) (v := ?_) rfl (by kernel_rfl) (by kernel_rfl) (by kernel_rfl) (fun _ _ _ h => h) (Or.inl ⟨by rfl, ?_⟩) QD.out ?_
          rotate_left
          · (intro w hw; go_simp; try with_reducible rfl)
          simp only [Act.put, List.setIfInBounds_toArray, List.set_cons_zero, List.set_cons_succ]
          refine wpAnyH_take (i := 2) (oi := { dst := some 149, op := Op.move (Operand.tmp 19), type := 42, pos := "law.go:206", after := #[{ on := 1, ground := Ground.guard }], guard := some (1, true) }) (v := ?_) rfl (by kernel_rfl) (by kernel_rfl) (by kernel_rfl) (fun _ _ _ h => h) (Or.inl ⟨by rfl, ?_⟩) QD.out ?_
          rotate_left
          · (intro w hw; go_simp; try with_reducible rfl)
          simp only [Act.put, List.setIfInBounds_toArray, List.set_cons_zero, List.set_cons_succ]
          refine wpAnyH_take (i := 3) (oi := { dst := some 150, op := Op.move (Operand.tmp 21), type := 3, pos := "law.go:206", after := #[{ on := 1, ground := Ground.guard }], guard := some (1, true) }) (v := ?_) rfl (by kernel_rfl) (by kernel_rfl) (by kernel_rfl) (fun _ _ _ h => h) (Or.inl ⟨by rfl, ?_⟩) QD.out ?_
          rotate_left
          · (intro w hw; go_simp; try with_reducible rfl)
          simp only [Act.put, List.setIfInBounds_toArray, List.set_cons_zero, List.set_cons_succ]
          refine wpAnyH_take (i := 4) (oi := { dst := some 151, op := Op.indexAddr 42 (Operand.tmp 149) (Operand.tmp 150), type := 0, pos := "law.go:206", after := #[{ on := 2, ground := Ground.data }, { on := 3, ground := Ground.data }, { on := 1, ground := Ground.guard }], guard := some (1, true) }) (v := ?_) rfl (by kernel_rfl) (by kernel_rfl) (by kernel_rfl) (fun _ _ _ h => h) (Or.inl ⟨by rfl, ?_⟩) QD.out ?_
          rotate_left
          · (intro w hw; go_simp; try with_reducible rfl)
          simp only [Act.put, List.setIfInBounds_toArray, List.set_cons_zero, List.set_cons_succ]
          refine wpAnyH_take (i := 5) (oi := { dst := some 152, op := Op.load 9 (Operand.tmp 151), type := 9, pos := "law.go:206", after := #[{ on := 4, ground := Ground.data }, { on := 1, ground := Ground.guard }], guard := some (1, true) }) (v := ?_) rfl (by kernel_rfl) (by kernel_rfl) (by kernel_rfl) (fun _ _ _ h => h) (Or.inl ⟨by rfl, ?_⟩) QD.out ?_
          rotate_left
          · (intro w hw; go_simp; try with_reducible rfl)
          simp only [Act.put, List.setIfInBounds_toArray, List.set_cons_zero, List.set_cons_succ]
          refine wpAnyH_ready (rs := [6]) (by kernel_rfl) (by simp) ?_
          refine AllReadyH.cons (o := { dst := some 153, op := Op.makeSlice 35 (Operand.const (Value.int IntKind.i64 64)) (Operand.const (Value.int IntKind.i64 64)), type := 35, pos := "law.go:206", after := #[{ on := 1, ground := Ground.guard }], guard := some (1, true) }) rfl (fun K hK => ?_) AllReadyH.nil
          go_simp
          have Q1 := Lib.hid (hca2 (.cells zc 5))
          refine hK.out _ _ Q1.out (fun _ => ?_)
          clear hK K
          try simp only [Act.put, List.setIfInBounds_toArray, List.set_cons_zero, List.set_cons_succ]
          refine wpAnyH_ready (rs := [7]) (by kernel_rfl) (by simp) ?_
          refine AllReadyH.cons (o := { dst := some 154, op := Op.convert 35 9 (Operand.tmp 153), type := 9, pos := "law.go:206", after := #[{ on := 6, ground := Ground.data }, { on := 1, ground := Ground.guard }], guard := some (1, true) }) rfl (fun K hK => ?_) AllReadyH.nil
          go_simp
          refine hK.out _ _ Q1.out (fun _ => ?_)
          clear hK K
          try simp only [Act.put, List.setIfInBounds_toArray, List.set_cons_zero, List.set_cons_succ]
          refine wpAnyH_take (i := 8) (oi := { dst := some 155, op := Op.binOp BinOp.neq 9 (Operand.tmp 152) (Operand.tmp 154) 9, type := 4, pos := "law.go:206", after := #[{ on := 5, ground := Ground.data }, { on := 7, ground := Ground.data }, { on := 1, ground := Ground.guard }], guard := some (1, true) }) (v := ?_) rfl (by kernel_rfl) (by kernel_rfl) (by kernel_rfl) (fun _ _ _ h => h) (Or.inl ⟨by rfl, ?_⟩) Q1.out ?_
          rotate_left
          · (intro w hw; go_simp; try with_reducible rfl)
          simp only [Act.put, List.setIfInBounds_toArray, List.set_cons_zero, List.set_cons_succ]
          refine wpAnyH_take (i := 9) (oi := { dst := some 156, op := Op.pick (Operand.tmp 148) (Operand.tmp 155) (Operand.const (Value.bool false)), type := 4, pos := "law.go:206", after := #[{ on := 1, ground := Ground.data }, { on := 8, ground := Ground.data }], guard := none }) (v := ?_) rfl (by kernel_rfl) (by kernel_rfl) (by kernel_rfl) (fun _ _ _ h => h) (Or.inl ⟨by rfl, ?_⟩) Q1.out ?_
          rotate_left
          · (intro w hw; go_simp; try with_reducible rfl)
          simp only [Act.put, List.setIfInBounds_toArray, List.set_cons_zero, List.set_cons_succ]
          refine wpAnyH_take (i := 10) (oi := { dst := some 157, op := Op.move (Operand.tmp 156), type := 4, pos := "law.go:206", after := #[{ on := 9, ground := Ground.data }, { on := 1, ground := Ground.chain }], guard := none }) (v := ?_) rfl (by kernel_rfl) (by kernel_rfl) (by kernel_rfl) (fun _ _ _ h => h) (Or.inl ⟨by rfl, ?_⟩) Q1.out ?_
          rotate_left
          · (intro w hw; go_simp; try with_reducible rfl)
          simp only [Act.put, List.setIfInBounds_toArray, List.set_cons_zero, List.set_cons_succ]
          refine wpAnyH_take (i := 11) (oi := { dst := some 158, op := Op.move (Operand.tmp 22), type := 4, pos := "law.go:206", after := #[{ on := 10, ground := Ground.guard }], guard := some (10, false) }) (v := ?_) rfl (by kernel_rfl) (by kernel_rfl) (by kernel_rfl) (fun _ _ _ h => h) (Or.inl ⟨by rfl, ?_⟩) Q1.out ?_
          rotate_left
          · (intro w hw; go_simp; try with_reducible rfl)
          simp only [Act.put, List.setIfInBounds_toArray, List.set_cons_zero, List.set_cons_succ]
          refine wpAnyH_take (i := 12) (oi := { dst := some 159, op := Op.unOp UnOp.not 4 (Operand.tmp 158), type := 4, pos := "law.go:206", after := #[{ on := 11, ground := Ground.data }, { on := 10, ground := Ground.guard }], guard := some (10, false) }) (v := ?_) rfl (by kernel_rfl) (by kernel_rfl) (by kernel_rfl) (fun _ _ _ h => h) (Or.inl ⟨by rfl, ?_⟩) Q1.out ?_
          rotate_left
          · (intro w hw; go_simp; try with_reducible rfl)
          simp only [Act.put, List.setIfInBounds_toArray, List.set_cons_zero, List.set_cons_succ]
          refine wpAnyH_take (i := 13) (oi := { dst := some 160, op := Op.move (Operand.tmp 159), type := 4, pos := "law.go:206", after := #[{ on := 12, ground := Ground.data }, { on := 10, ground := Ground.chain }, { on := 10, ground := Ground.guard }], guard := some (10, false) }) (v := ?_) rfl (by kernel_rfl) (by kernel_rfl) (by kernel_rfl) (fun _ _ _ h => h) (Or.inl ⟨by rfl, ?_⟩) Q1.out ?_
          rotate_left
          · (intro w hw; go_simp; try with_reducible rfl)
          simp only [Act.put, List.setIfInBounds_toArray, List.set_cons_zero, List.set_cons_succ]
          refine wpAnyH_take (i := 14) (oi := { dst := some 161, op := Op.move (Operand.tmp 19), type := 42, pos := "law.go:206", after := #[{ on := 13, ground := Ground.guard }], guard := some (13, true) }) (v := undef) rfl (by kernel_rfl) (by kernel_rfl) (by kernel_rfl) (fun _ _ _ h => h) (Or.inr ⟨by kernel_rfl, rfl⟩) Q1.out ?_
          simp only [Act.put, List.setIfInBounds_toArray, List.set_cons_zero, List.set_cons_succ]
          refine wpAnyH_take (i := 15) (oi := { dst := some 162, op := Op.move (Operand.tmp 21), type := 3, pos := "law.go:206", after := #[{ on := 13, ground := Ground.guard }], guard := some (13, true) }) (v := undef) rfl (by kernel_rfl) (by kernel_rfl) (by kernel_rfl) (fun _ _ _ h => h) (Or.inr ⟨by kernel_rfl, rfl⟩) Q1.out ?_
          simp only [Act.put, List.setIfInBounds_toArray, List.set_cons_zero, List.set_cons_succ]
          refine wpAnyH_take (i := 16) (oi := { dst := some 163, op := Op.indexAddr 42 (Operand.tmp 161) (Operand.tmp 162), type := 0, pos := "law.go:206", after := #[{ on := 14, ground := Ground.data }, { on := 15, ground := Ground.data }, { on := 13, ground := Ground.guard }], guard := some (13, true) }) (v := undef) rfl (by kernel_rfl) (by kernel_rfl) (by kernel_rfl) (fun _ _ _ h => h) (Or.inr ⟨by kernel_rfl, rfl⟩) Q1.out ?_
          simp only [Act.put, List.setIfInBounds_toArray, List.set_cons_zero, List.set_cons_succ]
          refine wpAnyH_take (i := 17) (oi := { dst := some 164, op := Op.load 9 (Operand.tmp 163), type := 9, pos := "law.go:206", after := #[{ on := 16, ground := Ground.data }, { on := 13, ground := Ground.guard }], guard := some (13, true) }) (v := undef) rfl (by kernel_rfl) (by kernel_rfl) (by kernel_rfl) (fun _ _ _ h => h) (Or.inr ⟨by kernel_rfl, rfl⟩) Q1.out ?_
          simp only [Act.put, List.setIfInBounds_toArray, List.set_cons_zero, List.set_cons_succ]
          refine wpAnyH_take (i := 18) (oi := { dst := some 165, op := Op.move (Operand.tmp 12), type := 42, pos := "law.go:206", after := #[{ on := 13, ground := Ground.guard }], guard := some (13, true) }) (v := undef) rfl (by kernel_rfl) (by kernel_rfl) (by kernel_rfl) (fun _ _ _ h => h) (Or.inr ⟨by kernel_rfl, rfl⟩) Q1.out ?_
          simp only [Act.put, List.setIfInBounds_toArray, List.set_cons_zero, List.set_cons_succ]
          refine wpAnyH_take (i := 19) (oi := { dst := some 166, op := Op.move (Operand.tmp 21), type := 3, pos := "law.go:206", after := #[{ on := 13, ground := Ground.guard }], guard := some (13, true) }) (v := undef) rfl (by kernel_rfl) (by kernel_rfl) (by kernel_rfl) (fun _ _ _ h => h) (Or.inr ⟨by kernel_rfl, rfl⟩) Q1.out ?_
          simp only [Act.put, List.setIfInBounds_toArray, List.set_cons_zero, List.set_cons_succ]
          refine wpAnyH_take (i := 20) (oi := { dst := some 167, op := Op.indexAddr 42 (Operand.tmp 165) (Operand.tmp 166), type := 0, pos := "law.go:206", after := #[{ on := 18, ground := Ground.data }, { on := 19, ground := Ground.data }, { on := 13, ground := Ground.guard }], guard := some (13, true) }) (v := undef) rfl (by kernel_rfl) (by kernel_rfl) (by kernel_rfl) (fun _ _ _ h => h) (Or.inr ⟨by kernel_rfl, rfl⟩) Q1.out ?_
          simp only [Act.put, List.setIfInBounds_toArray, List.set_cons_zero, List.set_cons_succ]
          refine wpAnyH_take (i := 21) (oi := { dst := some 168, op := Op.load 9 (Operand.tmp 167), type := 9, pos := "law.go:206", after := #[{ on := 20, ground := Ground.data }, { on := 13, ground := Ground.guard }], guard := some (13, true) }) (v := undef) rfl (by kernel_rfl) (by kernel_rfl) (by kernel_rfl) (fun _ _ _ h => h) (Or.inr ⟨by kernel_rfl, rfl⟩) Q1.out ?_
          simp only [Act.put, List.setIfInBounds_toArray, List.set_cons_zero, List.set_cons_succ]
          refine wpAnyH_take (i := 22) (oi := { dst := some 169, op := Op.binOp BinOp.neq 9 (Operand.tmp 164) (Operand.tmp 168) 9, type := 4, pos := "law.go:206", after := #[{ on := 17, ground := Ground.data }, { on := 21, ground := Ground.data }, { on := 13, ground := Ground.guard }], guard := some (13, true) }) (v := undef) rfl (by kernel_rfl) (by kernel_rfl) (by kernel_rfl) (fun _ _ _ h => h) (Or.inr ⟨by kernel_rfl, rfl⟩) Q1.out ?_
          simp only [Act.put, List.setIfInBounds_toArray, List.set_cons_zero, List.set_cons_succ]
          refine wpAnyH_take (i := 23) (oi := { dst := some 170, op := Op.pick (Operand.tmp 160) (Operand.tmp 169) (Operand.const (Value.bool false)), type := 4, pos := "law.go:206", after := #[{ on := 13, ground := Ground.data }, { on := 22, ground := Ground.data }, { on := 10, ground := Ground.guard }], guard := some (10, false) }) (v := ?_) rfl (by kernel_rfl) (by kernel_rfl) (by kernel_rfl) (fun _ _ _ h => h) (Or.inl ⟨by rfl, ?_⟩) Q1.out ?_
          rotate_left
          · (intro w hw; go_simp; try with_reducible rfl)
          simp only [Act.put, List.setIfInBounds_toArray, List.set_cons_zero, List.set_cons_succ]
          refine wpAnyH_take (i := 24) (oi := { dst := some 171, op := Op.pick (Operand.tmp 157) (Operand.const (Value.bool true)) (Operand.tmp 170), type := 4, pos := "law.go:206", after := #[{ on := 10, ground := Ground.data }, { on := 23, ground := Ground.data }], guard := none }) (v := ?_) rfl (by kernel_rfl) (by kernel_rfl) (by kernel_rfl) (fun _ _ _ h => h) (Or.inl ⟨by rfl, ?_⟩) Q1.out ?_
          rotate_left
          · (intro w hw; go_simp; try with_reducible rfl)
          simp only [Act.put, List.setIfInBounds_toArray, List.set_cons_zero, List.set_cons_succ]
          refine wpAnyH_done (by kernel_rfl) ?_ _
          clear QD Q1 hmk hcv2 hca2
          go_wp2_with fail
          go_roundg (4 - k)
          case measure => omega
          case rel => exact ⟨k + 1, by omega, by omega, by go_num, BA.out⟩
end Go.Proofs.Ythoihlebplmcoaa
