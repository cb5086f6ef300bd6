/- LexTells, walked over what the reference's Lex tells. -/
import Derived.Test.YtpffechllcnnaaaGreatDoorWW
namespace Go.Proofs.YtpffechllcnnaaaGreatDoor
open Go.RowKit Go.Lib
set_option linter.unusedVariables false

attribute [local go_sem ↓] neqFlt in
set_option maxRecDepth 100000 in
set_option maxHeartbeats 2000000 in
theorem tells_any (s : ByteArray) (w : World) (a : Addr) (m : Int) (hv : Env w a m) (hs : s.size ≤ 4100) (RL : ∀ W, Calls Tryz.prog 9 #[.string s] W fun e w' => LexPost W (Lx.lx s.data.toList) e w') :
    Calls Tryz.prog 3 #[.string s] w fun e w' => e = .returned (.bool true) ∧ Below w.heap.size w w' := by
  have AW := Lib.hid (awake_any w a m hv)
  have HV := Lib.hid hv
  have HR := Lib.hid RL
  have hs2 : decide ((4100 : Int) < (s.size : Int)) = false := by simp; omega
  clear hv RL
  go_enter Tryz.func3, Tryz.ntmps3
  go_wp2_with fail
  refine (AW.out).mono ?_
  rintro e w1 ⟨rfl, hb1⟩
  have B1 := Lib.hid hb1
  have L1 := Lib.hid (lex_any s w1 a m (HV.out.below hb1))
  clear hb1 AW
  cases hlx : Lx.lx s.data.toList with
  | bad c p =>
    have hc := Lx.lx_bad hlx
    have L2 : Hid (Calls Tryz.prog 8 #[.string s] w1 fun e w' => LexBad w1 (c : Nat) (p : Nat) e w') := Lib.hid (by have := L1.out; rw [hlx] at this; exact this)
    have HR2 : Hid (∀ W, Calls Tryz.prog 9 #[.string s] W fun e w' => LexBad W (c : Nat) (p : Nat) e w') := Lib.hid (fun W => by have := HR.out W; rw [hlx] at this; exact this)
    have hc2 : ((c : Int) != 0) = true := by rw [bne_iff_ne]; omega
    have hcc : ((c : Int) != (c : Int)) = false := by simp
    have hsf := sameFlt_rfl (c : Nat) (p : Nat)
    clear L1 hc
    go_wp2_with fail
    refine (L2.out).mono ?_
    rintro e w2 ⟨rfl, hb2⟩
    have bw : Below w2.heap.size w2 (w2.alloc (.cells #[.int .i64 (c : Nat), .int .i64 (p : Nat)] 26)) := (Below.refl _ _).alloc (Nat.le_refl _) _
    have B3 := Lib.hid (bstep (bstep B1.out hb2) bw)
    have F3 : Hid (Whole (w2.alloc (.cells #[.int .i64 (c : Nat), .int .i64 (p : Nat)] 26)) w2.heap.size 26 #[.int .i64 (c : Nat), .int .i64 (p : Nat)]) := Lib.hid (Whole.new _ _ _)
    clear hb2 bw L2
    go_wp2_with fail
    refine (HR2.out _).mono ?_
    rintro e w4 ⟨rfl, hb4⟩
    have bw : Below w4.heap.size w4 (w4.alloc (.cells #[.int .i64 (c : Nat), .int .i64 (p : Nat)] 26)) := (Below.refl _ _).alloc (Nat.le_refl _) _
    have B5 := Lib.hid (bstep (bstep B3.out hb4) bw)
    have F5 := Lib.hid (Whole.below (Whole.below F3.out hb4 (Whole.lt F3.out)) bw (Nat.lt_of_lt_of_le (Whole.lt F3.out) hb4.size))
    have G5 : Hid (Whole (w4.alloc (.cells #[.int .i64 (c : Nat), .int .i64 (p : Nat)] 26)) w4.heap.size 26 #[.int .i64 (c : Nat), .int .i64 (p : Nat)]) := Lib.hid (Whole.new _ _ _)
    have W6 := Lib.hid (words_any s _ a m (HV.out.below B5.out))
    rw [hlx] at W6
    clear hb4 bw B3 F3
    go_wp2_with fail
    refine (W6.out).mono ?_
    rintro e w6 ⟨rfl, hb6⟩
    have B6 := Lib.hid (bstep B5.out hb6)
    have F6 := Whole.below F5.out hb6 (Whole.lt F5.out)
    have G6 := Whole.below G5.out hb6 (Whole.lt G5.out)
    have f0 := F6.cell 0
    have f1 := F6.cell 1
    have g0 := G6.cell 0
    have g1 := G6.cell 1
    simp only [List.getElem?_toArray, List.getElem?_cons_zero, List.getElem?_cons_succ] at f0 f1 g0 g1
    have S6 := Lib.hid (same_toks none none 0 0 [] w6 (fun i h => absurd h (Nat.not_lt_zero _)) (fun i h => absurd h (Nat.not_lt_zero _)) (Nat.zero_le _))
    rw [List.length_nil] at S6
    clear hb6 F6 G6 F5 G5 W6 HR2 hlx
    go_wp2_with fail
    refine (S6.out).mono ?_
    rintro e w7 ⟨rfl, k7, rfl⟩
    go_wp2
    go_ret
    exact ⟨rfl, _root_.Go.Proofs.YtpffechllcnnaaaGreatDoor.below_drewN B6.out k7⟩
  | ok T =>
    have L2 : Hid (Calls Tryz.prog 8 #[.string s] w1 fun e w' => LexOk w1 T e w') := Lib.hid (by have := L1.out; rw [hlx] at this; exact this)
    have HR2 : Hid (∀ W, Calls Tryz.prog 9 #[.string s] W fun e w' => LexOk W T e w') := Lib.hid (fun W => by have := HR.out W; rw [hlx] at this; exact this)
    obtain ⟨A0, hA0, hTl, -⟩ := Lx.lx_ok hlx
    have h1 : 1 ≤ T.length := by rw [hA0]; simp
    have hT5 : T.length ≤ 4001 := by have := (Lx.lx_small hlx).1; omega
    have hsf := sameFlt_rfl 0 0
    clear L1 hA0 hTl
    go_wp2_with fail
    refine (L2.out).mono ?_
    rintro e w2 ⟨A, cp, rfl, hcp, hT, hb2, -⟩
    have bw : Below w2.heap.size w2 (w2.alloc (.cells #[.int .i64 0, .int .i64 0] 26)) := (Below.refl _ _).alloc (Nat.le_refl _) _
    have B3 := Lib.hid (bstep (bstep B1.out hb2) bw)
    have F3 : Hid (Whole (w2.alloc (.cells #[.int .i64 0, .int .i64 0] 26)) w2.heap.size 26 #[.int .i64 0, .int .i64 0]) := Lib.hid (Whole.new _ _ _)
    have HT3 := Lib.hid (hT.below bw)
    clear hb2 bw L2 hT
    go_wp2_with fail
    refine (HR2.out _).mono ?_
    rintro e w4 ⟨B, cB, rfl, hcB, hTB, hb4, -⟩
    have bw : Below w4.heap.size w4 (w4.alloc (.cells #[.int .i64 0, .int .i64 0] 26)) := (Below.refl _ _).alloc (Nat.le_refl _) _
    have b45 := bstep hb4 bw
    have B5 := Lib.hid (bstep B3.out b45)
    have F5 := Lib.hid (Whole.below F3.out b45 (Whole.lt F3.out))
    have G5 : Hid (Whole (w4.alloc (.cells #[.int .i64 0, .int .i64 0] 26)) w4.heap.size 26 #[.int .i64 0, .int .i64 0]) := Lib.hid (Whole.new _ _ _)
    have HT5 := Lib.hid (HT3.out.below b45)
    have HB5 := Lib.hid (hTB.below bw)
    have W6 := Lib.hid (words_any s _ a m (HV.out.below B5.out))
    rw [hlx] at W6
    clear hb4 bw b45 B3 F3 HT3 hTB HR2
    go_wp2_with fail
    refine (W6.out).mono ?_
    rintro e w6 ⟨C, cC, rfl, hS, hb6⟩
    have B6 := Lib.hid (bstep B5.out hb6)
    have F6 := Whole.below F5.out hb6 (Whole.lt F5.out)
    have G6 := Whole.below G5.out hb6 (Whole.lt G5.out)
    have HT6 := Lib.hid (HT5.out.below hb6)
    have HB6 := Lib.hid (HB5.out.below hb6)
    have HS6 := Lib.hid hS
    have f0 := F6.cell 0
    have f1 := F6.cell 1
    have g0 := G6.cell 0
    have g1 := G6.cell 1
    simp only [List.getElem?_toArray, List.getElem?_cons_zero, List.getElem?_cons_succ] at f0 f1 g0 g1
    have S6 := Lib.hid (same_toks A B cp cB T w6 HT6.out HB6.out (by omega))
    have hll : ((T.length - 1 : Nat) : Int) = (T.length : Int) - 1 := by omega
    have HLL := Lib.hid hll
    have hle : (((T.length - 1 : Nat) : Int) != (T.length : Int) - 1) = false := by rw [bne_eq_false_iff_eq]; exact hll
    have x1 : (1 : Int) ≤ (T.length : Int) := by omega
    have x3 : (T.length : Int) ≤ 4001 := by omega
    clear hb6 F6 G6 F5 G5 W6 hlx HT5 HB5 HB6 hS hll B5
    go_wp2_with fail
    refine (S6.out).mono ?_
    rintro e w7 ⟨rfl, k7, rfl⟩
    have B7 := Lib.hid (_root_.Go.Proofs.YtpffechllcnnaaaGreatDoor.below_drewN B6.out k7)
    go_wp2_with fail
    obtain ⟨n, hn⟩ : ∃ n, n = T.length - 1 := ⟨_, rfl⟩
    have hnl : n < T.length := by omega
    rw [← hn] at HS6 ⊢
    clear hn hle x1 h1 HLL
    go_loopg [9] (n + 1) (fun j s9 wr => ∃ i : Nat, i ≤ n ∧ n < i + j ∧ s9 = .int .i64 (i : Nat) ∧ ∃ q, wr = (w6.drewN k7).drewN q)
    case atStart => exact ⟨0, by omega, by omega, rfl, 0, rfl⟩
    case round =>
      obtain ⟨i, hi, hj, rfl, q, rfl⟩ := hrel
      by_cases hlt : i < n
      · have hlt' : (i : Int) < (n : Int) := by omega
        have hi9 : (i : Int) < 4001 := by omega
        have hiT : i < T.length := by omega
        have hiT' : (i : Int) < (T.length : Int) := by omega
        obtain ⟨b, off, hAe, hbl, -, c1, -⟩ := HT6.out i hiT
        subst hAe
        have hi2 : i < (texts (T.take n)).length := by simp [texts]; omega
        obtain ⟨b', off', hCe, hbl', e1⟩ := HS6.out i hi2
        subst hCe
        have hte : (texts (T.take n))[i] = str T[i].text := by simp [texts]
        rw [hte] at e1
        clear hte
        generalize T[i] = x at *
        obtain ⟨xk, xt, xa⟩ := x
        dsimp only at c1 e1
        go_wp2_with fail
        go_quiet (fail)
        go_wp2_with fail
        go_roundg (n - i)
        case measure => omega
        case rel => exact ⟨i + 1, by omega, by omega, by go_num, q + nq, by simp [Nat.add_assoc]⟩
      · have hlt' : ¬ (i : Int) < (n : Int) := by omega
        go_wp2_with fail
        go_ret
        exact ⟨rfl, _root_.Go.Proofs.YtpffechllcnnaaaGreatDoor.below_drewN B6.out (k7 + q)⟩
set_option maxRecDepth 100000 in
theorem tells_long (s : ByteArray) (w : World) (a : Addr) (m : Int) (hv : Env w a m) (hs : 4100 < s.size) :
    Calls Tryz.prog 3 #[.string s] w fun e w' => e = .returned (.bool true) ∧ Below w.heap.size w w' := by
  have AW := Lib.hid (awake_any w a m hv)
  have d1 : decide ((4100 : Int) < (s.size : Int)) = true := by simp; omega
  clear hv hs
  go_enter Tryz.func3, Tryz.ntmps3
  go_wp2_with fail
  refine (AW.out).mono ?_
  rintro e w1 ⟨rfl, hb1⟩
  have B1 := Lib.hid hb1
  clear hb1 AW
  go_wp2
  go_ret
  exact ⟨rfl, B1.out⟩
end Go.Proofs.YtpffechllcnnaaaGreatDoor
