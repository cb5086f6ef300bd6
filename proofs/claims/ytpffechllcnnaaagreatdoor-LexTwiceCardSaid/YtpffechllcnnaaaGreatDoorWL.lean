/- LexTwice, walked. -/
import Derived.Test.YtpffechllcnnaaaGreatDoorWL0
import Derived.Test.YtpffechllcnnaaaGreatDoorRP
namespace Go.Proofs.YtpffechllcnnaaaGreatDoor
open Go.RowKit Go.Lib
set_option linter.unusedVariables false

abbrev fltObj2 (c p : Int) : Obj := .cells #[.int .i64 c, .int .i64 p] 26
theorem str_add (a b : List UInt8) : str a ++ str b = str (a ++ b) := by
  apply ByteArray.ext
  apply Array.ext'
  simp
set_option maxRecDepth 100000 in
set_option maxHeartbeats 2000000 in
theorem twice_any (s : ByteArray) (w : World) (a : Addr) (m : Int) (hv : Env w a m) (hs : s.size ≤ 2000) :
    Calls Tryz.prog 6 #[.string s] w fun e w' => e = .returned (.bool true) ∧ Below w.heap.size w w' := by
  have AW := Lib.hid (awake_any w a m hv)
  have HV := Lib.hid hv
  have hs2 : decide ((2000 : Int) < (s.size : Int)) = false := by simp; omega
  clear hv
  go_enter Tryz.func6, Tryz.ntmps6
  go_wp2_with fail
  refine (AW.out).mono ?_
  rintro e w1 ⟨rfl, hb1⟩
  have B1 := Lib.hid hb1
  have L1 := Lib.hid (lex_any s w1 a m (HV.out.below hb1))
  clear hb1 AW
  cases hlx : Lx.lx s.data.toList with
  | bad c p =>
    have hc := Lx.lx_bad hlx
    have L2 : Hid (Calls Tryz.prog 8 #[.string s] w1 fun e w' => LexBad w1 (c : Nat) (p : Nat) e w') := Lib.hid (by have := L1.out; rw [hlx] at this; exact this)
    have hc1 : ((c : Int) == 0) = false := by rw [beq_eq_false_iff_ne]; omega
    have hc2 : ((c : Int) != 0) = true := by rw [bne_iff_ne]; omega
    clear L1 hlx hc
    go_wp2_with fail
    refine (L2.out).mono ?_
    rintro e w2 ⟨rfl, hb2⟩
    have B2 := Lib.hid (bstep B1.out hb2)
    clear hb2 L2
    go_wp2
    go_ret
    exact ⟨rfl, B2.out.alloc B2.out.size _⟩
  | ok T =>
    have L2 : Hid (Calls Tryz.prog 8 #[.string s] w1 fun e w' => LexOk w1 T e w') := Lib.hid (by have := L1.out; rw [hlx] at this; exact this)
    obtain ⟨A0, hA0, hTl, hTat⟩ := Lx.lx_ok hlx
    rw [list_size] at hTl
    obtain ⟨A, x, hA, hsp, htx, T2, hlx2, hT2l, hT2⟩ := Lx.twice_T hlx (by rw [list_size]; exact hs)
    have hAl : A.length + 1 = T.length := by rw [hA]; simp
    have HAT : Hid (∀ i (h : i < A.length) (h' : i < T.length), T[i] = A[i]) := Lib.hid (fun i h h' => by subst hA; rw [List.getElem_append_left h])
    have HLX2 := Lib.hid hlx2
    have HT2 := Lib.hid hT2
    have HTX := Lib.hid htx
    clear L1 hlx hA0 hTat hA hlx2 hT2 htx A0 x
    go_wp2_with fail
    refine (L2.out).mono ?_
    rintro e w2 ⟨AA, cp, rfl, hcp, hT, hb2, -⟩
    have bw : Below w2.heap.size w2 (w2.alloc (fltObj2 0 0)) := (Below.refl _ _).alloc (Nat.le_refl _) _
    have B3 := Lib.hid (bstep (bstep B1.out hb2) bw)
    have HT3 := Lib.hid (hT.below bw)
    clear hb2 L2 hT bw B1
    go_wp2_with fail
    clear hs2
    generalize w2.alloc (fltObj2 0 0) = w3 at *
    have hT5 : (T.length : Int) ≤ 2001 := by omega
    go_loopg [5, 6] (A.length + 1) (fun j s5 s6 wr => ∃ i : Nat, i ≤ A.length ∧ A.length < i + j ∧ s6 = .int .i64 (i : Nat) ∧ s5 = .string (str (Lx.spell (A.take i))) ∧ Hid (Below w3.heap.size w3 wr))
    case atStart => exact ⟨0, by omega, by omega, rfl, rfl, Lib.hid (Below.refl _ _)⟩
    case round =>
      obtain ⟨i, hi, hj, rfl, rfl, HB⟩ := hrel
      by_cases hlt : i < A.length
      · have hlt' : (i : Int) < (T.length : Int) - 1 := by omega
        have hlt2 : (i : Int) < (T.length : Int) := by omega
        have hi9 : (i : Int) < 5001 := by omega
        have hiT : i < T.length := by omega
        obtain ⟨b, off, hAe, hbl, c0, c1, c2⟩ := (HT3.out.below HB.out) i hiT
        subst hAe
        rw [HAT.out i hlt hiT] at c0 c1
        have h4 := HTX.out i hlt
        have hss := Lx.spell_take_succ A i hlt
        have hle1 := Lx.spell_take_le A (i + 1)
        rw [hss] at hle1
        simp only [List.length_append] at hle1
        have HSS := Lib.hid hss
        clear hss c2
        generalize A[i] = x at *
        obtain ⟨xk, xt, xa⟩ := x
        dsimp only at c0 c1 h4 hle1 HSS
        by_cases hk : xk = 4
        · subst hk
          have R4 := Lib.hid (rp_text (str xt) wr (by rw [str_size]; exact h4 rfl))
          rw [show Lx.spelt 4 xt = quo xt from rfl] at hle1
          have HSS2 : Hid (str (Lx.spell (A.take (i + 1))) = str (Lx.spell (A.take i)) ++ str (quo xt) ++ (⟨#[32]⟩ : ByteArray)) := Lib.hid (by
            rw [HSS.out, show Lx.spelt 4 xt = quo xt from rfl, ← List.append_assoc, ← str_add, ← str_add])
          have hz1 : (str (Lx.spell (A.take i))).size = (Lx.spell (A.take i)).length := str_size _
          have hz2 : (str (quo xt)).size = (quo xt).length := str_size _
          clear HSS h4
          obtain ⟨S1, hS1⟩ : ∃ S1 : ByteArray, S1 = str (Lx.spell (A.take i)) := ⟨_, rfl⟩
          obtain ⟨Q1, hQ1⟩ : ∃ Q1 : ByteArray, Q1 = str (quo xt) := ⟨_, rfl⟩
          rw [← hS1, ← hQ1] at HSS2
          rw [← hS1] at hz1 ⊢
          rw [← hQ1] at hz2 R4
          clear hS1 hQ1
          have z1 : ¬ 9223372036854775807 < S1.size + Q1.size := by omega
          have z2 : ¬ 9223372036854775807 < S1.size + Q1.size + 1 := by omega
          have HZ := Lib.hid (And.intro hz1 hz2)
          clear hz1 hz2
          go_wp2_with fail
          refine (R4.out).mono ?_
          rintro e w4 ⟨rfl, hb4⟩
          have B4 := Lib.hid (bstep HB.out hb4)
          clear hb4 HB R4 c0 c1
          go_wp2_with fail
          go_roundg (A.length - i)
          case measure => omega
          case rel => exact ⟨i + 1, by omega, by omega, by go_num, by rw [HSS2.out], B4⟩
        · have hke : ((xk : Int) == 4) = false := by rw [beq_eq_false_iff_ne]; omega
          have hks : Lx.spelt xk xt = xt := by rw [Lx.spelt, if_neg hk]
          rw [hks] at hle1
          have HSS2 : Hid (str (Lx.spell (A.take (i + 1))) = str (Lx.spell (A.take i)) ++ str xt ++ (⟨#[32]⟩ : ByteArray)) := Lib.hid (by
            rw [HSS.out, hks, ← List.append_assoc, ← str_add, ← str_add])
          have hz1 : (str (Lx.spell (A.take i))).size = (Lx.spell (A.take i)).length := str_size _
          have hz2 : (str xt).size = xt.length := str_size _
          clear HSS h4 hks hk
          obtain ⟨S1, hS1⟩ : ∃ S1 : ByteArray, S1 = str (Lx.spell (A.take i)) := ⟨_, rfl⟩
          rw [← hS1] at HSS2
          rw [← hS1] at hz1 ⊢
          clear hS1
          generalize str xt = Q1 at *
          have z1 : ¬ 9223372036854775807 < S1.size + Q1.size := by omega
          have z2 : ¬ 9223372036854775807 < S1.size + Q1.size + 1 := by omega
          have HZ := Lib.hid (And.intro hz1 hz2)
          clear hz1 hz2
          go_wp2_with fail
          go_roundg (A.length - i)
          case measure => omega
          case rel => exact ⟨i + 1, by omega, by omega, by go_num, by rw [HSS2.out], HB⟩
      · have hlt' : ¬ (i : Int) < (T.length : Int) - 1 := by omega
        have hie : i = A.length := by omega
        have L3 : Hid (Calls Tryz.prog 8 #[.string (str (Lx.spell (A.take i)))] wr fun e w' => LexOk wr T2 e w') := Lib.hid (by
          have := lex_any (str (Lx.spell (A.take i))) wr a m (HV.out.below (bstep B3.out HB.out))
          rw [hie, List.take_length] at this ⊢
          rw [show (str (Lx.spell A)).data.toList = Lx.spell A from rfl, HLX2.out] at this
          exact this)
        clear hie
        generalize str (Lx.spell (A.take i)) = S1 at *
        go_wp2_with fail
        refine (L3.out).mono ?_
        rintro e w5 ⟨BB, cB, rfl, hcB, hTB, hb5, -⟩
        have bw : Below w5.heap.size w5 (w5.alloc (fltObj2 0 0)) := (Below.refl _ _).alloc (Nat.le_refl _) _
        have B6 := Lib.hid (bstep (bstep HB.out hb5) bw)
        have HTA := Lib.hid (HT3.out.below B6.out)
        have HTB := Lib.hid (hTB.below bw)
        have B7 := Lib.hid (bstep B3.out B6.out)
        have hle9 : ((T2.length : Int) != (T.length : Int)) = false := by rw [hT2l]; simp
        clear hTB hb5 bw HB B6 L3 HT3
        rw [hT2l]
        go_wp2_with fail
        generalize w5.alloc (fltObj2 0 0) = wc at *
        go_loopg [10] (T.length + 1) (fun j s10 wr => ∃ i : Nat, i ≤ T.length ∧ T.length < i + j ∧ s10 = .int .i64 (i : Nat) ∧ ∃ q, wr = wc.drewN q)
        case atStart => exact ⟨0, by omega, by omega, rfl, 0, rfl⟩
        case round =>
          obtain ⟨z, hz, hj, rfl, q, rfl⟩ := hrel
          by_cases hlt : z < T.length
          · have hlt' : (z : Int) < (T.length : Int) := by omega
            have hz9 : (z : Int) < 5001 := by omega
            obtain ⟨b1, o1, hA1, hb1, a0, a1, a2⟩ := HTA.out z hlt
            cases hA1
            have hlt2 : z < T2.length := by omega
            obtain ⟨b2, o2, hB2, hb2, g0, g1, g2⟩ := HTB.out z hlt2
            subst hB2
            obtain ⟨r1, r2⟩ := HT2.out z hlt hlt2
            rw [r1] at g0
            rw [r2] at g1
            clear r1 r2 a2 g2
            generalize T[z] = x at *
            obtain ⟨xk, xt, xa⟩ := x
            dsimp only at a0 a1 g0 g1
            go_wp2_with fail
            go_quiet (fail)
            go_wp2_with fail
            go_roundg (T.length - z)
            case measure => omega
            case rel => exact ⟨z + 1, by omega, by omega, by go_num, q + nq, rfl⟩
          · have hlt' : ¬ (z : Int) < (T.length : Int) := by omega
            go_wp2_with fail
            go_ret
            exact ⟨rfl, _root_.Go.Proofs.YtpffechllcnnaaaGreatDoor.below_drewN B7.out q⟩

set_option maxRecDepth 100000 in
/-- LexTwice, for all that comes. -/
theorem lexTwice_all (s : ByteArray) (w : World) (a : Addr) (m : Int) (hv : Env w a m) :
    Calls Tryz.prog 6 #[.string s] w fun e w' => e = .returned (.bool true) ∧ Below w.heap.size w w' := by
  by_cases h : s.size ≤ 2000
  · exact twice_any s w a m hv h
  · have AW := Lib.hid (awake_any w a m hv)
    have d1 : decide ((2000 : Int) < (s.size : Int)) = true := by simp; omega
    clear hv h
    go_enter Tryz.func6, Tryz.ntmps6
    go_wp2_with fail
    refine (AW.out).mono ?_
    rintro e w1 ⟨rfl, hb1⟩
    have B1 := Lib.hid hb1
    clear hb1 AW
    go_wp2
    go_ret
    exact ⟨rfl, B1.out⟩
end Go.Proofs.YtpffechllcnnaaaGreatDoor
