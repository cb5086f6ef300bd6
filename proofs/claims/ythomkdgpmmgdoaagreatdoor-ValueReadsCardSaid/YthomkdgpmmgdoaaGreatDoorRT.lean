/- The reference's Read of a text in marks. -/
import Derived.Test.YthomkdgpmmgdoaaGreatDoorRR
import Derived.Deep.LoopGhost
import Derived.Lib.AppendZeros
namespace Go.Proofs.YthomkdgpmmgdoaaGreatDoor
open Go.RowKit Go.Lib
set_option linter.unusedVariables false

theorem Buf.drewN {w W : World} {g cap : Nat} {acc : List UInt8} (h : Buf w W g cap acc) (n : Nat) : Buf w (W.drewN n) g cap acc := ⟨h.own, h.q, ⟨h.b.os, h.b.tape, h.b.output, h.b.size, h.b.block⟩⟩
theorem Buf.start (w : World) : Buf w ((w.alloc (.cells #[.int .i64 0, .int .i64 0, .string ⟨#[]⟩] 24)).alloc (.cells #[] 5)) (w.heap.size + 1) 0 [] := by
  refine ⟨⟨rfl, .inr ⟨w.heap.size + 1, 0, #[], rfl, Nat.le_refl _, ?_, Nat.le_refl _, Nat.zero_le _, rfl, rfl⟩⟩, (Row3.new w 0 0 ⟨#[]⟩).alloc _, ((Below.refl _ _).alloc (Nat.le_refl _) _).alloc (by simp) _⟩
  have := heap_alloc_new (w.alloc (.cells #[.int .i64 0, .int .i64 0, .string ⟨#[]⟩] 24)) (.cells #[] 5)
  simpa using this
theorem getD (s : ByteArray) (j : Nat) (h : j < s.size) : s[j] = s.data.toList[j]'(by simpa using h) := by simp; rfl

set_option maxRecDepth 100000 in
set_option maxHeartbeats 2000000 in
theorem rr_text (s : ByteArray) (w : World) (hs : s.size ≤ 600) (h1 : (s.toList == [110, 117, 108, 108]) = false) (h2 : (s.toList == [116, 114, 117, 101]) = false) (h3 : (s.toList == [102, 97, 108, 115, 101]) = false) (h0 : 0 < s.size) (hm : (s[0].toNat : Int) = 39) :
    Calls Tryz.prog 6 #[.string s] w fun e w' => e = .returned (out (toldText s.data.toList)) ∧ Below w.heap.size w w' := by
  have g0 : decide (0 < (s.size : Int)) = true := decide_eq_true (by omega)
  have g1 : ((s[0].toNat : Int) == 39) = true := by simpa using hm
  obtain ⟨T, hT⟩ : ∃ T, toldText s.data.toList = T := ⟨_, rfl⟩
  rw [hT]
  have HT := Lib.hid hT
  clear hT hm
  go_enter Tryz.func6, Tryz.ntmps6
  go_wp2
  have L0 := Lib.hid (Buf.start w)
  go_loopg [4, 5] (s.size - 1) (fun j s4 s5 wr => ∃ (i : Nat) (acc : List UInt8) (g cap : Nat), i + j = s.size ∧ s5 = .int .i64 (i : Nat) ∧ s4 = .slice (some ⟨g, 0, none⟩) acc.length cap ∧ acc.length ≤ i ∧ Hid (unq s.data.toList.tail = (unq (s.data.toList.drop i)).map (acc ++ ·)) ∧ Buf w wr g cap acc)
  case atStart => exact ⟨1, [], w.heap.size + 1, 0, by omega, rfl, rfl, by simp, Lib.hid (by cases s.data.toList <;> simp), L0.out⟩
  case round =>
    obtain ⟨i, acc, g, cap, hij, rfl, rfl, hal, U, hB⟩ := hrel
    have M := Lib.hid hB
    have HIJ := Lib.hid hij
    clear hB L0
    have ls : s.data.toList.length = s.size := by simp
    have LS := Lib.hid ls
    clear ls
    by_cases hi : i < s.size
    · have hii : (i : Int) < (s.size : Int) := by omega
      have hil : i < s.data.toList.length := by rw [LS.out]; exact hi
      by_cases hc : (s[i].toNat : Int) = 39
      · have gc : ((s[i].toNat : Int) == 39) = true := by simpa using hc
        have he : s.data.toList[i] = 39 := by
          rw [← getD s i hi]; exact UInt8.toNat_inj.1 (by simpa using (by omega : s[i].toNat = 39))
        have HE := Lib.hid he
        clear he hc
        have sub1 : IntKind.i64.wrap ((s.size : Int) - 1) = (s.size : Int) - 1 := by rw [IntKind.wrap_i64]; omega
        by_cases hl : i + 1 = s.size
        · have hlast : ((i : Int) == (s.size : Int) - 1) = true := by rw [beq_iff_eq]; omega
          have UL := Lib.hid (unq_last U.out (by rw [LS.out]; exact hl) HE.out)
          by_cases hb2 : (200 : Int) < (acc.length : Int)
          · have TE : Hid (T = ⟨0, 0, [], 7⟩) := Lib.hid (by rw [← HT.out]; exact toldText_long UL.out (by omega))
            have RM := Lib.hid M.out.q
            have BM := Lib.hid M.out.b
            clear M hij
            obtain ⟨d1, d2, d3⟩ := RM.out.holds
            have f0 := RM.out.frozen 0
            have f1 := RM.out.frozen 1
            have f2 := RM.out.frozen 2
            go_wp2
            have hb := (((BM.out).setCell (p := ⟨w.heap.size, 0, none⟩) (Nat.le_refl _) (.int .i64 0)).setCell (p := ⟨w.heap.size, 1, none⟩) (Nat.le_refl _) (.int .i64 0)).setCell (p := ⟨w.heap.size, 2, none⟩) (Nat.le_refl _) (.string ⟨#[]⟩)
            have hq := RM.out.set3 0 0 ⟨#[]⟩
            generalize ((wr.setCell ⟨w.heap.size, 0, none⟩ (.int .i64 0)).setCell ⟨w.heap.size, 1, none⟩ (.int .i64 0)).setCell ⟨w.heap.size, 2, none⟩ (.string ⟨#[]⟩) = W at hb hq ⊢
            obtain ⟨q1, q2, q3⟩ := hq.holds
            exact bodyPost_ret (v := .tuple #[val 0 0 ⟨#[]⟩, .int .i64 7]) (by simp [results, Tryz.results6, go_sem, q1, q2, q3]) rfl ⟨by rw [TE.out], hb⟩
          · have TE : Hid (T = ⟨2, 0, acc, 0⟩) := Lib.hid (by rw [← HT.out]; exact toldText_some UL.out (by omega))
            have CV := M.out.text
            have hb2' : decide ((200 : Int) < (acc.length : Int)) = false := decide_eq_false hb2
            have RM := Lib.hid M.out.q
            have BM := Lib.hid M.out.b
            clear M hij
            obtain ⟨d1, d2, d3⟩ := RM.out.holds
            have f0 := RM.out.frozen 0
            have f1 := RM.out.frozen 1
            have f2 := RM.out.frozen 2
            go_wp2
            have hb := (((BM.out).setCell (p := ⟨w.heap.size, 0, none⟩) (Nat.le_refl _) (.int .i64 2)).setCell (p := ⟨w.heap.size, 1, none⟩) (Nat.le_refl _) (.int .i64 0)).setCell (p := ⟨w.heap.size, 2, none⟩) (Nat.le_refl _) (.string (str acc))
            have hq := RM.out.set3 2 0 (str acc)
            generalize ((wr.setCell ⟨w.heap.size, 0, none⟩ (.int .i64 2)).setCell ⟨w.heap.size, 1, none⟩ (.int .i64 0)).setCell ⟨w.heap.size, 2, none⟩ (.string (str acc)) = W at hb hq ⊢
            obtain ⟨q1, q2, q3⟩ := hq.holds
            exact bodyPost_ret (v := .tuple #[val 2 0 (str acc), .int .i64 0]) (by simp [results, Tryz.results6, go_sem, q1, q2, q3]) rfl ⟨by rw [TE.out], hb⟩
        · have hlast : ((i : Int) == (s.size : Int) - 1) = false := by rw [beq_eq_false_iff_ne]; omega
          have hi1 : i + 1 < s.size := by omega
          have hi1' : i + 1 < s.data.toList.length := by rw [LS.out]; exact hi1
          have hii1 : (i : Int) + 1 < (s.size : Int) := by omega
          by_cases hd : (s[i + 1].toNat : Int) = 39
          · have gd : ((s[i + 1].toNat : Int) == 39) = true := by simpa using hd
            have hde : s.data.toList[i + 1] = 39 := by
              rw [← getD s (i + 1) hi1]; exact UInt8.toNat_inj.1 (by simpa using (by omega : s[i + 1].toNat = 39))
            have U2 := Lib.hid (unq_two U.out hi1' HE.out hde)
            obtain ⟨g', cap', W', hrun, hB'⟩ := M.out.add 39 39 rfl (by omega)
            have HR := Lib.hid hrun
            have M' := Lib.hid hB'
            clear hrun hB' hde hd hij
            go_wp2_with (at_builtin; refine Lib.wpList_append_run _ rfl _ _ 34 34 rfl _ _ rfl rfl _ _ HR.out ?_)
            go_roundg (s.size - (i + 2))
            case measure => have := HIJ.out; omega
            case rel => exact ⟨i + 2, acc ++ [39], g', cap', by have := HIJ.out; omega, by go_num, by simp, by simp; omega, U2, M'.out⟩
          · have gd : ((s[i + 1].toNat : Int) == 39) = false := by simpa using hd
            have hdn : s.data.toList[i + 1] ≠ 39 := by
              rw [← getD s (i + 1) hi1]; intro e; apply hd; rw [e]; rfl
            have UB := Lib.hid (unq_bad U.out hi1' HE.out hdn)
            have TE : Hid (T = ⟨0, 0, [], 7⟩) := Lib.hid (by rw [← HT.out]; exact toldText_none UB.out)
            clear hdn hd
            have RM := Lib.hid M.out.q
            have BM := Lib.hid M.out.b
            clear M hij
            obtain ⟨d1, d2, d3⟩ := RM.out.holds
            have f0 := RM.out.frozen 0
            have f1 := RM.out.frozen 1
            have f2 := RM.out.frozen 2
            go_wp2
            have hb := (((BM.out).setCell (p := ⟨w.heap.size, 0, none⟩) (Nat.le_refl _) (.int .i64 0)).setCell (p := ⟨w.heap.size, 1, none⟩) (Nat.le_refl _) (.int .i64 0)).setCell (p := ⟨w.heap.size, 2, none⟩) (Nat.le_refl _) (.string ⟨#[]⟩)
            have hq := RM.out.set3 0 0 ⟨#[]⟩
            generalize ((wr.setCell ⟨w.heap.size, 0, none⟩ (.int .i64 0)).setCell ⟨w.heap.size, 1, none⟩ (.int .i64 0)).setCell ⟨w.heap.size, 2, none⟩ (.string ⟨#[]⟩) = W at hb hq ⊢
            obtain ⟨q1, q2, q3⟩ := hq.holds
            exact bodyPost_ret (v := .tuple #[val 0 0 ⟨#[]⟩, .int .i64 7]) (by simp [results, Tryz.results6, go_sem, q1, q2, q3]) rfl ⟨by rw [TE.out], hb⟩
      · have gc : ((s[i].toNat : Int) == 39) = false := by simpa using hc
        have hne : s.data.toList[i] ≠ 39 := by
          rw [← getD s i hi]; intro e; apply hc; rw [e]; rfl
        have U2 := Lib.hid (unq_go U.out hil hne)
        obtain ⟨g', cap', W', hrun, hB'⟩ := M.out.add (s.data.toList[i]) (s[i].toNat : Int) (by rw [getD s i hi]) (by omega)
        have HR := Lib.hid hrun
        have M' := Lib.hid hB'
        clear hrun hB' hne hc hij
        go_wp2_with (at_builtin; refine Lib.wpList_append_run _ rfl _ _ 34 34 rfl _ _ rfl rfl _ _ HR.out ?_)
        go_roundg (s.size - (i + 1))
        case measure => have := HIJ.out; omega
        case rel => exact ⟨i + 1, acc ++ [s.data.toList[i]], g', cap', by have := HIJ.out; omega, by go_num, by simp, by simp; omega, U2, M'.out⟩
    · have UE := Lib.hid (unq_end U.out (by rw [LS.out]; omega))
      have TE : Hid (T = ⟨0, 0, [], 7⟩) := Lib.hid (by rw [← HT.out]; exact toldText_none UE.out)
      have hii : ¬ (i : Int) < (s.size : Int) := by omega
      have RM := Lib.hid M.out.q
      have BM := Lib.hid M.out.b
      clear M hij
      obtain ⟨d1, d2, d3⟩ := RM.out.holds
      have f0 := RM.out.frozen 0
      have f1 := RM.out.frozen 1
      have f2 := RM.out.frozen 2
      go_wp2
      have hb := (((BM.out).setCell (p := ⟨w.heap.size, 0, none⟩) (Nat.le_refl _) (.int .i64 0)).setCell (p := ⟨w.heap.size, 1, none⟩) (Nat.le_refl _) (.int .i64 0)).setCell (p := ⟨w.heap.size, 2, none⟩) (Nat.le_refl _) (.string ⟨#[]⟩)
      have hq := RM.out.set3 0 0 ⟨#[]⟩
      generalize ((wr.setCell ⟨w.heap.size, 0, none⟩ (.int .i64 0)).setCell ⟨w.heap.size, 1, none⟩ (.int .i64 0)).setCell ⟨w.heap.size, 2, none⟩ (.string ⟨#[]⟩) = W at hb hq ⊢
      obtain ⟨q1, q2, q3⟩ := hq.holds
      exact bodyPost_ret (v := .tuple #[val 0 0 ⟨#[]⟩, .int .i64 7]) (by simp [results, Tryz.results6, go_sem, q1, q2, q3]) rfl ⟨by rw [TE.out], hb⟩
end Go.Proofs.YthomkdgpmmgdoaaGreatDoor
