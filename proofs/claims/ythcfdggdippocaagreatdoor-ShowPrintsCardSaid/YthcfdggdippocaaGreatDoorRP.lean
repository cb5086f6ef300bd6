/- The reference's Print. -/
import Derived.Test.YthcfdggdippocaaGreatDoorBU
import Derived.Test.YthcfdggdippocaaGreatDoorC5
import Derived.Test.YthcfdggdippocaaGreatDoorM4
import Derived.Deep.LoopGhost
namespace Go.Proofs.YthcfdggdippocaaGreatDoor
open Go.RowKit Go.Lib
set_option linter.unusedVariables false

theorem esc_snoc (c : UInt8) : ∀ l : List UInt8, esc (l ++ [c]) = esc l ++ (if c = 39 then [39, 39] else [c])
  | [] => by by_cases h : c = 39 <;> simp [esc, h]
  | d :: l => by
    rw [List.cons_append]
    simp only [esc]
    rw [esc_snoc c l]
    split <;> simp
theorem Bq.one (w : World) (k n : Int) (s : ByteArray) : Bq w ((w.alloc (.cells #[.int .i64 k, .int .i64 n, .string s] 23)).alloc (.cells #[.int .u8 39] 5)) k n s (w.heap.size + 1) 1 [39] := by
  refine ⟨⟨rfl, .inr ⟨w.heap.size + 1, 1, #[.int .u8 39], rfl, Nat.le_refl _, ?_, Nat.le_refl _, by unfold maxLen; decide, rfl, rfl⟩⟩, (Row3.new w k n s).alloc _, ((Below.refl _ _).alloc (Nat.le_refl _) _).alloc (by simp) _⟩
  have := heap_alloc_new (w.alloc (.cells #[.int .i64 k, .int .i64 n, .string s] 23)) (.cells #[.int .u8 39] 5)
  simpa using this

set_option maxRecDepth 100000 in
theorem rp_null (w : World) : Calls Tryz.prog 26 #[val 0 0 ⟨#[]⟩] w fun e w' => e = .returned (.string ⟨#[110, 117, 108, 108]⟩) ∧ Below w.heap.size w w' := by
  go_enter Tryz.func26, Tryz.ntmps26
  go_wp2
  go_ret
  exact ⟨rfl, (Below.refl _ _).alloc (Nat.le_refl _) _⟩

set_option maxRecDepth 100000 in
theorem rp_true (w : World) : Calls Tryz.prog 26 #[val 3 1 ⟨#[]⟩] w fun e w' => e = .returned (.string ⟨#[116, 114, 117, 101]⟩) ∧ Below w.heap.size w w' := by
  go_enter Tryz.func26, Tryz.ntmps26
  go_wp2
  go_ret
  exact ⟨rfl, (Below.refl _ _).alloc (Nat.le_refl _) _⟩

set_option maxRecDepth 100000 in
theorem rp_false (w : World) : Calls Tryz.prog 26 #[val 3 0 ⟨#[]⟩] w fun e w' => e = .returned (.string ⟨#[102, 97, 108, 115, 101]⟩) ∧ Below w.heap.size w w' := by
  go_enter Tryz.func26, Tryz.ntmps26
  go_wp2
  go_ret
  exact ⟨rfl, (Below.refl _ _).alloc (Nat.le_refl _) _⟩

set_option maxRecDepth 100000 in
theorem rp_int (n : Int) (w : World) (hn : Fits n) : Calls Tryz.prog 26 #[val 1 n ⟨#[]⟩] w fun e w' => e = .returned (.string (str (itoa n))) ∧ Below w.heap.size w w' := by
  have P := Lib.hid (fun w => refprint_any n w hn)
  clear hn
  go_enter Tryz.func26, Tryz.ntmps26
  go_wp2_with fail
  refine (P.out _).mono ?_
  rintro e w1 ⟨rfl, hb1⟩
  have B1 := Lib.hid (bstep ((Below.refl _ _).alloc (Nat.le_refl _) _) hb1)
  clear hb1
  go_wp2
  go_ret
  exact ⟨rfl, B1.out⟩

set_option maxRecDepth 100000 in
set_option maxHeartbeats 1000000 in
theorem rp_text (s : ByteArray) (w : World) (hs : s.size ≤ 200) : Calls Tryz.prog 26 #[val 2 0 s] w fun e w' => e = .returned (.string (str (quo s.data.toList))) ∧ Below w.heap.size w w' := by
  go_enter Tryz.func26, Tryz.ntmps26
  go_wp2
  have L0 := Lib.hid (Bq.one w 2 0 s)
  go_loopg [3, 4] s.size (fun j s3 s4 wr => ∃ (i : Nat) (acc : List UInt8) (g cap : Nat), i + j = s.size ∧ s4 = .int .i64 (i : Nat) ∧ s3 = .slice (some ⟨g, 0, none⟩) acc.length cap ∧ acc.length ≤ 2 * i + 1 ∧ Hid (acc = 39 :: esc (s.data.toList.take i)) ∧ Bq w wr 2 0 s g cap acc)
  case atStart => exact ⟨0, [39], w.heap.size + 1, 1, by omega, rfl, rfl, by simp, Lib.hid (by simp [esc]), L0.out⟩
  case round =>
    obtain ⟨i, acc, g, cap, hij, rfl, rfl, hal, U, hB⟩ := hrel
    have M := Lib.hid hB
    have HIJ := Lib.hid hij
    clear hB L0
    have ls : s.data.toList.length = s.size := by simp
    have LS := Lib.hid ls
    clear ls
    obtain ⟨d1, d2, d3⟩ := M.out.q.holds
    by_cases hi : i < s.size
    · have hii : (i : Int) < (s.size : Int) := by omega
      have hil : i < s.data.toList.length := by rw [LS.out]; exact hi
      have TK : Hid (s.data.toList.take (i + 1) = s.data.toList.take i ++ [s.data.toList[i]]) := Lib.hid (List.take_succ_eq_append_getElem hil)
      by_cases hc : (s[i].toNat : Int) = 39
      · have gc : ((s[i].toNat : Int) == 39) = true := by simpa using hc
        have he : s.data.toList[i] = 39 := by
          rw [← getD s i hi]; exact UInt8.toNat_inj.1 (by simpa using (by omega : s[i].toNat = 39))
        have HE := Lib.hid he
        have HC := Lib.hid hc
        clear he hc
        obtain ⟨g1, cap1, W1, hrun1, hB1⟩ := M.out.add 39 39 rfl (by omega)
        have HR1 := Lib.hid hrun1
        have M1 := Lib.hid hB1
        clear hrun1 hB1 hij
        obtain ⟨g2, cap2, W2, hrun2, hB2⟩ := M1.out.add 39 (s[i].toNat : Int) HC.out (by simp; omega)
        rw [show (acc ++ [39] : List UInt8).length = acc.length + 1 by simp] at hrun2
        have HR2 := Lib.hid hrun2
        have M2 := Lib.hid hB2
        clear hrun2 hB2
        obtain ⟨x1, x2, x3⟩ := M1.out.q.holds
        go_wp2_with (first | (at_builtin; refine Lib.wpList_append_run (o := ⟨some 34, _, _, _, _, _⟩) _ rfl _ _ 45 45 rfl _ _ rfl rfl _ _ HR1.out ?_) | (at_builtin; refine Lib.wpList_append_run (o := ⟨some 41, _, _, _, _, _⟩) _ rfl _ _ 45 45 rfl _ _ rfl rfl _ _ HR2.out ?_))
        go_roundg (s.size - (i + 1))
        case measure => have := HIJ.out; omega
        case rel => exact ⟨i + 1, acc ++ [39] ++ [39], g2, cap2, by have := HIJ.out; omega, by go_num, by simp, by simp; omega, Lib.hid (by rw [TK.out, esc_snoc, if_pos HE.out, U.out]; simp), M2.out⟩
      · have gc : ((s[i].toNat : Int) == 39) = false := by simpa using hc
        have hne : s.data.toList[i] ≠ 39 := by
          rw [← getD s i hi]; intro e; apply hc; rw [e]; rfl
        have HN := Lib.hid hne
        obtain ⟨g1, cap1, W1, hrun1, hB1⟩ := M.out.add (s.data.toList[i]) (s[i].toNat : Int) (by rw [getD s i hi]) (by omega)
        have HR1 := Lib.hid hrun1
        have M1 := Lib.hid hB1
        clear hrun1 hB1 hij hne hc
        go_wp2_with (at_builtin; refine Lib.wpList_append_run _ rfl _ _ 45 45 rfl _ _ rfl rfl _ _ HR1.out ?_)
        go_roundg (s.size - (i + 1))
        case measure => have := HIJ.out; omega
        case rel => exact ⟨i + 1, acc ++ [s.data.toList[i]], g1, cap1, by have := HIJ.out; omega, by go_num, by simp, by simp; omega, Lib.hid (by rw [TK.out, esc_snoc, if_neg HN.out, U.out]; simp), M1.out⟩
    · have TK : Hid (s.data.toList.take i = s.data.toList) := Lib.hid (List.take_of_length_le (by rw [LS.out]; omega))
      have hii : ¬ (i : Int) < (s.size : Int) := by omega
      obtain ⟨g1, cap1, W1, hrun1, hB1⟩ := M.out.add 39 39 rfl (by omega)
      have HR1 := Lib.hid hrun1
      have M1 := Lib.hid hB1
      clear hrun1 hB1 hij
      have CV := M1.out.text
      rw [show (acc ++ [39] : List UInt8).length = acc.length + 1 by simp] at CV
      go_wp2_with (at_builtin; refine Lib.wpList_append_run _ rfl _ _ 45 45 rfl _ _ rfl rfl _ _ HR1.out ?_)
      go_ret
      exact ⟨retS (by rw [U.out, TK.out]; simp [quo]), M1.out.b⟩
end Go.Proofs.YthcfdggdippocaaGreatDoor
