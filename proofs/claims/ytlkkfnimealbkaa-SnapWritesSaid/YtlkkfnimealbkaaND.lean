/- space.takes, space.take, part.piece. -/
import Derived.Test.YtlkkfnimealbkaaNC
namespace Go.Proofs.Ytlkkfnimealbkaa
open Go.RowKit
set_option linter.unusedVariables false
theorem takes_any (s r m : Nat) (hs : 0 < s) (hs2 : s ≤ 250) (hr : r ≤ 1024) (hm : m ≤ 1024) (w : World) :
    Calls Try.prog 38 #[.agg #[.int .i64 (s : Nat), .int .i64 (r : Nat)], .int .i64 (m : Nat)] w fun e w' => e = .returned (.bool (decide (5 + m ≤ r))) ∧ Below w.heap.size w w' := by
  have hsi : (0 : Int) < (s : Int) := by omega
  have hsi2 : (s : Int) ≤ 250 := by omega
  have hri : (r : Int) ≤ 1024 := by omega
  have hmi : (m : Int) ≤ 1024 := by omega
  have e1 : decide (5 + (m : Int) ≤ (r : Int)) = decide (5 + m ≤ r) := by
    by_cases h : 5 + m ≤ r
    · rw [decide_eq_true h, decide_eq_true (by omega)]
    · rw [decide_eq_false h, decide_eq_false (by omega)]
  have BW := Lib.hid (((Below.refl w.heap.size w).alloc (Nat.le_refl _) (.cells #[.int .i64 (s : Nat), .int .i64 (r : Nat)] 85)))
  go_enter Try.func38, Try.ntmps38
  go_wp2_with fail
  go_ret
  exact ⟨rfl, BW.out⟩
theorem take_any (B s r m : Nat) (hs : 0 < s) (hs2 : s ≤ 250) (hr : r ≤ 1024) (hm : 5 + m ≤ r) (w : World) (h : Whole w B 85 #[.int .i64 (s : Nat), .int .i64 (r : Nat)]) :
    Calls Try.prog 39 #[.pointer (some ⟨B, 0, none⟩), .int .i64 (m : Nat)] w fun e w' => (∃ v, e = .returned v) ∧ Whole w' B 85 #[.int .i64 ((s - 1 : Nat) : Int), .int .i64 ((r - 5 - m : Nat) : Int)] ∧ Touch [B] w w' := by
  have hsi : (0 : Int) < (s : Int) := by omega
  have hsi2 : (s : Int) ≤ 250 := by omega
  have hri : (r : Int) ≤ 1024 := by omega
  have hmi : 5 + (m : Int) ≤ (r : Int) := by omega
  have c0 := h.cell 0
  have c1 := h.cell 1
  have f0 := h.frozen 0
  have f1 := h.frozen 1
  simp only [List.getElem?_toArray, List.getElem?_cons_zero, List.getElem?_cons_succ] at c0 c1
  have H := Lib.hid h
  clear h
  have FIN : Hid (Whole ((w.setCell ⟨B, 0, none⟩ (.int .i64 ((s : Int) - 1))).setCell ⟨B, 1, none⟩ (.int .i64 ((r : Int) - (5 + (m : Int))))) B 85 #[.int .i64 ((s - 1 : Nat) : Int), .int .i64 ((r - 5 - m : Nat) : Int)] ∧ Touch [B] w ((w.setCell ⟨B, 0, none⟩ (.int .i64 ((s : Int) - 1))).setCell ⟨B, 1, none⟩ (.int .i64 ((r : Int) - (5 + (m : Int)))))) := by
    refine Lib.hid ⟨?_, ((Touch.refl _ _).setCell (.inl (by simp)) _).setCell (.inl (by simp)) _⟩
    rw [show ((s - 1 : Nat) : Int) = (s : Int) - 1 by omega, show ((r - 5 - m : Nat) : Int) = (r : Int) - (5 + (m : Int)) by omega]
    exact (H.out.set_ 0 _).set_ 1 _
  go_enter Try.func39, Try.ntmps39
  go_wp2_with fail
  go_end0
  exact ⟨⟨_, rfl⟩, FIN.out⟩
theorem piece_any (A : Option Addr) (c : Nat) (x : Pb) (w : World) (h : Holds w A x.b) (hl : x.b.length ≤ 100000) :
    Calls Try.prog 41 #[.agg #[.slice A x.b.length c, .bool x.last]] w fun e w' => ∃ v, e = .returned v ∧ Row w' w.heap.size v x.piece ∧ Below w.heap.size w w' := by
  have H := Lib.hid h
  clear h
  have hxp : x.piece = [if x.last then (0 : UInt8) else 1] ++ x.b := rfl
  have key : ∀ k : UInt8, ∃ v' w2, Sem.run Try.prog (Builtin.append_ #[35, 35] 35 #[.slice (some ⟨w.heap.size + 1, 0, none⟩) 1 1, .slice A x.b.length c]) ((w.alloc (.cells #[.slice A x.b.length c, .bool x.last] 73)).alloc (.cells #[.int .u8 (k.toNat : Nat)] 5)) = .ok v' w2 ∧ Row w2 w.heap.size v' ([k] ++ x.b) ∧ Below w.heap.size w w2 := fun k => by
    have hb2 : Below w.heap.size w ((w.alloc (.cells #[.slice A x.b.length c, .bool x.last] 73)).alloc (.cells #[.int .u8 (k.toNat : Nat)] 5)) := ((Below.refl _ _).alloc (Nat.le_refl _) _).alloc (by simp) _
    have hN := Whole.new (w.alloc (.cells #[.slice A x.b.length c, .bool x.last] 73)) 5 #[.int .u8 (k.toNat : Nat)]
    rw [World.size_alloc] at hN
    have hrow : Row _ w.heap.size (.slice (some ⟨w.heap.size + 1, 0, none⟩) 1 1) [k] := Row.of_block (w := (w.alloc (.cells #[.slice A x.b.length c, .bool x.last] 73)).alloc (.cells #[.int .u8 (k.toNat : Nat)] 5)) (g := w.heap.size + 1) (l := [k]) hN (by omega) (by simp [maxLen])
    obtain ⟨v', w2, hr, ho, hg, -⟩ := append_bytes hrow A c x.b (H.out.below hb2) (by simp; omega) hb2.size
    exact ⟨v', w2, hr, ho, below_grown hb2 hg hrow.block⟩
  cases hx : x.last with
  | true =>
    obtain ⟨v', w2, hr, ho, hb⟩ := key 0
    rw [hx] at hr hxp
    have HR := Lib.hid hr
    have HO : Hid (Row w2 w.heap.size v' x.piece ∧ Below w.heap.size w w2) := Lib.hid ⟨by rw [hxp]; exact ho, hb⟩
    clear hr ho hb key hxp hx H
    go_enter Try.func41, Try.ntmps41
    go_wp2_with (at_builtin; refine Lib.wpList_append_run _ rfl _ _ 35 35 rfl _ _ rfl rfl _ _ HR.out ?_)
    go_ret
    exact ⟨_, rfl, HO.out⟩
  | false =>
    obtain ⟨v', w2, hr, ho, hb⟩ := key 1
    rw [hx] at hr hxp
    have HR := Lib.hid hr
    have HO : Hid (Row w2 w.heap.size v' x.piece ∧ Below w.heap.size w w2) := Lib.hid ⟨by rw [hxp]; exact ho, hb⟩
    clear hr ho hb key hxp hx H
    go_enter Try.func41, Try.ntmps41
    go_wp2_with (at_builtin; refine Lib.wpList_append_run _ rfl _ _ 35 35 rfl _ _ rfl rfl _ _ HR.out ?_)
    go_ret
    exact ⟨_, rfl, HO.out⟩
end Go.Proofs.Ytlkkfnimealbkaa
