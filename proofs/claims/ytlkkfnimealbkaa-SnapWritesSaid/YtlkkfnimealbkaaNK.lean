/- partOf, partIn, pageIn. -/
import Derived.Test.YtlkkfnimealbkaaNJ
namespace Go.Proofs.Ytlkkfnimealbkaa
open Go.RowKit
open Pag (Pg PgAt IsPage HF)
set_option linter.unusedVariables false
/-- what is told of a piece: the part's bytes, whether it is a record's last, the error. -/
structure Tb where
  b : List UInt8
  last : Bool
  e : Int
def tellK : List UInt8 → Tb
  | [] => ⟨[], false, 7⟩
  | k :: b => if k = 0 then ⟨b, true, 0⟩ else if k = 1 then ⟨b, false, 0⟩ else ⟨[], false, 7⟩
theorem results_cs {fn : Func} {p q : Tmp} (h : fn.results = #[.cell p 73, .tmp q]) (tmps : Array Value) (w : World) (g : Nat) (v u z : Value)
    (hp : tmps.getD p undef = .pointer (some ⟨g, 0, none⟩)) (hq : tmps.getD q undef = z) (hg : Whole w g 73 #[v, u]) :
    (results fn tmps).run Try.prog w = .ok (.tuple #[.agg #[v, u], z]) w := by
  have hp' : tmps[p]?.getD undef = .pointer (some ⟨g, 0, none⟩) := by simpa using hp
  have hq' : tmps[q]?.getD undef = z := by simpa using hq
  have h0 := hg.cell 0
  have h1 := hg.cell 1
  simp only [List.getElem?_toArray, List.getElem?_cons_zero, List.getElem?_cons_succ] at h0 h1
  simp [results, h, hp', hq', asAddr, go_sem, h0, h1]
set_option maxRecDepth 100000 in
set_option maxHeartbeats 8000000 in
theorem partOf_any (A : Option Addr) (c : Nat) (k : UInt8) (b : List UInt8) (w : World) (h : Holds w A (k :: b)) (hc : b.length + 1 ≤ c) (hl : b.length ≤ 100000) :
    Calls Try.prog 57 #[.slice A (b.length + 1) c] w fun e w' => ∃ B c', e = .returned (.tuple #[.agg #[.slice B b.length c', .bool (k == 0)], .bool (k == 0 || k == 1)]) ∧ Holds w' B b ∧ Below w.heap.size w w' := by
  obtain ⟨g, o, rfl, hlt, hcell⟩ := h 0 (by simp)
  have hd := h.drop 1 c (by simpa using hc)
  simp only [List.drop_succ_cons, List.drop_zero] at hd
  simp only [Nat.add_zero, List.getElem_cons_zero] at hcell
  have HD := Lib.hid hd
  have hli : (b.length : Int) ≤ 100000 := by omega
  have hci : (b.length : Int) + 1 ≤ (c : Int) := by omega
  clear h hd
  by_cases hc1 : c = 1
  · have hce : (c = 1) = True := eq_true hc1
    rw [if_pos hc1] at HD
    clear hc1
    by_cases hk : k = 0
    · have hz : ((k.toNat : Int) == 0) = true := by rw [hk]; rfl
      have HK : Hid ((k == 0) = true ∧ (k == 0 || k == 1) = true) := Lib.hid (by rw [hk]; exact ⟨rfl, rfl⟩)
      clear hk
      go_enter Try.func57, Try.ntmps57
      go_wp2_with fail
      refine Code.wp_mono (Q := fun ex a1 w1 => match ex with | .normal => ∃ v9, a1 = { tmps := #[.slice (some ⟨g, o, none⟩) (b.length + 1) c, undef, .pointer (some ⟨w.heap.size, 0, none⟩), .bool false, .pointer (some ⟨w.heap.size + 1, 0, none⟩), .slice (some ⟨g, o, none⟩) (b.length + 1) c, .slice (some ⟨g, o, none⟩) b.length (c - 1), .slice (some ⟨g, o, none⟩) (b.length + 1) c, .pointer (some ⟨g, o, none⟩), v9, .bool true, .agg #[.slice (some ⟨g, o, none⟩) b.length (c - 1), .bool true], undef, undef, undef, undef, undef, undef, undef, undef, undef], defers := [] } ∧ w1 = ((w.alloc (.cells #[.slice none 0 0, .bool false] 73)).alloc (.cells #[.slice (some ⟨g, o, none⟩) b.length (c - 1), .bool true] 73)).drew | _ => False) ?_ ?_
      case refine_2 =>
        go_region_with (fail)
        all_goals exact ⟨_, rfl, rfl⟩
      intro ex a1 w1 hq
      cases ex with
      | normal =>
        obtain ⟨v9, rfl, rfl⟩ := hq
        try dsimp only
        have n0 : Whole (((w.alloc (.cells #[.slice none 0 0, .bool false] 73)).alloc (.cells #[.slice (some ⟨g, o, none⟩) b.length (c - 1), .bool true] 73)).drew) w.heap.size 73 #[.slice none 0 0, .bool false] := ((Whole.new w _ _).alloc _).drew
        have n1 : Whole (((w.alloc (.cells #[.slice none 0 0, .bool false] 73)).alloc (.cells #[.slice (some ⟨g, o, none⟩) b.length (c - 1), .bool true] 73)).drew) (w.heap.size + 1) 73 #[.slice (some ⟨g, o, none⟩) b.length (c - 1), .bool true] := by
          have := (Whole.new (w.alloc (.cells #[.slice none 0 0, .bool false] 73)) 73 #[.slice (some ⟨g, o, none⟩) b.length (c - 1), .bool true]).drew
          rwa [World.size_alloc] at this
        have nb : Below w.heap.size w (((w.alloc (.cells #[.slice none 0 0, .bool false] 73)).alloc (.cells #[.slice (some ⟨g, o, none⟩) b.length (c - 1), .bool true] 73)).drew) := (((Below.refl _ _).alloc (Nat.le_refl _) _).alloc (by simp) _).drew
        have hcell2 := (nb.cell (p := ⟨g, o, none⟩) hlt).trans hcell
        generalize ((w.alloc (.cells #[.slice none 0 0, .bool false] 73)).alloc (.cells #[.slice (some ⟨g, o, none⟩) b.length (c - 1), .bool true] 73)).drew = V at *
        have x0 := n1.cell 0
        have x1 := n1.cell 1
        have y0 := n0.cell 0
        have y1 := n0.cell 1
        have f0 := n0.frozen 0
        have f1 := n0.frozen 1
        simp only [List.getElem?_toArray, List.getElem?_cons_zero, List.getElem?_cons_succ] at x0 x1 y0 y1
        have FIN : Hid (Whole (((V.setCell ⟨w.heap.size, 0, none⟩ (.slice (some ⟨g, o, none⟩) b.length (c - 1))).setCell ⟨w.heap.size, 1, none⟩ (.bool true)).drew) w.heap.size 73 #[.slice (some ⟨g, o, none⟩) b.length (c - 1), .bool true] ∧ Below w.heap.size w (((V.setCell ⟨w.heap.size, 0, none⟩ (.slice (some ⟨g, o, none⟩) b.length (c - 1))).setCell ⟨w.heap.size, 1, none⟩ (.bool true)).drew)) := Lib.hid ⟨((n0.set_ 0 _).set_ 1 _).drew, ((nb.setCell (p := ⟨w.heap.size, 0, none⟩) (Nat.le_refl _) _).setCell (p := ⟨w.heap.size, 1, none⟩) (Nat.le_refl _) _).drew⟩
        clear hcell n0 n1 nb
        go_wp2_with fail
        go_region
        all_goals
          generalize (((V.setCell ⟨w.heap.size, 0, none⟩ (.slice (some ⟨g, o, none⟩) b.length (c - 1))).setCell ⟨w.heap.size, 1, none⟩ (.bool true)).drew) = V2 at *
          go_wp2_with fail
          refine bodyPost_ret (results_cs rfl _ _ w.heap.size (.slice (some ⟨g, o, none⟩) b.length (c - 1)) (.bool true) (.bool true) rfl rfl FIN.out.1) rfl ?_
          exact ⟨_, _, by rw [HK.out.2, HK.out.1], HD.out.below FIN.out.2, FIN.out.2⟩
      | _ => exact hq.elim
    · by_cases hk1 : k = 1
      · have hz : ((k.toNat : Int) == 0) = false := by rw [hk1]; rfl
        have hz1 : ((k.toNat : Int) == 1) = true := by rw [hk1]; rfl
        have HK : Hid ((k == 0) = false ∧ (k == 0 || k == 1) = true) := Lib.hid (by rw [hk1]; exact ⟨rfl, rfl⟩)
        clear hk hk1
        go_enter Try.func57, Try.ntmps57
        go_wp2_with fail
        refine Code.wp_mono (Q := fun ex a1 w1 => match ex with | .normal => ∃ v9, a1 = { tmps := #[.slice (some ⟨g, o, none⟩) (b.length + 1) c, undef, .pointer (some ⟨w.heap.size, 0, none⟩), .bool false, .pointer (some ⟨w.heap.size + 1, 0, none⟩), .slice (some ⟨g, o, none⟩) (b.length + 1) c, .slice (some ⟨g, o, none⟩) b.length (c - 1), .slice (some ⟨g, o, none⟩) (b.length + 1) c, .pointer (some ⟨g, o, none⟩), v9, .bool false, .agg #[.slice (some ⟨g, o, none⟩) b.length (c - 1), .bool false], undef, undef, undef, undef, undef, undef, undef, undef, undef], defers := [] } ∧ w1 = ((w.alloc (.cells #[.slice none 0 0, .bool false] 73)).alloc (.cells #[.slice (some ⟨g, o, none⟩) b.length (c - 1), .bool false] 73)).drew | _ => False) ?_ ?_
        case refine_2 =>
          go_region_with (fail)
          all_goals exact ⟨_, rfl, rfl⟩
        intro ex a1 w1 hq
        cases ex with
        | normal =>
          obtain ⟨v9, rfl, rfl⟩ := hq
          try dsimp only
          have n0 : Whole (((w.alloc (.cells #[.slice none 0 0, .bool false] 73)).alloc (.cells #[.slice (some ⟨g, o, none⟩) b.length (c - 1), .bool false] 73)).drew) w.heap.size 73 #[.slice none 0 0, .bool false] := ((Whole.new w _ _).alloc _).drew
          have n1 : Whole (((w.alloc (.cells #[.slice none 0 0, .bool false] 73)).alloc (.cells #[.slice (some ⟨g, o, none⟩) b.length (c - 1), .bool false] 73)).drew) (w.heap.size + 1) 73 #[.slice (some ⟨g, o, none⟩) b.length (c - 1), .bool false] := by
            have := (Whole.new (w.alloc (.cells #[.slice none 0 0, .bool false] 73)) 73 #[.slice (some ⟨g, o, none⟩) b.length (c - 1), .bool false]).drew
            rwa [World.size_alloc] at this
          have nb : Below w.heap.size w (((w.alloc (.cells #[.slice none 0 0, .bool false] 73)).alloc (.cells #[.slice (some ⟨g, o, none⟩) b.length (c - 1), .bool false] 73)).drew) := (((Below.refl _ _).alloc (Nat.le_refl _) _).alloc (by simp) _).drew
          have hcell2 := (nb.cell (p := ⟨g, o, none⟩) hlt).trans hcell
          generalize ((w.alloc (.cells #[.slice none 0 0, .bool false] 73)).alloc (.cells #[.slice (some ⟨g, o, none⟩) b.length (c - 1), .bool false] 73)).drew = V at *
          have x0 := n1.cell 0
          have x1 := n1.cell 1
          have y0 := n0.cell 0
          have y1 := n0.cell 1
          have f0 := n0.frozen 0
          have f1 := n0.frozen 1
          simp only [List.getElem?_toArray, List.getElem?_cons_zero, List.getElem?_cons_succ] at x0 x1 y0 y1
          have FIN : Hid (Whole (((V.setCell ⟨w.heap.size, 0, none⟩ (.slice (some ⟨g, o, none⟩) b.length (c - 1))).setCell ⟨w.heap.size, 1, none⟩ (.bool false)).drew) w.heap.size 73 #[.slice (some ⟨g, o, none⟩) b.length (c - 1), .bool false] ∧ Below w.heap.size w (((V.setCell ⟨w.heap.size, 0, none⟩ (.slice (some ⟨g, o, none⟩) b.length (c - 1))).setCell ⟨w.heap.size, 1, none⟩ (.bool false)).drew)) := Lib.hid ⟨((n0.set_ 0 _).set_ 1 _).drew, ((nb.setCell (p := ⟨w.heap.size, 0, none⟩) (Nat.le_refl _) _).setCell (p := ⟨w.heap.size, 1, none⟩) (Nat.le_refl _) _).drew⟩
          clear hcell n0 n1 nb
          go_wp2_with fail
          go_region
          all_goals
            generalize (((V.setCell ⟨w.heap.size, 0, none⟩ (.slice (some ⟨g, o, none⟩) b.length (c - 1))).setCell ⟨w.heap.size, 1, none⟩ (.bool false)).drew) = V2 at *
            go_wp2_with fail
            refine bodyPost_ret (results_cs rfl _ _ w.heap.size (.slice (some ⟨g, o, none⟩) b.length (c - 1)) (.bool false) (.bool true) rfl rfl FIN.out.1) rfl ?_
            exact ⟨_, _, by rw [HK.out.2, HK.out.1], HD.out.below FIN.out.2, FIN.out.2⟩
        | _ => exact hq.elim
      · have hz : ((k.toNat : Int) == 0) = false := by simp; exact fun e => hk (UInt8.toNat_inj.1 (by rw [e]; rfl))
        have hz1 : ((k.toNat : Int) == 1) = false := by simp; exact fun e => hk1 (UInt8.toNat_inj.1 (by rw [show k.toNat = 1 by omega]; rfl))
        have HK : Hid ((k == 0) = false ∧ (k == 0 || k == 1) = false) := Lib.hid (by simp [hk, hk1])
        clear hk hk1
        go_enter Try.func57, Try.ntmps57
        go_wp2_with fail
        refine Code.wp_mono (Q := fun ex a1 w1 => match ex with | .normal => ∃ v9, a1 = { tmps := #[.slice (some ⟨g, o, none⟩) (b.length + 1) c, undef, .pointer (some ⟨w.heap.size, 0, none⟩), .bool false, .pointer (some ⟨w.heap.size + 1, 0, none⟩), .slice (some ⟨g, o, none⟩) (b.length + 1) c, .slice (some ⟨g, o, none⟩) b.length (c - 1), .slice (some ⟨g, o, none⟩) (b.length + 1) c, .pointer (some ⟨g, o, none⟩), v9, .bool false, .agg #[.slice (some ⟨g, o, none⟩) b.length (c - 1), .bool false], undef, undef, undef, undef, undef, undef, undef, undef, undef], defers := [] } ∧ w1 = ((w.alloc (.cells #[.slice none 0 0, .bool false] 73)).alloc (.cells #[.slice (some ⟨g, o, none⟩) b.length (c - 1), .bool false] 73)).drew | _ => False) ?_ ?_
        case refine_2 =>
          go_region_with (fail)
          all_goals exact ⟨_, rfl, rfl⟩
        intro ex a1 w1 hq
        cases ex with
        | normal =>
          obtain ⟨v9, rfl, rfl⟩ := hq
          try dsimp only
          have n0 : Whole (((w.alloc (.cells #[.slice none 0 0, .bool false] 73)).alloc (.cells #[.slice (some ⟨g, o, none⟩) b.length (c - 1), .bool false] 73)).drew) w.heap.size 73 #[.slice none 0 0, .bool false] := ((Whole.new w _ _).alloc _).drew
          have n1 : Whole (((w.alloc (.cells #[.slice none 0 0, .bool false] 73)).alloc (.cells #[.slice (some ⟨g, o, none⟩) b.length (c - 1), .bool false] 73)).drew) (w.heap.size + 1) 73 #[.slice (some ⟨g, o, none⟩) b.length (c - 1), .bool false] := by
            have := (Whole.new (w.alloc (.cells #[.slice none 0 0, .bool false] 73)) 73 #[.slice (some ⟨g, o, none⟩) b.length (c - 1), .bool false]).drew
            rwa [World.size_alloc] at this
          have nb : Below w.heap.size w (((w.alloc (.cells #[.slice none 0 0, .bool false] 73)).alloc (.cells #[.slice (some ⟨g, o, none⟩) b.length (c - 1), .bool false] 73)).drew) := (((Below.refl _ _).alloc (Nat.le_refl _) _).alloc (by simp) _).drew
          have hcell2 := (nb.cell (p := ⟨g, o, none⟩) hlt).trans hcell
          generalize ((w.alloc (.cells #[.slice none 0 0, .bool false] 73)).alloc (.cells #[.slice (some ⟨g, o, none⟩) b.length (c - 1), .bool false] 73)).drew = V at *
          have x0 := n1.cell 0
          have x1 := n1.cell 1
          have y0 := n0.cell 0
          have y1 := n0.cell 1
          have f0 := n0.frozen 0
          have f1 := n0.frozen 1
          simp only [List.getElem?_toArray, List.getElem?_cons_zero, List.getElem?_cons_succ] at x0 x1 y0 y1
          have FIN : Hid (Whole (((V.setCell ⟨w.heap.size, 0, none⟩ (.slice (some ⟨g, o, none⟩) b.length (c - 1))).setCell ⟨w.heap.size, 1, none⟩ (.bool false)).drew) w.heap.size 73 #[.slice (some ⟨g, o, none⟩) b.length (c - 1), .bool false] ∧ Below w.heap.size w (((V.setCell ⟨w.heap.size, 0, none⟩ (.slice (some ⟨g, o, none⟩) b.length (c - 1))).setCell ⟨w.heap.size, 1, none⟩ (.bool false)).drew)) := Lib.hid ⟨((n0.set_ 0 _).set_ 1 _).drew, ((nb.setCell (p := ⟨w.heap.size, 0, none⟩) (Nat.le_refl _) _).setCell (p := ⟨w.heap.size, 1, none⟩) (Nat.le_refl _) _).drew⟩
          clear hcell n0 n1 nb
          go_wp2_with fail
          go_region
          all_goals
            generalize (((V.setCell ⟨w.heap.size, 0, none⟩ (.slice (some ⟨g, o, none⟩) b.length (c - 1))).setCell ⟨w.heap.size, 1, none⟩ (.bool false)).drew) = V2 at *
            go_wp2_with fail
            refine bodyPost_ret (results_cs rfl _ _ w.heap.size (.slice (some ⟨g, o, none⟩) b.length (c - 1)) (.bool false) (.bool false) rfl rfl FIN.out.1) rfl ?_
            exact ⟨_, _, by rw [HK.out.2, HK.out.1], HD.out.below FIN.out.2, FIN.out.2⟩
        | _ => exact hq.elim
  · have hce : (c = 1) = False := eq_false hc1
    rw [if_neg hc1] at HD
    clear hc1
    have HD2 : Hid (Holds w (some ⟨g, o + 1, none⟩) b) := HD
    clear HD
    have HD := HD2
    clear HD2
    by_cases hk : k = 0
    · have hz : ((k.toNat : Int) == 0) = true := by rw [hk]; rfl
      have HK : Hid ((k == 0) = true ∧ (k == 0 || k == 1) = true) := Lib.hid (by rw [hk]; exact ⟨rfl, rfl⟩)
      clear hk
      go_enter Try.func57, Try.ntmps57
      go_wp2_with fail
      refine Code.wp_mono (Q := fun ex a1 w1 => match ex with | .normal => ∃ v9, a1 = { tmps := #[.slice (some ⟨g, o, none⟩) (b.length + 1) c, undef, .pointer (some ⟨w.heap.size, 0, none⟩), .bool false, .pointer (some ⟨w.heap.size + 1, 0, none⟩), .slice (some ⟨g, o, none⟩) (b.length + 1) c, .slice (some ⟨g, o + 1, none⟩) b.length (c - 1), .slice (some ⟨g, o, none⟩) (b.length + 1) c, .pointer (some ⟨g, o, none⟩), v9, .bool true, .agg #[.slice (some ⟨g, o + 1, none⟩) b.length (c - 1), .bool true], undef, undef, undef, undef, undef, undef, undef, undef, undef], defers := [] } ∧ w1 = ((w.alloc (.cells #[.slice none 0 0, .bool false] 73)).alloc (.cells #[.slice (some ⟨g, o + 1, none⟩) b.length (c - 1), .bool true] 73)).drew | _ => False) ?_ ?_
      case refine_2 =>
        go_region_with (fail)
        all_goals exact ⟨_, rfl, rfl⟩
      intro ex a1 w1 hq
      cases ex with
      | normal =>
        obtain ⟨v9, rfl, rfl⟩ := hq
        try dsimp only
        have n0 : Whole (((w.alloc (.cells #[.slice none 0 0, .bool false] 73)).alloc (.cells #[.slice (some ⟨g, o + 1, none⟩) b.length (c - 1), .bool true] 73)).drew) w.heap.size 73 #[.slice none 0 0, .bool false] := ((Whole.new w _ _).alloc _).drew
        have n1 : Whole (((w.alloc (.cells #[.slice none 0 0, .bool false] 73)).alloc (.cells #[.slice (some ⟨g, o + 1, none⟩) b.length (c - 1), .bool true] 73)).drew) (w.heap.size + 1) 73 #[.slice (some ⟨g, o + 1, none⟩) b.length (c - 1), .bool true] := by
          have := (Whole.new (w.alloc (.cells #[.slice none 0 0, .bool false] 73)) 73 #[.slice (some ⟨g, o + 1, none⟩) b.length (c - 1), .bool true]).drew
          rwa [World.size_alloc] at this
        have nb : Below w.heap.size w (((w.alloc (.cells #[.slice none 0 0, .bool false] 73)).alloc (.cells #[.slice (some ⟨g, o + 1, none⟩) b.length (c - 1), .bool true] 73)).drew) := (((Below.refl _ _).alloc (Nat.le_refl _) _).alloc (by simp) _).drew
        have hcell2 := (nb.cell (p := ⟨g, o, none⟩) hlt).trans hcell
        generalize ((w.alloc (.cells #[.slice none 0 0, .bool false] 73)).alloc (.cells #[.slice (some ⟨g, o + 1, none⟩) b.length (c - 1), .bool true] 73)).drew = V at *
        have x0 := n1.cell 0
        have x1 := n1.cell 1
        have y0 := n0.cell 0
        have y1 := n0.cell 1
        have f0 := n0.frozen 0
        have f1 := n0.frozen 1
        simp only [List.getElem?_toArray, List.getElem?_cons_zero, List.getElem?_cons_succ] at x0 x1 y0 y1
        have FIN : Hid (Whole (((V.setCell ⟨w.heap.size, 0, none⟩ (.slice (some ⟨g, o + 1, none⟩) b.length (c - 1))).setCell ⟨w.heap.size, 1, none⟩ (.bool true)).drew) w.heap.size 73 #[.slice (some ⟨g, o + 1, none⟩) b.length (c - 1), .bool true] ∧ Below w.heap.size w (((V.setCell ⟨w.heap.size, 0, none⟩ (.slice (some ⟨g, o + 1, none⟩) b.length (c - 1))).setCell ⟨w.heap.size, 1, none⟩ (.bool true)).drew)) := Lib.hid ⟨((n0.set_ 0 _).set_ 1 _).drew, ((nb.setCell (p := ⟨w.heap.size, 0, none⟩) (Nat.le_refl _) _).setCell (p := ⟨w.heap.size, 1, none⟩) (Nat.le_refl _) _).drew⟩
        clear hcell n0 n1 nb
        go_wp2_with fail
        go_region
        all_goals
          generalize (((V.setCell ⟨w.heap.size, 0, none⟩ (.slice (some ⟨g, o + 1, none⟩) b.length (c - 1))).setCell ⟨w.heap.size, 1, none⟩ (.bool true)).drew) = V2 at *
          go_wp2_with fail
          refine bodyPost_ret (results_cs rfl _ _ w.heap.size (.slice (some ⟨g, o + 1, none⟩) b.length (c - 1)) (.bool true) (.bool true) rfl rfl FIN.out.1) rfl ?_
          exact ⟨_, _, by rw [HK.out.2, HK.out.1], HD.out.below FIN.out.2, FIN.out.2⟩
      | _ => exact hq.elim
    · by_cases hk1 : k = 1
      · have hz : ((k.toNat : Int) == 0) = false := by rw [hk1]; rfl
        have hz1 : ((k.toNat : Int) == 1) = true := by rw [hk1]; rfl
        have HK : Hid ((k == 0) = false ∧ (k == 0 || k == 1) = true) := Lib.hid (by rw [hk1]; exact ⟨rfl, rfl⟩)
        clear hk hk1
        go_enter Try.func57, Try.ntmps57
        go_wp2_with fail
        refine Code.wp_mono (Q := fun ex a1 w1 => match ex with | .normal => ∃ v9, a1 = { tmps := #[.slice (some ⟨g, o, none⟩) (b.length + 1) c, undef, .pointer (some ⟨w.heap.size, 0, none⟩), .bool false, .pointer (some ⟨w.heap.size + 1, 0, none⟩), .slice (some ⟨g, o, none⟩) (b.length + 1) c, .slice (some ⟨g, o + 1, none⟩) b.length (c - 1), .slice (some ⟨g, o, none⟩) (b.length + 1) c, .pointer (some ⟨g, o, none⟩), v9, .bool false, .agg #[.slice (some ⟨g, o + 1, none⟩) b.length (c - 1), .bool false], undef, undef, undef, undef, undef, undef, undef, undef, undef], defers := [] } ∧ w1 = ((w.alloc (.cells #[.slice none 0 0, .bool false] 73)).alloc (.cells #[.slice (some ⟨g, o + 1, none⟩) b.length (c - 1), .bool false] 73)).drew | _ => False) ?_ ?_
        case refine_2 =>
          go_region_with (fail)
          all_goals exact ⟨_, rfl, rfl⟩
        intro ex a1 w1 hq
        cases ex with
        | normal =>
          obtain ⟨v9, rfl, rfl⟩ := hq
          try dsimp only
          have n0 : Whole (((w.alloc (.cells #[.slice none 0 0, .bool false] 73)).alloc (.cells #[.slice (some ⟨g, o + 1, none⟩) b.length (c - 1), .bool false] 73)).drew) w.heap.size 73 #[.slice none 0 0, .bool false] := ((Whole.new w _ _).alloc _).drew
          have n1 : Whole (((w.alloc (.cells #[.slice none 0 0, .bool false] 73)).alloc (.cells #[.slice (some ⟨g, o + 1, none⟩) b.length (c - 1), .bool false] 73)).drew) (w.heap.size + 1) 73 #[.slice (some ⟨g, o + 1, none⟩) b.length (c - 1), .bool false] := by
            have := (Whole.new (w.alloc (.cells #[.slice none 0 0, .bool false] 73)) 73 #[.slice (some ⟨g, o + 1, none⟩) b.length (c - 1), .bool false]).drew
            rwa [World.size_alloc] at this
          have nb : Below w.heap.size w (((w.alloc (.cells #[.slice none 0 0, .bool false] 73)).alloc (.cells #[.slice (some ⟨g, o + 1, none⟩) b.length (c - 1), .bool false] 73)).drew) := (((Below.refl _ _).alloc (Nat.le_refl _) _).alloc (by simp) _).drew
          have hcell2 := (nb.cell (p := ⟨g, o, none⟩) hlt).trans hcell
          generalize ((w.alloc (.cells #[.slice none 0 0, .bool false] 73)).alloc (.cells #[.slice (some ⟨g, o + 1, none⟩) b.length (c - 1), .bool false] 73)).drew = V at *
          have x0 := n1.cell 0
          have x1 := n1.cell 1
          have y0 := n0.cell 0
          have y1 := n0.cell 1
          have f0 := n0.frozen 0
          have f1 := n0.frozen 1
          simp only [List.getElem?_toArray, List.getElem?_cons_zero, List.getElem?_cons_succ] at x0 x1 y0 y1
          have FIN : Hid (Whole (((V.setCell ⟨w.heap.size, 0, none⟩ (.slice (some ⟨g, o + 1, none⟩) b.length (c - 1))).setCell ⟨w.heap.size, 1, none⟩ (.bool false)).drew) w.heap.size 73 #[.slice (some ⟨g, o + 1, none⟩) b.length (c - 1), .bool false] ∧ Below w.heap.size w (((V.setCell ⟨w.heap.size, 0, none⟩ (.slice (some ⟨g, o + 1, none⟩) b.length (c - 1))).setCell ⟨w.heap.size, 1, none⟩ (.bool false)).drew)) := Lib.hid ⟨((n0.set_ 0 _).set_ 1 _).drew, ((nb.setCell (p := ⟨w.heap.size, 0, none⟩) (Nat.le_refl _) _).setCell (p := ⟨w.heap.size, 1, none⟩) (Nat.le_refl _) _).drew⟩
          clear hcell n0 n1 nb
          go_wp2_with fail
          go_region
          all_goals
            generalize (((V.setCell ⟨w.heap.size, 0, none⟩ (.slice (some ⟨g, o + 1, none⟩) b.length (c - 1))).setCell ⟨w.heap.size, 1, none⟩ (.bool false)).drew) = V2 at *
            go_wp2_with fail
            refine bodyPost_ret (results_cs rfl _ _ w.heap.size (.slice (some ⟨g, o + 1, none⟩) b.length (c - 1)) (.bool false) (.bool true) rfl rfl FIN.out.1) rfl ?_
            exact ⟨_, _, by rw [HK.out.2, HK.out.1], HD.out.below FIN.out.2, FIN.out.2⟩
        | _ => exact hq.elim
      · have hz : ((k.toNat : Int) == 0) = false := by simp; exact fun e => hk (UInt8.toNat_inj.1 (by rw [e]; rfl))
        have hz1 : ((k.toNat : Int) == 1) = false := by simp; exact fun e => hk1 (UInt8.toNat_inj.1 (by rw [show k.toNat = 1 by omega]; rfl))
        have HK : Hid ((k == 0) = false ∧ (k == 0 || k == 1) = false) := Lib.hid (by simp [hk, hk1])
        clear hk hk1
        go_enter Try.func57, Try.ntmps57
        go_wp2_with fail
        refine Code.wp_mono (Q := fun ex a1 w1 => match ex with | .normal => ∃ v9, a1 = { tmps := #[.slice (some ⟨g, o, none⟩) (b.length + 1) c, undef, .pointer (some ⟨w.heap.size, 0, none⟩), .bool false, .pointer (some ⟨w.heap.size + 1, 0, none⟩), .slice (some ⟨g, o, none⟩) (b.length + 1) c, .slice (some ⟨g, o + 1, none⟩) b.length (c - 1), .slice (some ⟨g, o, none⟩) (b.length + 1) c, .pointer (some ⟨g, o, none⟩), v9, .bool false, .agg #[.slice (some ⟨g, o + 1, none⟩) b.length (c - 1), .bool false], undef, undef, undef, undef, undef, undef, undef, undef, undef], defers := [] } ∧ w1 = ((w.alloc (.cells #[.slice none 0 0, .bool false] 73)).alloc (.cells #[.slice (some ⟨g, o + 1, none⟩) b.length (c - 1), .bool false] 73)).drew | _ => False) ?_ ?_
        case refine_2 =>
          go_region_with (fail)
          all_goals exact ⟨_, rfl, rfl⟩
        intro ex a1 w1 hq
        cases ex with
        | normal =>
          obtain ⟨v9, rfl, rfl⟩ := hq
          try dsimp only
          have n0 : Whole (((w.alloc (.cells #[.slice none 0 0, .bool false] 73)).alloc (.cells #[.slice (some ⟨g, o + 1, none⟩) b.length (c - 1), .bool false] 73)).drew) w.heap.size 73 #[.slice none 0 0, .bool false] := ((Whole.new w _ _).alloc _).drew
          have n1 : Whole (((w.alloc (.cells #[.slice none 0 0, .bool false] 73)).alloc (.cells #[.slice (some ⟨g, o + 1, none⟩) b.length (c - 1), .bool false] 73)).drew) (w.heap.size + 1) 73 #[.slice (some ⟨g, o + 1, none⟩) b.length (c - 1), .bool false] := by
            have := (Whole.new (w.alloc (.cells #[.slice none 0 0, .bool false] 73)) 73 #[.slice (some ⟨g, o + 1, none⟩) b.length (c - 1), .bool false]).drew
            rwa [World.size_alloc] at this
          have nb : Below w.heap.size w (((w.alloc (.cells #[.slice none 0 0, .bool false] 73)).alloc (.cells #[.slice (some ⟨g, o + 1, none⟩) b.length (c - 1), .bool false] 73)).drew) := (((Below.refl _ _).alloc (Nat.le_refl _) _).alloc (by simp) _).drew
          have hcell2 := (nb.cell (p := ⟨g, o, none⟩) hlt).trans hcell
          generalize ((w.alloc (.cells #[.slice none 0 0, .bool false] 73)).alloc (.cells #[.slice (some ⟨g, o + 1, none⟩) b.length (c - 1), .bool false] 73)).drew = V at *
          have x0 := n1.cell 0
          have x1 := n1.cell 1
          have y0 := n0.cell 0
          have y1 := n0.cell 1
          have f0 := n0.frozen 0
          have f1 := n0.frozen 1
          simp only [List.getElem?_toArray, List.getElem?_cons_zero, List.getElem?_cons_succ] at x0 x1 y0 y1
          have FIN : Hid (Whole (((V.setCell ⟨w.heap.size, 0, none⟩ (.slice (some ⟨g, o + 1, none⟩) b.length (c - 1))).setCell ⟨w.heap.size, 1, none⟩ (.bool false)).drew) w.heap.size 73 #[.slice (some ⟨g, o + 1, none⟩) b.length (c - 1), .bool false] ∧ Below w.heap.size w (((V.setCell ⟨w.heap.size, 0, none⟩ (.slice (some ⟨g, o + 1, none⟩) b.length (c - 1))).setCell ⟨w.heap.size, 1, none⟩ (.bool false)).drew)) := Lib.hid ⟨((n0.set_ 0 _).set_ 1 _).drew, ((nb.setCell (p := ⟨w.heap.size, 0, none⟩) (Nat.le_refl _) _).setCell (p := ⟨w.heap.size, 1, none⟩) (Nat.le_refl _) _).drew⟩
          clear hcell n0 n1 nb
          go_wp2_with fail
          go_region
          all_goals
            generalize (((V.setCell ⟨w.heap.size, 0, none⟩ (.slice (some ⟨g, o + 1, none⟩) b.length (c - 1))).setCell ⟨w.heap.size, 1, none⟩ (.bool false)).drew) = V2 at *
            go_wp2_with fail
            refine bodyPost_ret (results_cs rfl _ _ w.heap.size (.slice (some ⟨g, o + 1, none⟩) b.length (c - 1)) (.bool false) (.bool false) rfl rfl FIN.out.1) rfl ?_
            exact ⟨_, _, by rw [HK.out.2, HK.out.1], HD.out.below FIN.out.2, FIN.out.2⟩
        | _ => exact hq.elim
end Go.Proofs.Ytlkkfnimealbkaa
