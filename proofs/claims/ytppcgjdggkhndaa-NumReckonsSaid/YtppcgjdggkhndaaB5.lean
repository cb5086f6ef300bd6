/- Wide numbers: Add of other signs, the second one greater. -/
import Derived.Test.YtppcgjdggkhndaaB4
namespace Go.Proofs.Ytppcgjdggkhndaa
open Go.RowKit

/-- what is known of the world ahead of the rounds: four rows. -/
structure Four (w W : World) (g : Nat) (s u : Bool) (x0 x1 y0 y1 : Int) : Prop where
  r1 : W.heap[g]? = some (.cells #[.bool s, .int .u64 x0, .int .u64 x1, .int .u64 0, .int .u64 0, .int .u64 0] 26 (0, 0))
  r2 : W.heap[g + 1]? = some (.cells #[.bool u, .int .u64 y0, .int .u64 y1, .int .u64 0, .int .u64 0, .int .u64 0] 26 (0, 0))
  r3 : W.heap[g + 1 + 1]? = some (.cells #[.bool false, .int .u64 0, .int .u64 0, .int .u64 0, .int .u64 0, .int .u64 0] 26 (0, 0))
  r4 : W.heap[g + 1 + 1 + 1]? = some (.cells #[.bool s, .int .u64 0, .int .u64 0, .int .u64 0, .int .u64 0, .int .u64 0] 26 (0, 0))
  below : Below w.heap.size w W

theorem Four.all {w W : World} {g : Nat} {s u : Bool} {x0 x1 y0 y1 : Int} (h : Four w W g s u x0 x1 y0 y1) :
    W.cell? ⟨g, 0, none⟩ = some (.bool s) ∧ W.cell? ⟨g, 1, none⟩ = some (.int .u64 x0) ∧ W.cell? ⟨g, 2, none⟩ = some (.int .u64 x1) ∧ W.cell? ⟨g, 3, none⟩ = some (.int .u64 0) ∧ W.cell? ⟨g, 4, none⟩ = some (.int .u64 0) ∧ W.cell? ⟨g, 5, none⟩ = some (.int .u64 0) ∧ W.cell? ⟨g + 1, 0, none⟩ = some (.bool u) ∧ W.cell? ⟨g + 1, 1, none⟩ = some (.int .u64 y0) ∧ W.cell? ⟨g + 1, 2, none⟩ = some (.int .u64 y1) ∧ W.cell? ⟨g + 1, 3, none⟩ = some (.int .u64 0) ∧ W.cell? ⟨g + 1, 4, none⟩ = some (.int .u64 0) ∧ W.cell? ⟨g + 1, 5, none⟩ = some (.int .u64 0) ∧ W.cell? ⟨g + 1 + 1 + 1, 0, none⟩ = some (.bool s) ∧ W.cell? ⟨g + 1 + 1 + 1, 1, none⟩ = some (.int .u64 0) ∧ W.cell? ⟨g + 1 + 1 + 1, 2, none⟩ = some (.int .u64 0) ∧ W.cell? ⟨g + 1 + 1 + 1, 3, none⟩ = some (.int .u64 0) ∧ W.cell? ⟨g + 1 + 1 + 1, 4, none⟩ = some (.int .u64 0) ∧ W.cell? ⟨g + 1 + 1 + 1, 5, none⟩ = some (.int .u64 0) ∧ (∀ o, W.frozen? ⟨g, o, none⟩ = false) ∧ (∀ o, W.frozen? ⟨g + 1, o, none⟩ = false) ∧ (∀ o, W.frozen? ⟨g + 1 + 1 + 1, o, none⟩ = false) :=
  ⟨cell_of_row W _ 0 _ _ _ h.r1, cell_of_row W _ 1 _ _ _ h.r1, cell_of_row W _ 2 _ _ _ h.r1, cell_of_row W _ 3 _ _ _ h.r1, cell_of_row W _ 4 _ _ _ h.r1, cell_of_row W _ 5 _ _ _ h.r1, cell_of_row W _ 0 _ _ _ h.r2, cell_of_row W _ 1 _ _ _ h.r2, cell_of_row W _ 2 _ _ _ h.r2, cell_of_row W _ 3 _ _ _ h.r2, cell_of_row W _ 4 _ _ _ h.r2, cell_of_row W _ 5 _ _ _ h.r2, cell_of_row W _ 0 _ _ _ h.r4, cell_of_row W _ 1 _ _ _ h.r4, cell_of_row W _ 2 _ _ _ h.r4, cell_of_row W _ 3 _ _ _ h.r4, cell_of_row W _ 4 _ _ _ h.r4, cell_of_row W _ 5 _ _ _ h.r4, fun o => by simp [World.frozen?, h.r1], fun o => by simp [World.frozen?, h.r2], fun o => by simp [World.frozen?, h.r4]⟩

/-- the two numbers change places, and the sign is the other one. -/
theorem Four.swap {w W : World} {g : Nat} {s u : Bool} {x0 x1 y0 y1 : Int} (h : Four w W g s u x0 x1 y0 y1) (hg : w.heap.size ≤ g) :
    Four w (((((((((((((W.setCell ⟨g, 0, none⟩ (.bool u)).setCell ⟨g, 1, none⟩ (.int .u64 y0)).setCell ⟨g, 2, none⟩ (.int .u64 y1)).setCell ⟨g, 3, none⟩ (.int .u64 0)).setCell ⟨g, 4, none⟩ (.int .u64 0)).setCell ⟨g, 5, none⟩ (.int .u64 0)).setCell ⟨g + 1, 0, none⟩ (.bool s)).setCell ⟨g + 1, 1, none⟩ (.int .u64 x0)).setCell ⟨g + 1, 2, none⟩ (.int .u64 x1)).setCell ⟨g + 1, 3, none⟩ (.int .u64 0)).setCell ⟨g + 1, 4, none⟩ (.int .u64 0)).setCell ⟨g + 1, 5, none⟩ (.int .u64 0)).setCell ⟨g + 1 + 1 + 1, 0, none⟩ (.bool u)) g u s y0 y1 x0 x1 := by
  refine ⟨?_, ?_, ?_, ?_, ?_⟩
  · rw [heap_setCell_other _ _ _ _ (by simp; omega)]
    iterate 6 rw [heap_setCell_other _ _ _ _ (by simp)]
    exact six _ _ _ 26 h.r1 rfl _ _ _ _ _ _
  · rw [heap_setCell_other _ _ _ _ (by simp)]
    refine six _ _ #[.bool u, .int .u64 y0, .int .u64 y1, .int .u64 0, .int .u64 0, .int .u64 0] 26 ?_ rfl _ _ _ _ _ _
    iterate 6 rw [heap_setCell_other _ _ _ _ (by simp)]
    exact h.r2
  · iterate 13 rw [heap_setCell_other _ _ _ _ (by simp; try omega)]
    exact h.r3
  · refine (heap_setCell_same _ _ _ #[.bool s, .int .u64 0, .int .u64 0, .int .u64 0, .int .u64 0, .int .u64 0] 26 _ ?_)
    iterate 12 rw [heap_setCell_other _ _ _ _ (by simp; try omega)]
    exact h.r4
  · have h0 := h.below
    iterate 13 refine Below.setCell ?_ (by first | exact hg | exact Nat.le_succ_of_le hg | exact Nat.le_trans hg (by simp only []; omega)) _
    exact h0

set_option maxRecDepth 100000 in
set_option maxHeartbeats 1000000 in
theorem wadd_lt (s : Bool) (x0 x1 y0 y1 : Int) (w : World) (hx0 : Part x0) (hx1 : Part x1) (hy0 : Part y0) (hy1 : Part y1) (hge : x0 + 4294967296 * x1 < y0 + 4294967296 * y1) :
    Calls Try.prog 13 #[wide s x0 x1 0 0 0, wide (!s) y0 y1 0 0 0] w fun e w' => ∃ q0 q1 : Int, (Part q0 ∧ Part q1 ∧ size q0 q1 0 0 0 = (y0 + 4294967296 * y1) - (x0 + 4294967296 * x1)) ∧ e = .returned (wide (!s) q0 q1 0 0 0) ∧ Below w.heap.size w w' := by
  have K := fun w => less_any x0 x1 y0 y1 w hx0 hx1 hy0 hy1
  rw [decide_eq_true (by omega)] at K
  have K' := Lib.hid K
  clear K
  obtain ⟨a0, b0⟩ := hx0
  obtain ⟨a1, b1⟩ := hx1
  obtain ⟨c0, d0⟩ := hy0
  obtain ⟨c1, d1⟩ := hy1
  obtain ⟨q0, k0, e1, e2, f1, f2, f3, f4⟩ := carry (4294967296 + y0 - x0) 8589934591 (by omega) (by omega)
  have g1 : k0 ≤ 1 := by omega
  obtain ⟨q1, k1, e3, e4, f5, f6, f7, f8⟩ := carry (4294967296 + y1 - x1 - (1 - k0)) 8589934591 (by omega) (by omega)
  obtain ⟨u0, u1⟩ := f1
  obtain ⟨u2, u3⟩ := f5
  obtain rfl : k1 = 1 := by omega
  have F : Hid ((Part q0 ∧ Part q1 ∧ size q0 q1 0 0 0 = (y0 + 4294967296 * y1) - (x0 + 4294967296 * x1))) :=
    Lib.hid ⟨⟨u0, u1⟩, ⟨u2, u3⟩, by unfold size; omega⟩
  have E1 := Lib.hid e1
  have E2 := Lib.hid e2
  have E3 := Lib.hid e3
  have E4 := Lib.hid e4
  clear e1 e2 e3 e4 f3 f4 f6 f7 f8 hge
  cases s
  · -- one
    go_enter Try.func13, Try.ntmps13
    go_wp2_with fail
    refine (K'.out _).mono ?_
    rintro e wl ⟨rfl, hb⟩
    refine world_gen (fun W' => Four w W' w.heap.size false true x0 x1 y0 y1) ?_ ?_
    · refine ⟨?_, ?_, ?_, ?_, ?_⟩
      · rw [hb.block _ (by simp only [World.size_alloc]; omega), heap_alloc_old _ _ (by simp only [World.size_alloc]; omega), heap_alloc_old _ _ (by simp only [World.size_alloc]; omega), heap_alloc_old _ _ (by simp only [World.size_alloc]; omega)]
        exact heap_alloc_new _ _
      · rw [hb.block _ (by simp only [World.size_alloc]; omega), heap_alloc_old _ _ (by simp only [World.size_alloc]; omega), heap_alloc_old _ _ (by simp only [World.size_alloc]; omega)]
        exact alloc_at _ _ _ (by simp)
      · rw [hb.block _ (by simp), heap_alloc_old _ _ (by simp)]
        exact alloc_at _ _ _ (by simp)
      · rw [hb.block _ (by simp)]
        exact alloc_at _ _ _ (by simp)
      · exact (((((Below.refl _ _).alloc (Nat.le_refl _) _).alloc (by simp) _).alloc (by simp; omega) _).alloc (by simp; omega) _).trans (hb.mono (by simp; omega))
    clear hb wl
    intro wl FG
    obtain ⟨c0', c1', c2', c3', c4', c5', d0', d1', d2', d3', d4', d5', e0', e1', e2', e3', e4', e5', ga', gb', go'⟩ := FG.all
    have GG := Lib.hid FG
    clear FG
    go_wp2_with fail
    refine world_gen (fun W' => Four w W' w.heap.size true false y0 y1 x0 x1) ?_ ?_
    · exact GG.out.swap (Nat.le_refl _)
    intro W0 FW
    obtain ⟨a0', a1', a2', a3', a4', a5', b0', b1', b2', b3', b4', b5', o0', o1', o2', o3', o4', o5', fa', fb', fo'⟩ := FW.all
    have FF := Lib.hid FW
    clear FW GG c0' c1' c2' c3' c4' c5' d0' d1' d2' d3' d4' d5' e0' e1' e2' e3' e4' e5' ga' gb' go'
    refine wp_loop_rounds 6 ?_
    rw [rounds_succ]
    go_wp2
    go_quiet (fail)
    go_wp2
    rw [E1.out, E2.out]
    rw [rounds_succ]
    go_wp2
    go_quiet (fail)
    go_wp2
    rw [E3.out, E4.out, show (1 : Int) - 1 = 0 from rfl]
    rw [rounds_succ]
    go_wp2
    go_quiet (fail)
    go_wp2
    rw [rounds_succ]
    go_wp2
    go_quiet (fail)
    go_wp2
    rw [rounds_succ]
    go_wp2
    go_quiet (fail)
    go_wp2
    refine world_gen (fun W' => Two w W' (w.heap.size + 1 + 1) (w.heap.size + 1 + 1 + 1) true false q0 q1 0 0 0) ?_ ?_
    · refine ⟨?_, ?_, by omega, ?_⟩
      · refine five _ _ _ _ (.int .u64 0) (.int .u64 0) (.int .u64 0) (.int .u64 0) (.int .u64 0) ?_ _ _ _ _ _ _ _ _ _ _
        exact FF.out.r4
      · repeat (first | rw [World.heap_drewN] | rw [heap_setCell_other _ _ _ _ (by simp)])
        exact FF.out.r3
      · repeat (first | with_reducible exact FF.out.below | with_reducible refine below_drewN ?_ _ | with_reducible refine Below.setCell ?_ (by simp; omega) _)
    · intro W TW
      have r0 := cell_of_row W _ 0 _ _ _ TW.from'
      have r1 := cell_of_row W _ 1 _ _ _ TW.from'
      have r2 := cell_of_row W _ 2 _ _ _ TW.from'
      have r3 := cell_of_row W _ 3 _ _ _ TW.from'
      have r4 := cell_of_row W _ 4 _ _ _ TW.from'
      have r5 := cell_of_row W _ 5 _ _ _ TW.from'
      have t0 := cell_of_row W _ 0 _ _ _ TW.to
      have t1 := cell_of_row W _ 1 _ _ _ TW.to
      have t2 := cell_of_row W _ 2 _ _ _ TW.to
      have t3 := cell_of_row W _ 3 _ _ _ TW.to
      have t4 := cell_of_row W _ 4 _ _ _ TW.to
      have t5 := cell_of_row W _ 5 _ _ _ TW.to
      have u0 : ∀ o, W.frozen? ⟨w.heap.size + 1 + 1, o, none⟩ = false := fun o => by simp [World.frozen?, TW.to]
      have TT := Lib.hid TW
      clear TW FF a0' a1' a2' a3' a4' a5' b0' b1' b2' b3' b4' b5' o0' o1' o2' o3' o4' o5' fa' fb' fo'
      simp only [List.getElem?_toArray, List.getElem?_cons_zero, List.getElem?_cons_succ] at r0 r1 r2 r3 r4 r5 t0 t1 t2 t3 t4 t5
      rw [rounds_succ]
      go_wp2
      refine bodyPost_ret (v := wide true q0 q1 0 0 0) (gives Try.results13 _ _ (w.heap.size + 1 + 1) true q0 q1 0 0 0 rfl (six _ _ _ 26 TT.out.to rfl _ _ _ _ _ _)) rfl ⟨_, _, F.out, rfl, TT.out.end' _ _ _ _ _ _⟩
  · -- other
    go_enter Try.func13, Try.ntmps13
    go_wp2_with fail
    refine (K'.out _).mono ?_
    rintro e wl ⟨rfl, hb⟩
    refine world_gen (fun W' => Four w W' w.heap.size true false x0 x1 y0 y1) ?_ ?_
    · refine ⟨?_, ?_, ?_, ?_, ?_⟩
      · rw [hb.block _ (by simp only [World.size_alloc]; omega), heap_alloc_old _ _ (by simp only [World.size_alloc]; omega), heap_alloc_old _ _ (by simp only [World.size_alloc]; omega), heap_alloc_old _ _ (by simp only [World.size_alloc]; omega)]
        exact heap_alloc_new _ _
      · rw [hb.block _ (by simp only [World.size_alloc]; omega), heap_alloc_old _ _ (by simp only [World.size_alloc]; omega), heap_alloc_old _ _ (by simp only [World.size_alloc]; omega)]
        exact alloc_at _ _ _ (by simp)
      · rw [hb.block _ (by simp), heap_alloc_old _ _ (by simp)]
        exact alloc_at _ _ _ (by simp)
      · rw [hb.block _ (by simp)]
        exact alloc_at _ _ _ (by simp)
      · exact (((((Below.refl _ _).alloc (Nat.le_refl _) _).alloc (by simp) _).alloc (by simp; omega) _).alloc (by simp; omega) _).trans (hb.mono (by simp; omega))
    clear hb wl
    intro wl FG
    obtain ⟨c0', c1', c2', c3', c4', c5', d0', d1', d2', d3', d4', d5', e0', e1', e2', e3', e4', e5', ga', gb', go'⟩ := FG.all
    have GG := Lib.hid FG
    clear FG
    go_wp2_with fail
    refine world_gen (fun W' => Four w W' w.heap.size false true y0 y1 x0 x1) ?_ ?_
    · exact GG.out.swap (Nat.le_refl _)
    intro W0 FW
    obtain ⟨a0', a1', a2', a3', a4', a5', b0', b1', b2', b3', b4', b5', o0', o1', o2', o3', o4', o5', fa', fb', fo'⟩ := FW.all
    have FF := Lib.hid FW
    clear FW GG c0' c1' c2' c3' c4' c5' d0' d1' d2' d3' d4' d5' e0' e1' e2' e3' e4' e5' ga' gb' go'
    refine wp_loop_rounds 6 ?_
    rw [rounds_succ]
    go_wp2
    go_quiet (fail)
    go_wp2
    rw [E1.out, E2.out]
    rw [rounds_succ]
    go_wp2
    go_quiet (fail)
    go_wp2
    rw [E3.out, E4.out, show (1 : Int) - 1 = 0 from rfl]
    rw [rounds_succ]
    go_wp2
    go_quiet (fail)
    go_wp2
    rw [rounds_succ]
    go_wp2
    go_quiet (fail)
    go_wp2
    rw [rounds_succ]
    go_wp2
    go_quiet (fail)
    go_wp2
    refine world_gen (fun W' => Two w W' (w.heap.size + 1 + 1) (w.heap.size + 1 + 1 + 1) false false q0 q1 0 0 0) ?_ ?_
    · refine ⟨?_, ?_, by omega, ?_⟩
      · refine five _ _ _ _ (.int .u64 0) (.int .u64 0) (.int .u64 0) (.int .u64 0) (.int .u64 0) ?_ _ _ _ _ _ _ _ _ _ _
        exact FF.out.r4
      · repeat (first | rw [World.heap_drewN] | rw [heap_setCell_other _ _ _ _ (by simp)])
        exact FF.out.r3
      · repeat (first | with_reducible exact FF.out.below | with_reducible refine below_drewN ?_ _ | with_reducible refine Below.setCell ?_ (by simp; omega) _)
    · intro W TW
      have r0 := cell_of_row W _ 0 _ _ _ TW.from'
      have r1 := cell_of_row W _ 1 _ _ _ TW.from'
      have r2 := cell_of_row W _ 2 _ _ _ TW.from'
      have r3 := cell_of_row W _ 3 _ _ _ TW.from'
      have r4 := cell_of_row W _ 4 _ _ _ TW.from'
      have r5 := cell_of_row W _ 5 _ _ _ TW.from'
      have t0 := cell_of_row W _ 0 _ _ _ TW.to
      have t1 := cell_of_row W _ 1 _ _ _ TW.to
      have t2 := cell_of_row W _ 2 _ _ _ TW.to
      have t3 := cell_of_row W _ 3 _ _ _ TW.to
      have t4 := cell_of_row W _ 4 _ _ _ TW.to
      have t5 := cell_of_row W _ 5 _ _ _ TW.to
      have u0 : ∀ o, W.frozen? ⟨w.heap.size + 1 + 1, o, none⟩ = false := fun o => by simp [World.frozen?, TW.to]
      have TT := Lib.hid TW
      clear TW FF a0' a1' a2' a3' a4' a5' b0' b1' b2' b3' b4' b5' o0' o1' o2' o3' o4' o5' fa' fb' fo'
      simp only [List.getElem?_toArray, List.getElem?_cons_zero, List.getElem?_cons_succ] at r0 r1 r2 r3 r4 r5 t0 t1 t2 t3 t4 t5
      rw [rounds_succ]
      go_wp2
      refine bodyPost_ret (v := wide false q0 q1 0 0 0) (gives Try.results13 _ _ (w.heap.size + 1 + 1) false q0 q1 0 0 0 rfl (six _ _ _ 26 TT.out.to rfl _ _ _ _ _ _)) rfl ⟨_, _, F.out, rfl, TT.out.end' _ _ _ _ _ _⟩
end Go.Proofs.Ytppcgjdggkhndaa
