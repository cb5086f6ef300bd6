/- Wide numbers: Add of other signs. -/
import Derived.Test.YtppcgjdggkhndaaB3
namespace Go.Proofs.Ytppcgjdggkhndaa
open Go.RowKit

theorem world_gen {F : World → Prop} {W : World} (P : World → Prop) (hP : P W) (h : ∀ W', P W' → F W') : F W := h W hP
theorem draw_same (W : World) (n b i : Nat) (cs : Array Value) (t : TypeId) (v : Value) (h : W.heap[b]? = some (.cells cs t (0, 0))) :
    ((W.drewN n).setCell ⟨b, i, none⟩ v).heap[b]? = some (.cells (cs.setIfInBounds i v) t (0, 0)) := heap_setCell_same (W.drewN n) b i cs t v h
/-- five parts stored one by one, with draws between. -/
theorem five (W : World) (b : Nat) (u : Value) (t : TypeId) (z1 z2 z3 z4 z5 : Value) (h : W.heap[b]? = some (.cells #[u, z1, z2, z3, z4, z5] t (0, 0))) (n1 n2 n3 n4 n5 : Nat) (v1 v2 v3 v4 v5 : Value) :
    ((((((((((W.drewN n1).setCell ⟨b, 1, none⟩ v1).drewN n2).setCell ⟨b, 2, none⟩ v2).drewN n3).setCell ⟨b, 3, none⟩ v3).drewN n4).setCell ⟨b, 4, none⟩ v4).drewN n5).setCell ⟨b, 5, none⟩ v5).heap[b]? = some (.cells #[u, v1, v2, v3, v4, v5] t (0, 0)) := by
  have h1 := draw_same W n1 b 1 _ t v1 h
  have h2 := draw_same _ n2 b 2 _ t v2 h1
  have h3 := draw_same _ n3 b 3 _ t v3 h2
  have h4 := draw_same _ n4 b 4 _ t v4 h3
  have h5 := draw_same _ n5 b 5 _ t v5 h4
  simpa using h5
/-- what is known of the world ahead of the result's store: the row that is read, the row that is written. -/
structure Two (w W : World) (g r : Nat) (s t : Bool) (q0 q1 q2 q3 q4 : Int) : Prop where
  from' : W.heap[r]? = some (.cells #[.bool s, .int .u64 q0, .int .u64 q1, .int .u64 q2, .int .u64 q3, .int .u64 q4] 26 (0, 0))
  to : W.heap[g]? = some (.cells #[.bool t, .int .u64 0, .int .u64 0, .int .u64 0, .int .u64 0, .int .u64 0] 26 (0, 0))
  le : w.heap.size ≤ g
  below : Below w.heap.size w W
theorem Two.end' {w W : World} {g r : Nat} {s t : Bool} {q0 q1 q2 q3 q4 : Int} (h : Two w W g r s t q0 q1 q2 q3 q4) (v0 v1 v2 v3 v4 v5 : Value) :
    Below w.heap.size w ((((((W.setCell ⟨g, 0, none⟩ v0).setCell ⟨g, 1, none⟩ v1).setCell ⟨g, 2, none⟩ v2).setCell ⟨g, 3, none⟩ v3).setCell ⟨g, 4, none⟩ v4).setCell ⟨g, 5, none⟩ v5) :=
  (((((h.below.setCell h.le _).setCell h.le _).setCell h.le _).setCell h.le _).setCell h.le _).setCell h.le _

set_option maxRecDepth 100000 in
set_option maxHeartbeats 1000000 in
theorem wadd_ge (s : Bool) (x0 x1 y0 y1 : Int) (w : World) (hx0 : Part x0) (hx1 : Part x1) (hy0 : Part y0) (hy1 : Part y1) (hge : y0 + 4294967296 * y1 ≤ x0 + 4294967296 * x1) :
    Calls Try.prog 13 #[wide s x0 x1 0 0 0, wide (!s) y0 y1 0 0 0] w fun e w' => ∃ q0 q1 : Int, (Part q0 ∧ Part q1 ∧ size q0 q1 0 0 0 = (x0 + 4294967296 * x1) - (y0 + 4294967296 * y1)) ∧ e = .returned (wide s q0 q1 0 0 0) ∧ Below w.heap.size w w' := by
  have K := fun w => less_any x0 x1 y0 y1 w hx0 hx1 hy0 hy1
  rw [decide_eq_false (by omega)] at K
  have K' := Lib.hid K
  clear K
  obtain ⟨a0, b0⟩ := hx0
  obtain ⟨a1, b1⟩ := hx1
  obtain ⟨c0, d0⟩ := hy0
  obtain ⟨c1, d1⟩ := hy1
  obtain ⟨q0, k0, e1, e2, f1, f2, f3, f4⟩ := carry (4294967296 + x0 - y0) 8589934591 (by omega) (by omega)
  have g1 : k0 ≤ 1 := by omega
  obtain ⟨q1, k1, e3, e4, f5, f6, f7, f8⟩ := carry (4294967296 + x1 - y1 - (1 - k0)) 8589934591 (by omega) (by omega)
  obtain ⟨u0, u1⟩ := f1
  obtain ⟨u2, u3⟩ := f5
  obtain rfl : k1 = 1 := by omega
  have F : Hid ((Part q0 ∧ Part q1 ∧ size q0 q1 0 0 0 = (x0 + 4294967296 * x1) - (y0 + 4294967296 * y1))) :=
    Lib.hid ⟨⟨u0, u1⟩, ⟨u2, u3⟩, by unfold size; omega⟩
  have E1 := Lib.hid e1
  have E2 := Lib.hid e2
  have E3 := Lib.hid e3
  have E4 := Lib.hid e4
  clear e1 e2 e3 e4 f3 f4 f6 f7 f8 hge
  cases s
  · -- one
    go_enter Try.func13, Try.ntmps13
    go_wp2_with fail
    refine (K'.out _).mono ?_
    rintro e wl ⟨rfl, hb⟩
    obtain ⟨hc, hf⟩ := bcell hb
    have hz := hb.size
    have HB := Lib.hid hb
    have BL := Lib.hid (show Below w.heap.size w wl from (((((Below.refl _ _).alloc (Nat.le_refl _) _).alloc (by simp) _).alloc (by simp; omega) _).alloc (by simp; omega) _).trans (hb.mono (by simp; omega)))
    clear hb
    simp only [World.size_alloc] at hz
    go_wp2_with fail
    refine wp_loop_rounds 6 ?_
    rw [rounds_succ]
    go_wp2
    go_quiet (fail)
    go_wp2
    rw [E1.out, E2.out]
    rw [rounds_succ]
    go_wp2
    go_quiet (fail)
    go_wp2
    rw [E3.out, E4.out, show (1 : Int) - 1 = 0 from rfl]
    rw [rounds_succ]
    go_wp2
    go_quiet (fail)
    go_wp2
    rw [rounds_succ]
    go_wp2
    go_quiet (fail)
    go_wp2
    rw [rounds_succ]
    go_wp2
    go_quiet (fail)
    go_wp2
    refine world_gen (fun W' => Two w W' (w.heap.size + 1 + 1) (w.heap.size + 1 + 1 + 1) false false q0 q1 0 0 0) ?_ ?_
    · refine ⟨?_, ?_, by omega, ?_⟩
      · refine five _ _ _ _ (.int .u64 0) (.int .u64 0) (.int .u64 0) (.int .u64 0) (.int .u64 0) ?_ _ _ _ _ _ _ _ _ _ _
        rw [HB.out.block _ (by simp)]
        exact alloc_at _ _ _ (by simp)
      · repeat (first | rw [World.heap_drewN] | rw [heap_setCell_other _ _ _ _ (by simp)])
        rw [HB.out.block _ (by simp)]
        rw [heap_alloc_old _ _ (by simp)]
        exact alloc_at _ _ _ (by simp)
      · repeat (first | with_reducible exact BL.out | with_reducible refine below_drewN ?_ _ | with_reducible refine Below.setCell ?_ (by simp; omega) _)
    · intro W TW
      have r0 := cell_of_row W _ 0 _ _ _ TW.from'
      have r1 := cell_of_row W _ 1 _ _ _ TW.from'
      have r2 := cell_of_row W _ 2 _ _ _ TW.from'
      have r3 := cell_of_row W _ 3 _ _ _ TW.from'
      have r4 := cell_of_row W _ 4 _ _ _ TW.from'
      have r5 := cell_of_row W _ 5 _ _ _ TW.from'
      have t0 := cell_of_row W _ 0 _ _ _ TW.to
      have t1 := cell_of_row W _ 1 _ _ _ TW.to
      have t2 := cell_of_row W _ 2 _ _ _ TW.to
      have t3 := cell_of_row W _ 3 _ _ _ TW.to
      have t4 := cell_of_row W _ 4 _ _ _ TW.to
      have t5 := cell_of_row W _ 5 _ _ _ TW.to
      have u0 : ∀ o, W.frozen? ⟨w.heap.size + 1 + 1, o, none⟩ = false := fun o => by simp [World.frozen?, TW.to]
      have TT := Lib.hid TW
      clear hc hf HB BL TW
      simp only [List.getElem?_toArray, List.getElem?_cons_zero, List.getElem?_cons_succ] at r0 r1 r2 r3 r4 r5 t0 t1 t2 t3 t4 t5
      rw [rounds_succ]
      go_wp2
      refine bodyPost_ret (v := wide false q0 q1 0 0 0) (gives Try.results13 _ _ (w.heap.size + 1 + 1) false q0 q1 0 0 0 rfl (six _ _ _ 26 TT.out.to rfl _ _ _ _ _ _)) rfl ⟨_, _, F.out, rfl, TT.out.end' _ _ _ _ _ _⟩
  · -- other
    go_enter Try.func13, Try.ntmps13
    go_wp2_with fail
    refine (K'.out _).mono ?_
    rintro e wl ⟨rfl, hb⟩
    obtain ⟨hc, hf⟩ := bcell hb
    have hz := hb.size
    have HB := Lib.hid hb
    have BL := Lib.hid (show Below w.heap.size w wl from (((((Below.refl _ _).alloc (Nat.le_refl _) _).alloc (by simp) _).alloc (by simp; omega) _).alloc (by simp; omega) _).trans (hb.mono (by simp; omega)))
    clear hb
    simp only [World.size_alloc] at hz
    go_wp2_with fail
    refine wp_loop_rounds 6 ?_
    rw [rounds_succ]
    go_wp2
    go_quiet (fail)
    go_wp2
    rw [E1.out, E2.out]
    rw [rounds_succ]
    go_wp2
    go_quiet (fail)
    go_wp2
    rw [E3.out, E4.out, show (1 : Int) - 1 = 0 from rfl]
    rw [rounds_succ]
    go_wp2
    go_quiet (fail)
    go_wp2
    rw [rounds_succ]
    go_wp2
    go_quiet (fail)
    go_wp2
    rw [rounds_succ]
    go_wp2
    go_quiet (fail)
    go_wp2
    refine world_gen (fun W' => Two w W' (w.heap.size + 1 + 1) (w.heap.size + 1 + 1 + 1) true false q0 q1 0 0 0) ?_ ?_
    · refine ⟨?_, ?_, by omega, ?_⟩
      · refine five _ _ _ _ (.int .u64 0) (.int .u64 0) (.int .u64 0) (.int .u64 0) (.int .u64 0) ?_ _ _ _ _ _ _ _ _ _ _
        rw [HB.out.block _ (by simp)]
        exact alloc_at _ _ _ (by simp)
      · repeat (first | rw [World.heap_drewN] | rw [heap_setCell_other _ _ _ _ (by simp)])
        rw [HB.out.block _ (by simp)]
        rw [heap_alloc_old _ _ (by simp)]
        exact alloc_at _ _ _ (by simp)
      · repeat (first | with_reducible exact BL.out | with_reducible refine below_drewN ?_ _ | with_reducible refine Below.setCell ?_ (by simp; omega) _)
    · intro W TW
      have r0 := cell_of_row W _ 0 _ _ _ TW.from'
      have r1 := cell_of_row W _ 1 _ _ _ TW.from'
      have r2 := cell_of_row W _ 2 _ _ _ TW.from'
      have r3 := cell_of_row W _ 3 _ _ _ TW.from'
      have r4 := cell_of_row W _ 4 _ _ _ TW.from'
      have r5 := cell_of_row W _ 5 _ _ _ TW.from'
      have t0 := cell_of_row W _ 0 _ _ _ TW.to
      have t1 := cell_of_row W _ 1 _ _ _ TW.to
      have t2 := cell_of_row W _ 2 _ _ _ TW.to
      have t3 := cell_of_row W _ 3 _ _ _ TW.to
      have t4 := cell_of_row W _ 4 _ _ _ TW.to
      have t5 := cell_of_row W _ 5 _ _ _ TW.to
      have u0 : ∀ o, W.frozen? ⟨w.heap.size + 1 + 1, o, none⟩ = false := fun o => by simp [World.frozen?, TW.to]
      have TT := Lib.hid TW
      clear hc hf HB BL TW
      simp only [List.getElem?_toArray, List.getElem?_cons_zero, List.getElem?_cons_succ] at r0 r1 r2 r3 r4 r5 t0 t1 t2 t3 t4 t5
      rw [rounds_succ]
      go_wp2
      refine bodyPost_ret (v := wide true q0 q1 0 0 0) (gives Try.results13 _ _ (w.heap.size + 1 + 1) true q0 q1 0 0 0 rfl (six _ _ _ 26 TT.out.to rfl _ _ _ _ _ _)) rfl ⟨_, _, F.out, rfl, TT.out.end' _ _ _ _ _ _⟩
end Go.Proofs.Ytppcgjdggkhndaa
