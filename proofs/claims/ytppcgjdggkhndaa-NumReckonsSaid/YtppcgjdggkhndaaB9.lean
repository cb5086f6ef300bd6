/- NumReckons walked. -/
import Derived.Test.YtppcgjdggkhndaaB8
namespace Go.Proofs.Ytppcgjdggkhndaa
open Go.RowKit
attribute [local go_sem ↓] Go.wp_at_zero Go.wp_at_succ

/-- is: of a number of 64 bits that is left. -/
theorem is_fits (n : Int) (v : Value) (w : World) (h : Says v n) (hf : Fits n) :
    Calls Try.prog 12 #[.int .i64 n, .int .i64 0, v] w fun e w' => e = .returned (.bool true) ∧ Below w.heap.size w w' := by
  have g := is_says n v w h
  rwa [show sv n = n from if_pos hf, show se n = 0 from if_pos hf] at g

/-- the two wide numbers lie where they are laid. -/
structure Pair (W : World) (p q : Nat) (s t : Bool) (x0 x1 y0 y1 : Int) : Prop where
  lp : p < W.heap.size
  lq : q < W.heap.size
  r1 : W.heap[p]? = some (.cells #[.bool s, .int .u64 x0, .int .u64 x1, .int .u64 0, .int .u64 0, .int .u64 0] 26 (0, 0))
  r2 : W.heap[q]? = some (.cells #[.bool t, .int .u64 y0, .int .u64 y1, .int .u64 0, .int .u64 0, .int .u64 0] 26 (0, 0))
theorem Pair.below {W W' : World} {p q : Nat} {s t : Bool} {x0 x1 y0 y1 : Int} (h : Pair W p q s t x0 x1 y0 y1) (hb : Below W.heap.size W W') : Pair W' p q s t x0 x1 y0 y1 :=
  ⟨Nat.lt_of_lt_of_le h.lp hb.size, Nat.lt_of_lt_of_le h.lq hb.size, (hb.block _ h.lp).trans h.r1, (hb.block _ h.lq).trans h.r2⟩
theorem Pair.drewN {W : World} {p q : Nat} {s t : Bool} {x0 x1 y0 y1 : Int} (h : Pair W p q s t x0 x1 y0 y1) (n : Nat) : Pair (W.drewN n) p q s t x0 x1 y0 y1 := ⟨h.lp, h.lq, h.r1, h.r2⟩
theorem Pair.drew {W : World} {p q : Nat} {s t : Bool} {x0 x1 y0 y1 : Int} (h : Pair W p q s t x0 x1 y0 y1) : Pair W.drew p q s t x0 x1 y0 y1 := ⟨h.lp, h.lq, h.r1, h.r2⟩
theorem Pair.x {W : World} {p q : Nat} {s t : Bool} {x0 x1 y0 y1 : Int} (h : Pair W p q s t x0 x1 y0 y1) : W.cell? ⟨p, 0, none⟩ = some (.bool s) ∧ W.cell? ⟨p, 1, none⟩ = some (.int .u64 x0) ∧ W.cell? ⟨p, 2, none⟩ = some (.int .u64 x1) ∧ W.cell? ⟨p, 3, none⟩ = some (.int .u64 0) ∧ W.cell? ⟨p, 4, none⟩ = some (.int .u64 0) ∧ W.cell? ⟨p, 5, none⟩ = some (.int .u64 0) ∧
    W.cell? ⟨q, 0, none⟩ = some (.bool t) ∧ W.cell? ⟨q, 1, none⟩ = some (.int .u64 y0) ∧ W.cell? ⟨q, 2, none⟩ = some (.int .u64 y1) ∧ W.cell? ⟨q, 3, none⟩ = some (.int .u64 0) ∧ W.cell? ⟨q, 4, none⟩ = some (.int .u64 0) ∧ W.cell? ⟨q, 5, none⟩ = some (.int .u64 0) :=
  ⟨cell_of_row W _ 0 _ _ _ h.r1, cell_of_row W _ 1 _ _ _ h.r1, cell_of_row W _ 2 _ _ _ h.r1, cell_of_row W _ 3 _ _ _ h.r1, cell_of_row W _ 4 _ _ _ h.r1, cell_of_row W _ 5 _ _ _ h.r1,
   cell_of_row W _ 0 _ _ _ h.r2, cell_of_row W _ 1 _ _ _ h.r2, cell_of_row W _ 2 _ _ _ h.r2, cell_of_row W _ 3 _ _ _ h.r2, cell_of_row W _ 4 _ _ _ h.r2, cell_of_row W _ 5 _ _ _ h.r2⟩

theorem below_next {w W W' : World} (h1 : Below w.heap.size w W) (h2 : Below W.heap.size W W') : Below w.heap.size w W' := h1.trans (h2.mono h1.size)
theorem wadd_neg (u v : Value) (a b : Int) (w : World) (hu : Says2 u a) (hv : Says2 v (-b)) : Calls Try.prog 13 #[u, v] w (GivesWide (a - b) w) := by
  have h := wadd_says u v a (-b) w hu hv
  rwa [← Int.sub_eq_add_neg] at h
/-- what a load may ask, in any world on the way. -/
theorem mkS {w W : World} {p q : Nat} {s t : Bool} {x0 x1 y0 y1 : Int} (h : Pair W p q s t x0 x1 y0 y1) (hb : Below w.heap.size w W) :
    W.cell? ⟨p, 0, none⟩ = some (.bool s) ∧ W.cell? ⟨p, 1, none⟩ = some (.int .u64 x0) ∧ W.cell? ⟨p, 2, none⟩ = some (.int .u64 x1) ∧ W.cell? ⟨p, 3, none⟩ = some (.int .u64 0) ∧ W.cell? ⟨p, 4, none⟩ = some (.int .u64 0) ∧ W.cell? ⟨p, 5, none⟩ = some (.int .u64 0) ∧
    W.cell? ⟨q, 0, none⟩ = some (.bool t) ∧ W.cell? ⟨q, 1, none⟩ = some (.int .u64 y0) ∧ W.cell? ⟨q, 2, none⟩ = some (.int .u64 y1) ∧ W.cell? ⟨q, 3, none⟩ = some (.int .u64 0) ∧ W.cell? ⟨q, 4, none⟩ = some (.int .u64 0) ∧ W.cell? ⟨q, 5, none⟩ = some (.int .u64 0) ∧
    Pair W p q s t x0 x1 y0 y1 ∧ Below w.heap.size w W := by
  obtain ⟨c1, c2, c3, c4, c5, c6, c7, c8, c9, c10, c11, c12⟩ := h.x
  exact ⟨c1, c2, c3, c4, c5, c6, c7, c8, c9, c10, c11, c12, h, hb⟩

set_option maxRecDepth 100000 in
set_option maxHeartbeats 4000000 in
theorem reckons_ok (a b : Int) (w : World) (ha : Fits a) (hb : Fits b) :
    Calls Try.prog 3 #[.int .i64 a, .int .i64 b] w fun e w' => e = .returned (.bool true) ∧ Below w.heap.size w w' := by
  have HA := Lib.hid ha
  have HB := Lib.hid hb
  clear ha hb
  go_enter Try.func3, Try.ntmps3
  go_wp2_with fail
  refine (awake_ok _).mono ?_
  rintro e w' ⟨rfl, rfl⟩
  go_wp2_with fail
  refine (of_says a _ HA.out).mono ?_
  rintro e w1 ⟨v1, rfl, ⟨s, x0, x1, rfl, hx0, hx1, hea⟩, hb1⟩
  have B1 := Lib.hid hb1
  have U : Hid (Says2 (wide s x0 x1 0 0 0) a) := Lib.hid ⟨s, x0, x1, rfl, hx0, hx1, hea⟩
  clear hb1 hea hx0 hx1
  go_wp2_with fail
  refine (of_says b _ HB.out).mono ?_
  rintro e w2 ⟨v2, rfl, ⟨t, y0, y1, rfl, hy0, hy1, heb⟩, hb2⟩
  have B2 := Lib.hid (B1.out.trans (hb2.mono B1.out.size))
  have V : Hid (Says2 (wide t y0 y1 0 0 0) b) := Lib.hid ⟨t, y0, y1, rfl, hy0, hy1, heb⟩
  clear hb2 heb hy0 hy1 B1
  go_wp2_with fail
  refine (add_any _ _ _ HA.out HB.out).mono ?_
  rintro e w' ⟨rfl, rfl⟩
  go_wp2_with fail
  refine (sub_any _ _ _ HA.out HB.out).mono ?_
  rintro e w' ⟨rfl, rfl⟩
  go_wp2_with fail
  refine (mul_any _ _ _ HA.out HB.out).mono ?_
  rintro e w' ⟨rfl, rfl⟩
  go_wp2_with fail
  refine (neg_any _ _ HA.out).mono ?_
  rintro e w' ⟨rfl, rfl⟩
  go_wp2_with fail
  refine world_gen (fun W' => Pair W' w2.heap.size (w2.heap.size + 1) s t x0 x1 y0 y1 ∧ Below w.heap.size w W') ?_ ?_
  · refine ⟨⟨by simp only [World.size_alloc]; omega, by simp only [World.size_alloc]; omega, ?_, alloc_at _ _ _ (by simp)⟩, ?_⟩
    · rw [heap_alloc_old _ _ (by simp)]
      exact heap_alloc_new _ _
    · exact ((B2.out).alloc B2.out.size _).alloc (by have := B2.out.size; simp only [World.size_alloc]; omega) _
  rintro W ⟨hp, hw⟩
  generalize w2.heap.size + 1 = q at *
  generalize w2.heap.size = p at *
  have PP := Lib.hid hp
  have WW := Lib.hid hw
  clear hp hw B2
  go_region_held3 (fun W' => W'.cell? ⟨p, 0, none⟩ = some (.bool s) ∧ W'.cell? ⟨p, 1, none⟩ = some (.int .u64 x0) ∧ W'.cell? ⟨p, 2, none⟩ = some (.int .u64 x1) ∧ W'.cell? ⟨p, 3, none⟩ = some (.int .u64 0) ∧ W'.cell? ⟨p, 4, none⟩ = some (.int .u64 0) ∧ W'.cell? ⟨p, 5, none⟩ = some (.int .u64 0) ∧
    W'.cell? ⟨q, 0, none⟩ = some (.bool t) ∧ W'.cell? ⟨q, 1, none⟩ = some (.int .u64 y0) ∧ W'.cell? ⟨q, 2, none⟩ = some (.int .u64 y1) ∧ W'.cell? ⟨q, 3, none⟩ = some (.int .u64 0) ∧ W'.cell? ⟨q, 4, none⟩ = some (.int .u64 0) ∧ W'.cell? ⟨q, 5, none⟩ = some (.int .u64 0) ∧
    Pair W' p q s t x0 x1 y0 y1 ∧ Below w.heap.size w W')
    (first
      | exact mkS PP.out.drew WW.out.drew
      | (go_split_ands; exact mkS (Pair.below (by assumption) hbK) (below_next (by assumption) hbK)))
    (first
      | (go_at_call 13; (with_reducible refine (wadd_says _ _ a b _ U.out V.out).mono ?_); rintro e w' ⟨v, rfl, hs, hbK⟩)
      | (go_at_call 13; (with_reducible refine (wadd_neg _ _ a b _ U.out (by assumption)).mono ?_); rintro e w' ⟨v, rfl, hs, hbK⟩)
      | (go_at_call 14; (with_reducible refine (wneg_says _ b _ V.out).mono ?_); rintro e w' ⟨v, rfl, hs, hbK⟩)
      | (go_at_call 14; (with_reducible refine (wneg_says _ a _ U.out).mono ?_); rintro e w' ⟨v, rfl, hs, hbK⟩)
      | (go_at_call 15; (with_reducible refine (wmul_says _ _ a b _ U.out V.out).mono ?_); rintro e w' ⟨v, rfl, hs, hbK⟩)
      | (go_at_call 12; (with_reducible refine (is_says _ _ _ (by assumption)).mono ?_); rintro e w' ⟨rfl, hbK⟩)
      | (go_at_call 12; (with_reducible refine (is_says _ _ _ (Says2.wide (by assumption))).mono ?_); rintro e w' ⟨rfl, hbK⟩))
  go_split_ands
  have WN : Hid (Below w.heap.size w w') := Lib.hid (by assumption)
  refine world_gen (fun W' => Below w.heap.size w W') WN.out ?_
  intro W1 w1b
  have W1B := Lib.hid w1b
  clear w1b WN
  have DW := fun w => divide_walk a b w HA.out HB.out
  have DY := fun w => div_any a b w HA.out HB.out
  have RY := fun w => rem_any a b w HA.out HB.out
  have TF := tmod_fits a b HB.out
  by_cases hz : b = 0
  · subst hz
    clear DW DY RY TF
    go_wp2_with fail
    refine (div_zero _ _).mono ?_
    rintro e w' ⟨rfl, rfl⟩
    go_wp2_with fail
    refine (rem_zero _ _).mono ?_
    rintro e w' ⟨rfl, rfl⟩
    go_wp2
    go_ret
    exact ⟨rfl, W1B.out⟩
  · have DW' := Lib.hid fun w => DW w hz
    have DY' := Lib.hid fun w => DY w hz
    have RY' := Lib.hid fun w => RY w hz
    have TF' := Lib.hid (TF hz)
    clear DW DY RY TF
    go_wp2_with fail
    refine (DY'.out _).mono ?_
    rintro e w' ⟨rfl, rfl⟩
    go_wp2_with fail
    refine (RY'.out _).mono ?_
    rintro e w' ⟨rfl, rfl⟩
    go_wp2_with fail
    refine (DW'.out _).mono ?_
    rintro e w3 ⟨u, v, rfl, ⟨hu, hv⟩, hb3⟩
    have W3 := Lib.hid (below_next W1B.out hb3)
    have SU : Hid (Says u (a.tdiv b)) := Lib.hid hu.wide
    have SV : Hid (Says v (a.tmod b)) := Lib.hid hv.wide
    obtain ⟨su, u0, u1, rfl, -, -, -⟩ := hu
    obtain ⟨sw, v0, v1, rfl, -, -, -⟩ := hv
    clear hb3
    go_wp2_with fail
    refine (is_says _ _ _ SU.out).mono ?_
    rintro e w4 ⟨rfl, hb4⟩
    obtain ⟨hc, hf⟩ := bcell hb4
    have W4 := Lib.hid hb4
    clear hb4
    go_wp2_with fail
    refine (is_fits _ _ _ SV.out TF'.out).mono ?_
    rintro e w5 ⟨rfl, hb5⟩
    have W5 := Lib.hid hb5
    clear hb5 hc hf
    go_wp2
    go_ret
    refine ⟨rfl, ?_⟩
    refine below_next (below_next ((W3.out.alloc W3.out.size _).alloc ?_ _) W4.out) W5.out
    have := W3.out.size
    simp only [World.size_alloc]; omega
end Go.Proofs.Ytppcgjdggkhndaa
