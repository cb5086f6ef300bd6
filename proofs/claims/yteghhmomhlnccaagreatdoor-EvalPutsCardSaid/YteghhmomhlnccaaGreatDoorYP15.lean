import Derived.Test.YteghhmomhlnccaaGreatDoorYP14
import Derived.StillTailTactics
import Derived.Test.YteghhmomhlnccaaGreatDoorYP5
set_option linter.unusedVariables false
set_option linter.unusedSimpArgs false
namespace Go.Proofs.YteghhmomhlnccaaGreatDoor
open Go.RowKit Go.Lib
set_option maxRecDepth 100000
attribute [local go_sem ↓] eqVal neqVal
open Ev (V R Pl)
set_option maxHeartbeats 2000000 in
theorem marked_c1 (t : List UInt8) (a b : V) (A : Option Addr) (c : Nat) (w : World) (hV : ValsAt w A [a, b]) (ha : Pl a) (hb : Pl b) (hna : a.k ≠ 0) (hnb : b.k ≠ 0) (t0 : (t == [61]) = false) (t1 : (t == [33, 61]) = true) :
  Calls Tryz.prog 91 #[.string (tx t), .slice A 2 c] w fun e w' => e = .returned (outR (Ev.bin t a b)) ∧ Below w.heap.size w w' := by
 have b0 := (Below.refl w.heap.size w).alloc (Nat.le_refl _) (.cells #[.int .i64 0, .int .i64 0, .string ⟨#[]⟩] 23)
 have r0 := Row3.new w 0 0 ⟨#[]⟩
 have hV1 := hV.below b0
 obtain ⟨B, O, rfl, hB, ⟨x0, x1, x2⟩, y0, y1, y2⟩ := vals_two hV1
 have HBB : Hid (B < w.heap.size) := Lib.hid (by obtain ⟨b', o', e, h, -⟩ := hV 0 (by simp); cases e; exact h)
 clear hB
 have HL : Hid (Ex.lev t = 3) := Lib.hid (Ev.lev3.2 (by first | exact .inl (by simpa using t0) | exact .inr (.inl (by simpa using t1)) | exact .inr (.inr (.inl (by simpa using t2))) | exact .inr (.inr (.inr (.inl (by simpa using t3)))) | exact .inr (.inr (.inr (.inr (.inl (by simpa using t4))))) | exact .inr (.inr (.inr (.inr (.inr (by simpa using t5)))))))
 have AT := Lib.hid (fun U g hU hK => are_two2 a b a.k a.k (some ⟨B, O, none⟩) c _ U g hV1 hU hK)
 have HD : Hid ((decide (a.k = a.k ∨ a.k = 0) && decide (b.k = a.k ∨ b.k = 0)) = decide (a.k = b.k)) := Lib.hid (by rw [Bool.eq_iff_iff]; simp; omega)
 rw [HD.out] at AT
 have FIN : Hid (a.k = b.k → Ev.bin t a b = Ev.ok (Ev.tru (Ev.standB t (cmpV a.k a.n (tx a.s) b.k b.n (tx b.s))))) := Lib.hid (fun h => by rw [Ev.bin, if_pos HL.out, if_pos h, Ev.cmp_stands t ha hb])
 have BAD : Hid (¬ a.k = b.k → Ev.bin t a b = Ev.err 10) := Lib.hid (fun h => by rw [Ev.bin, if_pos HL.out, if_neg h])
 have CMP := Lib.hid (fun W => compare_any a.k a.n (tx a.s) b.k b.n (tx b.s) W (by have := (pl_size ha).1; omega) (by have := (pl_size hb).1; omega))
 obtain ⟨ka, na, sa⟩ := a
 obtain ⟨kb, nb, sb⟩ := b
 dsimp only at *
 clear hV hna hnb ha hb HL HD
 by_cases hk : ka = kb
 ·have HR := Lib.hid (FIN.out hk)
  have HDD : Hid (decide (ka = kb) = true) := Lib.hid (by simpa using hk)
  rw [HDD.out] at AT
  clear FIN BAD hk
  obtain ⟨W1, hW1⟩ : ∃ W1, w.alloc (.cells #[.int .i64 0, .int .i64 0, .string ⟨#[]⟩] 23) = W1 := ⟨_, rfl⟩
  rw [hW1] at b0 r0 hV1 x0 x1 x2 y0 y1 y2 AT
  have B0 := Lib.hid b0
  have R0 := Lib.hid r0
  have HV1 := Lib.hid hV1
  have HBW : Hid (B < W1.heap.size) := Lib.hid (by have := HBB.out; have := r0.lt; omega)
  clear b0 r0 hV1
  go_enter Tryz.func91, Tryz.ntmps91
  go_upto_region 10 with fail
  go_cut [42] from 32 to 42 (fun s42 wc => s42 = .bool true ∧ Hid (Below W1.heap.size W1 wc))
  case first =>
   go_region_with (go_at_call 34; refine (AT.out _ _ (by first | exact ((Below.refl _ _).alloc (Nat.le_refl _) _).drew | exact (Below.refl _ _).alloc (Nat.le_refl _) _ | exact below_drewN ((Below.refl _ _).alloc (Nat.le_refl _) _) _ | exact below_drewN (((Below.refl _ _).alloc (Nat.le_refl _) _).drew) _) (by exact Whole.new W1 _ _)).mono ?_; rintro e W2 ⟨rfl, hb2⟩)
   all_goals
    go_wp2_with fail
    go_meet
    case rel => exact ⟨rfl, Lib.hid hb2⟩
  case rest =>
   obtain ⟨rfl, HB2⟩ := hcut
   obtain ⟨W2, rfl⟩ : ∃ W2, W2 = wc := ⟨wc, rfl⟩
   have hb2 := HB2.out
   have R2 := Lib.hid (R0.out.below hb2 R0.out.lt)
   have B2 := Lib.hid (B0.out.trans (hb2.mono B0.out.size))
   have x0' := (hb2.cell (p := ⟨B, O, none⟩) HBW.out).trans x0
   have x1' := (hb2.cell (p := ⟨B, O + 1, none⟩) HBW.out).trans x1
   have x2' := (hb2.cell (p := ⟨B, O + 2, none⟩) HBW.out).trans x2
   have y0' := (hb2.cell (p := ⟨B, O + 3, none⟩) HBW.out).trans y0
   have y1' := (hb2.cell (p := ⟨B, O + 3 + 1, none⟩) HBW.out).trans y1
   have y2' := (hb2.cell (p := ⟨B, O + 3 + 2, none⟩) HBW.out).trans y2
   clear x0 x1 x2 y0 y1 y2
   generalize cmpV ka na (tx sa) kb nb (tx sb) = o at *
   have CM := Lib.hid (fun W (hW : Below W2.heap.size W2 W) => call_over hW (CMP.out W))
   have ST := Lib.hid (stands_any t o)
   have BO := Lib.hid (fun W (hW : Below W2.heap.size W2 W) => (bool_any (Ev.standB t o) W).mono (fun e w' h => (⟨h.1, bstep hW h.2⟩ : e = .returned (val 3 (bit (Ev.standB t o)) ⟨#[]⟩) ∧ Below W2.heap.size W2 w')))
   clear hb2 AT CMP
   go_upto_region 11 with fail
   go_region_with (first
    | (go_at_call 115; refine (CM.out _ (by first | exact below_drewN (Below.refl _ _) _ | exact (Below.refl _ _).drew | exact Below.refl _ _)).mono ?_; rintro e W3 ⟨rfl, hb3⟩)
    | (go_at_call 114; refine (ST.out _).mono ?_; rintro e W4 ⟨rfl, rfl⟩)
    | (go_at_call 29; refine (BO.out _ (by first | exact hb3 | exact hb3.drew | exact below_drewN hb3 _)).mono ?_; rintro e W5 ⟨rfl, hb5⟩; have R5 := Lib.hid (R2.out.below hb5 R2.out.lt); obtain ⟨d1, d2, d3⟩ := R5.out.holds; have f0 := R5.out.frozen 0; have f1 := R5.out.frozen 1; have f2 := R5.out.frozen 2; have B5 := Lib.hid (B2.out.trans (hb5.mono B2.out.size))))
   all_goals
    go_wp2_with fail
    exact fin_R Tryz.results91 rfl rfl rfl R5.out B5.out (Nat.le_refl _) (by rw [HR.out, ← bit_tru]; rfl)
 ·have HR := Lib.hid (BAD.out hk)
  have HDD : Hid (decide (ka = kb) = false) := Lib.hid (by simpa using hk)
  rw [HDD.out] at AT
  clear FIN BAD hk CMP
  obtain ⟨W1, hW1⟩ : ∃ W1, w.alloc (.cells #[.int .i64 0, .int .i64 0, .string ⟨#[]⟩] 23) = W1 := ⟨_, rfl⟩
  rw [hW1] at b0 r0 hV1 x0 x1 x2 y0 y1 y2 AT
  have B0 := Lib.hid b0
  have R0 := Lib.hid r0
  have HV1 := Lib.hid hV1
  have HBW : Hid (B < W1.heap.size) := Lib.hid (by have := HBB.out; have := r0.lt; omega)
  clear b0 r0 hV1
  go_enter Tryz.func91, Tryz.ntmps91
  go_upto_region 10 with fail
  go_cut [42] from 32 to 42 (fun s42 wc => s42 = .bool false ∧ Hid (Below W1.heap.size W1 wc))
  case first =>
   go_region_with (go_at_call 34; refine (AT.out _ _ (by first | exact ((Below.refl _ _).alloc (Nat.le_refl _) _).drew | exact (Below.refl _ _).alloc (Nat.le_refl _) _ | exact below_drewN ((Below.refl _ _).alloc (Nat.le_refl _) _) _ | exact below_drewN (((Below.refl _ _).alloc (Nat.le_refl _) _).drew) _) (by exact Whole.new W1 _ _)).mono ?_; rintro e W2 ⟨rfl, hb2⟩)
   all_goals
    go_wp2_with fail
    go_meet
    case rel => exact ⟨rfl, Lib.hid hb2⟩
  case rest =>
   obtain ⟨rfl, HB2⟩ := hcut
   obtain ⟨W2, rfl⟩ : ∃ W2, W2 = wc := ⟨wc, rfl⟩
   have hb2 := HB2.out
   have R2 := Lib.hid (R0.out.below hb2 R0.out.lt)
   have B2 := Lib.hid (B0.out.trans (hb2.mono B0.out.size))
   clear x0 x1 x2 y0 y1 y2 AT
   go_wp2_with fail
   refine (efail_any _ _).mono ?_
   rintro e w3 ⟨rfl, hb3⟩
   have R3 := Lib.hid (R2.out.below hb3 R2.out.lt)
   have B3 := Lib.hid (bstep B2.out hb3)
   clear hb3
   obtain ⟨d1, d2, d3⟩ := R3.out.holds
   have f0 := R3.out.frozen 0
   have f1 := R3.out.frozen 1
   have f2 := R3.out.frozen 2
   unfold outR vv vcells Ev.err Ev.z
   go_wp2_with fail
   exact fin_R Tryz.results91 rfl rfl rfl R3.out B3.out (Nat.le_refl _) (by rw [HR.out]; rfl)
end Go.Proofs.YteghhmomhlnccaaGreatDoor
namespace Go.Proofs.YteghhmomhlnccaaGreatDoor
open Go.RowKit Go.Lib
set_option maxRecDepth 100000
attribute [local go_sem ↓] eqVal neqVal
open Ev (V R Pl)
set_option maxHeartbeats 2000000 in
theorem marked_c2 (t : List UInt8) (a b : V) (A : Option Addr) (c : Nat) (w : World) (hV : ValsAt w A [a, b]) (ha : Pl a) (hb : Pl b) (hna : a.k ≠ 0) (hnb : b.k ≠ 0) (t0 : (t == [61]) = false) (t1 : (t == [33, 61]) = false) (t2 : (t == [60]) = true) :
  Calls Tryz.prog 91 #[.string (tx t), .slice A 2 c] w fun e w' => e = .returned (outR (Ev.bin t a b)) ∧ Below w.heap.size w w' := by
 have b0 := (Below.refl w.heap.size w).alloc (Nat.le_refl _) (.cells #[.int .i64 0, .int .i64 0, .string ⟨#[]⟩] 23)
 have r0 := Row3.new w 0 0 ⟨#[]⟩
 have hV1 := hV.below b0
 obtain ⟨B, O, rfl, hB, ⟨x0, x1, x2⟩, y0, y1, y2⟩ := vals_two hV1
 have HBB : Hid (B < w.heap.size) := Lib.hid (by obtain ⟨b', o', e, h, -⟩ := hV 0 (by simp); cases e; exact h)
 clear hB
 have HL : Hid (Ex.lev t = 3) := Lib.hid (Ev.lev3.2 (by first | exact .inl (by simpa using t0) | exact .inr (.inl (by simpa using t1)) | exact .inr (.inr (.inl (by simpa using t2))) | exact .inr (.inr (.inr (.inl (by simpa using t3)))) | exact .inr (.inr (.inr (.inr (.inl (by simpa using t4))))) | exact .inr (.inr (.inr (.inr (.inr (by simpa using t5)))))))
 have AT := Lib.hid (fun U g hU hK => are_two2 a b a.k a.k (some ⟨B, O, none⟩) c _ U g hV1 hU hK)
 have HD : Hid ((decide (a.k = a.k ∨ a.k = 0) && decide (b.k = a.k ∨ b.k = 0)) = decide (a.k = b.k)) := Lib.hid (by rw [Bool.eq_iff_iff]; simp; omega)
 rw [HD.out] at AT
 have FIN : Hid (a.k = b.k → Ev.bin t a b = Ev.ok (Ev.tru (Ev.standB t (cmpV a.k a.n (tx a.s) b.k b.n (tx b.s))))) := Lib.hid (fun h => by rw [Ev.bin, if_pos HL.out, if_pos h, Ev.cmp_stands t ha hb])
 have BAD : Hid (¬ a.k = b.k → Ev.bin t a b = Ev.err 10) := Lib.hid (fun h => by rw [Ev.bin, if_pos HL.out, if_neg h])
 have CMP := Lib.hid (fun W => compare_any a.k a.n (tx a.s) b.k b.n (tx b.s) W (by have := (pl_size ha).1; omega) (by have := (pl_size hb).1; omega))
 obtain ⟨ka, na, sa⟩ := a
 obtain ⟨kb, nb, sb⟩ := b
 dsimp only at *
 clear hV hna hnb ha hb HL HD
 by_cases hk : ka = kb
 ·have HR := Lib.hid (FIN.out hk)
  have HDD : Hid (decide (ka = kb) = true) := Lib.hid (by simpa using hk)
  rw [HDD.out] at AT
  clear FIN BAD hk
  obtain ⟨W1, hW1⟩ : ∃ W1, w.alloc (.cells #[.int .i64 0, .int .i64 0, .string ⟨#[]⟩] 23) = W1 := ⟨_, rfl⟩
  rw [hW1] at b0 r0 hV1 x0 x1 x2 y0 y1 y2 AT
  have B0 := Lib.hid b0
  have R0 := Lib.hid r0
  have HV1 := Lib.hid hV1
  have HBW : Hid (B < W1.heap.size) := Lib.hid (by have := HBB.out; have := r0.lt; omega)
  clear b0 r0 hV1
  go_enter Tryz.func91, Tryz.ntmps91
  go_upto_region 10 with fail
  go_cut [42] from 32 to 42 (fun s42 wc => s42 = .bool true ∧ Hid (Below W1.heap.size W1 wc))
  case first =>
   go_region_with (go_at_call 34; refine (AT.out _ _ (by first | exact ((Below.refl _ _).alloc (Nat.le_refl _) _).drew | exact (Below.refl _ _).alloc (Nat.le_refl _) _ | exact below_drewN ((Below.refl _ _).alloc (Nat.le_refl _) _) _ | exact below_drewN (((Below.refl _ _).alloc (Nat.le_refl _) _).drew) _) (by exact Whole.new W1 _ _)).mono ?_; rintro e W2 ⟨rfl, hb2⟩)
   all_goals
    go_wp2_with fail
    go_meet
    case rel => exact ⟨rfl, Lib.hid hb2⟩
  case rest =>
   obtain ⟨rfl, HB2⟩ := hcut
   obtain ⟨W2, rfl⟩ : ∃ W2, W2 = wc := ⟨wc, rfl⟩
   have hb2 := HB2.out
   have R2 := Lib.hid (R0.out.below hb2 R0.out.lt)
   have B2 := Lib.hid (B0.out.trans (hb2.mono B0.out.size))
   have x0' := (hb2.cell (p := ⟨B, O, none⟩) HBW.out).trans x0
   have x1' := (hb2.cell (p := ⟨B, O + 1, none⟩) HBW.out).trans x1
   have x2' := (hb2.cell (p := ⟨B, O + 2, none⟩) HBW.out).trans x2
   have y0' := (hb2.cell (p := ⟨B, O + 3, none⟩) HBW.out).trans y0
   have y1' := (hb2.cell (p := ⟨B, O + 3 + 1, none⟩) HBW.out).trans y1
   have y2' := (hb2.cell (p := ⟨B, O + 3 + 2, none⟩) HBW.out).trans y2
   clear x0 x1 x2 y0 y1 y2
   generalize cmpV ka na (tx sa) kb nb (tx sb) = o at *
   have CM := Lib.hid (fun W (hW : Below W2.heap.size W2 W) => call_over hW (CMP.out W))
   have ST := Lib.hid (stands_any t o)
   have BO := Lib.hid (fun W (hW : Below W2.heap.size W2 W) => (bool_any (Ev.standB t o) W).mono (fun e w' h => (⟨h.1, bstep hW h.2⟩ : e = .returned (val 3 (bit (Ev.standB t o)) ⟨#[]⟩) ∧ Below W2.heap.size W2 w')))
   clear hb2 AT CMP
   go_upto_region 11 with fail
   go_region_with (first
    | (go_at_call 115; refine (CM.out _ (by first | exact below_drewN (Below.refl _ _) _ | exact (Below.refl _ _).drew | exact Below.refl _ _)).mono ?_; rintro e W3 ⟨rfl, hb3⟩)
    | (go_at_call 114; refine (ST.out _).mono ?_; rintro e W4 ⟨rfl, rfl⟩)
    | (go_at_call 29; refine (BO.out _ (by first | exact hb3 | exact hb3.drew | exact below_drewN hb3 _)).mono ?_; rintro e W5 ⟨rfl, hb5⟩; have R5 := Lib.hid (R2.out.below hb5 R2.out.lt); obtain ⟨d1, d2, d3⟩ := R5.out.holds; have f0 := R5.out.frozen 0; have f1 := R5.out.frozen 1; have f2 := R5.out.frozen 2; have B5 := Lib.hid (B2.out.trans (hb5.mono B2.out.size))))
   all_goals
    go_wp2_with fail
    exact fin_R Tryz.results91 rfl rfl rfl R5.out B5.out (Nat.le_refl _) (by rw [HR.out, ← bit_tru]; rfl)
 ·have HR := Lib.hid (BAD.out hk)
  have HDD : Hid (decide (ka = kb) = false) := Lib.hid (by simpa using hk)
  rw [HDD.out] at AT
  clear FIN BAD hk CMP
  obtain ⟨W1, hW1⟩ : ∃ W1, w.alloc (.cells #[.int .i64 0, .int .i64 0, .string ⟨#[]⟩] 23) = W1 := ⟨_, rfl⟩
  rw [hW1] at b0 r0 hV1 x0 x1 x2 y0 y1 y2 AT
  have B0 := Lib.hid b0
  have R0 := Lib.hid r0
  have HV1 := Lib.hid hV1
  have HBW : Hid (B < W1.heap.size) := Lib.hid (by have := HBB.out; have := r0.lt; omega)
  clear b0 r0 hV1
  go_enter Tryz.func91, Tryz.ntmps91
  go_upto_region 10 with fail
  go_cut [42] from 32 to 42 (fun s42 wc => s42 = .bool false ∧ Hid (Below W1.heap.size W1 wc))
  case first =>
   go_region_with (go_at_call 34; refine (AT.out _ _ (by first | exact ((Below.refl _ _).alloc (Nat.le_refl _) _).drew | exact (Below.refl _ _).alloc (Nat.le_refl _) _ | exact below_drewN ((Below.refl _ _).alloc (Nat.le_refl _) _) _ | exact below_drewN (((Below.refl _ _).alloc (Nat.le_refl _) _).drew) _) (by exact Whole.new W1 _ _)).mono ?_; rintro e W2 ⟨rfl, hb2⟩)
   all_goals
    go_wp2_with fail
    go_meet
    case rel => exact ⟨rfl, Lib.hid hb2⟩
  case rest =>
   obtain ⟨rfl, HB2⟩ := hcut
   obtain ⟨W2, rfl⟩ : ∃ W2, W2 = wc := ⟨wc, rfl⟩
   have hb2 := HB2.out
   have R2 := Lib.hid (R0.out.below hb2 R0.out.lt)
   have B2 := Lib.hid (B0.out.trans (hb2.mono B0.out.size))
   clear x0 x1 x2 y0 y1 y2 AT
   go_wp2_with fail
   refine (efail_any _ _).mono ?_
   rintro e w3 ⟨rfl, hb3⟩
   have R3 := Lib.hid (R2.out.below hb3 R2.out.lt)
   have B3 := Lib.hid (bstep B2.out hb3)
   clear hb3
   obtain ⟨d1, d2, d3⟩ := R3.out.holds
   have f0 := R3.out.frozen 0
   have f1 := R3.out.frozen 1
   have f2 := R3.out.frozen 2
   unfold outR vv vcells Ev.err Ev.z
   go_wp2_with fail
   exact fin_R Tryz.results91 rfl rfl rfl R3.out B3.out (Nat.le_refl _) (by rw [HR.out]; rfl)
end Go.Proofs.YteghhmomhlnccaaGreatDoor
namespace Go.Proofs.YteghhmomhlnccaaGreatDoor
open Go.RowKit Go.Lib
set_option maxRecDepth 100000
attribute [local go_sem ↓] eqVal neqVal
open Ev (V R Pl)
set_option maxHeartbeats 2000000 in
theorem marked_c3 (t : List UInt8) (a b : V) (A : Option Addr) (c : Nat) (w : World) (hV : ValsAt w A [a, b]) (ha : Pl a) (hb : Pl b) (hna : a.k ≠ 0) (hnb : b.k ≠ 0) (t0 : (t == [61]) = false) (t1 : (t == [33, 61]) = false) (t2 : (t == [60]) = false) (t3 : (t == [60, 61]) = true) :
  Calls Tryz.prog 91 #[.string (tx t), .slice A 2 c] w fun e w' => e = .returned (outR (Ev.bin t a b)) ∧ Below w.heap.size w w' := by
 have b0 := (Below.refl w.heap.size w).alloc (Nat.le_refl _) (.cells #[.int .i64 0, .int .i64 0, .string ⟨#[]⟩] 23)
 have r0 := Row3.new w 0 0 ⟨#[]⟩
 have hV1 := hV.below b0
 obtain ⟨B, O, rfl, hB, ⟨x0, x1, x2⟩, y0, y1, y2⟩ := vals_two hV1
 have HBB : Hid (B < w.heap.size) := Lib.hid (by obtain ⟨b', o', e, h, -⟩ := hV 0 (by simp); cases e; exact h)
 clear hB
 have HL : Hid (Ex.lev t = 3) := Lib.hid (Ev.lev3.2 (by first | exact .inl (by simpa using t0) | exact .inr (.inl (by simpa using t1)) | exact .inr (.inr (.inl (by simpa using t2))) | exact .inr (.inr (.inr (.inl (by simpa using t3)))) | exact .inr (.inr (.inr (.inr (.inl (by simpa using t4))))) | exact .inr (.inr (.inr (.inr (.inr (by simpa using t5)))))))
 have AT := Lib.hid (fun U g hU hK => are_two2 a b a.k a.k (some ⟨B, O, none⟩) c _ U g hV1 hU hK)
 have HD : Hid ((decide (a.k = a.k ∨ a.k = 0) && decide (b.k = a.k ∨ b.k = 0)) = decide (a.k = b.k)) := Lib.hid (by rw [Bool.eq_iff_iff]; simp; omega)
 rw [HD.out] at AT
 have FIN : Hid (a.k = b.k → Ev.bin t a b = Ev.ok (Ev.tru (Ev.standB t (cmpV a.k a.n (tx a.s) b.k b.n (tx b.s))))) := Lib.hid (fun h => by rw [Ev.bin, if_pos HL.out, if_pos h, Ev.cmp_stands t ha hb])
 have BAD : Hid (¬ a.k = b.k → Ev.bin t a b = Ev.err 10) := Lib.hid (fun h => by rw [Ev.bin, if_pos HL.out, if_neg h])
 have CMP := Lib.hid (fun W => compare_any a.k a.n (tx a.s) b.k b.n (tx b.s) W (by have := (pl_size ha).1; omega) (by have := (pl_size hb).1; omega))
 obtain ⟨ka, na, sa⟩ := a
 obtain ⟨kb, nb, sb⟩ := b
 dsimp only at *
 clear hV hna hnb ha hb HL HD
 by_cases hk : ka = kb
 ·have HR := Lib.hid (FIN.out hk)
  have HDD : Hid (decide (ka = kb) = true) := Lib.hid (by simpa using hk)
  rw [HDD.out] at AT
  clear FIN BAD hk
  obtain ⟨W1, hW1⟩ : ∃ W1, w.alloc (.cells #[.int .i64 0, .int .i64 0, .string ⟨#[]⟩] 23) = W1 := ⟨_, rfl⟩
  rw [hW1] at b0 r0 hV1 x0 x1 x2 y0 y1 y2 AT
  have B0 := Lib.hid b0
  have R0 := Lib.hid r0
  have HV1 := Lib.hid hV1
  have HBW : Hid (B < W1.heap.size) := Lib.hid (by have := HBB.out; have := r0.lt; omega)
  clear b0 r0 hV1
  go_enter Tryz.func91, Tryz.ntmps91
  go_upto_region 10 with fail
  go_cut [42] from 32 to 42 (fun s42 wc => s42 = .bool true ∧ Hid (Below W1.heap.size W1 wc))
  case first =>
   go_region_with (go_at_call 34; refine (AT.out _ _ (by first | exact ((Below.refl _ _).alloc (Nat.le_refl _) _).drew | exact (Below.refl _ _).alloc (Nat.le_refl _) _ | exact below_drewN ((Below.refl _ _).alloc (Nat.le_refl _) _) _ | exact below_drewN (((Below.refl _ _).alloc (Nat.le_refl _) _).drew) _) (by exact Whole.new W1 _ _)).mono ?_; rintro e W2 ⟨rfl, hb2⟩)
   all_goals
    go_wp2_with fail
    go_meet
    case rel => exact ⟨rfl, Lib.hid hb2⟩
  case rest =>
   obtain ⟨rfl, HB2⟩ := hcut
   obtain ⟨W2, rfl⟩ : ∃ W2, W2 = wc := ⟨wc, rfl⟩
   have hb2 := HB2.out
   have R2 := Lib.hid (R0.out.below hb2 R0.out.lt)
   have B2 := Lib.hid (B0.out.trans (hb2.mono B0.out.size))
   have x0' := (hb2.cell (p := ⟨B, O, none⟩) HBW.out).trans x0
   have x1' := (hb2.cell (p := ⟨B, O + 1, none⟩) HBW.out).trans x1
   have x2' := (hb2.cell (p := ⟨B, O + 2, none⟩) HBW.out).trans x2
   have y0' := (hb2.cell (p := ⟨B, O + 3, none⟩) HBW.out).trans y0
   have y1' := (hb2.cell (p := ⟨B, O + 3 + 1, none⟩) HBW.out).trans y1
   have y2' := (hb2.cell (p := ⟨B, O + 3 + 2, none⟩) HBW.out).trans y2
   clear x0 x1 x2 y0 y1 y2
   generalize cmpV ka na (tx sa) kb nb (tx sb) = o at *
   have CM := Lib.hid (fun W (hW : Below W2.heap.size W2 W) => call_over hW (CMP.out W))
   have ST := Lib.hid (stands_any t o)
   have BO := Lib.hid (fun W (hW : Below W2.heap.size W2 W) => (bool_any (Ev.standB t o) W).mono (fun e w' h => (⟨h.1, bstep hW h.2⟩ : e = .returned (val 3 (bit (Ev.standB t o)) ⟨#[]⟩) ∧ Below W2.heap.size W2 w')))
   clear hb2 AT CMP
   go_upto_region 11 with fail
   go_region_with (first
    | (go_at_call 115; refine (CM.out _ (by first | exact below_drewN (Below.refl _ _) _ | exact (Below.refl _ _).drew | exact Below.refl _ _)).mono ?_; rintro e W3 ⟨rfl, hb3⟩)
    | (go_at_call 114; refine (ST.out _).mono ?_; rintro e W4 ⟨rfl, rfl⟩)
    | (go_at_call 29; refine (BO.out _ (by first | exact hb3 | exact hb3.drew | exact below_drewN hb3 _)).mono ?_; rintro e W5 ⟨rfl, hb5⟩; have R5 := Lib.hid (R2.out.below hb5 R2.out.lt); obtain ⟨d1, d2, d3⟩ := R5.out.holds; have f0 := R5.out.frozen 0; have f1 := R5.out.frozen 1; have f2 := R5.out.frozen 2; have B5 := Lib.hid (B2.out.trans (hb5.mono B2.out.size))))
   all_goals
    go_wp2_with fail
    exact fin_R Tryz.results91 rfl rfl rfl R5.out B5.out (Nat.le_refl _) (by rw [HR.out, ← bit_tru]; rfl)
 ·have HR := Lib.hid (BAD.out hk)
  have HDD : Hid (decide (ka = kb) = false) := Lib.hid (by simpa using hk)
  rw [HDD.out] at AT
  clear FIN BAD hk CMP
  obtain ⟨W1, hW1⟩ : ∃ W1, w.alloc (.cells #[.int .i64 0, .int .i64 0, .string ⟨#[]⟩] 23) = W1 := ⟨_, rfl⟩
  rw [hW1] at b0 r0 hV1 x0 x1 x2 y0 y1 y2 AT
  have B0 := Lib.hid b0
  have R0 := Lib.hid r0
  have HV1 := Lib.hid hV1
  have HBW : Hid (B < W1.heap.size) := Lib.hid (by have := HBB.out; have := r0.lt; omega)
  clear b0 r0 hV1
  go_enter Tryz.func91, Tryz.ntmps91
  go_upto_region 10 with fail
  go_cut [42] from 32 to 42 (fun s42 wc => s42 = .bool false ∧ Hid (Below W1.heap.size W1 wc))
  case first =>
   go_region_with (go_at_call 34; refine (AT.out _ _ (by first | exact ((Below.refl _ _).alloc (Nat.le_refl _) _).drew | exact (Below.refl _ _).alloc (Nat.le_refl _) _ | exact below_drewN ((Below.refl _ _).alloc (Nat.le_refl _) _) _ | exact below_drewN (((Below.refl _ _).alloc (Nat.le_refl _) _).drew) _) (by exact Whole.new W1 _ _)).mono ?_; rintro e W2 ⟨rfl, hb2⟩)
   all_goals
    go_wp2_with fail
    go_meet
    case rel => exact ⟨rfl, Lib.hid hb2⟩
  case rest =>
   obtain ⟨rfl, HB2⟩ := hcut
   obtain ⟨W2, rfl⟩ : ∃ W2, W2 = wc := ⟨wc, rfl⟩
   have hb2 := HB2.out
   have R2 := Lib.hid (R0.out.below hb2 R0.out.lt)
   have B2 := Lib.hid (B0.out.trans (hb2.mono B0.out.size))
   clear x0 x1 x2 y0 y1 y2 AT
   go_wp2_with fail
   refine (efail_any _ _).mono ?_
   rintro e w3 ⟨rfl, hb3⟩
   have R3 := Lib.hid (R2.out.below hb3 R2.out.lt)
   have B3 := Lib.hid (bstep B2.out hb3)
   clear hb3
   obtain ⟨d1, d2, d3⟩ := R3.out.holds
   have f0 := R3.out.frozen 0
   have f1 := R3.out.frozen 1
   have f2 := R3.out.frozen 2
   unfold outR vv vcells Ev.err Ev.z
   go_wp2_with fail
   exact fin_R Tryz.results91 rfl rfl rfl R3.out B3.out (Nat.le_refl _) (by rw [HR.out]; rfl)
end Go.Proofs.YteghhmomhlnccaaGreatDoor
namespace Go.Proofs.YteghhmomhlnccaaGreatDoor
open Go.RowKit Go.Lib
set_option maxRecDepth 100000
attribute [local go_sem ↓] eqVal neqVal
open Ev (V R Pl)
set_option maxHeartbeats 2000000 in
theorem marked_c4 (t : List UInt8) (a b : V) (A : Option Addr) (c : Nat) (w : World) (hV : ValsAt w A [a, b]) (ha : Pl a) (hb : Pl b) (hna : a.k ≠ 0) (hnb : b.k ≠ 0) (t0 : (t == [61]) = false) (t1 : (t == [33, 61]) = false) (t2 : (t == [60]) = false) (t3 : (t == [60, 61]) = false) (t4 : (t == [62]) = true) :
  Calls Tryz.prog 91 #[.string (tx t), .slice A 2 c] w fun e w' => e = .returned (outR (Ev.bin t a b)) ∧ Below w.heap.size w w' := by
 have b0 := (Below.refl w.heap.size w).alloc (Nat.le_refl _) (.cells #[.int .i64 0, .int .i64 0, .string ⟨#[]⟩] 23)
 have r0 := Row3.new w 0 0 ⟨#[]⟩
 have hV1 := hV.below b0
 obtain ⟨B, O, rfl, hB, ⟨x0, x1, x2⟩, y0, y1, y2⟩ := vals_two hV1
 have HBB : Hid (B < w.heap.size) := Lib.hid (by obtain ⟨b', o', e, h, -⟩ := hV 0 (by simp); cases e; exact h)
 clear hB
 have HL : Hid (Ex.lev t = 3) := Lib.hid (Ev.lev3.2 (by first | exact .inl (by simpa using t0) | exact .inr (.inl (by simpa using t1)) | exact .inr (.inr (.inl (by simpa using t2))) | exact .inr (.inr (.inr (.inl (by simpa using t3)))) | exact .inr (.inr (.inr (.inr (.inl (by simpa using t4))))) | exact .inr (.inr (.inr (.inr (.inr (by simpa using t5)))))))
 have AT := Lib.hid (fun U g hU hK => are_two2 a b a.k a.k (some ⟨B, O, none⟩) c _ U g hV1 hU hK)
 have HD : Hid ((decide (a.k = a.k ∨ a.k = 0) && decide (b.k = a.k ∨ b.k = 0)) = decide (a.k = b.k)) := Lib.hid (by rw [Bool.eq_iff_iff]; simp; omega)
 rw [HD.out] at AT
 have FIN : Hid (a.k = b.k → Ev.bin t a b = Ev.ok (Ev.tru (Ev.standB t (cmpV a.k a.n (tx a.s) b.k b.n (tx b.s))))) := Lib.hid (fun h => by rw [Ev.bin, if_pos HL.out, if_pos h, Ev.cmp_stands t ha hb])
 have BAD : Hid (¬ a.k = b.k → Ev.bin t a b = Ev.err 10) := Lib.hid (fun h => by rw [Ev.bin, if_pos HL.out, if_neg h])
 have CMP := Lib.hid (fun W => compare_any a.k a.n (tx a.s) b.k b.n (tx b.s) W (by have := (pl_size ha).1; omega) (by have := (pl_size hb).1; omega))
 obtain ⟨ka, na, sa⟩ := a
 obtain ⟨kb, nb, sb⟩ := b
 dsimp only at *
 clear hV hna hnb ha hb HL HD
 by_cases hk : ka = kb
 ·have HR := Lib.hid (FIN.out hk)
  have HDD : Hid (decide (ka = kb) = true) := Lib.hid (by simpa using hk)
  rw [HDD.out] at AT
  clear FIN BAD hk
  obtain ⟨W1, hW1⟩ : ∃ W1, w.alloc (.cells #[.int .i64 0, .int .i64 0, .string ⟨#[]⟩] 23) = W1 := ⟨_, rfl⟩
  rw [hW1] at b0 r0 hV1 x0 x1 x2 y0 y1 y2 AT
  have B0 := Lib.hid b0
  have R0 := Lib.hid r0
  have HV1 := Lib.hid hV1
  have HBW : Hid (B < W1.heap.size) := Lib.hid (by have := HBB.out; have := r0.lt; omega)
  clear b0 r0 hV1
  go_enter Tryz.func91, Tryz.ntmps91
  go_upto_region 10 with fail
  go_cut [42] from 32 to 42 (fun s42 wc => s42 = .bool true ∧ Hid (Below W1.heap.size W1 wc))
  case first =>
   go_region_with (go_at_call 34; refine (AT.out _ _ (by first | exact ((Below.refl _ _).alloc (Nat.le_refl _) _).drew | exact (Below.refl _ _).alloc (Nat.le_refl _) _ | exact below_drewN ((Below.refl _ _).alloc (Nat.le_refl _) _) _ | exact below_drewN (((Below.refl _ _).alloc (Nat.le_refl _) _).drew) _) (by exact Whole.new W1 _ _)).mono ?_; rintro e W2 ⟨rfl, hb2⟩)
   all_goals
    go_wp2_with fail
    go_meet
    case rel => exact ⟨rfl, Lib.hid hb2⟩
  case rest =>
   obtain ⟨rfl, HB2⟩ := hcut
   obtain ⟨W2, rfl⟩ : ∃ W2, W2 = wc := ⟨wc, rfl⟩
   have hb2 := HB2.out
   have R2 := Lib.hid (R0.out.below hb2 R0.out.lt)
   have B2 := Lib.hid (B0.out.trans (hb2.mono B0.out.size))
   have x0' := (hb2.cell (p := ⟨B, O, none⟩) HBW.out).trans x0
   have x1' := (hb2.cell (p := ⟨B, O + 1, none⟩) HBW.out).trans x1
   have x2' := (hb2.cell (p := ⟨B, O + 2, none⟩) HBW.out).trans x2
   have y0' := (hb2.cell (p := ⟨B, O + 3, none⟩) HBW.out).trans y0
   have y1' := (hb2.cell (p := ⟨B, O + 3 + 1, none⟩) HBW.out).trans y1
   have y2' := (hb2.cell (p := ⟨B, O + 3 + 2, none⟩) HBW.out).trans y2
   clear x0 x1 x2 y0 y1 y2
   generalize cmpV ka na (tx sa) kb nb (tx sb) = o at *
   have CM := Lib.hid (fun W (hW : Below W2.heap.size W2 W) => call_over hW (CMP.out W))
   have ST := Lib.hid (stands_any t o)
   have BO := Lib.hid (fun W (hW : Below W2.heap.size W2 W) => (bool_any (Ev.standB t o) W).mono (fun e w' h => (⟨h.1, bstep hW h.2⟩ : e = .returned (val 3 (bit (Ev.standB t o)) ⟨#[]⟩) ∧ Below W2.heap.size W2 w')))
   clear hb2 AT CMP
   go_upto_region 11 with fail
   go_region_with (first
    | (go_at_call 115; refine (CM.out _ (by first | exact below_drewN (Below.refl _ _) _ | exact (Below.refl _ _).drew | exact Below.refl _ _)).mono ?_; rintro e W3 ⟨rfl, hb3⟩)
    | (go_at_call 114; refine (ST.out _).mono ?_; rintro e W4 ⟨rfl, rfl⟩)
    | (go_at_call 29; refine (BO.out _ (by first | exact hb3 | exact hb3.drew | exact below_drewN hb3 _)).mono ?_; rintro e W5 ⟨rfl, hb5⟩; have R5 := Lib.hid (R2.out.below hb5 R2.out.lt); obtain ⟨d1, d2, d3⟩ := R5.out.holds; have f0 := R5.out.frozen 0; have f1 := R5.out.frozen 1; have f2 := R5.out.frozen 2; have B5 := Lib.hid (B2.out.trans (hb5.mono B2.out.size))))
   all_goals
    go_wp2_with fail
    exact fin_R Tryz.results91 rfl rfl rfl R5.out B5.out (Nat.le_refl _) (by rw [HR.out, ← bit_tru]; rfl)
 ·have HR := Lib.hid (BAD.out hk)
  have HDD : Hid (decide (ka = kb) = false) := Lib.hid (by simpa using hk)
  rw [HDD.out] at AT
  clear FIN BAD hk CMP
  obtain ⟨W1, hW1⟩ : ∃ W1, w.alloc (.cells #[.int .i64 0, .int .i64 0, .string ⟨#[]⟩] 23) = W1 := ⟨_, rfl⟩
  rw [hW1] at b0 r0 hV1 x0 x1 x2 y0 y1 y2 AT
  have B0 := Lib.hid b0
  have R0 := Lib.hid r0
  have HV1 := Lib.hid hV1
  have HBW : Hid (B < W1.heap.size) := Lib.hid (by have := HBB.out; have := r0.lt; omega)
  clear b0 r0 hV1
  go_enter Tryz.func91, Tryz.ntmps91
  go_upto_region 10 with fail
  go_cut [42] from 32 to 42 (fun s42 wc => s42 = .bool false ∧ Hid (Below W1.heap.size W1 wc))
  case first =>
   go_region_with (go_at_call 34; refine (AT.out _ _ (by first | exact ((Below.refl _ _).alloc (Nat.le_refl _) _).drew | exact (Below.refl _ _).alloc (Nat.le_refl _) _ | exact below_drewN ((Below.refl _ _).alloc (Nat.le_refl _) _) _ | exact below_drewN (((Below.refl _ _).alloc (Nat.le_refl _) _).drew) _) (by exact Whole.new W1 _ _)).mono ?_; rintro e W2 ⟨rfl, hb2⟩)
   all_goals
    go_wp2_with fail
    go_meet
    case rel => exact ⟨rfl, Lib.hid hb2⟩
  case rest =>
   obtain ⟨rfl, HB2⟩ := hcut
   obtain ⟨W2, rfl⟩ : ∃ W2, W2 = wc := ⟨wc, rfl⟩
   have hb2 := HB2.out
   have R2 := Lib.hid (R0.out.below hb2 R0.out.lt)
   have B2 := Lib.hid (B0.out.trans (hb2.mono B0.out.size))
   clear x0 x1 x2 y0 y1 y2 AT
   go_wp2_with fail
   refine (efail_any _ _).mono ?_
   rintro e w3 ⟨rfl, hb3⟩
   have R3 := Lib.hid (R2.out.below hb3 R2.out.lt)
   have B3 := Lib.hid (bstep B2.out hb3)
   clear hb3
   obtain ⟨d1, d2, d3⟩ := R3.out.holds
   have f0 := R3.out.frozen 0
   have f1 := R3.out.frozen 1
   have f2 := R3.out.frozen 2
   unfold outR vv vcells Ev.err Ev.z
   go_wp2_with fail
   exact fin_R Tryz.results91 rfl rfl rfl R3.out B3.out (Nat.le_refl _) (by rw [HR.out]; rfl)
end Go.Proofs.YteghhmomhlnccaaGreatDoor
namespace Go.Proofs.YteghhmomhlnccaaGreatDoor
open Go.RowKit Go.Lib
set_option maxRecDepth 100000
attribute [local go_sem ↓] eqVal neqVal
open Ev (V R Pl)
set_option maxHeartbeats 2000000 in
theorem marked_c5 (t : List UInt8) (a b : V) (A : Option Addr) (c : Nat) (w : World) (hV : ValsAt w A [a, b]) (ha : Pl a) (hb : Pl b) (hna : a.k ≠ 0) (hnb : b.k ≠ 0) (t0 : (t == [61]) = false) (t1 : (t == [33, 61]) = false) (t2 : (t == [60]) = false) (t3 : (t == [60, 61]) = false) (t4 : (t == [62]) = false) (t5 : (t == [62, 61]) = true) :
  Calls Tryz.prog 91 #[.string (tx t), .slice A 2 c] w fun e w' => e = .returned (outR (Ev.bin t a b)) ∧ Below w.heap.size w w' := by
 have b0 := (Below.refl w.heap.size w).alloc (Nat.le_refl _) (.cells #[.int .i64 0, .int .i64 0, .string ⟨#[]⟩] 23)
 have r0 := Row3.new w 0 0 ⟨#[]⟩
 have hV1 := hV.below b0
 obtain ⟨B, O, rfl, hB, ⟨x0, x1, x2⟩, y0, y1, y2⟩ := vals_two hV1
 have HBB : Hid (B < w.heap.size) := Lib.hid (by obtain ⟨b', o', e, h, -⟩ := hV 0 (by simp); cases e; exact h)
 clear hB
 have HL : Hid (Ex.lev t = 3) := Lib.hid (Ev.lev3.2 (by first | exact .inl (by simpa using t0) | exact .inr (.inl (by simpa using t1)) | exact .inr (.inr (.inl (by simpa using t2))) | exact .inr (.inr (.inr (.inl (by simpa using t3)))) | exact .inr (.inr (.inr (.inr (.inl (by simpa using t4))))) | exact .inr (.inr (.inr (.inr (.inr (by simpa using t5)))))))
 have AT := Lib.hid (fun U g hU hK => are_two2 a b a.k a.k (some ⟨B, O, none⟩) c _ U g hV1 hU hK)
 have HD : Hid ((decide (a.k = a.k ∨ a.k = 0) && decide (b.k = a.k ∨ b.k = 0)) = decide (a.k = b.k)) := Lib.hid (by rw [Bool.eq_iff_iff]; simp; omega)
 rw [HD.out] at AT
 have FIN : Hid (a.k = b.k → Ev.bin t a b = Ev.ok (Ev.tru (Ev.standB t (cmpV a.k a.n (tx a.s) b.k b.n (tx b.s))))) := Lib.hid (fun h => by rw [Ev.bin, if_pos HL.out, if_pos h, Ev.cmp_stands t ha hb])
 have BAD : Hid (¬ a.k = b.k → Ev.bin t a b = Ev.err 10) := Lib.hid (fun h => by rw [Ev.bin, if_pos HL.out, if_neg h])
 have CMP := Lib.hid (fun W => compare_any a.k a.n (tx a.s) b.k b.n (tx b.s) W (by have := (pl_size ha).1; omega) (by have := (pl_size hb).1; omega))
 obtain ⟨ka, na, sa⟩ := a
 obtain ⟨kb, nb, sb⟩ := b
 dsimp only at *
 clear hV hna hnb ha hb HL HD
 by_cases hk : ka = kb
 ·have HR := Lib.hid (FIN.out hk)
  have HDD : Hid (decide (ka = kb) = true) := Lib.hid (by simpa using hk)
  rw [HDD.out] at AT
  clear FIN BAD hk
  obtain ⟨W1, hW1⟩ : ∃ W1, w.alloc (.cells #[.int .i64 0, .int .i64 0, .string ⟨#[]⟩] 23) = W1 := ⟨_, rfl⟩
  rw [hW1] at b0 r0 hV1 x0 x1 x2 y0 y1 y2 AT
  have B0 := Lib.hid b0
  have R0 := Lib.hid r0
  have HV1 := Lib.hid hV1
  have HBW : Hid (B < W1.heap.size) := Lib.hid (by have := HBB.out; have := r0.lt; omega)
  clear b0 r0 hV1
  go_enter Tryz.func91, Tryz.ntmps91
  go_upto_region 10 with fail
  go_cut [42] from 32 to 42 (fun s42 wc => s42 = .bool true ∧ Hid (Below W1.heap.size W1 wc))
  case first =>
   go_region_with (go_at_call 34; refine (AT.out _ _ (by first | exact ((Below.refl _ _).alloc (Nat.le_refl _) _).drew | exact (Below.refl _ _).alloc (Nat.le_refl _) _ | exact below_drewN ((Below.refl _ _).alloc (Nat.le_refl _) _) _ | exact below_drewN (((Below.refl _ _).alloc (Nat.le_refl _) _).drew) _) (by exact Whole.new W1 _ _)).mono ?_; rintro e W2 ⟨rfl, hb2⟩)
   all_goals
    go_wp2_with fail
    go_meet
    case rel => exact ⟨rfl, Lib.hid hb2⟩
  case rest =>
   obtain ⟨rfl, HB2⟩ := hcut
   obtain ⟨W2, rfl⟩ : ∃ W2, W2 = wc := ⟨wc, rfl⟩
   have hb2 := HB2.out
   have R2 := Lib.hid (R0.out.below hb2 R0.out.lt)
   have B2 := Lib.hid (B0.out.trans (hb2.mono B0.out.size))
   have x0' := (hb2.cell (p := ⟨B, O, none⟩) HBW.out).trans x0
   have x1' := (hb2.cell (p := ⟨B, O + 1, none⟩) HBW.out).trans x1
   have x2' := (hb2.cell (p := ⟨B, O + 2, none⟩) HBW.out).trans x2
   have y0' := (hb2.cell (p := ⟨B, O + 3, none⟩) HBW.out).trans y0
   have y1' := (hb2.cell (p := ⟨B, O + 3 + 1, none⟩) HBW.out).trans y1
   have y2' := (hb2.cell (p := ⟨B, O + 3 + 2, none⟩) HBW.out).trans y2
   clear x0 x1 x2 y0 y1 y2
   generalize cmpV ka na (tx sa) kb nb (tx sb) = o at *
   have CM := Lib.hid (fun W (hW : Below W2.heap.size W2 W) => call_over hW (CMP.out W))
   have ST := Lib.hid (stands_any t o)
   have BO := Lib.hid (fun W (hW : Below W2.heap.size W2 W) => (bool_any (Ev.standB t o) W).mono (fun e w' h => (⟨h.1, bstep hW h.2⟩ : e = .returned (val 3 (bit (Ev.standB t o)) ⟨#[]⟩) ∧ Below W2.heap.size W2 w')))
   clear hb2 AT CMP
   go_upto_region 11 with fail
   go_region_with (first
    | (go_at_call 115; refine (CM.out _ (by first | exact below_drewN (Below.refl _ _) _ | exact (Below.refl _ _).drew | exact Below.refl _ _)).mono ?_; rintro e W3 ⟨rfl, hb3⟩)
    | (go_at_call 114; refine (ST.out _).mono ?_; rintro e W4 ⟨rfl, rfl⟩)
    | (go_at_call 29; refine (BO.out _ (by first | exact hb3 | exact hb3.drew | exact below_drewN hb3 _)).mono ?_; rintro e W5 ⟨rfl, hb5⟩; have R5 := Lib.hid (R2.out.below hb5 R2.out.lt); obtain ⟨d1, d2, d3⟩ := R5.out.holds; have f0 := R5.out.frozen 0; have f1 := R5.out.frozen 1; have f2 := R5.out.frozen 2; have B5 := Lib.hid (B2.out.trans (hb5.mono B2.out.size))))
   all_goals
    go_wp2_with fail
    exact fin_R Tryz.results91 rfl rfl rfl R5.out B5.out (Nat.le_refl _) (by rw [HR.out, ← bit_tru]; rfl)
 ·have HR := Lib.hid (BAD.out hk)
  have HDD : Hid (decide (ka = kb) = false) := Lib.hid (by simpa using hk)
  rw [HDD.out] at AT
  clear FIN BAD hk CMP
  obtain ⟨W1, hW1⟩ : ∃ W1, w.alloc (.cells #[.int .i64 0, .int .i64 0, .string ⟨#[]⟩] 23) = W1 := ⟨_, rfl⟩
  rw [hW1] at b0 r0 hV1 x0 x1 x2 y0 y1 y2 AT
  have B0 := Lib.hid b0
  have R0 := Lib.hid r0
  have HV1 := Lib.hid hV1
  have HBW : Hid (B < W1.heap.size) := Lib.hid (by have := HBB.out; have := r0.lt; omega)
  clear b0 r0 hV1
  go_enter Tryz.func91, Tryz.ntmps91
  go_upto_region 10 with fail
  go_cut [42] from 32 to 42 (fun s42 wc => s42 = .bool false ∧ Hid (Below W1.heap.size W1 wc))
  case first =>
   go_region_with (go_at_call 34; refine (AT.out _ _ (by first | exact ((Below.refl _ _).alloc (Nat.le_refl _) _).drew | exact (Below.refl _ _).alloc (Nat.le_refl _) _ | exact below_drewN ((Below.refl _ _).alloc (Nat.le_refl _) _) _ | exact below_drewN (((Below.refl _ _).alloc (Nat.le_refl _) _).drew) _) (by exact Whole.new W1 _ _)).mono ?_; rintro e W2 ⟨rfl, hb2⟩)
   all_goals
    go_wp2_with fail
    go_meet
    case rel => exact ⟨rfl, Lib.hid hb2⟩
  case rest =>
   obtain ⟨rfl, HB2⟩ := hcut
   obtain ⟨W2, rfl⟩ : ∃ W2, W2 = wc := ⟨wc, rfl⟩
   have hb2 := HB2.out
   have R2 := Lib.hid (R0.out.below hb2 R0.out.lt)
   have B2 := Lib.hid (B0.out.trans (hb2.mono B0.out.size))
   clear x0 x1 x2 y0 y1 y2 AT
   go_wp2_with fail
   refine (efail_any _ _).mono ?_
   rintro e w3 ⟨rfl, hb3⟩
   have R3 := Lib.hid (R2.out.below hb3 R2.out.lt)
   have B3 := Lib.hid (bstep B2.out hb3)
   clear hb3
   obtain ⟨d1, d2, d3⟩ := R3.out.holds
   have f0 := R3.out.frozen 0
   have f1 := R3.out.frozen 1
   have f2 := R3.out.frozen 2
   unfold outR vv vcells Ev.err Ev.z
   go_wp2_with fail
   exact fin_R Tryz.results91 rfl rfl rfl R3.out B3.out (Nat.le_refl _) (by rw [HR.out]; rfl)
end Go.Proofs.YteghhmomhlnccaaGreatDoor
namespace Go.Proofs.YteghhmomhlnccaaGreatDoor
open Go.RowKit Go.Lib
set_option maxRecDepth 100000
attribute [local go_sem ↓] eqVal neqVal
open Ev (V R Pl)
theorem marked_any (t : List UInt8) (a b : V) (A : Option Addr) (c : Nat) (w : World) (hV : ValsAt w A [a, b]) (ha : Pl a) (hb : Pl b) (hna : a.k ≠ 0) (hnb : b.k ≠ 0) :
  Calls Tryz.prog 91 #[.string (tx t), .slice A 2 c] w fun e w' => e = .returned (outR (Ev.bin t a b)) ∧ Below w.heap.size w w' := by
 by_cases h : Ex.lev t = 3
 ·cases t0 : (t == [61])
  case true => exact marked_c0 t a b A c w hV ha hb hna hnb t0
  cases t1 : (t == [33, 61])
  case true => exact marked_c1 t a b A c w hV ha hb hna hnb t0 t1
  cases t2 : (t == [60])
  case true => exact marked_c2 t a b A c w hV ha hb hna hnb t0 t1 t2
  cases t3 : (t == [60, 61])
  case true => exact marked_c3 t a b A c w hV ha hb hna hnb t0 t1 t2 t3
  cases t4 : (t == [62])
  case true => exact marked_c4 t a b A c w hV ha hb hna hnb t0 t1 t2 t3 t4
  cases t5 : (t == [62, 61])
  case true => exact marked_c5 t a b A c w hV ha hb hna hnb t0 t1 t2 t3 t4 t5
  exfalso
  rw [Ev.lev3] at h
  simp_all
 ·cases h6 : (t == [38])
  ·exact marked_num t a b A c w hV ha hb hna hnb h h6
  ·exact marked_and t a b A c w hV ha hb hna hnb h h6
end Go.Proofs.YteghhmomhlnccaaGreatDoor
namespace Go.Proofs.YteghhmomhlnccaaGreatDoor
open Go.RowKit Go.Lib
set_option maxRecDepth 100000
attribute [local go_sem ↓] eqVal neqVal
open Ev (V R Pl)
set_option maxHeartbeats 2000000 in
theorem signed_neg (t : List UInt8) (a : V) (A : Option Addr) (c : Nat) (w : World) (hV : ValsAt w A [a]) (ha : Pl a) (hna : a.k ≠ 0) (ad : Addr) (mx : Int) (hE : Env w ad mx) :
  Calls Tryz.prog 93 #[.int .i64 3, .slice A 1 c] w fun e w' => e = .returned (outR (Ev.un 3 t a)) ∧ Below w.heap.size w w' := by
 have b0 := (Below.refl w.heap.size w).alloc (Nat.le_refl _) (.cells #[.int .i64 0, .int .i64 0, .string ⟨#[]⟩] 23)
 have r0 := Row3.new w 0 0 ⟨#[]⟩
 have hV1 := hV.below b0
 have HE := Lib.hid (hE.below b0)
 obtain ⟨B, O, rfl, hB, x0, x1, x2⟩ := vals_one hV1
 have HBB : Hid (B < w.heap.size) := Lib.hid (by obtain ⟨b', o', e, h, -⟩ := hV 0 (by simp); cases e; exact h)
 clear hB hE
 have AT := Lib.hid (fun U g hU hK => are_one2 a 1 (some ⟨B, O, none⟩) c _ U g hV1 hU hK)
 have HD : Hid (decide (a.k = 1 ∨ a.k = 0) = decide (a.k = 1)) := Lib.hid (by rw [Bool.eq_iff_iff]; simp; omega)
 rw [HD.out] at AT
 have FIN : Hid (a.k = 1 → Ev.un 3 t a = Ev.wholeR (sv (-a.n)) (se (-a.n))) := Lib.hid (fun h => by rw [Ev.un, if_pos rfl, if_pos h, Ev.whole_num])
 have BAD : Hid (¬ (a.k = 1) → Ev.un 3 t a = Ev.err 10) := Lib.hid (fun h => by rw [Ev.un, if_pos rfl, if_neg h])
 have HF : Hid (a.k = 1 → Fits a.n) := Lib.hid (fun h => (ha.number h).1)
 obtain ⟨ka, na, sa⟩ := a
 dsimp only at *
 clear hV hna ha HD
 by_cases hk : ka = 1
 ·have HR := Lib.hid (FIN.out hk)
  have HDD : Hid (decide (ka = 1) = true) := Lib.hid (by simpa using hk)
  rw [HDD.out] at AT
  clear FIN BAD
  obtain ⟨W1, hW1⟩ : ∃ W1, w.alloc (.cells #[.int .i64 0, .int .i64 0, .string ⟨#[]⟩] 23) = W1 := ⟨_, rfl⟩
  rw [hW1] at b0 r0 hV1 x0 x1 x2 AT HE
  have B0 := Lib.hid b0
  have R0 := Lib.hid r0
  have HV1 := Lib.hid hV1
  have HBW : Hid (B < W1.heap.size) := Lib.hid (by have := HBB.out; have := r0.lt; omega)
  clear b0 r0 hV1
  go_enter Tryz.func93, Tryz.ntmps93
  go_wp2_with fail
  refine (AT.out _ _ (by first | exact (Below.refl _ _).alloc (Nat.le_refl _) _ | exact ((Below.refl _ _).alloc (Nat.le_refl _) _).drew) (by exact Whole.new W1 _ _)).mono ?_
  rintro e W2 ⟨rfl, hb2⟩
  have R2 := Lib.hid (R0.out.below hb2 R0.out.lt)
  have B2 := Lib.hid (B0.out.trans (hb2.mono B0.out.size))
  have x0' := (hb2.cell (p := ⟨B, O, none⟩) HBW.out).trans x0
  have x1' := (hb2.cell (p := ⟨B, O + 1, none⟩) HBW.out).trans x1
  have x2' := (hb2.cell (p := ⟨B, O + 2, none⟩) HBW.out).trans x2
  have NG := Lib.hid (fun W => neg_any na W (HF.out hk))
  have WH := Lib.hid (fun n c W (hW : Below W2.heap.size W2 W) => call_over hW (whole_any n c W))
  unfold outR vv vcells at WH
  clear hb2 AT hk x0 x1 x2
  go_wp2_with fail
  refine (NG.out _).mono ?_
  rintro e W3 ⟨rfl, rfl⟩
  go_wp2_with fail
  refine (WH.out _ _ _ (Below.refl _ _)).mono ?_
  rintro e W5 ⟨rfl, hb5⟩
  have R5 := Lib.hid (R2.out.below hb5 R2.out.lt)
  obtain ⟨d1, d2, d3⟩ := R5.out.holds
  have f0 := R5.out.frozen 0
  have f1 := R5.out.frozen 1
  have f2 := R5.out.frozen 2
  have B5 := Lib.hid (B2.out.trans (hb5.mono B2.out.size))
  all_goals
   go_wp2_with fail
   exact fin_R Tryz.results93 rfl rfl rfl R5.out B5.out (Nat.le_refl _) (by rw [HR.out])
 ·have HR := Lib.hid (BAD.out hk)
  have HDD : Hid (decide (ka = 1) = false) := Lib.hid (by simpa using hk)
  rw [HDD.out] at AT
  clear FIN BAD hk
  obtain ⟨W1, hW1⟩ : ∃ W1, w.alloc (.cells #[.int .i64 0, .int .i64 0, .string ⟨#[]⟩] 23) = W1 := ⟨_, rfl⟩
  rw [hW1] at b0 r0 hV1 x0 x1 x2 AT HE
  have B0 := Lib.hid b0
  have R0 := Lib.hid r0
  have HV1 := Lib.hid hV1
  have HBW : Hid (B < W1.heap.size) := Lib.hid (by have := HBB.out; have := r0.lt; omega)
  clear b0 r0 hV1
  go_enter Tryz.func93, Tryz.ntmps93
  go_wp2_with fail
  refine (AT.out _ _ (by first | exact (Below.refl _ _).alloc (Nat.le_refl _) _ | exact ((Below.refl _ _).alloc (Nat.le_refl _) _).drew) (by exact Whole.new W1 _ _)).mono ?_
  rintro e W2 ⟨rfl, hb2⟩
  have R2 := Lib.hid (R0.out.below hb2 R0.out.lt)
  have B2 := Lib.hid (B0.out.trans (hb2.mono B0.out.size))
  clear x0 x1 x2 AT
  go_wp2_with fail
  refine (efail_any _ _).mono ?_
  rintro e w3 ⟨rfl, hb3⟩
  have R3 := Lib.hid (R2.out.below hb3 R2.out.lt)
  have B3 := Lib.hid (bstep B2.out hb3)
  clear hb3
  obtain ⟨d1, d2, d3⟩ := R3.out.holds
  have f0 := R3.out.frozen 0
  have f1 := R3.out.frozen 1
  have f2 := R3.out.frozen 2
  unfold outR vv vcells Ev.err Ev.z
  go_wp2_with fail
  exact fin_R Tryz.results93 rfl rfl rfl R3.out B3.out (Nat.le_refl _) (by rw [HR.out]; rfl)
set_option maxHeartbeats 2000000 in
theorem signed_not (t : List UInt8) (a : V) (A : Option Addr) (c : Nat) (w : World) (hV : ValsAt w A [a]) (ha : Pl a) (hna : a.k ≠ 0) (ad : Addr) (mx : Int) (hE : Env w ad mx) :
  Calls Tryz.prog 93 #[.int .i64 4, .slice A 1 c] w fun e w' => e = .returned (outR (Ev.un 4 t a)) ∧ Below w.heap.size w w' := by
 have b0 := (Below.refl w.heap.size w).alloc (Nat.le_refl _) (.cells #[.int .i64 0, .int .i64 0, .string ⟨#[]⟩] 23)
 have r0 := Row3.new w 0 0 ⟨#[]⟩
 have hV1 := hV.below b0
 have HE := Lib.hid (hE.below b0)
 obtain ⟨B, O, rfl, hB, x0, x1, x2⟩ := vals_one hV1
 have HBB : Hid (B < w.heap.size) := Lib.hid (by obtain ⟨b', o', e, h, -⟩ := hV 0 (by simp); cases e; exact h)
 clear hB hE
 have AT := Lib.hid (fun U g hU hK => are_one2 a 3 (some ⟨B, O, none⟩) c _ U g hV1 hU hK)
 have HD : Hid (decide (a.k = 3 ∨ a.k = 0) = decide (a.k = 3)) := Lib.hid (by rw [Bool.eq_iff_iff]; simp; omega)
 rw [HD.out] at AT
 have FIN : Hid (a.k = 3 → Ev.un 4 t a = Ev.ok (Ev.tru (same a.k a.n (tx a.s) 3 0 ⟨#[]⟩))) := Lib.hid (fun h => by rw [Ev.un, if_neg (by decide), if_pos rfl, if_pos h, same_b ha 0]; simp [h])
 have BAD : Hid (¬ (a.k = 3) → Ev.un 4 t a = Ev.err 10) := Lib.hid (fun h => by rw [Ev.un, if_neg (by decide), if_pos rfl, if_neg h])
 obtain ⟨ka, na, sa⟩ := a
 dsimp only at *
 clear hV hna ha HD
 by_cases hk : ka = 3
 ·have HR := Lib.hid (FIN.out hk)
  have HDD : Hid (decide (ka = 3) = true) := Lib.hid (by simpa using hk)
  rw [HDD.out] at AT
  clear FIN BAD
  obtain ⟨W1, hW1⟩ : ∃ W1, w.alloc (.cells #[.int .i64 0, .int .i64 0, .string ⟨#[]⟩] 23) = W1 := ⟨_, rfl⟩
  rw [hW1] at b0 r0 hV1 x0 x1 x2 AT HE
  have B0 := Lib.hid b0
  have R0 := Lib.hid r0
  have HV1 := Lib.hid hV1
  have HBW : Hid (B < W1.heap.size) := Lib.hid (by have := HBB.out; have := r0.lt; omega)
  clear b0 r0 hV1
  go_enter Tryz.func93, Tryz.ntmps93
  go_wp2_with fail
  refine (AT.out _ _ (by first | exact (Below.refl _ _).alloc (Nat.le_refl _) _ | exact ((Below.refl _ _).alloc (Nat.le_refl _) _).drew) (by exact Whole.new W1 _ _)).mono ?_
  rintro e W2 ⟨rfl, hb2⟩
  have R2 := Lib.hid (R0.out.below hb2 R0.out.lt)
  have B2 := Lib.hid (B0.out.trans (hb2.mono B0.out.size))
  have x0' := (hb2.cell (p := ⟨B, O, none⟩) HBW.out).trans x0
  have x1' := (hb2.cell (p := ⟨B, O + 1, none⟩) HBW.out).trans x1
  have x2' := (hb2.cell (p := ⟨B, O + 2, none⟩) HBW.out).trans x2
  have BF := Lib.hid (fun W (hW : Below W2.heap.size W2 W) => call_over hW (bool_false W))
  have BO := Lib.hid (fun b W (hW : Below W2.heap.size W2 W) => (bool_any b W).mono (fun e w' h => (⟨h.1, bstep hW h.2⟩ : e = .returned (val 3 (bit b) ⟨#[]⟩) ∧ Below W2.heap.size W2 w')))
  have HBW2 : Hid (B < W2.heap.size) := Lib.hid (by have := HBW.out; have := hb2.size; omega)
  clear hb2 AT hk x0 x1 x2
  go_upto_region 4 with fail
  have XX : Hid (∀ W, Below W2.heap.size W2 W → W.cell? ⟨B, O, none⟩ = some (.int .i64 ka) ∧ W.cell? ⟨B, O + 1, none⟩ = some (.int .i64 na) ∧ W.cell? ⟨B, O + 2, none⟩ = some (.string (tx sa))) := Lib.hid (fun W hW => ⟨(hW.cell (p := ⟨B, O, none⟩) HBW2.out).trans x0', (hW.cell (p := ⟨B, O + 1, none⟩) HBW2.out).trans x1', (hW.cell (p := ⟨B, O + 2, none⟩) HBW2.out).trans x2'⟩)
  go_region_with (first
   | (go_at_call 29; refine (BF.out _ (by first | exact below_drewN (Below.refl _ _) _ | exact (Below.refl _ _).drew | exact Below.refl _ _)).mono ?_; rintro e W3 ⟨rfl, hb3⟩; obtain ⟨z0, z1, z2⟩ := XX.out W3 hb3)
   | (go_at_call 29; refine (BO.out _ _ (by first | exact hb3 | exact hb3.drew | exact below_drewN hb3 _)).mono ?_; rintro e W5 ⟨rfl, hb5⟩; have R5 := Lib.hid (R2.out.below hb5 R2.out.lt); obtain ⟨d1, d2, d3⟩ := R5.out.holds; have f0 := R5.out.frozen 0; have f1 := R5.out.frozen 1; have f2 := R5.out.frozen 2; have B5 := Lib.hid (B2.out.trans (hb5.mono B2.out.size))))
  all_goals
   go_wp2_with fail
   exact fin_R Tryz.results93 rfl rfl rfl R5.out B5.out (Nat.le_refl _) (by rw [HR.out, ← bit_tru]; rfl)
 ·have HR := Lib.hid (BAD.out hk)
  have HDD : Hid (decide (ka = 3) = false) := Lib.hid (by simpa using hk)
  rw [HDD.out] at AT
  clear FIN BAD hk
  obtain ⟨W1, hW1⟩ : ∃ W1, w.alloc (.cells #[.int .i64 0, .int .i64 0, .string ⟨#[]⟩] 23) = W1 := ⟨_, rfl⟩
  rw [hW1] at b0 r0 hV1 x0 x1 x2 AT HE
  have B0 := Lib.hid b0
  have R0 := Lib.hid r0
  have HV1 := Lib.hid hV1
  have HBW : Hid (B < W1.heap.size) := Lib.hid (by have := HBB.out; have := r0.lt; omega)
  clear b0 r0 hV1
  go_enter Tryz.func93, Tryz.ntmps93
  go_wp2_with fail
  refine (AT.out _ _ (by first | exact (Below.refl _ _).alloc (Nat.le_refl _) _ | exact ((Below.refl _ _).alloc (Nat.le_refl _) _).drew) (by exact Whole.new W1 _ _)).mono ?_
  rintro e W2 ⟨rfl, hb2⟩
  have R2 := Lib.hid (R0.out.below hb2 R0.out.lt)
  have B2 := Lib.hid (B0.out.trans (hb2.mono B0.out.size))
  clear x0 x1 x2 AT
  go_wp2_with fail
  refine (efail_any _ _).mono ?_
  rintro e w3 ⟨rfl, hb3⟩
  have R3 := Lib.hid (R2.out.below hb3 R2.out.lt)
  have B3 := Lib.hid (bstep B2.out hb3)
  clear hb3
  obtain ⟨d1, d2, d3⟩ := R3.out.holds
  have f0 := R3.out.frozen 0
  have f1 := R3.out.frozen 1
  have f2 := R3.out.frozen 2
  unfold outR vv vcells Ev.err Ev.z
  go_wp2_with fail
  exact fin_R Tryz.results93 rfl rfl rfl R3.out B3.out (Nat.le_refl _) (by rw [HR.out]; rfl)
end Go.Proofs.YteghhmomhlnccaaGreatDoor
namespace Go.Proofs.YteghhmomhlnccaaGreatDoor
open Go.RowKit Go.Lib
set_option maxRecDepth 100000
attribute [local go_sem ↓] eqVal neqVal
open Ev (V R Pl)
theorem tx_take (l : List UInt8) (k : Nat) (h : k ≤ l.length) : (tx l).extract 0 k = tx (l.take k) := by
 apply ByteArray.ext
 rw [ByteArray.data_extract]
 show l.toArray.extract 0 k = (l.take k).toArray
 simp
theorem tx_drop (l : List UInt8) (k : Nat) : (tx l).extract k l.length = tx (l.drop k) := by
 apply ByteArray.ext
 rw [ByteArray.data_extract]
 show l.toArray.extract k l.length = (l.drop k).toArray
 simp [List.take_of_length_le]
theorem cutN_le (n : Int) (l : Nat) : Ev.cutN n l ≤ l := by
 unfold Ev.cutN
 by_cases h1 : n < 0
 ·rw [if_pos h1]; omega
 ·rw [if_neg h1]
  by_cases h2 : n < (l : Int)
  ·rw [if_pos h2]; omega
  ·rw [if_neg h2]; omega
set_option maxHeartbeats 2000000 in
theorem called_len  (a : V) (A : Option Addr) (c : Nat) (w : World) (hV : ValsAt w A [a]) (ha : Pl a) (hna : a.k ≠ 0) (ad : Addr) (mx : Int) (hE : Env w ad mx) :
  Calls Tryz.prog 92 #[.string (tx [108, 101, 110]), .slice A 1 c] w fun e w' => e = .returned (outR (Ev.un 6 [108, 101, 110] a)) ∧ Below w.heap.size w w' := by
 have b0 := (Below.refl w.heap.size w).alloc (Nat.le_refl _) (.cells #[.int .i64 0, .int .i64 0, .string ⟨#[]⟩] 23)
 have r0 := Row3.new w 0 0 ⟨#[]⟩
 have hV1 := hV.below b0
 have HE := Lib.hid (hE.below b0)
 obtain ⟨B, O, rfl, hB, x0, x1, x2⟩ := vals_one hV1
 have HBB : Hid (B < w.heap.size) := Lib.hid (by obtain ⟨b', o', e, h, -⟩ := hV 0 (by simp); cases e; exact h)
 clear hB hE
 have AT := Lib.hid (fun U g hU hK => are_one2 a 2 (some ⟨B, O, none⟩) c _ U g hV1 hU hK)
 have HD : Hid (decide (a.k = 2 ∨ a.k = 0) = decide (a.k = 2)) := Lib.hid (by rw [Bool.eq_iff_iff]; simp; omega)
 rw [HD.out] at AT
 have FIN : Hid (a.k = 2 → Ev.un 6 [108, 101, 110] a = Ev.ok ⟨1, (a.s.length : Nat), []⟩) := Lib.hid (fun h => by rw [Ev.un, if_neg (by decide), if_neg (by decide), if_neg (by decide), if_pos h, if_pos rfl])
 have BAD : Hid (¬ (a.k = 2) → Ev.un 6 [108, 101, 110] a = Ev.err 10) := Lib.hid (fun h => by rw [Ev.un, if_neg (by decide), if_neg (by decide), if_neg (by decide), if_neg h])
 have HS : Hid ((tx a.s).size = a.s.length) := Lib.hid (by simp [ByteArray.size, tx])
 obtain ⟨ka, na, sa⟩ := a
 dsimp only at *
 clear hV hna ha HD
 by_cases hk : ka = 2
 ·have HR := Lib.hid (FIN.out hk)
  have HDD : Hid (decide (ka = 2) = true) := Lib.hid (by simpa using hk)
  rw [HDD.out] at AT
  clear FIN BAD
  obtain ⟨W1, hW1⟩ : ∃ W1, w.alloc (.cells #[.int .i64 0, .int .i64 0, .string ⟨#[]⟩] 23) = W1 := ⟨_, rfl⟩
  rw [hW1] at b0 r0 hV1 x0 x1 x2 AT HE
  have B0 := Lib.hid b0
  have R0 := Lib.hid r0
  have HV1 := Lib.hid hV1
  have HBW : Hid (B < W1.heap.size) := Lib.hid (by have := HBB.out; have := r0.lt; omega)
  clear b0 r0 hV1
  go_enter Tryz.func92, Tryz.ntmps92
  go_wp2_with fail
  refine (AT.out _ _ (by first | exact (Below.refl _ _).alloc (Nat.le_refl _) _ | exact ((Below.refl _ _).alloc (Nat.le_refl _) _).drew) (by exact Whole.new W1 _ _)).mono ?_
  rintro e W2 ⟨rfl, hb2⟩
  have R2 := Lib.hid (R0.out.below hb2 R0.out.lt)
  have B2 := Lib.hid (B0.out.trans (hb2.mono B0.out.size))
  have x0' := (hb2.cell (p := ⟨B, O, none⟩) HBW.out).trans x0
  have x1' := (hb2.cell (p := ⟨B, O + 1, none⟩) HBW.out).trans x1
  have x2' := (hb2.cell (p := ⟨B, O + 2, none⟩) HBW.out).trans x2
  have IN := Lib.hid (fun n W (hW : Below W2.heap.size W2 W) => call_over hW (int_any n W))
  clear hb2 AT hk x0 x1 x2
  go_wp2_with fail
  refine (IN.out _ _ (Below.refl _ _)).mono ?_
  rintro e W5 ⟨rfl, hb5⟩
  have R5 := Lib.hid (R2.out.below hb5 R2.out.lt)
  obtain ⟨d1, d2, d3⟩ := R5.out.holds
  have f0 := R5.out.frozen 0
  have f1 := R5.out.frozen 1
  have f2 := R5.out.frozen 2
  have B5 := Lib.hid (B2.out.trans (hb5.mono B2.out.size))
  all_goals
   go_wp2_with fail
   exact fin_R Tryz.results92 rfl rfl rfl R5.out B5.out (Nat.le_refl _) (by rw [HR.out]; rfl)
 ·have HR := Lib.hid (BAD.out hk)
  have HDD : Hid (decide (ka = 2) = false) := Lib.hid (by simpa using hk)
  rw [HDD.out] at AT
  clear FIN BAD hk
  obtain ⟨W1, hW1⟩ : ∃ W1, w.alloc (.cells #[.int .i64 0, .int .i64 0, .string ⟨#[]⟩] 23) = W1 := ⟨_, rfl⟩
  rw [hW1] at b0 r0 hV1 x0 x1 x2 AT HE
  have B0 := Lib.hid b0
  have R0 := Lib.hid r0
  have HV1 := Lib.hid hV1
  have HBW : Hid (B < W1.heap.size) := Lib.hid (by have := HBB.out; have := r0.lt; omega)
  clear b0 r0 hV1
  go_enter Tryz.func92, Tryz.ntmps92
  go_wp2_with fail
  refine (AT.out _ _ (by first | exact (Below.refl _ _).alloc (Nat.le_refl _) _ | exact ((Below.refl _ _).alloc (Nat.le_refl _) _).drew) (by exact Whole.new W1 _ _)).mono ?_
  rintro e W2 ⟨rfl, hb2⟩
  have R2 := Lib.hid (R0.out.below hb2 R0.out.lt)
  have B2 := Lib.hid (B0.out.trans (hb2.mono B0.out.size))
  clear x0 x1 x2 AT
  go_wp2_with fail
  refine (efail_any _ _).mono ?_
  rintro e w3 ⟨rfl, hb3⟩
  have R3 := Lib.hid (R2.out.below hb3 R2.out.lt)
  have B3 := Lib.hid (bstep B2.out hb3)
  clear hb3
  obtain ⟨d1, d2, d3⟩ := R3.out.holds
  have f0 := R3.out.frozen 0
  have f1 := R3.out.frozen 1
  have f2 := R3.out.frozen 2
  unfold outR vv vcells Ev.err Ev.z
  go_wp2_with fail
  exact fin_R Tryz.results92 rfl rfl rfl R3.out B3.out (Nat.le_refl _) (by rw [HR.out]; rfl)
set_option maxHeartbeats 2000000 in
theorem called_str  (a : V) (A : Option Addr) (c : Nat) (w : World) (hV : ValsAt w A [a]) (ha : Pl a) (hna : a.k ≠ 0) (ad : Addr) (mx : Int) (hE : Env w ad mx) :
  Calls Tryz.prog 92 #[.string (tx [115, 116, 114]), .slice A 1 c] w fun e w' => e = .returned (outR (Ev.un 6 [115, 116, 114] a)) ∧ Below w.heap.size w w' := by
 have b0 := (Below.refl w.heap.size w).alloc (Nat.le_refl _) (.cells #[.int .i64 0, .int .i64 0, .string ⟨#[]⟩] 23)
 have r0 := Row3.new w 0 0 ⟨#[]⟩
 have hV1 := hV.below b0
 have HE := Lib.hid (hE.below b0)
 obtain ⟨B, O, rfl, hB, x0, x1, x2⟩ := vals_one hV1
 have HBB : Hid (B < w.heap.size) := Lib.hid (by obtain ⟨b', o', e, h, -⟩ := hV 0 (by simp); cases e; exact h)
 clear hB hE
 have AT := Lib.hid (fun U g hU hK => are_one2 a 1 (some ⟨B, O, none⟩) c _ U g hV1 hU hK)
 have HD : Hid (decide (a.k = 1 ∨ a.k = 0) = decide (a.k = 1)) := Lib.hid (by rw [Bool.eq_iff_iff]; simp; omega)
 rw [HD.out] at AT
 have FIN : Hid (a.k = 1 → Ev.un 6 [115, 116, 114] a = Ev.ok ⟨2, 0, itoa a.n⟩) := Lib.hid (fun h => by rw [Ev.un, if_neg (by decide), if_neg (by decide), if_pos rfl, if_pos h])
 have BAD : Hid (¬ (a.k = 1) → Ev.un 6 [115, 116, 114] a = Ev.err 10) := Lib.hid (fun h => by rw [Ev.un, if_neg (by decide), if_neg (by decide), if_pos rfl, if_neg h])
 have HF : Hid (a.k = 1 → Fits a.n) := Lib.hid (fun h => (ha.number h).1)
 obtain ⟨ka, na, sa⟩ := a
 dsimp only at *
 clear hV hna ha HD
 by_cases hk : ka = 1
 ·have HR := Lib.hid (FIN.out hk)
  have HDD : Hid (decide (ka = 1) = true) := Lib.hid (by simpa using hk)
  rw [HDD.out] at AT
  clear FIN BAD
  obtain ⟨W1, hW1⟩ : ∃ W1, w.alloc (.cells #[.int .i64 0, .int .i64 0, .string ⟨#[]⟩] 23) = W1 := ⟨_, rfl⟩
  rw [hW1] at b0 r0 hV1 x0 x1 x2 AT HE
  have B0 := Lib.hid b0
  have R0 := Lib.hid r0
  have HV1 := Lib.hid hV1
  have HBW : Hid (B < W1.heap.size) := Lib.hid (by have := HBB.out; have := r0.lt; omega)
  clear b0 r0 hV1
  go_enter Tryz.func92, Tryz.ntmps92
  go_wp2_with fail
  refine (AT.out _ _ (by first | exact (Below.refl _ _).alloc (Nat.le_refl _) _ | exact ((Below.refl _ _).alloc (Nat.le_refl _) _).drew) (by exact Whole.new W1 _ _)).mono ?_
  rintro e W2 ⟨rfl, hb2⟩
  have R2 := Lib.hid (R0.out.below hb2 R0.out.lt)
  have B2 := Lib.hid (B0.out.trans (hb2.mono B0.out.size))
  have x0' := (hb2.cell (p := ⟨B, O, none⟩) HBW.out).trans x0
  have x1' := (hb2.cell (p := ⟨B, O + 1, none⟩) HBW.out).trans x1
  have x2' := (hb2.cell (p := ⟨B, O + 2, none⟩) HBW.out).trans x2
  have HE2 := Lib.hid (HE.out.below hb2)
  have HFN := HF.out hk
  have PR := Lib.hid (print_any na W2 HFN HE2.out.tab)
  have TS := Lib.hid (fun W (hW : Below W2.heap.size W2 W) => call_over hW (text_small (tx (itoa na)) W (by have := itoa_length_le na HFN.1 HFN.2; have h2 : (tx (itoa na)).size = (itoa na).length := by simp [ByteArray.size, tx]
                                                                                                            omega)))
  clear hb2 AT hk x0 x1 x2 HFN
  go_wp2_with fail
  refine PR.out.mono ?_
  rintro e W3 ⟨rfl, hb3⟩
  go_wp2_with fail
  refine (TS.out _ hb3).mono ?_
  rintro e W5 ⟨rfl, hb5⟩
  have R5 := Lib.hid (R2.out.below hb5 R2.out.lt)
  obtain ⟨d1, d2, d3⟩ := R5.out.holds
  have f0 := R5.out.frozen 0
  have f1 := R5.out.frozen 1
  have f2 := R5.out.frozen 2
  have B5 := Lib.hid (B2.out.trans (hb5.mono B2.out.size))
  all_goals
   go_wp2_with fail
   exact fin_R Tryz.results92 rfl rfl rfl R5.out B5.out (Nat.le_refl _) (by rw [HR.out]; rfl)
 ·have HR := Lib.hid (BAD.out hk)
  have HDD : Hid (decide (ka = 1) = false) := Lib.hid (by simpa using hk)
  rw [HDD.out] at AT
  clear FIN BAD hk
  obtain ⟨W1, hW1⟩ : ∃ W1, w.alloc (.cells #[.int .i64 0, .int .i64 0, .string ⟨#[]⟩] 23) = W1 := ⟨_, rfl⟩
  rw [hW1] at b0 r0 hV1 x0 x1 x2 AT HE
  have B0 := Lib.hid b0
  have R0 := Lib.hid r0
  have HV1 := Lib.hid hV1
  have HBW : Hid (B < W1.heap.size) := Lib.hid (by have := HBB.out; have := r0.lt; omega)
  clear b0 r0 hV1
  go_enter Tryz.func92, Tryz.ntmps92
  go_wp2_with fail
  refine (AT.out _ _ (by first | exact (Below.refl _ _).alloc (Nat.le_refl _) _ | exact ((Below.refl _ _).alloc (Nat.le_refl _) _).drew) (by exact Whole.new W1 _ _)).mono ?_
  rintro e W2 ⟨rfl, hb2⟩
  have R2 := Lib.hid (R0.out.below hb2 R0.out.lt)
  have B2 := Lib.hid (B0.out.trans (hb2.mono B0.out.size))
  clear x0 x1 x2 AT
  go_wp2_with fail
  refine (efail_any _ _).mono ?_
  rintro e w3 ⟨rfl, hb3⟩
  have R3 := Lib.hid (R2.out.below hb3 R2.out.lt)
  have B3 := Lib.hid (bstep B2.out hb3)
  clear hb3
  obtain ⟨d1, d2, d3⟩ := R3.out.holds
  have f0 := R3.out.frozen 0
  have f1 := R3.out.frozen 1
  have f2 := R3.out.frozen 2
  unfold outR vv vcells Ev.err Ev.z
  go_wp2_with fail
  exact fin_R Tryz.results92 rfl rfl rfl R3.out B3.out (Nat.le_refl _) (by rw [HR.out]; rfl)
set_option maxHeartbeats 2000000 in
theorem called_num  (a : V) (A : Option Addr) (c : Nat) (w : World) (hV : ValsAt w A [a]) (ha : Pl a) (hna : a.k ≠ 0) (ad : Addr) (mx : Int) (hE : Env w ad mx) :
  Calls Tryz.prog 92 #[.string (tx [110, 117, 109]), .slice A 1 c] w fun e w' => e = .returned (outR (Ev.un 6 [110, 117, 109] a)) ∧ Below w.heap.size w w' := by
 have b0 := (Below.refl w.heap.size w).alloc (Nat.le_refl _) (.cells #[.int .i64 0, .int .i64 0, .string ⟨#[]⟩] 23)
 have r0 := Row3.new w 0 0 ⟨#[]⟩
 have hV1 := hV.below b0
 have HE := Lib.hid (hE.below b0)
 obtain ⟨B, O, rfl, hB, x0, x1, x2⟩ := vals_one hV1
 have HBB : Hid (B < w.heap.size) := Lib.hid (by obtain ⟨b', o', e, h, -⟩ := hV 0 (by simp); cases e; exact h)
 clear hB hE
 have AT := Lib.hid (fun U g hU hK => are_one2 a 2 (some ⟨B, O, none⟩) c _ U g hV1 hU hK)
 have HD : Hid (decide (a.k = 2 ∨ a.k = 0) = decide (a.k = 2)) := Lib.hid (by rw [Bool.eq_iff_iff]; simp; omega)
 rw [HD.out] at AT
 have FIN : Hid (a.k = 2 → Ev.un 6 [110, 117, 109] a = Ev.wholeR (rv a.s) (re a.s)) := Lib.hid (fun h => by rw [Ev.un, if_neg (by decide), if_neg (by decide), if_neg (by decide), if_pos h, if_neg (by decide)]; rfl)
 have BAD : Hid (¬ (a.k = 2) → Ev.un 6 [110, 117, 109] a = Ev.err 10) := Lib.hid (fun h => by rw [Ev.un, if_neg (by decide), if_neg (by decide), if_neg (by decide), if_neg h])
 have HS : Hid ((tx a.s).size ≤ 200) := Lib.hid (pl_size ha).1
 obtain ⟨ka, na, sa⟩ := a
 dsimp only at *
 clear hV hna ha HD
 by_cases hk : ka = 2
 ·have HR := Lib.hid (FIN.out hk)
  have HDD : Hid (decide (ka = 2) = true) := Lib.hid (by simpa using hk)
  rw [HDD.out] at AT
  clear FIN BAD
  obtain ⟨W1, hW1⟩ : ∃ W1, w.alloc (.cells #[.int .i64 0, .int .i64 0, .string ⟨#[]⟩] 23) = W1 := ⟨_, rfl⟩
  rw [hW1] at b0 r0 hV1 x0 x1 x2 AT HE
  have B0 := Lib.hid b0
  have R0 := Lib.hid r0
  have HV1 := Lib.hid hV1
  have HBW : Hid (B < W1.heap.size) := Lib.hid (by have := HBB.out; have := r0.lt; omega)
  clear b0 r0 hV1
  go_enter Tryz.func92, Tryz.ntmps92
  go_wp2_with fail
  refine (AT.out _ _ (by first | exact (Below.refl _ _).alloc (Nat.le_refl _) _ | exact ((Below.refl _ _).alloc (Nat.le_refl _) _).drew) (by exact Whole.new W1 _ _)).mono ?_
  rintro e W2 ⟨rfl, hb2⟩
  have R2 := Lib.hid (R0.out.below hb2 R0.out.lt)
  have B2 := Lib.hid (B0.out.trans (hb2.mono B0.out.size))
  have x0' := (hb2.cell (p := ⟨B, O, none⟩) HBW.out).trans x0
  have x1' := (hb2.cell (p := ⟨B, O + 1, none⟩) HBW.out).trans x1
  have x2' := (hb2.cell (p := ⟨B, O + 2, none⟩) HBW.out).trans x2
  have HE2 := Lib.hid (HE.out.below hb2)
  have RD := Lib.hid (read_any (tx sa) W2 (by have := HS.out; omega) ad HE2.out.cell HE2.out.var)
  have WH := Lib.hid (fun n c W (hW : Below W2.heap.size W2 W) => call_over hW (whole_any n c W))
  unfold outR vv vcells at WH
  have HSD : Hid ((tx sa).data.toList = sa) := Lib.hid (by simp [tx])
  rw [HSD.out] at RD
  clear hb2 AT hk x0 x1 x2
  go_wp2_with fail
  refine RD.out.mono ?_
  rintro e W3 ⟨rfl, hb3⟩
  go_wp2_with fail
  refine (WH.out _ _ _ hb3).mono ?_
  rintro e W5 ⟨rfl, hb5⟩
  have R5 := Lib.hid (R2.out.below hb5 R2.out.lt)
  obtain ⟨d1, d2, d3⟩ := R5.out.holds
  have f0 := R5.out.frozen 0
  have f1 := R5.out.frozen 1
  have f2 := R5.out.frozen 2
  have B5 := Lib.hid (B2.out.trans (hb5.mono B2.out.size))
  all_goals
   go_wp2_with fail
   exact fin_R Tryz.results92 rfl rfl rfl R5.out B5.out (Nat.le_refl _) (by rw [HR.out])
 ·have HR := Lib.hid (BAD.out hk)
  have HDD : Hid (decide (ka = 2) = false) := Lib.hid (by simpa using hk)
  rw [HDD.out] at AT
  clear FIN BAD hk
  obtain ⟨W1, hW1⟩ : ∃ W1, w.alloc (.cells #[.int .i64 0, .int .i64 0, .string ⟨#[]⟩] 23) = W1 := ⟨_, rfl⟩
  rw [hW1] at b0 r0 hV1 x0 x1 x2 AT HE
  have B0 := Lib.hid b0
  have R0 := Lib.hid r0
  have HV1 := Lib.hid hV1
  have HBW : Hid (B < W1.heap.size) := Lib.hid (by have := HBB.out; have := r0.lt; omega)
  clear b0 r0 hV1
  go_enter Tryz.func92, Tryz.ntmps92
  go_wp2_with fail
  refine (AT.out _ _ (by first | exact (Below.refl _ _).alloc (Nat.le_refl _) _ | exact ((Below.refl _ _).alloc (Nat.le_refl _) _).drew) (by exact Whole.new W1 _ _)).mono ?_
  rintro e W2 ⟨rfl, hb2⟩
  have R2 := Lib.hid (R0.out.below hb2 R0.out.lt)
  have B2 := Lib.hid (B0.out.trans (hb2.mono B0.out.size))
  clear x0 x1 x2 AT
  go_wp2_with fail
  refine (efail_any _ _).mono ?_
  rintro e w3 ⟨rfl, hb3⟩
  have R3 := Lib.hid (R2.out.below hb3 R2.out.lt)
  have B3 := Lib.hid (bstep B2.out hb3)
  clear hb3
  obtain ⟨d1, d2, d3⟩ := R3.out.holds
  have f0 := R3.out.frozen 0
  have f1 := R3.out.frozen 1
  have f2 := R3.out.frozen 2
  unfold outR vv vcells Ev.err Ev.z
  go_wp2_with fail
  exact fin_R Tryz.results92 rfl rfl rfl R3.out B3.out (Nat.le_refl _) (by rw [HR.out]; rfl)
end Go.Proofs.YteghhmomhlnccaaGreatDoor
