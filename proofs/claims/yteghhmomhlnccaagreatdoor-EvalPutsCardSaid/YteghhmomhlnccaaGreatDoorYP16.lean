import Derived.Test.YteghhmomhlnccaaGreatDoorYP15
import Derived.Test.YteghhmomhlnccaaGreatDoorYP5
import Derived.Test.YteghhmomhlnccaaGreatDoorYP1
import Derived.Test.YteghhmomhlnccaaGreatDoorYP14
import Derived.Test.YteghhmomhlnccaaGreatDoorYP8
import Derived.Test.YteghhmomhlnccaaGreatDoorYP12
import Derived.Test.YteghhmomhlnccaaGreatDoorYP13
set_option linter.unusedVariables false
set_option linter.unusedSimpArgs false
namespace Go.Proofs.YteghhmomhlnccaaGreatDoor
open Go.RowKit Go.Lib
set_option maxRecDepth 100000
attribute [local go_sem ↓] eqVal neqVal
open Ev (V R Pl)
set_option maxHeartbeats 2000000 in
theorem called_left  (a b : V) (A : Option Addr) (c : Nat) (w : World) (hV : ValsAt w A [a, b]) (ha : Pl a) (hb : Pl b) (hna : a.k ≠ 0) (hnb : b.k ≠ 0) (ad : Addr) (mx : Int) (hE : Env w ad mx) :
  Calls Tryz.prog 92 #[.string (tx [108, 101, 102, 116]), .slice A 2 c] w fun e w' => e = .returned (outR (Ev.side [108, 101, 102, 116] a b)) ∧ Below w.heap.size w w' := by
 have b0 := (Below.refl w.heap.size w).alloc (Nat.le_refl _) (.cells #[.int .i64 0, .int .i64 0, .string ⟨#[]⟩] 23)
 have r0 := Row3.new w 0 0 ⟨#[]⟩
 have hV1 := hV.below b0
 have HE := Lib.hid (hE.below b0)
 obtain ⟨B, O, rfl, hB, ⟨x0, x1, x2⟩, y0, y1, y2⟩ := vals_two hV1
 have HBB : Hid (B < w.heap.size) := Lib.hid (by obtain ⟨b', o', e, h, -⟩ := hV 0 (by simp); cases e; exact h)
 clear hB hE
 have AT := Lib.hid (fun U g hU hK => are_two2 a b 2 1 (some ⟨B, O, none⟩) c _ U g hV1 hU hK)
 have HD : Hid ((decide (a.k = 2 ∨ a.k = 0) && decide (b.k = 1 ∨ b.k = 0)) = decide (a.k = 2 ∧ b.k = 1)) := Lib.hid (by rw [Bool.eq_iff_iff]; simp; omega)
 rw [HD.out] at AT
 have FIN : Hid (a.k = 2 ∧ b.k = 1 → Ev.side [108, 101, 102, 116] a b = Ev.ok ⟨2, 0, a.s.take (Ev.cutN b.n a.s.length)⟩) := Lib.hid (fun h => by rw [Ev.side, if_pos h, if_pos rfl])
 have BAD : Hid (¬ (a.k = 2 ∧ b.k = 1) → Ev.side [108, 101, 102, 116] a b = Ev.err 10) := Lib.hid (fun h => by rw [Ev.side, if_neg h])
 have HS : Hid ((tx a.s).size = a.s.length) := Lib.hid (by simp [ByteArray.size, tx])
 have HL : Hid (a.s.length ≤ 200) := Lib.hid (pl_size ha).2
 obtain ⟨ka, na, sa⟩ := a
 obtain ⟨kb, nb, sb⟩ := b
 dsimp only at *
 clear hV hna ha HD hb hnb
 by_cases hk : ka = 2 ∧ kb = 1
 ·have HR := Lib.hid (FIN.out hk)
  have HDD : Hid (decide (ka = 2 ∧ kb = 1) = true) := Lib.hid (by simpa using hk)
  rw [HDD.out] at AT
  clear FIN BAD
  obtain ⟨W1, hW1⟩ : ∃ W1, w.alloc (.cells #[.int .i64 0, .int .i64 0, .string ⟨#[]⟩] 23) = W1 := ⟨_, rfl⟩
  rw [hW1] at b0 r0 hV1 x0 x1 x2 y0 y1 y2 AT HE
  have B0 := Lib.hid b0
  have R0 := Lib.hid r0
  have HV1 := Lib.hid hV1
  have HBW : Hid (B < W1.heap.size) := Lib.hid (by have := HBB.out; have := r0.lt; omega)
  clear b0 r0 hV1
  go_enter Tryz.func92, Tryz.ntmps92
  go_wp2_with fail
  refine (AT.out _ _ (by first | exact (Below.refl _ _).alloc (Nat.le_refl _) _ | exact ((Below.refl _ _).alloc (Nat.le_refl _) _).drew) (by exact Whole.new W1 _ _)).mono ?_
  rintro e W2 ⟨rfl, hb2⟩
  have R2 := Lib.hid (R0.out.below hb2 R0.out.lt)
  have B2 := Lib.hid (B0.out.trans (hb2.mono B0.out.size))
  have x0' := (hb2.cell (p := ⟨B, O, none⟩) HBW.out).trans x0
  have x1' := (hb2.cell (p := ⟨B, O + 1, none⟩) HBW.out).trans x1
  have x2' := (hb2.cell (p := ⟨B, O + 2, none⟩) HBW.out).trans x2
  have y0' := (hb2.cell (p := ⟨B, O + 3, none⟩) HBW.out).trans y0
  have y1' := (hb2.cell (p := ⟨B, O + 3 + 1, none⟩) HBW.out).trans y1
  have y2' := (hb2.cell (p := ⟨B, O + 3 + 2, none⟩) HBW.out).trans y2
  clear y0 y1 y2
  obtain ⟨m, hm⟩ : ∃ m, sa.length = m := ⟨_, rfl⟩
  have HM := Lib.hid hm
  have WI := Lib.hid (fun W => within_any nb m W)
  obtain ⟨q, hq⟩ : ∃ q, Ev.cutN nb m = q := ⟨_, rfl⟩
  have hql : q ≤ m := by rw [← hq]; exact cutN_le nb m
  have HQL := Lib.hid hql
  rw [hm, hq] at HR
  rw [hq] at WI
  have hm9 : m ≤ 200 := by have := HL.out; omega
  have HTX : Hid ((tx sa).extract 0 q = tx (sa.take q)) := Lib.hid (by exact tx_take sa q (by omega))
  have HTZ : Hid ((tx (sa.take q)).size = (sa.take q).length) := Lib.hid (by simp [ByteArray.size, tx])
  have TS := Lib.hid (fun W (hW : Below W2.heap.size W2 W) => call_over hW (text_small ((tx sa).extract 0 q) W (by rw [HTX.out, HTZ.out]; have := HL.out; rw [List.length_take]; omega)))
  have hsz : ((tx sa).size : Int) = (m : Int) := by have := HS.out; omega
  have hsn : (tx sa).size = m := by have := HS.out; omega
  clear hb2 AT hk x0 x1 x2 hm hq
  go_upto_region 8 with fail
  go_region_with (first
   | (go_at_call 121; refine (WI.out _).mono ?_; rintro e W3 ⟨rfl, hw3⟩; subst hw3)
   | (go_at_call 64; refine (TS.out _ (by first | exact below_drewN (Below.refl _ _) _ | exact (Below.refl _ _).drew | exact Below.refl _ _)).mono ?_; rintro e W5 ⟨rfl, hb5⟩; have R5 := Lib.hid (R2.out.below hb5 R2.out.lt); obtain ⟨d1, d2, d3⟩ := R5.out.holds; have f0 := R5.out.frozen 0; have f1 := R5.out.frozen 1; have f2 := R5.out.frozen 2; have B5 := Lib.hid (B2.out.trans (hb5.mono B2.out.size))))
  all_goals
   go_wp2_with fail
   exact fin_R Tryz.results92 rfl rfl rfl R5.out B5.out (Nat.le_refl _) (by rw [HR.out, HTX.out]; rfl)
 ·have HR := Lib.hid (BAD.out hk)
  have HDD : Hid (decide (ka = 2 ∧ kb = 1) = false) := Lib.hid (by simpa using hk)
  rw [HDD.out] at AT
  clear FIN BAD hk
  obtain ⟨W1, hW1⟩ : ∃ W1, w.alloc (.cells #[.int .i64 0, .int .i64 0, .string ⟨#[]⟩] 23) = W1 := ⟨_, rfl⟩
  rw [hW1] at b0 r0 hV1 x0 x1 x2 y0 y1 y2 AT HE
  have B0 := Lib.hid b0
  have R0 := Lib.hid r0
  have HV1 := Lib.hid hV1
  have HBW : Hid (B < W1.heap.size) := Lib.hid (by have := HBB.out; have := r0.lt; omega)
  clear b0 r0 hV1
  go_enter Tryz.func92, Tryz.ntmps92
  go_wp2_with fail
  refine (AT.out _ _ (by first | exact (Below.refl _ _).alloc (Nat.le_refl _) _ | exact ((Below.refl _ _).alloc (Nat.le_refl _) _).drew) (by exact Whole.new W1 _ _)).mono ?_
  rintro e W2 ⟨rfl, hb2⟩
  have R2 := Lib.hid (R0.out.below hb2 R0.out.lt)
  have B2 := Lib.hid (B0.out.trans (hb2.mono B0.out.size))
  clear x0 x1 x2 AT y0 y1 y2
  go_wp2_with fail
  refine (efail_any _ _).mono ?_
  rintro e w3 ⟨rfl, hb3⟩
  have R3 := Lib.hid (R2.out.below hb3 R2.out.lt)
  have B3 := Lib.hid (bstep B2.out hb3)
  clear hb3
  obtain ⟨d1, d2, d3⟩ := R3.out.holds
  have f0 := R3.out.frozen 0
  have f1 := R3.out.frozen 1
  have f2 := R3.out.frozen 2
  unfold outR vv vcells Ev.err Ev.z
  go_wp2_with fail
  exact fin_R Tryz.results92 rfl rfl rfl R3.out B3.out (Nat.le_refl _) (by rw [HR.out]; rfl)
end Go.Proofs.YteghhmomhlnccaaGreatDoor
namespace Go.Proofs.YteghhmomhlnccaaGreatDoor
open Go.RowKit Go.Lib
set_option maxRecDepth 100000
attribute [local go_sem ↓] eqVal neqVal
open Ev (V R Pl)
set_option maxHeartbeats 2000000 in
theorem called_right  (a b : V) (A : Option Addr) (c : Nat) (w : World) (hV : ValsAt w A [a, b]) (ha : Pl a) (hb : Pl b) (hna : a.k ≠ 0) (hnb : b.k ≠ 0) (ad : Addr) (mx : Int) (hE : Env w ad mx) :
  Calls Tryz.prog 92 #[.string (tx [114, 105, 103, 104, 116]), .slice A 2 c] w fun e w' => e = .returned (outR (Ev.side [114, 105, 103, 104, 116] a b)) ∧ Below w.heap.size w w' := by
 have b0 := (Below.refl w.heap.size w).alloc (Nat.le_refl _) (.cells #[.int .i64 0, .int .i64 0, .string ⟨#[]⟩] 23)
 have r0 := Row3.new w 0 0 ⟨#[]⟩
 have hV1 := hV.below b0
 have HE := Lib.hid (hE.below b0)
 obtain ⟨B, O, rfl, hB, ⟨x0, x1, x2⟩, y0, y1, y2⟩ := vals_two hV1
 have HBB : Hid (B < w.heap.size) := Lib.hid (by obtain ⟨b', o', e, h, -⟩ := hV 0 (by simp); cases e; exact h)
 clear hB hE
 have AT := Lib.hid (fun U g hU hK => are_two2 a b 2 1 (some ⟨B, O, none⟩) c _ U g hV1 hU hK)
 have HD : Hid ((decide (a.k = 2 ∨ a.k = 0) && decide (b.k = 1 ∨ b.k = 0)) = decide (a.k = 2 ∧ b.k = 1)) := Lib.hid (by rw [Bool.eq_iff_iff]; simp; omega)
 rw [HD.out] at AT
 have FIN : Hid (a.k = 2 ∧ b.k = 1 → Ev.side [114, 105, 103, 104, 116] a b = Ev.ok ⟨2, 0, a.s.drop (a.s.length - Ev.cutN b.n a.s.length)⟩) := Lib.hid (fun h => by rw [Ev.side, if_pos h, if_neg (by decide)])
 have BAD : Hid (¬ (a.k = 2 ∧ b.k = 1) → Ev.side [114, 105, 103, 104, 116] a b = Ev.err 10) := Lib.hid (fun h => by rw [Ev.side, if_neg h])
 have HS : Hid ((tx a.s).size = a.s.length) := Lib.hid (by simp [ByteArray.size, tx])
 have HL : Hid (a.s.length ≤ 200) := Lib.hid (pl_size ha).2
 obtain ⟨ka, na, sa⟩ := a
 obtain ⟨kb, nb, sb⟩ := b
 dsimp only at *
 clear hV hna ha HD hb hnb
 by_cases hk : ka = 2 ∧ kb = 1
 ·have HR := Lib.hid (FIN.out hk)
  have HDD : Hid (decide (ka = 2 ∧ kb = 1) = true) := Lib.hid (by simpa using hk)
  rw [HDD.out] at AT
  clear FIN BAD
  obtain ⟨W1, hW1⟩ : ∃ W1, w.alloc (.cells #[.int .i64 0, .int .i64 0, .string ⟨#[]⟩] 23) = W1 := ⟨_, rfl⟩
  rw [hW1] at b0 r0 hV1 x0 x1 x2 y0 y1 y2 AT HE
  have B0 := Lib.hid b0
  have R0 := Lib.hid r0
  have HV1 := Lib.hid hV1
  have HBW : Hid (B < W1.heap.size) := Lib.hid (by have := HBB.out; have := r0.lt; omega)
  clear b0 r0 hV1
  go_enter Tryz.func92, Tryz.ntmps92
  go_wp2_with fail
  refine (AT.out _ _ (by first | exact (Below.refl _ _).alloc (Nat.le_refl _) _ | exact ((Below.refl _ _).alloc (Nat.le_refl _) _).drew) (by exact Whole.new W1 _ _)).mono ?_
  rintro e W2 ⟨rfl, hb2⟩
  have R2 := Lib.hid (R0.out.below hb2 R0.out.lt)
  have B2 := Lib.hid (B0.out.trans (hb2.mono B0.out.size))
  have HX0 := Lib.hid x0
  have HX1 := Lib.hid x1
  have HX2 := Lib.hid x2
  have HY0 := Lib.hid y0
  have HY1 := Lib.hid y1
  have HY2 := Lib.hid y2
  have x0' := (hb2.cell (p := ⟨B, O, none⟩) HBW.out).trans x0
  have x1' := (hb2.cell (p := ⟨B, O + 1, none⟩) HBW.out).trans x1
  have x2' := (hb2.cell (p := ⟨B, O + 2, none⟩) HBW.out).trans x2
  have y0' := (hb2.cell (p := ⟨B, O + 3, none⟩) HBW.out).trans y0
  have y1' := (hb2.cell (p := ⟨B, O + 3 + 1, none⟩) HBW.out).trans y1
  have y2' := (hb2.cell (p := ⟨B, O + 3 + 2, none⟩) HBW.out).trans y2
  clear y0 y1 y2
  obtain ⟨m, hm⟩ : ∃ m, sa.length = m := ⟨_, rfl⟩
  have HM := Lib.hid hm
  have WI := Lib.hid (fun W => within_any nb m W)
  obtain ⟨q, hq⟩ : ∃ q, Ev.cutN nb m = q := ⟨_, rfl⟩
  have hql : q ≤ m := by rw [← hq]; exact cutN_le nb m
  have HQL := Lib.hid hql
  rw [hm, hq] at HR
  rw [hq] at WI
  obtain ⟨r, hrq⟩ : ∃ r, m - q = r := ⟨_, rfl⟩
  rw [hrq] at HR
  have hm9 : m ≤ 200 := by have := HL.out; omega
  have HTX : Hid ((tx sa).extract r m = tx (sa.drop r)) := Lib.hid (by rw [← HM.out]; exact tx_drop sa _)
  have HTZ : Hid ((tx (sa.drop r)).size = (sa.drop r).length) := Lib.hid (by simp [ByteArray.size, tx])
  have TS := Lib.hid (fun W (hW : Below W2.heap.size W2 W) => call_over hW (text_small ((tx sa).extract r m) W (by rw [HTX.out, HTZ.out]; have := HL.out; rw [List.length_drop]; omega)))
  have hsz : ((tx sa).size : Int) = (m : Int) := by have := HS.out; omega
  have hsn : (tx sa).size = m := by have := HS.out; omega
  have hmq : (m : Int) - (q : Int) = (r : Nat) := by omega
  have hr9 : (r : Int) ≤ (m : Int) := by omega
  have hm9i : (m : Int) ≤ 200 := by omega
  have hq9i : (r : Int) ≤ 200 := by omega
  have hwr : IntKind.i64.wrap ((r : Nat) : Int) = (r : Nat) := by rw [IntKind.wrap_i64]; omega
  clear hrq
  have WI2 : Hid (∀ U, Calls Tryz.prog 121 #[.int .i64 nb, .int .i64 (m : Nat)] U fun e w' => e = .returned (.int .i64 (q : Nat)) ∧ Below U.heap.size U w') := Lib.hid (fun U => (WI.out U).mono (fun e w' h => ⟨h.1, by rw [h.2]; exact Below.refl _ _⟩))
  have TS2 := Lib.hid (fun U => text_small ((tx sa).extract r m) U (by rw [HTX.out, HTZ.out]; have := HL.out; rw [List.length_drop]; omega))
  have BW2 := hb2.mono (Nat.le_of_lt R0.out.lt)
  have Q1 : Hid (BW w W2) := Lib.hid B2.out
  have KK : Hid (∀ U, BW w U → (U.cell? ⟨B, O, none⟩ = some (.int .i64 ka) ∧ U.cell? ⟨B, O + 1, none⟩ = some (.int .i64 na) ∧ U.cell? ⟨B, O + 2, none⟩ = some (.string (tx sa))) ∧ U.cell? ⟨B, O + 3, none⟩ = some (.int .i64 kb) ∧ U.cell? ⟨B, O + 3 + 1, none⟩ = some (.int .i64 nb) ∧ U.cell? ⟨B, O + 3 + 2, none⟩ = some (.string (tx sb))) := Lib.hid (fun U hU => by
   have e := fun k => (hU.cell (p := ⟨B, k, none⟩) HBB.out).trans (B0.out.cell (p := ⟨B, k, none⟩) HBB.out).symm
   exact ⟨⟨(e _).trans HX0.out, (e _).trans HX1.out, (e _).trans HX2.out⟩, (e _).trans HY0.out, (e _).trans HY1.out, (e _).trans HY2.out⟩)
  clear hb2 AT hk hm hq x0 x1 x2 x0' x1' x2' y0' y1' y2' WI TS BW2
  go_upto_region 10 with fail
  have QD : Hid (BW w W2.drew) := Lib.hid Q1.out.drew
  refine wp_region_held_drew (S := fun U => BW w U) (by kernel_rfl) QD.out (fun _ => ?_)
  refine qTk 0 (v := ?_) QD.out ?_ ?_
  rotate_left
  ·(intro W hw; go_simp; try with_reducible rfl)
  refine qTk 1 (v := ?_) QD.out ?_ ?_
  rotate_left
  ·(intro W hw; go_simp; try with_reducible rfl)
  refine qTk 2 (v := ?_) QD.out ?_ ?_
  rotate_left
  ·(intro W hw; go_simp; try with_reducible rfl)
  refine qTk 3 (v := ?_) QD.out ?_ ?_
  rotate_left
  ·(intro W hw; obtain ⟨⟨p0, p1, p2⟩, p3, p4, p5⟩ := KK.out W hw; go_simp; try with_reducible rfl)
  refine qTk 4 (v := ?_) QD.out ?_ ?_
  rotate_left
  ·(intro W hw; go_simp; try with_reducible rfl)
  refine qTk 5 (v := ?_) QD.out ?_ ?_
  rotate_left
  ·(intro W hw; go_simp; try with_reducible rfl)
  refine qTk 6 (v := ?_) QD.out ?_ ?_
  rotate_left
  ·(intro W hw; go_simp; try with_reducible rfl)
  refine qTk 7 (v := ?_) QD.out ?_ ?_
  rotate_left
  ·(intro W hw; obtain ⟨⟨p0, p1, p2⟩, p3, p4, p5⟩ := KK.out W hw; go_simp; try with_reducible rfl)
  refine qTk 8 (v := ?_) QD.out ?_ ?_
  rotate_left
  ·(intro W hw; go_simp; try with_reducible rfl)
  refine qTk 9 (v := ?_) QD.out ?_ ?_
  rotate_left
  ·(intro W hw; go_simp; try with_reducible rfl)
  refine qTk 10 (v := ?_) QD.out ?_ ?_
  rotate_left
  ·(intro W hw; go_simp; try with_reducible rfl)
  refine qTk 11 (v := ?_) QD.out ?_ ?_
  rotate_left
  ·(intro W hw; go_simp; try with_reducible rfl)
  refine qTk 12 (v := ?_) QD.out ?_ ?_
  rotate_left
  ·(intro W hw; obtain ⟨⟨p0, p1, p2⟩, p3, p4, p5⟩ := KK.out W hw; go_simp; try with_reducible rfl)
  refine qTk 13 (v := ?_) QD.out ?_ ?_
  rotate_left
  ·(intro W hw; go_simp; try with_reducible rfl)
  refine qTk 14 (v := ?_) QD.out ?_ ?_
  rotate_left
  ·(intro W hw; go_simp; try with_reducible rfl)
  refine qTk 15 (v := ?_) QD.out ?_ ?_
  rotate_left
  ·(intro W hw; go_simp; try with_reducible rfl)
  refine qTk 16 (v := ?_) QD.out ?_ ?_
  rotate_left
  ·(intro W hw; obtain ⟨⟨p0, p1, p2⟩, p3, p4, p5⟩ := KK.out W hw; go_simp; try with_reducible rfl)
  refine qTk 17 (v := ?_) QD.out ?_ ?_
  rotate_left
  ·(intro W hw; go_simp; try with_reducible rfl)
  refine qTr1 18 (fun K hK => ?_)
  go_simp
  refine (WI2.out _).mono ?_
  rintro e V1 ⟨rfl, hv1⟩
  have QV1 := Lib.hid (QD.out.call hv1)
  have ZB1 := Row3.below (w' := V1) (g := w.heap.size) (k := 0) (n := 0) (s := ⟨#[]⟩) (by exact R2.out) hv1 (by exact R2.out.lt)
  obtain ⟨z0, z1, z2⟩ := ZB1.holds
  have f0 := ZB1.frozen 0
  have f1 := ZB1.frozen 1
  have f2 := ZB1.frozen 2
  refine hK.out _ _ QV1.out (fun _ => ?_)
  clear hK K
  refine qTk 19 (v := ?_) QV1.out ?_ ?_
  rotate_left
  ·(intro W hw; go_simp; try with_reducible rfl)
  refine qTk 20 (v := ?_) QV1.out ?_ ?_
  rotate_left
  ·(intro W hw; go_simp; try with_reducible rfl)
  refine qTr1 21 (fun K hK => ?_)
  go_simp
  refine (TS2.out _).mono ?_
  rintro e V2 ⟨rfl, hv2⟩
  have QV2 := Lib.hid (QV1.out.call hv2)
  have ZB2 := Row3.below (w' := V2) (g := w.heap.size) (k := 0) (n := 0) (s := ⟨#[]⟩) (by exact ZB1) hv2 (by exact ZB1.lt)
  obtain ⟨z0, z1, z2⟩ := ZB2.holds
  have f0 := ZB2.frozen 0
  have f1 := ZB2.frozen 1
  have f2 := ZB2.frozen 2
  refine hK.out _ _ QV2.out (fun _ => ?_)
  clear hK K
  refine qTr1 22 (fun K hK => ?_)
  go_simp
  have QS := Lib.hid (QV2.out.set3 (g := w.heap.size) (by first | omega | exact Nat.le_refl _) (.int .i64 2) (.int .i64 0) (.string ((tx sa).extract r m)))
  have FW := Lib.hid (ZB2.set3 2 0 ((tx sa).extract r m))
  refine hK.out _ _ QS.out (fun _ => ?_)
  clear hK K
  refine qTk 23 (v := ?_) QS.out ?_ ?_
  rotate_left
  ·(intro W hw; go_simp; try with_reducible rfl)
  refine wpAnyH_done (by kernel_rfl) ?_ _
  try simp only  [Act.put, List.setIfInBounds_toArray, List.set_cons_zero, List.set_cons_succ]
  go_wp2_with fail
  exact fin_R2 Tryz.results92 rfl rfl rfl FW.out QS.out (by rw [HR.out, HTX.out]; rfl)
 ·have HR := Lib.hid (BAD.out hk)
  have HDD : Hid (decide (ka = 2 ∧ kb = 1) = false) := Lib.hid (by simpa using hk)
  rw [HDD.out] at AT
  clear FIN BAD hk
  obtain ⟨W1, hW1⟩ : ∃ W1, w.alloc (.cells #[.int .i64 0, .int .i64 0, .string ⟨#[]⟩] 23) = W1 := ⟨_, rfl⟩
  rw [hW1] at b0 r0 hV1 x0 x1 x2 y0 y1 y2 AT HE
  have B0 := Lib.hid b0
  have R0 := Lib.hid r0
  have HV1 := Lib.hid hV1
  have HBW : Hid (B < W1.heap.size) := Lib.hid (by have := HBB.out; have := r0.lt; omega)
  clear b0 r0 hV1
  go_enter Tryz.func92, Tryz.ntmps92
  go_wp2_with fail
  refine (AT.out _ _ (by first | exact (Below.refl _ _).alloc (Nat.le_refl _) _ | exact ((Below.refl _ _).alloc (Nat.le_refl _) _).drew) (by exact Whole.new W1 _ _)).mono ?_
  rintro e W2 ⟨rfl, hb2⟩
  have R2 := Lib.hid (R0.out.below hb2 R0.out.lt)
  have B2 := Lib.hid (B0.out.trans (hb2.mono B0.out.size))
  clear x0 x1 x2 AT y0 y1 y2
  go_wp2_with fail
  refine (efail_any _ _).mono ?_
  rintro e w3 ⟨rfl, hb3⟩
  have R3 := Lib.hid (R2.out.below hb3 R2.out.lt)
  have B3 := Lib.hid (bstep B2.out hb3)
  clear hb3
  obtain ⟨d1, d2, d3⟩ := R3.out.holds
  have f0 := R3.out.frozen 0
  have f1 := R3.out.frozen 1
  have f2 := R3.out.frozen 2
  unfold outR vv vcells Ev.err Ev.z
  go_wp2_with fail
  exact fin_R Tryz.results92 rfl rfl rfl R3.out B3.out (Nat.le_refl _) (by rw [HR.out]; rfl)
end Go.Proofs.YteghhmomhlnccaaGreatDoor
namespace Go.Proofs.YteghhmomhlnccaaGreatDoor
open Go.RowKit Go.Lib
set_option maxRecDepth 100000
attribute [local go_sem ↓] eqVal neqVal
open Ex (Tree)
open Ev (V R Pl)
variable {C : List Col} {Ac : Option Addr} {cc : Nat} {W : List V} {Ar : Option Addr} {cr : Nat} {w0 : World}
theorem append_val {w : World} {base : Nat} {v : Value} {l : List V} (h : RowV w base v l) (x : V) (hn : l.length ≤ 100000) (hbase : base ≤ w.heap.size) :
  ∃ v' w', Sem.run Tryz.prog (Builtin.append_ #[28, 28] 28 #[v, .slice (some ⟨w.heap.size, 0, none⟩) 1 1]) (w.alloc (.cells (vcells x) 23)) = .ok v' w' ∧ RowV w' base v' (l ++ [x]) ∧ Touch v.ownBlock.toList w w' := by
 have b0 : Below w.heap.size w (w.alloc (.cells (vcells x) 23)) := (Below.refl _ _).alloc (Nat.le_refl _) _
 have k0 := Whole.new w 23 (vcells x)
 have hm : ValsAt (w.alloc (.cells (vcells x) 23)) (some ⟨w.heap.size, 0, none⟩) [x] := ValsAt.of_cells k0.lt (fun j u hu => by rw [Nat.zero_add, k0.cell, ← hu]; simp [valCells])
 obtain ⟨v', w', hr, ho, ht, -⟩ := append_vals (h.below b0) hm (c := 1) (by simp; omega) (by simp; omega)
 exact ⟨v', w', hr, ho, (Touch.of_below b0 _).trans ht (fun k hk => .inl hk)⟩
def Ev.errOf : List R → Int
 | [] => 0
 | r :: l => if r.e = 0 then Ev.errOf l else r.e
def Ev.app (op : Int) (t : List UInt8) : List V → R
 | [a] => Ev.un op t a
 | [a, b] => if op = 5 then Ev.bin t a b else Ev.side t a b
 | _ => Ev.ok Ev.z
def Ev.allR (op : Int) (t : List UInt8) (l : List R) : R :=
 if Ev.errOf l = 0 then (if (l.map (·.v)).any (fun v => decide (v.k = 0)) = true then Ev.ok Ev.z else Ev.app op t (l.map (·.v))) else Ev.err (Ev.errOf l)
def Ev.AllN (op : Int) (t : List UInt8) (n : Nat) : Prop := ((op = 3 ∨ op = 4) ∧ n = 1) ∨ (op = 5 ∧ n = 2) ∨ (op = 6 ∧ n = 1 ∧ (t = [108, 101, 110] ∨ t = [115, 116, 114] ∨ t = [110, 117, 109])) ∨ (op = 6 ∧ n = 2 ∧ (t = [108, 101, 102, 116] ∨ t = [114, 105, 103, 104, 116]))
theorem apply_all {op : Int} {t : List UInt8} {l : List V} (h : Ev.AllN op t l.length) (hp : ∀ v ∈ l, Pl v) (hz : ∀ v ∈ l, ¬ v.k = 0) (A : Option Addr) (c : Nat) (w : World) (hV : ValsAt w A l) (ad : Addr) (mx : Int) (hE : Env w ad mx) :
  (op = 5 → Calls Tryz.prog 91 #[.string (tx t), .slice A l.length c] w fun e w' => e = .returned (outR (Ev.app op t l)) ∧ Below w.heap.size w w') ∧
  (op = 6 → Calls Tryz.prog 92 #[.string (tx t), .slice A l.length c] w fun e w' => e = .returned (outR (Ev.app op t l)) ∧ Below w.heap.size w w') ∧
  (op = 3 ∨ op = 4 → Calls Tryz.prog 93 #[.int .i64 op, .slice A l.length c] w fun e w' => e = .returned (outR (Ev.app op t l)) ∧ Below w.heap.size w w') := by
 match l, h, hp, hz, hV with
 | [], h, _, _, _ => rcases h with ⟨-, h⟩ | ⟨-, h⟩ | ⟨-, h, -⟩ | ⟨-, h, -⟩ <;> cases h
 | [a], h, hp, hz, hV =>
  have pa := hp a (by simp)
  have za := hz a (by simp)
  refine ⟨fun h5 => ?_, fun h6 => ?_, fun h3 => ?_⟩
  ·rcases h with ⟨h, -⟩ | ⟨-, h⟩ | ⟨h, -, -⟩ | ⟨h, -, -⟩
   ·omega
   ·cases h
   ·omega
   ·omega
  ·rcases h with ⟨h, -⟩ | ⟨h, -⟩ | ⟨-, -, hh⟩ | ⟨-, h, -⟩
   ·omega
   ·omega
   ·subst h6
    rcases hh with ht | ht | ht <;> rw [ht]
    ·exact called_len a A c w hV pa za ad mx hE
    ·exact called_str a A c w hV pa za ad mx hE
    ·exact called_num a A c w hV pa za ad mx hE
   ·cases h
  ·rcases h3 with rfl | rfl
   ·exact signed_neg t a A c w hV pa za ad mx hE
   ·exact signed_not t a A c w hV pa za ad mx hE
 | [a, b], h, hp, hz, hV =>
  have pa := hp a (by simp)
  have pb := hp b (by simp)
  have za := hz a (by simp)
  have zb := hz b (by simp)
  refine ⟨fun h5 => ?_, fun h6 => ?_, fun h3 => ?_⟩
  ·subst h5
   exact marked_any t a b A c w hV pa pb za zb
  ·subst h6
   rcases h with ⟨h, -⟩ | ⟨h, -⟩ | ⟨-, h, -⟩ | ⟨-, -, hh⟩
   ·omega
   ·omega
   ·cases h
   ·rcases hh with ht | ht <;> rw [ht]
    ·exact called_left a b A c w hV pa pb za zb ad mx hE
    ·exact called_right a b A c w hV pa pb za zb ad mx hE
  ·rcases h with ⟨-, h⟩ | ⟨h, -⟩ | ⟨h, -⟩ | ⟨h, -⟩
   ·cases h
   ·omega
   ·omega
   ·omega
 | a :: b :: d :: l, h, _, _, _ => rcases h with ⟨-, h⟩ | ⟨-, h⟩ | ⟨-, h, -⟩ | ⟨-, h, -⟩ <;> simp at h
theorem allR_err {op : Int} {t : List UInt8} {l : List R} {i : Nat} {r : R} {m : List R} (h : Ev.errOf l = Ev.errOf (l.drop i)) (hd : l.drop i = r :: m) (he : r.e ≠ 0) : Ev.allR op t l = Ev.err r.e := by
 have : Ev.errOf l = r.e := by rw [h, hd, Ev.errOf, if_neg he]
 rw [Ev.allR, this, if_neg he]
theorem errOf_next {l : List R} {i : Nat} {r : R} {m : List R} (h : Ev.errOf l = Ev.errOf (l.drop i)) (hd : l.drop i = r :: m) (he : r.e = 0) : Ev.errOf l = Ev.errOf (l.drop (i + 1)) := by
 rw [h, hd, Ev.errOf, if_pos he]
 have : l.drop (i + 1) = m := by rw [← List.drop_drop, hd]; rfl
 rw [this]
theorem etake_next {l : List R} {i : Nat} {r : R} {m : List R} (hd : l.drop i = r :: m) : (l.take (i + 1)).map (·.v) = (l.take i).map (·.v) ++ [r.v] := by
 have hi : i < l.length := by
  rcases Nat.lt_or_ge i l.length with h | h
  ·exact h
  ·rw [List.drop_of_length_le h] at hd; cases hd
 have hr : l[i] = r := by rw [List.drop_eq_getElem_cons hi] at hd; exact (List.cons.inj hd).1
 rw [List.take_succ_eq_append_getElem hi, List.map_append, hr]; rfl
theorem RowV.nil (w : World) (base : Nat) : RowV w base (.slice none 0 0) [] := ⟨rfl, .inl ⟨rfl, rfl⟩⟩
structure AllS (w wr : World) (cs : Array Value) (op : Int) (t : List UInt8) (vk vn : Int) (vs : List UInt8) (A : Option Addr) (n c : Nat) : Prop where
 ov : Below w.heap.size w wr
 over : Whole wr w.heap.size 60 cs
 node : Whole wr (w.heap.size + 1) 26 (ncells op t vk vn vs A n c)
 res : Row3 wr (w.heap.size + 2) 0 0 ⟨#[]⟩
theorem AllS.call {w wr w' : World} {cs : Array Value} {op t vk vn vs A n c} (h : AllS w wr cs op t vk vn vs A n c) (hb : Below wr.heap.size wr w') : AllS w w' cs op t vk vn vs A n c :=
 ⟨bstep h.ov hb, h.over.below hb h.over.lt, h.node.below hb h.node.lt, h.res.below hb h.res.lt⟩
theorem AllS.alloc {w wr : World} {cs : Array Value} {op t vk vn vs A n c} (h : AllS w wr cs op t vk vn vs A n c) (x : Obj) : AllS w (wr.alloc x) cs op t vk vn vs A n c := h.call ((Below.refl _ _).alloc (Nat.le_refl _) x)
theorem AllS.from {w w1 wr w' : World} {cs : Array Value} {op t vk vn vs A n c} (h : AllS w w1 cs op t vk vn vs A n c) (hb : Below w1.heap.size w1 w') : AllS w w' cs op t vk vn vs A n c := h.call hb
set_option maxHeartbeats 4000000 in
theorem ofAll_of {ks : List Tree} {op : Int} {t : List UInt8} {vk vn : Int} {vs : List UInt8} (hN : Ev.AllN op t ks.length) (hX : ∀ i (h : i < ks.length), CT C Ac cc W Ar cr w0 ks[i]) (hp : ∀ i (h : i < ks.length), Pl (Ev.ev C W ks[i]).v) (v : Value) (w : World) (hb : Below w0.heap.size w0 w) (hv : NodeV w v (.node op t vk vn vs ks)) (ad : Addr) (mx : Int) (hE : Env w ad mx) :
  Calls Tryz.prog 58 #[ovV C Ac cc W Ar cr, v] w fun e w' => e = .returned (outR (Ev.allR op t (Ev.evs C W ks))) ∧ Below w.heap.size w w' := by
 obtain ⟨A, c, rfl, hcc, hk⟩ := hv
 have b0 := (Below.refl w.heap.size w).alloc (Nat.le_refl _) (.cells #[.slice Ac C.length cc, .slice Ar W.length cr] 60)
 have b1 := b0.alloc (by simp) (.cells (ncells op t vk vn vs A ks.length c) 26)
 have b2 := b1.alloc (by simp; omega) (.cells #[.int .i64 0, .int .i64 0, .string ⟨#[]⟩] 23)
 have k0 := ((Whole.new w 60 #[.slice Ac C.length cc, .slice Ar W.length cr]).alloc (.cells (ncells op t vk vn vs A ks.length c) 26)).alloc (.cells #[.int .i64 0, .int .i64 0, .string ⟨#[]⟩] 23)
 have k1 := (Whole.new (w.alloc (.cells #[.slice Ac C.length cc, .slice Ar W.length cr] 60)) 26 (ncells op t vk vn vs A ks.length c)).alloc (.cells #[.int .i64 0, .int .i64 0, .string ⟨#[]⟩] 23)
 have r2 := Row3.new ((w.alloc (.cells #[.slice Ac C.length cc, .slice Ar W.length cr] 60)).alloc (.cells (ncells op t vk vn vs A ks.length c) 26)) 0 0 ⟨#[]⟩
 simp only [World.size_alloc] at k1 r2
 obtain ⟨W1, hW1⟩ : ∃ W1, ((w.alloc (.cells #[.slice Ac C.length cc, .slice Ar W.length cr] 60)).alloc (.cells (ncells op t vk vn vs A ks.length c) 26)).alloc (.cells #[.int .i64 0, .int .i64 0, .string ⟨#[]⟩] 23) = W1 := ⟨_, rfl⟩
 rw [hW1] at b2 k0 k1 r2
 have HKID := Lib.hid (fun i (h : i < ks.length) => kid_call h (hX i h) hb hk)
 have HP := Lib.hid hp
 have HE1 := Lib.hid (hE.below b2)
 have HA1 : Hid (AllS w W1 #[.slice Ac C.length cc, .slice Ar W.length cr] op t vk vn vs A ks.length c) := Lib.hid ⟨b2, k0, k1, r2⟩
 obtain ⟨RES, hres⟩ : ∃ RES, Ev.allR op t (Ev.evs C W ks) = RES := ⟨_, rfl⟩
 have HRES := Lib.hid hres
 have HNN := Lib.hid hN
 have hn5 : ks.length ≤ 2 := by rcases hN with ⟨-, h⟩ | ⟨-, h⟩ | ⟨-, h, -⟩ | ⟨-, h, -⟩ <;> omega
 rw [hres]
 obtain ⟨n, hn'⟩ : ∃ n, ks.length = n := ⟨_, rfl⟩
 have HN := Lib.hid hn'
 rw [hn'] at hn5 hW1 HA1 HNN ⊢
 have HEVL : Hid ((Ev.evs C W ks).length = n) := Lib.hid (by rw [Ev.evs_len, hn'])
 have HPE : Hid (∀ v ∈ (Ev.evs C W ks).map (·.v), Pl v) := Lib.hid (fun v hv => by
  obtain ⟨r, hr, rfl⟩ := List.mem_map.1 hv
  obtain ⟨i, hi, rfl⟩ := List.getElem_of_mem hr
  have hi' : i < ks.length := by rw [Ev.evs_len] at hi; exact hi
  have := Ev.evs_at C W ks i hi'
  rw [List.getElem?_eq_getElem hi] at this
  rw [Option.some.inj this]; exact hp i hi')
 clear hres hn' hN hX hp hb hk hE hcc b0 b1 b2 k0 k1 r2
 unfold ovV at *
 obtain ⟨cn, hcn⟩ : ∃ cn, C.length = cn := ⟨_, rfl⟩
 obtain ⟨wn, hwn⟩ : ∃ wn, W.length = wn := ⟨_, rfl⟩
 rw [hcn, hwn] at hW1 HA1 HKID ⊢
 clear hcn hwn
 have hnode := six_of HA1.out.node
 unfold ncells at *
 obtain ⟨c0, c1, c2, c3, c4, c5⟩ := hnode
 go_enter Tryz.func58, Tryz.ntmps58
 go_wp2_with fail
 go_loopg [6, 8, 9, 10, 14] (n + 1) (fun j s6 s8 s9 s10 s14 wr => ∃ (i : Nat), i ≤ n ∧ n < i + j ∧ s14 = .int .i64 (i : Nat) ∧ Hid (Ev.errOf (Ev.evs C W ks) = Ev.errOf ((Ev.evs C W ks).drop i)) ∧ Hid (RowV wr W1.heap.size s6 (((Ev.evs C W ks).take i).map (·.v))) ∧ Hid (Below W1.heap.size W1 wr))
 case atStart => exact ⟨0, by omega, by omega, rfl, Lib.hid rfl, Lib.hid (RowV.nil _ _), Lib.hid (Below.refl _ _)⟩
 case round =>
  obtain ⟨i, hi, hj, rfl, HER, HRow, HB⟩ := hrel
  clear c0 c1 c2 c3 c4 c5
  have HAr := Lib.hid (HA1.out.from (wr := wr) HB.out)
  by_cases hlt : i < n
  ·have hlt' : (i : Int) < (n : Int) := by omega
   have hik : i < ks.length := by rw [HN.out]; exact hlt
   obtain ⟨kb, ko, o1, t1, k1, n1, s1, m1, B1, d1, rfl, hkb, hc, -, CX⟩ := HKID.out i hik
   obtain ⟨p0, p1, p2, p3, p4, p5⟩ := hc wr HAr.out.ov
   have HDR := Lib.hid (evs_drop (C := C) (W := W) ks i hik)
   obtain ⟨x, hx⟩ : ∃ x, Ev.ev C W ks[i] = x := ⟨_, rfl⟩
   rw [hx] at CX HDR
   unfold ncells at *
   have HD1 := Lib.hid (HAr.out.alloc (.cells #[.int .i64 o1, .string (tx t1), .int .i64 k1, .int .i64 n1, .string (tx s1), .slice B1 m1 d1] 26))
   have hbk := (Below.refl wr.heap.size wr).alloc (Nat.le_refl _) (.cells #[.int .i64 o1, .string (tx t1), .int .i64 k1, .int .i64 n1, .string (tx s1), .slice B1 m1 d1] 26)
   have HRw1 := Lib.hid (HRow.out.below hbk)
   have HB1 := Lib.hid (bstep HB.out hbk)
   have HCX := Lib.hid (CX _ HD1.out.ov)
   have x0 := HD1.out.over.cell 0
   have x1 := HD1.out.over.cell 1
   simp only [List.getElem?_toArray, List.getElem?_cons_zero, List.getElem?_cons_succ] at x0 x1
   obtain ⟨e0, e1, e2, e3, e4, e5⟩ := six_of (Whole.new wr 26 (ncells o1 t1 k1 n1 s1 B1 m1 d1))
   have HERR : Hid (x.e ≠ 0 → RES = Ev.err x.e) := Lib.hid (fun h => by rw [← HRES.out]; exact allR_err HER.out HDR.out h)
   have HNX : Hid (x.e = 0 → Ev.errOf (Ev.evs C W ks) = Ev.errOf ((Ev.evs C W ks).drop (i + 1))) := Lib.hid (fun h => errOf_next HER.out HDR.out h)
   have HTK : Hid (((Ev.evs C W ks).take (i + 1)).map (·.v) = ((Ev.evs C W ks).take i).map (·.v) ++ [x.v]) := Lib.hid (etake_next HDR.out)
   unfold ncells at *
   obtain ⟨⟨xk, xn, xs_⟩, xe⟩ := x
   unfold outR vv vcells at *
   dsimp only at *
   clear hx hc CX HDR HER HRow hbk
   have hwr : wr.heap.size < (wr.alloc (.cells #[.int .i64 o1, .string (tx t1), .int .i64 k1, .int .i64 n1, .string (tx s1), .slice B1 m1 d1] 26)).heap.size := by simp
   go_wp2_with fail
   refine HCX.out.mono ?_
   rintro e V2 ⟨rfl, hv2⟩
   have HD3 := Lib.hid ((HD1.out.call hv2).alloc (.cells #[.int .i64 xk, .int .i64 xn, .string (tx xs_)] 23))
   have hbv := (Below.refl V2.heap.size V2).alloc (Nat.le_refl _) (.cells #[.int .i64 xk, .int .i64 xn, .string (tx xs_)] 23)
   have HRw3 := Lib.hid ((HRw1.out.below hv2).below hbv)
   have HB3 := Lib.hid (bstep (bstep HB1.out hv2) hbv)
   have HQ3 := Lib.hid (Row3.new V2 xk xn (tx xs_))
   obtain ⟨V3, hV3⟩ : ∃ V3, V2.alloc (.cells #[.int .i64 xk, .int .i64 xn, .string (tx xs_)] 23) = V3 := ⟨_, rfl⟩
   rw [hV3] at HD3 HQ3 HRw3 HB3
   obtain ⟨q0, q1, q2⟩ := HQ3.out.holds
   clear x0 x1 p0 p1 p2 p3 p4 p5 e0 e1 e2 e3 e4 e5 hv2 hbv HCX HRw1 HB1 HD1
   by_cases h : xe = 0
   ·have h' : (xe != 0) = false := by simpa using h
    have HNX2 := Lib.hid (HNX.out h)
    obtain ⟨v5, w5, hrun, r5, T5⟩ := append_val HRw3.out ⟨xk, xn, xs_⟩ (by rw [List.length_map, List.length_take]; omega) HB3.out.size
    have HR5 : Hid (RowV w5 W1.heap.size v5 (((Ev.evs C W ks).take (i + 1)).map (·.v))) := Lib.hid (by rw [HTK.out]; exact r5)
    have B5 : Hid (Below W1.heap.size W1 w5) := Lib.hid (T5.fresh HB3.out (fun k hk => (HRw3.out.block k (by simpa using hk)).1))
    unfold vcells at hrun
    have HRUN := Lib.hid hrun
    clear hrun r5 T5 HERR HNX HTK h
    go_wp2_with (at_builtin; refine Lib.wpList_append_run _ rfl (.tmp 30) (.tmp 32) 28 28 rfl _ _ rfl rfl _ _ HRUN.out ?_)
    go_roundg (n - i)
    case measure => omega
    case rel => exact ⟨i + 1, by omega, by omega, by go_num, HNX2, HR5, B5⟩
   ·have h' : (xe != 0) = true := by simpa using h
    have HR : Hid (RES = Ev.err xe) := Lib.hid (HERR.out h)
    clear h q0 q1 q2
    go_wp2_with fail
    refine (efail_any _ _).mono ?_
    rintro e V4 ⟨rfl, hb4⟩
    have HD4 := Lib.hid (HD3.out.call hb4)
    clear hb4
    obtain ⟨d0, d1, d2⟩ := HD4.out.res.holds
    have f0 := HD4.out.res.frozen 0
    have f1 := HD4.out.res.frozen 1
    have f2 := HD4.out.res.frozen 2
    unfold outR vv vcells Ev.err Ev.z
    go_wp2_with fail
    exact fin_R Tryz.results58 rfl rfl rfl HD4.out.res HD4.out.ov (by omega) (by rw [HR.out]; rfl)
  ·have hlt' : ¬ (i : Int) < (n : Int) := by omega
   have hall : (Ev.evs C W ks).drop i = [] := List.drop_of_length_le (by rw [HEVL.out]; omega)
   have htk : (Ev.evs C W ks).take i = Ev.evs C W ks := List.take_of_length_le (by rw [HEVL.out]; omega)
   have HE0 : Hid (Ev.errOf (Ev.evs C W ks) = 0) := Lib.hid (by rw [HER.out, hall]; rfl)
   have HRw := HRow.out
   rw [htk] at HRw
   have HRES2 : Hid (RES = if ((Ev.evs C W ks).map (·.v)).any (fun v => decide (v.k = 0)) = true then Ev.ok Ev.z else Ev.app op t ((Ev.evs C W ks).map (·.v))) := Lib.hid (by rw [← HRES.out, Ev.allR, if_pos HE0.out])
   have HLL : Hid (((Ev.evs C W ks).map (·.v)).length = n) := Lib.hid (by rw [List.length_map, HEVL.out])
   obtain ⟨L, hL⟩ : ∃ L, (Ev.evs C W ks).map (·.v) = L := ⟨_, rfl⟩
   rw [hL] at HRw HRES2 HLL HPE
   have HRW := Lib.hid HRw
   obtain ⟨A6, c6, rfl, -, -, hV6⟩ := HRw.shape
   have HV6 := Lib.hid hV6
   clear hL hV6 HER HRow HRw hall htk HE0 HRES HKID HP
   have CO := Lib.hid (fun U (hU : Below wr.heap.size wr U) => contains_any L A6 c6 U (HV6.out.below hU) HPE.out (by rw [HLL.out]; omega))
   have AP := Lib.hid (fun (hz : ∀ v ∈ L, ¬ v.k = 0) U (hU : Below wr.heap.size wr U) => apply_all (op := op) (t := t) (by rw [HLL.out]; exact HNN.out) HPE.out hz A6 c6 U (HV6.out.below hU) ad mx ((HE1.out.below HB.out).below hU))
   have HAN : Hid (L.any (fun v => decide (v.k = 0)) = false → ∀ v ∈ L, ¬ v.k = 0) := Lib.hid (fun h v hv hz => by
    rw [Bool.eq_false_iff] at h
    exact h (List.any_eq_true.2 ⟨v, hv, by simpa using hz⟩))
   rw [HLL.out] at CO AP ⊢
   go_wp2_with fail
   refine (null_any _).mono ?_
   rintro e V1 ⟨rfl, hb1⟩
   go_wp2_with fail
   refine (CO.out _ hb1).mono ?_
   rintro e V2 ⟨rfl, hb2⟩
   have hb12 := bstep hb1 hb2
   have HD2 := Lib.hid (HAr.out.call hb12)
   have HB12 := Lib.hid hb12
   clear hb1 hb2 hb12 CO
   obtain ⟨c0, c1, c2, c3, c4, c5⟩ := six_of (HD2.out.node)
   obtain ⟨d0, d1, d2⟩ := HD2.out.res.holds
   have f0 := HD2.out.res.frozen 0
   have f1 := HD2.out.res.frozen 1
   have f2 := HD2.out.res.frozen 2
   cases hany : L.any (fun v => decide (v.k = 0))
   case true =>
    have HR : Hid (RES = Ev.ok Ev.z) := Lib.hid (by rw [HRES2.out, if_pos hany])
    clear hany HRES2 c0 c1 c2 c3 c4 c5 d0 d1 d2 f0 f1 f2
    go_wp2_with fail
    refine (null_any _).mono ?_
    rintro e V4 ⟨rfl, hb4⟩
    have HD4 := Lib.hid (HD2.out.call hb4)
    clear hb4
    obtain ⟨d0, d1, d2⟩ := HD4.out.res.holds
    have f0 := HD4.out.res.frozen 0
    have f1 := HD4.out.res.frozen 1
    have f2 := HD4.out.res.frozen 2
    go_wp2_with fail
    exact fin_R Tryz.results58 rfl rfl rfl HD4.out.res HD4.out.ov (by omega) (by rw [HR.out]; rfl)
   case false =>
    have HR : Hid (RES = Ev.app op t L) := Lib.hid (by rw [HRES2.out, if_neg (by rw [hany]; decide)])
    have AQ := Lib.hid (AP.out (HAN.out hany) V2 HB12.out)
    clear hany HRES2 AP HAN
    obtain ⟨⟨rk, rn, rs⟩, re_⟩ := RES
    rw [← HR.out] at AQ
    unfold outR vv vcells at AQ
    dsimp only at AQ
    have OPS : Hid (op = 5 ∨ op = 6 ∨ (op = 3 ∨ op = 4)) := Lib.hid (by rcases HNN.out with ⟨h, -⟩ | ⟨h, -⟩ | ⟨h, -, -⟩ | ⟨h, -, -⟩ <;> omega)
    by_cases h5 : op = 5
    ·have h5' : (op == 5) = true := by simpa using h5
     have A5 := Lib.hid (AQ.out.1 h5)
     clear AQ h5
     go_wp2_with fail
     refine A5.out.mono ?_
     rintro e V4 ⟨rfl, hb4⟩
     have HD4 := Lib.hid (HD2.out.call hb4)
     clear hb4 d0 d1 d2 f0 f1 f2 c0 c1 c2 c3 c4 c5
     obtain ⟨d0, d1, d2⟩ := HD4.out.res.holds
     have f0 := HD4.out.res.frozen 0
     have f1 := HD4.out.res.frozen 1
     have f2 := HD4.out.res.frozen 2
     go_wp2_with fail
     exact fin_R Tryz.results58 rfl rfl rfl HD4.out.res HD4.out.ov (by omega) rfl
    ·have h5' : (op == 5) = false := by simpa using h5
     by_cases h6 : op = 6
     ·have h6' : (op == 6) = true := by simpa using h6
      have A5 := Lib.hid (AQ.out.2.1 h6)
      clear AQ h5 h6
      go_wp2_with fail
      refine A5.out.mono ?_
      rintro e V4 ⟨rfl, hb4⟩
      have HD4 := Lib.hid (HD2.out.call hb4)
      clear hb4 d0 d1 d2 f0 f1 f2 c0 c1 c2 c3 c4 c5
      obtain ⟨d0, d1, d2⟩ := HD4.out.res.holds
      have f0 := HD4.out.res.frozen 0
      have f1 := HD4.out.res.frozen 1
      have f2 := HD4.out.res.frozen 2
      go_wp2_with fail
      exact fin_R Tryz.results58 rfl rfl rfl HD4.out.res HD4.out.ov (by omega) rfl
     ·have h6' : (op == 6) = false := by simpa using h6
      have A5 := Lib.hid (AQ.out.2.2 (by have := OPS.out; omega))
      clear AQ h5 h6
      go_wp2_with fail
      refine A5.out.mono ?_
      rintro e V4 ⟨rfl, hb4⟩
      have HD4 := Lib.hid (HD2.out.call hb4)
      clear hb4 d0 d1 d2 f0 f1 f2 c0 c1 c2 c3 c4 c5
      obtain ⟨d0, d1, d2⟩ := HD4.out.res.holds
      have f0 := HD4.out.res.frozen 0
      have f1 := HD4.out.res.frozen 1
      have f2 := HD4.out.res.frozen 2
      go_wp2_with fail
      exact fin_R Tryz.results58 rfl rfl rfl HD4.out.res HD4.out.ov (by omega) rfl
end Go.Proofs.YteghhmomhlnccaaGreatDoor
namespace Go.Proofs.YteghhmomhlnccaaGreatDoor
open Go.RowKit Go.Lib
set_option maxRecDepth 100000
attribute [local go_sem ↓] eqVal neqVal
open Ex (Tree)
open Ev (V R Pl)
variable {C : List Col} {Ac : Option Addr} {cc : Nat} {W : List V} {Ar : Option Addr} {cr : Nat} {w0 : World}
def Ev.isnR (r : R) : R := if r.e = 0 then Ev.ok (Ev.tru (decide (r.v.k = 0))) else Ev.err r.e
set_option maxHeartbeats 2000000 in
theorem isNull_of {X : Tree} (hX : CT C Ac cc W Ar cr w0 X) (hp : Pl (Ev.ev C W X).v) (v : Value) (w : World) (hb : Below w0.heap.size w0 w) (hv : NodeV w v X) :
  Calls Tryz.prog 55 #[ovV C Ac cc W Ar cr, v] w fun e w' => e = .returned (outR (Ev.isnR (Ev.ev C W X))) ∧ Below w.heap.size w w' := by
 cases X with
 | node op t vk vn vs ks =>
 obtain ⟨A, c, rfl, hcc, hk⟩ := hv
 have b0 := (Below.refl w.heap.size w).alloc (Nat.le_refl _) (.cells #[.slice Ac C.length cc, .slice Ar W.length cr] 60)
 have b1 := b0.alloc (by simp) (.cells (ncells op t vk vn vs A ks.length c) 26)
 have b2 := b1.alloc (by simp; omega) (.cells #[.int .i64 0, .int .i64 0, .string ⟨#[]⟩] 23)
 have k0 := ((Whole.new w 60 #[.slice Ac C.length cc, .slice Ar W.length cr]).alloc (.cells (ncells op t vk vn vs A ks.length c) 26)).alloc (.cells #[.int .i64 0, .int .i64 0, .string ⟨#[]⟩] 23)
 have k1 := (Whole.new (w.alloc (.cells #[.slice Ac C.length cc, .slice Ar W.length cr] 60)) 26 (ncells op t vk vn vs A ks.length c)).alloc (.cells #[.int .i64 0, .int .i64 0, .string ⟨#[]⟩] 23)
 have r0 := Row3.new ((w.alloc (.cells #[.slice Ac C.length cc, .slice Ar W.length cr] 60)).alloc (.cells (ncells op t vk vn vs A ks.length c) 26)) 0 0 ⟨#[]⟩
 simp only [World.size_alloc] at k1 r0
 have HC := Lib.hid (hX _ _ (bstep hb b2) ⟨A, c, rfl, hcc, hk.below b2⟩)
 have HP := Lib.hid hp
 obtain ⟨r, hr⟩ : ∃ r, Ev.ev C W (.node op t vk vn vs ks) = r := ⟨_, rfl⟩
 rw [hr] at HC HP ⊢
 clear hr hX hp hb hk hcc b0 b1
 unfold ovV ncells at *
 generalize ks.length = kn at *
 generalize C.length = cn at *
 generalize W.length = wn at *
 have B2 := Lib.hid b2
 have R0 := Lib.hid r0
 have x0 := k0.cell 0
 have x1 := k0.cell 1
 simp only [List.getElem?_toArray, List.getElem?_cons_zero, List.getElem?_cons_succ] at x0 x1
 obtain ⟨c0, c1, c2, c3, c4, c5⟩ := six_of k1
 clear b2 r0 k0 k1
 go_enter Tryz.func55, Tryz.ntmps55
 go_wp2_with fail
 refine HC.out.mono ?_
 rintro e w2 ⟨rfl, hb2⟩
 obtain ⟨⟨rk, rn, rs⟩, re_⟩ := r
 unfold outR vv vcells at *
 dsimp only at *
 have R2 := R0.out.below hb2 R0.out.lt
 have R3 := Lib.hid (R2.alloc (.cells #[.int .i64 rk, .int .i64 rn, .string (tx rs)] 23))
 have q0 := Row3.new w2 rk rn (tx rs)
 have hbb := bstep B2.out hb2
 have B3 := Lib.hid (hbb.alloc hbb.size (.cells #[.int .i64 rk, .int .i64 rn, .string (tx rs)] 23))
 clear c0 c1 c2 c3 c4 c5 x0 x1 R2 hbb R0 B2 HC hb2
 obtain ⟨q1, q2, q3⟩ := q0.holds
 have Q0 := Lib.hid q0
 clear q0
 by_cases h : re_ = 0
 ·have h' : (re_ != 0) = false := by simpa using h
  have HR : Hid (Ev.isnR ⟨⟨rk, rn, rs⟩, re_⟩ = Ev.ok (Ev.tru (same rk rn (tx rs) 0 0 ⟨#[]⟩))) := Lib.hid (by rw [Ev.isnR, if_pos h, same_z HP.out])
  clear h
  obtain ⟨W3, hW3⟩ : ∃ W3, w2.alloc (.cells #[.int .i64 rk, .int .i64 rn, .string (tx rs)] 23) = W3 := ⟨_, rfl⟩
  rw [hW3] at R3 B3 Q0 q1 q2 q3
  have NU := Lib.hid (fun U (hU : Below W3.heap.size W3 U) => call_over hU (null_any U))
  have BO := Lib.hid (fun b U (hU : Below W3.heap.size W3 U) => (bool_any b U).mono (fun e w' h => (⟨h.1, bstep hU h.2⟩ : e = .returned (val 3 (bit b) ⟨#[]⟩) ∧ Below W3.heap.size W3 w')))
  have QQ : Hid (∀ U, Below W3.heap.size W3 U → Holds3 U w2.heap.size rk rn (tx rs)) := Lib.hid (fun U hU => (Q0.out.below hU Q0.out.lt).holds)
  go_upto_region 4 with fail
  go_region_with (first
   | (go_at_call 26; refine (NU.out _ (by first | exact below_drewN (Below.refl _ _) _ | exact (Below.refl _ _).drew | exact Below.refl _ _)).mono ?_; rintro e W4 ⟨rfl, hb4⟩; obtain ⟨z0, z1, z2⟩ := QQ.out W4 hb4)
   | (go_at_call 29; refine (BO.out _ _ (by first | exact hb4 | exact hb4.drew | exact below_drewN hb4 _)).mono ?_; rintro e W5 ⟨rfl, hb5⟩; have R5 := Lib.hid (R3.out.below hb5 R3.out.lt); obtain ⟨d1, d2, d3⟩ := R5.out.holds; have f0 := R5.out.frozen 0; have f1 := R5.out.frozen 1; have f2 := R5.out.frozen 2; have B5 := Lib.hid (B3.out.trans (hb5.mono B3.out.size))))
  all_goals
   go_wp2_with fail
   exact fin_R Tryz.results55 rfl rfl rfl R5.out B5.out (by omega) (by rw [HR.out, ← bit_tru]; rfl)
 ·have h' : (re_ != 0) = true := by simpa using h
  have HR : Hid (Ev.isnR ⟨⟨rk, rn, rs⟩, re_⟩ = Ev.err re_) := Lib.hid (by rw [Ev.isnR, if_neg h])
  clear h
  go_wp2_with fail
  refine (efail_any _ _).mono ?_
  rintro e w4 ⟨rfl, hb4⟩
  have R4 := Lib.hid (R3.out.below hb4 R3.out.lt)
  have B4 := Lib.hid (bstep B3.out hb4)
  clear hb4
  obtain ⟨d1, d2, d3⟩ := R4.out.holds
  have f0 := R4.out.frozen 0
  have f1 := R4.out.frozen 1
  have f2 := R4.out.frozen 2
  unfold outR vv vcells Ev.err Ev.z
  go_wp2_with fail
  exact fin_R Tryz.results55 rfl rfl rfl R4.out B4.out (by omega) (by rw [HR.out]; rfl)
end Go.Proofs.YteghhmomhlnccaaGreatDoor
namespace Go.Proofs.YteghhmomhlnccaaGreatDoor
open Go.RowKit Go.Lib
set_option maxRecDepth 100000
attribute [local go_sem ↓] eqVal neqVal
open Ex (Tree)
open Ev (V R Pl)
variable {C : List Col} {Ac : Option Addr} {cc : Nat} {W : List V} {Ar : Option Addr} {cr : Nat} {w0 : World}
def Ev.knR (a b : R) : R := if a.e = 0 then (if a.v.k = 0 then b else Ev.ok a.v) else Ev.err a.e
set_option maxHeartbeats 2000000 in
theorem firstKnown_of {X Y : Tree} (hX : CT C Ac cc W Ar cr w0 X) (hY : CT C Ac cc W Ar cr w0 Y) (hp : Pl (Ev.ev C W X).v) (A : Option Addr) (c : Nat) (w : World) (hb : Below w0.heap.size w0 w) (hk : TreesAt w A 0 [X, Y]) :
  Calls Tryz.prog 56 #[ovV C Ac cc W Ar cr, .slice A 2 c] w fun e w' => e = .returned (outR (Ev.knR (Ev.ev C W X) (Ev.ev C W Y))) ∧ Below w.heap.size w w' := by
 have b0 := (Below.refl w.heap.size w).alloc (Nat.le_refl _) (.cells #[.slice Ac C.length cc, .slice Ar W.length cr] 60)
 have b1 := b0.alloc (by simp) (.cells #[.int .i64 0, .int .i64 0, .string ⟨#[]⟩] 23)
 have k0 := (Whole.new w 60 #[.slice Ac C.length cc, .slice Ar W.length cr]).alloc (.cells #[.int .i64 0, .int .i64 0, .string ⟨#[]⟩] 23)
 have r0 := Row3.new (w.alloc (.cells #[.slice Ac C.length cc, .slice Ar W.length cr] 60)) 0 0 ⟨#[]⟩
 rw [World.size_alloc] at r0
 obtain ⟨W1, hW1⟩ : ∃ W1, (w.alloc (.cells #[.slice Ac C.length cc, .slice Ar W.length cr] 60)).alloc (.cells #[.int .i64 0, .int .i64 0, .string ⟨#[]⟩] 23) = W1 := ⟨_, rfl⟩
 rw [hW1] at b1 k0 r0
 obtain ⟨kb, ko, o0, t0, k0, n0, s0, m0, B0, c0, rfl, -, hc0, -, C0⟩ := kid_call (i := 0) (by simp) hX hb hk
 obtain ⟨kb1, ko1, o1, t1, k1, n1, s1, m1, B1, c1, e1, -, hc1, -, C1⟩ := kid_call (i := 1) (by simp) hY hb hk
 cases e1
 simp only [List.getElem_cons_zero, List.getElem_cons_succ] at C0 C1
 have HE := Lib.hid (@Ev.ev_err C W X)
 have HP := Lib.hid hp
 obtain ⟨x, hx'⟩ : ∃ r, Ev.ev C W X = r := ⟨_, rfl⟩
 obtain ⟨y, hy'⟩ : ∃ r, Ev.ev C W Y = r := ⟨_, rfl⟩
 rw [hx'] at C0 HP HE ⊢
 rw [hy'] at C1 ⊢
 clear hx' hy' hX hY hp hb hk b0
 unfold ovV ncells at *
 generalize C.length = cn at *
 generalize W.length = wn at *
 have KB := Lib.hid b1
 have R0 := Lib.hid r0
 have Q1 : Hid (OvR w W1 #[.slice Ac cn cc, .slice Ar wn cr]) := Lib.hid ⟨⟨b1, k0⟩, r0⟩
 have HSZ : Hid (w.heap.size + 2 ≤ W1.heap.size) := Lib.hid (by have := r0.lt; omega)
 have HC0 := Lib.hid hc0
 have HK0 := Lib.hid C0
 have HC1 := Lib.hid hc1
 have HK1 := Lib.hid C1
 obtain ⟨⟨xk, xn, xs_⟩, xe⟩ := x
 obtain ⟨⟨yk, yn, ys_⟩, ye⟩ := y
 unfold outR vv vcells at *
 dsimp only at *
 clear b1 r0 k0 hc0 hc1 C0 C1
 have KK0 : Hid (∀ U, OvS w U #[.slice Ac cn cc, .slice Ar wn cr] → (U.cell? ⟨w.heap.size, 0, none⟩ = some (.slice Ac cn cc) ∧ U.cell? ⟨w.heap.size, 1, none⟩ = some (.slice Ar wn cr)) ∧ U.cell? ⟨kb, ko, none⟩ = some (.int .i64 o0) ∧ U.cell? ⟨kb, ko + 1, none⟩ = some (.string (tx t0)) ∧ U.cell? ⟨kb, ko + 2, none⟩ = some (.int .i64 k0) ∧ U.cell? ⟨kb, ko + 3, none⟩ = some (.int .i64 n0) ∧ U.cell? ⟨kb, ko + 4, none⟩ = some (.string (tx s0)) ∧ U.cell? ⟨kb, ko + 5, none⟩ = some (.slice B0 m0 c0)) := Lib.hid (fun U hU => by
  have h := HC0.out U hU.1
  simp only [Nat.zero_mul, Nat.one_mul, Nat.add_zero, show 2 * 6 = 12 from rfl] at h
  exact ⟨hU.cells, h⟩)
 have KK1 : Hid (∀ U, OvS w U #[.slice Ac cn cc, .slice Ar wn cr] → (U.cell? ⟨w.heap.size, 0, none⟩ = some (.slice Ac cn cc) ∧ U.cell? ⟨w.heap.size, 1, none⟩ = some (.slice Ar wn cr)) ∧ U.cell? ⟨kb, ko + 6, none⟩ = some (.int .i64 o1) ∧ U.cell? ⟨kb, ko + 6 + 1, none⟩ = some (.string (tx t1)) ∧ U.cell? ⟨kb, ko + 6 + 2, none⟩ = some (.int .i64 k1) ∧ U.cell? ⟨kb, ko + 6 + 3, none⟩ = some (.int .i64 n1) ∧ U.cell? ⟨kb, ko + 6 + 4, none⟩ = some (.string (tx s1)) ∧ U.cell? ⟨kb, ko + 6 + 5, none⟩ = some (.slice B1 m1 c1)) := Lib.hid (fun U hU => by
  have h := HC1.out U hU.1
  simp only [Nat.zero_mul, Nat.one_mul, Nat.add_zero, show 2 * 6 = 12 from rfl] at h
  exact ⟨hU.cells, h⟩)
 go_enter Tryz.func56, Tryz.ntmps56
 go_upto_region 1 with fail
 go_cut [6, 7] from 9 to 15 (fun s6 s7 wc => ∃ g, s6 = .pointer (some ⟨g, 0, none⟩) ∧ s7 = .int .i64 xe ∧ Hid (Row3 wc g xk xn (tx xs_)) ∧ Hid (OvR w wc #[.slice Ac cn cc, .slice Ar wn cr]))
 case first =>
  have QD : Hid (OvR w W1.drew #[.slice Ac cn cc, .slice Ar wn cr]) := Lib.hid Q1.out.drew
  refine wp_region_held_drew (S := fun U => OvR w U #[.slice Ac cn cc, .slice Ar wn cr]) (by kernel_rfl) QD.out (fun _ => ?_)
  refine qTk 0 (v := ?_) QD.out ?_ ?_
  rotate_left
  ·(intro W hw; obtain ⟨⟨a0, a1⟩, p0, p1, p2, p3, p4, p5⟩ := KK0.out W hw.1; go_simp; try with_reducible rfl)
  refine qTk 1 (v := ?_) QD.out ?_ ?_
  rotate_left
  ·(intro W hw; go_simp; try with_reducible rfl)
  refine qTk 2 (v := ?_) QD.out ?_ ?_
  rotate_left
  ·(intro W hw; go_simp; try with_reducible rfl)
  refine qTk 3 (v := ?_) QD.out ?_ ?_
  rotate_left
  ·(intro W hw; obtain ⟨⟨a0, a1⟩, p0, p1, p2, p3, p4, p5⟩ := KK0.out W hw.1; go_simp; try with_reducible rfl)
  refine qTr2 4 8 (fun K hK => ?_) (fun K hK => ?_)
  ·
   go_simp
   refine (HK0.out _ QD.out.1.1).mono ?_
   rintro e V1 ⟨rfl, hv1⟩
   have QV1 := Lib.hid (QD.out.call hv1)
   refine hK.out _ _ QV1.out (fun _ => ?_)
   clear hK K
   refine qTk 5 (v := ?_) QV1.out ?_ ?_
   rotate_left
   ·(intro W hw; go_simp; try with_reducible rfl)
   refine qTk 6 (v := ?_) QV1.out ?_ ?_
   rotate_left
   ·(intro W hw; go_simp; try with_reducible rfl)
   refine qTk 7 (v := ?_) QV1.out ?_ ?_
   rotate_left
   ·(intro W hw; go_simp; try with_reducible rfl)
   refine qTr1 8 (fun K hK => ?_)
   go_simp
   have QA := Lib.hid (QV1.out.alloc (.cells #[.int .i64 0, .int .i64 0, .string ⟨#[]⟩] 23))
   refine hK.out _ _ QA.out (fun _ => ?_)
   clear hK K
   refine qTr1 9 (fun K hK => ?_)
   go_simp
   have QS := Lib.hid (QV1.out.alloc (.cells #[.int .i64 xk, .int .i64 xn, .string (tx xs_)] 23))
   have FW := Lib.hid (Row3.new V1 xk xn (tx xs_))
   refine hK.out _ _ QS.out (fun _ => ?_)
   clear hK K
   refine qTk 10 (v := ?_) QS.out ?_ ?_
   rotate_left
   ·(intro W hw; go_simp; try with_reducible rfl)
   refine wpAnyH_done (by kernel_rfl) ?_ _
   try simp only  [Act.put, List.setIfInBounds_toArray, List.set_cons_zero, List.set_cons_succ]
   go_wp2_with fail
   go_meet
   case rel => exact ⟨_, rfl, rfl, FW, QS⟩
  ·
   go_simp
   have QA := Lib.hid (QD.out.alloc (.cells #[.int .i64 0, .int .i64 0, .string ⟨#[]⟩] 23))
   refine hK.out _ _ QA.out (fun _ => ?_)
   clear hK K
   refine qTr1 4 (fun K hK => ?_)
   go_simp
   refine (HK0.out _ QA.out.1.1).mono ?_
   rintro e V1 ⟨rfl, hv1⟩
   have QV1 := Lib.hid (QA.out.call hv1)
   have ZB1 := Row3.below (w' := V1) (g := W1.heap.size) (k := 0) (n := 0) (s := ⟨#[]⟩) (by exact Row3.new W1 0 0 ⟨#[]⟩) hv1 (by simp)
   obtain ⟨z0, z1, z2⟩ := ZB1.holds
   have f0 := ZB1.frozen 0
   have f1 := ZB1.frozen 1
   have f2 := ZB1.frozen 2
   refine hK.out _ _ QV1.out (fun _ => ?_)
   clear hK K
   refine qTk 5 (v := ?_) QV1.out ?_ ?_
   rotate_left
   ·(intro W hw; go_simp; try with_reducible rfl)
   refine qTk 6 (v := ?_) QV1.out ?_ ?_
   rotate_left
   ·(intro W hw; go_simp; try with_reducible rfl)
   refine qTk 7 (v := ?_) QV1.out ?_ ?_
   rotate_left
   ·(intro W hw; go_simp; try with_reducible rfl)
   refine qTr1 9 (fun K hK => ?_)
   go_simp
   have QS := Lib.hid (QV1.out.set3 (g := W1.heap.size) (by exact Nat.succ_le_of_lt QD.out.2.lt) (.int .i64 xk) (.int .i64 xn) (.string (tx xs_)))
   have FW := Lib.hid (ZB1.set3 xk xn (tx xs_))
   refine hK.out _ _ QS.out (fun _ => ?_)
   clear hK K
   refine qTk 10 (v := ?_) QS.out ?_ ?_
   rotate_left
   ·(intro W hw; go_simp; try with_reducible rfl)
   refine wpAnyH_done (by kernel_rfl) ?_ _
   try simp only  [Act.put, List.setIfInBounds_toArray, List.set_cons_zero, List.set_cons_succ]
   go_wp2_with fail
   go_meet
   case rel => exact ⟨_, rfl, rfl, FW, QS⟩
 case rest =>
  obtain ⟨g, rfl, rfl, HQ, HOR⟩ := hcut
  have HOV := Lib.hid HOR.out.1
  have HR0 := Lib.hid HOR.out.2
  obtain ⟨W2, rfl⟩ : ∃ W2, W2 = wc := ⟨wc, rfl⟩
  have QQ : Hid (∀ U, Below W2.heap.size W2 U → Holds3 U g xk xn (tx xs_)) := Lib.hid (fun U hU => (HQ.out.below hU HQ.out.lt).holds)
  obtain ⟨z0, z1, z2⟩ := QQ.out W2 (Below.refl _ _)
  have NU := Lib.hid (fun U (hU : Below W2.heap.size W2 U) => call_over hU (null_any U))
  by_cases h : xe = 0
  ·have hx7 : (xe != 0) = false := by simpa using h
   cases hz : decide (xk = 0)
   ·have hs : same xk xn (tx xs_) 0 0 ⟨#[]⟩ = false := by rw [← hz]; exact same_z HP.out
    have HR : Hid (Ev.knR ⟨⟨xk, xn, xs_⟩, xe⟩ ⟨⟨yk, yn, ys_⟩, ye⟩ = ⟨⟨xk, xn, xs_⟩, xe⟩) := Lib.hid (by rw [Ev.knR, if_pos h, if_neg (of_decide_eq_false hz), h]; rfl)
    clear h hz
    go_upto_region 2 with fail
    go_region_with (go_at_call 26; refine (NU.out _ (by first | exact below_drewN (Below.refl _ _) _ | exact (Below.refl _ _).drew | exact Below.refl _ _)).mono ?_; rintro e V ⟨rfl, hb4⟩; obtain ⟨z0, z1, z2⟩ := QQ.out V hb4; have R4 := Lib.hid (HR0.out.below hb4 HR0.out.lt); have Q4 := Lib.hid (HOV.out.call hb4); obtain ⟨d0, d1, d2⟩ := R4.out.holds; have f0 := R4.out.frozen 0; have f1 := R4.out.frozen 1; have f2 := R4.out.frozen 2)
    all_goals
     go_wp2_with fail
     exact fin_R Tryz.results56 rfl rfl rfl R4.out Q4.out.1 (by omega) (by rw [HR.out])
   ·have hs : same xk xn (tx xs_) 0 0 ⟨#[]⟩ = true := by rw [← hz]; exact same_z HP.out
    have HR : Hid (Ev.knR ⟨⟨xk, xn, xs_⟩, xe⟩ ⟨⟨yk, yn, ys_⟩, ye⟩ = ⟨⟨yk, yn, ys_⟩, ye⟩) := Lib.hid (by rw [Ev.knR, if_pos h, if_pos (of_decide_eq_true hz)])
    clear h hz
    go_upto_region 2 with fail
    go_region_with (go_at_call 26; refine (NU.out _ (by first | exact below_drewN (Below.refl _ _) _ | exact (Below.refl _ _).drew | exact Below.refl _ _)).mono ?_; rintro e V ⟨rfl, hb4⟩; obtain ⟨z0, z1, z2⟩ := QQ.out V hb4; have R4 := Lib.hid (HR0.out.below hb4 HR0.out.lt); have Q4 := Lib.hid (HOV.out.call hb4))
    all_goals
     clear z0 z1 z2
     have QD : Hid (OvS w V.drew #[.slice Ac cn cc, .slice Ar wn cr]) := Lib.hid Q4.out.drew
     go_upto_region 4 with fail
     refine wp_region_held_drew (S := fun U => OvS w U #[.slice Ac cn cc, .slice Ar wn cr]) (by kernel_rfl) QD.out (fun _ => ?_)
     refine qTk 0 (v := ?_) QD.out ?_ ?_
     rotate_left
     ·(intro W hw; obtain ⟨⟨a0, a1⟩, p0, p1, p2, p3, p4, p5⟩ := KK1.out W hw; go_simp; try with_reducible rfl)
     refine qTk 1 (v := ?_) QD.out ?_ ?_
     rotate_left
     ·(intro W hw; go_simp; try with_reducible rfl)
     refine qTk 2 (v := ?_) QD.out ?_ ?_
     rotate_left
     ·(intro W hw; go_simp; try with_reducible rfl)
     refine qTk 3 (v := ?_) QD.out ?_ ?_
     rotate_left
     ·(intro W hw; obtain ⟨⟨a0, a1⟩, p0, p1, p2, p3, p4, p5⟩ := KK1.out W hw; go_simp; try with_reducible rfl)
     refine qTr1 4 (fun K hK => ?_)
     go_simp
     refine (HK1.out _ QD.out.1).mono ?_
     rintro e V1 ⟨rfl, hv1⟩
     have QV1 := Lib.hid (QD.out.call hv1)
     have ZB1 := Row3.below (w' := V1) (g := w.heap.size + 1) (k := 0) (n := 0) (s := ⟨#[]⟩) (by exact R4.out) hv1 (by exact R4.out.lt)
     obtain ⟨z0, z1, z2⟩ := ZB1.holds
     have f0 := ZB1.frozen 0
     have f1 := ZB1.frozen 1
     have f2 := ZB1.frozen 2
     refine hK.out _ _ QV1.out (fun _ => ?_)
     clear hK K
     refine qTk 5 (v := ?_) QV1.out ?_ ?_
     rotate_left
     ·(intro W hw; go_simp; try with_reducible rfl)
     refine qTk 6 (v := ?_) QV1.out ?_ ?_
     rotate_left
     ·(intro W hw; go_simp; try with_reducible rfl)
     refine qTr1 7 (fun K hK => ?_)
     go_simp
     have QS := Lib.hid (QV1.out.set3 (g := w.heap.size + 1) (by first | omega | exact Nat.le_refl _) (.int .i64 yk) (.int .i64 yn) (.string (tx ys_)))
     have FW := Lib.hid (ZB1.set3 yk yn (tx ys_))
     refine hK.out _ _ QS.out (fun _ => ?_)
     clear hK K
     refine qTk 8 (v := ?_) QS.out ?_ ?_
     rotate_left
     ·(intro W hw; go_simp; try with_reducible rfl)
     refine wpAnyH_done (by kernel_rfl) ?_ _
     try simp only  [Act.put, List.setIfInBounds_toArray, List.set_cons_zero, List.set_cons_succ]
     go_wp2_with fail
     exact fin_R2 Tryz.results56 rfl rfl rfl FW.out QS.out.1 (by rw [HR.out])
  ·have hx7 : (xe != 0) = true := by simpa using h
   have HR : Hid (Ev.knR ⟨⟨xk, xn, xs_⟩, xe⟩ ⟨⟨yk, yn, ys_⟩, ye⟩ = ⟨⟨xk, xn, xs_⟩, xe⟩) := Lib.hid (by rw [Ev.knR, if_neg h]; have := HE.out h; rw [this]; rfl)
   obtain ⟨d0, d1, d2⟩ := HR0.out.holds
   have f0 := HR0.out.frozen 0
   have f1 := HR0.out.frozen 1
   have f2 := HR0.out.frozen 2
   clear h
   go_upto_region 2 with fail
   go_quiet (fail)
   go_wp2_with fail
   exact fin_R Tryz.results56 rfl rfl rfl (by exact HR0.out) (by first | exact below_drewN HOV.out.1 _ | exact HOV.out.1.drew | exact HOV.out.1) (by omega) (by rw [HR.out])
end Go.Proofs.YteghhmomhlnccaaGreatDoor
namespace Go.Proofs.YteghhmomhlnccaaGreatDoor
open Go.RowKit Go.Lib
set_option maxRecDepth 100000
attribute [local go_sem ↓] eqVal neqVal
def ShapeR (w : World) (g : Int) (l : List Int) (e : Ending) (w' : World) : Prop := ∃ A, e = .returned (.agg #[.int .i64 g, .slice A l.length l.length]) ∧ IntsAt w' A l ∧ Below w.heap.size w w'
theorem ShapeR.of {w w' : World} {g : Int} {l : List Int} {B : Nat} (h : Whole w' B 3 ((l.map (Value.int .i64)).toArray)) (hb : Below w.heap.size w w') : ShapeR w g l (.returned (.agg #[.int .i64 g, .slice (some ⟨B, 0, none⟩) l.length l.length])) w' := ⟨_, rfl, IntsAt.whole h, hb⟩
end Go.Proofs.YteghhmomhlnccaaGreatDoor
namespace Go.Proofs.YteghhmomhlnccaaGreatDoor
open Go.RowKit Go.Lib
set_option maxRecDepth 100000
attribute [local go_sem ↓] eqVal neqVal
end Go.Proofs.YteghhmomhlnccaaGreatDoor
namespace Go.Proofs.YteghhmomhlnccaaGreatDoor
open Go.RowKit Go.Lib
set_option maxRecDepth 100000
attribute [local go_sem ↓] eqVal neqVal
open Ex (Tree)
theorem Kd.oness_get {p : Int → List UInt8 → Int → Int → List UInt8 → Nat → Bool} : ∀ {l : List Tree}, Ex.oness p l = true → ∀ i (h : i < l.length), Ex.ones p l[i] = true
 | [], h, i, hi => absurd hi (Nat.not_lt_zero _)
 | x :: l, h, 0, hi => by
  rw [Ex.oness, Bool.and_eq_true] at h
  exact h.1
 | x :: l, h, i + 1, hi => by
  rw [Ex.oness, Bool.and_eq_true] at h
  exact Kd.oness_get h.2 i (by simpa using hi)
end Go.Proofs.YteghhmomhlnccaaGreatDoor
namespace Go.Proofs.YteghhmomhlnccaaGreatDoor
open Go.RowKit Go.Lib
set_option maxRecDepth 100000
open Ex (Tree)
end Go.Proofs.YteghhmomhlnccaaGreatDoor
namespace Go.Proofs.YteghhmomhlnccaaGreatDoor
open Go.RowKit Go.Lib
set_option maxRecDepth 100000
open Ex (Tree)
open Ev (V R Pl)
theorem node_is {op : Int} {t : List UInt8} {vk vn : Int} {vs : List UInt8} {n : Nat} (h : nodeB op t vk vn vs n = true) (h1 : ¬ op = 1) (h2 : ¬ op = 2) :
  (op = 5 ∧ t = [111, 114] ∧ n = 2) ∨ (op = 5 ∧ t = [97, 110, 100] ∧ n = 2) ∨ (op = 6 ∧ t = [105, 115, 110, 117, 108, 108] ∧ n = 1) ∨ (op = 6 ∧ t = [110, 118, 108] ∧ n = 2) ∨ (op = 6 ∧ t = [105, 102] ∧ n = 3) ∨
  (Ev.AllN op t n ∧ ¬ t = [111, 114] ∧ ¬ t = [97, 110, 100] ∧ ¬ t = [105, 115, 110, 117, 108, 108] ∧ ¬ t = [110, 118, 108] ∧ ¬ t = [105, 102]) := by
 rw [nodeB, if_neg h1, if_neg h2] at h
 by_cases h3 : op = 3 ∨ op = 4
 ·rw [if_pos h3] at h
  simp only [Bool.and_eq_true, List.isEmpty_iff, beq_iff_eq] at h
  obtain ⟨ht, -, hn⟩ := h
  subst ht
  exact .inr (.inr (.inr (.inr (.inr ⟨.inl ⟨h3, by omega⟩, by simp, by simp, by simp, by simp, by simp⟩))))
 ·rw [if_neg h3] at h
  by_cases h5 : op = 5
  ·rw [if_pos h5] at h
   simp only [Bool.and_eq_true, beq_iff_eq, Bool.not_eq_true', beq_eq_false_iff_ne] at h
   obtain ⟨ht, -, hn⟩ := h
   have hn2 : n = 2 := by omega
   by_cases e0 : t = [111, 114]
   ·exact .inl ⟨h5, e0, hn2⟩
   by_cases e1 : t = [97, 110, 100]
   ·exact .inr (.inl ⟨h5, e1, hn2⟩)
   refine .inr (.inr (.inr (.inr (.inr ⟨.inr (.inl ⟨h5, hn2⟩), e0, e1, ?_, ?_, ?_⟩))))
   all_goals (intro e; subst e; exact ht rfl)
  ·rw [if_neg h5] at h
   by_cases h6 : op = 6
   ·rw [if_pos h6, Bool.and_eq_true, beq_iff_eq] at h
    obtain ⟨hn, -⟩ := h
    by_cases e0 : t = [105, 115, 110, 117, 108, 108]
    ·exact .inr (.inr (.inl ⟨h6, e0, by have : Ex.arity [105, 115, 110, 117, 108, 108] = 1 := rfl; rw [e0] at hn; omega⟩))
    by_cases e1 : t = [110, 118, 108]
    ·exact .inr (.inr (.inr (.inl ⟨h6, e1, by have : Ex.arity [110, 118, 108] = 2 := rfl; rw [e1] at hn; omega⟩)))
    by_cases e2 : t = [105, 102]
    ·exact .inr (.inr (.inr (.inr (.inl ⟨h6, e2, by have : Ex.arity [105, 102] = 3 := rfl; rw [e2] at hn; omega⟩))))
    have hall : Ev.AllN op t n := by
     by_cases a0 : t = [108, 101, 110]
     ·exact .inr (.inr (.inl ⟨h6, by have : Ex.arity [108, 101, 110] = 1 := rfl; rw [a0] at hn; omega, .inl a0⟩))
     by_cases a1 : t = [115, 116, 114]
     ·exact .inr (.inr (.inl ⟨h6, by have : Ex.arity [115, 116, 114] = 1 := rfl; rw [a1] at hn; omega, .inr (.inl a1)⟩))
     by_cases a2 : t = [110, 117, 109]
     ·exact .inr (.inr (.inl ⟨h6, by have : Ex.arity [110, 117, 109] = 1 := rfl; rw [a2] at hn; omega, .inr (.inr a2)⟩))
     by_cases a3 : t = [108, 101, 102, 116]
     ·exact .inr (.inr (.inr ⟨h6, by have : Ex.arity [108, 101, 102, 116] = 2 := rfl; rw [a3] at hn; omega, .inl a3⟩))
     by_cases a4 : t = [114, 105, 103, 104, 116]
     ·exact .inr (.inr (.inr ⟨h6, by have : Ex.arity [114, 105, 103, 104, 116] = 2 := rfl; rw [a4] at hn; omega, .inr a4⟩))
     exfalso
     have h0 : Ex.arity t = -1 := by
      unfold Ex.arity
      simp only [beq_eq_false_iff_ne.2 e0, beq_eq_false_iff_ne.2 e1, beq_eq_false_iff_ne.2 e2, beq_eq_false_iff_ne.2 a0, beq_eq_false_iff_ne.2 a1, beq_eq_false_iff_ne.2 a2, beq_eq_false_iff_ne.2 a3, beq_eq_false_iff_ne.2 a4, cond_false, Bool.false_eq_true, if_false]
     omega
    refine .inr (.inr (.inr (.inr (.inr ⟨hall, ?_, ?_, e0, e1, e2⟩))))
    ·intro e; subst e; have : Ex.arity [111, 114] = -1 := rfl; omega
    ·intro e; subst e; have : Ex.arity [97, 110, 100] = -1 := rfl; omega
   ·rw [if_neg h6] at h; cases h
open Ev in
theorem comb_or (a b : R) : comb 5 [111, 114] [a, b] = if a.e = 0 then logic true a.v b else err a.e := by
 unfold comb; simp
open Ev in
theorem comb_and (a b : R) : comb 5 [97, 110, 100] [a, b] = if a.e = 0 then logic false a.v b else err a.e := by
 unfold comb; simp
open Ev in
theorem comb_isnull (a : R) : comb 6 [105, 115, 110, 117, 108, 108] [a] = isnR a := by
 unfold comb isnR; simp
open Ev in
theorem comb_nvl (a b : R) : comb 6 [110, 118, 108] [a, b] = knR a b := by
 unfold comb knR; simp
open Ev in
theorem comb_if {a : R} (b c : R) (ha : Pl a.v) : comb 6 [105, 102] [a, b, c] = chR (truthR a) b c := by
 have h0 : a.v.k = 0 → ¬ a.v.n = 1 := fun h => by have := ha.null h; rw [this]; decide
 unfold comb chR truthR
 simp only [List.getD_cons_zero, List.getD_cons_succ]
 by_cases h : a.e = 0
 ·simp only [if_pos h]
  by_cases k3 : a.v.k = 3
  ·by_cases n1 : a.v.n = 1 <;> simp [k3, n1, ok]
  ·by_cases k0 : a.v.k = 0
   ·simp [k0, h0 k0, ok]
   ·simp [k3, k0, err]
 ·simp [h, err]
open Ev in
theorem comb_all {op : Int} {t : List UInt8} {l : List R} (h : AllN op t l.length) (h0 : ¬ t = [111, 114]) (h1 : ¬ t = [97, 110, 100]) (h2 : ¬ t = [105, 115, 110, 117, 108, 108]) (h3 : ¬ t = [110, 118, 108]) (h4 : ¬ t = [105, 102]) : comb op t l = allR op t l := by
 unfold comb allR
 simp only [h0, h1, h2, h3, h4, and_false, if_false]
 match l, h with
 | [], h => rcases h with ⟨-, h⟩ | ⟨-, h⟩ | ⟨-, h, -⟩ | ⟨-, h, -⟩ <;> cases h
 | [a], h =>
  simp only [errOf, app, List.getD_cons_zero, List.map_cons, List.map_nil, List.any_cons, List.any_nil, Bool.or_false, decide_eq_true_eq]
  by_cases e : a.e = 0
  ·simp [e]
  ·simp [e]
 | [a, b], h =>
  simp only [errOf, app, List.getD_cons_zero, List.getD_cons_succ, List.map_cons, List.map_nil, List.any_cons, List.any_nil, Bool.or_false, Bool.or_eq_true, decide_eq_true_eq]
  by_cases e : a.e = 0
  ·by_cases e' : b.e = 0
   ·simp [e, e']
   ·simp [e, e']
  ·simp [e]
 | a :: b :: d :: l, h => rcases h with ⟨-, h⟩ | ⟨-, h⟩ | ⟨-, h, -⟩ | ⟨-, h, -⟩ <;> simp at h
def NdS (w W : World) (cs ns : Array Value) : Prop := Below w.heap.size w W ∧ Whole W w.heap.size 60 cs ∧ Whole W (w.heap.size + 1) 26 ns
theorem NdS.drew {w W : World} {cs ns : Array Value} (h : NdS w W cs ns) : NdS w W.drew cs ns := ⟨h.1.drew, h.2⟩
theorem NdS.alloc {w W : World} {cs ns : Array Value} (h : NdS w W cs ns) (o : Obj) : NdS w (W.alloc o) cs ns := ⟨h.1.alloc h.1.size o, Whole.alloc h.2.1 o, Whole.alloc h.2.2 o⟩
theorem NdS.call {w W W' : World} {cs ns : Array Value} (h : NdS w W cs ns) (hb : Below W.heap.size W W') : NdS w W' cs ns := ⟨bstep h.1 hb, h.2.1.below hb h.2.1.lt, h.2.2.below hb h.2.2.lt⟩
theorem NdS.set3 {w W : World} {cs ns : Array Value} (h : NdS w W cs ns) {g : Nat} (hg : w.heap.size + 2 ≤ g) (a b c : Value) : NdS w (((W.setCell ⟨g, 0, none⟩ a).setCell ⟨g, 1, none⟩ b).setCell ⟨g, 2, none⟩ c) cs ns := by
 have hb : Below (w.heap.size + 2) W (((W.setCell ⟨g, 0, none⟩ a).setCell ⟨g, 1, none⟩ b).setCell ⟨g, 2, none⟩ c) := (((Below.refl (w.heap.size + 2) W).setCell (p := ⟨g, 0, none⟩) hg a).setCell (p := ⟨g, 1, none⟩) hg b).setCell (p := ⟨g, 2, none⟩) hg c
 exact ⟨h.1.trans (hb.mono (by omega)), (hb.block _ (by omega)).trans h.2.1, (hb.block _ (by omega)).trans h.2.2⟩
end Go.Proofs.YteghhmomhlnccaaGreatDoor
namespace Go.Proofs.YteghhmomhlnccaaGreatDoor
open Go.RowKit Go.Lib
set_option maxRecDepth 100000
attribute [local go_sem ↓] eqVal neqVal
open Ex (Tree)
open Ev (V R Pl)
variable {C : List Col} {Ac : Option Addr} {cc : Nat} {W : List V} {Ar : Option Addr} {cr : Nat} {w0 : World}
set_option maxHeartbeats 2000000 in
theorem ct_val {ks : List Tree} {op vk vn : Int} {t vs : List UInt8} (hX : ∀ i (h : i < ks.length), CT C Ac cc W Ar cr w0 ks[i]) (hp : ∀ i (h : i < ks.length), Pl (Ev.ev C W ks[i]).v) (hA : ColsAt w0 Ac C) (hV : ValsAt w0 Ar W) (hC : C.length ≤ 1000000) (hl : W.length = C.length) (ad : Addr) (mx : Int) (hE : Env w0 ad mx) (hc : op = 1) : CT C Ac cc W Ar cr w0 (.node op t vk vn vs ks) := by
 intro v w hb hv
 subst hc
 obtain ⟨A, c, rfl, hcc, hk⟩ := hv
 have b0 := (Below.refl w.heap.size w).alloc (Nat.le_refl _) (.cells #[.slice Ac C.length cc, .slice Ar W.length cr] 60)
 have b1 := b0.alloc (by simp) (.cells (ncells 1 t vk vn vs A ks.length c) 26)
 have b2 := b1.alloc (by simp; omega) (.cells #[.int .i64 0, .int .i64 0, .string ⟨#[]⟩] 23)
 have k0 := ((Whole.new w 60 #[.slice Ac C.length cc, .slice Ar W.length cr]).alloc (.cells (ncells 1 t vk vn vs A ks.length c) 26)).alloc (.cells #[.int .i64 0, .int .i64 0, .string ⟨#[]⟩] 23)
 have k1 := (Whole.new (w.alloc (.cells #[.slice Ac C.length cc, .slice Ar W.length cr] 60)) 26 (ncells 1 t vk vn vs A ks.length c)).alloc (.cells #[.int .i64 0, .int .i64 0, .string ⟨#[]⟩] 23)
 have r2 := Row3.new ((w.alloc (.cells #[.slice Ac C.length cc, .slice Ar W.length cr] 60)).alloc (.cells (ncells 1 t vk vn vs A ks.length c) 26)) 0 0 ⟨#[]⟩
 simp only [World.size_alloc] at k1 r2
 obtain ⟨W1, hW1⟩ : ∃ W1, ((w.alloc (.cells #[.slice Ac C.length cc, .slice Ar W.length cr] 60)).alloc (.cells (ncells 1 t vk vn vs A ks.length c) 26)).alloc (.cells #[.int .i64 0, .int .i64 0, .string ⟨#[]⟩] 23) = W1 := ⟨_, rfl⟩
 rw [hW1] at b2 k0 k1 r2
 obtain ⟨RES, hres⟩ : ∃ RES, Ev.ev C W (.node 1 t vk vn vs ks) = RES := ⟨_, rfl⟩
 rw [hres]
 have HR := Lib.hid hres
 have hr : RES = Ev.ok ⟨vk, vn, vs⟩ := by rw [← hres, Ev.ev, if_pos rfl]
 subst hr
 have B2 := Lib.hid b2
 have R2 := Lib.hid r2
 unfold ovV outR vv vcells ncells at *
 try dsimp only at *
 clear hX hp hA hV hC hl hE hb hk hcc b0 b1 HR hres
 obtain ⟨c0, c1, c2, c3, c4, c5⟩ := six_of k1
 generalize C.length = cn at *
 generalize W.length = wn at *
 generalize ks.length = kn at *
 obtain ⟨d0, d1, d2⟩ := R2.out.holds
 have f0 := R2.out.frozen 0
 have f1 := R2.out.frozen 1
 have f2 := R2.out.frozen 2
 clear b2 r2 k0 k1
 go_enter Tryz.func27, Tryz.ntmps27
 go_wp2_with fail
 exact fin_R Tryz.results27 rfl rfl rfl R2.out B2.out (by omega) rfl
end Go.Proofs.YteghhmomhlnccaaGreatDoor
