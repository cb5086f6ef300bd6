import Derived.Test.YteghhmomhlnccaaGreatDoorZK
import Derived.Test.YteghhmomhlnccaaGreatDoorZRD

/- eval: left, right (gen_kg.py). -/
namespace Go.Proofs.YteghhmomhlnccaaGreatDoor
open Go.RowKit Go.Lib
set_option linter.unusedVariables false
set_option linter.unusedSimpArgs false
set_option maxRecDepth 100000
attribute [local go_sem ↓] eqVal neqVal
open Ev (V R Pl)
set_option maxHeartbeats 2000000 in
theorem called_left  (a b : V) (A : Option Addr) (c : Nat) (w : World) (hV : ValsAt w A [a, b]) (ha : Pl a) (hb : Pl b) (hna : a.k ≠ 0) (hnb : b.k ≠ 0) (ad : Addr) (mx : Int) (hE : Env w ad mx) :
    Calls Tryz.prog 92 #[.string (tx [108, 101, 102, 116]), .slice A 2 c] w fun e w' => e = .returned (outR (Ev.side [108, 101, 102, 116] a b)) ∧ Below w.heap.size w w' := by
  have b0 := (Below.refl w.heap.size w).alloc (Nat.le_refl _) (.cells #[.int .i64 0, .int .i64 0, .string ⟨#[]⟩] 23)
  have r0 := Row3.new w 0 0 ⟨#[]⟩
  have hV1 := hV.below b0
  have HE := Lib.hid (hE.below b0)
  obtain ⟨B, O, rfl, hB, ⟨x0, x1, x2⟩, y0, y1, y2⟩ := vals_two hV1
  have HBB : Hid (B < w.heap.size) := Lib.hid (by obtain ⟨b', o', e, h, -⟩ := hV 0 (by simp); cases e; exact h)
  clear hB hE
  have AT := Lib.hid (fun U g hU hK => are_two2 a b 2 1 (some ⟨B, O, none⟩) c _ U g hV1 hU hK)
  have HD : Hid ((decide (a.k = 2 ∨ a.k = 0) && decide (b.k = 1 ∨ b.k = 0)) = decide (a.k = 2 ∧ b.k = 1)) := Lib.hid (by rw [Bool.eq_iff_iff]; simp; omega)
  rw [HD.out] at AT
  have FIN : Hid (a.k = 2 ∧ b.k = 1 → Ev.side [108, 101, 102, 116] a b = Ev.ok ⟨2, 0, a.s.take (Ev.cutN b.n a.s.length)⟩) := Lib.hid (fun h => by rw [Ev.side, if_pos h, if_pos rfl])
  have BAD : Hid (¬ (a.k = 2 ∧ b.k = 1) → Ev.side [108, 101, 102, 116] a b = Ev.err 10) := Lib.hid (fun h => by rw [Ev.side, if_neg h])
  have HS : Hid ((tx a.s).size = a.s.length) := Lib.hid (by simp [ByteArray.size, tx])
  have HL : Hid (a.s.length ≤ 200) := Lib.hid (pl_size ha).2
  obtain ⟨ka, na, sa⟩ := a
  obtain ⟨kb, nb, sb⟩ := b
  dsimp only at *
  clear hV hna ha HD hb hnb
  by_cases hk : ka = 2 ∧ kb = 1
  · have HR := Lib.hid (FIN.out hk)
    have HDD : Hid (decide (ka = 2 ∧ kb = 1) = true) := Lib.hid (by simpa using hk)
    rw [HDD.out] at AT
    clear FIN BAD
    obtain ⟨W1, hW1⟩ : ∃ W1, w.alloc (.cells #[.int .i64 0, .int .i64 0, .string ⟨#[]⟩] 23) = W1 := ⟨_, rfl⟩
    rw [hW1] at b0 r0 hV1 x0 x1 x2 y0 y1 y2 AT HE
    have B0 := Lib.hid b0
    have R0 := Lib.hid r0
    have HV1 := Lib.hid hV1
    have HBW : Hid (B < W1.heap.size) := Lib.hid (by have := HBB.out; have := r0.lt; omega)
    clear b0 r0 hV1
    go_enter Tryz.func92, Tryz.ntmps92
    go_wp2_with fail
    refine (AT.out _ _ (by first | exact (Below.refl _ _).alloc (Nat.le_refl _) _ | exact ((Below.refl _ _).alloc (Nat.le_refl _) _).drew) (by exact Whole.new W1 _ _)).mono ?_
    rintro e W2 ⟨rfl, hb2⟩
    have R2 := Lib.hid (R0.out.below hb2 R0.out.lt)
    have B2 := Lib.hid (B0.out.trans (hb2.mono B0.out.size))
    have x0' := (hb2.cell (p := ⟨B, O, none⟩) HBW.out).trans x0
    have x1' := (hb2.cell (p := ⟨B, O + 1, none⟩) HBW.out).trans x1
    have x2' := (hb2.cell (p := ⟨B, O + 2, none⟩) HBW.out).trans x2
    have y0' := (hb2.cell (p := ⟨B, O + 3, none⟩) HBW.out).trans y0
    have y1' := (hb2.cell (p := ⟨B, O + 3 + 1, none⟩) HBW.out).trans y1
    have y2' := (hb2.cell (p := ⟨B, O + 3 + 2, none⟩) HBW.out).trans y2
    clear y0 y1 y2
    obtain ⟨m, hm⟩ : ∃ m, sa.length = m := ⟨_, rfl⟩
    have HM := Lib.hid hm
    have WI := Lib.hid (fun W => within_any nb m W)
    obtain ⟨q, hq⟩ : ∃ q, Ev.cutN nb m = q := ⟨_, rfl⟩
    have hql : q ≤ m := by rw [← hq]; exact cutN_le nb m
    have HQL := Lib.hid hql
    rw [hm, hq] at HR
    rw [hq] at WI
    have hm9 : m ≤ 200 := by have := HL.out; omega
    have HTX : Hid ((tx sa).extract 0 q = tx (sa.take q)) := Lib.hid (by exact tx_take sa q (by omega))
    have HTZ : Hid ((tx (sa.take q)).size = (sa.take q).length) := Lib.hid (by simp [ByteArray.size, tx])
    have TS := Lib.hid (fun W (hW : Below W2.heap.size W2 W) => call_over hW (text_small ((tx sa).extract 0 q) W (by rw [HTX.out, HTZ.out]; have := HL.out; rw [List.length_take]; omega)))
    have hsz : ((tx sa).size : Int) = (m : Int) := by have := HS.out; omega
    have hsn : (tx sa).size = m := by have := HS.out; omega

    clear hb2 AT hk x0 x1 x2 hm hq
    go_upto_region 8 with fail
    go_region_with (first
      | (go_at_call 121; refine (WI.out _).mono ?_; rintro e W3 ⟨rfl, hw3⟩; subst hw3)
      | (go_at_call 64; refine (TS.out _ (by first | exact below_drewN (Below.refl _ _) _ | exact (Below.refl _ _).drew | exact Below.refl _ _)).mono ?_; rintro e W5 ⟨rfl, hb5⟩; have R5 := Lib.hid (R2.out.below hb5 R2.out.lt); obtain ⟨d1, d2, d3⟩ := R5.out.holds; have f0 := R5.out.frozen 0; have f1 := R5.out.frozen 1; have f2 := R5.out.frozen 2; have B5 := Lib.hid (B2.out.trans (hb5.mono B2.out.size))))
    all_goals
      go_wp2_with fail
      exact fin_R Tryz.results92 rfl rfl rfl R5.out B5.out (Nat.le_refl _) (by rw [HR.out, HTX.out]; rfl)
  · have HR := Lib.hid (BAD.out hk)
    have HDD : Hid (decide (ka = 2 ∧ kb = 1) = false) := Lib.hid (by simpa using hk)
    rw [HDD.out] at AT
    clear FIN BAD hk
    obtain ⟨W1, hW1⟩ : ∃ W1, w.alloc (.cells #[.int .i64 0, .int .i64 0, .string ⟨#[]⟩] 23) = W1 := ⟨_, rfl⟩
    rw [hW1] at b0 r0 hV1 x0 x1 x2 y0 y1 y2 AT HE
    have B0 := Lib.hid b0
    have R0 := Lib.hid r0
    have HV1 := Lib.hid hV1
    have HBW : Hid (B < W1.heap.size) := Lib.hid (by have := HBB.out; have := r0.lt; omega)
    clear b0 r0 hV1
    go_enter Tryz.func92, Tryz.ntmps92
    go_wp2_with fail
    refine (AT.out _ _ (by first | exact (Below.refl _ _).alloc (Nat.le_refl _) _ | exact ((Below.refl _ _).alloc (Nat.le_refl _) _).drew) (by exact Whole.new W1 _ _)).mono ?_
    rintro e W2 ⟨rfl, hb2⟩
    have R2 := Lib.hid (R0.out.below hb2 R0.out.lt)
    have B2 := Lib.hid (B0.out.trans (hb2.mono B0.out.size))
    clear x0 x1 x2 AT y0 y1 y2
    go_wp2_with fail
    refine (efail_any _ _).mono ?_
    rintro e w3 ⟨rfl, hb3⟩
    have R3 := Lib.hid (R2.out.below hb3 R2.out.lt)
    have B3 := Lib.hid (bstep B2.out hb3)
    clear hb3
    obtain ⟨d1, d2, d3⟩ := R3.out.holds
    have f0 := R3.out.frozen 0
    have f1 := R3.out.frozen 1
    have f2 := R3.out.frozen 2
    unfold outR vv vcells Ev.err Ev.z
    go_wp2_with fail
    exact fin_R Tryz.results92 rfl rfl rfl R3.out B3.out (Nat.le_refl _) (by rw [HR.out]; rfl)
end Go.Proofs.YteghhmomhlnccaaGreatDoor
