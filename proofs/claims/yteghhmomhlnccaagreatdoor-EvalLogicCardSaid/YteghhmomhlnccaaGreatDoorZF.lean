import Derived.Test.YteghhmomhlnccaaGreatDoorZA
import Derived.StillTailTactics

/- eval: marked (gen_kf.py). -/
namespace Go.Proofs.YteghhmomhlnccaaGreatDoor
open Go.RowKit Go.Lib
set_option linter.unusedVariables false
set_option linter.unusedSimpArgs false
set_option maxRecDepth 100000
attribute [local go_sem ↓] eqVal neqVal
open Ev (V R Pl)
theorem are_two2 (a b : V) (p q : Int) (A : Option Addr) (c : Nat) (W U : World) (g : Nat) (hA : ValsAt W A [a, b]) (hU : Below W.heap.size W U) (hK : Whole U g 3 #[.int .i64 p, .int .i64 q]) : Calls Tryz.prog 34 #[.slice A 2 c, .slice (some ⟨g, 0, none⟩) 2 2] U fun e w' => e = .returned (.bool (decide (a.k = p ∨ a.k = 0) && decide (b.k = q ∨ b.k = 0))) ∧ Below W.heap.size W w' := by
  refine (are_any [a, b] [p, q] _ _ c 2 _ (hA.below hU) (IntsAt.whole hK) (by simp)).mono ?_
  rintro e w' ⟨rfl, hb⟩
  exact ⟨by simp [Ev.areB], bstep hU hb⟩
theorem are_one2 (a : V) (p : Int) (A : Option Addr) (c : Nat) (W U : World) (g : Nat) (hA : ValsAt W A [a]) (hU : Below W.heap.size W U) (hK : Whole U g 3 #[.int .i64 p]) : Calls Tryz.prog 34 #[.slice A 1 c, .slice (some ⟨g, 0, none⟩) 1 1] U fun e w' => e = .returned (.bool (decide (a.k = p ∨ a.k = 0))) ∧ Below W.heap.size W w' := by
  refine (are_any [a] [p] _ _ c 1 _ (hA.below hU) (IntsAt.whole hK) (by simp)).mono ?_
  rintro e w' ⟨rfl, hb⟩
  exact ⟨by simp [Ev.areB], bstep hU hb⟩
theorem pl_size {v : V} (h : Pl v) : (tx v.s).size ≤ 200 ∧ v.s.length ≤ 200 := by
  have hs : (tx v.s).size = v.s.length := by simp [ByteArray.size, tx]
  rw [hs]
  rcases h with ⟨-, -, h⟩ | ⟨-, -, h⟩ | ⟨-, -, h⟩ | ⟨-, -, h⟩
  · rw [h]; exact ⟨Nat.zero_le _, Nat.zero_le _⟩
  · rw [h]; exact ⟨Nat.zero_le _, Nat.zero_le _⟩
  · exact ⟨h, h⟩
  · rw [h]; exact ⟨Nat.zero_le _, Nat.zero_le _⟩
theorem bit_tru (b : Bool) : (⟨3, bit b, []⟩ : V) = Ev.tru b := by cases b <;> rfl
theorem tx_add2 (a b : List UInt8) : tx a ++ tx b = tx (a ++ b) := by
  apply ByteArray.ext
  simp [tx]
set_option maxHeartbeats 2000000 in
theorem marked_and (t : List UInt8) (a b : V) (A : Option Addr) (c : Nat) (w : World) (hV : ValsAt w A [a, b]) (ha : Pl a) (hb : Pl b) (hna : a.k ≠ 0) (hnb : b.k ≠ 0) (hlev : ¬ Ex.lev t = 3) (t6 : (t == [38]) = true) :
    Calls Tryz.prog 91 #[.string (tx t), .slice A 2 c] w fun e w' => e = .returned (outR (Ev.bin t a b)) ∧ Below w.heap.size w w' := by
  have b0 := (Below.refl w.heap.size w).alloc (Nat.le_refl _) (.cells #[.int .i64 0, .int .i64 0, .string ⟨#[]⟩] 23)
  have r0 := Row3.new w 0 0 ⟨#[]⟩
  have hV1 := hV.below b0
  obtain ⟨B, O, rfl, hB, ⟨x0, x1, x2⟩, y0, y1, y2⟩ := vals_two hV1
  have HBB : Hid (B < w.heap.size) := Lib.hid (by obtain ⟨b', o', e, h, -⟩ := hV 0 (by simp); cases e; exact h)
  clear hB
  have HL := Lib.hid hlev
  have t0 : (t == [61]) = false := by rw [beq_eq_false_iff_ne]; intro h; exact hlev (Ev.lev3.2 (.inl h))
  have t1 : (t == [33, 61]) = false := by rw [beq_eq_false_iff_ne]; intro h; exact hlev (Ev.lev3.2 (.inr (.inl h)))
  have t2 : (t == [60]) = false := by rw [beq_eq_false_iff_ne]; intro h; exact hlev (Ev.lev3.2 (.inr (.inr (.inl h))))
  have t3 : (t == [60, 61]) = false := by rw [beq_eq_false_iff_ne]; intro h; exact hlev (Ev.lev3.2 (.inr (.inr (.inr (.inl h)))))
  have t4 : (t == [62]) = false := by rw [beq_eq_false_iff_ne]; intro h; exact hlev (Ev.lev3.2 (.inr (.inr (.inr (.inr (.inl h))))))
  have t5 : (t == [62, 61]) = false := by rw [beq_eq_false_iff_ne]; intro h; exact hlev (Ev.lev3.2 (.inr (.inr (.inr (.inr (.inr h))))))
  have AT := Lib.hid (fun U g hU hK => are_two2 a b 2 2 (some ⟨B, O, none⟩) c _ U g hV1 hU hK)
  have HD : Hid ((decide (a.k = 2 ∨ a.k = 0) && decide (b.k = 2 ∨ b.k = 0)) = decide (a.k = 2 ∧ b.k = 2)) := Lib.hid (by rw [Bool.eq_iff_iff]; simp; omega)
  rw [HD.out] at AT
  have FIN : Hid (a.k = 2 ∧ b.k = 2 → Ev.bin t a b = Ev.joinR (a.s ++ b.s)) := Lib.hid (fun h => by rw [Ev.bin, if_neg HL.out, if_pos (by simpa using t6), if_pos h, Ev.joinR, List.length_append])
  have BAD : Hid (¬ (a.k = 2 ∧ b.k = 2) → Ev.bin t a b = Ev.err 10) := Lib.hid (fun h => by rw [Ev.bin, if_neg HL.out]; rw [if_pos (by simpa using t6), if_neg h])
  have HLA : Hid (a.s.length ≤ 200) := Lib.hid (pl_size ha).2
  have HLB : Hid (b.s.length ≤ 200) := Lib.hid (pl_size hb).2
  have HSA : Hid ((tx a.s).size ≤ 200) := Lib.hid (pl_size ha).1
  have HSB : Hid ((tx b.s).size ≤ 200) := Lib.hid (pl_size hb).1
  have HTX : Hid (tx a.s ++ tx b.s = tx (a.s ++ b.s)) := Lib.hid (tx_add2 _ _)
  obtain ⟨ka, na, sa⟩ := a
  obtain ⟨kb, nb, sb⟩ := b
  dsimp only at *
  clear hV hna hnb ha hb HL HD hlev
  by_cases hk : ka = 2 ∧ kb = 2
  · have HR := Lib.hid (FIN.out hk)
    have HDD : Hid (decide (ka = 2 ∧ kb = 2) = true) := Lib.hid (by simpa using hk)
    rw [HDD.out] at AT
    clear FIN BAD
    obtain ⟨W1, hW1⟩ : ∃ W1, w.alloc (.cells #[.int .i64 0, .int .i64 0, .string ⟨#[]⟩] 23) = W1 := ⟨_, rfl⟩
    rw [hW1] at b0 r0 hV1 x0 x1 x2 y0 y1 y2 AT
    have B0 := Lib.hid b0
    have R0 := Lib.hid r0
    have HV1 := Lib.hid hV1
    have HBW : Hid (B < W1.heap.size) := Lib.hid (by have := HBB.out; have := r0.lt; omega)
    clear b0 r0 hV1
    go_enter Tryz.func91, Tryz.ntmps91
    go_wp2_with fail
    refine (AT.out _ _ (by exact (Below.refl _ _).alloc (Nat.le_refl _) _) (by exact Whole.new W1 _ _)).mono ?_
    rintro e W2 ⟨rfl, hb2⟩
    have R2 := Lib.hid (R0.out.below hb2 R0.out.lt)
    have B2 := Lib.hid (B0.out.trans (hb2.mono B0.out.size))
    have x0' := (hb2.cell (p := ⟨B, O, none⟩) HBW.out).trans x0
    have x1' := (hb2.cell (p := ⟨B, O + 1, none⟩) HBW.out).trans x1
    have x2' := (hb2.cell (p := ⟨B, O + 2, none⟩) HBW.out).trans x2
    have y0' := (hb2.cell (p := ⟨B, O + 3, none⟩) HBW.out).trans y0
    have y1' := (hb2.cell (p := ⟨B, O + 3 + 1, none⟩) HBW.out).trans y1
    have y2' := (hb2.cell (p := ⟨B, O + 3 + 2, none⟩) HBW.out).trans y2
    clear x0 x1 x2 y0 y1 y2
    have JO := Lib.hid (fun W (hW : Below W2.heap.size W2 W) => call_over hW (joined_any (sa ++ sb) W (by rw [List.length_append]; have := HLA.out; have := HLB.out; omega)))
    rw [← HTX.out] at JO
    obtain ⟨⟨⟨rk, rn, rs⟩, re_⟩, hr⟩ : ∃ r, Ev.joinR (sa ++ sb) = r := ⟨_, rfl⟩
    rw [hr] at JO HR
    unfold outR vv vcells at JO
    dsimp only at JO
    have hsa : ¬ (9223372036854775807 < (tx sa).size + (tx sb).size) := by have := HSA.out; have := HSB.out; omega
    have hsb : ¬ (9223372036854775807 < sa.length + sb.length) := by have := HLA.out; have := HLB.out; omega
    clear hb2 AT hr
    go_upto_region 14 with fail
    go_region_with (go_at_call 116; refine (JO.out _ (by first | exact below_drewN (Below.refl _ _) _ | exact (Below.refl _ _).drew | exact Below.refl _ _)).mono ?_; rintro e W5 ⟨rfl, hb5⟩; have R5 := Lib.hid (R2.out.below hb5 R2.out.lt); obtain ⟨d1, d2, d3⟩ := R5.out.holds; have f0 := R5.out.frozen 0; have f1 := R5.out.frozen 1; have f2 := R5.out.frozen 2; have B5 := Lib.hid (B2.out.trans (hb5.mono B2.out.size)))
    all_goals
      go_wp2_with fail
      exact fin_R Tryz.results91 rfl rfl rfl R5.out B5.out (Nat.le_refl _) (by rw [HR.out])
  · have HR := Lib.hid (BAD.out hk)
    have HDD : Hid (decide (ka = 2 ∧ kb = 2) = false) := Lib.hid (by simpa using hk)
    rw [HDD.out] at AT
    clear FIN BAD hk
    obtain ⟨W1, hW1⟩ : ∃ W1, w.alloc (.cells #[.int .i64 0, .int .i64 0, .string ⟨#[]⟩] 23) = W1 := ⟨_, rfl⟩
    rw [hW1] at b0 r0 hV1 x0 x1 x2 y0 y1 y2 AT
    have B0 := Lib.hid b0
    have R0 := Lib.hid r0
    have HV1 := Lib.hid hV1
    have HBW : Hid (B < W1.heap.size) := Lib.hid (by have := HBB.out; have := r0.lt; omega)
    clear b0 r0 hV1
    go_enter Tryz.func91, Tryz.ntmps91
    go_wp2_with fail
    refine (AT.out _ _ (by exact (Below.refl _ _).alloc (Nat.le_refl _) _) (by exact Whole.new W1 _ _)).mono ?_
    rintro e W2 ⟨rfl, hb2⟩
    have R2 := Lib.hid (R0.out.below hb2 R0.out.lt)
    have B2 := Lib.hid (B0.out.trans (hb2.mono B0.out.size))
    clear x0 x1 x2 y0 y1 y2 AT
    go_wp2_with fail
    refine (efail_any _ _).mono ?_
    rintro e w3 ⟨rfl, hb3⟩
    have R3 := Lib.hid (R2.out.below hb3 R2.out.lt)
    have B3 := Lib.hid (bstep B2.out hb3)
    clear hb3
    obtain ⟨d1, d2, d3⟩ := R3.out.holds
    have f0 := R3.out.frozen 0
    have f1 := R3.out.frozen 1
    have f2 := R3.out.frozen 2
    unfold outR vv vcells Ev.err Ev.z
    go_wp2_with fail
    exact fin_R Tryz.results91 rfl rfl rfl R3.out B3.out (Nat.le_refl _) (by rw [HR.out]; rfl)
set_option maxHeartbeats 2000000 in
theorem marked_num (t : List UInt8) (a b : V) (A : Option Addr) (c : Nat) (w : World) (hV : ValsAt w A [a, b]) (ha : Pl a) (hb : Pl b) (hna : a.k ≠ 0) (hnb : b.k ≠ 0) (hlev : ¬ Ex.lev t = 3) (t6 : (t == [38]) = false) :
    Calls Tryz.prog 91 #[.string (tx t), .slice A 2 c] w fun e w' => e = .returned (outR (Ev.bin t a b)) ∧ Below w.heap.size w w' := by
  have b0 := (Below.refl w.heap.size w).alloc (Nat.le_refl _) (.cells #[.int .i64 0, .int .i64 0, .string ⟨#[]⟩] 23)
  have r0 := Row3.new w 0 0 ⟨#[]⟩
  have hV1 := hV.below b0
  obtain ⟨B, O, rfl, hB, ⟨x0, x1, x2⟩, y0, y1, y2⟩ := vals_two hV1
  have HBB : Hid (B < w.heap.size) := Lib.hid (by obtain ⟨b', o', e, h, -⟩ := hV 0 (by simp); cases e; exact h)
  clear hB
  have HL := Lib.hid hlev
  have t0 : (t == [61]) = false := by rw [beq_eq_false_iff_ne]; intro h; exact hlev (Ev.lev3.2 (.inl h))
  have t1 : (t == [33, 61]) = false := by rw [beq_eq_false_iff_ne]; intro h; exact hlev (Ev.lev3.2 (.inr (.inl h)))
  have t2 : (t == [60]) = false := by rw [beq_eq_false_iff_ne]; intro h; exact hlev (Ev.lev3.2 (.inr (.inr (.inl h))))
  have t3 : (t == [60, 61]) = false := by rw [beq_eq_false_iff_ne]; intro h; exact hlev (Ev.lev3.2 (.inr (.inr (.inr (.inl h)))))
  have t4 : (t == [62]) = false := by rw [beq_eq_false_iff_ne]; intro h; exact hlev (Ev.lev3.2 (.inr (.inr (.inr (.inr (.inl h))))))
  have t5 : (t == [62, 61]) = false := by rw [beq_eq_false_iff_ne]; intro h; exact hlev (Ev.lev3.2 (.inr (.inr (.inr (.inr (.inr h))))))
  have AT := Lib.hid (fun U g hU hK => are_two2 a b 1 1 (some ⟨B, O, none⟩) c _ U g hV1 hU hK)
  have HD : Hid ((decide (a.k = 1 ∨ a.k = 0) && decide (b.k = 1 ∨ b.k = 0)) = decide (a.k = 1 ∧ b.k = 1)) := Lib.hid (by rw [Bool.eq_iff_iff]; simp; omega)
  rw [HD.out] at AT
  have FIN : Hid (a.k = 1 ∧ b.k = 1 → Ev.bin t a b = Ev.reckR t a.n b.n) := Lib.hid (fun h => by
    rw [Ev.bin, if_neg HL.out, if_neg (by simpa using t6), if_pos h, Ev.reckR]; simp only [beq_iff_eq])
  have BAD : Hid (¬ (a.k = 1 ∧ b.k = 1) → Ev.bin t a b = Ev.err 10) := Lib.hid (fun h => by rw [Ev.bin, if_neg HL.out]; rw [if_neg (by simpa using t6), if_neg h])
  have HFA : Hid (a.k = 1 → Fits a.n) := Lib.hid (fun h => (ha.number h).1)
  have HFB : Hid (b.k = 1 → Fits b.n) := Lib.hid (fun h => (hb.number h).1)
  obtain ⟨ka, na, sa⟩ := a
  obtain ⟨kb, nb, sb⟩ := b
  dsimp only at *
  clear hV hna hnb ha hb HL HD hlev
  by_cases hk : ka = 1 ∧ kb = 1
  · have HR := Lib.hid (FIN.out hk)
    have HDD : Hid (decide (ka = 1 ∧ kb = 1) = true) := Lib.hid (by simpa using hk)
    rw [HDD.out] at AT
    clear FIN BAD
    obtain ⟨W1, hW1⟩ : ∃ W1, w.alloc (.cells #[.int .i64 0, .int .i64 0, .string ⟨#[]⟩] 23) = W1 := ⟨_, rfl⟩
    rw [hW1] at b0 r0 hV1 x0 x1 x2 y0 y1 y2 AT
    have B0 := Lib.hid b0
    have R0 := Lib.hid r0
    have HV1 := Lib.hid hV1
    have HBW : Hid (B < W1.heap.size) := Lib.hid (by have := HBB.out; have := r0.lt; omega)
    clear b0 r0 hV1
    go_enter Tryz.func91, Tryz.ntmps91
    go_wp2_with fail
    refine (AT.out _ _ (by exact (Below.refl _ _).alloc (Nat.le_refl _) _) (by exact Whole.new W1 _ _)).mono ?_
    rintro e W2 ⟨rfl, hb2⟩
    have R2 := Lib.hid (R0.out.below hb2 R0.out.lt)
    have B2 := Lib.hid (B0.out.trans (hb2.mono B0.out.size))
    have x0' := (hb2.cell (p := ⟨B, O, none⟩) HBW.out).trans x0
    have x1' := (hb2.cell (p := ⟨B, O + 1, none⟩) HBW.out).trans x1
    have x2' := (hb2.cell (p := ⟨B, O + 2, none⟩) HBW.out).trans x2
    have y0' := (hb2.cell (p := ⟨B, O + 3, none⟩) HBW.out).trans y0
    have y1' := (hb2.cell (p := ⟨B, O + 3 + 1, none⟩) HBW.out).trans y1
    have y2' := (hb2.cell (p := ⟨B, O + 3 + 2, none⟩) HBW.out).trans y2
    clear x0 x1 x2 y0 y1 y2
    obtain ⟨rfl, rfl⟩ := hk
    have RK := Lib.hid (fun W (hW : Below W2.heap.size W2 W) => (reckoned_any t na nb W (HFA.out rfl) (HFB.out rfl)).mono (fun e w' h => (⟨h.1, h.2⟩ : (∃ n c, e = .returned (.tuple #[.int .i64 n, .int .i64 c]) ∧ Ev.wholeR n c = Ev.reckR t na nb) ∧ w' = W)))
    have WH := Lib.hid (fun n c W (hW : Below W2.heap.size W2 W) => call_over hW (whole_any n c W))
    unfold outR vv vcells at WH
    clear hb2 AT
    go_upto_region 3 with fail
    go_region_with (first
      | (go_at_call 118; refine (RK.out _ (by first | exact below_drewN (Below.refl _ _) _ | exact (Below.refl _ _).drew | exact Below.refl _ _)).mono ?_; rintro e W3 ⟨⟨rn, rc, rfl, hrr⟩, hw3⟩; subst hw3; have HRR := Lib.hid hrr; clear hrr)
      | (go_at_call 117; refine (WH.out _ _ _ (by first | exact below_drewN (Below.refl _ _) _ | exact (Below.refl _ _).drew | exact Below.refl _ _)).mono ?_; rintro e W5 ⟨rfl, hb5⟩; have R5 := Lib.hid (R2.out.below hb5 R2.out.lt); obtain ⟨d1, d2, d3⟩ := R5.out.holds; have f0 := R5.out.frozen 0; have f1 := R5.out.frozen 1; have f2 := R5.out.frozen 2; have B5 := Lib.hid (B2.out.trans (hb5.mono B2.out.size))))
    all_goals
      go_wp2_with fail
      exact fin_R Tryz.results91 rfl rfl rfl R5.out B5.out (Nat.le_refl _) (by rw [HR.out, ← HRR.out])
  · have HR := Lib.hid (BAD.out hk)
    have HDD : Hid (decide (ka = 1 ∧ kb = 1) = false) := Lib.hid (by simpa using hk)
    rw [HDD.out] at AT
    clear FIN BAD hk
    obtain ⟨W1, hW1⟩ : ∃ W1, w.alloc (.cells #[.int .i64 0, .int .i64 0, .string ⟨#[]⟩] 23) = W1 := ⟨_, rfl⟩
    rw [hW1] at b0 r0 hV1 x0 x1 x2 y0 y1 y2 AT
    have B0 := Lib.hid b0
    have R0 := Lib.hid r0
    have HV1 := Lib.hid hV1
    have HBW : Hid (B < W1.heap.size) := Lib.hid (by have := HBB.out; have := r0.lt; omega)
    clear b0 r0 hV1
    go_enter Tryz.func91, Tryz.ntmps91
    go_wp2_with fail
    refine (AT.out _ _ (by exact (Below.refl _ _).alloc (Nat.le_refl _) _) (by exact Whole.new W1 _ _)).mono ?_
    rintro e W2 ⟨rfl, hb2⟩
    have R2 := Lib.hid (R0.out.below hb2 R0.out.lt)
    have B2 := Lib.hid (B0.out.trans (hb2.mono B0.out.size))
    clear x0 x1 x2 y0 y1 y2 AT
    go_wp2_with fail
    refine (efail_any _ _).mono ?_
    rintro e w3 ⟨rfl, hb3⟩
    have R3 := Lib.hid (R2.out.below hb3 R2.out.lt)
    have B3 := Lib.hid (bstep B2.out hb3)
    clear hb3
    obtain ⟨d1, d2, d3⟩ := R3.out.holds
    have f0 := R3.out.frozen 0
    have f1 := R3.out.frozen 1
    have f2 := R3.out.frozen 2
    unfold outR vv vcells Ev.err Ev.z
    go_wp2_with fail
    exact fin_R Tryz.results91 rfl rfl rfl R3.out B3.out (Nat.le_refl _) (by rw [HR.out]; rfl)
end Go.Proofs.YteghhmomhlnccaaGreatDoor
