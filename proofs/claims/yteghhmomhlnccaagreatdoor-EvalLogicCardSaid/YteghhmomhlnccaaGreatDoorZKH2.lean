import Derived.Test.YteghhmomhlnccaaGreatDoorZK
import Derived.Test.YteghhmomhlnccaaGreatDoorZKL
import Derived.Test.YteghhmomhlnccaaGreatDoorZRD

/- eval: left, right (gen_kg.py). -/
namespace Go.Proofs.YteghhmomhlnccaaGreatDoor
open Go.RowKit Go.Lib
set_option linter.unusedVariables false
set_option linter.unusedSimpArgs false
set_option maxRecDepth 100000
attribute [local go_sem ↓] eqVal neqVal
open Ev (V R Pl)
set_option maxHeartbeats 2000000 in
theorem called_right  (a b : V) (A : Option Addr) (c : Nat) (w : World) (hV : ValsAt w A [a, b]) (ha : Pl a) (hb : Pl b) (hna : a.k ≠ 0) (hnb : b.k ≠ 0) (ad : Addr) (mx : Int) (hE : Env w ad mx) :
    Calls Tryz.prog 92 #[.string (tx [114, 105, 103, 104, 116]), .slice A 2 c] w fun e w' => e = .returned (outR (Ev.side [114, 105, 103, 104, 116] a b)) ∧ Below w.heap.size w w' := by
  have b0 := (Below.refl w.heap.size w).alloc (Nat.le_refl _) (.cells #[.int .i64 0, .int .i64 0, .string ⟨#[]⟩] 23)
  have r0 := Row3.new w 0 0 ⟨#[]⟩
  have hV1 := hV.below b0
  have HE := Lib.hid (hE.below b0)
  obtain ⟨B, O, rfl, hB, ⟨x0, x1, x2⟩, y0, y1, y2⟩ := vals_two hV1
  have HBB : Hid (B < w.heap.size) := Lib.hid (by obtain ⟨b', o', e, h, -⟩ := hV 0 (by simp); cases e; exact h)
  clear hB hE
  have AT := Lib.hid (fun U g hU hK => are_two2 a b 2 1 (some ⟨B, O, none⟩) c _ U g hV1 hU hK)
  have HD : Hid ((decide (a.k = 2 ∨ a.k = 0) && decide (b.k = 1 ∨ b.k = 0)) = decide (a.k = 2 ∧ b.k = 1)) := Lib.hid (by rw [Bool.eq_iff_iff]; simp; omega)
  rw [HD.out] at AT
  have FIN : Hid (a.k = 2 ∧ b.k = 1 → Ev.side [114, 105, 103, 104, 116] a b = Ev.ok ⟨2, 0, a.s.drop (a.s.length - Ev.cutN b.n a.s.length)⟩) := Lib.hid (fun h => by rw [Ev.side, if_pos h, if_neg (by decide)])
  have BAD : Hid (¬ (a.k = 2 ∧ b.k = 1) → Ev.side [114, 105, 103, 104, 116] a b = Ev.err 10) := Lib.hid (fun h => by rw [Ev.side, if_neg h])
  have HS : Hid ((tx a.s).size = a.s.length) := Lib.hid (by simp [ByteArray.size, tx])
  have HL : Hid (a.s.length ≤ 200) := Lib.hid (pl_size ha).2
  obtain ⟨ka, na, sa⟩ := a
  obtain ⟨kb, nb, sb⟩ := b
  dsimp only at *
  clear hV hna ha HD hb hnb
  by_cases hk : ka = 2 ∧ kb = 1
  · have HR := Lib.hid (FIN.out hk)
    have HDD : Hid (decide (ka = 2 ∧ kb = 1) = true) := Lib.hid (by simpa using hk)
    rw [HDD.out] at AT
    clear FIN BAD
    obtain ⟨W1, hW1⟩ : ∃ W1, w.alloc (.cells #[.int .i64 0, .int .i64 0, .string ⟨#[]⟩] 23) = W1 := ⟨_, rfl⟩
    rw [hW1] at b0 r0 hV1 x0 x1 x2 y0 y1 y2 AT HE
    have B0 := Lib.hid b0
    have R0 := Lib.hid r0
    have HV1 := Lib.hid hV1
    have HBW : Hid (B < W1.heap.size) := Lib.hid (by have := HBB.out; have := r0.lt; omega)
    clear b0 r0 hV1
    go_enter Tryz.func92, Tryz.ntmps92
    go_wp2_with fail
    refine (AT.out _ _ (by first | exact (Below.refl _ _).alloc (Nat.le_refl _) _ | exact ((Below.refl _ _).alloc (Nat.le_refl _) _).drew) (by exact Whole.new W1 _ _)).mono ?_
    rintro e W2 ⟨rfl, hb2⟩
    have R2 := Lib.hid (R0.out.below hb2 R0.out.lt)
    have B2 := Lib.hid (B0.out.trans (hb2.mono B0.out.size))
    have HX0 := Lib.hid x0
    have HX1 := Lib.hid x1
    have HX2 := Lib.hid x2
    have HY0 := Lib.hid y0
    have HY1 := Lib.hid y1
    have HY2 := Lib.hid y2
    have x0' := (hb2.cell (p := ⟨B, O, none⟩) HBW.out).trans x0
    have x1' := (hb2.cell (p := ⟨B, O + 1, none⟩) HBW.out).trans x1
    have x2' := (hb2.cell (p := ⟨B, O + 2, none⟩) HBW.out).trans x2
    have y0' := (hb2.cell (p := ⟨B, O + 3, none⟩) HBW.out).trans y0
    have y1' := (hb2.cell (p := ⟨B, O + 3 + 1, none⟩) HBW.out).trans y1
    have y2' := (hb2.cell (p := ⟨B, O + 3 + 2, none⟩) HBW.out).trans y2
    clear y0 y1 y2
    obtain ⟨m, hm⟩ : ∃ m, sa.length = m := ⟨_, rfl⟩
    have HM := Lib.hid hm
    have WI := Lib.hid (fun W => within_any nb m W)
    obtain ⟨q, hq⟩ : ∃ q, Ev.cutN nb m = q := ⟨_, rfl⟩
    have hql : q ≤ m := by rw [← hq]; exact cutN_le nb m
    have HQL := Lib.hid hql
    rw [hm, hq] at HR
    rw [hq] at WI
    obtain ⟨r, hrq⟩ : ∃ r, m - q = r := ⟨_, rfl⟩
    rw [hrq] at HR
    have hm9 : m ≤ 200 := by have := HL.out; omega
    have HTX : Hid ((tx sa).extract r m = tx (sa.drop r)) := Lib.hid (by rw [← HM.out]; exact tx_drop sa _)
    have HTZ : Hid ((tx (sa.drop r)).size = (sa.drop r).length) := Lib.hid (by simp [ByteArray.size, tx])
    have TS := Lib.hid (fun W (hW : Below W2.heap.size W2 W) => call_over hW (text_small ((tx sa).extract r m) W (by rw [HTX.out, HTZ.out]; have := HL.out; rw [List.length_drop]; omega)))
    have hsz : ((tx sa).size : Int) = (m : Int) := by have := HS.out; omega
    have hsn : (tx sa).size = m := by have := HS.out; omega
    have hmq : (m : Int) - (q : Int) = (r : Nat) := by omega
    have hr9 : (r : Int) ≤ (m : Int) := by omega
    have hm9i : (m : Int) ≤ 200 := by omega
    have hq9i : (r : Int) ≤ 200 := by omega
    have hwr : IntKind.i64.wrap ((r : Nat) : Int) = (r : Nat) := by rw [IntKind.wrap_i64]; omega
    clear hrq
    have WI2 : Hid (∀ U, Calls Tryz.prog 121 #[.int .i64 nb, .int .i64 (m : Nat)] U fun e w' => e = .returned (.int .i64 (q : Nat)) ∧ Below U.heap.size U w') := Lib.hid (fun U => (WI.out U).mono (fun e w' h => ⟨h.1, by rw [h.2]; exact Below.refl _ _⟩))
    have TS2 := Lib.hid (fun U => text_small ((tx sa).extract r m) U (by rw [HTX.out, HTZ.out]; have := HL.out; rw [List.length_drop]; omega))
    have BW2 := hb2.mono (Nat.le_of_lt R0.out.lt)
    have Q1 : Hid (BW w W2) := Lib.hid B2.out
    have KK : Hid (∀ U, BW w U → (U.cell? ⟨B, O, none⟩ = some (.int .i64 ka) ∧ U.cell? ⟨B, O + 1, none⟩ = some (.int .i64 na) ∧ U.cell? ⟨B, O + 2, none⟩ = some (.string (tx sa))) ∧ U.cell? ⟨B, O + 3, none⟩ = some (.int .i64 kb) ∧ U.cell? ⟨B, O + 3 + 1, none⟩ = some (.int .i64 nb) ∧ U.cell? ⟨B, O + 3 + 2, none⟩ = some (.string (tx sb))) := Lib.hid (fun U hU => by
      have e := fun k => (hU.cell (p := ⟨B, k, none⟩) HBB.out).trans (B0.out.cell (p := ⟨B, k, none⟩) HBB.out).symm
      exact ⟨⟨(e _).trans HX0.out, (e _).trans HX1.out, (e _).trans HX2.out⟩, (e _).trans HY0.out, (e _).trans HY1.out, (e _).trans HY2.out⟩)
    clear hb2 AT hk hm hq x0 x1 x2 x0' x1' x2' y0' y1' y2' WI TS BW2
    go_upto_region 10 with fail
    have QD : Hid (BW w W2.drew) := Lib.hid Q1.out.drew
    refine wp_region_held_drew (S := fun U => BW w U) (by kernel_rfl) QD.out (fun _ => ?_)
    refine wpAnyH_take (i := 0) (oi := { dst := some 84, op := Op.move (Operand.tmp 1), type := 28, pos := "apply.go:33", after := #[], guard := none }) (v := ?_) rfl (by kernel_rfl) (by kernel_rfl) (by kernel_rfl) (fun _ _ _ h => h) (Or.inl ⟨by rfl, ?_⟩) QD.out ?_
    rotate_left
    · (intro W hw; go_simp; try with_reducible rfl)
    simp only [Act.put, List.setIfInBounds_toArray, List.set_cons_zero, List.set_cons_succ]
    refine wpAnyH_take (i := 1) (oi := { dst := some 85, op := Op.indexAddr 28 (Operand.tmp 84) (Operand.const (Value.int IntKind.i64 0)), type := 0, pos := "apply.go:33", after := #[{ on := 0, ground := Ground.data }], guard := none }) (v := ?_) rfl (by kernel_rfl) (by kernel_rfl) (by kernel_rfl) (fun _ _ _ h => h) (Or.inl ⟨by rfl, ?_⟩) QD.out ?_
    rotate_left
    · (intro W hw; go_simp; try with_reducible rfl)
    simp only [Act.put, List.setIfInBounds_toArray, List.set_cons_zero, List.set_cons_succ]
    refine wpAnyH_take (i := 2) (oi := { dst := some 86, op := Op.fieldAddr 23 (Operand.tmp 85) 2, type := 0, pos := "apply.go:33", after := #[{ on := 1, ground := Ground.data }], guard := none }) (v := ?_) rfl (by kernel_rfl) (by kernel_rfl) (by kernel_rfl) (fun _ _ _ h => h) (Or.inl ⟨by rfl, ?_⟩) QD.out ?_
    rotate_left
    · (intro W hw; go_simp; try with_reducible rfl)
    simp only [Act.put, List.setIfInBounds_toArray, List.set_cons_zero, List.set_cons_succ]
    refine wpAnyH_take (i := 3) (oi := { dst := some 87, op := Op.load 9 (Operand.tmp 86), type := 9, pos := "apply.go:33", after := #[{ on := 2, ground := Ground.data }], guard := none }) (v := ?_) rfl (by kernel_rfl) (by kernel_rfl) (by kernel_rfl) (fun _ _ _ h => h) (Or.inl ⟨by rfl, ?_⟩) QD.out ?_
    rotate_left
    · (intro W hw; obtain ⟨⟨p0, p1, p2⟩, p3, p4, p5⟩ := KK.out W hw; go_simp; try with_reducible rfl)
    simp only [Act.put, List.setIfInBounds_toArray, List.set_cons_zero, List.set_cons_succ]
    refine wpAnyH_take (i := 4) (oi := { dst := some 88, op := Op.move (Operand.tmp 1), type := 28, pos := "apply.go:33", after := #[], guard := none }) (v := ?_) rfl (by kernel_rfl) (by kernel_rfl) (by kernel_rfl) (fun _ _ _ h => h) (Or.inl ⟨by rfl, ?_⟩) QD.out ?_
    rotate_left
    · (intro W hw; go_simp; try with_reducible rfl)
    simp only [Act.put, List.setIfInBounds_toArray, List.set_cons_zero, List.set_cons_succ]
    refine wpAnyH_take (i := 5) (oi := { dst := some 89, op := Op.indexAddr 28 (Operand.tmp 88) (Operand.const (Value.int IntKind.i64 0)), type := 0, pos := "apply.go:33", after := #[{ on := 4, ground := Ground.data }], guard := none }) (v := ?_) rfl (by kernel_rfl) (by kernel_rfl) (by kernel_rfl) (fun _ _ _ h => h) (Or.inl ⟨by rfl, ?_⟩) QD.out ?_
    rotate_left
    · (intro W hw; go_simp; try with_reducible rfl)
    simp only [Act.put, List.setIfInBounds_toArray, List.set_cons_zero, List.set_cons_succ]
    refine wpAnyH_take (i := 6) (oi := { dst := some 90, op := Op.fieldAddr 23 (Operand.tmp 89) 2, type := 0, pos := "apply.go:33", after := #[{ on := 5, ground := Ground.data }], guard := none }) (v := ?_) rfl (by kernel_rfl) (by kernel_rfl) (by kernel_rfl) (fun _ _ _ h => h) (Or.inl ⟨by rfl, ?_⟩) QD.out ?_
    rotate_left
    · (intro W hw; go_simp; try with_reducible rfl)
    simp only [Act.put, List.setIfInBounds_toArray, List.set_cons_zero, List.set_cons_succ]
    refine wpAnyH_take (i := 7) (oi := { dst := some 91, op := Op.load 9 (Operand.tmp 90), type := 9, pos := "apply.go:33", after := #[{ on := 6, ground := Ground.data }], guard := none }) (v := ?_) rfl (by kernel_rfl) (by kernel_rfl) (by kernel_rfl) (fun _ _ _ h => h) (Or.inl ⟨by rfl, ?_⟩) QD.out ?_
    rotate_left
    · (intro W hw; obtain ⟨⟨p0, p1, p2⟩, p3, p4, p5⟩ := KK.out W hw; go_simp; try with_reducible rfl)
    simp only [Act.put, List.setIfInBounds_toArray, List.set_cons_zero, List.set_cons_succ]
    refine wpAnyH_take (i := 8) (oi := { dst := some 92, op := Op.call { callee := Callee.builtin Builtin.len, args := #[Operand.tmp 91], argTypes := #[9] }, type := 3, pos := "apply.go:33", after := #[{ on := 7, ground := Ground.data }], guard := none }) (v := ?_) rfl (by kernel_rfl) (by kernel_rfl) (by kernel_rfl) (fun _ _ _ h => h) (Or.inl ⟨by rfl, ?_⟩) QD.out ?_
    rotate_left
    · (intro W hw; go_simp; try with_reducible rfl)
    simp only [Act.put, List.setIfInBounds_toArray, List.set_cons_zero, List.set_cons_succ]
    refine wpAnyH_take (i := 9) (oi := { dst := some 93, op := Op.move (Operand.tmp 1), type := 28, pos := "apply.go:33", after := #[], guard := none }) (v := ?_) rfl (by kernel_rfl) (by kernel_rfl) (by kernel_rfl) (fun _ _ _ h => h) (Or.inl ⟨by rfl, ?_⟩) QD.out ?_
    rotate_left
    · (intro W hw; go_simp; try with_reducible rfl)
    simp only [Act.put, List.setIfInBounds_toArray, List.set_cons_zero, List.set_cons_succ]
    refine wpAnyH_take (i := 10) (oi := { dst := some 94, op := Op.indexAddr 28 (Operand.tmp 93) (Operand.const (Value.int IntKind.i64 1)), type := 0, pos := "apply.go:33", after := #[{ on := 9, ground := Ground.data }], guard := none }) (v := ?_) rfl (by kernel_rfl) (by kernel_rfl) (by kernel_rfl) (fun _ _ _ h => h) (Or.inl ⟨by rfl, ?_⟩) QD.out ?_
    rotate_left
    · (intro W hw; go_simp; try with_reducible rfl)
    simp only [Act.put, List.setIfInBounds_toArray, List.set_cons_zero, List.set_cons_succ]
    refine wpAnyH_take (i := 11) (oi := { dst := some 95, op := Op.fieldAddr 23 (Operand.tmp 94) 1, type := 0, pos := "apply.go:33", after := #[{ on := 10, ground := Ground.data }], guard := none }) (v := ?_) rfl (by kernel_rfl) (by kernel_rfl) (by kernel_rfl) (fun _ _ _ h => h) (Or.inl ⟨by rfl, ?_⟩) QD.out ?_
    rotate_left
    · (intro W hw; go_simp; try with_reducible rfl)
    simp only [Act.put, List.setIfInBounds_toArray, List.set_cons_zero, List.set_cons_succ]
    refine wpAnyH_take (i := 12) (oi := { dst := some 96, op := Op.load 2 (Operand.tmp 95), type := 2, pos := "apply.go:33", after := #[{ on := 11, ground := Ground.data }], guard := none }) (v := ?_) rfl (by kernel_rfl) (by kernel_rfl) (by kernel_rfl) (fun _ _ _ h => h) (Or.inl ⟨by rfl, ?_⟩) QD.out ?_
    rotate_left
    · (intro W hw; obtain ⟨⟨p0, p1, p2⟩, p3, p4, p5⟩ := KK.out W hw; go_simp; try with_reducible rfl)
    simp only [Act.put, List.setIfInBounds_toArray, List.set_cons_zero, List.set_cons_succ]
    refine wpAnyH_take (i := 13) (oi := { dst := some 97, op := Op.move (Operand.tmp 1), type := 28, pos := "apply.go:33", after := #[], guard := none }) (v := ?_) rfl (by kernel_rfl) (by kernel_rfl) (by kernel_rfl) (fun _ _ _ h => h) (Or.inl ⟨by rfl, ?_⟩) QD.out ?_
    rotate_left
    · (intro W hw; go_simp; try with_reducible rfl)
    simp only [Act.put, List.setIfInBounds_toArray, List.set_cons_zero, List.set_cons_succ]
    refine wpAnyH_take (i := 14) (oi := { dst := some 98, op := Op.indexAddr 28 (Operand.tmp 97) (Operand.const (Value.int IntKind.i64 0)), type := 0, pos := "apply.go:33", after := #[{ on := 13, ground := Ground.data }], guard := none }) (v := ?_) rfl (by kernel_rfl) (by kernel_rfl) (by kernel_rfl) (fun _ _ _ h => h) (Or.inl ⟨by rfl, ?_⟩) QD.out ?_
    rotate_left
    · (intro W hw; go_simp; try with_reducible rfl)
    simp only [Act.put, List.setIfInBounds_toArray, List.set_cons_zero, List.set_cons_succ]
    refine wpAnyH_take (i := 15) (oi := { dst := some 99, op := Op.fieldAddr 23 (Operand.tmp 98) 2, type := 0, pos := "apply.go:33", after := #[{ on := 14, ground := Ground.data }], guard := none }) (v := ?_) rfl (by kernel_rfl) (by kernel_rfl) (by kernel_rfl) (fun _ _ _ h => h) (Or.inl ⟨by rfl, ?_⟩) QD.out ?_
    rotate_left
    · (intro W hw; go_simp; try with_reducible rfl)
    simp only [Act.put, List.setIfInBounds_toArray, List.set_cons_zero, List.set_cons_succ]
    refine wpAnyH_take (i := 16) (oi := { dst := some 100, op := Op.load 9 (Operand.tmp 99), type := 9, pos := "apply.go:33", after := #[{ on := 15, ground := Ground.data }], guard := none }) (v := ?_) rfl (by kernel_rfl) (by kernel_rfl) (by kernel_rfl) (fun _ _ _ h => h) (Or.inl ⟨by rfl, ?_⟩) QD.out ?_
    rotate_left
    · (intro W hw; obtain ⟨⟨p0, p1, p2⟩, p3, p4, p5⟩ := KK.out W hw; go_simp; try with_reducible rfl)
    simp only [Act.put, List.setIfInBounds_toArray, List.set_cons_zero, List.set_cons_succ]
    refine wpAnyH_take (i := 17) (oi := { dst := some 101, op := Op.call { callee := Callee.builtin Builtin.len, args := #[Operand.tmp 100], argTypes := #[9] }, type := 3, pos := "apply.go:33", after := #[{ on := 16, ground := Ground.data }], guard := none }) (v := ?_) rfl (by kernel_rfl) (by kernel_rfl) (by kernel_rfl) (fun _ _ _ h => h) (Or.inl ⟨by rfl, ?_⟩) QD.out ?_
    rotate_left
    · (intro W hw; go_simp; try with_reducible rfl)
    simp only [Act.put, List.setIfInBounds_toArray, List.set_cons_zero, List.set_cons_succ]
    refine wpAnyH_ready (rs := [18]) (by kernel_rfl) (by simp) ?_
    refine (AllReadyH.cons (o := { dst := some 102, op := Op.call { callee := Callee.value (Operand.func 121), args := #[Operand.tmp 96, Operand.tmp 101], argTypes := #[2, 3] }, type := 3, pos := "apply.go:33", after := #[{ on := 12, ground := Ground.data }, { on := 17, ground := Ground.data }], guard := none }) rfl (fun K hK => ?_) AllReadyH.nil)
    go_simp
    refine (WI2.out _).mono ?_
    rintro e V1 ⟨rfl, hv1⟩
    have QV1 := Lib.hid (QD.out.call hv1)
    have ZB1 := Row3.below (w' := V1) (g := w.heap.size) (k := 0) (n := 0) (s := ⟨#[]⟩) (by exact R2.out) hv1 (by exact R2.out.lt)
    obtain ⟨z0, z1, z2⟩ := ZB1.holds
    have f0 := ZB1.frozen 0
    have f1 := ZB1.frozen 1
    have f2 := ZB1.frozen 2
    refine hK.out _ _ QV1.out (fun _ => ?_)
    clear hK K
    try simp only [Act.put, List.setIfInBounds_toArray, List.set_cons_zero, List.set_cons_succ]
    refine wpAnyH_take (i := 19) (oi := { dst := some 103, op := Op.binOp BinOp.sub 3 (Operand.tmp 92) (Operand.tmp 102) 3, type := 3, pos := "apply.go:33", after := #[{ on := 8, ground := Ground.data }, { on := 18, ground := Ground.data }], guard := none }) (v := ?_) rfl (by kernel_rfl) (by kernel_rfl) (by kernel_rfl) (fun _ _ _ h => h) (Or.inl ⟨by rfl, ?_⟩) QV1.out ?_
    rotate_left
    · (intro W hw; go_simp; try with_reducible rfl)
    simp only [Act.put, List.setIfInBounds_toArray, List.set_cons_zero, List.set_cons_succ]
    refine wpAnyH_take (i := 20) (oi := { dst := some 104, op := Op.slice 9 (Operand.tmp 87) (some (Operand.tmp 103)) none none, type := 9, pos := "apply.go:33", after := #[{ on := 3, ground := Ground.data }, { on := 19, ground := Ground.data }], guard := none }) (v := ?_) rfl (by kernel_rfl) (by kernel_rfl) (by kernel_rfl) (fun _ _ _ h => h) (Or.inl ⟨by rfl, ?_⟩) QV1.out ?_
    rotate_left
    · (intro W hw; go_simp; try with_reducible rfl)
    simp only [Act.put, List.setIfInBounds_toArray, List.set_cons_zero, List.set_cons_succ]
    refine wpAnyH_ready (rs := [21]) (by kernel_rfl) (by simp) ?_
    refine (AllReadyH.cons (o := { dst := some 105, op := Op.call { callee := Callee.value (Operand.func 64), args := #[Operand.tmp 104], argTypes := #[9] }, type := 23, pos := "apply.go:33", after := #[{ on := 20, ground := Ground.data }, { on := 18, ground := Ground.chain }], guard := none }) rfl (fun K hK => ?_) AllReadyH.nil)
    go_simp
    refine (TS2.out _).mono ?_
    rintro e V2 ⟨rfl, hv2⟩
    have QV2 := Lib.hid (QV1.out.call hv2)
    have ZB2 := Row3.below (w' := V2) (g := w.heap.size) (k := 0) (n := 0) (s := ⟨#[]⟩) (by exact ZB1) hv2 (by exact ZB1.lt)
    obtain ⟨z0, z1, z2⟩ := ZB2.holds
    have f0 := ZB2.frozen 0
    have f1 := ZB2.frozen 1
    have f2 := ZB2.frozen 2
    refine hK.out _ _ QV2.out (fun _ => ?_)
    clear hK K
    try simp only [Act.put, List.setIfInBounds_toArray, List.set_cons_zero, List.set_cons_succ]
    refine wpAnyH_ready (rs := [22]) (by kernel_rfl) (by simp) ?_
    refine (AllReadyH.cons (o := { dst := none, op := Op.store 23 (Operand.tmp 4) (Operand.tmp 105), type := 0, pos := "apply.go:33", after := #[{ on := 21, ground := Ground.data }, { on := 21, ground := Ground.chain }, { on := 0, ground := Ground.phase }, { on := 1, ground := Ground.phase }, { on := 2, ground := Ground.phase }, { on := 3, ground := Ground.phase }, { on := 4, ground := Ground.phase }, { on := 5, ground := Ground.phase }, { on := 6, ground := Ground.phase }, { on := 7, ground := Ground.phase }, { on := 8, ground := Ground.phase }, { on := 9, ground := Ground.phase }, { on := 10, ground := Ground.phase }, { on := 11, ground := Ground.phase }, { on := 12, ground := Ground.phase }, { on := 13, ground := Ground.phase }, { on := 14, ground := Ground.phase }, { on := 15, ground := Ground.phase }, { on := 16, ground := Ground.phase }, { on := 17, ground := Ground.phase }, { on := 18, ground := Ground.phase }, { on := 19, ground := Ground.phase }, { on := 20, ground := Ground.phase }, { on := 21, ground := Ground.phase }], guard := none }) rfl (fun K hK => ?_) AllReadyH.nil)
    go_simp
    have QS := Lib.hid (QV2.out.set3 (g := w.heap.size) (by first | omega | exact Nat.le_refl _) (.int .i64 2) (.int .i64 0) (.string ((tx sa).extract r m)))
    have FW := Lib.hid (ZB2.set3 2 0 ((tx sa).extract r m))
    refine hK.out _ _ QS.out (fun _ => ?_)
    clear hK K
    try simp only [Act.put, List.setIfInBounds_toArray, List.set_cons_zero, List.set_cons_succ]
    refine wpAnyH_take (i := 23) (oi := { dst := some 5, op := Op.assign (Operand.const (Value.int IntKind.i64 0)), type := 33, pos := "apply.go:33", after := #[{ on := 22, ground := Ground.chain }, { on := 0, ground := Ground.phase }, { on := 1, ground := Ground.phase }, { on := 2, ground := Ground.phase }, { on := 3, ground := Ground.phase }, { on := 4, ground := Ground.phase }, { on := 5, ground := Ground.phase }, { on := 6, ground := Ground.phase }, { on := 7, ground := Ground.phase }, { on := 8, ground := Ground.phase }, { on := 9, ground := Ground.phase }, { on := 10, ground := Ground.phase }, { on := 11, ground := Ground.phase }, { on := 12, ground := Ground.phase }, { on := 13, ground := Ground.phase }, { on := 14, ground := Ground.phase }, { on := 15, ground := Ground.phase }, { on := 16, ground := Ground.phase }, { on := 17, ground := Ground.phase }, { on := 18, ground := Ground.phase }, { on := 19, ground := Ground.phase }, { on := 20, ground := Ground.phase }, { on := 21, ground := Ground.phase }, { on := 22, ground := Ground.phase }], guard := none }) (v := ?_) rfl (by kernel_rfl) (by kernel_rfl) (by kernel_rfl) (fun _ _ _ h => h) (Or.inl ⟨by rfl, ?_⟩) QS.out ?_
    rotate_left
    · (intro W hw; go_simp; try with_reducible rfl)
    simp only [Act.put, List.setIfInBounds_toArray, List.set_cons_zero, List.set_cons_succ]
    refine wpAnyH_done (by kernel_rfl) ?_ _
    go_wp2_with fail
    exact fin_R2 Tryz.results92 rfl rfl rfl FW.out QS.out (by rw [HR.out, HTX.out]; rfl)
  · have HR := Lib.hid (BAD.out hk)
    have HDD : Hid (decide (ka = 2 ∧ kb = 1) = false) := Lib.hid (by simpa using hk)
    rw [HDD.out] at AT
    clear FIN BAD hk
    obtain ⟨W1, hW1⟩ : ∃ W1, w.alloc (.cells #[.int .i64 0, .int .i64 0, .string ⟨#[]⟩] 23) = W1 := ⟨_, rfl⟩
    rw [hW1] at b0 r0 hV1 x0 x1 x2 y0 y1 y2 AT HE
    have B0 := Lib.hid b0
    have R0 := Lib.hid r0
    have HV1 := Lib.hid hV1
    have HBW : Hid (B < W1.heap.size) := Lib.hid (by have := HBB.out; have := r0.lt; omega)
    clear b0 r0 hV1
    go_enter Tryz.func92, Tryz.ntmps92
    go_wp2_with fail
    refine (AT.out _ _ (by first | exact (Below.refl _ _).alloc (Nat.le_refl _) _ | exact ((Below.refl _ _).alloc (Nat.le_refl _) _).drew) (by exact Whole.new W1 _ _)).mono ?_
    rintro e W2 ⟨rfl, hb2⟩
    have R2 := Lib.hid (R0.out.below hb2 R0.out.lt)
    have B2 := Lib.hid (B0.out.trans (hb2.mono B0.out.size))
    clear x0 x1 x2 AT y0 y1 y2
    go_wp2_with fail
    refine (efail_any _ _).mono ?_
    rintro e w3 ⟨rfl, hb3⟩
    have R3 := Lib.hid (R2.out.below hb3 R2.out.lt)
    have B3 := Lib.hid (bstep B2.out hb3)
    clear hb3
    obtain ⟨d1, d2, d3⟩ := R3.out.holds
    have f0 := R3.out.frozen 0
    have f1 := R3.out.frozen 1
    have f2 := R3.out.frozen 2
    unfold outR vv vcells Ev.err Ev.z
    go_wp2_with fail
    exact fin_R Tryz.results92 rfl rfl rfl R3.out B3.out (Nat.le_refl _) (by rw [HR.out]; rfl)
end Go.Proofs.YteghhmomhlnccaaGreatDoor
