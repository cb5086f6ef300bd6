import Derived.Test.YteghhmomhlnccaaGreatDoorZM

/- eval: chosen (gen_kj.py). -/
namespace Go.Proofs.YteghhmomhlnccaaGreatDoor
open Go.RowKit Go.Lib
set_option linter.unusedVariables false
set_option linter.unusedSimpArgs false
set_option maxRecDepth 100000
attribute [local go_sem ↓] eqVal neqVal
open Ex (Tree)
open Ev (V R Pl)
variable {C : List Col} {Ac : Option Addr} {cc : Nat} {W : List V} {Ar : Option Addr} {cr : Nat} {w0 : World}
def Ev.chR (q y z : R) : R := if q.e = 0 then (if q.v.k = 3 ∧ q.v.n = 1 then y else z) else Ev.err q.e
theorem truth_pl {r : R} (h : Pl r.v) : Pl (Ev.truthR r).v := by
  unfold Ev.truthR
  split
  · split
    · exact h
    · exact Pl.z_
  · exact Pl.z_
set_option maxHeartbeats 2000000 in
theorem chosen_of {X Y Z : Tree} (hX : CT C Ac cc W Ar cr w0 X) (hY : CT C Ac cc W Ar cr w0 Y) (hZ : CT C Ac cc W Ar cr w0 Z) (hp : Pl (Ev.ev C W X).v) (A : Option Addr) (c : Nat) (w : World) (hb : Below w0.heap.size w0 w) (hk : TreesAt w A 0 [X, Y, Z]) :
    Calls Tryz.prog 57 #[ovV C Ac cc W Ar cr, .slice A 3 c] w fun e w' => e = .returned (outR (Ev.chR (Ev.truthR (Ev.ev C W X)) (Ev.ev C W Y) (Ev.ev C W Z))) ∧ Below w.heap.size w w' := by
  have b0 := (Below.refl w.heap.size w).alloc (Nat.le_refl _) (.cells #[.slice Ac C.length cc, .slice Ar W.length cr] 60)
  have b1 := b0.alloc (by simp) (.cells #[.int .i64 0, .int .i64 0, .string ⟨#[]⟩] 23)
  have k0 := (Whole.new w 60 #[.slice Ac C.length cc, .slice Ar W.length cr]).alloc (.cells #[.int .i64 0, .int .i64 0, .string ⟨#[]⟩] 23)
  have r0 := Row3.new (w.alloc (.cells #[.slice Ac C.length cc, .slice Ar W.length cr] 60)) 0 0 ⟨#[]⟩
  rw [World.size_alloc] at r0
  obtain ⟨W1, hW1⟩ : ∃ W1, (w.alloc (.cells #[.slice Ac C.length cc, .slice Ar W.length cr] 60)).alloc (.cells #[.int .i64 0, .int .i64 0, .string ⟨#[]⟩] 23) = W1 := ⟨_, rfl⟩
  rw [hW1] at b1 k0 r0
  obtain ⟨kb, ko, o0, t0, k0, n0, s0, m0, B0, c0, rfl, -, hc0, -, C0⟩ := kid_call (i := 0) (by simp) hX hb hk
  obtain ⟨kb1, ko1, o1, t1, k1, n1, s1, m1, B1, c1, e1, -, hc1, -, C1⟩ := kid_call (i := 1) (by simp) hY hb hk
  cases e1
  obtain ⟨kb2, ko2, o2, t2, k2, n2, s2, m2, B2, c2, e2, -, hc2, -, C2⟩ := kid_call (i := 2) (by simp) hZ hb hk
  cases e2
  simp only [List.getElem_cons_zero, List.getElem_cons_succ] at C0 C1 C2
  obtain ⟨x, hx'⟩ : ∃ r, Ev.ev C W X = r := ⟨_, rfl⟩
  obtain ⟨y, hy'⟩ : ∃ r, Ev.ev C W Y = r := ⟨_, rfl⟩
  obtain ⟨z, hz'⟩ : ∃ r, Ev.ev C W Z = r := ⟨_, rfl⟩
  rw [hx'] at C0 hp ⊢
  rw [hy'] at C1 ⊢
  rw [hz'] at C2 ⊢
  have HP := Lib.hid (truth_pl hp)
  have TR := Lib.hid (fun U => truth_any x U)
  obtain ⟨q, hq'⟩ : ∃ q, Ev.truthR x = q := ⟨_, rfl⟩
  rw [hq'] at HP TR ⊢
  clear hx' hy' hz' hq' hX hY hZ hp hb hk b0
  unfold ovV ncells at *
  generalize C.length = cn at *
  generalize W.length = wn at *
  have KB := Lib.hid b1
  have R0 := Lib.hid r0
  have Q1 : Hid (OvR w W1 #[.slice Ac cn cc, .slice Ar wn cr]) := Lib.hid ⟨⟨b1, k0⟩, r0⟩
  have HSZ : Hid (w.heap.size + 2 ≤ W1.heap.size) := Lib.hid (by have := r0.lt; omega)
  have HC0 := Lib.hid hc0
  have HK0 := Lib.hid C0
  have HC1 := Lib.hid hc1
  have HK1 := Lib.hid C1
  have HC2 := Lib.hid hc2
  have HK2 := Lib.hid C2
  obtain ⟨⟨xk, xn, xs_⟩, xe⟩ := x
  obtain ⟨⟨yk, yn, ys_⟩, ye⟩ := y
  obtain ⟨⟨zk, zn, zs_⟩, ze⟩ := z
  obtain ⟨⟨qk, qn, qs_⟩, qe⟩ := q
  unfold outR vv vcells at *
  dsimp only at *
  clear b1 r0 k0 hc0 hc1 hc2 C0 C1 C2
  have KK0 : Hid (∀ U, OvS w U #[.slice Ac cn cc, .slice Ar wn cr] → (U.cell? ⟨w.heap.size, 0, none⟩ = some (.slice Ac cn cc) ∧ U.cell? ⟨w.heap.size, 1, none⟩ = some (.slice Ar wn cr)) ∧ U.cell? ⟨kb, ko, none⟩ = some (.int .i64 o0) ∧ U.cell? ⟨kb, ko + 1, none⟩ = some (.string (tx t0)) ∧ U.cell? ⟨kb, ko + 2, none⟩ = some (.int .i64 k0) ∧ U.cell? ⟨kb, ko + 3, none⟩ = some (.int .i64 n0) ∧ U.cell? ⟨kb, ko + 4, none⟩ = some (.string (tx s0)) ∧ U.cell? ⟨kb, ko + 5, none⟩ = some (.slice B0 m0 c0)) := Lib.hid (fun U hU => by
    have h := HC0.out U hU.1
    simp only [Nat.zero_mul, Nat.one_mul, Nat.add_zero, show 2 * 6 = 12 from rfl] at h
    exact ⟨hU.cells, h⟩)
  have KK1 : Hid (∀ U, OvS w U #[.slice Ac cn cc, .slice Ar wn cr] → (U.cell? ⟨w.heap.size, 0, none⟩ = some (.slice Ac cn cc) ∧ U.cell? ⟨w.heap.size, 1, none⟩ = some (.slice Ar wn cr)) ∧ U.cell? ⟨kb, ko + 6, none⟩ = some (.int .i64 o1) ∧ U.cell? ⟨kb, ko + 6 + 1, none⟩ = some (.string (tx t1)) ∧ U.cell? ⟨kb, ko + 6 + 2, none⟩ = some (.int .i64 k1) ∧ U.cell? ⟨kb, ko + 6 + 3, none⟩ = some (.int .i64 n1) ∧ U.cell? ⟨kb, ko + 6 + 4, none⟩ = some (.string (tx s1)) ∧ U.cell? ⟨kb, ko + 6 + 5, none⟩ = some (.slice B1 m1 c1)) := Lib.hid (fun U hU => by
    have h := HC1.out U hU.1
    simp only [Nat.zero_mul, Nat.one_mul, Nat.add_zero, show 2 * 6 = 12 from rfl] at h
    exact ⟨hU.cells, h⟩)
  have KK2 : Hid (∀ U, OvS w U #[.slice Ac cn cc, .slice Ar wn cr] → (U.cell? ⟨w.heap.size, 0, none⟩ = some (.slice Ac cn cc) ∧ U.cell? ⟨w.heap.size, 1, none⟩ = some (.slice Ar wn cr)) ∧ U.cell? ⟨kb, ko + 12, none⟩ = some (.int .i64 o2) ∧ U.cell? ⟨kb, ko + 12 + 1, none⟩ = some (.string (tx t2)) ∧ U.cell? ⟨kb, ko + 12 + 2, none⟩ = some (.int .i64 k2) ∧ U.cell? ⟨kb, ko + 12 + 3, none⟩ = some (.int .i64 n2) ∧ U.cell? ⟨kb, ko + 12 + 4, none⟩ = some (.string (tx s2)) ∧ U.cell? ⟨kb, ko + 12 + 5, none⟩ = some (.slice B2 m2 c2)) := Lib.hid (fun U hU => by
    have h := HC2.out U hU.1
    simp only [Nat.zero_mul, Nat.one_mul, Nat.add_zero, show 2 * 6 = 12 from rfl] at h
    exact ⟨hU.cells, h⟩)
  go_enter Tryz.func57, Tryz.ntmps57
  go_upto_region 1 with fail
  go_cut [6, 7] from 9 to 18 (fun s6 s7 wc => ∃ g, s6 = .pointer (some ⟨g, 0, none⟩) ∧ s7 = .int .i64 qe ∧ Hid (Row3 wc g qk qn (tx qs_)) ∧ Hid (OvR w wc #[.slice Ac cn cc, .slice Ar wn cr]))
  case first =>
    have QD : Hid (OvR w W1.drew #[.slice Ac cn cc, .slice Ar wn cr]) := Lib.hid Q1.out.drew
    refine wp_region_held_drew (S := fun U => OvR w U #[.slice Ac cn cc, .slice Ar wn cr]) (by kernel_rfl) QD.out (fun _ => ?_)
    refine wpAnyH_take (i := 0) (oi := { dst := some 9, op := Op.load 60 (Operand.tmp 2), type := 60, pos := "reckon.go:107", after := #[], guard := none }) (v := ?_) rfl (by kernel_rfl) (by kernel_rfl) (by kernel_rfl) (fun _ _ _ h => h) (Or.inl ⟨by rfl, ?_⟩) QD.out ?_
    rotate_left
    · (intro W hw; obtain ⟨⟨a0, a1⟩, p0, p1, p2, p3, p4, p5⟩ := KK0.out W hw.1; go_simp; try with_reducible rfl)
    simp only [Act.put, List.setIfInBounds_toArray, List.set_cons_zero, List.set_cons_succ]
    refine wpAnyH_take (i := 1) (oi := { dst := some 10, op := Op.move (Operand.tmp 1), type := 24, pos := "reckon.go:107", after := #[], guard := none }) (v := ?_) rfl (by kernel_rfl) (by kernel_rfl) (by kernel_rfl) (fun _ _ _ h => h) (Or.inl ⟨by rfl, ?_⟩) QD.out ?_
    rotate_left
    · (intro W hw; go_simp; try with_reducible rfl)
    simp only [Act.put, List.setIfInBounds_toArray, List.set_cons_zero, List.set_cons_succ]
    refine wpAnyH_take (i := 2) (oi := { dst := some 11, op := Op.indexAddr 24 (Operand.tmp 10) (Operand.const (Value.int IntKind.i64 0)), type := 0, pos := "reckon.go:107", after := #[{ on := 1, ground := Ground.data }], guard := none }) (v := ?_) rfl (by kernel_rfl) (by kernel_rfl) (by kernel_rfl) (fun _ _ _ h => h) (Or.inl ⟨by rfl, ?_⟩) QD.out ?_
    rotate_left
    · (intro W hw; go_simp; try with_reducible rfl)
    simp only [Act.put, List.setIfInBounds_toArray, List.set_cons_zero, List.set_cons_succ]
    refine wpAnyH_take (i := 3) (oi := { dst := some 12, op := Op.load 26 (Operand.tmp 11), type := 26, pos := "reckon.go:107", after := #[{ on := 2, ground := Ground.data }], guard := none }) (v := ?_) rfl (by kernel_rfl) (by kernel_rfl) (by kernel_rfl) (fun _ _ _ h => h) (Or.inl ⟨by rfl, ?_⟩) QD.out ?_
    rotate_left
    · (intro W hw; obtain ⟨⟨a0, a1⟩, p0, p1, p2, p3, p4, p5⟩ := KK0.out W hw.1; go_simp; try with_reducible rfl)
    simp only [Act.put, List.setIfInBounds_toArray, List.set_cons_zero, List.set_cons_succ]
    refine wpAnyH_ready (rs := [4, 11]) (by kernel_rfl) (by simp) ?_
    refine (AllReadyH.cons (o := { dst := some 13, op := Op.call { callee := Callee.value (Operand.func 27), args := #[Operand.tmp 9, Operand.tmp 12], argTypes := #[60, 26] }, type := 34, pos := "reckon.go:107", after := #[{ on := 0, ground := Ground.data }, { on := 3, ground := Ground.data }], guard := none }) rfl (fun K hK => ?_) (AllReadyH.cons (o := { dst := some 6, op := Op.alloc 23, type := 0, pos := "reckon.go:107", after := #[], guard := none }) rfl (fun K hK => ?_) AllReadyH.nil))
    ·
      go_simp
      refine (HK0.out _ QD.out.1.1).mono ?_
      rintro e V1 ⟨rfl, hv1⟩
      have QV1 := Lib.hid (QD.out.call hv1)
      refine hK.out _ _ QV1.out (fun _ => ?_)
      clear hK K
      try simp only [Act.put, List.setIfInBounds_toArray, List.set_cons_zero, List.set_cons_succ]
      refine wpAnyH_take (i := 5) (oi := { dst := some 14, op := Op.extract (Operand.tmp 13) 0, type := 23, pos := "reckon.go:107", after := #[{ on := 4, ground := Ground.data }], guard := none }) (v := ?_) rfl (by kernel_rfl) (by kernel_rfl) (by kernel_rfl) (fun _ _ _ h => h) (Or.inl ⟨by rfl, ?_⟩) QV1.out ?_
      rotate_left
      · (intro W hw; go_simp; try with_reducible rfl)
      simp only [Act.put, List.setIfInBounds_toArray, List.set_cons_zero, List.set_cons_succ]
      refine wpAnyH_take (i := 6) (oi := { dst := some 15, op := Op.extract (Operand.tmp 13) 1, type := 33, pos := "reckon.go:107", after := #[{ on := 4, ground := Ground.data }], guard := none }) (v := ?_) rfl (by kernel_rfl) (by kernel_rfl) (by kernel_rfl) (fun _ _ _ h => h) (Or.inl ⟨by rfl, ?_⟩) QV1.out ?_
      rotate_left
      · (intro W hw; go_simp; try with_reducible rfl)
      simp only [Act.put, List.setIfInBounds_toArray, List.set_cons_zero, List.set_cons_succ]
      refine wpAnyH_ready (rs := [7, 11]) (by kernel_rfl) (by simp) ?_
      refine (AllReadyH.cons (o := { dst := some 16, op := Op.call { callee := Callee.value (Operand.func 28), args := #[Operand.tmp 14, Operand.tmp 15], argTypes := #[23, 33] }, type := 34, pos := "reckon.go:107", after := #[{ on := 5, ground := Ground.data }, { on := 6, ground := Ground.data }, { on := 4, ground := Ground.chain }], guard := none }) rfl (fun K hK => ?_) (AllReadyH.cons (o := { dst := some 6, op := Op.alloc 23, type := 0, pos := "reckon.go:107", after := #[], guard := none }) rfl (fun K hK => ?_) AllReadyH.nil))
      ·
        go_simp
        refine (TR.out _).mono ?_
        rintro e V2 ⟨rfl, hv2⟩
        have QV2 := Lib.hid (QV1.out.call hv2)
        refine hK.out _ _ QV2.out (fun _ => ?_)
        clear hK K
        try simp only [Act.put, List.setIfInBounds_toArray, List.set_cons_zero, List.set_cons_succ]
        refine wpAnyH_take (i := 8) (oi := { dst := some 8, op := Op.move (Operand.tmp 16), type := 34, pos := "reckon.go:107", after := #[{ on := 7, ground := Ground.data }], guard := none }) (v := ?_) rfl (by kernel_rfl) (by kernel_rfl) (by kernel_rfl) (fun _ _ _ h => h) (Or.inl ⟨by rfl, ?_⟩) QV2.out ?_
        rotate_left
        · (intro W hw; go_simp; try with_reducible rfl)
        simp only [Act.put, List.setIfInBounds_toArray, List.set_cons_zero, List.set_cons_succ]
        refine wpAnyH_take (i := 9) (oi := { dst := some 17, op := Op.extract (Operand.tmp 8) 0, type := 23, pos := "reckon.go:107", after := #[{ on := 8, ground := Ground.data }], guard := none }) (v := ?_) rfl (by kernel_rfl) (by kernel_rfl) (by kernel_rfl) (fun _ _ _ h => h) (Or.inl ⟨by rfl, ?_⟩) QV2.out ?_
        rotate_left
        · (intro W hw; go_simp; try with_reducible rfl)
        simp only [Act.put, List.setIfInBounds_toArray, List.set_cons_zero, List.set_cons_succ]
        refine wpAnyH_take (i := 10) (oi := { dst := some 18, op := Op.extract (Operand.tmp 8) 1, type := 33, pos := "reckon.go:107", after := #[{ on := 8, ground := Ground.data }, { on := 12, ground := Ground.gcOnly Departure.lateStores }], guard := none }) (v := ?_) rfl (by kernel_rfl) (by kernel_rfl) (by kernel_rfl) (fun _ _ _ h => h) (Or.inl ⟨by rfl, ?_⟩) QV2.out ?_
        rotate_left
        · (intro W hw; go_simp; try with_reducible rfl)
        simp only [Act.put, List.setIfInBounds_toArray, List.set_cons_zero, List.set_cons_succ]
        refine wpAnyH_ready (rs := [11]) (by kernel_rfl) (by simp) ?_
        refine (AllReadyH.cons (o := { dst := some 6, op := Op.alloc 23, type := 0, pos := "reckon.go:107", after := #[], guard := none }) rfl (fun K hK => ?_) AllReadyH.nil)
        go_simp
        have QA := Lib.hid (QV2.out.alloc (.cells #[.int .i64 0, .int .i64 0, .string ⟨#[]⟩] 23))
        refine hK.out _ _ QA.out (fun _ => ?_)
        clear hK K
        try simp only [Act.put, List.setIfInBounds_toArray, List.set_cons_zero, List.set_cons_succ]
        refine wpAnyH_ready (rs := [12]) (by kernel_rfl) (by simp) ?_
        refine (AllReadyH.cons (o := { dst := none, op := Op.store 23 (Operand.tmp 6) (Operand.tmp 17), type := 0, pos := "reckon.go:107", after := #[{ on := 11, ground := Ground.data }, { on := 9, ground := Ground.data }, { on := 7, ground := Ground.chain }, { on := 0, ground := Ground.phase }, { on := 1, ground := Ground.phase }, { on := 2, ground := Ground.phase }, { on := 3, ground := Ground.phase }, { on := 4, ground := Ground.phase }, { on := 5, ground := Ground.phase }, { on := 6, ground := Ground.phase }, { on := 7, ground := Ground.phase }, { on := 8, ground := Ground.phase }, { on := 9, ground := Ground.phase }, { on := 10, ground := Ground.textOnly Departure.lateStores }, { on := 11, ground := Ground.phase }], guard := none }) rfl (fun K hK => ?_) AllReadyH.nil)
        go_simp
        have QS := Lib.hid (QV2.out.alloc (.cells #[.int .i64 qk, .int .i64 qn, .string (tx qs_)] 23))
        have FW := Lib.hid (Row3.new V2 qk qn (tx qs_))
        refine hK.out _ _ QS.out (fun _ => ?_)
        clear hK K
        try simp only [Act.put, List.setIfInBounds_toArray, List.set_cons_zero, List.set_cons_succ]
        refine wpAnyH_take (i := 13) (oi := { dst := some 7, op := Op.assign (Operand.tmp 18), type := 33, pos := "reckon.go:107", after := #[{ on := 10, ground := Ground.data }, { on := 12, ground := Ground.chain }, { on := 0, ground := Ground.phase }, { on := 1, ground := Ground.phase }, { on := 2, ground := Ground.phase }, { on := 3, ground := Ground.phase }, { on := 4, ground := Ground.phase }, { on := 5, ground := Ground.phase }, { on := 6, ground := Ground.phase }, { on := 7, ground := Ground.phase }, { on := 8, ground := Ground.phase }, { on := 9, ground := Ground.phase }, { on := 10, ground := Ground.phase }, { on := 11, ground := Ground.phase }, { on := 12, ground := Ground.phase }], guard := none }) (v := ?_) rfl (by kernel_rfl) (by kernel_rfl) (by kernel_rfl) (fun _ _ _ h => h) (Or.inl ⟨by rfl, ?_⟩) QS.out ?_
        rotate_left
        · (intro W hw; go_simp; try with_reducible rfl)
        simp only [Act.put, List.setIfInBounds_toArray, List.set_cons_zero, List.set_cons_succ]
        refine wpAnyH_done (by kernel_rfl) ?_ _
        go_wp2_with fail
        go_meet
        case rel => exact ⟨_, rfl, rfl, FW, QS⟩
      ·
        go_simp
        have QA := Lib.hid (QV1.out.alloc (.cells #[.int .i64 0, .int .i64 0, .string ⟨#[]⟩] 23))
        refine hK.out _ _ QA.out (fun _ => ?_)
        clear hK K
        try simp only [Act.put, List.setIfInBounds_toArray, List.set_cons_zero, List.set_cons_succ]
        refine wpAnyH_ready (rs := [7]) (by kernel_rfl) (by simp) ?_
        refine (AllReadyH.cons (o := { dst := some 16, op := Op.call { callee := Callee.value (Operand.func 28), args := #[Operand.tmp 14, Operand.tmp 15], argTypes := #[23, 33] }, type := 34, pos := "reckon.go:107", after := #[{ on := 5, ground := Ground.data }, { on := 6, ground := Ground.data }, { on := 4, ground := Ground.chain }], guard := none }) rfl (fun K hK => ?_) AllReadyH.nil)
        go_simp
        refine (TR.out _).mono ?_
        rintro e V2 ⟨rfl, hv2⟩
        have QV2 := Lib.hid (QA.out.call hv2)
        have ZB2 := Row3.below (w' := V2) (g := V1.heap.size) (k := 0) (n := 0) (s := ⟨#[]⟩) (by exact Row3.new V1 0 0 ⟨#[]⟩) hv2 (by simp)
        obtain ⟨z0, z1, z2⟩ := ZB2.holds
        have f0 := ZB2.frozen 0
        have f1 := ZB2.frozen 1
        have f2 := ZB2.frozen 2
        refine hK.out _ _ QV2.out (fun _ => ?_)
        clear hK K
        try simp only [Act.put, List.setIfInBounds_toArray, List.set_cons_zero, List.set_cons_succ]
        refine wpAnyH_take (i := 8) (oi := { dst := some 8, op := Op.move (Operand.tmp 16), type := 34, pos := "reckon.go:107", after := #[{ on := 7, ground := Ground.data }], guard := none }) (v := ?_) rfl (by kernel_rfl) (by kernel_rfl) (by kernel_rfl) (fun _ _ _ h => h) (Or.inl ⟨by rfl, ?_⟩) QV2.out ?_
        rotate_left
        · (intro W hw; go_simp; try with_reducible rfl)
        simp only [Act.put, List.setIfInBounds_toArray, List.set_cons_zero, List.set_cons_succ]
        refine wpAnyH_take (i := 9) (oi := { dst := some 17, op := Op.extract (Operand.tmp 8) 0, type := 23, pos := "reckon.go:107", after := #[{ on := 8, ground := Ground.data }], guard := none }) (v := ?_) rfl (by kernel_rfl) (by kernel_rfl) (by kernel_rfl) (fun _ _ _ h => h) (Or.inl ⟨by rfl, ?_⟩) QV2.out ?_
        rotate_left
        · (intro W hw; go_simp; try with_reducible rfl)
        simp only [Act.put, List.setIfInBounds_toArray, List.set_cons_zero, List.set_cons_succ]
        refine wpAnyH_take (i := 10) (oi := { dst := some 18, op := Op.extract (Operand.tmp 8) 1, type := 33, pos := "reckon.go:107", after := #[{ on := 8, ground := Ground.data }, { on := 12, ground := Ground.gcOnly Departure.lateStores }], guard := none }) (v := ?_) rfl (by kernel_rfl) (by kernel_rfl) (by kernel_rfl) (fun _ _ _ h => h) (Or.inl ⟨by rfl, ?_⟩) QV2.out ?_
        rotate_left
        · (intro W hw; go_simp; try with_reducible rfl)
        simp only [Act.put, List.setIfInBounds_toArray, List.set_cons_zero, List.set_cons_succ]
        refine wpAnyH_ready (rs := [12]) (by kernel_rfl) (by simp) ?_
        refine (AllReadyH.cons (o := { dst := none, op := Op.store 23 (Operand.tmp 6) (Operand.tmp 17), type := 0, pos := "reckon.go:107", after := #[{ on := 11, ground := Ground.data }, { on := 9, ground := Ground.data }, { on := 7, ground := Ground.chain }, { on := 0, ground := Ground.phase }, { on := 1, ground := Ground.phase }, { on := 2, ground := Ground.phase }, { on := 3, ground := Ground.phase }, { on := 4, ground := Ground.phase }, { on := 5, ground := Ground.phase }, { on := 6, ground := Ground.phase }, { on := 7, ground := Ground.phase }, { on := 8, ground := Ground.phase }, { on := 9, ground := Ground.phase }, { on := 10, ground := Ground.textOnly Departure.lateStores }, { on := 11, ground := Ground.phase }], guard := none }) rfl (fun K hK => ?_) AllReadyH.nil)
        go_simp
        have QS := Lib.hid (QV2.out.set3 (g := V1.heap.size) (by exact Nat.succ_le_of_lt QV1.out.2.lt) (.int .i64 qk) (.int .i64 qn) (.string (tx qs_)))
        have FW := Lib.hid (ZB2.set3 qk qn (tx qs_))
        refine hK.out _ _ QS.out (fun _ => ?_)
        clear hK K
        try simp only [Act.put, List.setIfInBounds_toArray, List.set_cons_zero, List.set_cons_succ]
        refine wpAnyH_take (i := 13) (oi := { dst := some 7, op := Op.assign (Operand.tmp 18), type := 33, pos := "reckon.go:107", after := #[{ on := 10, ground := Ground.data }, { on := 12, ground := Ground.chain }, { on := 0, ground := Ground.phase }, { on := 1, ground := Ground.phase }, { on := 2, ground := Ground.phase }, { on := 3, ground := Ground.phase }, { on := 4, ground := Ground.phase }, { on := 5, ground := Ground.phase }, { on := 6, ground := Ground.phase }, { on := 7, ground := Ground.phase }, { on := 8, ground := Ground.phase }, { on := 9, ground := Ground.phase }, { on := 10, ground := Ground.phase }, { on := 11, ground := Ground.phase }, { on := 12, ground := Ground.phase }], guard := none }) (v := ?_) rfl (by kernel_rfl) (by kernel_rfl) (by kernel_rfl) (fun _ _ _ h => h) (Or.inl ⟨by rfl, ?_⟩) QS.out ?_
        rotate_left
        · (intro W hw; go_simp; try with_reducible rfl)
        simp only [Act.put, List.setIfInBounds_toArray, List.set_cons_zero, List.set_cons_succ]
        refine wpAnyH_done (by kernel_rfl) ?_ _
        go_wp2_with fail
        go_meet
        case rel => exact ⟨_, rfl, rfl, FW, QS⟩
    ·
      go_simp
      have QA := Lib.hid (QD.out.alloc (.cells #[.int .i64 0, .int .i64 0, .string ⟨#[]⟩] 23))
      refine hK.out _ _ QA.out (fun _ => ?_)
      clear hK K
      try simp only [Act.put, List.setIfInBounds_toArray, List.set_cons_zero, List.set_cons_succ]
      refine wpAnyH_ready (rs := [4]) (by kernel_rfl) (by simp) ?_
      refine (AllReadyH.cons (o := { dst := some 13, op := Op.call { callee := Callee.value (Operand.func 27), args := #[Operand.tmp 9, Operand.tmp 12], argTypes := #[60, 26] }, type := 34, pos := "reckon.go:107", after := #[{ on := 0, ground := Ground.data }, { on := 3, ground := Ground.data }], guard := none }) rfl (fun K hK => ?_) AllReadyH.nil)
      go_simp
      refine (HK0.out _ QA.out.1.1).mono ?_
      rintro e V1 ⟨rfl, hv1⟩
      have QV1 := Lib.hid (QA.out.call hv1)
      have ZB1 := Row3.below (w' := V1) (g := W1.heap.size) (k := 0) (n := 0) (s := ⟨#[]⟩) (by exact Row3.new W1 0 0 ⟨#[]⟩) hv1 (by simp)
      obtain ⟨z0, z1, z2⟩ := ZB1.holds
      have f0 := ZB1.frozen 0
      have f1 := ZB1.frozen 1
      have f2 := ZB1.frozen 2
      refine hK.out _ _ QV1.out (fun _ => ?_)
      clear hK K
      try simp only [Act.put, List.setIfInBounds_toArray, List.set_cons_zero, List.set_cons_succ]
      refine wpAnyH_take (i := 5) (oi := { dst := some 14, op := Op.extract (Operand.tmp 13) 0, type := 23, pos := "reckon.go:107", after := #[{ on := 4, ground := Ground.data }], guard := none }) (v := ?_) rfl (by kernel_rfl) (by kernel_rfl) (by kernel_rfl) (fun _ _ _ h => h) (Or.inl ⟨by rfl, ?_⟩) QV1.out ?_
      rotate_left
      · (intro W hw; go_simp; try with_reducible rfl)
      simp only [Act.put, List.setIfInBounds_toArray, List.set_cons_zero, List.set_cons_succ]
      refine wpAnyH_take (i := 6) (oi := { dst := some 15, op := Op.extract (Operand.tmp 13) 1, type := 33, pos := "reckon.go:107", after := #[{ on := 4, ground := Ground.data }], guard := none }) (v := ?_) rfl (by kernel_rfl) (by kernel_rfl) (by kernel_rfl) (fun _ _ _ h => h) (Or.inl ⟨by rfl, ?_⟩) QV1.out ?_
      rotate_left
      · (intro W hw; go_simp; try with_reducible rfl)
      simp only [Act.put, List.setIfInBounds_toArray, List.set_cons_zero, List.set_cons_succ]
      refine wpAnyH_ready (rs := [7]) (by kernel_rfl) (by simp) ?_
      refine (AllReadyH.cons (o := { dst := some 16, op := Op.call { callee := Callee.value (Operand.func 28), args := #[Operand.tmp 14, Operand.tmp 15], argTypes := #[23, 33] }, type := 34, pos := "reckon.go:107", after := #[{ on := 5, ground := Ground.data }, { on := 6, ground := Ground.data }, { on := 4, ground := Ground.chain }], guard := none }) rfl (fun K hK => ?_) AllReadyH.nil)
      go_simp
      refine (TR.out _).mono ?_
      rintro e V2 ⟨rfl, hv2⟩
      have QV2 := Lib.hid (QV1.out.call hv2)
      have ZB2 := Row3.below (w' := V2) ZB1 hv2 ZB1.lt
      obtain ⟨z0, z1, z2⟩ := ZB2.holds
      have f0 := ZB2.frozen 0
      have f1 := ZB2.frozen 1
      have f2 := ZB2.frozen 2
      refine hK.out _ _ QV2.out (fun _ => ?_)
      clear hK K
      try simp only [Act.put, List.setIfInBounds_toArray, List.set_cons_zero, List.set_cons_succ]
      refine wpAnyH_take (i := 8) (oi := { dst := some 8, op := Op.move (Operand.tmp 16), type := 34, pos := "reckon.go:107", after := #[{ on := 7, ground := Ground.data }], guard := none }) (v := ?_) rfl (by kernel_rfl) (by kernel_rfl) (by kernel_rfl) (fun _ _ _ h => h) (Or.inl ⟨by rfl, ?_⟩) QV2.out ?_
      rotate_left
      · (intro W hw; go_simp; try with_reducible rfl)
      simp only [Act.put, List.setIfInBounds_toArray, List.set_cons_zero, List.set_cons_succ]
      refine wpAnyH_take (i := 9) (oi := { dst := some 17, op := Op.extract (Operand.tmp 8) 0, type := 23, pos := "reckon.go:107", after := #[{ on := 8, ground := Ground.data }], guard := none }) (v := ?_) rfl (by kernel_rfl) (by kernel_rfl) (by kernel_rfl) (fun _ _ _ h => h) (Or.inl ⟨by rfl, ?_⟩) QV2.out ?_
      rotate_left
      · (intro W hw; go_simp; try with_reducible rfl)
      simp only [Act.put, List.setIfInBounds_toArray, List.set_cons_zero, List.set_cons_succ]
      refine wpAnyH_take (i := 10) (oi := { dst := some 18, op := Op.extract (Operand.tmp 8) 1, type := 33, pos := "reckon.go:107", after := #[{ on := 8, ground := Ground.data }, { on := 12, ground := Ground.gcOnly Departure.lateStores }], guard := none }) (v := ?_) rfl (by kernel_rfl) (by kernel_rfl) (by kernel_rfl) (fun _ _ _ h => h) (Or.inl ⟨by rfl, ?_⟩) QV2.out ?_
      rotate_left
      · (intro W hw; go_simp; try with_reducible rfl)
      simp only [Act.put, List.setIfInBounds_toArray, List.set_cons_zero, List.set_cons_succ]
      refine wpAnyH_ready (rs := [12]) (by kernel_rfl) (by simp) ?_
      refine (AllReadyH.cons (o := { dst := none, op := Op.store 23 (Operand.tmp 6) (Operand.tmp 17), type := 0, pos := "reckon.go:107", after := #[{ on := 11, ground := Ground.data }, { on := 9, ground := Ground.data }, { on := 7, ground := Ground.chain }, { on := 0, ground := Ground.phase }, { on := 1, ground := Ground.phase }, { on := 2, ground := Ground.phase }, { on := 3, ground := Ground.phase }, { on := 4, ground := Ground.phase }, { on := 5, ground := Ground.phase }, { on := 6, ground := Ground.phase }, { on := 7, ground := Ground.phase }, { on := 8, ground := Ground.phase }, { on := 9, ground := Ground.phase }, { on := 10, ground := Ground.textOnly Departure.lateStores }, { on := 11, ground := Ground.phase }], guard := none }) rfl (fun K hK => ?_) AllReadyH.nil)
      go_simp
      have QS := Lib.hid (QV2.out.set3 (g := W1.heap.size) (by exact Nat.succ_le_of_lt QD.out.2.lt) (.int .i64 qk) (.int .i64 qn) (.string (tx qs_)))
      have FW := Lib.hid (ZB2.set3 qk qn (tx qs_))
      refine hK.out _ _ QS.out (fun _ => ?_)
      clear hK K
      try simp only [Act.put, List.setIfInBounds_toArray, List.set_cons_zero, List.set_cons_succ]
      refine wpAnyH_take (i := 13) (oi := { dst := some 7, op := Op.assign (Operand.tmp 18), type := 33, pos := "reckon.go:107", after := #[{ on := 10, ground := Ground.data }, { on := 12, ground := Ground.chain }, { on := 0, ground := Ground.phase }, { on := 1, ground := Ground.phase }, { on := 2, ground := Ground.phase }, { on := 3, ground := Ground.phase }, { on := 4, ground := Ground.phase }, { on := 5, ground := Ground.phase }, { on := 6, ground := Ground.phase }, { on := 7, ground := Ground.phase }, { on := 8, ground := Ground.phase }, { on := 9, ground := Ground.phase }, { on := 10, ground := Ground.phase }, { on := 11, ground := Ground.phase }, { on := 12, ground := Ground.phase }], guard := none }) (v := ?_) rfl (by kernel_rfl) (by kernel_rfl) (by kernel_rfl) (fun _ _ _ h => h) (Or.inl ⟨by rfl, ?_⟩) QS.out ?_
      rotate_left
      · (intro W hw; go_simp; try with_reducible rfl)
      simp only [Act.put, List.setIfInBounds_toArray, List.set_cons_zero, List.set_cons_succ]
      refine wpAnyH_done (by kernel_rfl) ?_ _
      go_wp2_with fail
      go_meet
      case rel => exact ⟨_, rfl, rfl, FW, QS⟩
  case rest =>
    obtain ⟨g, rfl, rfl, HQ, HOR⟩ := hcut
    obtain ⟨W2, rfl⟩ : ∃ W2, W2 = wc := ⟨wc, rfl⟩
    have HOV := Lib.hid HOR.out.1
    have HR0 := Lib.hid HOR.out.2
    have QQ : Hid (∀ U, Below W2.heap.size W2 U → Holds3 U g qk qn (tx qs_)) := Lib.hid (fun U hU => (HQ.out.below hU HQ.out.lt).holds)
    have BT := Lib.hid (fun U (hU : Below W2.heap.size W2 U) => call_over hU (bool_true U))
    clear TR HK0 KK0 HC0
    by_cases h : qe = 0
    · have hx7 : (qe != 0) = false := by simpa using h
      cases hz : decide (qk = 3 ∧ qn = 1)
      · have hs : same qk qn (tx qs_) 3 1 ⟨#[]⟩ = false := by rw [← hz]; exact same_b HP.out 1
        have HR : Hid (Ev.chR ⟨⟨qk, qn, qs_⟩, qe⟩ ⟨⟨yk, yn, ys_⟩, ye⟩ ⟨⟨zk, zn, zs_⟩, ze⟩ = ⟨⟨zk, zn, zs_⟩, ze⟩) := Lib.hid (by rw [Ev.chR, if_pos h, if_neg (of_decide_eq_false hz)])
        obtain ⟨z0, z1, z2⟩ := QQ.out W2 (Below.refl _ _)
        clear h hz
        go_upto_region 4 with fail
        go_region_with (go_at_call 29; refine (BT.out _ (by first | exact below_drewN (Below.refl _ _) _ | exact (Below.refl _ _).drew | exact Below.refl _ _)).mono ?_; rintro e V ⟨rfl, hb4⟩; obtain ⟨z0, z1, z2⟩ := QQ.out V hb4; have R4 := Lib.hid (HR0.out.below hb4 HR0.out.lt); have Q4 := Lib.hid (HOV.out.call hb4))
        all_goals
          clear z0 z1 z2
          have QD : Hid (OvS w V.drew #[.slice Ac cn cc, .slice Ar wn cr]) := Lib.hid Q4.out.drew
          go_upto_region 6 with fail
          refine wp_region_held_drew (S := fun U => OvS w U #[.slice Ac cn cc, .slice Ar wn cr]) (by kernel_rfl) QD.out (fun _ => ?_)
          refine wpAnyH_take (i := 0) (oi := { dst := some 37, op := Op.load 60 (Operand.tmp 2), type := 60, pos := "reckon.go:114", after := #[], guard := none }) (v := ?_) rfl (by kernel_rfl) (by kernel_rfl) (by kernel_rfl) (fun _ _ _ h => h) (Or.inl ⟨by rfl, ?_⟩) QD.out ?_
          rotate_left
          · (intro W hw; obtain ⟨⟨a0, a1⟩, p0, p1, p2, p3, p4, p5⟩ := KK2.out W hw; go_simp; try with_reducible rfl)
          simp only [Act.put, List.setIfInBounds_toArray, List.set_cons_zero, List.set_cons_succ]
          refine wpAnyH_take (i := 1) (oi := { dst := some 38, op := Op.move (Operand.tmp 1), type := 24, pos := "reckon.go:114", after := #[], guard := none }) (v := ?_) rfl (by kernel_rfl) (by kernel_rfl) (by kernel_rfl) (fun _ _ _ h => h) (Or.inl ⟨by rfl, ?_⟩) QD.out ?_
          rotate_left
          · (intro W hw; go_simp; try with_reducible rfl)
          simp only [Act.put, List.setIfInBounds_toArray, List.set_cons_zero, List.set_cons_succ]
          refine wpAnyH_take (i := 2) (oi := { dst := some 39, op := Op.indexAddr 24 (Operand.tmp 38) (Operand.const (Value.int IntKind.i64 2)), type := 0, pos := "reckon.go:114", after := #[{ on := 1, ground := Ground.data }], guard := none }) (v := ?_) rfl (by kernel_rfl) (by kernel_rfl) (by kernel_rfl) (fun _ _ _ h => h) (Or.inl ⟨by rfl, ?_⟩) QD.out ?_
          rotate_left
          · (intro W hw; go_simp; try with_reducible rfl)
          simp only [Act.put, List.setIfInBounds_toArray, List.set_cons_zero, List.set_cons_succ]
          refine wpAnyH_take (i := 3) (oi := { dst := some 40, op := Op.load 26 (Operand.tmp 39), type := 26, pos := "reckon.go:114", after := #[{ on := 2, ground := Ground.data }], guard := none }) (v := ?_) rfl (by kernel_rfl) (by kernel_rfl) (by kernel_rfl) (fun _ _ _ h => h) (Or.inl ⟨by rfl, ?_⟩) QD.out ?_
          rotate_left
          · (intro W hw; obtain ⟨⟨a0, a1⟩, p0, p1, p2, p3, p4, p5⟩ := KK2.out W hw; go_simp; try with_reducible rfl)
          simp only [Act.put, List.setIfInBounds_toArray, List.set_cons_zero, List.set_cons_succ]
          refine wpAnyH_ready (rs := [4]) (by kernel_rfl) (by simp) ?_
          refine (AllReadyH.cons (o := { dst := some 41, op := Op.call { callee := Callee.value (Operand.func 27), args := #[Operand.tmp 37, Operand.tmp 40], argTypes := #[60, 26] }, type := 34, pos := "reckon.go:114", after := #[{ on := 0, ground := Ground.data }, { on := 3, ground := Ground.data }], guard := none }) rfl (fun K hK => ?_) AllReadyH.nil)
          go_simp
          refine (HK2.out _ QD.out.1).mono ?_
          rintro e V1 ⟨rfl, hv1⟩
          have QV1 := Lib.hid (QD.out.call hv1)
          have ZB1 := Row3.below (w' := V1) (g := w.heap.size + 1) (k := 0) (n := 0) (s := ⟨#[]⟩) (by exact R4.out) hv1 (by exact R4.out.lt)
          obtain ⟨z0, z1, z2⟩ := ZB1.holds
          have f0 := ZB1.frozen 0
          have f1 := ZB1.frozen 1
          have f2 := ZB1.frozen 2
          refine hK.out _ _ QV1.out (fun _ => ?_)
          clear hK K
          try simp only [Act.put, List.setIfInBounds_toArray, List.set_cons_zero, List.set_cons_succ]
          refine wpAnyH_take (i := 5) (oi := { dst := some 42, op := Op.extract (Operand.tmp 41) 0, type := 23, pos := "reckon.go:114", after := #[{ on := 4, ground := Ground.data }], guard := none }) (v := ?_) rfl (by kernel_rfl) (by kernel_rfl) (by kernel_rfl) (fun _ _ _ h => h) (Or.inl ⟨by rfl, ?_⟩) QV1.out ?_
          rotate_left
          · (intro W hw; go_simp; try with_reducible rfl)
          simp only [Act.put, List.setIfInBounds_toArray, List.set_cons_zero, List.set_cons_succ]
          refine wpAnyH_take (i := 6) (oi := { dst := some 43, op := Op.extract (Operand.tmp 41) 1, type := 33, pos := "reckon.go:114", after := #[{ on := 4, ground := Ground.data }], guard := none }) (v := ?_) rfl (by kernel_rfl) (by kernel_rfl) (by kernel_rfl) (fun _ _ _ h => h) (Or.inl ⟨by rfl, ?_⟩) QV1.out ?_
          rotate_left
          · (intro W hw; go_simp; try with_reducible rfl)
          simp only [Act.put, List.setIfInBounds_toArray, List.set_cons_zero, List.set_cons_succ]
          refine wpAnyH_ready (rs := [7]) (by kernel_rfl) (by simp) ?_
          refine (AllReadyH.cons (o := { dst := none, op := Op.store 23 (Operand.tmp 4) (Operand.tmp 42), type := 0, pos := "reckon.go:114", after := #[{ on := 5, ground := Ground.data }, { on := 4, ground := Ground.chain }, { on := 0, ground := Ground.phase }, { on := 1, ground := Ground.phase }, { on := 2, ground := Ground.phase }, { on := 3, ground := Ground.phase }, { on := 4, ground := Ground.phase }, { on := 5, ground := Ground.phase }, { on := 6, ground := Ground.phase }], guard := none }) rfl (fun K hK => ?_) AllReadyH.nil)
          go_simp
          have QS := Lib.hid (QV1.out.set3 (g := w.heap.size + 1) (by first | omega | exact Nat.le_refl _) (.int .i64 zk) (.int .i64 zn) (.string (tx zs_)))
          have FW := Lib.hid (ZB1.set3 zk zn (tx zs_))
          refine hK.out _ _ QS.out (fun _ => ?_)
          clear hK K
          try simp only [Act.put, List.setIfInBounds_toArray, List.set_cons_zero, List.set_cons_succ]
          refine wpAnyH_take (i := 8) (oi := { dst := some 5, op := Op.assign (Operand.tmp 43), type := 33, pos := "reckon.go:114", after := #[{ on := 6, ground := Ground.data }, { on := 7, ground := Ground.chain }, { on := 0, ground := Ground.phase }, { on := 1, ground := Ground.phase }, { on := 2, ground := Ground.phase }, { on := 3, ground := Ground.phase }, { on := 4, ground := Ground.phase }, { on := 5, ground := Ground.phase }, { on := 6, ground := Ground.phase }, { on := 7, ground := Ground.phase }], guard := none }) (v := ?_) rfl (by kernel_rfl) (by kernel_rfl) (by kernel_rfl) (fun _ _ _ h => h) (Or.inl ⟨by rfl, ?_⟩) QS.out ?_
          rotate_left
          · (intro W hw; go_simp; try with_reducible rfl)
          simp only [Act.put, List.setIfInBounds_toArray, List.set_cons_zero, List.set_cons_succ]
          refine wpAnyH_done (by kernel_rfl) ?_ _
          go_wp2_with fail
          exact fin_R2 Tryz.results57 rfl rfl rfl FW.out QS.out.1 (by rw [HR.out])
      · have hs : same qk qn (tx qs_) 3 1 ⟨#[]⟩ = true := by rw [← hz]; exact same_b HP.out 1
        have HR : Hid (Ev.chR ⟨⟨qk, qn, qs_⟩, qe⟩ ⟨⟨yk, yn, ys_⟩, ye⟩ ⟨⟨zk, zn, zs_⟩, ze⟩ = ⟨⟨yk, yn, ys_⟩, ye⟩) := Lib.hid (by rw [Ev.chR, if_pos h, if_pos (of_decide_eq_true hz)])
        obtain ⟨z0, z1, z2⟩ := QQ.out W2 (Below.refl _ _)
        clear h hz
        go_upto_region 4 with fail
        go_region_with (go_at_call 29; refine (BT.out _ (by first | exact below_drewN (Below.refl _ _) _ | exact (Below.refl _ _).drew | exact Below.refl _ _)).mono ?_; rintro e V ⟨rfl, hb4⟩; obtain ⟨z0, z1, z2⟩ := QQ.out V hb4; have R4 := Lib.hid (HR0.out.below hb4 HR0.out.lt); have Q4 := Lib.hid (HOV.out.call hb4))
        all_goals
          clear z0 z1 z2
          have QD : Hid (OvS w V.drew #[.slice Ac cn cc, .slice Ar wn cr]) := Lib.hid Q4.out.drew
          go_upto_region 5 with fail
          refine wp_region_held_drew (S := fun U => OvS w U #[.slice Ac cn cc, .slice Ar wn cr]) (by kernel_rfl) QD.out (fun _ => ?_)
          refine wpAnyH_take (i := 0) (oi := { dst := some 30, op := Op.load 60 (Operand.tmp 2), type := 60, pos := "reckon.go:112", after := #[], guard := none }) (v := ?_) rfl (by kernel_rfl) (by kernel_rfl) (by kernel_rfl) (fun _ _ _ h => h) (Or.inl ⟨by rfl, ?_⟩) QD.out ?_
          rotate_left
          · (intro W hw; obtain ⟨⟨a0, a1⟩, p0, p1, p2, p3, p4, p5⟩ := KK1.out W hw; go_simp; try with_reducible rfl)
          simp only [Act.put, List.setIfInBounds_toArray, List.set_cons_zero, List.set_cons_succ]
          refine wpAnyH_take (i := 1) (oi := { dst := some 31, op := Op.move (Operand.tmp 1), type := 24, pos := "reckon.go:112", after := #[], guard := none }) (v := ?_) rfl (by kernel_rfl) (by kernel_rfl) (by kernel_rfl) (fun _ _ _ h => h) (Or.inl ⟨by rfl, ?_⟩) QD.out ?_
          rotate_left
          · (intro W hw; go_simp; try with_reducible rfl)
          simp only [Act.put, List.setIfInBounds_toArray, List.set_cons_zero, List.set_cons_succ]
          refine wpAnyH_take (i := 2) (oi := { dst := some 32, op := Op.indexAddr 24 (Operand.tmp 31) (Operand.const (Value.int IntKind.i64 1)), type := 0, pos := "reckon.go:112", after := #[{ on := 1, ground := Ground.data }], guard := none }) (v := ?_) rfl (by kernel_rfl) (by kernel_rfl) (by kernel_rfl) (fun _ _ _ h => h) (Or.inl ⟨by rfl, ?_⟩) QD.out ?_
          rotate_left
          · (intro W hw; go_simp; try with_reducible rfl)
          simp only [Act.put, List.setIfInBounds_toArray, List.set_cons_zero, List.set_cons_succ]
          refine wpAnyH_take (i := 3) (oi := { dst := some 33, op := Op.load 26 (Operand.tmp 32), type := 26, pos := "reckon.go:112", after := #[{ on := 2, ground := Ground.data }], guard := none }) (v := ?_) rfl (by kernel_rfl) (by kernel_rfl) (by kernel_rfl) (fun _ _ _ h => h) (Or.inl ⟨by rfl, ?_⟩) QD.out ?_
          rotate_left
          · (intro W hw; obtain ⟨⟨a0, a1⟩, p0, p1, p2, p3, p4, p5⟩ := KK1.out W hw; go_simp; try with_reducible rfl)
          simp only [Act.put, List.setIfInBounds_toArray, List.set_cons_zero, List.set_cons_succ]
          refine wpAnyH_ready (rs := [4]) (by kernel_rfl) (by simp) ?_
          refine (AllReadyH.cons (o := { dst := some 34, op := Op.call { callee := Callee.value (Operand.func 27), args := #[Operand.tmp 30, Operand.tmp 33], argTypes := #[60, 26] }, type := 34, pos := "reckon.go:112", after := #[{ on := 0, ground := Ground.data }, { on := 3, ground := Ground.data }], guard := none }) rfl (fun K hK => ?_) AllReadyH.nil)
          go_simp
          refine (HK1.out _ QD.out.1).mono ?_
          rintro e V1 ⟨rfl, hv1⟩
          have QV1 := Lib.hid (QD.out.call hv1)
          have ZB1 := Row3.below (w' := V1) (g := w.heap.size + 1) (k := 0) (n := 0) (s := ⟨#[]⟩) (by exact R4.out) hv1 (by exact R4.out.lt)
          obtain ⟨z0, z1, z2⟩ := ZB1.holds
          have f0 := ZB1.frozen 0
          have f1 := ZB1.frozen 1
          have f2 := ZB1.frozen 2
          refine hK.out _ _ QV1.out (fun _ => ?_)
          clear hK K
          try simp only [Act.put, List.setIfInBounds_toArray, List.set_cons_zero, List.set_cons_succ]
          refine wpAnyH_take (i := 5) (oi := { dst := some 35, op := Op.extract (Operand.tmp 34) 0, type := 23, pos := "reckon.go:112", after := #[{ on := 4, ground := Ground.data }], guard := none }) (v := ?_) rfl (by kernel_rfl) (by kernel_rfl) (by kernel_rfl) (fun _ _ _ h => h) (Or.inl ⟨by rfl, ?_⟩) QV1.out ?_
          rotate_left
          · (intro W hw; go_simp; try with_reducible rfl)
          simp only [Act.put, List.setIfInBounds_toArray, List.set_cons_zero, List.set_cons_succ]
          refine wpAnyH_take (i := 6) (oi := { dst := some 36, op := Op.extract (Operand.tmp 34) 1, type := 33, pos := "reckon.go:112", after := #[{ on := 4, ground := Ground.data }], guard := none }) (v := ?_) rfl (by kernel_rfl) (by kernel_rfl) (by kernel_rfl) (fun _ _ _ h => h) (Or.inl ⟨by rfl, ?_⟩) QV1.out ?_
          rotate_left
          · (intro W hw; go_simp; try with_reducible rfl)
          simp only [Act.put, List.setIfInBounds_toArray, List.set_cons_zero, List.set_cons_succ]
          refine wpAnyH_ready (rs := [7]) (by kernel_rfl) (by simp) ?_
          refine (AllReadyH.cons (o := { dst := none, op := Op.store 23 (Operand.tmp 4) (Operand.tmp 35), type := 0, pos := "reckon.go:112", after := #[{ on := 5, ground := Ground.data }, { on := 4, ground := Ground.chain }, { on := 0, ground := Ground.phase }, { on := 1, ground := Ground.phase }, { on := 2, ground := Ground.phase }, { on := 3, ground := Ground.phase }, { on := 4, ground := Ground.phase }, { on := 5, ground := Ground.phase }, { on := 6, ground := Ground.phase }], guard := none }) rfl (fun K hK => ?_) AllReadyH.nil)
          go_simp
          have QS := Lib.hid (QV1.out.set3 (g := w.heap.size + 1) (by first | omega | exact Nat.le_refl _) (.int .i64 yk) (.int .i64 yn) (.string (tx ys_)))
          have FW := Lib.hid (ZB1.set3 yk yn (tx ys_))
          refine hK.out _ _ QS.out (fun _ => ?_)
          clear hK K
          try simp only [Act.put, List.setIfInBounds_toArray, List.set_cons_zero, List.set_cons_succ]
          refine wpAnyH_take (i := 8) (oi := { dst := some 5, op := Op.assign (Operand.tmp 36), type := 33, pos := "reckon.go:112", after := #[{ on := 6, ground := Ground.data }, { on := 7, ground := Ground.chain }, { on := 0, ground := Ground.phase }, { on := 1, ground := Ground.phase }, { on := 2, ground := Ground.phase }, { on := 3, ground := Ground.phase }, { on := 4, ground := Ground.phase }, { on := 5, ground := Ground.phase }, { on := 6, ground := Ground.phase }, { on := 7, ground := Ground.phase }], guard := none }) (v := ?_) rfl (by kernel_rfl) (by kernel_rfl) (by kernel_rfl) (fun _ _ _ h => h) (Or.inl ⟨by rfl, ?_⟩) QS.out ?_
          rotate_left
          · (intro W hw; go_simp; try with_reducible rfl)
          simp only [Act.put, List.setIfInBounds_toArray, List.set_cons_zero, List.set_cons_succ]
          refine wpAnyH_done (by kernel_rfl) ?_ _
          go_wp2_with fail
          exact fin_R2 Tryz.results57 rfl rfl rfl FW.out QS.out.1 (by rw [HR.out])
    · have hx7 : (qe != 0) = true := by simpa using h
      have HR : Hid (Ev.chR ⟨⟨qk, qn, qs_⟩, qe⟩ ⟨⟨yk, yn, ys_⟩, ye⟩ ⟨⟨zk, zn, zs_⟩, ze⟩ = Ev.err qe) := Lib.hid (by rw [Ev.chR, if_neg h])
      clear h
      go_wp2_with fail
      refine (efail_any _ _).mono ?_
      rintro e w4 ⟨rfl, hb4⟩
      have R4 := Lib.hid (HR0.out.below hb4 HR0.out.lt)
      have B4 := Lib.hid (bstep HOV.out.1 hb4)
      clear hb4
      obtain ⟨d1, d2, d3⟩ := R4.out.holds
      have f0 := R4.out.frozen 0
      have f1 := R4.out.frozen 1
      have f2 := R4.out.frozen 2
      unfold outR vv vcells Ev.err Ev.z
      go_wp2_with fail
      exact fin_R Tryz.results57 rfl rfl rfl R4.out B4.out (by omega) (by rw [HR.out]; rfl)
end Go.Proofs.YteghhmomhlnccaaGreatDoor

/- eval: firstKnown (gen_kj.py). -/
namespace Go.Proofs.YteghhmomhlnccaaGreatDoor
open Go.RowKit Go.Lib
set_option linter.unusedVariables false
set_option linter.unusedSimpArgs false
set_option maxRecDepth 100000
attribute [local go_sem ↓] eqVal neqVal
open Ex (Tree)
open Ev (V R Pl)
variable {C : List Col} {Ac : Option Addr} {cc : Nat} {W : List V} {Ar : Option Addr} {cr : Nat} {w0 : World}
def Ev.knR (a b : R) : R := if a.e = 0 then (if a.v.k = 0 then b else Ev.ok a.v) else Ev.err a.e
set_option maxHeartbeats 2000000 in
theorem firstKnown_of {X Y : Tree} (hX : CT C Ac cc W Ar cr w0 X) (hY : CT C Ac cc W Ar cr w0 Y) (hp : Pl (Ev.ev C W X).v) (A : Option Addr) (c : Nat) (w : World) (hb : Below w0.heap.size w0 w) (hk : TreesAt w A 0 [X, Y]) :
    Calls Tryz.prog 56 #[ovV C Ac cc W Ar cr, .slice A 2 c] w fun e w' => e = .returned (outR (Ev.knR (Ev.ev C W X) (Ev.ev C W Y))) ∧ Below w.heap.size w w' := by
  have b0 := (Below.refl w.heap.size w).alloc (Nat.le_refl _) (.cells #[.slice Ac C.length cc, .slice Ar W.length cr] 60)
  have b1 := b0.alloc (by simp) (.cells #[.int .i64 0, .int .i64 0, .string ⟨#[]⟩] 23)
  have k0 := (Whole.new w 60 #[.slice Ac C.length cc, .slice Ar W.length cr]).alloc (.cells #[.int .i64 0, .int .i64 0, .string ⟨#[]⟩] 23)
  have r0 := Row3.new (w.alloc (.cells #[.slice Ac C.length cc, .slice Ar W.length cr] 60)) 0 0 ⟨#[]⟩
  rw [World.size_alloc] at r0
  obtain ⟨W1, hW1⟩ : ∃ W1, (w.alloc (.cells #[.slice Ac C.length cc, .slice Ar W.length cr] 60)).alloc (.cells #[.int .i64 0, .int .i64 0, .string ⟨#[]⟩] 23) = W1 := ⟨_, rfl⟩
  rw [hW1] at b1 k0 r0
  obtain ⟨kb, ko, o0, t0, k0, n0, s0, m0, B0, c0, rfl, -, hc0, -, C0⟩ := kid_call (i := 0) (by simp) hX hb hk
  obtain ⟨kb1, ko1, o1, t1, k1, n1, s1, m1, B1, c1, e1, -, hc1, -, C1⟩ := kid_call (i := 1) (by simp) hY hb hk
  cases e1
  simp only [List.getElem_cons_zero, List.getElem_cons_succ] at C0 C1
  have HE := Lib.hid (@Ev.ev_err C W X)
  have HP := Lib.hid hp
  obtain ⟨x, hx'⟩ : ∃ r, Ev.ev C W X = r := ⟨_, rfl⟩
  obtain ⟨y, hy'⟩ : ∃ r, Ev.ev C W Y = r := ⟨_, rfl⟩
  rw [hx'] at C0 HP HE ⊢
  rw [hy'] at C1 ⊢
  clear hx' hy' hX hY hp hb hk b0
  unfold ovV ncells at *
  generalize C.length = cn at *
  generalize W.length = wn at *
  have KB := Lib.hid b1
  have R0 := Lib.hid r0
  have Q1 : Hid (OvR w W1 #[.slice Ac cn cc, .slice Ar wn cr]) := Lib.hid ⟨⟨b1, k0⟩, r0⟩
  have HSZ : Hid (w.heap.size + 2 ≤ W1.heap.size) := Lib.hid (by have := r0.lt; omega)
  have HC0 := Lib.hid hc0
  have HK0 := Lib.hid C0
  have HC1 := Lib.hid hc1
  have HK1 := Lib.hid C1
  obtain ⟨⟨xk, xn, xs_⟩, xe⟩ := x
  obtain ⟨⟨yk, yn, ys_⟩, ye⟩ := y
  unfold outR vv vcells at *
  dsimp only at *
  clear b1 r0 k0 hc0 hc1 C0 C1
  have KK0 : Hid (∀ U, OvS w U #[.slice Ac cn cc, .slice Ar wn cr] → (U.cell? ⟨w.heap.size, 0, none⟩ = some (.slice Ac cn cc) ∧ U.cell? ⟨w.heap.size, 1, none⟩ = some (.slice Ar wn cr)) ∧ U.cell? ⟨kb, ko, none⟩ = some (.int .i64 o0) ∧ U.cell? ⟨kb, ko + 1, none⟩ = some (.string (tx t0)) ∧ U.cell? ⟨kb, ko + 2, none⟩ = some (.int .i64 k0) ∧ U.cell? ⟨kb, ko + 3, none⟩ = some (.int .i64 n0) ∧ U.cell? ⟨kb, ko + 4, none⟩ = some (.string (tx s0)) ∧ U.cell? ⟨kb, ko + 5, none⟩ = some (.slice B0 m0 c0)) := Lib.hid (fun U hU => by
    have h := HC0.out U hU.1
    simp only [Nat.zero_mul, Nat.one_mul, Nat.add_zero, show 2 * 6 = 12 from rfl] at h
    exact ⟨hU.cells, h⟩)
  have KK1 : Hid (∀ U, OvS w U #[.slice Ac cn cc, .slice Ar wn cr] → (U.cell? ⟨w.heap.size, 0, none⟩ = some (.slice Ac cn cc) ∧ U.cell? ⟨w.heap.size, 1, none⟩ = some (.slice Ar wn cr)) ∧ U.cell? ⟨kb, ko + 6, none⟩ = some (.int .i64 o1) ∧ U.cell? ⟨kb, ko + 6 + 1, none⟩ = some (.string (tx t1)) ∧ U.cell? ⟨kb, ko + 6 + 2, none⟩ = some (.int .i64 k1) ∧ U.cell? ⟨kb, ko + 6 + 3, none⟩ = some (.int .i64 n1) ∧ U.cell? ⟨kb, ko + 6 + 4, none⟩ = some (.string (tx s1)) ∧ U.cell? ⟨kb, ko + 6 + 5, none⟩ = some (.slice B1 m1 c1)) := Lib.hid (fun U hU => by
    have h := HC1.out U hU.1
    simp only [Nat.zero_mul, Nat.one_mul, Nat.add_zero, show 2 * 6 = 12 from rfl] at h
    exact ⟨hU.cells, h⟩)
  go_enter Tryz.func56, Tryz.ntmps56
  go_upto_region 1 with fail
  go_cut [6, 7] from 9 to 15 (fun s6 s7 wc => ∃ g, s6 = .pointer (some ⟨g, 0, none⟩) ∧ s7 = .int .i64 xe ∧ Hid (Row3 wc g xk xn (tx xs_)) ∧ Hid (OvR w wc #[.slice Ac cn cc, .slice Ar wn cr]))
  case first =>
    have QD : Hid (OvR w W1.drew #[.slice Ac cn cc, .slice Ar wn cr]) := Lib.hid Q1.out.drew
    refine wp_region_held_drew (S := fun U => OvR w U #[.slice Ac cn cc, .slice Ar wn cr]) (by kernel_rfl) QD.out (fun _ => ?_)
    refine wpAnyH_take (i := 0) (oi := { dst := some 9, op := Op.load 60 (Operand.tmp 2), type := 60, pos := "reckon.go:99", after := #[], guard := none }) (v := ?_) rfl (by kernel_rfl) (by kernel_rfl) (by kernel_rfl) (fun _ _ _ h => h) (Or.inl ⟨by rfl, ?_⟩) QD.out ?_
    rotate_left
    · (intro W hw; obtain ⟨⟨a0, a1⟩, p0, p1, p2, p3, p4, p5⟩ := KK0.out W hw.1; go_simp; try with_reducible rfl)
    simp only [Act.put, List.setIfInBounds_toArray, List.set_cons_zero, List.set_cons_succ]
    refine wpAnyH_take (i := 1) (oi := { dst := some 10, op := Op.move (Operand.tmp 1), type := 24, pos := "reckon.go:99", after := #[], guard := none }) (v := ?_) rfl (by kernel_rfl) (by kernel_rfl) (by kernel_rfl) (fun _ _ _ h => h) (Or.inl ⟨by rfl, ?_⟩) QD.out ?_
    rotate_left
    · (intro W hw; go_simp; try with_reducible rfl)
    simp only [Act.put, List.setIfInBounds_toArray, List.set_cons_zero, List.set_cons_succ]
    refine wpAnyH_take (i := 2) (oi := { dst := some 11, op := Op.indexAddr 24 (Operand.tmp 10) (Operand.const (Value.int IntKind.i64 0)), type := 0, pos := "reckon.go:99", after := #[{ on := 1, ground := Ground.data }], guard := none }) (v := ?_) rfl (by kernel_rfl) (by kernel_rfl) (by kernel_rfl) (fun _ _ _ h => h) (Or.inl ⟨by rfl, ?_⟩) QD.out ?_
    rotate_left
    · (intro W hw; go_simp; try with_reducible rfl)
    simp only [Act.put, List.setIfInBounds_toArray, List.set_cons_zero, List.set_cons_succ]
    refine wpAnyH_take (i := 3) (oi := { dst := some 12, op := Op.load 26 (Operand.tmp 11), type := 26, pos := "reckon.go:99", after := #[{ on := 2, ground := Ground.data }], guard := none }) (v := ?_) rfl (by kernel_rfl) (by kernel_rfl) (by kernel_rfl) (fun _ _ _ h => h) (Or.inl ⟨by rfl, ?_⟩) QD.out ?_
    rotate_left
    · (intro W hw; obtain ⟨⟨a0, a1⟩, p0, p1, p2, p3, p4, p5⟩ := KK0.out W hw.1; go_simp; try with_reducible rfl)
    simp only [Act.put, List.setIfInBounds_toArray, List.set_cons_zero, List.set_cons_succ]
    refine wpAnyH_ready (rs := [4, 8]) (by kernel_rfl) (by simp) ?_
    refine (AllReadyH.cons (o := { dst := some 13, op := Op.call { callee := Callee.value (Operand.func 27), args := #[Operand.tmp 9, Operand.tmp 12], argTypes := #[60, 26] }, type := 34, pos := "reckon.go:99", after := #[{ on := 0, ground := Ground.data }, { on := 3, ground := Ground.data }], guard := none }) rfl (fun K hK => ?_) (AllReadyH.cons (o := { dst := some 6, op := Op.alloc 23, type := 0, pos := "reckon.go:99", after := #[], guard := none }) rfl (fun K hK => ?_) AllReadyH.nil))
    ·
      go_simp
      refine (HK0.out _ QD.out.1.1).mono ?_
      rintro e V1 ⟨rfl, hv1⟩
      have QV1 := Lib.hid (QD.out.call hv1)
      refine hK.out _ _ QV1.out (fun _ => ?_)
      clear hK K
      try simp only [Act.put, List.setIfInBounds_toArray, List.set_cons_zero, List.set_cons_succ]
      refine wpAnyH_take (i := 5) (oi := { dst := some 8, op := Op.move (Operand.tmp 13), type := 34, pos := "reckon.go:99", after := #[{ on := 4, ground := Ground.data }], guard := none }) (v := ?_) rfl (by kernel_rfl) (by kernel_rfl) (by kernel_rfl) (fun _ _ _ h => h) (Or.inl ⟨by rfl, ?_⟩) QV1.out ?_
      rotate_left
      · (intro W hw; go_simp; try with_reducible rfl)
      simp only [Act.put, List.setIfInBounds_toArray, List.set_cons_zero, List.set_cons_succ]
      refine wpAnyH_take (i := 6) (oi := { dst := some 14, op := Op.extract (Operand.tmp 8) 0, type := 23, pos := "reckon.go:99", after := #[{ on := 5, ground := Ground.data }], guard := none }) (v := ?_) rfl (by kernel_rfl) (by kernel_rfl) (by kernel_rfl) (fun _ _ _ h => h) (Or.inl ⟨by rfl, ?_⟩) QV1.out ?_
      rotate_left
      · (intro W hw; go_simp; try with_reducible rfl)
      simp only [Act.put, List.setIfInBounds_toArray, List.set_cons_zero, List.set_cons_succ]
      refine wpAnyH_take (i := 7) (oi := { dst := some 15, op := Op.extract (Operand.tmp 8) 1, type := 33, pos := "reckon.go:99", after := #[{ on := 5, ground := Ground.data }, { on := 9, ground := Ground.gcOnly Departure.lateStores }], guard := none }) (v := ?_) rfl (by kernel_rfl) (by kernel_rfl) (by kernel_rfl) (fun _ _ _ h => h) (Or.inl ⟨by rfl, ?_⟩) QV1.out ?_
      rotate_left
      · (intro W hw; go_simp; try with_reducible rfl)
      simp only [Act.put, List.setIfInBounds_toArray, List.set_cons_zero, List.set_cons_succ]
      refine wpAnyH_ready (rs := [8]) (by kernel_rfl) (by simp) ?_
      refine (AllReadyH.cons (o := { dst := some 6, op := Op.alloc 23, type := 0, pos := "reckon.go:99", after := #[], guard := none }) rfl (fun K hK => ?_) AllReadyH.nil)
      go_simp
      have QA := Lib.hid (QV1.out.alloc (.cells #[.int .i64 0, .int .i64 0, .string ⟨#[]⟩] 23))
      refine hK.out _ _ QA.out (fun _ => ?_)
      clear hK K
      try simp only [Act.put, List.setIfInBounds_toArray, List.set_cons_zero, List.set_cons_succ]
      refine wpAnyH_ready (rs := [9]) (by kernel_rfl) (by simp) ?_
      refine (AllReadyH.cons (o := { dst := none, op := Op.store 23 (Operand.tmp 6) (Operand.tmp 14), type := 0, pos := "reckon.go:99", after := #[{ on := 8, ground := Ground.data }, { on := 6, ground := Ground.data }, { on := 4, ground := Ground.chain }, { on := 0, ground := Ground.phase }, { on := 1, ground := Ground.phase }, { on := 2, ground := Ground.phase }, { on := 3, ground := Ground.phase }, { on := 4, ground := Ground.phase }, { on := 5, ground := Ground.phase }, { on := 6, ground := Ground.phase }, { on := 7, ground := Ground.textOnly Departure.lateStores }, { on := 8, ground := Ground.phase }], guard := none }) rfl (fun K hK => ?_) AllReadyH.nil)
      go_simp
      have QS := Lib.hid (QV1.out.alloc (.cells #[.int .i64 xk, .int .i64 xn, .string (tx xs_)] 23))
      have FW := Lib.hid (Row3.new V1 xk xn (tx xs_))
      refine hK.out _ _ QS.out (fun _ => ?_)
      clear hK K
      try simp only [Act.put, List.setIfInBounds_toArray, List.set_cons_zero, List.set_cons_succ]
      refine wpAnyH_take (i := 10) (oi := { dst := some 7, op := Op.assign (Operand.tmp 15), type := 33, pos := "reckon.go:99", after := #[{ on := 7, ground := Ground.data }, { on := 9, ground := Ground.chain }, { on := 0, ground := Ground.phase }, { on := 1, ground := Ground.phase }, { on := 2, ground := Ground.phase }, { on := 3, ground := Ground.phase }, { on := 4, ground := Ground.phase }, { on := 5, ground := Ground.phase }, { on := 6, ground := Ground.phase }, { on := 7, ground := Ground.phase }, { on := 8, ground := Ground.phase }, { on := 9, ground := Ground.phase }], guard := none }) (v := ?_) rfl (by kernel_rfl) (by kernel_rfl) (by kernel_rfl) (fun _ _ _ h => h) (Or.inl ⟨by rfl, ?_⟩) QS.out ?_
      rotate_left
      · (intro W hw; go_simp; try with_reducible rfl)
      simp only [Act.put, List.setIfInBounds_toArray, List.set_cons_zero, List.set_cons_succ]
      refine wpAnyH_done (by kernel_rfl) ?_ _
      go_wp2_with fail
      go_meet
      case rel => exact ⟨_, rfl, rfl, FW, QS⟩
    ·
      go_simp
      have QA := Lib.hid (QD.out.alloc (.cells #[.int .i64 0, .int .i64 0, .string ⟨#[]⟩] 23))
      refine hK.out _ _ QA.out (fun _ => ?_)
      clear hK K
      try simp only [Act.put, List.setIfInBounds_toArray, List.set_cons_zero, List.set_cons_succ]
      refine wpAnyH_ready (rs := [4]) (by kernel_rfl) (by simp) ?_
      refine (AllReadyH.cons (o := { dst := some 13, op := Op.call { callee := Callee.value (Operand.func 27), args := #[Operand.tmp 9, Operand.tmp 12], argTypes := #[60, 26] }, type := 34, pos := "reckon.go:99", after := #[{ on := 0, ground := Ground.data }, { on := 3, ground := Ground.data }], guard := none }) rfl (fun K hK => ?_) AllReadyH.nil)
      go_simp
      refine (HK0.out _ QA.out.1.1).mono ?_
      rintro e V1 ⟨rfl, hv1⟩
      have QV1 := Lib.hid (QA.out.call hv1)
      have ZB1 := Row3.below (w' := V1) (g := W1.heap.size) (k := 0) (n := 0) (s := ⟨#[]⟩) (by exact Row3.new W1 0 0 ⟨#[]⟩) hv1 (by simp)
      obtain ⟨z0, z1, z2⟩ := ZB1.holds
      have f0 := ZB1.frozen 0
      have f1 := ZB1.frozen 1
      have f2 := ZB1.frozen 2
      refine hK.out _ _ QV1.out (fun _ => ?_)
      clear hK K
      try simp only [Act.put, List.setIfInBounds_toArray, List.set_cons_zero, List.set_cons_succ]
      refine wpAnyH_take (i := 5) (oi := { dst := some 8, op := Op.move (Operand.tmp 13), type := 34, pos := "reckon.go:99", after := #[{ on := 4, ground := Ground.data }], guard := none }) (v := ?_) rfl (by kernel_rfl) (by kernel_rfl) (by kernel_rfl) (fun _ _ _ h => h) (Or.inl ⟨by rfl, ?_⟩) QV1.out ?_
      rotate_left
      · (intro W hw; go_simp; try with_reducible rfl)
      simp only [Act.put, List.setIfInBounds_toArray, List.set_cons_zero, List.set_cons_succ]
      refine wpAnyH_take (i := 6) (oi := { dst := some 14, op := Op.extract (Operand.tmp 8) 0, type := 23, pos := "reckon.go:99", after := #[{ on := 5, ground := Ground.data }], guard := none }) (v := ?_) rfl (by kernel_rfl) (by kernel_rfl) (by kernel_rfl) (fun _ _ _ h => h) (Or.inl ⟨by rfl, ?_⟩) QV1.out ?_
      rotate_left
      · (intro W hw; go_simp; try with_reducible rfl)
      simp only [Act.put, List.setIfInBounds_toArray, List.set_cons_zero, List.set_cons_succ]
      refine wpAnyH_take (i := 7) (oi := { dst := some 15, op := Op.extract (Operand.tmp 8) 1, type := 33, pos := "reckon.go:99", after := #[{ on := 5, ground := Ground.data }, { on := 9, ground := Ground.gcOnly Departure.lateStores }], guard := none }) (v := ?_) rfl (by kernel_rfl) (by kernel_rfl) (by kernel_rfl) (fun _ _ _ h => h) (Or.inl ⟨by rfl, ?_⟩) QV1.out ?_
      rotate_left
      · (intro W hw; go_simp; try with_reducible rfl)
      simp only [Act.put, List.setIfInBounds_toArray, List.set_cons_zero, List.set_cons_succ]
      refine wpAnyH_ready (rs := [9]) (by kernel_rfl) (by simp) ?_
      refine (AllReadyH.cons (o := { dst := none, op := Op.store 23 (Operand.tmp 6) (Operand.tmp 14), type := 0, pos := "reckon.go:99", after := #[{ on := 8, ground := Ground.data }, { on := 6, ground := Ground.data }, { on := 4, ground := Ground.chain }, { on := 0, ground := Ground.phase }, { on := 1, ground := Ground.phase }, { on := 2, ground := Ground.phase }, { on := 3, ground := Ground.phase }, { on := 4, ground := Ground.phase }, { on := 5, ground := Ground.phase }, { on := 6, ground := Ground.phase }, { on := 7, ground := Ground.textOnly Departure.lateStores }, { on := 8, ground := Ground.phase }], guard := none }) rfl (fun K hK => ?_) AllReadyH.nil)
      go_simp
      have QS := Lib.hid (QV1.out.set3 (g := W1.heap.size) (by exact Nat.succ_le_of_lt QD.out.2.lt) (.int .i64 xk) (.int .i64 xn) (.string (tx xs_)))
      have FW := Lib.hid (ZB1.set3 xk xn (tx xs_))
      refine hK.out _ _ QS.out (fun _ => ?_)
      clear hK K
      try simp only [Act.put, List.setIfInBounds_toArray, List.set_cons_zero, List.set_cons_succ]
      refine wpAnyH_take (i := 10) (oi := { dst := some 7, op := Op.assign (Operand.tmp 15), type := 33, pos := "reckon.go:99", after := #[{ on := 7, ground := Ground.data }, { on := 9, ground := Ground.chain }, { on := 0, ground := Ground.phase }, { on := 1, ground := Ground.phase }, { on := 2, ground := Ground.phase }, { on := 3, ground := Ground.phase }, { on := 4, ground := Ground.phase }, { on := 5, ground := Ground.phase }, { on := 6, ground := Ground.phase }, { on := 7, ground := Ground.phase }, { on := 8, ground := Ground.phase }, { on := 9, ground := Ground.phase }], guard := none }) (v := ?_) rfl (by kernel_rfl) (by kernel_rfl) (by kernel_rfl) (fun _ _ _ h => h) (Or.inl ⟨by rfl, ?_⟩) QS.out ?_
      rotate_left
      · (intro W hw; go_simp; try with_reducible rfl)
      simp only [Act.put, List.setIfInBounds_toArray, List.set_cons_zero, List.set_cons_succ]
      refine wpAnyH_done (by kernel_rfl) ?_ _
      go_wp2_with fail
      go_meet
      case rel => exact ⟨_, rfl, rfl, FW, QS⟩
  case rest =>
    obtain ⟨g, rfl, rfl, HQ, HOR⟩ := hcut
    have HOV := Lib.hid HOR.out.1
    have HR0 := Lib.hid HOR.out.2
    obtain ⟨W2, rfl⟩ : ∃ W2, W2 = wc := ⟨wc, rfl⟩
    have QQ : Hid (∀ U, Below W2.heap.size W2 U → Holds3 U g xk xn (tx xs_)) := Lib.hid (fun U hU => (HQ.out.below hU HQ.out.lt).holds)
    obtain ⟨z0, z1, z2⟩ := QQ.out W2 (Below.refl _ _)
    have NU := Lib.hid (fun U (hU : Below W2.heap.size W2 U) => call_over hU (null_any U))
    by_cases h : xe = 0
    · have hx7 : (xe != 0) = false := by simpa using h
      cases hz : decide (xk = 0)
      · have hs : same xk xn (tx xs_) 0 0 ⟨#[]⟩ = false := by rw [← hz]; exact same_z HP.out
        have HR : Hid (Ev.knR ⟨⟨xk, xn, xs_⟩, xe⟩ ⟨⟨yk, yn, ys_⟩, ye⟩ = ⟨⟨xk, xn, xs_⟩, xe⟩) := Lib.hid (by rw [Ev.knR, if_pos h, if_neg (of_decide_eq_false hz), h]; rfl)
        clear h hz
        go_upto_region 2 with fail
        go_region_with (go_at_call 26; refine (NU.out _ (by first | exact below_drewN (Below.refl _ _) _ | exact (Below.refl _ _).drew | exact Below.refl _ _)).mono ?_; rintro e V ⟨rfl, hb4⟩; obtain ⟨z0, z1, z2⟩ := QQ.out V hb4; have R4 := Lib.hid (HR0.out.below hb4 HR0.out.lt); have Q4 := Lib.hid (HOV.out.call hb4); obtain ⟨d0, d1, d2⟩ := R4.out.holds; have f0 := R4.out.frozen 0; have f1 := R4.out.frozen 1; have f2 := R4.out.frozen 2)
        all_goals
          go_wp2_with fail
          exact fin_R Tryz.results56 rfl rfl rfl R4.out Q4.out.1 (by omega) (by rw [HR.out])
      · have hs : same xk xn (tx xs_) 0 0 ⟨#[]⟩ = true := by rw [← hz]; exact same_z HP.out
        have HR : Hid (Ev.knR ⟨⟨xk, xn, xs_⟩, xe⟩ ⟨⟨yk, yn, ys_⟩, ye⟩ = ⟨⟨yk, yn, ys_⟩, ye⟩) := Lib.hid (by rw [Ev.knR, if_pos h, if_pos (of_decide_eq_true hz)])
        clear h hz
        go_upto_region 2 with fail
        go_region_with (go_at_call 26; refine (NU.out _ (by first | exact below_drewN (Below.refl _ _) _ | exact (Below.refl _ _).drew | exact Below.refl _ _)).mono ?_; rintro e V ⟨rfl, hb4⟩; obtain ⟨z0, z1, z2⟩ := QQ.out V hb4; have R4 := Lib.hid (HR0.out.below hb4 HR0.out.lt); have Q4 := Lib.hid (HOV.out.call hb4))
        all_goals
          clear z0 z1 z2
          have QD : Hid (OvS w V.drew #[.slice Ac cn cc, .slice Ar wn cr]) := Lib.hid Q4.out.drew
          go_upto_region 4 with fail
          refine wp_region_held_drew (S := fun U => OvS w U #[.slice Ac cn cc, .slice Ar wn cr]) (by kernel_rfl) QD.out (fun _ => ?_)
          refine wpAnyH_take (i := 0) (oi := { dst := some 25, op := Op.load 60 (Operand.tmp 2), type := 60, pos := "reckon.go:103", after := #[], guard := none }) (v := ?_) rfl (by kernel_rfl) (by kernel_rfl) (by kernel_rfl) (fun _ _ _ h => h) (Or.inl ⟨by rfl, ?_⟩) QD.out ?_
          rotate_left
          · (intro W hw; obtain ⟨⟨a0, a1⟩, p0, p1, p2, p3, p4, p5⟩ := KK1.out W hw; go_simp; try with_reducible rfl)
          simp only [Act.put, List.setIfInBounds_toArray, List.set_cons_zero, List.set_cons_succ]
          refine wpAnyH_take (i := 1) (oi := { dst := some 26, op := Op.move (Operand.tmp 1), type := 24, pos := "reckon.go:103", after := #[], guard := none }) (v := ?_) rfl (by kernel_rfl) (by kernel_rfl) (by kernel_rfl) (fun _ _ _ h => h) (Or.inl ⟨by rfl, ?_⟩) QD.out ?_
          rotate_left
          · (intro W hw; go_simp; try with_reducible rfl)
          simp only [Act.put, List.setIfInBounds_toArray, List.set_cons_zero, List.set_cons_succ]
          refine wpAnyH_take (i := 2) (oi := { dst := some 27, op := Op.indexAddr 24 (Operand.tmp 26) (Operand.const (Value.int IntKind.i64 1)), type := 0, pos := "reckon.go:103", after := #[{ on := 1, ground := Ground.data }], guard := none }) (v := ?_) rfl (by kernel_rfl) (by kernel_rfl) (by kernel_rfl) (fun _ _ _ h => h) (Or.inl ⟨by rfl, ?_⟩) QD.out ?_
          rotate_left
          · (intro W hw; go_simp; try with_reducible rfl)
          simp only [Act.put, List.setIfInBounds_toArray, List.set_cons_zero, List.set_cons_succ]
          refine wpAnyH_take (i := 3) (oi := { dst := some 28, op := Op.load 26 (Operand.tmp 27), type := 26, pos := "reckon.go:103", after := #[{ on := 2, ground := Ground.data }], guard := none }) (v := ?_) rfl (by kernel_rfl) (by kernel_rfl) (by kernel_rfl) (fun _ _ _ h => h) (Or.inl ⟨by rfl, ?_⟩) QD.out ?_
          rotate_left
          · (intro W hw; obtain ⟨⟨a0, a1⟩, p0, p1, p2, p3, p4, p5⟩ := KK1.out W hw; go_simp; try with_reducible rfl)
          simp only [Act.put, List.setIfInBounds_toArray, List.set_cons_zero, List.set_cons_succ]
          refine wpAnyH_ready (rs := [4]) (by kernel_rfl) (by simp) ?_
          refine (AllReadyH.cons (o := { dst := some 29, op := Op.call { callee := Callee.value (Operand.func 27), args := #[Operand.tmp 25, Operand.tmp 28], argTypes := #[60, 26] }, type := 34, pos := "reckon.go:103", after := #[{ on := 0, ground := Ground.data }, { on := 3, ground := Ground.data }], guard := none }) rfl (fun K hK => ?_) AllReadyH.nil)
          go_simp
          refine (HK1.out _ QD.out.1).mono ?_
          rintro e V1 ⟨rfl, hv1⟩
          have QV1 := Lib.hid (QD.out.call hv1)
          have ZB1 := Row3.below (w' := V1) (g := w.heap.size + 1) (k := 0) (n := 0) (s := ⟨#[]⟩) (by exact R4.out) hv1 (by exact R4.out.lt)
          obtain ⟨z0, z1, z2⟩ := ZB1.holds
          have f0 := ZB1.frozen 0
          have f1 := ZB1.frozen 1
          have f2 := ZB1.frozen 2
          refine hK.out _ _ QV1.out (fun _ => ?_)
          clear hK K
          try simp only [Act.put, List.setIfInBounds_toArray, List.set_cons_zero, List.set_cons_succ]
          refine wpAnyH_take (i := 5) (oi := { dst := some 30, op := Op.extract (Operand.tmp 29) 0, type := 23, pos := "reckon.go:103", after := #[{ on := 4, ground := Ground.data }], guard := none }) (v := ?_) rfl (by kernel_rfl) (by kernel_rfl) (by kernel_rfl) (fun _ _ _ h => h) (Or.inl ⟨by rfl, ?_⟩) QV1.out ?_
          rotate_left
          · (intro W hw; go_simp; try with_reducible rfl)
          simp only [Act.put, List.setIfInBounds_toArray, List.set_cons_zero, List.set_cons_succ]
          refine wpAnyH_take (i := 6) (oi := { dst := some 31, op := Op.extract (Operand.tmp 29) 1, type := 33, pos := "reckon.go:103", after := #[{ on := 4, ground := Ground.data }], guard := none }) (v := ?_) rfl (by kernel_rfl) (by kernel_rfl) (by kernel_rfl) (fun _ _ _ h => h) (Or.inl ⟨by rfl, ?_⟩) QV1.out ?_
          rotate_left
          · (intro W hw; go_simp; try with_reducible rfl)
          simp only [Act.put, List.setIfInBounds_toArray, List.set_cons_zero, List.set_cons_succ]
          refine wpAnyH_ready (rs := [7]) (by kernel_rfl) (by simp) ?_
          refine (AllReadyH.cons (o := { dst := none, op := Op.store 23 (Operand.tmp 4) (Operand.tmp 30), type := 0, pos := "reckon.go:103", after := #[{ on := 5, ground := Ground.data }, { on := 4, ground := Ground.chain }, { on := 0, ground := Ground.phase }, { on := 1, ground := Ground.phase }, { on := 2, ground := Ground.phase }, { on := 3, ground := Ground.phase }, { on := 4, ground := Ground.phase }, { on := 5, ground := Ground.phase }, { on := 6, ground := Ground.phase }], guard := none }) rfl (fun K hK => ?_) AllReadyH.nil)
          go_simp
          have QS := Lib.hid (QV1.out.set3 (g := w.heap.size + 1) (by first | omega | exact Nat.le_refl _) (.int .i64 yk) (.int .i64 yn) (.string (tx ys_)))
          have FW := Lib.hid (ZB1.set3 yk yn (tx ys_))
          refine hK.out _ _ QS.out (fun _ => ?_)
          clear hK K
          try simp only [Act.put, List.setIfInBounds_toArray, List.set_cons_zero, List.set_cons_succ]
          refine wpAnyH_take (i := 8) (oi := { dst := some 5, op := Op.assign (Operand.tmp 31), type := 33, pos := "reckon.go:103", after := #[{ on := 6, ground := Ground.data }, { on := 7, ground := Ground.chain }, { on := 0, ground := Ground.phase }, { on := 1, ground := Ground.phase }, { on := 2, ground := Ground.phase }, { on := 3, ground := Ground.phase }, { on := 4, ground := Ground.phase }, { on := 5, ground := Ground.phase }, { on := 6, ground := Ground.phase }, { on := 7, ground := Ground.phase }], guard := none }) (v := ?_) rfl (by kernel_rfl) (by kernel_rfl) (by kernel_rfl) (fun _ _ _ h => h) (Or.inl ⟨by rfl, ?_⟩) QS.out ?_
          rotate_left
          · (intro W hw; go_simp; try with_reducible rfl)
          simp only [Act.put, List.setIfInBounds_toArray, List.set_cons_zero, List.set_cons_succ]
          refine wpAnyH_done (by kernel_rfl) ?_ _
          go_wp2_with fail
          exact fin_R2 Tryz.results56 rfl rfl rfl FW.out QS.out.1 (by rw [HR.out])
    · have hx7 : (xe != 0) = true := by simpa using h
      have HR : Hid (Ev.knR ⟨⟨xk, xn, xs_⟩, xe⟩ ⟨⟨yk, yn, ys_⟩, ye⟩ = ⟨⟨xk, xn, xs_⟩, xe⟩) := Lib.hid (by rw [Ev.knR, if_neg h]; have := HE.out h; rw [this]; rfl)
      obtain ⟨d0, d1, d2⟩ := HR0.out.holds
      have f0 := HR0.out.frozen 0
      have f1 := HR0.out.frozen 1
      have f2 := HR0.out.frozen 2
      clear h
      go_upto_region 2 with fail
      go_quiet (fail)
      go_wp2_with fail
      exact fin_R Tryz.results56 rfl rfl rfl (by exact HR0.out) (by first | exact below_drewN HOV.out.1 _ | exact HOV.out.1.drew | exact HOV.out.1) (by omega) (by rw [HR.out])
end Go.Proofs.YteghhmomhlnccaaGreatDoor
