import Derived.Test.YteghhmomhlnccaaGreatDoorZO

/- eval: decided (or, and). -/
namespace Go.Proofs.YteghhmomhlnccaaGreatDoor
open Go.RowKit Go.Lib
set_option linter.unusedVariables false
set_option linter.unusedSimpArgs false
set_option maxRecDepth 100000
attribute [local go_sem ↓] eqVal neqVal
open Ex (Tree)
open Ev (V R Pl)
variable {C : List Col} {Ac : Option Addr} {cc : Nat} {W : List V} {Ar : Option Addr} {cr : Nat} {w0 : World}
/-- kids are gone through: s decides, o else. -/
def Ev.decR (s : Bool) : V → List R → R
  | o, [] => Ev.ok o
  | o, r :: l => if (Ev.truthR r).e = 0 then (if (Ev.truthR r).v.k = 3 ∧ (Ev.truthR r).v.n = bit s then Ev.ok (Ev.tru s) else Ev.decR s (if (Ev.truthR r).v.k = 0 then Ev.z else o) l) else Ev.err (Ev.truthR r).e
theorem Ev.dec_two (s : Bool) {a b : R} (ha : Pl a.v) (hb : Pl b.v) : Ev.decR s (Ev.tru (!s)) [a, b] = if a.e = 0 then Ev.logic s a.v b else Ev.err a.e := by
  have key : ∀ v : V, Pl v → (v.k = 3 ∧ v.n = bit s) → v = Ev.tru s := fun v hv h => by
    obtain ⟨k, n, t⟩ := v
    obtain ⟨h1, h2⟩ := h
    have h3 := (hv.truth h1).2
    dsimp only at h1 h2 h3
    subst h1 h2 h3
    rw [← bit_tru]
  have hbit : bit s = if s = true then (1 : Int) else 0 := rfl
  have hz : ∀ v : V, Pl v → v.k = 0 → v = Ev.z := fun v hv h => hv.null h
  simp only [Ev.decR, Ev.truthR, Ev.logic]
  rw [← hbit]
  by_cases e1 : a.e = 0
  · simp only [if_pos e1]
    by_cases k1 : a.v.k = 3 ∨ a.v.k = 0
    · have k1' : a.v.k = 0 ∨ a.v.k = 3 := k1.symm
      simp only [if_pos k1, if_pos k1', Ev.ok, if_true]
      by_cases d1 : a.v.k = 3 ∧ a.v.n = bit s
      · simp only [if_pos d1]; rw [key _ ha d1]
      · simp only [if_neg d1]
        by_cases e2 : b.e = 0
        · simp only [if_pos e2]
          by_cases k2 : b.v.k = 3 ∨ b.v.k = 0
          · have k2' : b.v.k = 0 ∨ b.v.k = 3 := k2.symm
            simp only [if_pos k2, if_pos k2', if_true]
            by_cases d2 : b.v.k = 3 ∧ b.v.n = bit s
            · simp only [if_pos d2]; rw [key _ hb d2]
            · simp only [if_neg d2]
              by_cases z1 : a.v.k = 0
              · by_cases z2 : b.v.k = 0 <;> simp [z1, z2]
              · by_cases z2 : b.v.k = 0 <;> simp [z1, z2]
          · have k2' : ¬ (b.v.k = 0 ∨ b.v.k = 3) := fun h => k2 h.symm
            simp only [if_neg k2, if_neg k2']; rfl
        · simp only [if_neg e2]; simp [Ev.err, e2]
    · have k1' : ¬ (a.v.k = 0 ∨ a.v.k = 3) := fun h => k1 h.symm
      simp only [if_neg k1, if_neg k1']; rfl
  · simp only [if_neg e1]; simp [Ev.err, e1]
theorem evs_drop {C : List Col} {W : List V} (ks : List Tree) (i : Nat) (hi : i < ks.length) : (Ev.evs C W ks).drop i = Ev.ev C W ks[i] :: (Ev.evs C W ks).drop (i + 1) := by
  have h : i < (Ev.evs C W ks).length := by rw [Ev.evs_len]; exact hi
  rw [List.drop_eq_getElem_cons h]
  have := Ev.evs_at C W ks i hi
  rw [List.getElem?_eq_getElem h] at this
  rw [Option.some.inj this]
theorem same_not (s : Bool) : same 3 (bit s) ⟨#[]⟩ 3 0 ⟨#[]⟩ = !s := by cases s <;> simp [same, bit]
/-- worlds behind one in which over, by and the result have been boxed. -/
def BW (w W : World) : Prop := Below w.heap.size w W
theorem BW.drew {w W : World} (h : BW w W) : BW w W.drew := Below.drew h
theorem BW.alloc {w W : World} (h : BW w W) (o : Obj) : BW w (W.alloc o) := Below.alloc h h.size o
theorem BW.call {w W W' : World} (h : BW w W) (hb : Below W.heap.size W W') : BW w W' := bstep h hb
theorem BW.set3 {w W : World} (h : BW w W) {g : Nat} (hg : w.heap.size ≤ g) (a b c : Value) : BW w (((W.setCell ⟨g, 0, none⟩ a).setCell ⟨g, 1, none⟩ b).setCell ⟨g, 2, none⟩ c) :=
  ((Below.setCell h (p := ⟨g, 0, none⟩) hg a).setCell (p := ⟨g, 1, none⟩) hg b).setCell (p := ⟨g, 2, none⟩) hg c
structure DecS (w wr : World) (cs : Array Value) (s : Bool) (g : Nat) (o : V) : Prop where
  ov : Below w.heap.size w wr
  over : Whole wr w.heap.size 60 cs
  by_ : Row3 wr (w.heap.size + 1) 3 (bit s) ⟨#[]⟩
  res : Row3 wr (w.heap.size + 2) 0 0 ⟨#[]⟩
  oth : Row3 wr g o.k o.n (tx o.s)
  far : w.heap.size + 3 ≤ g
theorem DecS.call {w wr w' : World} {cs : Array Value} {s : Bool} {g : Nat} {o : V} (h : DecS w wr cs s g o) (hb : Below wr.heap.size wr w') : DecS w w' cs s g o :=
  ⟨bstep h.ov hb, h.over.below hb h.over.lt, h.by_.below hb h.by_.lt, h.res.below hb h.res.lt, h.oth.below hb h.oth.lt, h.far⟩
theorem DecS.alloc {w wr : World} {cs : Array Value} {s : Bool} {g : Nat} {o : V} (h : DecS w wr cs s g o) (x : Obj) : DecS w (wr.alloc x) cs s g o := h.call ((Below.refl _ _).alloc (Nat.le_refl _) x)
theorem DecS.set {w wr : World} {cs : Array Value} {s : Bool} {g : Nat} {o : V} (h : DecS w wr cs s g o) (o' : V) : DecS w (((wr.setCell ⟨g, 0, none⟩ (.int .i64 o'.k)).setCell ⟨g, 1, none⟩ (.int .i64 o'.n)).setCell ⟨g, 2, none⟩ (.string (tx o'.s))) cs s g o' := by
  have hf := h.far
  have hb : Below (w.heap.size + 3) wr (((wr.setCell ⟨g, 0, none⟩ (.int .i64 o'.k)).setCell ⟨g, 1, none⟩ (.int .i64 o'.n)).setCell ⟨g, 2, none⟩ (.string (tx o'.s))) := (((Below.refl (w.heap.size + 3) wr).setCell (p := ⟨g, 0, none⟩) hf _).setCell (p := ⟨g, 1, none⟩) hf _).setCell (p := ⟨g, 2, none⟩) hf _
  exact ⟨h.ov.trans (hb.mono (by omega)), (hb.block _ (by omega)).trans h.over, (hb.block _ (by omega)).trans h.by_, (hb.block _ (by omega)).trans h.res, h.oth.set3 _ _ _, hf⟩
set_option maxHeartbeats 4000000 in
theorem decided_of {ks : List Tree} (s : Bool) (hX : ∀ i (h : i < ks.length), CT C Ac cc W Ar cr w0 ks[i]) (hp : ∀ i (h : i < ks.length), Pl (Ev.ev C W ks[i]).v) (hn : ks.length ≤ 1000000) (A : Option Addr) (c : Nat) (w : World) (hb : Below w0.heap.size w0 w) (hk : TreesAt w A 0 ks) :
    Calls Tryz.prog 54 #[ovV C Ac cc W Ar cr, .slice A ks.length c, .agg #[.int .i64 3, .int .i64 (bit s), .string ⟨#[]⟩]] w fun e w' => e = .returned (outR (Ev.decR s (Ev.tru (!s)) (Ev.evs C W ks))) ∧ Below w.heap.size w w' := by
  have b0 := (Below.refl w.heap.size w).alloc (Nat.le_refl _) (.cells #[.slice Ac C.length cc, .slice Ar W.length cr] 60)
  have b1 := b0.alloc (by simp) (.cells #[.int .i64 3, .int .i64 (bit s), .string ⟨#[]⟩] 23)
  have b2 := b1.alloc (by simp; omega) (.cells #[.int .i64 0, .int .i64 0, .string ⟨#[]⟩] 23)
  have k0 := ((Whole.new w 60 #[.slice Ac C.length cc, .slice Ar W.length cr]).alloc (.cells #[.int .i64 3, .int .i64 (bit s), .string ⟨#[]⟩] 23)).alloc (.cells #[.int .i64 0, .int .i64 0, .string ⟨#[]⟩] 23)
  have r1 := (Row3.new (w.alloc (.cells #[.slice Ac C.length cc, .slice Ar W.length cr] 60)) 3 (bit s) ⟨#[]⟩).alloc (.cells #[.int .i64 0, .int .i64 0, .string ⟨#[]⟩] 23)
  have r2 := Row3.new ((w.alloc (.cells #[.slice Ac C.length cc, .slice Ar W.length cr] 60)).alloc (.cells #[.int .i64 3, .int .i64 (bit s), .string ⟨#[]⟩] 23)) 0 0 ⟨#[]⟩
  simp only [World.size_alloc] at r1 r2
  obtain ⟨W1, hW1⟩ : ∃ W1, ((w.alloc (.cells #[.slice Ac C.length cc, .slice Ar W.length cr] 60)).alloc (.cells #[.int .i64 3, .int .i64 (bit s), .string ⟨#[]⟩] 23)).alloc (.cells #[.int .i64 0, .int .i64 0, .string ⟨#[]⟩] 23) = W1 := ⟨_, rfl⟩
  rw [hW1] at b2 k0 r1 r2
  have HKID := Lib.hid (fun i (h : i < ks.length) => kid_call h (hX i h) hb hk)
  have HP := Lib.hid hp
  have HSN := Lib.hid (same_not s)
  have KB := Lib.hid b2
  have K0 := Lib.hid k0
  have R1 := Lib.hid r1
  have R2 := Lib.hid r2
  obtain ⟨RES, hres⟩ : ∃ RES, Ev.decR s (Ev.tru (!s)) (Ev.evs C W ks) = RES := ⟨_, rfl⟩
  have HRES := Lib.hid hres
  rw [hres]
  obtain ⟨n, hn'⟩ : ∃ n, ks.length = n := ⟨_, rfl⟩
  have HN := Lib.hid hn'
  rw [hn'] at hn ⊢
  have hn9 : (n : Int) ≤ 1000000 := by omega
  have HEVL : Hid ((Ev.evs C W ks).length = n) := Lib.hid (by rw [Ev.evs_len, hn'])
  clear hres hn' hX hp hb hk hn b0 b1
  unfold ovV at *
  obtain ⟨cn, hcn⟩ : ∃ cn, C.length = cn := ⟨_, rfl⟩
  obtain ⟨wn, hwn⟩ : ∃ wn, W.length = wn := ⟨_, rfl⟩
  rw [hcn, hwn] at hW1 k0 HKID K0 ⊢
  clear hcn hwn k0 b2 r1 r2
  obtain ⟨y0, y1, y2⟩ := R1.out.holds
  have hs := HSN.out
  go_enter Tryz.func54, Tryz.ntmps54
  go_upto_region 1 with fail
  have BF := Lib.hid bool_false
  have BO := Lib.hid (fun U => bool_any (!s) U)
  go_cut [8] from 13 to 16 (fun s8 wc => ∃ g, s8 = .pointer (some ⟨g, 0, none⟩) ∧ Hid (Row3 wc g 3 (bit (!s)) ⟨#[]⟩) ∧ Hid (BW W1 wc) ∧ W1.heap.size ≤ g)
  case first =>
    have QD : Hid (BW W1 W1.drew) := Lib.hid (Below.refl _ _).drew
    refine wp_region_held_drew (S := fun U => BW W1 U) (by kernel_rfl) QD.out (fun _ => ?_)
    refine wpAnyH_take (i := 0) (oi := { dst := some 13, op := Op.load 23 (Operand.tmp 5), type := 23, pos := "reckon.go:75", after := #[], guard := none }) (v := ?_) rfl (by kernel_rfl) (by kernel_rfl) (by kernel_rfl) (fun _ _ _ h => h) (Or.inl ⟨by rfl, ?_⟩) QD.out ?_
    rotate_left
    · (intro W hw; obtain ⟨p0, p1, p2⟩ := (R1.out.below hw R1.out.lt).holds; go_simp; try with_reducible rfl)
    simp only [Act.put, List.setIfInBounds_toArray, List.set_cons_zero, List.set_cons_succ]
    refine wpAnyH_ready (rs := [1, 4]) (by kernel_rfl) (by simp) ?_
    refine (AllReadyH.cons (o := { dst := some 14, op := Op.call { callee := Callee.value (Operand.func 29), args := #[Operand.const (Value.bool false)], argTypes := #[4] }, type := 23, pos := "reckon.go:75", after := #[], guard := none }) rfl (fun K hK => ?_) (AllReadyH.cons (o := { dst := some 8, op := Op.alloc 23, type := 0, pos := "reckon.go:75", after := #[], guard := none }) rfl (fun K hK => ?_) AllReadyH.nil))
    ·
      go_simp
      refine (BF.out _).mono ?_
      rintro e V1 ⟨rfl, hv1⟩
      have QV1 := Lib.hid (QD.out.call hv1)
      refine hK.out _ _ QV1.out (fun _ => ?_)
      clear hK K
      try simp only [Act.put, List.setIfInBounds_toArray, List.set_cons_zero, List.set_cons_succ]
      refine wpAnyH_take (i := 2) (oi := { dst := some 15, op := Op.binOp BinOp.eql 23 (Operand.tmp 13) (Operand.tmp 14) 23, type := 4, pos := "reckon.go:75", after := #[{ on := 0, ground := Ground.data }, { on := 1, ground := Ground.data }], guard := none }) (v := ?_) rfl (by kernel_rfl) (by kernel_rfl) (by kernel_rfl) (fun _ _ _ h => h) (Or.inl ⟨by rfl, ?_⟩) QV1.out ?_
      rotate_left
      · (intro W hw; go_simp; try with_reducible rfl)
      simp only [Act.put, List.setIfInBounds_toArray, List.set_cons_zero, List.set_cons_succ]
      refine wpAnyH_ready (rs := [3, 4]) (by kernel_rfl) (by simp) ?_
      refine (AllReadyH.cons (o := { dst := some 16, op := Op.call { callee := Callee.value (Operand.func 29), args := #[Operand.tmp 15], argTypes := #[4] }, type := 23, pos := "reckon.go:75", after := #[{ on := 2, ground := Ground.data }, { on := 1, ground := Ground.chain }], guard := none }) rfl (fun K hK => ?_) (AllReadyH.cons (o := { dst := some 8, op := Op.alloc 23, type := 0, pos := "reckon.go:75", after := #[], guard := none }) rfl (fun K hK => ?_) AllReadyH.nil))
      ·
        go_simp
        refine (BO.out _).mono ?_
        rintro e V2 ⟨rfl, hv2⟩
        have QV2 := Lib.hid (QV1.out.call hv2)
        refine hK.out _ _ QV2.out (fun _ => ?_)
        clear hK K
        try simp only [Act.put, List.setIfInBounds_toArray, List.set_cons_zero, List.set_cons_succ]
        refine wpAnyH_ready (rs := [4]) (by kernel_rfl) (by simp) ?_
        refine (AllReadyH.cons (o := { dst := some 8, op := Op.alloc 23, type := 0, pos := "reckon.go:75", after := #[], guard := none }) rfl (fun K hK => ?_) AllReadyH.nil)
        go_simp
        have QA := Lib.hid (QV2.out.alloc (.cells #[.int .i64 0, .int .i64 0, .string ⟨#[]⟩] 23))
        refine hK.out _ _ QA.out (fun _ => ?_)
        clear hK K
        try simp only [Act.put, List.setIfInBounds_toArray, List.set_cons_zero, List.set_cons_succ]
        refine wpAnyH_ready (rs := [5]) (by kernel_rfl) (by simp) ?_
        refine (AllReadyH.cons (o := { dst := none, op := Op.store 23 (Operand.tmp 8) (Operand.tmp 16), type := 0, pos := "reckon.go:75", after := #[{ on := 4, ground := Ground.data }, { on := 3, ground := Ground.data }, { on := 3, ground := Ground.chain }, { on := 0, ground := Ground.phase }, { on := 1, ground := Ground.phase }, { on := 2, ground := Ground.phase }, { on := 3, ground := Ground.phase }, { on := 4, ground := Ground.phase }], guard := none }) rfl (fun K hK => ?_) AllReadyH.nil)
        go_simp
        have QS := Lib.hid (QV2.out.alloc (.cells #[.int .i64 3, .int .i64 (bit (!s)), .string ⟨#[]⟩] 23))
        have FW := Lib.hid (Row3.new V2 3 (bit (!s)) ⟨#[]⟩)
        refine hK.out _ _ QS.out (fun _ => ?_)
        clear hK K
        try simp only [Act.put, List.setIfInBounds_toArray, List.set_cons_zero, List.set_cons_succ]
        refine wpAnyH_done (by kernel_rfl) ?_ _
        go_wp2_with fail
        go_meet
        case rel => exact ⟨_, rfl, FW, QS, by first | exact Nat.le_refl _ | exact QV1.out.size | exact QV2.out.size⟩
      ·
        go_simp
        have QA := Lib.hid (QV1.out.alloc (.cells #[.int .i64 0, .int .i64 0, .string ⟨#[]⟩] 23))
        refine hK.out _ _ QA.out (fun _ => ?_)
        clear hK K
        try simp only [Act.put, List.setIfInBounds_toArray, List.set_cons_zero, List.set_cons_succ]
        refine wpAnyH_ready (rs := [3]) (by kernel_rfl) (by simp) ?_
        refine (AllReadyH.cons (o := { dst := some 16, op := Op.call { callee := Callee.value (Operand.func 29), args := #[Operand.tmp 15], argTypes := #[4] }, type := 23, pos := "reckon.go:75", after := #[{ on := 2, ground := Ground.data }, { on := 1, ground := Ground.chain }], guard := none }) rfl (fun K hK => ?_) AllReadyH.nil)
        go_simp
        refine (BO.out _).mono ?_
        rintro e V2 ⟨rfl, hv2⟩
        have QV2 := Lib.hid (QA.out.call hv2)
        have ZB2 := Row3.below (w' := V2) (g := V1.heap.size) (k := 0) (n := 0) (s := ⟨#[]⟩) (by exact Row3.new V1 0 0 ⟨#[]⟩) hv2 (by simp)
        obtain ⟨z0, z1, z2⟩ := ZB2.holds
        have f0 := ZB2.frozen 0
        have f1 := ZB2.frozen 1
        have f2 := ZB2.frozen 2
        refine hK.out _ _ QV2.out (fun _ => ?_)
        clear hK K
        try simp only [Act.put, List.setIfInBounds_toArray, List.set_cons_zero, List.set_cons_succ]
        refine wpAnyH_ready (rs := [5]) (by kernel_rfl) (by simp) ?_
        refine (AllReadyH.cons (o := { dst := none, op := Op.store 23 (Operand.tmp 8) (Operand.tmp 16), type := 0, pos := "reckon.go:75", after := #[{ on := 4, ground := Ground.data }, { on := 3, ground := Ground.data }, { on := 3, ground := Ground.chain }, { on := 0, ground := Ground.phase }, { on := 1, ground := Ground.phase }, { on := 2, ground := Ground.phase }, { on := 3, ground := Ground.phase }, { on := 4, ground := Ground.phase }], guard := none }) rfl (fun K hK => ?_) AllReadyH.nil)
        go_simp
        have QS := Lib.hid (QV2.out.set3 (g := V1.heap.size) (by exact QV1.out.size) (.int .i64 3) (.int .i64 (bit (!s))) (.string ⟨#[]⟩))
        have FW := Lib.hid (ZB2.set3 3 (bit (!s)) ⟨#[]⟩)
        refine hK.out _ _ QS.out (fun _ => ?_)
        clear hK K
        try simp only [Act.put, List.setIfInBounds_toArray, List.set_cons_zero, List.set_cons_succ]
        refine wpAnyH_done (by kernel_rfl) ?_ _
        go_wp2_with fail
        go_meet
        case rel => exact ⟨_, rfl, FW, QS, by first | exact Nat.le_refl _ | exact QV1.out.size | exact QV2.out.size⟩
    ·
      go_simp
      have QA := Lib.hid (QD.out.alloc (.cells #[.int .i64 0, .int .i64 0, .string ⟨#[]⟩] 23))
      refine hK.out _ _ QA.out (fun _ => ?_)
      clear hK K
      try simp only [Act.put, List.setIfInBounds_toArray, List.set_cons_zero, List.set_cons_succ]
      refine wpAnyH_ready (rs := [1]) (by kernel_rfl) (by simp) ?_
      refine (AllReadyH.cons (o := { dst := some 14, op := Op.call { callee := Callee.value (Operand.func 29), args := #[Operand.const (Value.bool false)], argTypes := #[4] }, type := 23, pos := "reckon.go:75", after := #[], guard := none }) rfl (fun K hK => ?_) AllReadyH.nil)
      go_simp
      refine (BF.out _).mono ?_
      rintro e V1 ⟨rfl, hv1⟩
      have QV1 := Lib.hid (QA.out.call hv1)
      have ZB1 := Row3.below (w' := V1) (g := W1.heap.size) (k := 0) (n := 0) (s := ⟨#[]⟩) (by exact Row3.new W1 0 0 ⟨#[]⟩) hv1 (by simp)
      obtain ⟨z0, z1, z2⟩ := ZB1.holds
      have f0 := ZB1.frozen 0
      have f1 := ZB1.frozen 1
      have f2 := ZB1.frozen 2
      refine hK.out _ _ QV1.out (fun _ => ?_)
      clear hK K
      try simp only [Act.put, List.setIfInBounds_toArray, List.set_cons_zero, List.set_cons_succ]
      refine wpAnyH_take (i := 2) (oi := { dst := some 15, op := Op.binOp BinOp.eql 23 (Operand.tmp 13) (Operand.tmp 14) 23, type := 4, pos := "reckon.go:75", after := #[{ on := 0, ground := Ground.data }, { on := 1, ground := Ground.data }], guard := none }) (v := ?_) rfl (by kernel_rfl) (by kernel_rfl) (by kernel_rfl) (fun _ _ _ h => h) (Or.inl ⟨by rfl, ?_⟩) QV1.out ?_
      rotate_left
      · (intro W hw; go_simp; try with_reducible rfl)
      simp only [Act.put, List.setIfInBounds_toArray, List.set_cons_zero, List.set_cons_succ]
      refine wpAnyH_ready (rs := [3]) (by kernel_rfl) (by simp) ?_
      refine (AllReadyH.cons (o := { dst := some 16, op := Op.call { callee := Callee.value (Operand.func 29), args := #[Operand.tmp 15], argTypes := #[4] }, type := 23, pos := "reckon.go:75", after := #[{ on := 2, ground := Ground.data }, { on := 1, ground := Ground.chain }], guard := none }) rfl (fun K hK => ?_) AllReadyH.nil)
      go_simp
      refine (BO.out _).mono ?_
      rintro e V2 ⟨rfl, hv2⟩
      have QV2 := Lib.hid (QV1.out.call hv2)
      have ZB2 := Row3.below (w' := V2) ZB1 hv2 ZB1.lt
      obtain ⟨z0, z1, z2⟩ := ZB2.holds
      have f0 := ZB2.frozen 0
      have f1 := ZB2.frozen 1
      have f2 := ZB2.frozen 2
      refine hK.out _ _ QV2.out (fun _ => ?_)
      clear hK K
      try simp only [Act.put, List.setIfInBounds_toArray, List.set_cons_zero, List.set_cons_succ]
      refine wpAnyH_ready (rs := [5]) (by kernel_rfl) (by simp) ?_
      refine (AllReadyH.cons (o := { dst := none, op := Op.store 23 (Operand.tmp 8) (Operand.tmp 16), type := 0, pos := "reckon.go:75", after := #[{ on := 4, ground := Ground.data }, { on := 3, ground := Ground.data }, { on := 3, ground := Ground.chain }, { on := 0, ground := Ground.phase }, { on := 1, ground := Ground.phase }, { on := 2, ground := Ground.phase }, { on := 3, ground := Ground.phase }, { on := 4, ground := Ground.phase }], guard := none }) rfl (fun K hK => ?_) AllReadyH.nil)
      go_simp
      have QS := Lib.hid (QV2.out.set3 (g := W1.heap.size) (by exact QD.out.size) (.int .i64 3) (.int .i64 (bit (!s))) (.string ⟨#[]⟩))
      have FW := Lib.hid (ZB2.set3 3 (bit (!s)) ⟨#[]⟩)
      refine hK.out _ _ QS.out (fun _ => ?_)
      clear hK K
      try simp only [Act.put, List.setIfInBounds_toArray, List.set_cons_zero, List.set_cons_succ]
      refine wpAnyH_done (by kernel_rfl) ?_ _
      go_wp2_with fail
      go_meet
      case rel => exact ⟨_, rfl, FW, QS, by first | exact Nat.le_refl _ | exact QV1.out.size | exact QV2.out.size⟩
  case rest =>
    obtain ⟨g, rfl, HQ, HOR, hg⟩ := hcut
    obtain ⟨W2, rfl⟩ : ∃ W2, W2 = wc := ⟨wc, rfl⟩
    have HDS : Hid (DecS w W2 #[.slice Ac cn cc, .slice Ar wn cr] s g (Ev.tru (!s))) := Lib.hid ⟨bstep KB.out HOR.out, K0.out.below HOR.out K0.out.lt, R1.out.below HOR.out R1.out.lt, R2.out.below HOR.out R2.out.lt, by have := HQ.out; rw [← bit_tru]; exact this, by have := R2.out.lt; omega⟩
    clear y0 y1 y2 hs hW1 BF BO HQ HOR K0 R1 R2 KB
    go_wp2_with fail
    go_loopg [10, 11, 12, 19] (n + 1) (fun j s10 s11 s12 s19 wr => ∃ (i : Nat) (o : V), i ≤ n ∧ n < i + j ∧ s19 = .int .i64 (i : Nat) ∧ Hid (DecS w wr #[.slice Ac cn cc, .slice Ar wn cr] s g o) ∧ Hid (RES = Ev.decR s o ((Ev.evs C W ks).drop i)))
    case atStart => exact ⟨0, _, by omega, by omega, rfl, HDS, Lib.hid (by rw [← HRES.out]; rfl)⟩
    case round =>
      obtain ⟨i, o, hi, hj, rfl, HD, HE⟩ := hrel
      clear HDS
      by_cases hlt : i < n
      · have hlt' : (i : Int) < (n : Int) := by omega
        have hik : i < ks.length := by rw [HN.out]; exact hlt
        obtain ⟨kb, ko, o1, t1, k1, n1, s1, m1, B1, c1, rfl, hkb, hc, -, CX⟩ := HKID.out i hik
        obtain ⟨p0, p1, p2, p3, p4, p5⟩ := hc wr HD.out.ov
        have HDR := Lib.hid (evs_drop (C := C) (W := W) ks i hik)
        have HPX := Lib.hid (truth_pl (HP.out i hik))
        obtain ⟨x, hx⟩ : ∃ x, Ev.ev C W ks[i] = x := ⟨_, rfl⟩
        rw [hx] at CX HDR HPX
        have TR := Lib.hid (fun U => truth_any x U)
        have HST : Hid (RES = if (Ev.truthR x).e = 0 then (if (Ev.truthR x).v.k = 3 ∧ (Ev.truthR x).v.n = bit s then Ev.ok (Ev.tru s) else Ev.decR s (if (Ev.truthR x).v.k = 0 then Ev.z else o) ((Ev.evs C W ks).drop (i + 1))) else Ev.err (Ev.truthR x).e) := Lib.hid (by rw [HE.out, HDR.out, Ev.decR])
        obtain ⟨q, hq⟩ : ∃ q, Ev.truthR x = q := ⟨_, rfl⟩
        rw [hq] at TR HST HPX
        unfold ncells at *
        have HCX := Lib.hid (CX _ (HD.out.alloc (.cells #[.int .i64 o1, .string (tx t1), .int .i64 k1, .int .i64 n1, .string (tx s1), .slice B1 m1 c1] 26)).ov)
        have HD1 := Lib.hid (HD.out.alloc (.cells #[.int .i64 o1, .string (tx t1), .int .i64 k1, .int .i64 n1, .string (tx s1), .slice B1 m1 c1] 26))
        have x0 := HD1.out.over.cell 0
        have x1 := HD1.out.over.cell 1
        simp only [List.getElem?_toArray, List.getElem?_cons_zero, List.getElem?_cons_succ] at x0 x1
        obtain ⟨e0, e1, e2, e3, e4, e5⟩ := six_of (Whole.new wr 26 (ncells o1 t1 k1 n1 s1 B1 m1 c1))
        unfold ncells at *
        obtain ⟨⟨xk, xn, xs_⟩, xe⟩ := x
        obtain ⟨⟨qk, qn, qs_⟩, qe⟩ := q
        unfold outR vv vcells at *
        dsimp only at *
        clear hx hq hc CX HE HDR
        have hwr : wr.heap.size < (wr.alloc (.cells #[.int .i64 o1, .string (tx t1), .int .i64 k1, .int .i64 n1, .string (tx s1), .slice B1 m1 c1] 26)).heap.size := by simp
        go_wp2_with fail
        refine HCX.out.mono ?_
        rintro e V1 ⟨rfl, hv1⟩
        have HD2 := Lib.hid (HD1.out.call hv1)
        clear x0 x1 p0 p1 p2 p3 p4 p5 e0 e1 e2 e3 e4 e5 hv1 HCX
        go_wp2_with fail
        refine (TR.out _).mono ?_
        rintro e V2 ⟨rfl, hv2⟩
        have HD3 := Lib.hid ((HD2.out.call hv2).alloc (.cells #[.int .i64 qk, .int .i64 qn, .string (tx qs_)] 23))
        have HQ3 := Lib.hid (Row3.new V2 qk qn (tx qs_))
        obtain ⟨V3, hV3⟩ : ∃ V3, V2.alloc (.cells #[.int .i64 qk, .int .i64 qn, .string (tx qs_)] 23) = V3 := ⟨_, rfl⟩
        rw [hV3] at HD3 HQ3
        have hlt3 := HQ3.out.lt
        obtain ⟨q0, q1, q2⟩ := HQ3.out.holds
        obtain ⟨y0, y1, y2⟩ := HD3.out.by_.holds
        obtain ⟨d0, d1, d2⟩ := HD3.out.res.holds
        have f0 := HD3.out.res.frozen 0
        have f1 := HD3.out.res.frozen 1
        have f2 := HD3.out.res.frozen 2
        have hfar := HD3.out.far
        clear hv2 TR HD HD1 HD2
        by_cases h : qe = 0
        · have h' : (qe != 0) = false := by simpa using h
          have hs := same_b HPX.out (bit s)
          dsimp only at hs
          cases hd : decide (qk = 3 ∧ qn = bit s)
          · rw [hd] at hs
            have HST2 : Hid (RES = Ev.decR s (if qk = 0 then Ev.z else o) ((Ev.evs C W ks).drop (i + 1))) := Lib.hid (by rw [HST.out, if_pos h, if_neg (of_decide_eq_false hd)])
            have hz := same_z HPX.out
            dsimp only at hz
            clear HST h hd
            have NU := Lib.hid (fun U (hU : Below V3.heap.size V3 U) => call_over hU (null_any U))
            have QQ : Hid (∀ U, Below V3.heap.size V3 U → Holds3 U V2.heap.size qk qn (tx qs_)) := Lib.hid (fun U hU => (HQ3.out.below hU HQ3.out.lt).holds)
            cases hd0 : decide (qk = 0)
            · rw [hd0] at hz
              have HST3 : Hid (RES = Ev.decR s o ((Ev.evs C W ks).drop (i + 1))) := Lib.hid (by rw [HST2.out, if_neg (of_decide_eq_false hd0)])
              clear HST2 hd0
              go_upto_region 10 with fail
              go_region_with (go_at_call 26; refine (NU.out _ (by first | exact below_drewN (Below.refl _ _) _ | exact (Below.refl _ _).drew | exact Below.refl _ _)).mono ?_; rintro e V4 ⟨rfl, hb4⟩; obtain ⟨z0, z1, z2⟩ := QQ.out V4 hb4; have HD4 := Lib.hid (HD3.out.call hb4))
              all_goals
                clear z0 z1 z2 y0 y1 y2 d0 d1 d2 f0 f1 f2 q0 q1 q2
                go_wp2_with fail
                go_roundg (n - i)
                case measure => omega
                case rel => exact ⟨i + 1, o, by omega, by omega, by go_num, HD4, HST3⟩
            · rw [hd0] at hz
              have HST3 : Hid (RES = Ev.decR s Ev.z ((Ev.evs C W ks).drop (i + 1))) := Lib.hid (by rw [HST2.out, if_pos (of_decide_eq_true hd0)])
              clear HST2 hd0
              go_upto_region 10 with fail
              go_region_with (go_at_call 26; refine (NU.out _ (by first | exact below_drewN (Below.refl _ _) _ | exact (Below.refl _ _).drew | exact Below.refl _ _)).mono ?_; rintro e V4 ⟨rfl, hb4⟩; obtain ⟨z0, z1, z2⟩ := QQ.out V4 hb4; have HD4 := Lib.hid (HD3.out.call hb4))
              all_goals
                clear z0 z1 z2 y0 y1 y2 d0 d1 d2 f0 f1 f2 q0 q1 q2
                go_wp2_with fail
                refine (null_any _).mono ?_
                rintro e V5 ⟨rfl, hb5⟩
                have HD5 := Lib.hid (HD4.out.call hb5)
                obtain ⟨g0, g1, g2⟩ := HD5.out.oth.holds
                have f0 := HD5.out.oth.frozen 0
                have f1 := HD5.out.oth.frozen 1
                have f2 := HD5.out.oth.frozen 2
                have HD6 := Lib.hid (HD5.out.set Ev.z)
                clear hb5
                go_wp2_with fail
                go_roundg (n - i)
                case measure => omega
                case rel => exact ⟨i + 1, Ev.z, by omega, by omega, by go_num, HD6, HST3⟩
          · rw [hd] at hs
            have HR : Hid (RES = Ev.ok (Ev.tru s)) := Lib.hid (by rw [HST.out, if_pos h, if_pos (of_decide_eq_true hd)])
            clear HST h hd
            go_wp2_with fail
            exact fin_R Tryz.results54 rfl rfl rfl HD3.out.res HD3.out.ov (by omega) (by rw [HR.out, ← bit_tru]; rfl)
        · have h' : (qe != 0) = true := by simpa using h
          have HR : Hid (RES = Ev.err qe) := Lib.hid (by rw [HST.out, if_neg h])
          clear HST h y0 y1 y2 d0 d1 d2 f0 f1 f2 q0 q1 q2
          go_wp2_with fail
          refine (efail_any _ _).mono ?_
          rintro e V4 ⟨rfl, hb4⟩
          have HD4 := Lib.hid (HD3.out.call hb4)
          clear hb4
          obtain ⟨d0, d1, d2⟩ := HD4.out.res.holds
          have f0 := HD4.out.res.frozen 0
          have f1 := HD4.out.res.frozen 1
          have f2 := HD4.out.res.frozen 2
          unfold outR vv vcells Ev.err Ev.z
          go_wp2_with fail
          exact fin_R Tryz.results54 rfl rfl rfl HD4.out.res HD4.out.ov (by omega) (by rw [HR.out]; rfl)
      · have hlt' : ¬ (i : Int) < (n : Int) := by omega
        have HR : Hid (RES = Ev.ok o) := Lib.hid (by rw [HE.out, List.drop_of_length_le (by rw [HEVL.out]; omega)]; rfl)
        obtain ⟨g0, g1, g2⟩ := HD.out.oth.holds
        obtain ⟨d0, d1, d2⟩ := HD.out.res.holds
        have f0 := HD.out.res.frozen 0
        have f1 := HD.out.res.frozen 1
        have f2 := HD.out.res.frozen 2
        clear HE
        go_wp2_with fail
        exact fin_R Tryz.results54 rfl rfl rfl HD.out.res HD.out.ov (by omega) (by rw [HR.out]; rfl)
end Go.Proofs.YteghhmomhlnccaaGreatDoor
