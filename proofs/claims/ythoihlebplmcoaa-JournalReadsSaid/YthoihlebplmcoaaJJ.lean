/- standing: the iterator over the records that stand in a row. -/
import Derived.Test.YthoihlebplmcoaaJI
import Derived.LoopNIn
import Derived.LoopIn
import Derived.StillTailTactics
import Derived.OrdersIn
import Derived.TacticsIn
namespace Go.Proofs.Ythoihlebplmcoaa
open Go.RowKit Go.Shelf
set_option linter.unusedVariables false
attribute [local go_sem] Oper.semAt_some
/-- a record that is told, and where it ends. -/
structure Rc where
  A : Option Addr
  c : Nat
  b : List UInt8
  n : Nat
abbrev Rc.v (x : Rc) : Value := .slice x.A x.b.length x.c
abbrev encR (x : Rc) : Array Value := #[x.v, .int .i64 (x.n : Nat)]
def RcIn (base : Nat) (x : Rc) (W : World) : Prop := Row W base x.v x.b
/-- the records that stand in a row from a place on. -/
def standA (e f : Nat) (row : List UInt8) : Nat → Nat → List (List UInt8 × Nat)
  | 0, _ => []
  | k + 1, at_ => if at_ < row.length ∧ openE e (row.drop at_) = 0 then (openB e (row.drop at_), at_ + openN e (row.drop at_)) :: standA e f row k (beg f (at_ + openN e (row.drop at_))) else []
theorem openN_pos {e : Nat} {l : List UInt8} (h : openE e l = 0) : 12 ≤ openN e l ∧ openN e l ≤ l.length := by
  unfold openN
  rw [if_pos h]
  unfold openE at h
  split at h
  · cases h
  · omega
/-- with more rounds than bytes left nothing turns. -/
theorem standA_enough (e f : Nat) (row : List UInt8) (hf : 12 ≤ f) : ∀ (k k' at_ : Nat), row.length < at_ + k → row.length < at_ + k' → standA e f row k at_ = standA e f row k' at_
  | 0, 0, _, _, _ => rfl
  | 0, k' + 1, at_, h, _ => by
    unfold standA
    rw [if_neg (by omega)]
  | k + 1, 0, at_, _, h => by
    unfold standA
    rw [if_neg (by omega)]
  | k + 1, k' + 1, at_, h, h' => by
    unfold standA
    split
    · rename_i hh
      have := (openN_pos hh.2).1
      have hb := beg_bounds f (at_ + openN e (row.drop at_)) hf
      rw [standA_enough e f row hf k k' _ (by omega) (by omega)]
    · rfl
def standR (e f : Nat) (row : List UInt8) : List (List UInt8 × Nat) := standA e f row (row.length + 1) 0
theorem standing_in (F : Fence) (n : Nat) (h5 : F.fn 41) (hro : F.round = none) (p0 : Option Addr) (A : Option Addr) (l c : Nat) (w : World) :
    CallsIn F n Try.prog 41 #[.pointer p0, .slice A l c] w fun e w' => e = .returned (.func (.func 57) #[] #[.pointer (some ⟨w.heap.size + 1, 0, none⟩), .pointer (some ⟨w.heap.size, 0, none⟩)]) ∧ w' = (w.alloc (.cells #[.pointer p0] 30)).alloc (.cells #[.slice A l c] 35) := by
  refine callsIn_of_wp Try.func41 rfl h5 ?_ hro
  simp only [Try.ntmps41, List.size_toArray, List.length_cons, List.length_nil, Nat.reduceAdd, Nat.reduceSub, Array.replicate_succ, Array.replicate_zero, List.push_toArray, List.append_toArray, List.nil_append, List.cons_append]
  gi_wp2
  go_ret
  exact ⟨rfl, rfl⟩
/-- what a round keeps: what lay below n₀, and two boxes. -/
def KpC (n₀ Bn : Nat) (W W' : World) : Prop := Below n₀ W W' ∧ W'.heap[Bn]? = W.heap[Bn]? ∧ W'.heap[Bn + 1]? = W.heap[Bn + 1]?
theorem KpC.trans {n₀ Bn : Nat} {A B C : World} (h : KpC n₀ Bn A B) (k : KpC n₀ Bn B C) : KpC n₀ Bn A C := ⟨h.1.trans k.1, k.2.1.trans h.2.1, k.2.2.trans h.2.2⟩
theorem abides_below {β : Type} {B : Nat} {J : β → World → Prop} (h : AbidesFrom B J) (s : β) (W W' : World) (hs : J s W) (hb : Below W.heap.size W W') : J s W' :=
  h s W W' none hs ⟨hb.os, hb.tape, hb.output, hb.size, fun k hk _ => hb.block k hk⟩ (fun r e => by cases e)
set_option maxRecDepth 100000 in
set_option maxHeartbeats 2000000 in
theorem standing1_in (n : Nat) (hn : 1 ≤ n) (l Bn : Nat) (w0 : World) (p e f : Nat) (A : Option Addr) (c : Nat) (row : List UInt8) (he : e < 4294967296) (hf1 : 60 ≤ f) (hf2 : f ≤ 1020) (hlen : row.length ≤ 100000) (hc : row.length ≤ c)
    (hp : p < w0.heap.size) (c3 : w0.cell? ⟨p, 3, none⟩ = some (.int .i64 (f : Nat))) (c4 : w0.cell? ⟨p, 4, none⟩ = some (.int .u32 (e : Nat))) (hr : Holds w0 A row)
    (J : List Rc → World → Prop) (hJ : ∀ s W W', J s W → Below W.heap.size W W' → J s W')
    (hY : ∀ pre x W, J pre W → RcIn w0.heap.size x W → pre.length < row.length + 1 → YieldAt Fence.wide (n - 1) Try.prog l (encR x) W fun r W' => r = .returned (.bool true) ∧ J (pre ++ [x]) W' ∧ KpC w0.heap.size Bn W W')
    (W : World) (hW : Below w0.heap.size w0 W) (hb0 : Whole W Bn 30 #[.pointer (some ⟨p, 0, none⟩)]) (hb1 : Whole W (Bn + 1) 35 #[.slice A row.length c]) (h0 : J [] W) :
    CallsIn Fence.wide n Try.prog 57 #[.func (.yield l) #[] #[], .pointer (some ⟨Bn + 1, 0, none⟩), .pointer (some ⟨Bn, 0, none⟩)] W fun r W' => (∃ v, r = .returned v) ∧
      ∃ ys : List Rc, ys.map (fun x => (x.b, x.n)) = standR e f row ∧ J ys W' := by
  refine callsIn_of_wp Try.func57 rfl trivial ?_ rfl
  simp only [Try.ntmps57, List.size_toArray, List.length_cons, List.length_nil, Nat.reduceAdd, Nat.reduceSub, Array.replicate_succ, Array.replicate_zero, List.push_toArray, List.append_toArray, List.nil_append, List.cons_append]
  gi_wp2
  gi_loopw [4] (fun s4 wr => ∃ (at_ : Nat) (pre : List Rc), at_ ≤ row.length + 11 ∧ 12 * pre.length ≤ at_ ∧ s4 = .int .i64 (at_ : Nat) ∧ Below w0.heap.size w0 wr ∧ Whole wr Bn 30 #[.pointer (some ⟨p, 0, none⟩)] ∧ Whole wr (Bn + 1) 35 #[.slice A row.length c] ∧ J pre wr ∧ standR e f row = pre.map (fun x => (x.b, x.n)) ++ standA e f row (row.length + 1) at_)
    (fun s4 _ => (row.length + 20 - intOf s4).toNat)
  case atStart => exact ⟨0, [], by omega, by simp, rfl, hW, hb0, hb1, h0, rfl⟩
  case round =>
    obtain ⟨at_, pre, hat, hp12, rfl, hB, hx0, hx1, hj, hst⟩ := hrel
    by_cases hlt : at_ < row.length
    · have hlti : (at_ : Int) < (row.length : Int) := by omega
      have d0 := hx0.cell 0
      have d1 := hx1.cell 0
      simp only [List.getElem?_toArray, List.getElem?_cons_zero] at d0 d1
      have e4 : wr.cell? ⟨p, 4, none⟩ = some (.int .u32 (e : Nat)) := (hB.cell (p := ⟨p, 4, none⟩) hp).trans c4
      obtain ⟨b, o, rfl, hblt, -⟩ := hr 0 (by omega)
      have hl2 : (row.drop at_).length = row.length - at_ := List.length_drop
      have hbd : Below wr.heap.size wr wr.drew := (Below.refl _ _).drew
      have hdr : Holds wr.drew (some ⟨b, o + at_, none⟩) (row.drop at_) := by
        have := ((hr.below hB).below hbd).drop at_ c hc
        rw [if_neg (by omega)] at this
        simpa only [Option.map_some, Addr.add_lit] using this
      have OP := open_any e (some ⟨b, o + at_, none⟩) (c - at_) (row.drop at_) wr.drew hdr (by rw [hl2]; omega) (by rw [hl2]; omega)
      rw [hl2] at OP
      replace OP := Lib.hid OP
      have HJ := Lib.hid hj
      have HB := Lib.hid hB
      have HX := Lib.hid (And.intro hx0 hx1)
      have HST := Lib.hid hst
      have HR := Lib.hid hr
      have HHJ := Lib.hid hJ
      have HY := Lib.hid hY
      clear hj hB hx0 hx1 hst hr hJ hY h0 hb0 hb1 hW hdr hbd c4 hl2
      gi_wp2
      refine wpIn_wide.2 ?_
      refine Code.wp_mono (Q := fun ex a1 w1 => ex = .normal ∧ ∃ v, a1 = { tmps := #[.func (.yield l) #[] #[], .pointer (some ⟨Bn + 1, 0, none⟩), .pointer (some ⟨Bn, 0, none⟩), undef, .int .i64 (at_ : Nat), v, .int .i64 (openN e (row.drop at_) : Nat), .int .i64 (openE e (row.drop at_) : Nat), .int .i64 (at_ : Nat), .slice (some ⟨b, o, none⟩) row.length c, .int .i64 (row.length : Nat), .bool true, .tuple #[v, .int .i64 (openN e (row.drop at_) : Nat), .int .i64 (openE e (row.drop at_) : Nat)], .pointer (some ⟨p, 0, none⟩), .pointer (some ⟨p, 0, none⟩), .pointer (some ⟨p, 4, none⟩), .int .u32 (e : Nat), .slice (some ⟨b, o, none⟩) row.length c, .int .i64 (at_ : Nat), .slice (some ⟨b, o + at_, none⟩) (row.length - at_) (c - at_), .tuple #[v, .int .i64 (openN e (row.drop at_) : Nat), .int .i64 (openE e (row.drop at_) : Nat)], v, .int .i64 (openN e (row.drop at_) : Nat), .int .i64 (openE e (row.drop at_) : Nat), u24, u25, u26, u27, u28, u29, u30, u31, u32, u33, u34, u35, u36, u37, u38, u39], defers := [] } ∧ Row w1 wr.heap.size v (openB e (row.drop at_)) ∧ Below wr.heap.size wr w1) ?_ ?_
      case refine_2 =>
        have QD : Hid (wr.drew.cell? ⟨Bn, 0, none⟩ = some (.pointer (some ⟨p, 0, none⟩)) ∧ wr.drew.cell? ⟨Bn + 1, 0, none⟩ = some (.slice (some ⟨b, o, none⟩) row.length c) ∧ wr.drew.cell? ⟨p, 4, none⟩ = some (.int .u32 (e : Nat))) := Lib.hid ⟨d0, d1, e4⟩
        clear d0 d1 e4
        refine wp_region_held_drew (S := fun W => W.cell? ⟨Bn, 0, none⟩ = some (.pointer (some ⟨p, 0, none⟩)) ∧ W.cell? ⟨Bn + 1, 0, none⟩ = some (.slice (some ⟨b, o, none⟩) row.length c) ∧ W.cell? ⟨p, 4, none⟩ = some (.int .u32 (e : Nat))) (by kernel_rfl) QD.out (fun _ => ?_)
        refine wpAnyH_take (i := 0) (oi := { dst := some 13, op := Op.load 30 (Operand.tmp 2), type := 30, pos := "row.go:33", after := #[], guard := none }) (v := ?_) rfl (by kernel_rfl) (by kernel_rfl) (by kernel_rfl) (fun _ _ _ h => by cases h.1) (Or.inl ⟨by rfl, ?_⟩) QD.out ?_
        rotate_left
        · (intro w hw; obtain ⟨e0, e1, e2⟩ := hw; go_simp; try with_reducible rfl)
        simp only [Act.put, List.setIfInBounds_toArray, List.set_cons_zero, List.set_cons_succ]
        refine wpAnyH_take (i := 1) (oi := { dst := some 14, op := Op.nilCheck (Operand.tmp 13), type := 0, pos := "row.go:33", after := #[{ on := 0, ground := Ground.data }], guard := none }) (v := ?_) rfl (by kernel_rfl) (by kernel_rfl) (by kernel_rfl) (fun _ _ _ h => by cases h.1) (Or.inl ⟨by rfl, ?_⟩) QD.out ?_
        rotate_left
        · (intro w hw; obtain ⟨e0, e1, e2⟩ := hw; go_simp; try with_reducible rfl)
        simp only [Act.put, List.setIfInBounds_toArray, List.set_cons_zero, List.set_cons_succ]
        refine wpAnyH_take (i := 2) (oi := { dst := some 15, op := Op.fieldAddr 57 (Operand.tmp 14) 4, type := 0, pos := "row.go:33", after := #[{ on := 1, ground := Ground.data }], guard := none }) (v := ?_) rfl (by kernel_rfl) (by kernel_rfl) (by kernel_rfl) (fun _ _ _ h => by cases h.1) (Or.inl ⟨by rfl, ?_⟩) QD.out ?_
        rotate_left
        · (intro w hw; obtain ⟨e0, e1, e2⟩ := hw; go_simp; try with_reducible rfl)
        simp only [Act.put, List.setIfInBounds_toArray, List.set_cons_zero, List.set_cons_succ]
        refine wpAnyH_take (i := 3) (oi := { dst := some 16, op := Op.load 22 (Operand.tmp 15), type := 22, pos := "row.go:33", after := #[{ on := 2, ground := Ground.data }], guard := none }) (v := ?_) rfl (by kernel_rfl) (by kernel_rfl) (by kernel_rfl) (fun _ _ _ h => by cases h.1) (Or.inl ⟨by rfl, ?_⟩) QD.out ?_
        rotate_left
        · (intro w hw; obtain ⟨e0, e1, e2⟩ := hw; go_simp; try with_reducible rfl)
        simp only [Act.put, List.setIfInBounds_toArray, List.set_cons_zero, List.set_cons_succ]
        refine wpAnyH_take (i := 4) (oi := { dst := some 17, op := Op.load 35 (Operand.tmp 1), type := 35, pos := "row.go:33", after := #[], guard := none }) (v := ?_) rfl (by kernel_rfl) (by kernel_rfl) (by kernel_rfl) (fun _ _ _ h => by cases h.1) (Or.inl ⟨by rfl, ?_⟩) QD.out ?_
        rotate_left
        · (intro w hw; obtain ⟨e0, e1, e2⟩ := hw; go_simp; try with_reducible rfl)
        simp only [Act.put, List.setIfInBounds_toArray, List.set_cons_zero, List.set_cons_succ]
        refine wpAnyH_take (i := 5) (oi := { dst := some 18, op := Op.move (Operand.tmp 4), type := 3, pos := "row.go:33", after := #[], guard := none }) (v := ?_) rfl (by kernel_rfl) (by kernel_rfl) (by kernel_rfl) (fun _ _ _ h => by cases h.1) (Or.inl ⟨by rfl, ?_⟩) QD.out ?_
        rotate_left
        · (intro w hw; obtain ⟨e0, e1, e2⟩ := hw; go_simp; try with_reducible rfl)
        simp only [Act.put, List.setIfInBounds_toArray, List.set_cons_zero, List.set_cons_succ]
        refine wpAnyH_take (i := 6) (oi := { dst := some 19, op := Op.slice 35 (Operand.tmp 17) (some (Operand.tmp 18)) none none, type := 35, pos := "row.go:33", after := #[{ on := 4, ground := Ground.data }, { on := 5, ground := Ground.data }], guard := none }) (v := .slice (some ⟨b, o + at_, none⟩) (row.length - at_) (c - at_)) rfl (by kernel_rfl) (by kernel_rfl) (by kernel_rfl) (fun _ _ _ h => by cases h.1) (Or.inl ⟨by rfl, ?_⟩) QD.out ?_
        · (intro w hw; obtain ⟨e0, e1, e2⟩ := hw; go_simp; rw [if_pos (by omega), if_neg (by omega)])
        simp only [Act.put, List.setIfInBounds_toArray, List.set_cons_zero, List.set_cons_succ]
        refine wpAnyH_ready (rs := [7]) (by kernel_rfl) (by simp) ?_
        refine AllReadyH.cons (o := { dst := some 20, op := Op.call { callee := Callee.value (Operand.func 58), args := #[Operand.tmp 16, Operand.tmp 19], argTypes := #[22, 35] }, type := 78, pos := "row.go:33", after := #[{ on := 3, ground := Ground.data }, { on := 6, ground := Ground.data }], guard := none }) rfl (fun K hK => ?_) AllReadyH.nil
        go_simp
        refine OP.out.mono ?_
        intro r w1 hT
        obtain ⟨v, hr1, hv, hb1⟩ := hT
        subst hr1
        have Q1 : Hid (w1.cell? ⟨Bn, 0, none⟩ = some (.pointer (some ⟨p, 0, none⟩)) ∧ w1.cell? ⟨Bn + 1, 0, none⟩ = some (.slice (some ⟨b, o, none⟩) row.length c) ∧ w1.cell? ⟨p, 4, none⟩ = some (.int .u32 (e : Nat))) := Lib.hid (by
          obtain ⟨y0, y1, y2⟩ := QD.out
          exact ⟨(hb1.cell (p := ⟨Bn, 0, none⟩) (World.block_lt_of_cell? _ _ y0)).trans y0, (hb1.cell (p := ⟨Bn + 1, 0, none⟩) (World.block_lt_of_cell? _ _ y1)).trans y1, (hb1.cell (p := ⟨p, 4, none⟩) (World.block_lt_of_cell? _ _ y2)).trans y2⟩)
        refine hK.out _ _ Q1.out (fun _ => ?_)
        clear hK K
        try simp only [Act.put, List.setIfInBounds_toArray, List.set_cons_zero, List.set_cons_succ]
        refine wpAnyH_take (i := 8) (oi := { dst := some 12, op := Op.move (Operand.tmp 20), type := 78, pos := "row.go:33", after := #[{ on := 7, ground := Ground.data }], guard := none }) (v := ?_) rfl (by kernel_rfl) (by kernel_rfl) (by kernel_rfl) (fun _ _ _ h => by cases h.1) (Or.inl ⟨by rfl, ?_⟩) Q1.out ?_
        rotate_left
        · (intro w hw; obtain ⟨e0, e1, e2⟩ := hw; go_simp; try with_reducible rfl)
        simp only [Act.put, List.setIfInBounds_toArray, List.set_cons_zero, List.set_cons_succ]
        refine wpAnyH_take (i := 9) (oi := { dst := some 21, op := Op.extract (Operand.tmp 12) 0, type := 35, pos := "row.go:33", after := #[{ on := 8, ground := Ground.data }], guard := none }) (v := ?_) rfl (by kernel_rfl) (by kernel_rfl) (by kernel_rfl) (fun _ _ _ h => by cases h.1) (Or.inl ⟨by rfl, ?_⟩) Q1.out ?_
        rotate_left
        · (intro w hw; obtain ⟨e0, e1, e2⟩ := hw; go_simp; try with_reducible rfl)
        simp only [Act.put, List.setIfInBounds_toArray, List.set_cons_zero, List.set_cons_succ]
        refine wpAnyH_take (i := 10) (oi := { dst := some 22, op := Op.extract (Operand.tmp 12) 1, type := 3, pos := "row.go:33", after := #[{ on := 8, ground := Ground.data }, { on := 12, ground := Ground.gcOnly Departure.lateStores }], guard := none }) (v := ?_) rfl (by kernel_rfl) (by kernel_rfl) (by kernel_rfl) (fun _ _ _ h => by cases h.1) (Or.inl ⟨by rfl, ?_⟩) Q1.out ?_
        rotate_left
        · (intro w hw; obtain ⟨e0, e1, e2⟩ := hw; go_simp; try with_reducible rfl)
        simp only [Act.put, List.setIfInBounds_toArray, List.set_cons_zero, List.set_cons_succ]
        refine wpAnyH_take (i := 11) (oi := { dst := some 23, op := Op.extract (Operand.tmp 12) 2, type := 27, pos := "row.go:33", after := #[{ on := 8, ground := Ground.data }, { on := 13, ground := Ground.gcOnly Departure.lateStores }], guard := none }) (v := ?_) rfl (by kernel_rfl) (by kernel_rfl) (by kernel_rfl) (fun _ _ _ h => by cases h.1) (Or.inl ⟨by rfl, ?_⟩) Q1.out ?_
        rotate_left
        · (intro w hw; obtain ⟨e0, e1, e2⟩ := hw; go_simp; try with_reducible rfl)
        simp only [Act.put, List.setIfInBounds_toArray, List.set_cons_zero, List.set_cons_succ]
        refine wpAnyH_take (i := 12) (oi := { dst := some 5, op := Op.assign (Operand.tmp 21), type := 35, pos := "row.go:33", after := #[{ on := 9, ground := Ground.data }, { on := 7, ground := Ground.chain }, { on := 0, ground := Ground.phase }, { on := 1, ground := Ground.phase }, { on := 2, ground := Ground.phase }, { on := 3, ground := Ground.phase }, { on := 4, ground := Ground.phase }, { on := 5, ground := Ground.phase }, { on := 6, ground := Ground.phase }, { on := 7, ground := Ground.phase }, { on := 8, ground := Ground.phase }, { on := 9, ground := Ground.phase }, { on := 10, ground := Ground.textOnly Departure.lateStores }, { on := 11, ground := Ground.textOnly Departure.lateStores }], guard := none }) (v := ?_) rfl (by kernel_rfl) (by kernel_rfl) (by kernel_rfl) (fun _ _ _ h => by cases h.1) (Or.inl ⟨by rfl, ?_⟩) Q1.out ?_
        rotate_left
        · (intro w hw; obtain ⟨e0, e1, e2⟩ := hw; go_simp; try with_reducible rfl)
        simp only [Act.put, List.setIfInBounds_toArray, List.set_cons_zero, List.set_cons_succ]
        refine wpAnyH_take (i := 13) (oi := { dst := some 6, op := Op.assign (Operand.tmp 22), type := 3, pos := "row.go:33", after := #[{ on := 10, ground := Ground.data }, { on := 12, ground := Ground.chain }, { on := 0, ground := Ground.phase }, { on := 1, ground := Ground.phase }, { on := 2, ground := Ground.phase }, { on := 3, ground := Ground.phase }, { on := 4, ground := Ground.phase }, { on := 5, ground := Ground.phase }, { on := 6, ground := Ground.phase }, { on := 7, ground := Ground.phase }, { on := 8, ground := Ground.phase }, { on := 9, ground := Ground.phase }, { on := 10, ground := Ground.phase }, { on := 11, ground := Ground.textOnly Departure.lateStores }, { on := 12, ground := Ground.phase }], guard := none }) (v := ?_) rfl (by kernel_rfl) (by kernel_rfl) (by kernel_rfl) (fun _ _ _ h => by cases h.1) (Or.inl ⟨by rfl, ?_⟩) Q1.out ?_
        rotate_left
        · (intro w hw; obtain ⟨e0, e1, e2⟩ := hw; go_simp; try with_reducible rfl)
        simp only [Act.put, List.setIfInBounds_toArray, List.set_cons_zero, List.set_cons_succ]
        refine wpAnyH_take (i := 14) (oi := { dst := some 7, op := Op.assign (Operand.tmp 23), type := 27, pos := "row.go:33", after := #[{ on := 11, ground := Ground.data }, { on := 13, ground := Ground.chain }, { on := 0, ground := Ground.phase }, { on := 1, ground := Ground.phase }, { on := 2, ground := Ground.phase }, { on := 3, ground := Ground.phase }, { on := 4, ground := Ground.phase }, { on := 5, ground := Ground.phase }, { on := 6, ground := Ground.phase }, { on := 7, ground := Ground.phase }, { on := 8, ground := Ground.phase }, { on := 9, ground := Ground.phase }, { on := 10, ground := Ground.phase }, { on := 11, ground := Ground.phase }, { on := 12, ground := Ground.phase }, { on := 13, ground := Ground.phase }], guard := none }) (v := ?_) rfl (by kernel_rfl) (by kernel_rfl) (by kernel_rfl) (fun _ _ _ h => by cases h.1) (Or.inl ⟨by rfl, ?_⟩) Q1.out ?_
        rotate_left
        · (intro w hw; obtain ⟨e0, e1, e2⟩ := hw; go_simp; try with_reducible rfl)
        simp only [Act.put, List.setIfInBounds_toArray, List.set_cons_zero, List.set_cons_succ]
        refine wpAnyH_done (by kernel_rfl) ?_ _
        exact ⟨rfl, v, rfl, hv, below_next ((Below.refl wr.heap.size wr).drew) hb1⟩
      rintro ex a1 w1 ⟨rfl, v, rfl, hv, hb1⟩
      dsimp only
      have HJ1 := Lib.hid (HHJ.out _ _ _ HJ.out hb1)
      have HB1 := Lib.hid (HB.out.trans (hb1.mono HB.out.size))
      have HX1 := Lib.hid (And.intro (HX.out.1.below hb1 HX.out.1.lt) (HX.out.2.below hb1 HX.out.2.lt))
      have HB0 := HB.out.size
      clear HJ HB HX d0 d1 e4
      have HSA : Hid (standA e f row (row.length + 1) at_ = if at_ < row.length ∧ openE e (row.drop at_) = 0 then (openB e (row.drop at_), at_ + openN e (row.drop at_)) :: standA e f row row.length (beg f (at_ + openN e (row.drop at_))) else []) := Lib.hid rfl
      by_cases h0 : openE e (row.drop at_) = 0
      · have hop := openN_pos h0
        rw [List.length_drop] at hop
        rw [if_pos ⟨hlt, h0⟩] at HSA
        rw [h0]
        obtain ⟨A', c', rfl, -, -, -⟩ := hv.shape
        have hfx : RcIn w0.heap.size ⟨A', c', openB e (row.drop at_), at_ + openN e (row.drop at_)⟩ w1 := hv.le HB0
        obtain ⟨fn, tmps, assign, body, hy, hR⟩ := HY.out pre ⟨A', c', openB e (row.drop at_), at_ + openN e (row.drop at_)⟩ w1 HJ1.out hfx (by omega)
        have BG := Lib.hid fun (W3 : World) (c3' : W3.cell? ⟨p, 3, none⟩ = some (.int .i64 (f : Nat))) => begin_q p f (at_ + openN e (row.drop at_)) W3 c3' hf1 hf2 (by omega)
        have hbb := beg_bounds f (at_ + openN e (row.drop at_)) (by omega)
        have HEN := Lib.hid (standA_enough e f row (by omega) row.length (row.length + 1) (beg f (at_ + openN e (row.drop at_))) (by omega) (by omega))
        dsimp only [encR] at hy
        generalize openB e (row.drop at_) = ob1 at *
        generalize openN e (row.drop at_) = on1 at *
        generalize beg f (at_ + on1) = bg1 at *
        rw [Int.natCast_add] at hy
        clear HY hfx hv h0
        gi_wp2
        refine hR.mono ?_
        rintro r W3 ⟨rfl, hJ3, hk3⟩
        have HJ3 := Lib.hid hJ3
        have HB3 := Lib.hid (HB1.out.trans hk3.1)
        have HX3 := Lib.hid (And.intro (show Whole W3 Bn 30 #[.pointer (some ⟨p, 0, none⟩)] from hk3.2.1.trans HX1.out.1) (show Whole W3 (Bn + 1) 35 #[.slice (some ⟨b, o, none⟩) row.length c] from hk3.2.2.trans HX1.out.2))
        have d0 := HX3.out.1.cell 0
        simp only [List.getElem?_toArray, List.getElem?_cons_zero] at d0
        have BG3 := BG.out W3 ((HB3.out.cell (p := ⟨p, 3, none⟩) hp).trans c3)
        rw [Int.natCast_add] at BG3
        replace BG3 := Lib.hid BG3
        clear hJ3 hk3 HX1 HB1 HJ1 hy hR BG
        gi_wp2
        refine ⟨trivial, ?_⟩
        refine (callsIn_wide.2 BG3.out).mono ?_
        rintro r W4 ⟨rfl, k4, rfl⟩
        have hd4 : Below W3.heap.size W3 (W3.drewN k4) := below_drewN (Below.refl _ _) k4
        have HJ4 := Lib.hid (HHJ.out _ _ _ HJ3.out hd4)
        have HB4 := Lib.hid (HB3.out.trans (hd4.mono HB3.out.size))
        have HX4 := Lib.hid (And.intro (HX3.out.1.below hd4 HX3.out.1.lt) (HX3.out.2.below hd4 HX3.out.2.lt))
        clear HJ3 HB3 HX3 hd4 d0 BG3
        gi_wp2
        refine ⟨⟨bg1, pre ++ [⟨A', c', ob1, at_ + on1⟩], by omega, by (rw [List.length_append, List.length_singleton]; omega), rfl, HB4.out, HX4.out.1, HX4.out.2, HJ4.out, ?_⟩, by simp [intOf]; omega⟩
        rw [HST.out, HSA.out, HEN.out]
        simp
      · rw [if_neg (fun hh => h0 hh.2)] at HSA
        have hEb : (((openE e (row.drop at_) : Nat) : Int) == 0) = false := by simp; omega
        clear HY
        gi_wp2
        refine ⟨fun _ h => (by cases h), ?_⟩
        gi_wp2
        refine bodyPost_ret (results_none rfl _ _ _) rfl ?_
        exact ⟨⟨_, rfl⟩, pre, by rw [HST.out, HSA.out, List.append_nil], HJ1.out⟩
    · have hlti : ¬ (at_ : Int) < (row.length : Int) := by omega
      have d1 := hx1.cell 0
      simp only [List.getElem?_toArray, List.getElem?_cons_zero] at d1
      have HSA : Hid (standA e f row (row.length + 1) at_ = []) := Lib.hid (if_neg (fun hh => hlt hh.1))
      have HST := Lib.hid hst
      clear hst
      gi_wp2
      go_end0
      exact ⟨⟨_, rfl⟩, pre, by rw [HST.out, HSA.out, List.append_nil], hj⟩
end Go.Proofs.Ythoihlebplmcoaa
