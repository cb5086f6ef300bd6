/- The reader's row. -/
import Derived.Test.YtmpiknaoocflcaaS1
namespace Go.Proofs.Ytmpiknaoocflcaa
open Go.RowKit

/-- so many values. -/
def valsOf : Nat → List UInt8 → Option (List Tri × List UInt8)
  | 0, l => some ([], l)
  | n + 1, l => match valsOf n l with
    | some (vs, l') => (match valOf l' with | some (v, l'') => some (vs ++ [v], l'') | none => none)
    | none => none
def rowOf (l : List UInt8) : Option (List Tri × List UInt8) := match numOf l with
  | some (n, l') => if 1000 < n then none else valsOf n l'
  | none => none
theorem valsOf_length : ∀ (n : Nat) (l l' : List UInt8) (vs : List Tri), valsOf n l = some (vs, l') → vs.length = n
  | 0, l, l', vs => by intro h; injection h with h; injection h with h1 h2; subst h1; rfl
  | n + 1, l, l', vs => by
    intro h
    unfold valsOf at h
    cases hq : valsOf n l with
    | none => rw [hq] at h; cases h
    | some p =>
      obtain ⟨us, l1⟩ := p
      rw [hq] at h
      simp only at h
      cases hv : valOf l1 with
      | none => rw [hv] at h; cases h
      | some p =>
        obtain ⟨u, l2⟩ := p
        rw [hv] at h
        injection h with h
        injection h with h1 h2
        subst h1
        rw [List.length_append, valsOf_length n l l1 us hq]; rfl
theorem valsOf_none (n : Nat) (l : List UInt8) (h : valsOf n l = none) : ∀ k, n ≤ k → valsOf k l = none
  | 0, hk => by rw [Nat.le_zero.1 hk] at h; exact h
  | k + 1, hk => by
    rcases Nat.lt_or_ge n (k + 1) with h1 | h1
    · unfold valsOf
      rw [valsOf_none n l h k (by omega)]
    · rw [← Nat.le_antisymm hk h1]; exact h
/-- values in cells. -/
def Tris (cs : Array Value) (vs : List Tri) : Prop := ∀ i (h : i < vs.length), cs[i * 3]? = some (.int .i64 vs[i].1) ∧ cs[i * 3 + 1]? = some (.int .i64 vs[i].2.1) ∧ cs[i * 3 + 2]? = some (.string vs[i].2.2)
/-- a block of m values, of which some are known. -/
def VBlock (w : World) (q m : Nat) (vs : List Tri) : Prop := ∃ cs, Whole w q 42 cs ∧ cs.size = m * 3 ∧ Tris cs vs
theorem VBlock.grown {W W' : World} {q m r : Nat} {vs : List Tri} (h : VBlock W q m vs) (hg : W.grownBy W' (some r)) (hq : q ≠ r) : VBlock W' q m vs := by
  obtain ⟨cs, hw, h1, h2⟩ := h
  refine ⟨cs, ?_, h1, h2⟩
  unfold Whole at *
  rw [hg.block q (Whole.lt hw) (fun e => hq (by injection e))]
  exact hw
theorem VBlock.below {B : Nat} {W W' : World} {q m : Nat} {vs : List Tri} (h : VBlock W q m vs) (hb : Below B W W') (hq : q < B) : VBlock W' q m vs := by
  obtain ⟨cs, hw, h1, h2⟩ := h
  exact ⟨cs, hw.below hb hq, h1, h2⟩
theorem VBlock.lt {W : World} {q m : Nat} {vs : List Tri} (h : VBlock W q m vs) : q < W.heap.size := by
  obtain ⟨cs, hw, -⟩ := h
  exact hw.lt
theorem VBlock.spot {W : World} {q m i : Nat} {vs : List Tri} (h : VBlock W q m vs) (hi : i < m) (j : Nat) (hj : j < 3) : ∃ u, W.cell? ⟨q, i * 3 + j, none⟩ = some u := by
  obtain ⟨cs, hw, h1, h2⟩ := h
  exact ⟨cs[i * 3 + j]'(by omega), by rw [hw.cell]; exact Array.getElem?_eq_getElem _⟩
theorem VBlock.frozen {W : World} {q m : Nat} {vs : List Tri} (h : VBlock W q m vs) (i : Nat) : W.frozen? ⟨q, i, none⟩ = false := by
  obtain ⟨cs, hw, h1, h2⟩ := h
  exact hw.frozen i
theorem VBlock.put {W : World} {q m i : Nat} {vs : List Tri} (h : VBlock W q m vs) (hi : vs.length < m) (hv : vs.length = i) (v : Tri) :
    VBlock (((W.setCell ⟨q, i * 3, none⟩ (.int .i64 v.1)).setCell ⟨q, i * 3 + 1, none⟩ (.int .i64 v.2.1)).setCell ⟨q, i * 3 + 2, none⟩ (.string v.2.2)) q m (vs ++ [v]) := by
  obtain ⟨cs, hw, h1, h2⟩ := h
  subst hv
  refine ⟨_, ((hw.set_ (vs.length * 3) _).set_ (vs.length * 3 + 1) _).set_ (vs.length * 3 + 2) _, by simpa using h1, ?_⟩
  intro j hj
  rw [List.length_append, List.length_singleton] at hj
  rcases Nat.lt_or_ge j vs.length with hlt | hge
  · rw [List.getElem_append_left hlt]
    obtain ⟨k0, k1, k2⟩ := h2 j hlt
    refine ⟨?_, ?_, ?_⟩ <;> (repeat rw [Array.getElem?_setIfInBounds_ne (by omega)]) <;> assumption
  · have hj2 : j = vs.length := by omega
    subst hj2
    rw [List.getElem_append_right (by omega)]
    simp only [Nat.sub_self, List.getElem_cons_zero]
    refine ⟨?_, ?_, ?_⟩
    · rw [Array.getElem?_setIfInBounds_ne (by omega), Array.getElem?_setIfInBounds_ne (by omega), Array.getElem?_setIfInBounds_self_of_lt (by omega)]
    · rw [Array.getElem?_setIfInBounds_ne (by omega), Array.getElem?_setIfInBounds_self_of_lt (by simp; omega)]
    · rw [Array.getElem?_setIfInBounds_self_of_lt (by simp; omega)]
theorem info42 : (Try.prog.info? 42).map (fun i => (i.zero.isSome, i.size, decide (i.bytes ≤ 1000))) = some (true, 3, true) := by kernel_rfl
/-- a list of values that is made. -/
theorem make_vals (n : Nat) (hn : n ≤ 1000) : ∃ cs : Array Value, cs.size = n * 3 ∧ ∀ W : World,
    Sem.run Try.prog (Instr.makeSlice 40 (.int .u64 (n : Nat)) (.int .u64 (n : Nat))) W = .ok (.slice (some ⟨W.heap.size, 0, none⟩) n n) (W.alloc (.cells cs 42)) := by
  have h := info42
  cases hi : Try.prog.info? 42 with
  | none => rw [hi] at h; simp at h
  | some i =>
    rw [hi] at h
    simp at h
    obtain ⟨h1, h2, h3⟩ := h
    obtain ⟨z, hz⟩ := Option.isSome_iff_exists.1 h1
    refine ⟨madeCells z.cells (n * i.size), by rw [size_madeCells, h2], fun W => ?_⟩
    have hb : (i.bytes : Int) * (n : Int) ≤ 1000 * 1000 := Int.mul_le_mul (by omega) (by omega) (by omega) (by omega)
    have := run_make (P := Try.prog) W 40 42 i _ Try.underlying40 hi hz .u64 .u64 (n : Int) (n : Int) (by omega) (by omega) (by omega) (by omega)
    rw [this, show ((n : Int)).toNat = n by omega]

def RowAt (w w' : World) (vs : List Tri) (v : Value) : Prop := ∃ q, v = .slice (some ⟨q, 0, none⟩) vs.length vs.length ∧ w.heap.size ≤ q ∧ VBlock w' q vs.length vs
/-- how the row stands in the midst of its reading. -/
def RowIn (w0 w1 : World) (r q m : Nat) (b1 : Bool) (l1 : List UInt8) (i : Nat) (W : World) : Prop :=
  ∃ (l' : List UInt8) (b' : Bool) (vs : List Tri), vs.length = i ∧ l'.length ≤ l1.length ∧ Rdr w0 w1 W r l' b' ∧ VBlock W q m vs ∧ ((valsOf i l1 = some (vs, l') ∧ b' = b1) ∨ (valsOf i l1 = none ∧ b' = true))

section
variable {w0 w1 W : World} {r : Nat} {l : List UInt8} {b : Bool}
set_option maxRecDepth 100000 in
set_option maxHeartbeats 1000000 in
theorem row_any (h : Rdr w0 w1 W r l b) (hl : l.length ≤ 9000000) (h0 : w0.heap.size ≤ W.heap.size) (h1 : w1.heap.size ≤ W.heap.size) :
    Calls Try.prog 49 #[.pointer (some ⟨r, 0, none⟩)] W fun e w' => ∃ v : Value, e = .returned v ∧ Read w0 w1 r b l.length (rowOf l) (fun vs => RowAt W w' vs v) w' := by
  have NA := Lib.hid (number_any h.rebase hl)
  have HG := Lib.hid h.grown.2
  have hrW := h.lt
  clear h
  go_enter Try.func49, Try.ntmps49
  go_wp2_with fail
  refine NA.out.mono ?_
  rintro e u1 ⟨m, hm, rfl, hr⟩
  obtain ⟨l1, b1, hl1, hrd, hcase⟩ := read_state hr
  have hsz := hrd.grown.2.size
  have HC := Lib.hid hcase
  clear hr NA hcase
  by_cases hbig : 1000 < m
  · obtain ⟨A, c, k0, k1, g0, g1, -⟩ := hrd.cells
    have hw := hrd.wrongly true
    have R := Lib.hid (hw.back HG.out)
    have hbig' : (1000 : Int) < (m : Int) := by omega
    clear hrd hw
    go_wp2_with fail
    go_ret
    refine ⟨_, rfl, ?_⟩
    refine Read.of (l1 := l1) (b1 := true) hl1 (.inr ⟨?_, rfl⟩) R.out
    unfold rowOf
    rcases HC.out with ⟨x, hx, rfl, -⟩ | ⟨hx, -⟩
    · rw [hx]; simp only; rw [if_pos hbig]
    · rw [hx]
  · have hbig' : ¬ (1000 : Int) < (m : Int) := by omega
    have hm' : m ≤ 1000 := by omega
    obtain ⟨cs, hcs, MK⟩ := make_vals m hm'
    have hq : u1.heap.size ≠ r := by have := hrd.lt; omega
    have bal : Below u1.heap.size u1 (u1.alloc (.cells cs 42)) := (Below.refl _ _).alloc (Nat.le_refl _) _
    have START := Lib.hid (show RowIn w0 w1 r u1.heap.size m b1 l1 0 (u1.alloc (.cells cs 42)) from ⟨l1, b1, [], rfl, Nat.le_refl _, (hrd.over bal).back HG.out, ⟨cs, Whole.new u1 42 cs, hcs, fun i hi => absurd hi (by simp)⟩, .inl ⟨rfl, rfl⟩⟩)
    clear hrd bal
    go_wp2_with fail
    clear MK
    generalize hq0 : u1.heap.size = q at *
    go_loopg [16] (m + 1) (fun j s16 wr => ∃ i : Nat, i ≤ m ∧ m < i + j ∧ s16 = .int .u64 (i : Nat) ∧ RowIn w0 w1 r q m b1 l1 i wr)
    case atStart => exact ⟨0, by omega, by omega, rfl, START.out⟩
    case round =>
      obtain ⟨i, hi, hj, rfl, hrow⟩ := hrel
      clear START
      by_cases hend : i = m
      · subst hend
        have HR := Lib.hid hrow
        clear hrow
        have hno : ¬ (i : Int) < (i : Int) := by omega
        go_wp2_with fail
        go_ret
        obtain ⟨l', b', vs, hv, hle, hr, hb, hc⟩ := HR.out
        refine ⟨_, rfl, ?_⟩
        refine Read.of (l1 := l') (b1 := b') (by omega) ?_ hr
        unfold rowOf
        rcases HC.out with ⟨x, hx, hx2, hb1⟩ | ⟨hx, hb1⟩
        · rw [hx, ← hx2]; simp only; rw [if_neg (by omega)]
          rcases hc with ⟨hy, hb2⟩ | ⟨hy, hb2⟩
          · left
            exact ⟨vs, hy, ⟨q, by rw [hv]; rfl, by omega, by rw [hv]; exact hb⟩, by rw [hb2, hb1]⟩
          · right; exact ⟨hy, hb2⟩
        · rw [hx]
          right
          refine ⟨rfl, ?_⟩
          rcases hc with ⟨hy, hb2⟩ | ⟨hy, hb2⟩
          · rw [hb2, hb1]
          · exact hb2
      · have hlt : i < m := by omega
        have hlt' : (i : Int) < (m : Int) := by omega
        obtain ⟨l', b', vs, hv, hle, hr, hb, hc⟩ := hrow
        have hqw := hb.lt
        have VA := Lib.hid (value_any hr.rebase (by omega))
        have HGr := Lib.hid hr.grown.2
        have HB := Lib.hid hb
        have HCC := Lib.hid hc
        clear hr hb hc
        go_wp2_with fail
        refine VA.out.mono ?_
        rintro e u2 ⟨v, rfl, hr2⟩
        obtain ⟨l2, b2, hl2, hrd2, hcase2⟩ := read_state hr2
        have hb3 := HB.out.grown hrd2.grown.2 hq
        obtain ⟨x0, c0⟩ := hb3.spot hlt 0 (by omega)
        obtain ⟨x1, c1⟩ := hb3.spot hlt 1 (by omega)
        obtain ⟨x2, c2⟩ := hb3.spot hlt 2 (by omega)
        have f0 := hb3.frozen (i * 3)
        have f1 := hb3.frozen (i * 3 + 1)
        have f2 := hb3.frozen (i * 3 + 2)
        have PUT := Lib.hid (hb3.put (by omega) hv v)
        have R2 := Lib.hid (hrd2.back HGr.out)
        have HC2 := Lib.hid hcase2
        clear hr2 VA hrd2 hcase2 hb3 HB HGr
        rw [Nat.add_zero] at c0
        unfold tval
        go_wp2_with fail
        go_roundg (m - i)
        case measure => omega
        case rel =>
          refine ⟨i + 1, by omega, by omega, rfl, l2, b2, vs ++ [v], by rw [List.length_append, hv]; rfl, by omega, ((R2.out.lay (by omega) (by omega) hq _ _).lay (by omega) (by omega) hq _ _).lay (by omega) (by omega) hq _ _, PUT.out, ?_⟩
          unfold valsOf
          rcases HCC.out with ⟨hy, hb2⟩ | ⟨hy, hb2⟩
          · rw [hy]
            simp only
            rcases HC2.out with ⟨x, hx, hx2, hb3⟩ | ⟨hx, hb3⟩
            · left; rw [hx, hx2]; exact ⟨rfl, by rw [hb3, hb2]⟩
            · right; rw [hx]; exact ⟨rfl, hb3⟩
          · right
            rw [hy]
            refine ⟨rfl, ?_⟩
            rcases HC2.out with ⟨x, hx, hx2, hb3⟩ | ⟨hx, hb3⟩
            · rw [hb3, hb2]
            · exact hb3
end
end Go.Proofs.Ytmpiknaoocflcaa
