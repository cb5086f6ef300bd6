/- What is left of a sector for a pattern: the iterator over its writes, the last one first; left. -/
import Derived.Test.YtmcgjlidfgbdfaaDK5
import Derived.RangeFuncNested
import Derived.RangeFuncBound
import Derived.RangeFuncCalls
import Derived.RangeFuncLeaves
import Derived.RangeFuncFrom
import Derived.Shelf.Abstract
import Derived.Shelf.RegionOpen
import Derived.OwnWalkIn
import Derived.TacticsInMore
import Derived.LoopNIn
import Derived.LoopIn
import Derived.StillTailTactics
import Derived.OrdersIn
import Derived.TacticsIn
namespace Go.Proofs.Ytmcgjlidfgbdfaa
open Go.RowKit Go.Shelf
attribute [local go_sem] Oper.semAt_some


/-! a region whose reads, in whatever order, all feed one last call: in the wide fence -/
section
variable {n : Nat} {P : Program} {ops : Array Oper} {md : Region.Mode} {w : World}
theorem wpIn_of_still {o : Oper} {a : Act} {K : Act → Prop} {K' : Act → World → Prop} {Q' : Exit → Act → World → Prop} (h : ∀ a, K a → K' a w) (hh : o.still P a w K) : o.wpIn Fence.wide n P a w K' Q' := by
  unfold Oper.still at hh
  unfold Oper.wpIn
  refine ⟨fun _ _ => trivial, ?_⟩
  rw [show Fence.wide.round = none from rfl, Oper.semAt_none]
  generalize (execOp a.eval o).run P w = r at *
  cases r with
  | ok x w' =>
    cases x <;> simp only [Oper.stillUpon] at hh <;> simp only [Oper.uponIn]
    case enter f args =>
      obtain ⟨rfl, v, hc, hn⟩ := hh
      exact ⟨fun h => (by cases h), callsIn_wide.2 (hc.mono fun e w'' ⟨he, hw⟩ => by subst he; subst hw; exact h _ hn)⟩
    all_goals (obtain ⟨rfl, h2⟩ := hh; exact h _ h2)
  | halt x w' => simp only [Oper.stillUpon] at hh
theorem wpOpIn_of_stOp {i : Nat} {a : Act} {K : Act → Prop} {K' : Act → World → Prop} {Q' : Exit → Act → World → Prop} (h : ∀ a, K a → K' a w) (hh : stOp P ops w i K a) : wpOpIn Fence.wide n P ops Q' i K' a w := by
  unfold stOp at hh
  unfold wpOpIn
  split
  · rename_i ho; simp only [ho] at hh; exact h _ hh
  · rename_i o ho
    simp only [ho] at hh
    split
    · rename_i hw; simp only [hw, if_true] at hh; exact wpIn_of_still h hh
    · rename_i hw; simp only [hw] at hh; exact ⟨fun _ _ => trivial, h _ hh⟩
theorem wpAnyIn_of_head {m g : Nat} {L : Array Bool → Act → Prop} {Q' : Exit → Act → World → Prop} (hL : ∀ listed a, L listed a → wpAnyIn Fence.wide n P md ops Q' g listed a w) :
    ∀ (f : Nat) (listed : Array Bool) (a : Act), wpAnyL P md ops w m L f listed a → wpAnyIn Fence.wide n P md ops Q' (f + g) listed a w
  | 0, listed, a, h => by rw [Nat.zero_add]; exact hL _ _ h
  | f + 1, listed, a, h => by
    rw [show f + 1 + g = (f + g) + 1 by omega]
    exact ⟨fun h0 => absurd h0 h.1, fun i hi => wpOpIn_of_stOp (fun a' h' => wpAnyIn_of_head hL f _ a' h') (h.2 i hi).2⟩
theorem wpAnyIn_of_seq {Q' : Exit → Act → World → Prop} : ∀ (l : List Oper) (k : Nat) (listed : Array Bool) (a : Act) (w : World), (∀ j, l[j]? = ops[k + j]?) →
    Region.seqB md ops l.length k listed = true → wpListIn Fence.wide n P ops Q' l a w → wpAnyIn Fence.wide n P md ops Q' l.length listed a w
  | [], _, _, _, _, _, hB, h => ⟨by simpa [Region.seqB] using hB, h⟩
  | o :: l, k, listed, a, w, hl, hB, h => by
    have h0 : ops[k]? = some o := by simpa using (hl 0).symm
    simp only [List.length_cons, Region.seqB, Bool.and_eq_true, decide_eq_true_eq] at hB
    refine ⟨fun h1 => (by rw [hB.1] at h1; cases h1), fun i hi => ?_⟩
    rw [hB.1] at hi
    have hik : i = k := by simpa using hi
    subst hik
    have hw : wpOpIn Fence.wide n P ops Q' i (wpListIn Fence.wide n P ops Q' l) a w := by unfold wpOpIn; simp only [h0]; exact h
    exact wpOpIn_mono (fun a' w' h' => wpAnyIn_of_seq l (i + 1) _ a' w' (fun j => by have := hl (j + 1); simpa [Nat.add_assoc, Nat.add_comm 1 j] using this) hB.2 h') hw
theorem wpIn_region_still_tail {id : Nat} {Q : Exit → Act → World → Prop} {a : Act} {w : World} {l : List Oper} (m : Nat) (hm : P.follows .mixedOrders = true) (hB : Region.lexTailB .any l.toArray m = true)
    (h : wpStill P l.toArray { w with drawn := w.drawn + 1 } (fun a' => wpListIn Fence.wide n P l.toArray Q (l.drop m) a' { w with drawn := w.drawn + 1 }) (l.take m) a) : (Code.region id l.toArray true).wpIn Fence.wide n P Q a w := by
  simp only [Region.lexTailB, Bool.and_eq_true, decide_eq_true_eq] at hB
  obtain ⟨⟨⟨⟨hsel, hn⟩, hs⟩, hc⟩, hlex⟩ := hB
  have hn' : m < l.length := by simpa using hn
  have htl : (l.take m).length = m := by simp; omega
  have hdl : (l.drop m).length = l.toArray.size - m := by simp
  have inv0 : HeadInv .any l.toArray m (Array.replicate l.toArray.size false) :=
    ⟨by simp, fun j oj _ hl => (by rw [getD_replicate_false] at hl; cases hl), fun t _ ht => getD_in (by simpa using ht) (getD_replicate_false _ _)⟩
  have H := wpAnyL_lex (md := .any) (g := l.toArray.size - m) hsel hs hc hn (l.take m) 0 _ a (fun j hj => by
    have hj' : j < m := by rw [htl] at hj; exact hj
    simp [hj']) (by simpa using htl) inv0 (by rw [htl]; exact hlex) h
  refine wpIn_region_any hm ?_
  have := wpAnyIn_of_head (n := n) (Q' := Q) (g := l.toArray.size - m) (fun listed a' hL => by
    have := wpAnyIn_of_seq (n := n) (md := .any) (Q' := Q) (l.drop m) m listed a' { w with drawn := w.drawn + 1 } (fun j => by simp [List.getElem?_drop]) (by rw [hdl]; exact hL.1) hL.2
    rwa [hdl] at this) _ _ _ H
  rw [htl, show m + (l.toArray.size - m) = l.toArray.size by omega] at this
  exact this
end

abbrev encsW (x : Wt) : Array Value := #[.int .i64 x.n, .slice x.a x.b.length x.c]
/-- the iterator's own memory: the box of the sector's place, and the sector's writes. -/
structure Src (n₀ : Nat) (W : World) (Bn q o : Nat) (wv : Value) (ws : List Wt) : Prop where
  box : W.cell? ⟨Bn, 0, none⟩ = some (.pointer (some ⟨q, o, none⟩))
  boxlt : Bn < n₀
  cell : W.cell? ⟨q, o + 1, none⟩ = some wv
  qlt : q < n₀
  row : WRow W wv ws
  rowlt : ∀ k, wv.ownBlock = some k → k < n₀
theorem Src.below {n₀ Bn q o : Nat} {W W' : World} {wv : Value} {ws : List Wt} (h : Src n₀ W Bn q o wv ws) (hb : Below n₀ W W') : Src n₀ W' Bn q o wv ws :=
  ⟨(hb.cell (p := ⟨Bn, 0, none⟩) h.boxlt).trans h.box, h.boxlt, (hb.cell (p := ⟨q, o + 1, none⟩) h.qlt).trans h.cell, h.qlt, h.row.of_heap fun k hk => hb.block k (h.rowlt k hk), h.rowlt⟩

theorem waiting_in (F : Fence) (n : Nat) (h5 : F.fn 35) (hro : F.round = none) (p0 : Option Addr) (w : World) :
    CallsIn F n Try.prog 35 #[.pointer p0] w fun e w' => e = .returned (.func (.func 37) #[] #[.pointer (some ⟨w.heap.size, 0, none⟩)]) ∧ w' = w.alloc (.cells #[.pointer p0] 65) := by
  refine callsIn_of_wp Try.func35 rfl h5 ?_ hro
  simp only [Try.ntmps35, List.size_toArray, List.length_cons, List.length_nil, Nat.reduceAdd, Nat.reduceSub, Array.replicate_succ, Array.replicate_zero, List.push_toArray, List.append_toArray, List.nil_append, List.cons_append]
  gi_wp2
  go_ret
  exact ⟨rfl, rfl⟩

theorem drop_reverse (ws : List Wt) (k : Nat) (h : k < ws.length) : (ws.drop k).reverse = (ws.drop (k + 1)).reverse ++ [ws[k]] := by
  rw [List.drop_eq_getElem_cons h, List.reverse_cons]
theorem rev_prefix (ws : List Wt) (k : Nat) : (ws.drop k).reverse <+: ws.reverse := by
  refine ⟨(ws.take k).reverse, ?_⟩
  rw [← List.reverse_append, List.take_append_drop]
set_option maxRecDepth 100000 in
set_option maxHeartbeats 2000000 in
theorem waiting1_in (n : Nat) (hn : 1 ≤ n) (l Bn n₀ q o : Nat) (wv : Value) (ws : List Wt) (hlen : ws.length ≤ 1000000) (J Jx : List Wt → World → Prop)
    (hJ : ∀ s W, J s W → J s W.drew)
    (hY : ∀ pre x W, J pre W → pre.length < ws.length → YieldAt Fence.wide (n - 1) Try.prog l (encsW x) W fun e W' =>
      (e = .returned (.bool true) ∧ J (pre ++ [x]) W' ∧ Below n₀ W W') ∨ (e = .returned (.bool false) ∧ Jx (pre ++ [x]) W'))
    (W : World) (hS : Src n₀ W Bn q o wv ws) (h0 : J [] W) :
    CallsIn Fence.wide n Try.prog 37 #[.func (.yield l) #[] #[], .pointer (some ⟨Bn, 0, none⟩)] W fun e W' => (∃ v, e = .returned v) ∧
      ((∃ ys, ys = ws.reverse ∧ J ys W') ∨ (∃ pre, pre <+: ws.reverse ∧ Jx pre W')) := by
  refine callsIn_of_wp Try.func37 rfl trivial ?_ rfl
  simp only [Try.ntmps37, List.size_toArray, List.length_cons, List.length_nil, Nat.reduceAdd, Nat.reduceSub, Array.replicate_succ, Array.replicate_zero, List.push_toArray, List.append_toArray, List.nil_append, List.cons_append]
  obtain ⟨A, cap, hwv, hcap, hcells⟩ := hS.row.shape
  subst hwv
  have b0 := hS.box
  have c0 := hS.cell
  gi_wp2
  gi_loopw [3] (fun s3 wr => ∃ k : Nat, k ≤ ws.length ∧ s3 = .int .i64 ((k : Int) - 1) ∧ Src n₀ wr Bn q o (.slice A ws.length cap) ws ∧ J (ws.drop k).reverse wr)
    (fun s3 _ => (intOf s3 + 1).toNat)
  case atStart =>
    exact ⟨ws.length, Nat.le_refl _, rfl, hS, by simpa using h0⟩
  case round =>
    obtain ⟨k, hk, rfl, hs, hj⟩ := hrel
    cases k with
    | zero =>
      gi_wp2
      go_end0
      exact ⟨⟨_, rfl⟩, .inl ⟨_, rfl, by simpa using hj⟩⟩
    | succ k =>
      have hlt : k < ws.length := by omega
      have e1 : (((k + 1 : Nat) : Int) - 1) = (k : Int) := by omega
      rw [e1]
      obtain ⟨A', cap', e, hcap', hcells'⟩ := hs.row.shape
      cases e
      obtain ⟨g, rfl, hown, hg, k0, k1⟩ := hcells' k hlt
      obtain ⟨fn, tmps, assign, body, hy, hR⟩ := hY (ws.drop (k + 1)).reverse ws[k] wr.drew (hJ _ _ hj) (by simp; omega)
      dsimp only [encsW] at hy
      have b1 := hs.box
      have c1 := hs.cell
      have HS := Lib.hid hs
      have HJ1 := Lib.hid hj
      have hkl : (k : Int) < (ws.length : Int) := by omega
      have hcapi : (ws.length : Int) ≤ (cap : Int) := by omega
      clear hs hj hcells hcells' b0 c0 e1 hS h0 hY hJ
      generalize hx : ws[k] = x at *
      have HX := Lib.hid hx
      clear hx
      gi_wp2
      refine wpIn_region_still_tail 17 (by kernel_rfl) (by kernel_rfl) ?_
      simp only [List.take_succ_cons, List.take_zero, List.drop_succ_cons, List.drop_zero]
      repeat still_step
      try refine wpStill_nil ?_
      change wpListIn _ _ _ _ _ _ _ wr.drew
      have hdd : (Fence.wide.depth.isSome = true → 1 ≤ n) := fun h => (by cases h)
      gi_wp2
      refine hR.mono ?_
      rintro e W3 (⟨rfl, hJ3, hk3⟩ | ⟨rfl, hJx3⟩)
      · gi_wp2
        refine ⟨⟨k, by omega, rfl, (HS.out.below (Below.refl _ _).drew).below hk3, ?_⟩, by simp [intOf]⟩
        rw [drop_reverse ws k hlt, HX.out]
        exact hJ3
      · gi_wp2
        refine bodyPost_ret (results_none rfl _ _ _) rfl ?_
        refine ⟨⟨_, rfl⟩, .inr ⟨_, ?_, hJx3⟩⟩
        have := rev_prefix ws k
        rw [drop_reverse ws k hlt, HX.out] at this
        exact this

/-- what holds between two rounds abides a draw. -/
theorem abides_drew {β : Type} {B : Nat} {J : β → World → Prop} (h : AbidesFrom B J) (s : β) (W : World) (hs : J s W) : J s W.drew :=
  h s W W.drew none hs ⟨rfl, rfl, rfl, Nat.le_refl _, fun _ _ _ => rfl⟩ (fun r e => by cases e)
theorem waiting_stops (n : Nat) (hn : 1 ≤ n) (Bn n₀ q o : Nat) (wv : Value) (ws : List Wt) (hlen : ws.length ≤ 1000000) (w : World) (hS : Src n₀ w Bn q o wv ws) (hn₀ : n₀ ≤ w.heap.size) :
    SeqStopsK Fence.wide n Try.prog 37 #[.pointer (some ⟨Bn, 0, none⟩)] encsW (Below n₀) (fun ys => ys = ws.reverse) (fun pre => pre <+: ws.reverse) ws.length w := fun l J Jx W hW hJ _ hY h0 =>
  waiting1_in n hn l Bn n₀ q o wv ws hlen J Jx (fun s W hs => abides_drew hJ s W hs) hY W (hS.below (hW.mono hn₀)) h0
end Go.Proofs.Ytmcgjlidfgbdfaa
