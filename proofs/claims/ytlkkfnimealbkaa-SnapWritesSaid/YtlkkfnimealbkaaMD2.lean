import Derived.Test.YtlkkfnimealbkaaMD1
import Derived.RangeFuncNested
import Derived.RangeFuncBound
import Derived.RangeFuncCalls
import Derived.RangeFuncLeaves
import Derived.RangeFuncFrom
import Derived.Shelf.Abstract
import Derived.Shelf.RegionOpen
import Derived.OwnWalkIn
import Derived.TacticsInMore
import Derived.LoopNIn
import Derived.LoopIn
import Derived.StillTailTactics
import Derived.OrdersIn
import Derived.TacticsIn
import Derived.Lib.SlBytesConst

/- What is left of a sector for a pattern: the iterator over its writes, the last one first; left. -/
namespace Go.Proofs.Ytlkkfnimealbkaa
open Go.RowKit Go.Shelf
attribute [local go_sem] Oper.semAt_some


/-! a region whose reads, in whatever order, all feed one last call: in the wide fence -/
section
variable {n : Nat} {P : Program} {ops : Array Oper} {md : Region.Mode} {w : World}
theorem wpIn_of_still {o : Oper} {a : Act} {K : Act → Prop} {K' : Act → World → Prop} {Q' : Exit → Act → World → Prop} (h : ∀ a, K a → K' a w) (hh : o.still P a w K) : o.wpIn Fence.wide n P a w K' Q' := by
  unfold Oper.still at hh
  unfold Oper.wpIn
  refine ⟨fun _ _ => trivial, ?_⟩
  rw [show Fence.wide.round = none from rfl, Oper.semAt_none]
  generalize (execOp a.eval o).run P w = r at *
  cases r with
  | ok x w' =>
    cases x <;> simp only [Oper.stillUpon] at hh <;> simp only [Oper.uponIn]
    case enter f args =>
      obtain ⟨rfl, v, hc, hn⟩ := hh
      exact ⟨fun h => (by cases h), callsIn_wide.2 (hc.mono fun e w'' ⟨he, hw⟩ => by subst he; subst hw; exact h _ hn)⟩
    all_goals (obtain ⟨rfl, h2⟩ := hh; exact h _ h2)
  | halt x w' => simp only [Oper.stillUpon] at hh
theorem wpOpIn_of_stOp {i : Nat} {a : Act} {K : Act → Prop} {K' : Act → World → Prop} {Q' : Exit → Act → World → Prop} (h : ∀ a, K a → K' a w) (hh : stOp P ops w i K a) : wpOpIn Fence.wide n P ops Q' i K' a w := by
  unfold stOp at hh
  unfold wpOpIn
  split
  · rename_i ho; simp only [ho] at hh; exact h _ hh
  · rename_i o ho
    simp only [ho] at hh
    split
    · rename_i hw; simp only [hw, if_true] at hh; exact wpIn_of_still h hh
    · rename_i hw; simp only [hw] at hh; exact ⟨fun _ _ => trivial, h _ hh⟩
theorem wpAnyIn_of_head {m g : Nat} {L : Array Bool → Act → Prop} {Q' : Exit → Act → World → Prop} (hL : ∀ listed a, L listed a → wpAnyIn Fence.wide n P md ops Q' g listed a w) :
    ∀ (f : Nat) (listed : Array Bool) (a : Act), wpAnyL P md ops w m L f listed a → wpAnyIn Fence.wide n P md ops Q' (f + g) listed a w
  | 0, listed, a, h => by rw [Nat.zero_add]; exact hL _ _ h
  | f + 1, listed, a, h => by
    rw [show f + 1 + g = (f + g) + 1 by omega]
    exact ⟨fun h0 => absurd h0 h.1, fun i hi => wpOpIn_of_stOp (fun a' h' => wpAnyIn_of_head hL f _ a' h') (h.2 i hi).2⟩
theorem wpAnyIn_of_seq {Q' : Exit → Act → World → Prop} : ∀ (l : List Oper) (k : Nat) (listed : Array Bool) (a : Act) (w : World), (∀ j, l[j]? = ops[k + j]?) →
    Region.seqB md ops l.length k listed = true → wpListIn Fence.wide n P ops Q' l a w → wpAnyIn Fence.wide n P md ops Q' l.length listed a w
  | [], _, _, _, _, _, hB, h => ⟨by simpa [Region.seqB] using hB, h⟩
  | o :: l, k, listed, a, w, hl, hB, h => by
    have h0 : ops[k]? = some o := by simpa using (hl 0).symm
    simp only [List.length_cons, Region.seqB, Bool.and_eq_true, decide_eq_true_eq] at hB
    refine ⟨fun h1 => (by rw [hB.1] at h1; cases h1), fun i hi => ?_⟩
    rw [hB.1] at hi
    have hik : i = k := by simpa using hi
    subst hik
    have hw : wpOpIn Fence.wide n P ops Q' i (wpListIn Fence.wide n P ops Q' l) a w := by unfold wpOpIn; simp only [h0]; exact h
    exact wpOpIn_mono (fun a' w' h' => wpAnyIn_of_seq l (i + 1) _ a' w' (fun j => by have := hl (j + 1); simpa [Nat.add_assoc, Nat.add_comm 1 j] using this) hB.2 h') hw
theorem wpIn_region_still_tail {id : Nat} {Q : Exit → Act → World → Prop} {a : Act} {w : World} {l : List Oper} (m : Nat) (hm : P.follows .mixedOrders = true) (hB : Region.lexTailB .any l.toArray m = true)
    (h : wpStill P l.toArray { w with drawn := w.drawn + 1 } (fun a' => wpListIn Fence.wide n P l.toArray Q (l.drop m) a' { w with drawn := w.drawn + 1 }) (l.take m) a) : (Code.region id l.toArray true).wpIn Fence.wide n P Q a w := by
  simp only [Region.lexTailB, Bool.and_eq_true, decide_eq_true_eq] at hB
  obtain ⟨⟨⟨⟨hsel, hn⟩, hs⟩, hc⟩, hlex⟩ := hB
  have hn' : m < l.length := by simpa using hn
  have htl : (l.take m).length = m := by simp; omega
  have hdl : (l.drop m).length = l.toArray.size - m := by simp
  have inv0 : HeadInv .any l.toArray m (Array.replicate l.toArray.size false) :=
    ⟨by simp, fun j oj _ hl => (by rw [getD_replicate_false] at hl; cases hl), fun t _ ht => getD_in (by simpa using ht) (getD_replicate_false _ _)⟩
  have H := wpAnyL_lex (md := .any) (g := l.toArray.size - m) hsel hs hc hn (l.take m) 0 _ a (fun j hj => by
    have hj' : j < m := by rw [htl] at hj; exact hj
    simp [hj']) (by simpa using htl) inv0 (by rw [htl]; exact hlex) h
  refine wpIn_region_any hm ?_
  have := wpAnyIn_of_head (n := n) (Q' := Q) (g := l.toArray.size - m) (fun listed a' hL => by
    have := wpAnyIn_of_seq (n := n) (md := .any) (Q' := Q) (l.drop m) m listed a' { w with drawn := w.drawn + 1 } (fun j => by simp [List.getElem?_drop]) (by rw [hdl]; exact hL.1) hL.2
    rwa [hdl] at this) _ _ _ H
  rw [htl, show m + (l.toArray.size - m) = l.toArray.size by omega] at this
  exact this
end

abbrev encsW (x : Wt) : Array Value := #[.int .i64 x.n, .slice x.a x.b.length x.c]
/-- the iterator's own memory: the box of the sector's place, and the sector's writes. -/
structure Src (n₀ : Nat) (W : World) (Bn q o : Nat) (wv : Value) (ws : List Wt) : Prop where
  box : W.cell? ⟨Bn, 0, none⟩ = some (.pointer (some ⟨q, o, none⟩))
  boxlt : Bn < n₀
  cell : W.cell? ⟨q, o + 1, none⟩ = some wv
  qlt : q < n₀
  row : WRow W wv ws
  rowlt : ∀ k, wv.ownBlock = some k → k < n₀
theorem Src.below {n₀ Bn q o : Nat} {W W' : World} {wv : Value} {ws : List Wt} (h : Src n₀ W Bn q o wv ws) (hb : Below n₀ W W') : Src n₀ W' Bn q o wv ws :=
  ⟨(hb.cell (p := ⟨Bn, 0, none⟩) h.boxlt).trans h.box, h.boxlt, (hb.cell (p := ⟨q, o + 1, none⟩) h.qlt).trans h.cell, h.qlt, h.row.of_heap fun k hk => hb.block k (h.rowlt k hk), h.rowlt⟩

theorem waiting_in (F : Fence) (n : Nat) (h5 : F.fn 44) (hro : F.round = none) (p0 : Option Addr) (w : World) :
    CallsIn F n Try.prog 44 #[.pointer p0] w fun e w' => e = .returned (.func (.func 54) #[] #[.pointer (some ⟨w.heap.size, 0, none⟩)]) ∧ w' = w.alloc (.cells #[.pointer p0] 74) := by
  refine callsIn_of_wp Try.func44 rfl h5 ?_ hro
  simp only [Try.ntmps44, List.size_toArray, List.length_cons, List.length_nil, Nat.reduceAdd, Nat.reduceSub, Array.replicate_succ, Array.replicate_zero, List.push_toArray, List.append_toArray, List.nil_append, List.cons_append]
  gi_wp2
  go_ret
  exact ⟨rfl, rfl⟩

theorem drop_reverse (ws : List Wt) (k : Nat) (h : k < ws.length) : (ws.drop k).reverse = (ws.drop (k + 1)).reverse ++ [ws[k]] := by
  rw [List.drop_eq_getElem_cons h, List.reverse_cons]
theorem rev_prefix (ws : List Wt) (k : Nat) : (ws.drop k).reverse <+: ws.reverse := by
  refine ⟨(ws.take k).reverse, ?_⟩
  rw [← List.reverse_append, List.take_append_drop]
set_option maxRecDepth 100000 in
set_option maxHeartbeats 2000000 in
theorem waiting1_in (n : Nat) (hn : 1 ≤ n) (l Bn n₀ q o : Nat) (wv : Value) (ws : List Wt) (hlen : ws.length ≤ 1000000) (J Jx : List Wt → World → Prop)
    (hJ : ∀ s W, J s W → J s W.drew)
    (hY : ∀ pre x W, J pre W → pre.length < ws.length → YieldAt Fence.wide (n - 1) Try.prog l (encsW x) W fun e W' =>
      (e = .returned (.bool true) ∧ J (pre ++ [x]) W' ∧ Below n₀ W W') ∨ (e = .returned (.bool false) ∧ Jx (pre ++ [x]) W'))
    (W : World) (hS : Src n₀ W Bn q o wv ws) (h0 : J [] W) :
    CallsIn Fence.wide n Try.prog 54 #[.func (.yield l) #[] #[], .pointer (some ⟨Bn, 0, none⟩)] W fun e W' => (∃ v, e = .returned v) ∧
      ((∃ ys, ys = ws.reverse ∧ J ys W') ∨ (∃ pre, pre <+: ws.reverse ∧ Jx pre W')) := by
  refine callsIn_of_wp Try.func54 rfl trivial ?_ rfl
  simp only [Try.ntmps54, List.size_toArray, List.length_cons, List.length_nil, Nat.reduceAdd, Nat.reduceSub, Array.replicate_succ, Array.replicate_zero, List.push_toArray, List.append_toArray, List.nil_append, List.cons_append]
  obtain ⟨A, cap, hwv, hcap, hcells⟩ := hS.row.shape
  subst hwv
  have b0 := hS.box
  have c0 := hS.cell
  gi_wp2
  gi_loopw [3] (fun s3 wr => ∃ k : Nat, k ≤ ws.length ∧ s3 = .int .i64 ((k : Int) - 1) ∧ Src n₀ wr Bn q o (.slice A ws.length cap) ws ∧ J (ws.drop k).reverse wr)
    (fun s3 _ => (intOf s3 + 1).toNat)
  case atStart =>
    exact ⟨ws.length, Nat.le_refl _, rfl, hS, by simpa using h0⟩
  case round =>
    obtain ⟨k, hk, rfl, hs, hj⟩ := hrel
    cases k with
    | zero =>
      gi_wp2
      go_end0
      exact ⟨⟨_, rfl⟩, .inl ⟨_, rfl, by simpa using hj⟩⟩
    | succ k =>
      have hlt : k < ws.length := by omega
      have e1 : (((k + 1 : Nat) : Int) - 1) = (k : Int) := by omega
      rw [e1]
      obtain ⟨A', cap', e, hcap', hcells'⟩ := hs.row.shape
      cases e
      obtain ⟨g, rfl, hown, hg, k0, k1⟩ := hcells' k hlt
      obtain ⟨fn, tmps, assign, body, hy, hR⟩ := hY (ws.drop (k + 1)).reverse ws[k] wr.drew (hJ _ _ hj) (by simp; omega)
      dsimp only [encsW] at hy
      have b1 := hs.box
      have c1 := hs.cell
      have HS := Lib.hid hs
      have HJ1 := Lib.hid hj
      have hkl : (k : Int) < (ws.length : Int) := by omega
      have hcapi : (ws.length : Int) ≤ (cap : Int) := by omega
      clear hs hj hcells hcells' b0 c0 e1 hS h0 hY hJ
      generalize hx : ws[k] = x at *
      have HX := Lib.hid hx
      clear hx
      gi_wp2
      refine wpIn_region_still_tail 17 (by kernel_rfl) (by kernel_rfl) ?_
      simp only [List.take_succ_cons, List.take_zero, List.drop_succ_cons, List.drop_zero]
      repeat still_step
      try refine wpStill_nil ?_
      change wpListIn _ _ _ _ _ _ _ wr.drew
      have hdd : (Fence.wide.depth.isSome = true → 1 ≤ n) := fun h => (by cases h)
      gi_wp2
      refine hR.mono ?_
      rintro e W3 (⟨rfl, hJ3, hk3⟩ | ⟨rfl, hJx3⟩)
      · gi_wp2
        refine ⟨⟨k, by omega, rfl, (HS.out.below (Below.refl _ _).drew).below hk3, ?_⟩, by simp [intOf]⟩
        rw [drop_reverse ws k hlt, HX.out]
        exact hJ3
      · gi_wp2
        refine bodyPost_ret (results_none rfl _ _ _) rfl ?_
        refine ⟨⟨_, rfl⟩, .inr ⟨_, ?_, hJx3⟩⟩
        have := rev_prefix ws k
        rw [drop_reverse ws k hlt, HX.out] at this
        exact this

/-- what holds between two rounds abides a draw. -/
theorem abides_drew {β : Type} {B : Nat} {J : β → World → Prop} (h : AbidesFrom B J) (s : β) (W : World) (hs : J s W) : J s W.drew :=
  h s W W.drew none hs ⟨rfl, rfl, rfl, Nat.le_refl _, fun _ _ _ => rfl⟩ (fun r e => by cases e)
theorem waiting_stops (n : Nat) (hn : 1 ≤ n) (Bn n₀ q o : Nat) (wv : Value) (ws : List Wt) (hlen : ws.length ≤ 1000000) (w : World) (hS : Src n₀ w Bn q o wv ws) (hn₀ : n₀ ≤ w.heap.size) :
    SeqStopsK Fence.wide n Try.prog 54 #[.pointer (some ⟨Bn, 0, none⟩)] encsW (Below n₀) (fun ys => ys = ws.reverse) (fun pre => pre <+: ws.reverse) ws.length w := fun l J Jx W hW hJ _ hY h0 =>
  waiting1_in n hn l Bn n₀ q o wv ws hlen J Jx (fun s W hs => abides_drew hJ s W hs) hY W (hS.below (hW.mono hn₀)) h0
end Go.Proofs.Ytlkkfnimealbkaa

/- left: what is left of a sector for a pattern. -/
namespace Go.Proofs.Ytlkkfnimealbkaa
open Go.RowKit Go.Shelf
attribute [local go_sem] Oper.semAt_some

/-- is the bit of that number set? -/
def bit (p n : Nat) : Bool := decide (p / 2 ^ (n % 64) % 2 = 1)
def hit (p : Nat) (ws : List Wt) : Option Wt := ws.reverse.find? fun x => bit p x.n
def leftV (p : Nat) (lv : Value) (ws : List Wt) : Value := match hit p ws with | some x => x.v | none => lv
theorem odd_bit (m : Nat) (hm : m < 18446744073709551616) : (bits .and .u64 (m : Int) 1 == 1) = decide (m % 2 = 1) := by
  have h0 : bits .and .u64 (m : Int) 1 = ((m % 2 : Nat) : Int) := by
    have := u64_and_nat m 1 hm (by omega)
    rw [Nat.and_one_is_mod] at this
    exact this
  rw [h0, Bool.eq_iff_iff]
  simp only [beq_iff_eq, decide_eq_true_eq]
  omega
theorem bit_go (p n : Nat) (hp : p < 18446744073709551616) : (bits .and .u64 ((p : Int) / 2 ^ (n % 64)) 1 == 1) = bit p n := by
  have h := odd_bit (p / 2 ^ (n % 64)) (Nat.lt_of_le_of_lt (Nat.div_le_self _ _) hp)
  rw [Int.natCast_ediv, Int.natCast_pow] at h
  exact h
theorem find_none {α : Type} {f : α → Bool} {l : List α} (h : ∀ y ∈ l, f y = false) : l.find? f = none := by
  rw [List.find?_eq_none]
  intro x hx e
  rw [h x hx] at e
  cases e
theorem find_some {α : Type} {f : α → Bool} {l pre : List α} {x : α} (hp : pre ++ [x] <+: l) (h : ∀ y ∈ pre, f y = false) (hx : f x = true) : l.find? f = some x := by
  obtain ⟨r, rfl⟩ := hp
  rw [List.append_assoc, List.find?_append, find_none h]
  simp [hx]
theorem cell_of_box_l {W : World} {B : Nat} {v : Value} {t : TypeId} (h : W.heap[B]? = some (.cells #[v] t (0, 0))) : W.cell? ⟨B, 0, none⟩ = some v ∧ W.frozen? ⟨B, 0, none⟩ = false := by
  constructor <;> simp [World.cell?, World.frozen?, h]
theorem cell_new_l (W : World) (v : Value) (t : TypeId) : (W.alloc (.cells #[v] t)).cell? ⟨W.heap.size, 0, none⟩ = some v ∧ (W.alloc (.cells #[v] t)).frozen? ⟨W.heap.size, 0, none⟩ = false :=
  cell_of_box_l (World.alloc_heap_new W _)
theorem cell_alloc_l {W : World} {a : Addr} {v : Value} (o : Obj) (h : W.cell? a = some v) : (W.alloc o).cell? a = some v := cell_kept h (World.grownBy_alloc W o none) (fun r e => by cases e)
theorem frozen_alloc_l {W : World} {a : Addr} {v : Value} (o : Obj) (h : W.cell? a = some v) (hf : W.frozen? a = false) : (W.alloc o).frozen? a = false := (frozen_kept h (World.grownBy_alloc W o none) (fun r e => by cases e)).trans hf

set_option maxRecDepth 100000 in
set_option maxHeartbeats 2000000 in
theorem left_in (q o : Nat) (la : Option Addr) (n lc : Nat) (wv : Value) (ws : List Wt) (p : Nat) (w : World) (hl : w.cell? ⟨q, o, none⟩ = some (.slice la n lc)) (hc : w.cell? ⟨q, o + 1, none⟩ = some wv) (hq : q < w.heap.size) (hr : WRow w wv ws) (hlen : ws.length ≤ 1000000) (hp : p < 18446744073709551616) :
    CallsIn Fence.wide 5 Try.prog 28 #[.pointer (some ⟨q, o, none⟩), .int .u64 (p : Nat)] w fun e w' => e = .returned (leftV p (.slice la n lc) ws) ∧ Below w.heap.size w w' := by
  refine callsIn_of_wp_marks Try.func28 rfl trivial ?_ rfl
  simp only [Try.ntmps28, List.size_toArray, List.length_cons, List.length_nil, Nat.reduceAdd, Nat.reduceSub, Array.replicate_succ, Array.replicate_zero, List.push_toArray, List.append_toArray, List.nil_append, List.cons_append]
  gi_wp2_with ((try refine ⟨trivial, ?_⟩); gi_at_call 44; refine (waiting_in Fence.wide _ trivial rfl _ _).mono ?_; rintro e w' ⟨rfl, rfl⟩)
  have c0 := cell_new_l w (.int .u64 (p : Nat)) 68
  have c1 := cell_new_l (w.alloc (.cells #[.int .u64 (p : Nat)] 68)) (.slice none 0 0) 35
  have c2 := cell_new_l ((w.alloc (.cells #[.int .u64 (p : Nat)] 68)).alloc (.cells #[.slice none 0 0] 35)) (.pointer (some ⟨q, o, none⟩)) 74
  simp only [World.size_alloc] at c1 c2
  have hB0 : Below w.heap.size w (((w.alloc (.cells #[.int .u64 (p : Nat)] 68)).alloc (.cells #[.slice none 0 0] 35)).alloc (.cells #[.pointer (some ⟨q, o, none⟩)] 74)) := (((Below.refl _ w).alloc (Nat.le_refl _) _).alloc (by simp) _).alloc (by simp; omega) _
  have hsz : (((w.alloc (.cells #[.int .u64 (p : Nat)] 68)).alloc (.cells #[.slice none 0 0] 35)).alloc (.cells #[.pointer (some ⟨q, o, none⟩)] 74)).heap.size = w.heap.size + 3 := by simp
  have hS : Src (w.heap.size + 3) (((w.alloc (.cells #[.int .u64 (p : Nat)] 68)).alloc (.cells #[.slice none 0 0] 35)).alloc (.cells #[.pointer (some ⟨q, o, none⟩)] 74)) (w.heap.size + 1 + 1) q o wv ws :=
    ⟨c2.1, by omega, (hB0.cell (p := ⟨q, o + 1, none⟩) hq).trans hc, by omega, hr.of_heap (fun k hk => hB0.block k (hr.lt hk)), fun k hk => by have := hr.lt hk; omega⟩
  refine wpIn_rangeFunc_ownF rfl (by omega) (gf := 54) (lb := #[.pointer (some ⟨w.heap.size + 1 + 1, 0, none⟩)]) rfl trivial (enters_of Try.func54 (by kernel_rfl) rfl)
    (waiting_stops 4 (by omega) (w.heap.size + 1 + 1) (w.heap.size + 3) q o wv ws hlen _ hS (by omega)) belowK_t (belowK_b (by omega)) (Below.refl _ _) (fun _ => rfl)
    (fun pre W => ((∀ y ∈ pre, bit p y.n = false) ∧ W.cell? ⟨w.heap.size, 0, none⟩ = some (.int .u64 (p : Nat)) ∧ W.cell? ⟨w.heap.size + 1, 0, none⟩ = some (.slice none 0 0) ∧ W.frozen? ⟨w.heap.size + 1, 0, none⟩ = false) ∧ Below w.heap.size w W)
    (fun c pre W => (c = .ret ∧ ∃ pre0 x, pre = pre0 ++ [x] ∧ (∀ y ∈ pre0, bit p y.n = false) ∧ bit p x.n = true ∧ W.cell? ⟨w.heap.size + 1, 0, none⟩ = some (.slice x.a x.b.length x.c)) ∧ Below w.heap.size w W)
    (OwnFrom.and (Own.from (fun s A B row hs hg hr => ⟨hs.1, cell_kept hs.2.1 hg hr, cell_kept hs.2.2.1 hg hr, (frozen_kept hs.2.2.1 hg hr).trans hs.2.2.2⟩) _) (ownFrom_below (Nat.le_refl _) (by omega)))
    (fun c => OwnFrom.and (Own.from (fun s A B row hs hg hr => ⟨hs.1, let ⟨pre0, x, h1, h2, h3, h4⟩ := hs.2; ⟨pre0, x, h1, h2, h3, cell_kept h4 hg hr⟩⟩) _) (ownFrom_below (Nat.le_refl _) (by omega)))
    ⟨⟨by simp, cell_alloc_l _ (cell_alloc_l _ c0.1), cell_alloc_l _ c1.1, frozen_alloc_l _ c1.1 c1.2⟩, hB0⟩
    (fun x => { tmps := #[.pointer (some ⟨q, o, none⟩), .int .u64 (p : Nat), undef, .pointer (some ⟨w.heap.size, 0, none⟩), .pointer (some ⟨w.heap.size + 1, 0, none⟩), .int .i64 x.n, (.slice x.a x.b.length x.c), .pointer (some ⟨q, o, none⟩), .func (.func 54) #[] #[.pointer (some ⟨w.heap.size + 1 + 1, 0, none⟩)], .int .i64 x.n, (.slice x.a x.b.length x.c), undef, undef, undef, undef, undef, undef, undef, undef, undef, undef, undef], defers := [] }) ?assign ?body ?done ?stop
  case assign =>
    intro l x W K hK
    gi_wp2
    exact hK
  case body =>
    rintro l pre x W ⟨⟨hne, hcw, hcr, hfr⟩, hB⟩ _
    have hbit := bit_go p x.n hp
    cases hb : bit p x.n with
    | true =>
      rw [hb] at hbit
      have HBT := Lib.hid hb
      clear hb
      gi_wp2
      exact ⟨KeepsOthers.setCell _ _ _, ⟨rfl, pre, x, rfl, hne, HBT.out, World.cell?_setCell_same' _ _ _ (by rw [hcr]; rfl)⟩, hB.setCell (p := ⟨w.heap.size + 1, 0, none⟩) (by simp) _⟩
    | false =>
      rw [hb] at hbit
      have HBT := Lib.hid hb
      clear hb
      gi_wp2
      exact ⟨KeepsOthers.refl _, Below.refl _ _, ⟨fun y hy => (List.mem_append.1 hy).elim (hne y) (fun e => by simp at e; subst e; exact HBT.out), hcw, hcr, hfr⟩, hB⟩
  case done =>
    rintro D ys W hD rfl ⟨⟨hne, _, hcr, hfr⟩, hB⟩ hK
    have cl := (hB.cell (p := ⟨q, o, none⟩) hq).trans hl
    gi_wp2
    have hK' := (KeepsOthers.setCell W ⟨w.heap.size + 1, 0, none⟩ (.slice la n lc)).same D _ hK rfl
    refine ⟨by simp, .inl ⟨_, _, rfl, run_takeDeferred hK', ?_⟩⟩
    have hc5 := cell_kept (World.cell?_setCell_same' W ⟨w.heap.size + 1, 0, none⟩ (.slice la n lc) (by rw [hcr]; rfl)) (grownBy_putObj' _ D (.deferred none)) (fun r e => by cases e; exact ⟨_, hK', rfl⟩)
    refine ⟨.slice la n lc, ?_, ?_, (hB.setCell (p := ⟨w.heap.size + 1, 0, none⟩) (by simp) _).trans (belowK_b (w := w) (Nat.le_refl _) _ D _ _ (by simp at hD; omega) hK' rfl rfl)⟩
    · simp [results, Try.f28, go_sem, hc5]
    · unfold leftV hit
      rw [find_none hne]
  case stop =>
    rintro D c pre W hD hpre ⟨⟨rfl, hin⟩, hB⟩ hK
    obtain ⟨pre0, x, rfl, h2, h3, hcr⟩ := hin
    gi_wp2
    refine ⟨by simp, .inl ⟨_, _, rfl, run_takeDeferred hK, ?_⟩⟩
    have hc5 := cell_kept hcr (grownBy_putObj' _ D (.deferred none)) (fun r e => by cases e; exact ⟨_, hK, rfl⟩)
    refine ⟨.slice x.a x.b.length x.c, ?_, ?_, hB.trans (belowK_b (w := w) (Nat.le_refl _) W D _ _ (by simp at hD; omega) hK rfl rfl)⟩
    · simp [results, Try.f28, go_sem, hc5]
    · unfold leftV hit
      rw [find_some hpre h2 h3]
theorem left_at (q o : Nat) (la : Option Addr) (n lc : Nat) (wv : Value) (ws : List Wt) (p : Nat) (w : World) (hl : w.cell? ⟨q, o, none⟩ = some (.slice la n lc)) (hc : w.cell? ⟨q, o + 1, none⟩ = some wv) (hq : q < w.heap.size) (hr : WRow w wv ws) (hlen : ws.length ≤ 1000000) (hp : p < 18446744073709551616) :
    Calls Try.prog 28 #[.pointer (some ⟨q, o, none⟩), .int .u64 (p : Nat)] w fun e w' => e = .returned (leftV p (.slice la n lc) ws) ∧ Below w.heap.size w w' :=
  callsIn_wide.1 (left_in q o la n lc wv ws p w hl hc hq hr hlen hp)
end Go.Proofs.Ytlkkfnimealbkaa

/- settle: of a sector, of all. -/
namespace Go.Proofs.Ytlkkfnimealbkaa
open Go.RowKit

/-- one sector turns. -/
theorem DiskAt.put {w w' : World} {d : Dsk} (h : DiskAt w d) {i : Nat} (s' : Sec) (W : Nat) (hW : d.waits ≤ W)
    (hp : Whole w' d.p 53 (dcells { d with secs := d.secs.set i s', waits := W })) (hq : Whole w' d.q 66 (encS (d.secs.set i s')).toArray)
    (hb : ∀ k, Bytes w k → w'.heap[k]? = w.heap[k]?) (hw : ∀ j (hj : j < d.secs.length), j ≠ i → ∀ k, d.secs[j].wv.ownBlock = some k → w'.heap[k]? = w.heap[k]?)
    (hs : SecOk w' d.size W s') (ha : ∀ j (hj : j < d.secs.length), j ≠ i → ∀ k, s'.wv.ownBlock = some k → d.secs[j].wv.ownBlock ≠ some k) :
    DiskAt w' { d with secs := d.secs.set i s', waits := W } := by
  refine ⟨hp, hq, ?_, ?_, by simpa using h.few, h.small⟩
  · intro s hsm
    obtain ⟨j, hj, rfl⟩ := List.mem_iff_getElem.1 hsm
    rw [List.length_set] at hj
    by_cases e : i = j
    · subst e
      rw [List.getElem_set_self]
      exact hs
    · rw [List.getElem_set_ne e]
      exact ((h.ok _ (List.getElem_mem hj)).of_heap (fun k hk => hw j hj (fun e' => e e'.symm) k hk) hb).more hW
  · intro a b ha' hb' k h1 h2
    simp only [List.length_set] at ha' hb'
    by_cases ea : i = a
    · by_cases eb : i = b
      · omega
      · subst ea
        rw [List.getElem_set_self] at h1
        rw [List.getElem_set_ne eb] at h2
        exact absurd h2 (ha b hb' (fun e => eb e.symm) k h1)
    · by_cases eb : i = b
      · subst eb
        rw [List.getElem_set_self] at h2
        rw [List.getElem_set_ne ea] at h1
        exact absurd h1 (ha a ha' (fun e => ea e.symm) k h2)
      · rw [List.getElem_set_ne ea] at h1
        rw [List.getElem_set_ne eb] at h2
        exact h.apart a b ha' hb' k h1 h2

/-- what settle makes of a sector. -/
def settleS (p : Nat) (s : Sec) : Sec := match hit p s.ws with | some x => ⟨x.a, x.c, x.b, .slice none 0 0, []⟩ | none => ⟨s.la, s.lc, s.l, .slice none 0 0, []⟩
theorem hit_mem {p : Nat} {ws : List Wt} {x : Wt} (h : hit p ws = some x) : x ∈ ws := by
  have := List.mem_of_find?_eq_some h
  simpa using this
theorem settleS_lv (p : Nat) (s : Sec) : leftV p s.lv s.ws = (settleS p s).lv := by
  unfold leftV settleS
  cases hit p s.ws <;> rfl
theorem settleS_wv (p : Nat) (s : Sec) : (settleS p s).wv = .slice none 0 0 ∧ (settleS p s).ws = [] := by
  unfold settleS
  cases hit p s.ws <;> exact ⟨rfl, rfl⟩
theorem settleS_ok {w : World} {size waits : Nat} {s : Sec} (h : SecOk w size waits s) (p W : Nat) : SecOk w size W (settleS p s) := by
  have h2 := settleS_wv p s
  have h1 : Row w 0 (settleS p s).lv (settleS p s).l ∧ (settleS p s).l.length ≤ size := by
    unfold settleS
    cases hq : hit p s.ws with
    | none => exact ⟨h.lrow, h.lfit⟩
    | some x => exact ⟨(h.wt x (hit_mem hq)).1, (h.wt x (hit_mem hq)).2.1⟩
  exact ⟨h1.1, h1.2, by rw [h2.1, h2.2]; exact WRow.nil w, by rw [h2.2]; exact Nat.zero_le _, by rw [h2.2]; intro x hx; cases hx⟩
set_option maxRecDepth 100000 in
theorem settle_sec (q o : Nat) (s : Sec) (p : Nat) (w : World) (hl : w.cell? ⟨q, o, none⟩ = some s.lv) (hc : w.cell? ⟨q, o + 1, none⟩ = some s.wv) (hf : ∀ i, w.frozen? ⟨q, i, none⟩ = false) (hq : q < w.heap.size) (hr : WRow w s.wv s.ws) (hlen : s.ws.length ≤ 1000000) (hp : p < 18446744073709551616) :
    Calls Try.prog 49 #[.pointer (some ⟨q, o, none⟩), .int .u64 (p : Nat)] w fun e w' => (∃ v, e = .returned v) ∧ ∃ w1, Below w.heap.size w w1 ∧ w' = (w1.setCell ⟨q, o, none⟩ (settleS p s).lv).setCell ⟨q, o + 1, none⟩ (.slice none 0 0) := by
  have L := left_at q o s.la s.l.length s.lc s.wv s.ws p w hl hc hq hr hlen hp
  have e1 : leftV p (.slice s.la s.l.length s.lc) s.ws = (settleS p s).lv := settleS_lv p s
  rw [e1] at L
  obtain ⟨a, n, c, ev⟩ : ∃ a n c, (settleS p s).lv = .slice a n c := ⟨_, _, _, rfl⟩
  rw [ev] at L ⊢
  replace L := Lib.hid L
  have HL := Lib.hid hl
  have HC := Lib.hid hc
  have HF := Lib.hid hf
  clear hl hc hf hr e1 ev
  go_enter Try.func49, Try.ntmps49
  go_wp2_with fail
  refine L.out.mono ?_
  rintro e w1 ⟨rfl, hb⟩
  have c0 := (hb.cell (p := ⟨q, o, none⟩) hq).trans HL.out
  have c1 := (hb.cell (p := ⟨q, o + 1, none⟩) hq).trans HC.out
  have f0 := (hb.frozen (p := ⟨q, o, none⟩) hq).trans (HF.out o)
  have f1 := (hb.frozen (p := ⟨q, o + 1, none⟩) hq).trans (HF.out (o + 1))
  have HB := Lib.hid hb
  clear hb L HL HC HF
  go_wp2_with fail
  go_end0
  exact ⟨⟨_, rfl⟩, w1, HB.out, rfl⟩

/-- the disk with its first sectors settled. -/
def part (p i : Nat) (d : Dsk) : Dsk := { d with secs := (d.secs.take i).map (settleS p) ++ d.secs.drop i }
def settleD (p : Nat) (d : Dsk) : Dsk := { d with secs := d.secs.map (settleS p), waits := 0 }
theorem part_zero (p : Nat) (d : Dsk) : part p 0 d = d := by simp [part]
theorem part_length (p i : Nat) (d : Dsk) (h : i ≤ d.secs.length) : (part p i d).secs.length = d.secs.length := by simp [part]; omega
theorem part_at (p i : Nat) (d : Dsk) (h : i < d.secs.length) : (part p i d).secs[i]'(by rw [part_length p i d (by omega)]; exact h) = d.secs[i] := by
  simp only [part]
  rw [List.getElem_append_right (by simp; omega)]
  simp [Nat.min_eq_left (Nat.le_of_lt h)]
theorem part_succ (p i : Nat) (d : Dsk) (h : i < d.secs.length) : { part p i d with secs := (part p i d).secs.set i (settleS p d.secs[i]) } = part p (i + 1) d := by
  unfold part
  simp only
  congr 1
  rw [List.set_append_right _ _ (by simp; omega)]
  have e : i - ((d.secs.take i).map (settleS p)).length = 0 := by simp; omega
  rw [e, List.drop_eq_getElem_cons h, List.set_cons_zero, List.take_succ_eq_append_getElem h, List.map_append, List.map_singleton, List.append_assoc]
  rfl
theorem part_all (p : Nat) (d : Dsk) : (part p d.secs.length d).secs = d.secs.map (settleS p) := by simp [part]

theorem DiskAt.pq {w : World} {d : Dsk} (h : DiskAt w d) : d.p ≠ d.q := fun e => by
  have h1 := h.top
  have h2 := h.sec
  unfold Whole at h1 h2
  rw [e, h2] at h1
  simp at h1
theorem DiskAt.not_q {w : World} {d : Dsk} (h : DiskAt w d) {s : Sec} (hs : s ∈ d.secs) {k : Nat} (hk : s.wv.ownBlock = some k) : k ≠ d.q ∧ k ≠ d.p := by
  obtain ⟨cur, hc⟩ := row_kind (h.ok s hs).wrow hk
  refine ⟨fun e => ?_, fun e => ?_⟩
  · have h2 := h.sec
    unfold Whole at h2
    rw [e, h2] at hc
    simp at hc
  · have h2 := h.top
    unfold Whole at h2
    rw [e, h2] at hc
    simp at hc
theorem SecOk.below {w w' : World} {size waits : Nat} {s : Sec} (h : SecOk w size waits s) (hb : Below w.heap.size w w') : SecOk w' size waits s :=
  h.of_heap (fun k hk => hb.block k (h.wrow.lt hk)) (fun k hk => hb.block k hk.lt)
theorem foot_set {d : Dsk} {i W : Nat} {s' : Sec} {F : Nat → Prop} (h : ∀ k ∈ foot d, F k) (hs : ∀ k, s'.wv.ownBlock = some k → F k) : ∀ k ∈ foot { d with secs := d.secs.set i s', waits := W }, F k := by
  intro k hk
  rcases foot_cases hk with rfl | rfl | ⟨s, hm, e⟩
  · exact h _ foot_p
  · exact h _ foot_q
  · rcases List.mem_or_eq_of_mem_set hm with hm | rfl
    · exact h _ (foot_wv hm e)
    · exact hs _ e
theorem set2_other (w : World) (q i j : Nat) (u v : Value) (k : Nat) (h : k ≠ q) : ((w.setCell ⟨q, i, none⟩ u).setCell ⟨q, j, none⟩ v).heap[k]? = w.heap[k]? :=
  (heap_set_other _ _ _ _ _ h).trans (heap_set_other _ _ _ _ _ h)
/-- a sector is settled. -/
theorem DiskAt.setSec {w w1 : World} {d : Dsk} (h : DiskAt w d) (hb : Below w.heap.size w w1) {i : Nat} (hi : i < d.secs.length) (s' : Sec) (hs : SecOk w d.size d.waits s') (hno : s'.wv = .slice none 0 0) :
    DiskAt ((w1.setCell ⟨d.q, i * 2, none⟩ s'.lv).setCell ⟨d.q, i * 2 + 1, none⟩ (.slice none 0 0)) { d with secs := d.secs.set i s' } ∧ (∀ k ∈ foot { d with secs := d.secs.set i s' }, k ∈ foot d) ∧
      Touch (foot d) w ((w1.setCell ⟨d.q, i * 2, none⟩ s'.lv).setCell ⟨d.q, i * 2 + 1, none⟩ (.slice none 0 0)) := by
  have h1 := h.below hb
  have hs1 := hs.below hb
  have hbq : ∀ k, Bytes w1 k → k ≠ d.q := fun k hk e => (h1.plain foot_q).2 (e ▸ hk)
  refine ⟨?_, foot_set (W := d.waits) (fun k hk => hk) (by rw [hno]; intro k hk; simp [Value.ownBlock] at hk), ((Touch.of_below hb (foot d)).setCell (.inl foot_q) _).setCell (.inl foot_q) _⟩
  refine h1.put (w' := (w1.setCell ⟨d.q, i * 2, none⟩ s'.lv).setCell ⟨d.q, i * 2 + 1, none⟩ (.slice none 0 0)) s' d.waits (Nat.le_refl _) ?_ ?_ (fun k hk => set2_other _ _ _ _ _ _ _ (hbq k hk)) (fun j hj _ k hk => set2_other _ _ _ _ _ _ _ (h1.not_q (List.getElem_mem hj) hk).1) ?_ (by rw [hno]; intro j hj _ k hk; simp [Value.ownBlock] at hk)
  · rw [show dcells { d with secs := d.secs.set i s', waits := d.waits } = dcells d by simp [dcells]]
    exact (h1.top.far (p := ⟨d.q, i * 2, none⟩) h1.pq _).far (p := ⟨d.q, i * 2 + 1, none⟩) h1.pq _
  · have := (h1.sec.set_ (i * 2) s'.lv).set_ (i * 2 + 1) (.slice none 0 0)
    rw [← hno] at this ⊢
    rw [← encS_set d.secs i s' hi]
    simpa using this
  · exact hs1.of_heap (fun k hk => by rw [hno] at hk; simp [Value.ownBlock] at hk) (fun k hk => set2_other _ _ _ _ _ _ _ (hbq k hk))
/-- nothing waits any more. -/
theorem DiskAt.calm {w : World} {d : Dsk} (h : DiskAt w d) (he : ∀ s ∈ d.secs, s.wv = .slice none 0 0 ∧ s.ws = []) : DiskAt (w.setCell ⟨d.p, 2, none⟩ (.int .i64 0)) { d with waits := 0 } := by
  have hbq : ∀ k, Bytes w k → k ≠ d.p := fun k hk e => (h.plain foot_p).2 (e ▸ hk)
  refine ⟨h.top.set_ 2 _, (heap_set_other _ _ _ _ _ (fun e => h.pq e.symm)).trans h.sec, fun s hs => ?_, h.apart, h.few, h.small⟩
  have h1 := (h.ok s hs).of_heap (w' := w.setCell ⟨d.p, 2, none⟩ (.int .i64 0)) (fun k hk => heap_set_other _ _ _ _ _ (h.not_q hs hk).2) (fun k hk => heap_set_other _ _ _ _ _ (hbq k hk))
  have h2 := he s hs
  exact ⟨h1.lrow, h1.lfit, h1.wrow, by rw [h2.2]; exact Nat.le_refl _, by rw [h2.2]; intro x hx; cases hx⟩
theorem part_done (p : Nat) (d : Dsk) : { part p d.secs.length d with waits := 0 } = settleD p d := by
  have h := part_all p d
  unfold settleD
  rw [← h]
  rfl
set_option maxRecDepth 100000 in
theorem settle_all {w : World} {d : Dsk} (h : DiskAt w d) (LW : d.waits ≤ 1000000) (p : Nat) (hp : p < 18446744073709551616) : Calls Try.prog 34 #[.pointer (some ⟨d.p, 0, none⟩), .int .u64 (p : Nat)] w fun e w' => (∃ v, e = .returned v) ∧ DiskAt w' (settleD p d) ∧ (∀ k ∈ foot (settleD p d), k ∈ foot d) ∧ Touch (foot d) w w' := by
  have H := Lib.hid h
  have c1 := h.c 1
  simp only [dcells, List.getElem?_toArray, List.getElem?_cons_zero, List.getElem?_cons_succ] at c1
  have hfew := h.few
  clear h
  go_enter Try.func34, Try.ntmps34
  go_wp2_with fail
  go_loopg [4, 10] (d.secs.length + 1) (fun j s4 s10 wr => ∃ i : Nat, i ≤ d.secs.length ∧ d.secs.length < i + j ∧ s10 = .int .i64 (i : Nat) ∧ DiskAt wr (part p i d) ∧ (∀ k ∈ foot (part p i d), k ∈ foot d) ∧ Touch (foot d) w wr)
  case atStart => exact ⟨0, by omega, by omega, rfl, by rw [part_zero]; exact H.out, by rw [part_zero]; exact fun k hk => hk, Touch.refl _ _⟩
  case round =>
    obtain ⟨i, hi, hj, rfl, hd, hk, ht⟩ := hrel
    by_cases hend : i = d.secs.length
    · have hno : ¬ (i : Int) < (d.secs.length : Int) := by omega
      subst hend
      have e2 : (part p d.secs.length d).p = d.p := rfl
      have t2 := hd.top
      rw [e2] at t2
      have k2 := Whole.cell t2 2
      rw [show (dcells (part p d.secs.length d))[2]? = some (.int .i64 d.waits) from rfl] at k2
      have f2 := Whole.frozen t2 2
      have q1 := Whole.cell t2 1
      rw [show (dcells (part p d.secs.length d))[1]? = some (.slice (some ⟨d.q, 0, none⟩) (part p d.secs.length d).secs.length (part p d.secs.length d).secs.length) from rfl, part_length p _ d (Nat.le_refl _)] at q1
      have HD := Lib.hid hd
      have HK := Lib.hid hk
      have HT := Lib.hid ht
      clear hd hk ht t2
      go_wp2_with fail
      go_end0
      have hc := HD.out.calm (fun s hs => by
        rw [part_all] at hs
        obtain ⟨s0, _, rfl⟩ := List.mem_map.1 hs
        exact settleS_wv p s0)
      rw [part_done] at hc
      exact ⟨⟨_, rfl⟩, hc, fun k hk => HK.out k (by rw [← part_done] at hk; exact hk), HT.out.setCell (.inl foot_p) _⟩
    · have hlt : i < d.secs.length := by omega
      have hlt' : (i : Int) < (d.secs.length : Int) := by omega
      have hpl := part_length p i d hi
      have q1 := hd.c 1
      simp only [dcells, List.getElem?_toArray, List.getElem?_cons_zero, List.getElem?_cons_succ] at q1
      rw [hpl] at q1
      rw [show (part p i d).p = d.p from rfl, show (part p i d).q = d.q from rfl] at q1
      have hok := hd.ok _ (List.getElem_mem (show i < (part p i d).secs.length by omega))
      rw [part_at p i d hlt] at hok
      have hcs := fun j => Whole.cell hd.sec j
      obtain ⟨k0, k1⟩ := encS_at (part p i d).secs i (by omega)
      rw [part_at p i d hlt] at k0 k1
      have S := settle_sec d.q (i * 2) d.secs[i] p wr ((hcs (i * 2)).trans (by simpa using k0)) ((hcs (i * 2 + 1)).trans (by simpa using k1)) (fun j => Whole.frozen hd.sec j) hd.sec.lt hok.wrow (by have := hok.few; rw [show (part p i d).waits = d.waits from rfl] at this; omega) hp
      have HD := Lib.hid hd
      have HK := Lib.hid hk
      have HT := Lib.hid ht
      have HOK := Lib.hid hok
      replace S := Lib.hid S
      clear hd hk ht hok hcs k0 k1 hpl
      go_wp2_with fail
      refine S.out.mono ?_
      rintro e w2 ⟨⟨v, rfl⟩, w1, hb, rfl⟩
      obtain ⟨d1, d2, d3⟩ := HD.out.setSec hb (show i < (part p i d).secs.length by rw [part_length p i d hi]; exact hlt) (settleS p d.secs[i]) (settleS_ok HOK.out p _) (settleS_wv p _).1
      rw [part_succ p i d hlt] at d1 d2
      rw [show (part p i d).q = d.q from rfl] at d1 d3
      have D1 := Lib.hid d1
      have D2 := Lib.hid d2
      have D3 := Lib.hid d3
      generalize (w1.setCell { block := d.q, off := i * 2 } (settleS p d.secs[i]).lv).setCell { block := d.q, off := i * 2 + 1 } (Value.slice none 0 0) = w2 at *
      clear d1 d2 d3 S HD HOK
      go_wp2_with fail
      go_roundg (d.secs.length - i)
      case measure => omega
      case rel => exact ⟨i + 1, by omega, by omega, rfl, D1.out, fun k hk => HK.out k (D2.out k hk), HT.out.trans D3.out (fun x hx => .inl (HK.out x hx))⟩
end Go.Proofs.Ytlkkfnimealbkaa

/- Flush, Crash. -/
namespace Go.Proofs.Ytlkkfnimealbkaa
open Go.RowKit

def ones : Nat := 18446744073709551615
def flushR (d : Dsk) : Int := if d.dark then 17 else if blown d then 17 else 0
def flushD (d : Dsk) : Dsk := if d.dark then d else if blown d then deedOf d else settleD ones (deedOf d)
theorem flush_nil (w : World) : Calls Try.prog 20 #[.pointer none] w fun e w' => e = .returned (.int .i64 2) ∧ w' = w := by
  go_enter Try.func20, Try.ntmps20
  go_wp2_with fail
  refine (lit_nil _).mono ?_
  rintro e w1 ⟨rfl, rfl⟩
  go_wp2_with fail
  go_ret
  exact ⟨rfl, rfl⟩
theorem deedOf_p (d : Dsk) : (deedOf d).p = d.p := by unfold deedOf; split <;> rfl
theorem deedOf_waits (d : Dsk) : (deedOf d).waits = d.waits := by unfold deedOf; split <;> rfl
theorem deedOf_secs (d : Dsk) : (deedOf d).secs = d.secs := by unfold deedOf; split <;> rfl
theorem deedOf_size (d : Dsk) : (deedOf d).size = d.size := by unfold deedOf; split <;> rfl
theorem deedOf_q (d : Dsk) : (deedOf d).q = d.q := by unfold deedOf; split <;> rfl
/-- how the disk stands behind a call. -/
def Goes (w w' : World) (d d' : Dsk) : Prop := DiskAt w' d' ∧ (∀ k ∈ foot d', k ∈ foot d ∨ w.heap.size ≤ k) ∧ Touch (foot d) w w'
theorem Goes.refl {w : World} {d : Dsk} (h : DiskAt w d) : Goes w w d d := ⟨h, fun _ hk => .inl hk, Touch.refl _ _⟩
theorem Goes.trans {w w1 w2 : World} {d d1 d2 : Dsk} (h : Goes w w1 d d1) (k : Goes w1 w2 d1 d2) : Goes w w2 d d2 :=
  ⟨k.1, fun x hx => by
    rcases k.2.1 x hx with h1 | h1
    · exact h.2.1 x h1
    · exact .inr (Nat.le_trans h.2.2.size h1), h.2.2.trans k.2.2 (fun x hx => h.2.1 x hx)⟩
theorem flush_at {w : World} {d : Dsk} (h : DiskAt w d) (hl : Low d) : Calls Try.prog 20 #[.pointer (some ⟨d.p, 0, none⟩)] w fun e w' => e = .returned (.int .i64 (flushR d)) ∧ Goes w w' d (flushD d) := by
  have L := Lib.hid (lit_at h)
  have DD := Lib.hid (deed_at h hl)
  have hw := hl.waits
  have H := Lib.hid h
  clear h hl
  cases hd : d.dark with
  | true =>
    have e1 : litOf d = 17 := by simp [litOf, hd]
    have e2 : flushR d = 17 := by simp [flushR, hd]
    have e3 : flushD d = d := by simp [flushD, hd]
    rw [e1] at L
    simp only [e2, e3]
    clear e1 e2 e3 hd DD
    go_enter Try.func20, Try.ntmps20
    go_wp2_with fail
    refine L.out.mono ?_
    rintro e w1 ⟨rfl, rfl⟩
    go_wp2_with fail
    go_ret
    exact ⟨rfl, Goes.refl H.out⟩
  | false =>
    have e1 : litOf d = 0 := by simp [litOf, hd]
    rw [e1] at L
    cases hb : blown d with
    | true =>
      have e2 : flushR d = 17 := by simp [flushR, hd, hb]
      have e3 : flushD d = deedOf d := by simp [flushD, hd, hb]
      simp only [hb, if_true] at DD
      simp only [e2, e3]
      clear e1 e2 e3 hd hb
      go_enter Try.func20, Try.ntmps20
      go_wp2_with fail
      refine L.out.mono ?_
      rintro e w1 ⟨rfl, rfl⟩
      go_wp2_with fail
      refine DD.out.mono ?_
      rintro e w1 ⟨rfl, h1, h2, h3⟩
      have G : Hid (Goes _ w1 d (deedOf d)) := Lib.hid ⟨h1, fun k hk => .inl (h2 ▸ hk), h3⟩
      clear h1 h2 h3
      go_wp2_with fail
      go_ret
      exact ⟨rfl, G.out⟩
    | false =>
      have e2 : flushR d = 0 := by simp [flushR, hd, hb]
      have e3 : flushD d = settleD ones (deedOf d) := by simp [flushD, hd, hb]
      simp only [hb, if_false, Bool.false_eq_true] at DD
      simp only [e2, e3]
      clear e1 e2 e3 hd hb
      go_enter Try.func20, Try.ntmps20
      go_wp2_with fail
      refine L.out.mono ?_
      rintro e w1 ⟨rfl, rfl⟩
      go_wp2_with fail
      refine DD.out.mono ?_
      rintro e w1 ⟨rfl, h1, h2, h3⟩
      have S := settle_all h1 (by rw [deedOf_waits]; exact hw) ones (by decide)
      rw [deedOf_p, show ((ones : Nat) : Int) = 18446744073709551615 from rfl] at S
      replace S := Lib.hid S
      have G : Hid (Goes _ w1 d (deedOf d)) := Lib.hid ⟨h1, fun k hk => .inl (h2 ▸ hk), h3⟩
      clear h1 h2 h3
      go_wp2_with fail
      refine S.out.mono ?_
      rintro e w2 ⟨⟨v, rfl⟩, h1, h2, h3⟩
      have G2 : Hid (Goes w1 w2 (deedOf d) (settleD ones (deedOf d))) := Lib.hid ⟨h1, fun k hk => .inl (h2 k hk), h3⟩
      clear h1 h2 h3
      go_wp2_with fail
      go_ret
      exact ⟨rfl, G.out.trans G2.out⟩

def crashD (p : Nat) (d : Dsk) : Dsk := fuseOf { settleD p d with dark := false } (-1)
end Go.Proofs.Ytlkkfnimealbkaa

/- Read. -/
namespace Go.Proofs.Ytlkkfnimealbkaa
open Go.RowKit

def lay (l : List UInt8) (o : Nat) (x : List UInt8) : List UInt8 := l.take o ++ x ++ l.drop (o + x.length)
theorem splice_encB (l : List UInt8) (o : Nat) (x : List UInt8) : splice (encB l) o (encB x) = encB (lay l o x) := by
  simp [splice, lay, encB, List.map_take, List.map_drop]
/-- bytes, and zeros behind them. -/
def pad (n : Nat) (l : List UInt8) : List UInt8 := l ++ zeros (n - l.length)
theorem lay_pad (n : Nat) (l : List UInt8) : lay (zeros n) 0 l = pad n l := by
  simp [lay, pad, zeros, List.drop_replicate]
theorem pad_length (n : Nat) (l : List UInt8) (h : l.length ≤ n) : (pad n l).length = n := by simp [pad, zeros]; omega
theorem sizeB : (Try.prog.info? 5).map (·.size) = some 1 := by kernel_rfl
/-- a sector, as it is seen. -/
def readL (d : Dsk) (k : Nat) (h : k < d.secs.length) : List UInt8 := pad d.size (settleS ones d.secs[k]).l
theorem readL_length {w : World} {d : Dsk} (h : DiskAt w d) (k : Nat) (hk : k < d.secs.length) : (readL d k hk).length = d.size :=
  pad_length _ _ (settleS_ok (h.ok _ (List.getElem_mem hk)) ones 0).lfit

theorem read_nil (i : Int) (w : World) : Calls Try.prog 13 #[.pointer none, .int .i64 i] w fun e w' => e = .returned (.tuple #[.slice none 0 0, .int .i64 2]) ∧ w' = w := by
  have T := takes_nil i 0 w
  go_enter Try.func13, Try.ntmps13
  go_wp2_with fail
  refine T.mono ?_
  rintro e w1 ⟨rfl, rfl⟩
  go_wp2_with fail
  go_ret2
  exact ⟨rfl, rfl⟩
theorem read_err {w : World} {d : Dsk} (h : DiskAt w d) (i t : Int) (ht : takesOf d i 0 = t) (h0 : ¬ t = 0) : Calls Try.prog 13 #[.pointer (some ⟨d.p, 0, none⟩), .int .i64 i] w fun e w' => e = .returned (.tuple #[.slice none 0 0, .int .i64 t]) ∧ w' = w := by
  have T := takes_at h i 0
  rw [ht] at T
  replace T := Lib.hid T
  clear h ht
  go_enter Try.func13, Try.ntmps13
  go_wp2_with fail
  refine T.out.mono ?_
  rintro e w1 ⟨rfl, rfl⟩
  go_wp2_with fail
  go_ret2
  exact ⟨rfl, rfl⟩
theorem takes_ok {d : Dsk} (hd : d.dark = false) {k : Nat} (hk : k < d.secs.length) {n : Int} (hn : n ≤ d.size) : takesOf d k n = 0 := by
  unfold takesOf
  rw [hd, if_neg (by simp), if_neg (by omega)]
set_option maxRecDepth 100000 in
theorem read_at {w : World} {d : Dsk} (h : DiskAt w d) (hw : d.waits ≤ 1000000) (hd : d.dark = false) (k : Nat) (hk : k < d.secs.length) :
    Calls Try.prog 13 #[.pointer (some ⟨d.p, 0, none⟩), .int .i64 (k : Nat)] w fun e w' => ∃ g, e = .returned (.tuple #[.slice (some ⟨g, 0, none⟩) d.size d.size, .int .i64 0]) ∧ w.heap.size ≤ g ∧ BB w' g (readL d k hk) ∧ Below w.heap.size w w' := by
  have T := takes_at h (k : Nat) 0
  rw [takes_ok hd hk (by omega)] at T
  have c0 := h.c 0
  simp only [dcells, List.getElem?_toArray, List.getElem?_cons_zero] at c0
  have hsm := h.small
  have hsm' : (d.size : Int) ≤ 1024 := by omega
  have MK := fun W => make_bytes d.size d.size rfl (by omega) W
  have hkl : (k : Int) < (d.secs.length : Int) := by omega
  have hfew : (d.secs.length : Int) ≤ 600 := by have := h.few; omega
  have bal : Below w.heap.size w (w.alloc (.cells (encB (zeros d.size)).toArray 5)) := (Below.refl _ _).alloc (Nat.le_refl _) _
  have hB : BB (w.alloc (.cells (encB (zeros d.size)).toArray 5)) w.heap.size (zeros d.size) := Whole.new _ _ _
  have hsz1 : w.heap.size ≤ w.heap.size := Nat.le_refl _
  generalize hw1 : w.alloc (.cells (encB (zeros d.size)).toArray 5) = w1 at *
  have h1 := h.below bal
  have c1 := h1.c 1
  simp only [dcells, List.getElem?_toArray, List.getElem?_cons_zero, List.getElem?_cons_succ] at c1
  have hok := h1.ok _ (List.getElem_mem hk)
  obtain ⟨k0, k1⟩ := encS_at d.secs k hk
  have hcs := fun j => Whole.cell h1.sec j
  have L := left_at d.q (k * 2) d.secs[k].la d.secs[k].l.length d.secs[k].lc d.secs[k].wv d.secs[k].ws ones w1 ((hcs (k * 2)).trans (by simpa using k0)) ((hcs (k * 2 + 1)).trans (by simpa using k1)) h1.sec.lt hok.wrow (by have := hok.few; omega) (by decide)
  have e1 : leftV ones (.slice d.secs[k].la d.secs[k].l.length d.secs[k].lc) d.secs[k].ws = (settleS ones d.secs[k]).lv := settleS_lv ones d.secs[k]
  have hso := settleS_ok hok ones 0
  rw [e1, show ((ones : Nat) : Int) = 18446744073709551615 from rfl] at L
  have HG : Hid (readL d k hk = pad d.size (settleS ones d.secs[k]).l) := Lib.hid rfl
  generalize settleS ones d.secs[k] = S at *
  obtain ⟨A, c, eA, hA, -, -⟩ := hso.lrow.shape
  have hfit := hso.lfit
  injection eA with eA1 eA2 eA3
  subst eA1
  subst eA3
  dsimp only [Sec.lv] at L
  replace L := Lib.hid L
  replace T := Lib.hid T
  have HB := Lib.hid hB
  have HA := Lib.hid hA
  have BAL := Lib.hid bal
  clear h h1 hcs k0 k1 hok e1 hso hB hA bal hd eA2
  generalize S.l = l at *
  generalize S.la = la at *
  generalize S.lc = lc at *
  have hfit' : (l.length : Int) ≤ (d.size : Int) := by omega
  go_enter Try.func13, Try.ntmps13
  go_wp2_with fail
  refine T.out.mono ?_
  rintro e w' ⟨rfl, rfl⟩
  go_wp2_with fail
  refine L.out.mono ?_
  rintro e w2 ⟨rfl, hb2⟩
  have HB2 := Lib.hid (HB.out.below hb2)
  have HA2 := Lib.hid (HA.out.below hb2)
  have B2 := Lib.hid (below_next BAL.out hb2)
  clear hb2 MK
  have hsz := sizeB
  have hgg : w'.heap.size ≤ w'.heap.size := Nat.le_refl _
  go_wp2_with (
    (refine wpList_copy_splice rfl (.tmp 19) (.tmp 26) 35 35 rfl 5 Try.underlying35 hsz (some ⟨w'.heap.size, 0, none⟩) la d.size d.size l.length lc rfl rfl w'.heap.size 0 (encB (zeros d.size)) 5 HB2.out (encB l) ?h2 ?h3 ?h4 (encB_one _) w'.heap.size w' B2.out hgg ?_
     case h2 => (rw [encB_length]; exact (Nat.min_eq_left (by omega)).symm)
     case h3 =>
       intro hpos
       rw [encB_length] at hpos
       obtain ⟨bb, o, e1, _, _⟩ := HA2.out 0 hpos
       refine ⟨rfl, _, e1, fun j v hv => ?_⟩
       subst e1
       exact holds_cells HA2.out j v hv
     case h4 => (rw [encB_length, encB_length]; simp [zeros]; omega)
     intro w4 hw4 hb4))
  have BB4 : Hid (BB w4 w'.heap.size (pad d.size l)) := Lib.hid (by
    have := hw4.out
    rw [splice_encB, lay_pad] at this
    exact this)
  have B4 := Lib.hid hb4
  clear hw4 hb4 HB2 HA2 HB HA B2 BAL
  go_wp2_with fail
  go_ret2
  exact ⟨_, rfl, Nat.le_refl _, by rw [HG.out]; exact BB4.out, B4.out⟩
end Go.Proofs.Ytlkkfnimealbkaa

/- A write more (plain). -/
namespace Go.Proofs.Ytlkkfnimealbkaa
open Go.RowKit

theorem step_append_runI {P : Program} {ops : Array Oper} {o : Oper} {a : Act} {w : World} {K : Act → World → Prop} {Q : Exit → Act → World → Prop} {E : Prop}
    (hg : o.guard = none) (d x : Operand) (dT sT : TypeId) (hop : o.op = Op.call { callee := Callee.builtin Builtin.append, args := #[d, x], argTypes := #[dT, sT] })
    (v u : Value) (hd : a.eval d = v) (hx : a.eval x = u) {v' : Value} {w' : World} (hr : (Builtin.append_ #[dT, sT] o.type #[v, u]).run P w = .ok v' w') (hK : K (a.put o.dst v') w') :
    if Region.wanted o (yielded ops a.tmps) = true then Oper.wp P o a w K Q else E := by
  have hw : Region.wanted o (yielded ops a.tmps) = true := by simp [Region.wanted, hg]
  rw [if_pos hw]
  unfold Oper.wp
  simp [execOp, hop, resolve, invoke, builtin, hd, hx, hr, Result.andThen]
  exact hK

theorem step_call_any {P : Program} {ops : Array Oper} {o : Oper} {a : Act} {w : World} {K : Act → World → Prop} {Q : Exit → Act → World → Prop} {E : Prop}
    (hg : o.guard = none) (f : FuncId) (args : Array Value) (hrun : (execOp a.eval o).run P w = .ok (.enter f args) w) {R : Ending → World → Prop} (hc : Calls P f args w R) (hK : ∀ e w', R e w' → ∃ v, e = .returned v ∧ K (a.put o.dst v) w') :
    if Region.wanted o (yielded ops a.tmps) = true then Oper.wp P o a w K Q else E := by
  have hw : Region.wanted o (yielded ops a.tmps) = true := by simp [Region.wanted, hg]
  rw [if_pos hw]
  unfold Oper.wp
  rw [hrun, Oper.upon_enter]
  refine hc.mono fun e w' hh => ?_
  obtain ⟨v, rfl, hk⟩ := hK e w' hh
  exact hk


/-- the disk with one write more. -/
def writeD (d : Dsk) (k : Nat) (h : k < d.secs.length) (wv : Value) (x : Wt) : Dsk := { d with secs := d.secs.set k { d.secs[k] with wv := wv, ws := d.secs[k].ws ++ [x] }, waits := d.waits + 1 }
theorem encS_wv (xs : List Sec) (i : Nat) (h : i < xs.length) (s : Sec) (hl : s.lv = xs[i].lv) : (encS xs).set (i * 2 + 1) s.wv = encS (xs.set i s) := by
  rw [← encS_set xs i s h]
  congr 1
  have hlen : i * 2 < (encS xs).length := by rw [encS_length]; omega
  have e : (encS xs)[i * 2] = s.lv := by
    have := (encS_at xs i h).1
    rw [List.getElem?_eq_getElem hlen] at this
    injection this with this
    rw [this, hl]
  rw [← e, List.set_getElem_self]
theorem write_step {w2 w3 : World} {d : Dsk} (h : DiskAt w2 d) (k : Nat) (hk : k < d.secs.length) (hb : Below w2.heap.size w2 w3) (x : Wt) (hx : Row w3 0 x.v x.b) (hfit : x.b.length ≤ d.size) (hn : x.n = d.waits) (hfew : d.waits ≤ 1000000) :
    ∃ a' c' w4, Sem.run Try.prog (Builtin.append_ #[64, 64] 64 #[d.secs[k].wv, .slice (some ⟨w3.heap.size, 0, none⟩) 1 1]) (w3.alloc (.cells #[.int .i64 x.n, x.v] 77)) = .ok (.slice a' (d.secs[k].ws.length + 1) c') w4 ∧
      w4.cell? ⟨d.q, k * 2 + 1, none⟩ = some d.secs[k].wv ∧ w4.frozen? ⟨d.q, k * 2 + 1, none⟩ = false ∧
      (w4.setCell ⟨d.q, k * 2 + 1, none⟩ (.slice a' (d.secs[k].ws.length + 1) c')).cell? ⟨d.p, 2, none⟩ = some (.int .i64 d.waits) ∧ (w4.setCell ⟨d.q, k * 2 + 1, none⟩ (.slice a' (d.secs[k].ws.length + 1) c')).frozen? ⟨d.p, 2, none⟩ = false ∧
      Goes w2 ((w4.setCell ⟨d.q, k * 2 + 1, none⟩ (.slice a' (d.secs[k].ws.length + 1) c')).setCell ⟨d.p, 2, none⟩ (.int .i64 (d.waits + 1 : Nat))) d (writeD d k hk (.slice a' (d.secs[k].ws.length + 1) c') x) := by
  have h3 := h.below hb
  have hm := List.getElem_mem hk
  have hok := h3.ok _ hm
  obtain ⟨v', w4, hr, hw4, hg, hown⟩ := append_wt hok.wrow x rfl (Nat.le_trans hok.few hfew)
  obtain ⟨a', c', ev, -, -⟩ := hw4.shape
  rw [List.length_append, List.length_singleton] at ev
  have balW : Below w3.heap.size w3 (w3.alloc (.cells #[.int .i64 x.n, x.v] 77)) := (Below.refl _ _).alloc (Nat.le_refl _) _
  have hW := h3.below balW
  have hxW := hx.below balW
  have hszW : (w3.alloc (.cells #[.int .i64 x.n, x.v] 77)).heap.size = w3.heap.size + 1 := by simp
  generalize hWe : w3.alloc (.cells #[.int .i64 x.n, x.v] 77) = W at *
  have hokW := hW.ok _ hm
  have nq := fun g (e : d.secs[k].wv.ownBlock = some g) => hW.not_q hm e
  have keep : ∀ g, g < W.heap.size → d.secs[k].wv.ownBlock ≠ some g → w4.heap[g]? = W.heap[g]? := fun g h1 h2 => hg.block g h1 (fun e => h2 e.symm)
  have p4 : Whole w4 d.p 53 (dcells d) := (keep d.p hW.top.lt (fun e => (nq _ e).2 rfl)).trans hW.top
  have q4 : Whole w4 d.q 66 (encS d.secs).toArray := (keep d.q hW.sec.lt (fun e => (nq _ e).1 rfl)).trans hW.sec
  have b4 : ∀ g, Bytes W g → w4.heap[g]? = W.heap[g]? := fun g hbg => keep g hbg.lt (fun e => (hW.plain (foot_wv hm e)).2 hbg)
  have hbq : ∀ g, Bytes W g → g ≠ d.q := fun g hg e => (hW.plain foot_q).2 (e ▸ hg)
  have hbp : ∀ g, Bytes W g → g ≠ d.p := fun g hg e => (hW.plain foot_p).2 (e ▸ hg)
  have vq : ∀ g, v'.ownBlock = some g → g ≠ d.q ∧ g ≠ d.p := fun g e => by
    obtain ⟨cur, hc⟩ := row_kind hw4 e
    refine ⟨fun e' => ?_, fun e' => ?_⟩
    · subst e'
      unfold Whole at q4
      rw [q4] at hc
      simp at hc
    · subst e'
      unfold Whole at p4
      rw [p4] at hc
      simp at hc
  have hpq := h.pq
  refine ⟨a', c', w4, by rw [hr, ev], ?_, q4.frozen _, ?_, ?_, ?_⟩
  · rw [q4.cell]
    simpa using (encS_at d.secs k hk).2
  · rw [(p4.far (p := ⟨d.q, k * 2 + 1, none⟩) hpq _).cell]
    rfl
  · exact (p4.far (p := ⟨d.q, k * 2 + 1, none⟩) hpq _).frozen _
  rw [← ev]
  have other : ∀ g, g ≠ d.p → g ≠ d.q → ((w4.setCell ⟨d.q, k * 2 + 1, none⟩ v').setCell ⟨d.p, 2, none⟩ (.int .i64 (d.waits + 1 : Nat))).heap[g]? = w4.heap[g]? := fun g h1 h2 => (heap_set_other _ _ _ _ _ h1).trans (heap_set_other _ _ _ _ _ h2)
  refine ⟨?_, ?_, ?_⟩
  · unfold writeD
    refine hW.put { d.secs[k] with wv := v', ws := d.secs[k].ws ++ [x] } (d.waits + 1) (Nat.le_succ _) ?_ ?_ (fun g hbg => (other g (hbp g hbg) (hbq g hbg)).trans (b4 g hbg)) (fun j hj hjk g e => ?_) ?_ (fun j hj hjk g e e' => ?_)
    · have := (p4.far (p := ⟨d.q, k * 2 + 1, none⟩) hpq v').set_ 2 (.int .i64 (d.waits + 1 : Nat))
      rw [show dcells { d with secs := d.secs.set k { d.secs[k] with wv := v', ws := d.secs[k].ws ++ [x] }, waits := d.waits + 1 } = (dcells d).setIfInBounds 2 (.int .i64 (d.waits + 1 : Nat)) by simp [dcells]]
      exact this
    · have := (q4.set_ (k * 2 + 1) v').far (p := ⟨d.p, 2, none⟩) (fun e => hpq e.symm) (.int .i64 (d.waits + 1 : Nat))
      rw [← encS_wv d.secs k hk { d.secs[k] with wv := v', ws := d.secs[k].ws ++ [x] } rfl]
      simpa using this
    · have nj := hW.not_q (List.getElem_mem hj) e
      refine (other g nj.2 nj.1).trans (keep g ((hW.ok _ (List.getElem_mem hj)).wrow.lt e) (fun e2 => hjk (hW.apart j k hj hk g e e2)))
    · have ob : ∀ g, Bytes W g → ((w4.setCell ⟨d.q, k * 2 + 1, none⟩ v').setCell ⟨d.p, 2, none⟩ (.int .i64 (d.waits + 1 : Nat))).heap[g]? = W.heap[g]? := fun g hbg => (other g (hbp g hbg) (hbq g hbg)).trans (b4 g hbg)
      refine ⟨hokW.lrow.of_heap fun g e => ob g (hokW.lrow.bytes e), hokW.lfit, hw4.of_heap fun g e => other g (vq g e).2 (vq g e).1, ?_, ?_⟩
      · have := hokW.few
        simp only [List.length_append, List.length_singleton]
        omega
      · intro y hy
        rcases List.mem_append.1 hy with hy | hy
        · have := hokW.wt y hy
          exact ⟨this.1.of_heap fun g e => ob g (this.1.bytes e), this.2.1, by omega⟩
        · have : y = x := by simpa using hy
          subst this
          exact ⟨hxW.of_heap fun g e => ob g (hxW.bytes e), hfit, by omega⟩
    · rcases hown g e with h1 | h1
      · exact hjk (hW.apart j k hj hk g e' h1)
      · have := (h3.ok _ (List.getElem_mem hj)).wrow.lt e'
        omega
  · unfold writeD
    refine foot_set (F := fun g => g ∈ foot d ∨ w2.heap.size ≤ g) (fun g hg => .inl hg) (fun g e => ?_)
    rcases hown g e with h1 | h1
    · exact .inl (foot_wv hm h1)
    · exact .inr (Nat.le_trans hb.size h1)
  · have t1 : Touch (foot d) w2 W := (Touch.of_below hb (foot d)).belowTo balW
    exact ((t1.grown hg (fun g e => .inl (foot_wv hm e))).setCell (.inl foot_q) _).setCell (.inl foot_p) _
end Go.Proofs.Ytlkkfnimealbkaa

/- Write. -/
namespace Go.Proofs.Ytlkkfnimealbkaa
open Go.RowKit

/-- a slice that came from elsewhere. -/
def Off (A : Option Addr) (F : List Nat) : Prop := ∀ p : Addr, A = some p → p.block ∉ F
theorem Holds.touch {w w' : World} {A : Option Addr} {l : List UInt8} {F : List Nat} (h : Holds w A l) (ht : Touch F w w') (ho : Off A F) : Holds w' A l := fun i hi => by
  obtain ⟨b, o, e, hlt, hc⟩ := h i hi
  have hh := ht.block b hlt (ho _ e)
  refine ⟨b, o, e, Nat.lt_of_lt_of_le hlt ht.size, ?_⟩
  rw [← hc]
  simp only [World.cell?, hh]
theorem write_nil (i : Int) (A : Option Addr) (n c : Nat) (w : World) : Calls Try.prog 17 #[.pointer none, .int .i64 i, .slice A n c] w fun e w' => e = .returned (.int .i64 2) ∧ w' = w := by
  have T := takes_nil i n w
  go_enter Try.func17, Try.ntmps17
  go_wp2_with fail
  refine T.mono ?_
  rintro e w1 ⟨rfl, rfl⟩
  go_wp2_with fail
  go_ret
  exact ⟨rfl, rfl⟩
theorem write_err {w : World} {d : Dsk} (h : DiskAt w d) (i t : Int) (A : Option Addr) (n c : Nat) (ht : takesOf d i n = t) (h0 : ¬ t = 0) : Calls Try.prog 17 #[.pointer (some ⟨d.p, 0, none⟩), .int .i64 i, .slice A n c] w fun e w' => e = .returned (.int .i64 t) ∧ w' = w := by
  have T := takes_at h i n
  rw [ht] at T
  replace T := Lib.hid T
  clear h ht
  go_enter Try.func17, Try.ntmps17
  go_wp2_with fail
  refine T.out.mono ?_
  rintro e w1 ⟨rfl, rfl⟩
  go_wp2_with fail
  go_ret
  exact ⟨rfl, rfl⟩
/-- the fuse is over. -/
theorem write_blown {w : World} {d : Dsk} (h : DiskAt w d) (hl : Low d) (i : Int) (A : Option Addr) (n c : Nat) (ht : takesOf d i n = 0) (hb : blown d = true) : Calls Try.prog 17 #[.pointer (some ⟨d.p, 0, none⟩), .int .i64 i, .slice A n c] w fun e w' => e = .returned (.int .i64 17) ∧ Goes w w' d (deedOf d) := by
  have T := takes_at h i n
  rw [ht] at T
  have DD := deed_at h hl
  simp only [hb, if_true] at DD
  replace T := Lib.hid T
  replace DD := Lib.hid DD
  clear h ht hb hl
  go_enter Try.func17, Try.ntmps17
  go_wp2_with fail
  refine T.out.mono ?_
  rintro e w1 ⟨rfl, rfl⟩
  go_wp2_with fail
  refine DD.out.mono ?_
  rintro e w2 ⟨rfl, h1, h2, h3⟩
  have G := Lib.hid (show Goes _ w2 d (deedOf d) from ⟨h1, fun k hk => .inl (h2 ▸ hk), h3⟩)
  clear h1 h2 h3
  go_wp2_with fail
  go_ret
  exact ⟨rfl, G.out⟩
set_option maxRecDepth 100000 in
set_option maxHeartbeats 4000000 in
theorem write_at {w : World} {d : Dsk} (h : DiskAt w d) (hl : Low d) (hd : d.dark = false) (hbl : blown d = false) (k : Nat) (hk : k < d.secs.length) (A : Option Addr) (c : Nat) (b : List UInt8) (hA : Holds w A b) (hAo : b = [] ∨ Off A (foot d)) (hAb : b.length ≤ d.size) (hlow : d.waits + 1 ≤ 1000000) :
    Calls Try.prog 17 #[.pointer (some ⟨d.p, 0, none⟩), .int .i64 (k : Nat), .slice A b.length c] w fun e w' => e = .returned (.int .i64 0) ∧ ∃ a cc wv, Goes w w' d (writeD (deedOf d) k (by rw [deedOf_secs]; exact hk) wv ⟨d.waits, a, cc, b⟩) := by
  have T := takes_at h (k : Nat) b.length
  rw [takes_ok hd hk (by omega)] at T
  have DD := deed_at h hl
  simp only [hbl, if_false, Bool.false_eq_true] at DD
  have hsm := h.small
  have hkl : (k : Int) < (d.secs.length : Int) := by omega
  have hfew : (d.secs.length : Int) ≤ 600 := by have := h.few; omega
  have H := Lib.hid h
  have HA := Lib.hid hA
  have hAi : (b.length : Int) ≤ 1024 := by omega
  replace T := Lib.hid T
  replace DD := Lib.hid DD
  clear h hl hA hd hbl
  go_enter Try.func17, Try.ntmps17
  go_wp2_with fail
  refine T.out.mono ?_
  rintro e w1 ⟨rfl, rfl⟩
  go_wp2_with fail
  refine DD.out.mono ?_
  rintro e w2 ⟨rfl, h1, h2, h3⟩
  have G := Lib.hid (show Goes _ w2 d (deedOf d) from ⟨h1, fun k hk => .inl (h2 ▸ hk), h3⟩)
  have hA2 : Holds w2 A b := by
    rcases hAo with e | ho
    · rw [e]; exact Holds.nil _ _
    · exact HA.out.touch h3 ho
  have hk2 : k < (deedOf d).secs.length := by rw [deedOf_secs]; exact hk
  have c1 := h1.c 1
  simp only [dcells, List.getElem?_toArray, List.getElem?_cons_zero, List.getElem?_cons_succ] at c1
  have c2 := h1.c 2
  simp only [dcells, List.getElem?_toArray, List.getElem?_cons_zero, List.getElem?_cons_succ] at c2
  have k1 := (encS_at (deedOf d).secs k hk2).2
  have cw := (Whole.cell h1.sec (k * 2 + 1)).trans (show _ = some (deedOf d).secs[k].wv by simpa using k1)
  have hap : (deedOf d).p = d.p := deedOf_p d
  have haw : (deedOf d).waits = d.waits := deedOf_waits d
  have hal : (deedOf d).secs.length = d.secs.length := by rw [deedOf_secs]
  have has : (deedOf d).size = d.size := deedOf_size d
  have STEP := fun (w3 : World) (hb : Below w2.heap.size w2 w3) (a : Option Addr) (cc : Nat) (hx : Row w3 0 (.slice a b.length cc) b) => write_step h1 k hk2 hb ⟨d.waits, a, cc, b⟩ hx (by rw [has]; exact hAb) (by rw [haw]) (by rw [haw]; omega)
  have DL := h1
  generalize hDe : deedOf d = D at *
  have HDE := Lib.hid hDe
  clear hDe
  obtain ⟨a5, c5, e5, -, -⟩ := (h1.ok _ (List.getElem_mem hk2)).wrow.shape
  rw [hap, hal] at c1
  rw [hap, haw] at c2
  rw [e5] at cw
  rw [hap, haw] at STEP
  rw [e5] at STEP
  have hqlt := h1.sec.lt
  have hplt : d.p < w2.heap.size := hap ▸ h1.top.lt
  generalize D.secs[k].ws.length = n5 at *
  have call : Calls Try.prog 31 #[.slice A b.length c] w2.drew fun e w3 => ∃ a cc, e = .returned (.slice a b.length cc) ∧ w3.cell? ⟨D.q, k * 2 + 1, none⟩ = some (.slice a5 n5 c5) ∧ w3.cell? ⟨d.p, 2, none⟩ = some (.int .i64 d.waits) ∧
      ∃ a' c' w4, Sem.run Try.prog (Builtin.append_ #[64, 64] 64 #[.slice a5 n5 c5, .slice (some ⟨w3.heap.size, 0, none⟩) 1 1]) (w3.alloc (.cells #[.int .i64 d.waits, .slice a b.length cc] 77)) = .ok (.slice a' (n5 + 1) c') w4 ∧
      w4.cell? ⟨D.q, k * 2 + 1, none⟩ = some (.slice a5 n5 c5) ∧ w4.frozen? ⟨D.q, k * 2 + 1, none⟩ = false ∧
      (w4.setCell ⟨D.q, k * 2 + 1, none⟩ (.slice a' (n5 + 1) c')).cell? ⟨d.p, 2, none⟩ = some (.int .i64 d.waits) ∧ (w4.setCell ⟨D.q, k * 2 + 1, none⟩ (.slice a' (n5 + 1) c')).frozen? ⟨d.p, 2, none⟩ = false ∧
      Hid (∃ a cc wv, Goes w2 ((w4.setCell ⟨D.q, k * 2 + 1, none⟩ (.slice a' (n5 + 1) c')).setCell ⟨d.p, 2, none⟩ (.int .i64 (d.waits + 1))) D (writeD D k hk2 wv ⟨d.waits, a, cc, b⟩)) := by
    have b0 : Below w2.heap.size w2 w2.drew := (Below.refl _ _).drew
    refine (clone_any A c b w2.drew (hA2.below b0) (by omega)).mono ?_
    rintro e w3 ⟨v, rfl, hr, hb⟩
    have hb2 : Below w2.heap.size w2 w3 := below_next b0 hb
    obtain ⟨a, cc, rfl, -, -, -⟩ := hr.shape
    obtain ⟨a', c', w4, s1, s2, s3, s4, s5, s6⟩ := STEP w3 hb2 a cc (hr.le (Nat.zero_le _))
    exact ⟨a, cc, rfl, (hb2.cell (p := ⟨D.q, k * 2 + 1, none⟩) hqlt).trans cw, (hb2.cell (p := ⟨d.p, 2, none⟩) hplt).trans c2, a', c', w4, s1, s2, s3, s4, s5, Lib.hid ⟨a, cc, _, s6⟩⟩
  have CALL := Lib.hid call
  clear call STEP hA2 h1 h2 h3 T DD k1 e5 hap haw hal has DL HA H
  go_wp2_with fail
  go_region_law (first
    | (refine step_append_runI rfl _ _ 64 64 rfl _ _ ?h3 ?h4 s1 ?_; (case h3 => rfl); (case h4 => rfl))
    | (refine step_call_any rfl 31 #[.slice A b.length c] ?h1 CALL.out ?_; (case h1 => kernel_rfl); rintro e w3 ⟨a, cc, rfl, q1, q2, a', c', w4, s1, s2, s3, s4, s5, FIN⟩; have q5 : (w3.alloc (.cells #[.int .i64 d.waits, .slice a b.length cc] 77)).cell? ⟨D.q, k * 2 + 1, none⟩ = some (.slice a5 n5 c5) := (((Below.refl _ w3).alloc (Nat.le_refl _) _).cell (p := ⟨D.q, k * 2 + 1, none⟩) (World.block_lt_of_cell? w3 _ q1)).trans q1; refine ⟨_, rfl, ?_⟩))
  all_goals
    clear q1 q2 q5 s1 s2 s3
    go_wp2_with fail
    go_ret
    obtain ⟨a9, c9, w9, F9⟩ := FIN.out
    have G9 := G.out.trans F9
    have e9 := HDE.out
    subst e9
    exact ⟨rfl, a9, c9, w9, G9⟩
end Go.Proofs.Ytlkkfnimealbkaa

/- The disk as a model: its numbers, and what would last of each sector for each pattern; each call's contract. -/
namespace Go.Proofs.Ytlkkfnimealbkaa
open Go.RowKit

structure Mod where
  size : Nat
  n : Nat
  waits : Nat
  deeds : Nat
  fused : Bool
  fuse : Nat
  dark : Bool
  cont : Nat → Nat → List UInt8
theorem Mod.ext' {a b : Mod} (h1 : a.size = b.size) (h2 : a.n = b.n) (h3 : a.waits = b.waits) (h4 : a.deeds = b.deeds) (h5 : a.fused = b.fused) (h6 : a.fuse = b.fuse) (h7 : a.dark = b.dark) (h8 : ∀ p k, a.cont p k = b.cont p k) : a = b := by
  obtain ⟨a1, a2, a3, a4, a5, a6, a7, a8⟩ := a
  obtain ⟨b1, b2, b3, b4, b5, b6, b7, b8⟩ := b
  simp only at h1 h2 h3 h4 h5 h6 h7 h8
  subst h1 h2 h3 h4 h5 h6 h7
  have : a8 = b8 := funext fun p => funext fun k => h8 p k
  subst this
  rfl
def contAt (p : Nat) (d : Dsk) (k : Nat) : List UInt8 := match d.secs[k]? with | some s => (settleS p s).l | none => []
def modOf (d : Dsk) : Mod := ⟨d.size, d.secs.length, d.waits, d.deeds, d.fused, d.fuse, d.dark, fun p k => contAt p d k⟩
def Mod.blown (m : Mod) : Bool := m.fused && decide (m.fuse = 0)
def Mod.deed (m : Mod) : Mod := if m.blown then { m with dark := true } else { m with deeds := m.deeds + 1, fuse := if m.fused then m.fuse - 1 else m.fuse }
def Mod.takes (m : Mod) (i n : Int) : Int := if m.dark then 17 else if i < 0 ∨ (m.n : Int) ≤ i ∨ (m.size : Int) < n then 1 else 0
def Mod.writeR (m : Mod) (i n : Int) : Int := if m.takes i n = 0 then (if m.blown then 17 else 0) else m.takes i n
def Mod.write (m : Mod) (i : Int) (b : List UInt8) : Mod :=
  if m.takes i b.length = 0 then (if m.blown then m.deed else { m.deed with waits := m.waits + 1, cont := fun p k => if (k : Int) = i ∧ bit p m.waits = true then b else m.cont p k }) else m
def Mod.flushR (m : Mod) : Int := if m.dark then 17 else if m.blown then 17 else 0
def Mod.flush (m : Mod) : Mod := if m.dark then m else if m.blown then m.deed else { m.deed with waits := 0, cont := fun _ k => m.cont ones k }
def Mod.fuseTo (m : Mod) (n : Int) : Mod := { m with fused := decide (0 ≤ n), fuse := n.toNat }
def Mod.crash (m : Mod) (p : Nat) : Mod := { m with waits := 0, cont := fun _ k => m.cont p k, dark := false, fused := false, fuse := 0 }
def Mod.new (sectors size : Nat) : Mod := ⟨size, sectors, 0, 0, false, 0, false, fun _ _ => []⟩
structure Mod.Low (m : Mod) : Prop where
  waits : m.waits + 1 ≤ 1000000
  deeds : m.deeds ≤ 4611686018427387904
  fuse : m.fuse ≤ 9223372036854775807

theorem cont_secs {d d' : Dsk} (h : d'.secs = d.secs) (p k : Nat) : contAt p d' k = contAt p d k := by unfold contAt; rw [h]
theorem cont_settle (p p' : Nat) (d : Dsk) (k : Nat) : contAt p' (settleD p d) k = contAt p d k := by
  unfold contAt settleD
  simp only [List.getElem?_map]
  cases d.secs[k]? with
  | none => rfl
  | some s =>
    simp only [Option.map_some]
    have h := settleS_wv p s
    generalize settleS p s = t at *
    unfold settleS hit
    rw [h.2]
    rfl
theorem hit_snoc (p : Nat) (ws : List Wt) (x : Wt) : hit p (ws ++ [x]) = if bit p x.n then some x else hit p ws := by
  unfold hit
  rw [List.reverse_append]
  simp only [List.reverse_cons, List.reverse_nil, List.nil_append, List.singleton_append, List.find?_cons]
  cases bit p x.n <;> rfl
theorem cont_write (p : Nat) (d : Dsk) (k : Nat) (hk : k < d.secs.length) (wv : Value) (x : Wt) (j : Nat) : contAt p (writeD d k hk wv x) j = if j = k ∧ bit p x.n = true then x.b else contAt p d j := by
  unfold contAt writeD
  simp only
  by_cases h : j = k
  · subst h
    rw [List.getElem?_set_self hk, List.getElem?_eq_getElem hk]
    simp only
    unfold settleS
    simp only [hit_snoc]
    cases hb : bit p x.n with
    | true => simp
    | false => simp
  · rw [List.getElem?_set_ne (fun e => h e.symm), if_neg (fun e => h e.1)]
theorem mod_deed (d : Dsk) : modOf (deedOf d) = (modOf d).deed := by
  unfold Mod.deed
  show _ = if blown d = true then _ else _
  unfold deedOf
  split <;> rfl
theorem mod_fuse (d : Dsk) (n : Int) : modOf (fuseOf d n) = (modOf d).fuseTo n := rfl
theorem mod_settle (p : Nat) (d : Dsk) : modOf (settleD p d) = { modOf d with waits := 0, cont := fun _ k => contAt p d k } :=
  Mod.ext' rfl (by simp [modOf, settleD]) rfl rfl rfl rfl rfl (fun p' k => cont_settle p p' d k)
theorem mod_crash (p : Nat) (d : Dsk) : modOf (crashD p d) = (modOf d).crash p := by
  have h := mod_settle p d
  refine Mod.ext' rfl (by have := congrArg Mod.n h; exact this) rfl rfl rfl rfl rfl (fun p' k => ?_)
  exact cont_settle p p' d k
theorem mod_flush (d : Dsk) : modOf (flushD d) = (modOf d).flush := by
  unfold flushD Mod.flush
  show _ = if d.dark = true then _ else if blown d = true then _ else _
  cases hd : d.dark with
  | true => rfl
  | false =>
    cases hb : blown d with
    | true => exact mod_deed d
    | false =>
      simp only [if_false, Bool.false_eq_true]
      rw [mod_settle, mod_deed]
      refine Mod.ext' rfl rfl rfl rfl rfl rfl rfl (fun p k => ?_)
      exact cont_secs (deedOf_secs d) ones k
theorem mod_new (p q sectors size : Nat) : modOf (newD p q sectors size) = Mod.new sectors size := by
  refine Mod.ext' rfl (by simp [modOf, newD, Mod.new]) rfl rfl rfl rfl rfl (fun p' k => ?_)
  show contAt _ _ _ = []
  unfold contAt newD
  simp only [List.getElem?_replicate]
  split
  · rename_i s hs
    split at hs
    · cases hs; rfl
    · cases hs
  · rfl
theorem mod_write (d : Dsk) (k : Nat) (hk : k < (deedOf d).secs.length) (wv : Value) (x : Wt) (hn : x.n = d.waits) :
    modOf (writeD (deedOf d) k hk wv x) = { (modOf d).deed with waits := d.waits + 1, cont := fun p j => if (j : Int) = (k : Nat) ∧ bit p d.waits = true then x.b else contAt p d j } := by
  have h := mod_deed d
  refine Mod.ext' (by have := congrArg Mod.size h; exact this) ?_ (by show (deedOf d).waits + 1 = _; rw [deedOf_waits]) (by have := congrArg Mod.deeds h; exact this) (by have := congrArg Mod.fused h; exact this) (by have := congrArg Mod.fuse h; exact this) (by have := congrArg Mod.dark h; exact this) (fun p j => ?_)
  · have := congrArg Mod.n h
    simpa [modOf, writeD] using this
  · show contAt _ _ _ = _
    rw [cont_write, hn, cont_secs (deedOf_secs d)]
    simp only
    by_cases e : j = k
    · subst e; simp
    · have e' : ¬ (j : Int) = (k : Int) := by omega
      simp [e, e']

/-- the disk at p, whose own blocks (those that may turn) are F. -/
def IsD (w : World) (p : Nat) (F : List Nat) (m : Mod) : Prop := ∃ d, DiskAt w d ∧ d.p = p ∧ modOf d = m ∧ foot d = F
/-- how it stands behind a call. -/
def GoesM (w w' : World) (p : Nat) (F : List Nat) (m : Mod) : Prop := ∃ F', IsD w' p F' m ∧ (∀ k ∈ F', k ∈ F ∨ w.heap.size ≤ k) ∧ Touch F w w'
theorem IsD.plain {w : World} {p : Nat} {F : List Nat} {m : Mod} (h : IsD w p F m) : ∀ k ∈ F, k < w.heap.size ∧ ¬ Bytes w k := by
  obtain ⟨d, h1, _, _, rfl⟩ := h
  exact fun k hk => h1.plain hk
theorem IsD.touch {w w' : World} {p : Nat} {F G : List Nat} {m : Mod} (h : IsD w p F m) (ht : Touch G w w') (hG : ∀ k ∈ F, k ∉ G) (hB : ∀ k, Bytes w k → k ∉ G) : IsD w' p F m := by
  obtain ⟨d, h1, h2, h3, rfl⟩ := h
  exact ⟨d, h1.touch ht hG hB, h2, h3, rfl⟩
theorem IsD.below {w w' : World} {p : Nat} {F : List Nat} {m : Mod} (h : IsD w p F m) (hb : Below w.heap.size w w') : IsD w' p F m := h.touch (Touch.of_below hb []) (by simp) (by simp)
theorem Goes.to {w w' : World} {d d' : Dsk} {m : Mod} (h : Goes w w' d d') (hm : modOf d' = m) (hp : d'.p = d.p) : GoesM w w' d.p (foot d) m := ⟨foot d', ⟨d', h.1, hp, hm, rfl⟩, h.2.1, h.2.2⟩
theorem GoesM.trans {w w1 w2 : World} {p : Nat} {F : List Nat} {m1 m2 : Mod} (h : GoesM w w1 p F m1) (k : ∀ F1, IsD w1 p F1 m1 → GoesM w1 w2 p F1 m2) : GoesM w w2 p F m2 := by
  obtain ⟨F1, h1, h2, h3⟩ := h
  obtain ⟨F2, k1, k2, k3⟩ := k F1 h1
  refine ⟨F2, k1, fun x hx => ?_, h3.trans k3 (fun x hx => h2 x hx)⟩
  rcases k2 x hx with hh | hh
  · exact h2 x hh
  · exact .inr (Nat.le_trans h3.size hh)
theorem GoesM.refl {w : World} {p : Nat} {F : List Nat} {m : Mod} (h : IsD w p F m) : GoesM w w p F m := ⟨F, h, fun _ hk => .inl hk, Touch.refl _ _⟩
theorem newM (a b : Nat) (w : World) (h1 : 1 ≤ a) (h2 : a ≤ 600) (h3 : 64 ≤ b) (h4 : b ≤ 1024) : Calls Try.prog 7 #[.int .i64 (a : Nat), .int .i64 (b : Nat)] w fun e w' => ∃ p, e = .returned (.tuple #[.pointer (some ⟨p, 0, none⟩), .int .i64 0]) ∧ ∃ F, IsD w' p F (Mod.new a b) ∧ (∀ k ∈ F, w.heap.size ≤ k) ∧ Below w.heap.size w w' := by
  refine (new_good a b w h1 h2 h3 h4).mono ?_
  rintro e w' ⟨p, rfl, q, k1, k2, k3⟩
  exact ⟨p, rfl, _, ⟨_, k1, rfl, mod_new _ _ _ _, rfl⟩, k2, k3⟩
section
variable {w : World} {p : Nat} {F : List Nat} {m : Mod}
theorem IsD.low (h : m.Low) {d : Dsk} (hm : modOf d = m) : Low d := by subst hm; exact ⟨by have : d.waits + 1 ≤ 1000000 := h.waits; omega, h.deeds, h.fuse⟩
theorem IsD.flush (h : IsD w p F m) (hl : m.Low) : Calls Try.prog 20 #[.pointer (some ⟨p, 0, none⟩)] w fun e w' => e = .returned (.int .i64 m.flushR) ∧ GoesM w w' p F m.flush := by
  obtain ⟨d, h1, rfl, hm, rfl⟩ := h
  refine (flush_at h1 (IsD.low hl hm)).mono ?_
  subst hm
  rintro e w' ⟨rfl, hg⟩
  refine ⟨rfl, hg.to (mod_flush d) ?_⟩
  unfold flushD
  split
  · rfl
  · split
    · exact deedOf_p d
    · exact deedOf_p d
theorem IsD.fuse (h : IsD w p F m) (n : Int) : Calls Try.prog 19 #[.pointer (some ⟨p, 0, none⟩), .int .i64 n] w fun e w' => (∃ v, e = .returned v) ∧ GoesM w w' p F (m.fuseTo n) := by
  obtain ⟨d, h1, rfl, hm, rfl⟩ := h
  subst hm
  refine (fuse_at h1 n).mono ?_
  rintro e w' ⟨hv, h2, h3, h4⟩
  exact ⟨hv, foot d, ⟨_, h2, rfl, mod_fuse d n, h3⟩, fun k hk => .inl hk, h4⟩
theorem IsD.read (h : IsD w p F m) (hw : m.waits ≤ 1000000) (hd : m.dark = false) (k : Nat) (hk : k < m.n) : Calls Try.prog 13 #[.pointer (some ⟨p, 0, none⟩), .int .i64 (k : Nat)] w fun e w' => ∃ g, e = .returned (.tuple #[.slice (some ⟨g, 0, none⟩) m.size m.size, .int .i64 0]) ∧ w.heap.size ≤ g ∧ BB w' g (pad m.size (m.cont ones k)) ∧ (pad m.size (m.cont ones k)).length = m.size ∧ Below w.heap.size w w' := by
  obtain ⟨d, h1, rfl, hm, rfl⟩ := h
  subst hm
  have hk' : k < d.secs.length := hk
  have e : readL d k hk' = pad d.size (contAt ones d k) := by
    unfold readL contAt
    rw [List.getElem?_eq_getElem hk']
  refine (read_at h1 hw hd k hk').mono ?_
  rintro e1 w' ⟨g, rfl, h2, h3, h4⟩
  refine ⟨g, rfl, h2, ?_, ?_, h4⟩
  · rw [e] at h3; exact h3
  · have := readL_length h1 k hk'
    rw [e] at this
    exact this
theorem IsD.readErr (h : IsD w p F m) (i t : Int) (ht : m.takes i 0 = t) (h0 : ¬ t = 0) : Calls Try.prog 13 #[.pointer (some ⟨p, 0, none⟩), .int .i64 i] w fun e w' => e = .returned (.tuple #[.slice none 0 0, .int .i64 t]) ∧ w' = w := by
  obtain ⟨d, h1, rfl, hm, rfl⟩ := h
  subst hm
  exact read_err h1 i t ht h0
theorem IsD.waits (h : IsD w p F m) : Calls Try.prog 12 #[.pointer (some ⟨p, 0, none⟩)] w fun e w' => e = .returned (.int .i64 (m.waits : Nat)) ∧ w' = w := by
  obtain ⟨d, h1, rfl, hm, rfl⟩ := h
  subst hm
  exact waits_at h1
theorem IsD.size (h : IsD w p F m) : Calls Try.prog 24 #[.pointer (some ⟨p, 0, none⟩)] w fun e w' => e = .returned (.int .i64 (m.size : Nat)) ∧ w' = w := by
  obtain ⟨d, h1, rfl, hm, rfl⟩ := h
  subst hm
  exact size_at h1
theorem IsD.sectors (h : IsD w p F m) : Calls Try.prog 22 #[.pointer (some ⟨p, 0, none⟩)] w fun e w' => e = .returned (.int .i64 (m.n : Nat)) ∧ w' = w := by
  obtain ⟨d, h1, rfl, hm, rfl⟩ := h
  subst hm
  exact sectors_at h1
theorem IsD.write (h : IsD w p F m) (hl : m.Low) (i : Int) (A : Option Addr) (c : Nat) (b : List UInt8) (hA : Holds w A b) (hAo : b = [] ∨ Off A F) : Calls Try.prog 17 #[.pointer (some ⟨p, 0, none⟩), .int .i64 i, .slice A b.length c] w fun e w' => e = .returned (.int .i64 (m.writeR i b.length)) ∧ GoesM w w' p F (m.write i b) := by
  obtain ⟨d, h1, rfl, hm, rfl⟩ := h
  have hlow := IsD.low hl hm
  subst hm
  by_cases ht : takesOf d i b.length = 0
  · have hw0 : (modOf d).writeR i b.length = if (modOf d).blown = true then 17 else 0 := if_pos ht
    have hw1 : (modOf d).write i b = if (modOf d).blown = true then (modOf d).deed else { (modOf d).deed with waits := d.waits + 1, cont := fun p k => if (k : Int) = i ∧ bit p d.waits = true then b else contAt p d k } := if_pos ht
    cases hb : blown d with
    | true =>
      have hb' : (modOf d).blown = true := hb
      rw [hw0, hw1, if_pos hb', if_pos hb']
      refine (write_blown h1 hlow i A b.length c ht hb).mono ?_
      rintro e w' ⟨rfl, hg⟩
      exact ⟨rfl, hg.to (mod_deed d) (deedOf_p d)⟩
    | false =>
      have hb' : ¬ (modOf d).blown = true := by rw [show (modOf d).blown = blown d from rfl, hb]; simp
      rw [hw0, hw1, if_neg hb', if_neg hb']
      unfold takesOf at ht
      have hd : d.dark = false := by
        cases hdd : d.dark with
        | false => rfl
        | true => rw [hdd] at ht; simp at ht
      rw [hd] at ht
      have hno : ¬ (i < 0 ∨ (d.secs.length : Int) ≤ i ∨ (d.size : Int) < (b.length : Int)) := fun h => by
        rw [if_neg (by simp), if_pos h] at ht
        omega
      obtain ⟨k, rfl⟩ : ∃ k : Nat, i = k := ⟨i.toNat, by omega⟩
      have hk : k < d.secs.length := by omega
      refine (write_at h1 hlow hd hb k hk A c b hA hAo (by omega) hl.waits).mono ?_
      rintro e w' ⟨rfl, a, cc, wv, hg⟩
      exact ⟨rfl, hg.to (mod_write d k _ wv _ rfl) (by show (deedOf d).p = d.p; exact deedOf_p d)⟩
  · have hw0 : (modOf d).writeR i b.length = takesOf d i b.length := if_neg ht
    have hw1 : (modOf d).write i b = modOf d := if_neg ht
    rw [hw0, hw1]
    refine (write_err h1 i _ A b.length c rfl ht).mono ?_
    rintro e w' ⟨rfl, rfl⟩
    exact ⟨rfl, GoesM.refl ⟨d, h1, rfl, rfl, rfl⟩⟩
end
end Go.Proofs.Ytlkkfnimealbkaa

/- A disk of the call's own (all its blocks are new since w0); awake. -/
namespace Go.Proofs.Ytlkkfnimealbkaa
open Go.RowKit

def OwnD (w0 w : World) (p : Nat) (m : Mod) : Prop := ∃ F, IsD w p F m ∧ (∀ k ∈ F, w0.heap.size ≤ k) ∧ Below w0.heap.size w0 w
theorem OwnD.step {w0 w w' : World} {p : Nat} {m m' : Mod} (h : OwnD w0 w p m) (hs : ∀ F, IsD w p F m → (∀ k ∈ F, w0.heap.size ≤ k) → GoesM w w' p F m') : OwnD w0 w' p m' := by
  obtain ⟨F, h1, h2, h3⟩ := h
  obtain ⟨F', k1, k2, k3⟩ := hs F h1 h2
  refine ⟨F', k1, fun k hk => ?_, Touch.fresh h3 k3 h2⟩
  rcases k2 k hk with hh | hh
  · exact h2 k hh
  · exact Nat.le_trans h3.size hh
theorem OwnD.bel {w0 w : World} {p : Nat} {m : Mod} (h : OwnD w0 w p m) : Below w0.heap.size w0 w := h.choose_spec.2.2
theorem OwnD.below {w0 w w' : World} {p : Nat} {m : Mod} (h : OwnD w0 w p m) (hb : Below w.heap.size w w') : OwnD w0 w' p m := by
  obtain ⟨F, h1, h2, h3⟩ := h
  exact ⟨F, h1.below hb, h2, below_next h3 hb⟩
/-- bytes that are none of the disk's own blocks. -/
def Far (w0 w : World) (A : Option Addr) : Prop := ∀ p : Addr, A = some p → p.block < w0.heap.size ∨ Bytes w p.block
theorem Far.off {w0 w : World} {A : Option Addr} (h : Far w0 w A) {p : Nat} {F : List Nat} {m : Mod} (hd : IsD w p F m) (hF : ∀ k ∈ F, w0.heap.size ≤ k) : Off A F := fun q e hq => by
  rcases h q e with h1 | h1
  · have := hF _ hq; omega
  · exact (hd.plain _ hq).2 h1
section
variable {w0 w : World} {p : Nat} {m : Mod}
theorem OwnD.write (h : OwnD w0 w p m) (hl : m.Low) (i : Int) (A : Option Addr) (c : Nat) (b : List UInt8) (hA : Holds w A b) (hf : b = [] ∨ Far w0 w A) : Calls Try.prog 17 #[.pointer (some ⟨p, 0, none⟩), .int .i64 i, .slice A b.length c] w fun e w' => e = .returned (.int .i64 (m.writeR i b.length)) ∧ OwnD w0 w' p (m.write i b) := by
  obtain ⟨F, h1, h2, h3⟩ := h
  refine (h1.write hl i A c b hA (hf.imp id (fun f => f.off h1 h2))).mono ?_
  rintro e w' ⟨rfl, F', k1, k2, k3⟩
  exact ⟨rfl, F', k1, fun k hk => (k2 k hk).elim (h2 k) (fun hh => Nat.le_trans h3.size hh), Touch.fresh h3 k3 h2⟩
theorem OwnD.of_goes (h : OwnD w0 w p m) {w' : World} {m' : Mod} {F : List Nat} (h2 : ∀ k ∈ F, w0.heap.size ≤ k) (hg : GoesM w w' p F m') : OwnD w0 w' p m' := by
  obtain ⟨F', k1, k2, k3⟩ := hg
  exact ⟨F', k1, fun k hk => (k2 k hk).elim (h2 k) (fun hh => Nat.le_trans h.bel.size hh), Touch.fresh h.bel k3 h2⟩
theorem OwnD.flush (h : OwnD w0 w p m) (hl : m.Low) : Calls Try.prog 20 #[.pointer (some ⟨p, 0, none⟩)] w fun e w' => e = .returned (.int .i64 m.flushR) ∧ OwnD w0 w' p m.flush := by
  have h' := h
  obtain ⟨F, h1, h2, h3⟩ := h
  refine (h1.flush hl).mono ?_
  rintro e w' ⟨rfl, hg⟩
  exact ⟨rfl, h'.of_goes h2 hg⟩
theorem OwnD.fuse (h : OwnD w0 w p m) (n : Int) : Calls Try.prog 19 #[.pointer (some ⟨p, 0, none⟩), .int .i64 n] w fun e w' => (∃ v, e = .returned v) ∧ OwnD w0 w' p (m.fuseTo n) := by
  have h' := h
  obtain ⟨F, h1, h2, h3⟩ := h
  refine (h1.fuse n).mono ?_
  rintro e w' ⟨hv, hg⟩
  exact ⟨hv, h'.of_goes h2 hg⟩
theorem OwnD.read (h : OwnD w0 w p m) (hw : m.waits ≤ 1000000) (hd : m.dark = false) (k : Nat) (hk : k < m.n) : Calls Try.prog 13 #[.pointer (some ⟨p, 0, none⟩), .int .i64 (k : Nat)] w fun e w' => ∃ g, e = .returned (.tuple #[.slice (some ⟨g, 0, none⟩) m.size m.size, .int .i64 0]) ∧ w.heap.size ≤ g ∧ BB w' g (pad m.size (m.cont ones k)) ∧ (pad m.size (m.cont ones k)).length = m.size ∧ Below w.heap.size w w' ∧ OwnD w0 w' p m := by
  have h' := h
  obtain ⟨F, h1, h2, h3⟩ := h
  refine (h1.read hw hd k hk).mono ?_
  rintro e w' ⟨g, rfl, h4, h5, h6, h7⟩
  exact ⟨g, rfl, h4, h5, h6, h7, h'.below h7⟩
theorem OwnD.new (w0 : World) (a b : Nat) (w : World) (h0 : Below w0.heap.size w0 w) (h1 : 1 ≤ a) (h2 : a ≤ 600) (h3 : 64 ≤ b) (h4 : b ≤ 1024) : Calls Try.prog 7 #[.int .i64 (a : Nat), .int .i64 (b : Nat)] w fun e w' => ∃ p, e = .returned (.tuple #[.pointer (some ⟨p, 0, none⟩), .int .i64 0]) ∧ OwnD w0 w' p (Mod.new a b) := by
  refine (newM a b w h1 h2 h3 h4).mono ?_
  rintro e w' ⟨p, rfl, F, k1, k2, k3⟩
  exact ⟨p, rfl, F, k1, fun k hk => Nat.le_trans h0.size (k2 k hk), below_next h0 k3⟩
end
/-- one byte that was built. -/
theorem one_byte (w : World) (x : UInt8) : Holds (w.alloc (.cells #[.int .u8 (x.toNat : Nat)] 5 (1, 2))) (some ⟨w.heap.size, 0, none⟩) [x] := by
  intro i hi
  have h0 : i = 0 := by simp at hi; omega
  subst h0
  refine ⟨w.heap.size, 0, rfl, by simp, ?_⟩
  rw [World.cell?_alloc_mark]
  rfl
theorem one_far (w0 w : World) (x : UInt8) : Far w0 (w.alloc (.cells #[.int .u8 (x.toNat : Nat)] 5 (1, 2))) (some ⟨w.heap.size, 0, none⟩) := fun p e => by
  cases e
  exact .inr ⟨_, _, heap_alloc_new w _⟩
def exM : Mod := (((((Mod.new 2 64).write 1 [97]).flush).write 1 [98]).crash 0)
theorem exM_cont : exM.cont ones 1 = [97] := by kernel_rfl
end Go.Proofs.Ytlkkfnimealbkaa
