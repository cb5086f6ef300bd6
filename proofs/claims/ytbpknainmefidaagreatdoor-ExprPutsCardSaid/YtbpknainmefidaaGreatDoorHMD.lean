import Derived.Test.YtbpknainmefidaaGreatDoorHP
import Derived.Test.YtbpknainmefidaaGreatDoorHQ
import Derived.Laws.Rows
import Derived.Test.YtbpknainmefidaaGreatDoorHMA
import Derived.Test.YtbpknainmefidaaGreatDoorHMC
import Derived.Deep.CutRange
import Derived.Deep.DeepCutAuto
import Derived.Deep.CutBlock

/- slices.Clone at trees; nodes that are new. -/
namespace Go.Proofs.YtbpknainmefidaaGreatDoor
open Go.RowKit Go.Lib
set_option linter.unusedVariables false
set_option linter.unusedSimpArgs false
set_option maxRecDepth 100000
open Ex (Tree)

/-- a node as a value, all below it in memory at or above B. -/
def NodeNew (B : Nat) (w : World) (v : Value) : Tree → Prop
  | .node op t vk vn vs ks => ∃ A c, v = .agg (ncells op t vk vn vs A ks.length c) ∧ ks.length ≤ c ∧ TreesIn (B ≤ ·) w A 0 ks
theorem NodeNew.node {B : Nat} {w : World} {v : Value} : ∀ {x : Tree}, NodeNew B w v x → NodeV w v x
  | .node op t vk vn vs ks, ⟨A, c, e, hc, hk⟩ => ⟨A, c, e, hc, hk.at⟩
theorem NodeNew.le {B B' : Nat} (hB : B' ≤ B) {w : World} {v : Value} : ∀ {x : Tree}, NodeNew B w v x → NodeNew B' w v x
  | .node op t vk vn vs ks, ⟨A, c, e, hc, hk⟩ => ⟨A, c, e, hc, hk.moved fun k h _ => ⟨rfl, Nat.le_trans hB h⟩⟩
theorem NodeNew.below {B : Nat} {w w' : World} (hb : Below w.heap.size w w') {v : Value} : ∀ {x : Tree}, NodeNew B w v x → NodeNew B w' v x
  | .node op t vk vn vs ks, ⟨A, c, e, hc, hk⟩ => ⟨A, c, e, hc, hk.below hb⟩
theorem SrcT.empty {S : Nat → Prop} {w : World} {l : List Tree} (h : SrcT S w none l) : l = [] := by
  cases l with
  | nil => rfl
  | cons x r =>
    cases x with
    | node op t vk vn vs ks =>
    obtain ⟨b, o, B, c, e, -⟩ := h.head
    cases e
theorem cloneT_any (S : Nat → Prop) (A : Option Addr) (c : Nat) (l : List Tree) (w : World) (h : SrcT S w A l) (hS : ∀ k, S k → k < w.heap.size) (hn : l.length ≤ 1000000) :
    Calls Tryz.prog 40 #[.slice A l.length c] w fun e w' => ∃ v, e = .returned v ∧ RowT S w' w.heap.size v l ∧ Below w.heap.size w w' := by
  cases A with
  | none =>
    have hl := h.empty
    subst hl
    have hq := fun W => Lib.run_eql_slice_nil (P := Tryz.prog) W 24 26 none 0 c 0 0 Tryz.underlying24
    go_enter Tryz.func40, Tryz.ntmps40
    go_wp2_with fail
    go_ret
    exact ⟨_, rfl, RowT.nil _ _ _, Below.refl _ _⟩
  | some a =>
    have b0 : Below w.heap.size w (w.alloc (.cells #[] 26)) := (Below.refl _ _).alloc (Nat.le_refl _) _
    have r0 := RowT.new (S := S) (w := w) (fun h => absurd (hS _ h) (Nat.lt_irrefl _))
    obtain ⟨v1, w1, hr1, r1, t1, o1⟩ := append_trees r0 (h.below b0) (c := c) (by simpa using hn) (by simp) (fun h => by have := hS _ h; simp at this; omega)
    have HB : Hid (Below w.heap.size w w1) := Lib.hid (t1.fresh b0 (fun k hk => by simp [Value.ownBlock] at hk; omega))
    have HO : Hid (RowT S w1 w.heap.size v1 l) := Lib.hid (by simpa using r1)
    have HR := Lib.hid hr1
    clear r1 t1 o1 r0 b0 hr1 h hS
    have hq := fun W => Lib.run_eql_slice_nil (P := Tryz.prog) W 24 26 (some a) l.length c 0 0 Tryz.underlying24
    go_enter Tryz.func40, Tryz.ntmps40
    go_wp2_with (at_builtin; refine Lib.wpList_append_run _ rfl _ _ 24 24 rfl _ _ rfl rfl _ _ HR.out ?_)
    go_ret
    exact ⟨_, rfl, HO.out, HB.out⟩
/-- six cells in a row, set anew. -/
theorem set6 {xs r : List Value} {a0 a1 a2 a3 a4 a5 : Value} (u0 u1 u2 u3 u4 u5 : Value) {n : Nat} (hn : xs.length = n) :
    ((((((xs ++ a0 :: a1 :: a2 :: a3 :: a4 :: a5 :: r).set n u0).set (n + 1) u1).set (n + 2) u2).set (n + 3) u3).set (n + 4) u4).set (n + 5) u5 = xs ++ u0 :: u1 :: u2 :: u3 :: u4 :: u5 :: r := by
  subst hn
  simp [List.set_append_right]
abbrev set6W (w : World) (g p : Nat) (u0 u1 u2 u3 u4 u5 : Value) : World := (((((w.setCell ⟨g, p, none⟩ u0).setCell ⟨g, p + 1, none⟩ u1).setCell ⟨g, p + 2, none⟩ u2).setCell ⟨g, p + 3, none⟩ u3).setCell ⟨g, p + 4, none⟩ u4).setCell ⟨g, p + 5, none⟩ u5
theorem set6_touch (w : World) (g p : Nat) (u0 u1 u2 u3 u4 u5 : Value) : Touch [g] w (set6W w g p u0 u1 u2 u3 u4 u5) :=
  ((((((Touch.refl _ _).setCell (q := ⟨g, p, none⟩) (.inl (by simp)) u0).setCell (q := ⟨g, p + 1, none⟩) (.inl (by simp)) u1).setCell (q := ⟨g, p + 2, none⟩) (.inl (by simp)) u2).setCell (q := ⟨g, p + 3, none⟩) (.inl (by simp)) u3).setCell (q := ⟨g, p + 4, none⟩) (.inl (by simp)) u4).setCell (q := ⟨g, p + 5, none⟩) (.inl (by simp)) u5
abbrev set6Z (w : World) (g : Nat) (u0 u1 u2 u3 u4 u5 : Value) : World := (((((w.setCell ⟨g, 0, none⟩ u0).setCell ⟨g, 1, none⟩ u1).setCell ⟨g, 2, none⟩ u2).setCell ⟨g, 3, none⟩ u3).setCell ⟨g, 4, none⟩ u4).setCell ⟨g, 5, none⟩ u5
theorem set6Z_touch (w : World) (g : Nat) (u0 u1 u2 u3 u4 u5 : Value) : Touch [g] w (set6Z w g u0 u1 u2 u3 u4 u5) :=
  ((((((Touch.refl _ _).setCell (q := ⟨g, 0, none⟩) (.inl (by simp)) u0).setCell (q := ⟨g, 1, none⟩) (.inl (by simp)) u1).setCell (q := ⟨g, 2, none⟩) (.inl (by simp)) u2).setCell (q := ⟨g, 3, none⟩) (.inl (by simp)) u3).setCell (q := ⟨g, 4, none⟩) (.inl (by simp)) u4).setCell (q := ⟨g, 5, none⟩) (.inl (by simp)) u5
theorem set6Z_whole {w : World} {g : Nat} {t : TypeId} {a0 a1 a2 a3 a4 a5 : Value} (h : Whole w g t #[a0, a1, a2, a3, a4, a5]) (u0 u1 u2 u3 u4 u5 : Value) : Whole (set6Z w g u0 u1 u2 u3 u4 u5) g t #[u0, u1, u2, u3, u4, u5] :=
  (((((h.set_ 0 u0).set_ 1 u1).set_ 2 u2).set_ 3 u3).set_ 4 u4).set_ 5 u5
theorem sizeExpr : (Tryz.prog.info? 26).map (·.size) = some 6 := by kernel_rfl
theorem frozen6 {w : World} {g : Nat} {t : TypeId} {cs : Array Value} (h : Whole w g t cs) : w.frozen? ⟨g, 0, none⟩ = false ∧ w.frozen? ⟨g, 1, none⟩ = false ∧ w.frozen? ⟨g, 2, none⟩ = false ∧ w.frozen? ⟨g, 3, none⟩ = false ∧ w.frozen? ⟨g, 4, none⟩ = false ∧ w.frozen? ⟨g, 5, none⟩ = false := ⟨h.frozen _, h.frozen _, h.frozen _, h.frozen _, h.frozen _, h.frozen _⟩
/-- trees in a block of the call's own: the first ones new, the others as they came. -/
structure KidsAt (w0 : World) (B g : Nat) (wr : World) (done left : List Tree) : Prop where
  row : ∃ cur xs ys, Whole wr g 26 cur ∧ cur.toList.take ((done.length + left.length) * 6) = xs ++ ys ∧ CellsT (fun k => B ≤ k ∧ k ≠ g) wr xs done ∧ CellsT (· < w0.heap.size) wr ys left
  own : B ≤ g
  old : w0.heap.size ≤ B
theorem KidsAt.moved {w0 wr w' : World} {B g : Nat} {done left : List Tree} (h : KidsAt w0 B g wr done left) {H : List Nat} (ht : Touch H wr w') (hH : ∀ k ∈ H, w0.heap.size ≤ k ∧ (k < B ∨ wr.heap.size ≤ k)) : KidsAt w0 B g w' done left := by
  obtain ⟨⟨cur, xs, ys, h1, h2, h3, h4⟩, h5, h6⟩ := h
  have hf : ∀ k, k < wr.heap.size → (k < w0.heap.size ∨ B ≤ k) → w'.heap[k]? = wr.heap[k]? := fun k hk hkB => ht.block k hk (fun hh => by have := hH k hh; omega)
  exact ⟨⟨cur, xs, ys, (hf g h1.lt (.inr h5)).trans h1, h2, h3.moved fun k hk hlt => ⟨hf k hlt (.inr hk.1), hk⟩, h4.moved fun k hk hlt => ⟨hf k hlt (.inl hk), hk⟩⟩, h5, h6⟩
theorem KidsAt.below {w0 wr w' : World} {B g : Nat} {done left : List Tree} (h : KidsAt w0 B g wr done left) (hb : Below wr.heap.size wr w') : KidsAt w0 B g w' done left := h.moved (Touch.of_below hb []) (by simp)
/-- the next kid. -/
theorem KidsAt.next {w0 wr : World} {B g : Nat} {done left : List Tree} {op : Int} {t : List UInt8} {vk vn : Int} {vs : List UInt8} {ks : List Tree} (h : KidsAt w0 B g wr done (.node op t vk vn vs ks :: left)) :
    ∃ C c, wr.cell? ⟨g, done.length * 6, none⟩ = some (.int .i64 op) ∧ wr.cell? ⟨g, done.length * 6 + 1, none⟩ = some (.string (tx t)) ∧ wr.cell? ⟨g, done.length * 6 + 2, none⟩ = some (.int .i64 vk) ∧ wr.cell? ⟨g, done.length * 6 + 3, none⟩ = some (.int .i64 vn) ∧ wr.cell? ⟨g, done.length * 6 + 4, none⟩ = some (.string (tx vs)) ∧
      wr.cell? ⟨g, done.length * 6 + 5, none⟩ = some (.slice C ks.length c) ∧ NodeV wr (.agg (ncells op t vk vn vs C ks.length c)) (.node op t vk vn vs ks) ∧ ∀ j, wr.frozen? ⟨g, j, none⟩ = false := by
  obtain ⟨⟨cur, xs, ys, h1, h2, h3, h4⟩, h5, h6⟩ := h
  obtain ⟨C, c, r, rfl, hc, hk, hr⟩ := h4
  have hl := h3.length
  have key : ∀ j u, j < 6 → (Value.int IntKind.i64 op :: .string (tx t) :: .int .i64 vk :: .int .i64 vn :: .string (tx vs) :: .slice C ks.length c :: r)[j]? = some u → wr.cell? ⟨g, done.length * 6 + j, none⟩ = some u := fun j u hj hu => by
    rw [h1.cell]
    have e := congrArg (fun l => l[done.length * 6 + j]?) h2
    try simp only at e
    rw [List.getElem?_take, if_pos (by rw [List.length_cons]; omega), List.getElem?_append_right (by omega), show done.length * 6 + j - xs.length = j by omega, hu] at e
    simpa using e
  exact ⟨C, c, by simpa using key 0 _ (by omega) rfl, key 1 _ (by omega) rfl, key 2 _ (by omega) rfl, key 3 _ (by omega) rfl, key 4 _ (by omega) rfl, key 5 _ (by omega) rfl, ⟨C, c, rfl, hc, hk.at⟩, fun j => h1.frozen j⟩
/-- a kid set anew. -/
theorem KidsAt.set_ {w0 wr : World} {B g : Nat} {done left : List Tree} {x : Tree} (h : KidsAt w0 B g wr done (x :: left)) {op : Int} {t : List UInt8} {vk vn : Int} {vs : List UInt8} {ks : List Tree} {C : Option Addr} {c : Nat} (hc : ks.length ≤ c) (hk : TreesIn (fun k => B ≤ k ∧ k ≠ g) wr C 0 ks) :
    KidsAt w0 B g (set6W wr g (done.length * 6) (.int .i64 op) (.string (tx t)) (.int .i64 vk) (.int .i64 vn) (.string (tx vs)) (.slice C ks.length c)) (done ++ [.node op t vk vn vs ks]) left := by
  cases x with
  | node op' t' vk' vn' vs' ks' =>
  obtain ⟨⟨cur, xs, ys, h1, h2, h3, h4⟩, h5, h6⟩ := h
  obtain ⟨C', c', r, rfl, hc', hk', hr⟩ := h4
  have hl := h3.length
  have hT := set6_touch wr g (done.length * 6) (.int .i64 op) (.string (tx t)) (.int .i64 vk) (.int .i64 vn) (.string (tx vs)) (.slice C ks.length c)
  have hf : ∀ k, k ≠ g → (set6W wr g (done.length * 6) (.int .i64 op) (.string (tx t)) (.int .i64 vk) (.int .i64 vn) (.string (tx vs)) (.slice C ks.length c)).heap[k]? = wr.heap[k]? := fun k hk => by
    unfold set6W
    simp only [heap_set_other _ _ _ _ _ hk]
  have hW := (((((h1.set_ (done.length * 6) (.int .i64 op)).set_ (done.length * 6 + 1) (.string (tx t))).set_ (done.length * 6 + 2) (.int .i64 vk)).set_ (done.length * 6 + 3) (.int .i64 vn)).set_ (done.length * 6 + 4) (.string (tx vs))).set_ (done.length * 6 + 5) (.slice C ks.length c)
  refine ⟨⟨_, xs ++ [.int .i64 op, .string (tx t), .int .i64 vk, .int .i64 vn, .string (tx vs), .slice C ks.length c], r, hW, ?_, ?_, ?_⟩, h5, h6⟩
  · simp only [Array.toList_setIfInBounds, List.take_set]
    rw [List.length_append, List.length_singleton, show (done.length + 1 + left.length) * 6 = (done.length + (Tree.node op' t' vk' vn' vs' ks' :: left).length) * 6 by rw [List.length_cons]; omega, h2, set6 _ _ _ _ _ _ hl]
    simp
  · refine CellsT.append (h3.moved fun k hk _ => ⟨hf k hk.2, hk⟩) ⟨C, c, [], rfl, hc, hk.moved fun k hk _ => ⟨hf k hk.2, hk⟩, rfl⟩
  · exact hr.moved fun k hk _ => ⟨hf k (by omega), hk⟩
/-- all are set anew. -/
theorem KidsAt.all {w0 wr : World} {B g : Nat} {done : List Tree} (h : KidsAt w0 B g wr done []) : TreesIn (B ≤ ·) wr (some ⟨g, 0, none⟩) 0 done := by
  obtain ⟨⟨cur, xs, ys, h1, h2, h3, h4⟩, h5, h6⟩ := h
  have hl := h3.length
  rw [show ys = [] from h4, List.append_nil] at h2
  refine (h3.trees h1.lt 0 fun j u hu => ?_).moved fun k hk _ => ⟨rfl, hk.elim (·.1) (fun e => by rw [e]; exact h5)⟩
  have hj : j < xs.length := (List.getElem?_eq_some_iff.1 hu).1
  rw [Nat.zero_add, h1.cell, ← hu, ← h2, List.getElem?_take, if_pos (by simp; omega)]
  simp
theorem RowT.kids {w0 w : World} {B : Nat} {v : Value} {l : List Tree} (h : RowT (· < w0.heap.size) w B v l) (hB : w0.heap.size ≤ B) : (l = [] ∧ v = .slice none 0 0) ∨ ∃ g cap, v = .slice (some ⟨g, 0, none⟩) l.length cap ∧ l.length ≤ cap ∧ KidsAt w0 B g w [] l := by
  obtain ⟨xs, h1, h2, h3⟩ := h
  rcases h1.2 with ⟨rfl, h0⟩ | ⟨g, cap, cur, rfl, hb, hh, hn, hm, hs, ht⟩
  · exact .inl ⟨List.eq_nil_of_length_eq_zero h0, rfl⟩
  · exact .inr ⟨g, cap, rfl, hn, ⟨⟨cur, [], xs, hh, by simpa using ht, rfl, h2⟩, hb, hB⟩⟩
theorem KidsAt.lt {w0 wr : World} {B g : Nat} {done left : List Tree} (h : KidsAt w0 B g wr done left) : g < wr.heap.size := let ⟨⟨_, _, _, h1, _⟩, _, _⟩ := h; h1.lt
end Go.Proofs.YtbpknainmefidaaGreatDoor

/- withKids, at copied and at what Put makes (gen_hw.py). -/
namespace Go.Proofs.YtbpknainmefidaaGreatDoor
open Go.RowKit Go.Lib
set_option linter.unusedVariables false
set_option linter.unusedSimpArgs false
set_option maxRecDepth 100000
open Ex (Tree)
theorem step_call_any {P : Program} {ops : Array Oper} {o : Oper} {a : Act} {w : World} {K : Act → World → Prop} {Q : Exit → Act → World → Prop} {E : Prop}
    (hg : o.guard = none) (f : FuncId) (args : Array Value) (hrun : (execOp a.eval o).run P w = .ok (.enter f args) w) {R : Ending → World → Prop} (hc : Calls P f args w R) (hK : ∀ e w', R e w' → ∃ v, e = .returned v ∧ K (a.put o.dst v) w') :
    if Region.wanted o (yielded ops a.tmps) = true then Oper.wp P o a w K Q else E := by
  have hw : Region.wanted o (yielded ops a.tmps) = true := by simp [Region.wanted, hg]
  rw [if_pos hw]
  unfold Oper.wp
  rw [hrun, Oper.upon_enter]
  refine hc.mono fun e w' hh => ?_
  obtain ⟨v, rfl, hk⟩ := hK e w' hh
  exact hk

set_option maxHeartbeats 2000000 in
theorem withKids_copied (f : Tree → Tree) (op : Int) (t : List UInt8) (vk vn : Int) (vs : List UInt8) (ks : List Tree) (w : World) (A : Option Addr) (c : Nat) (hc : ks.length ≤ c) (hk : TreesAt w A 0 ks) (hn : ks.length ≤ 1000000)
    (HM : ∀ i (hi : i < ks.length) (W : World), Below w.heap.size w W → ∀ v, NodeV W v ks[i] → Calls Tryz.prog 28 #[v] W fun e w' => ∃ u, e = .returned u ∧ NodeNew W.heap.size w' u (f ks[i]) ∧ Below W.heap.size W w') :
    Calls Tryz.prog 29 #[.agg (ncells op t vk vn vs A ks.length c), .func (.func 28) #[] #[]] w fun e w' => ∃ u, e = .returned u ∧ NodeNew w.heap.size w' u (.node op t vk vn vs (ks.map f)) ∧ Below w.heap.size w w' := by
  have HMH := Lib.hid HM
  have b0 : Below w.heap.size w ((w.alloc (.cells (ncells op t vk vn vs A ks.length c) 26)).alloc (.cells (ncells 0 [] 0 0 [] none 0 0) 26)) := ((Below.refl _ _).alloc (Nat.le_refl _) _).alloc (by simp) _
  have k0 := (Whole.new w 26 (ncells op t vk vn vs A ks.length c)).alloc (.cells (ncells 0 [] 0 0 [] none 0 0) 26)
  have k1 := Whole.new (w.alloc (.cells (ncells op t vk vn vs A ks.length c) 26)) 26 (ncells 0 [] 0 0 [] none 0 0)
  have hz0 : ((w.alloc (.cells (ncells op t vk vn vs A ks.length c) 26)).alloc (.cells (ncells 0 [] 0 0 [] none 0 0) 26)).heap.size = w.heap.size + 2 := by simp only [World.size_alloc]
  simp only [World.size_alloc] at k1
  clear HM
  unfold ncells at *
  go_enter Tryz.func29, Tryz.ntmps29
  obtain ⟨W1, hW1⟩ : ∃ W1, (w.alloc (.cells #[.int .i64 op, .string (tx t), .int .i64 vk, .int .i64 vn, .string (tx vs), .slice A ks.length c] 26)).alloc (.cells #[.int .i64 0, .string (tx []), .int .i64 0, .int .i64 0, .string (tx []), .slice none 0 0] 26) = W1 := ⟨_, rfl⟩
  rw [hW1] at b0 k0 k1 hz0
  have CL := Lib.hid (cloneT_any (· < w.heap.size) A c ks W1 (hk.old b0).src (fun k hk => by have := b0.size; omega) hn)
  obtain ⟨c0, c1, c2, c3, c4, c5⟩ := six_of k0
  have HZ := Lib.hid hz0
  clear hz0
  go_wp2_with fail
  refine CL.out.mono ?_
  rintro e W2 ⟨v, rfl, hrow, hb2⟩
  rw [HZ.out] at hrow
  have K0 := k0.below hb2 k0.lt
  have K1 := Lib.hid (k1.below hb2 k1.lt)
  have B2 : Hid (Below w.heap.size w W2) := Lib.hid (b0.trans (hb2.mono b0.size))
  clear c0 c1 c2 c3 c4 c5 k0 k1 CL hW1
  obtain ⟨c0, c1, c2, c3, c4, c5⟩ := six_of K0
  have f5 := K0.frozen 5
  rcases hrow.kids (by omega) with ⟨hks, rfl⟩ | ⟨g, cap, rfl, hcap, hkids⟩
  · subst hks
    have N0 := K0.set_ 5 (.slice none 0 0)
    have N1 := K1.out.far (p := ⟨w.heap.size, 5, none⟩) (by simp) (.slice none 0 0)
    have B3 := B2.out.setCell (p := ⟨w.heap.size, 5, none⟩) (Nat.le_refl _) (.slice none 0 0)
    obtain ⟨W3, hW3⟩ : ∃ W3, W2.setCell ⟨w.heap.size, 5, none⟩ (.slice none 0 0) = W3 := ⟨_, rfl⟩
    rw [hW3] at N0 N1 B3
    have hN0 : Whole W3 w.heap.size 26 (ncells op t vk vn vs none 0 0) := N0
    obtain ⟨m0, m1, m2, m3, m4, m5⟩ := six_of hN0
    have hN1 : Whole W3 (w.heap.size + 1) 26 (ncells 0 [] 0 0 [] none 0 0) := N1
    obtain ⟨x0, x1, x2, x3, x4, x5⟩ := six_of hN1
    obtain ⟨y0, y1, y2, y3, y4, y5⟩ := frozen6 hN1
    have HB3 := Lib.hid B3
    have HN1 := Lib.hid N1
    clear N0 N1 B3 hN0 hN1
    go_wp2_with fail
    go_loopg [5, 6, 14] 1 (fun j s5 s6 s14 wr => s14 = .int .i64 0 ∧ wr = W3)
    case atStart => exact ⟨rfl, rfl⟩
    case round =>
      obtain ⟨rfl, rfl⟩ := hrel
      have FIN := set6Z_whole HN1.out (.int .i64 op) (.string (tx t)) (.int .i64 vk) (.int .i64 vn) (.string (tx vs)) (.slice none 0 0)
      have FB := HB3.out.trans ((set6Z_touch wr (w.heap.size + 1) (.int .i64 op) (.string (tx t)) (.int .i64 vk) (.int .i64 vn) (.string (tx vs)) (.slice none 0 0)).below1 (B := w.heap.size) (by omega) HB3.out.size)
      have HFIN := Lib.hid FIN
      have HFB := Lib.hid FB
      clear FIN FB
      go_wp2_with fail
      exact bodyPost_ret (results_cell_row rfl _ _ (w.heap.size + 1) _ _ _ _ rfl HFIN.out Tryz.underlying26 rfl sizeExpr) rfl ⟨_, rfl, ⟨none, 0, rfl, Nat.le_refl _, by rw [List.map_nil, TreesIn]; trivial⟩, HFB.out⟩
  · have N0 := K0.set_ 5 (.slice (some ⟨g, 0, none⟩) ks.length cap)
    have N1 := K1.out.far (p := ⟨w.heap.size, 5, none⟩) (by simp) (.slice (some ⟨g, 0, none⟩) ks.length cap)
    have B3 := B2.out.setCell (p := ⟨w.heap.size, 5, none⟩) (Nat.le_refl _) (.slice (some ⟨g, 0, none⟩) ks.length cap)
    have T3 : Touch [w.heap.size] W2 (W2.setCell ⟨w.heap.size, 5, none⟩ (.slice (some ⟨g, 0, none⟩) ks.length cap)) := Touch.one (by simp)
    have kids3 := hkids.moved T3 (by simp)
    obtain ⟨W3, hW3⟩ : ∃ W3, W2.setCell ⟨w.heap.size, 5, none⟩ (.slice (some ⟨g, 0, none⟩) ks.length cap) = W3 := ⟨_, rfl⟩
    rw [hW3] at N0 N1 B3 kids3
    have hN0 : Whole W3 w.heap.size 26 (ncells op t vk vn vs (some ⟨g, 0, none⟩) ks.length cap) := N0
    have hN1 : Whole W3 (w.heap.size + 1) 26 (ncells 0 [] 0 0 [] none 0 0) := N1
    have gB : w.heap.size + 2 ≤ g := kids3.own
    have HK3 := Lib.hid kids3
    have HB3 := Lib.hid B3
    have HN0 := Lib.hid hN0
    have HN1 := Lib.hid hN1
    obtain ⟨m0, m1, m2, m3, m4, m5⟩ := six_of hN0
    obtain ⟨n, hn'⟩ : ∃ n, ks.length = n := ⟨_, rfl⟩
    rw [hn'] at hn hcap HN0 m5 hW3 ⊢
    have HLEN := Lib.hid hn'
    have hn9 : (n : Int) ≤ 1000000 := by omega
    clear N0 N1 B3 hN0 hN1 T3 kids3 hkids hn' hrow hk
    go_wp2_with fail
    go_loopg [5, 6, 14] (n + 1) (fun j s5 s6 s14 wr => ∃ i : Nat, i ≤ n ∧ n < i + j ∧ s14 = .int .i64 (i : Nat) ∧ Hid (KidsAt w (w.heap.size + 2) g wr ((ks.map f).take i) (ks.drop i)) ∧ Hid (Below w.heap.size w wr) ∧ Hid (Whole wr w.heap.size 26 (ncells op t vk vn vs (some ⟨g, 0, none⟩) n cap)) ∧ Hid (Whole wr (w.heap.size + 1) 26 (ncells 0 [] 0 0 [] none 0 0)))
    case atStart => exact ⟨0, by omega, by omega, rfl, by rw [List.take_zero, List.drop_zero]; exact HK3, HB3, HN0, HN1⟩
    case round =>
      obtain ⟨i, hi, hj, rfl, HK, HB, HX, HR⟩ := hrel
      by_cases hlt : i < n
      · have hlt' : (i : Int) < (n : Int) := by omega
        have hik : i < ks.length := by rw [HLEN.out]; exact hlt
        have hkd : KidsAt w (w.heap.size + 2) g wr ((ks.map f).take i) (ks[i] :: ks.drop (i + 1)) := by rw [List.getElem_cons_drop hik]; exact HK.out
        have hdl : ((ks.map f).take i).length = i := by rw [List.length_take, List.length_map]; omega
        have HDL := Lib.hid hdl
        obtain ⟨x, hx⟩ : ∃ x, ks[i] = x := ⟨_, rfl⟩
        have HXI := Lib.hid hx
        rw [hx] at hkd
        cases x with
        | node op' t' vk' vn' vs' ks' =>
        obtain ⟨C, c', q0, q1, q2, q3, q4, q5, hnv, -⟩ := hkd.next
        rw [hdl] at q0 q1 q2 q3 q4 q5
        have b4 : Below wr.heap.size wr (wr.alloc (.cells (ncells op' t' vk' vn' vs' C ks'.length c') 26)) := (Below.refl _ _).alloc (Nat.le_refl _) _
        have k4 := Whole.new wr 26 (ncells op' t' vk' vn' vs' C ks'.length c')
        have x4 := HX.out.below b4 HX.out.lt
        obtain ⟨W4, hW4⟩ : ∃ W4, wr.alloc (.cells (ncells op' t' vk' vn' vs' C ks'.length c') 26) = W4 := ⟨_, rfl⟩
        unfold ncells at *
        rw [hW4] at b4 k4 x4
        have d4 : Below W4.heap.size W4 W4.drew := (Below.refl _ _).drew
        have bw4 : Below w.heap.size w W4 := HB.out.trans (b4.mono HB.out.size)
        have call : Calls Tryz.prog 28 #[.agg #[.int .i64 op', .string (tx t'), .int .i64 vk', .int .i64 vn', .string (tx vs'), .slice C ks'.length c']] W4.drew fun e w3 => ∃ o2 t2 k2 n2 s2 A2 l2 c2, e = .returned (.agg #[.int .i64 o2, .string (tx t2), .int .i64 k2, .int .i64 n2, .string (tx s2), .slice A2 l2 c2]) ∧
            w3.cell? ⟨w.heap.size, 5, none⟩ = some (.slice (some ⟨g, 0, none⟩) n cap) ∧
            w3.cell? ⟨g, i * 6, none⟩ = some (.int .i64 op') ∧ w3.cell? ⟨g, i * 6 + 1, none⟩ = some (.string (tx t')) ∧ w3.cell? ⟨g, i * 6 + 2, none⟩ = some (.int .i64 vk') ∧ w3.cell? ⟨g, i * 6 + 3, none⟩ = some (.int .i64 vn') ∧ w3.cell? ⟨g, i * 6 + 4, none⟩ = some (.string (tx vs')) ∧ w3.cell? ⟨g, i * 6 + 5, none⟩ = some (.slice C ks'.length c') ∧
            w3.frozen? ⟨g, i * 6, none⟩ = false ∧ w3.frozen? ⟨g, i * 6 + 1, none⟩ = false ∧ w3.frozen? ⟨g, i * 6 + 2, none⟩ = false ∧ w3.frozen? ⟨g, i * 6 + 3, none⟩ = false ∧ w3.frozen? ⟨g, i * 6 + 4, none⟩ = false ∧ w3.frozen? ⟨g, i * 6 + 5, none⟩ = false ∧
            Hid (∃ W5, W5 = set6W w3 g (i * 6) (.int .i64 o2) (.string (tx t2)) (.int .i64 k2) (.int .i64 n2) (.string (tx s2)) (.slice A2 l2 c2) ∧ KidsAt w (w.heap.size + 2) g W5 ((ks.map f).take (i + 1)) (ks.drop (i + 1)) ∧ Below w.heap.size w W5 ∧ Whole W5 w.heap.size 26 (ncells op t vk vn vs (some ⟨g, 0, none⟩) n cap) ∧ Whole W5 (w.heap.size + 1) 26 (ncells 0 [] 0 0 [] none 0 0)) := by
          refine (HMH.out i hik W4.drew (bw4.trans (d4.mono bw4.size)) _ (by rw [HXI.out]; exact (hnv.below b4).below d4)).mono ?_
          rintro e w3 ⟨u, rfl, hu, hb3⟩
          have b5 : Below wr.heap.size wr w3 := b4.trans ((bdrew1 hb3).mono b4.size)
          have kd3 := hkd.below b5
          obtain ⟨C2, c2', q0', q1', q2', q3', q4', q5', -, qf⟩ := kd3.next
          rw [HDL.out] at q0' q1' q2' q3' q4' q5'
          have e5 : w3.cell? ⟨g, i * 6 + 5, none⟩ = some (.slice C ks'.length c') := (b5.cell (p := ⟨g, i * 6 + 5, none⟩) hkd.lt).trans q5
          obtain ⟨y, hy⟩ : ∃ y, f ks[i] = y := ⟨_, rfl⟩
          rw [hy] at hu
          cases y with
          | node o2 t2 k2 n2 s2 l2 =>
          obtain ⟨A2, c2, rfl, hc2, hk2⟩ := hu
          have hx3 := HX.out.below b5 HX.out.lt
          have hr3 := HR.out.below b5 HR.out.lt
          have hk2' : TreesIn (fun k => w.heap.size + 2 ≤ k ∧ k ≠ g) w3 A2 0 l2 := hk2.moved fun k hk hlt => by
            have h4 : W4.heap.size ≤ k := hk
            have h7 : wr.heap.size + 1 ≤ W4.heap.size := by rw [← hW4]; simp
            have h8 := HR.out.lt
            have h9 := hkd.lt
            exact ⟨rfl, by omega, by omega⟩
          have st := kd3.set_ (op := o2) (t := t2) (vk := k2) (vn := n2) (vs := s2) hc2 hk2'
          have T6 := set6_touch w3 g (i * 6) (.int .i64 o2) (.string (tx t2)) (.int .i64 k2) (.int .i64 n2) (.string (tx s2)) (.slice A2 l2.length c2)
          rw [HDL.out] at st
          refine ⟨o2, t2, k2, n2, s2, A2, l2.length, c2, rfl, (b5.cell (p := ⟨w.heap.size, 5, none⟩) HX.out.lt).trans (six_of HX.out).2.2.2.2.2, q0', q1', q2', q3', q4', e5, qf _, qf _, qf _, qf _, qf _, qf _, Lib.hid ⟨_, rfl, ?_, ?_, ?_, ?_⟩⟩
          · have e7 : (ks.map f).take (i + 1) = (ks.map f).take i ++ [.node o2 t2 k2 n2 s2 l2] := by
              rw [List.take_succ_eq_append_getElem (by rw [List.length_map]; exact hik), List.getElem_map, hy]
            rw [e7]; exact st
          · exact (HB.out.trans (b5.mono HB.out.size)).trans (T6.below1 (by omega) (by have := b5.size; have := HB.out.size; omega))
          · exact (T6.block _ hx3.lt (by simp; omega)).trans hx3
          · exact (T6.block _ hr3.lt (by simp; omega)).trans hr3
        have CALL := Lib.hid call
        obtain ⟨e0, e1, e2, e3, e4, e5⟩ := six_of k4
        obtain ⟨-, -, -, -, -, x5⟩ := six_of x4
        have hoff : i * 6 < 9223372036854775807 := by omega
        clear call hkd hnv k4 x4 d4 bw4 hx HXI
        go_wp2_with fail
        clear hW4
        go_region_law (first
          | (refine step_call_any rfl 28 #[.agg #[.int .i64 op', .string (tx t'), .int .i64 vk', .int .i64 vn', .string (tx vs'), .slice C ks'.length c']] ?h1 CALL.out ?_; (case h1 => kernel_rfl); rintro e w3 ⟨o2, t2, k2, n2, s2, A2, l2, c2, rfl, r5, s0, s1, s2', s3, s4, s5, z0, z1, z2, z3, z4, z5, FIN⟩; refine ⟨_, rfl, ?_⟩))
        all_goals
          obtain ⟨W5, hW5, k1, k2, k3, k4⟩ := FIN.out
          subst hW5
          have J1 := Lib.hid k1
          have J2 := Lib.hid k2
          have J3 := Lib.hid k3
          have J4 := Lib.hid k4
          clear k1 k2 k3 k4 s0 s1 s2' s3 s4 s5 z0 z1 z2 z3 z4 z5 r5 FIN e0 e1 e2 e3 e4 e5 x5 q0 q1 q2 q3 q4 q5
          go_wp2_with fail
          go_roundg (n - i)
          case measure => omega
          case rel => exact ⟨i + 1, by omega, by omega, by go_num, J1, J2, J3, J4⟩
      · have hlt' : ¬ (i : Int) < (n : Int) := by omega
        have hie : i = n := by omega
        obtain ⟨m0, m1, m2, m3, m4, m5⟩ := six_of HX.out
        obtain ⟨x0, x1, x2, x3, x4, x5⟩ := six_of HR.out
        obtain ⟨y0, y1, y2, y3, y4, y5⟩ := frozen6 HR.out
        have hT := set6Z_touch wr (w.heap.size + 1) (.int .i64 op) (.string (tx t)) (.int .i64 vk) (.int .i64 vn) (.string (tx vs)) (.slice (some ⟨g, 0, none⟩) n cap)
        have FIN := Lib.hid (set6Z_whole HR.out (.int .i64 op) (.string (tx t)) (.int .i64 vk) (.int .i64 vn) (.string (tx vs)) (.slice (some ⟨g, 0, none⟩) n cap))
        have FB := Lib.hid (HB.out.trans (hT.below1 (B := w.heap.size) (by omega) HB.out.size))
        have FK : Hid (TreesIn (w.heap.size ≤ ·) (set6Z wr (w.heap.size + 1) (.int .i64 op) (.string (tx t)) (.int .i64 vk) (.int .i64 vn) (.string (tx vs)) (.slice (some ⟨g, 0, none⟩) n cap)) (some ⟨g, 0, none⟩) 0 (ks.map f)) := Lib.hid (by
          have h1 := HK.out
          rw [hie, List.take_of_length_le (by rw [List.length_map]; have := HLEN.out; omega), List.drop_of_length_le (by have := HLEN.out; omega)] at h1
          exact h1.all.moved fun k hk hlt => ⟨hT.block k hlt (by simp; omega), by omega⟩)
        clear hT
        go_wp2_with fail
        exact bodyPost_ret (results_cell_row rfl _ _ (w.heap.size + 1) _ _ _ _ rfl FIN.out Tryz.underlying26 rfl sizeExpr) rfl ⟨_, rfl, ⟨some ⟨g, 0, none⟩, cap, by rw [List.length_map, HLEN.out], by rw [List.length_map, HLEN.out]; omega, FK.out⟩, FB.out⟩

set_option maxHeartbeats 2000000 in
theorem withKids_put (f : Tree → Tree) (op : Int) (t : List UInt8) (vk vn : Int) (vs : List UInt8) (ks : List Tree) (pn py : Nat) (w : World) (A : Option Addr) (c : Nat) (hc : ks.length ≤ c) (hk : TreesAt w A 0 ks) (hn : ks.length ≤ 1000000)
    (HM : ∀ i (hi : i < ks.length) (W : World), Below w.heap.size w W → ∀ v, NodeV W v ks[i] → Calls Tryz.prog 30 #[v, .pointer (some ⟨pn, 0, none⟩), .pointer (some ⟨py, 0, none⟩)] W fun e w' => ∃ u, e = .returned u ∧ NodeNew W.heap.size w' u (f ks[i]) ∧ Below W.heap.size W w') :
    Calls Tryz.prog 29 #[.agg (ncells op t vk vn vs A ks.length c), .func (.func 30) #[] #[.pointer (some ⟨pn, 0, none⟩), .pointer (some ⟨py, 0, none⟩)]] w fun e w' => ∃ u, e = .returned u ∧ NodeNew w.heap.size w' u (.node op t vk vn vs (ks.map f)) ∧ Below w.heap.size w w' := by
  have HMH := Lib.hid HM
  have b0 : Below w.heap.size w ((w.alloc (.cells (ncells op t vk vn vs A ks.length c) 26)).alloc (.cells (ncells 0 [] 0 0 [] none 0 0) 26)) := ((Below.refl _ _).alloc (Nat.le_refl _) _).alloc (by simp) _
  have k0 := (Whole.new w 26 (ncells op t vk vn vs A ks.length c)).alloc (.cells (ncells 0 [] 0 0 [] none 0 0) 26)
  have k1 := Whole.new (w.alloc (.cells (ncells op t vk vn vs A ks.length c) 26)) 26 (ncells 0 [] 0 0 [] none 0 0)
  have hz0 : ((w.alloc (.cells (ncells op t vk vn vs A ks.length c) 26)).alloc (.cells (ncells 0 [] 0 0 [] none 0 0) 26)).heap.size = w.heap.size + 2 := by simp only [World.size_alloc]
  simp only [World.size_alloc] at k1
  clear HM
  unfold ncells at *
  go_enter Tryz.func29, Tryz.ntmps29
  obtain ⟨W1, hW1⟩ : ∃ W1, (w.alloc (.cells #[.int .i64 op, .string (tx t), .int .i64 vk, .int .i64 vn, .string (tx vs), .slice A ks.length c] 26)).alloc (.cells #[.int .i64 0, .string (tx []), .int .i64 0, .int .i64 0, .string (tx []), .slice none 0 0] 26) = W1 := ⟨_, rfl⟩
  rw [hW1] at b0 k0 k1 hz0
  have CL := Lib.hid (cloneT_any (· < w.heap.size) A c ks W1 (hk.old b0).src (fun k hk => by have := b0.size; omega) hn)
  obtain ⟨c0, c1, c2, c3, c4, c5⟩ := six_of k0
  have HZ := Lib.hid hz0
  clear hz0
  go_wp2_with fail
  refine CL.out.mono ?_
  rintro e W2 ⟨v, rfl, hrow, hb2⟩
  rw [HZ.out] at hrow
  have K0 := k0.below hb2 k0.lt
  have K1 := Lib.hid (k1.below hb2 k1.lt)
  have B2 : Hid (Below w.heap.size w W2) := Lib.hid (b0.trans (hb2.mono b0.size))
  clear c0 c1 c2 c3 c4 c5 k0 k1 CL hW1
  obtain ⟨c0, c1, c2, c3, c4, c5⟩ := six_of K0
  have f5 := K0.frozen 5
  rcases hrow.kids (by omega) with ⟨hks, rfl⟩ | ⟨g, cap, rfl, hcap, hkids⟩
  · subst hks
    have N0 := K0.set_ 5 (.slice none 0 0)
    have N1 := K1.out.far (p := ⟨w.heap.size, 5, none⟩) (by simp) (.slice none 0 0)
    have B3 := B2.out.setCell (p := ⟨w.heap.size, 5, none⟩) (Nat.le_refl _) (.slice none 0 0)
    obtain ⟨W3, hW3⟩ : ∃ W3, W2.setCell ⟨w.heap.size, 5, none⟩ (.slice none 0 0) = W3 := ⟨_, rfl⟩
    rw [hW3] at N0 N1 B3
    have hN0 : Whole W3 w.heap.size 26 (ncells op t vk vn vs none 0 0) := N0
    obtain ⟨m0, m1, m2, m3, m4, m5⟩ := six_of hN0
    have hN1 : Whole W3 (w.heap.size + 1) 26 (ncells 0 [] 0 0 [] none 0 0) := N1
    obtain ⟨x0, x1, x2, x3, x4, x5⟩ := six_of hN1
    obtain ⟨y0, y1, y2, y3, y4, y5⟩ := frozen6 hN1
    have HB3 := Lib.hid B3
    have HN1 := Lib.hid N1
    clear N0 N1 B3 hN0 hN1
    go_wp2_with fail
    go_loopg [5, 6, 14] 1 (fun j s5 s6 s14 wr => s14 = .int .i64 0 ∧ wr = W3)
    case atStart => exact ⟨rfl, rfl⟩
    case round =>
      obtain ⟨rfl, rfl⟩ := hrel
      have FIN := set6Z_whole HN1.out (.int .i64 op) (.string (tx t)) (.int .i64 vk) (.int .i64 vn) (.string (tx vs)) (.slice none 0 0)
      have FB := HB3.out.trans ((set6Z_touch wr (w.heap.size + 1) (.int .i64 op) (.string (tx t)) (.int .i64 vk) (.int .i64 vn) (.string (tx vs)) (.slice none 0 0)).below1 (B := w.heap.size) (by omega) HB3.out.size)
      have HFIN := Lib.hid FIN
      have HFB := Lib.hid FB
      clear FIN FB
      go_wp2_with fail
      exact bodyPost_ret (results_cell_row rfl _ _ (w.heap.size + 1) _ _ _ _ rfl HFIN.out Tryz.underlying26 rfl sizeExpr) rfl ⟨_, rfl, ⟨none, 0, rfl, Nat.le_refl _, by rw [List.map_nil, TreesIn]; trivial⟩, HFB.out⟩
  · have N0 := K0.set_ 5 (.slice (some ⟨g, 0, none⟩) ks.length cap)
    have N1 := K1.out.far (p := ⟨w.heap.size, 5, none⟩) (by simp) (.slice (some ⟨g, 0, none⟩) ks.length cap)
    have B3 := B2.out.setCell (p := ⟨w.heap.size, 5, none⟩) (Nat.le_refl _) (.slice (some ⟨g, 0, none⟩) ks.length cap)
    have T3 : Touch [w.heap.size] W2 (W2.setCell ⟨w.heap.size, 5, none⟩ (.slice (some ⟨g, 0, none⟩) ks.length cap)) := Touch.one (by simp)
    have kids3 := hkids.moved T3 (by simp)
    obtain ⟨W3, hW3⟩ : ∃ W3, W2.setCell ⟨w.heap.size, 5, none⟩ (.slice (some ⟨g, 0, none⟩) ks.length cap) = W3 := ⟨_, rfl⟩
    rw [hW3] at N0 N1 B3 kids3
    have hN0 : Whole W3 w.heap.size 26 (ncells op t vk vn vs (some ⟨g, 0, none⟩) ks.length cap) := N0
    have hN1 : Whole W3 (w.heap.size + 1) 26 (ncells 0 [] 0 0 [] none 0 0) := N1
    have gB : w.heap.size + 2 ≤ g := kids3.own
    have HK3 := Lib.hid kids3
    have HB3 := Lib.hid B3
    have HN0 := Lib.hid hN0
    have HN1 := Lib.hid hN1
    obtain ⟨m0, m1, m2, m3, m4, m5⟩ := six_of hN0
    obtain ⟨n, hn'⟩ : ∃ n, ks.length = n := ⟨_, rfl⟩
    rw [hn'] at hn hcap HN0 m5 hW3 ⊢
    have HLEN := Lib.hid hn'
    have hn9 : (n : Int) ≤ 1000000 := by omega
    clear N0 N1 B3 hN0 hN1 T3 kids3 hkids hn' hrow hk
    go_wp2_with fail
    go_loopg [5, 6, 14] (n + 1) (fun j s5 s6 s14 wr => ∃ i : Nat, i ≤ n ∧ n < i + j ∧ s14 = .int .i64 (i : Nat) ∧ Hid (KidsAt w (w.heap.size + 2) g wr ((ks.map f).take i) (ks.drop i)) ∧ Hid (Below w.heap.size w wr) ∧ Hid (Whole wr w.heap.size 26 (ncells op t vk vn vs (some ⟨g, 0, none⟩) n cap)) ∧ Hid (Whole wr (w.heap.size + 1) 26 (ncells 0 [] 0 0 [] none 0 0)))
    case atStart => exact ⟨0, by omega, by omega, rfl, by rw [List.take_zero, List.drop_zero]; exact HK3, HB3, HN0, HN1⟩
    case round =>
      obtain ⟨i, hi, hj, rfl, HK, HB, HX, HR⟩ := hrel
      by_cases hlt : i < n
      · have hlt' : (i : Int) < (n : Int) := by omega
        have hik : i < ks.length := by rw [HLEN.out]; exact hlt
        have hkd : KidsAt w (w.heap.size + 2) g wr ((ks.map f).take i) (ks[i] :: ks.drop (i + 1)) := by rw [List.getElem_cons_drop hik]; exact HK.out
        have hdl : ((ks.map f).take i).length = i := by rw [List.length_take, List.length_map]; omega
        have HDL := Lib.hid hdl
        obtain ⟨x, hx⟩ : ∃ x, ks[i] = x := ⟨_, rfl⟩
        have HXI := Lib.hid hx
        rw [hx] at hkd
        cases x with
        | node op' t' vk' vn' vs' ks' =>
        obtain ⟨C, c', q0, q1, q2, q3, q4, q5, hnv, -⟩ := hkd.next
        rw [hdl] at q0 q1 q2 q3 q4 q5
        have b4 : Below wr.heap.size wr (wr.alloc (.cells (ncells op' t' vk' vn' vs' C ks'.length c') 26)) := (Below.refl _ _).alloc (Nat.le_refl _) _
        have k4 := Whole.new wr 26 (ncells op' t' vk' vn' vs' C ks'.length c')
        have x4 := HX.out.below b4 HX.out.lt
        obtain ⟨W4, hW4⟩ : ∃ W4, wr.alloc (.cells (ncells op' t' vk' vn' vs' C ks'.length c') 26) = W4 := ⟨_, rfl⟩
        unfold ncells at *
        rw [hW4] at b4 k4 x4
        have d4 : Below W4.heap.size W4 W4.drew := (Below.refl _ _).drew
        have bw4 : Below w.heap.size w W4 := HB.out.trans (b4.mono HB.out.size)
        have call : Calls Tryz.prog 30 #[.agg #[.int .i64 op', .string (tx t'), .int .i64 vk', .int .i64 vn', .string (tx vs'), .slice C ks'.length c'], .pointer (some ⟨pn, 0, none⟩), .pointer (some ⟨py, 0, none⟩)] W4.drew fun e w3 => ∃ o2 t2 k2 n2 s2 A2 l2 c2, e = .returned (.agg #[.int .i64 o2, .string (tx t2), .int .i64 k2, .int .i64 n2, .string (tx s2), .slice A2 l2 c2]) ∧
            w3.cell? ⟨w.heap.size, 5, none⟩ = some (.slice (some ⟨g, 0, none⟩) n cap) ∧
            w3.cell? ⟨g, i * 6, none⟩ = some (.int .i64 op') ∧ w3.cell? ⟨g, i * 6 + 1, none⟩ = some (.string (tx t')) ∧ w3.cell? ⟨g, i * 6 + 2, none⟩ = some (.int .i64 vk') ∧ w3.cell? ⟨g, i * 6 + 3, none⟩ = some (.int .i64 vn') ∧ w3.cell? ⟨g, i * 6 + 4, none⟩ = some (.string (tx vs')) ∧ w3.cell? ⟨g, i * 6 + 5, none⟩ = some (.slice C ks'.length c') ∧
            w3.frozen? ⟨g, i * 6, none⟩ = false ∧ w3.frozen? ⟨g, i * 6 + 1, none⟩ = false ∧ w3.frozen? ⟨g, i * 6 + 2, none⟩ = false ∧ w3.frozen? ⟨g, i * 6 + 3, none⟩ = false ∧ w3.frozen? ⟨g, i * 6 + 4, none⟩ = false ∧ w3.frozen? ⟨g, i * 6 + 5, none⟩ = false ∧
            Hid (∃ W5, W5 = set6W w3 g (i * 6) (.int .i64 o2) (.string (tx t2)) (.int .i64 k2) (.int .i64 n2) (.string (tx s2)) (.slice A2 l2 c2) ∧ KidsAt w (w.heap.size + 2) g W5 ((ks.map f).take (i + 1)) (ks.drop (i + 1)) ∧ Below w.heap.size w W5 ∧ Whole W5 w.heap.size 26 (ncells op t vk vn vs (some ⟨g, 0, none⟩) n cap) ∧ Whole W5 (w.heap.size + 1) 26 (ncells 0 [] 0 0 [] none 0 0)) := by
          refine (HMH.out i hik W4.drew (bw4.trans (d4.mono bw4.size)) _ (by rw [HXI.out]; exact (hnv.below b4).below d4)).mono ?_
          rintro e w3 ⟨u, rfl, hu, hb3⟩
          have b5 : Below wr.heap.size wr w3 := b4.trans ((bdrew1 hb3).mono b4.size)
          have kd3 := hkd.below b5
          obtain ⟨C2, c2', q0', q1', q2', q3', q4', q5', -, qf⟩ := kd3.next
          rw [HDL.out] at q0' q1' q2' q3' q4' q5'
          have e5 : w3.cell? ⟨g, i * 6 + 5, none⟩ = some (.slice C ks'.length c') := (b5.cell (p := ⟨g, i * 6 + 5, none⟩) hkd.lt).trans q5
          obtain ⟨y, hy⟩ : ∃ y, f ks[i] = y := ⟨_, rfl⟩
          rw [hy] at hu
          cases y with
          | node o2 t2 k2 n2 s2 l2 =>
          obtain ⟨A2, c2, rfl, hc2, hk2⟩ := hu
          have hx3 := HX.out.below b5 HX.out.lt
          have hr3 := HR.out.below b5 HR.out.lt
          have hk2' : TreesIn (fun k => w.heap.size + 2 ≤ k ∧ k ≠ g) w3 A2 0 l2 := hk2.moved fun k hk hlt => by
            have h4 : W4.heap.size ≤ k := hk
            have h7 : wr.heap.size + 1 ≤ W4.heap.size := by rw [← hW4]; simp
            have h8 := HR.out.lt
            have h9 := hkd.lt
            exact ⟨rfl, by omega, by omega⟩
          have st := kd3.set_ (op := o2) (t := t2) (vk := k2) (vn := n2) (vs := s2) hc2 hk2'
          have T6 := set6_touch w3 g (i * 6) (.int .i64 o2) (.string (tx t2)) (.int .i64 k2) (.int .i64 n2) (.string (tx s2)) (.slice A2 l2.length c2)
          rw [HDL.out] at st
          refine ⟨o2, t2, k2, n2, s2, A2, l2.length, c2, rfl, (b5.cell (p := ⟨w.heap.size, 5, none⟩) HX.out.lt).trans (six_of HX.out).2.2.2.2.2, q0', q1', q2', q3', q4', e5, qf _, qf _, qf _, qf _, qf _, qf _, Lib.hid ⟨_, rfl, ?_, ?_, ?_, ?_⟩⟩
          · have e7 : (ks.map f).take (i + 1) = (ks.map f).take i ++ [.node o2 t2 k2 n2 s2 l2] := by
              rw [List.take_succ_eq_append_getElem (by rw [List.length_map]; exact hik), List.getElem_map, hy]
            rw [e7]; exact st
          · exact (HB.out.trans (b5.mono HB.out.size)).trans (T6.below1 (by omega) (by have := b5.size; have := HB.out.size; omega))
          · exact (T6.block _ hx3.lt (by simp; omega)).trans hx3
          · exact (T6.block _ hr3.lt (by simp; omega)).trans hr3
        have CALL := Lib.hid call
        obtain ⟨e0, e1, e2, e3, e4, e5⟩ := six_of k4
        obtain ⟨-, -, -, -, -, x5⟩ := six_of x4
        have hoff : i * 6 < 9223372036854775807 := by omega
        clear call hkd hnv k4 x4 d4 bw4 hx HXI
        go_wp2_with fail
        clear hW4
        go_region_law (first
          | (refine step_call_any rfl 30 #[.agg #[.int .i64 op', .string (tx t'), .int .i64 vk', .int .i64 vn', .string (tx vs'), .slice C ks'.length c'], .pointer (some ⟨pn, 0, none⟩), .pointer (some ⟨py, 0, none⟩)] ?h1 CALL.out ?_; (case h1 => kernel_rfl); rintro e w3 ⟨o2, t2, k2, n2, s2, A2, l2, c2, rfl, r5, s0, s1, s2', s3, s4, s5, z0, z1, z2, z3, z4, z5, FIN⟩; refine ⟨_, rfl, ?_⟩))
        all_goals
          obtain ⟨W5, hW5, k1, k2, k3, k4⟩ := FIN.out
          subst hW5
          have J1 := Lib.hid k1
          have J2 := Lib.hid k2
          have J3 := Lib.hid k3
          have J4 := Lib.hid k4
          clear k1 k2 k3 k4 s0 s1 s2' s3 s4 s5 z0 z1 z2 z3 z4 z5 r5 FIN e0 e1 e2 e3 e4 e5 x5 q0 q1 q2 q3 q4 q5
          go_wp2_with fail
          go_roundg (n - i)
          case measure => omega
          case rel => exact ⟨i + 1, by omega, by omega, by go_num, J1, J2, J3, J4⟩
      · have hlt' : ¬ (i : Int) < (n : Int) := by omega
        have hie : i = n := by omega
        obtain ⟨m0, m1, m2, m3, m4, m5⟩ := six_of HX.out
        obtain ⟨x0, x1, x2, x3, x4, x5⟩ := six_of HR.out
        obtain ⟨y0, y1, y2, y3, y4, y5⟩ := frozen6 HR.out
        have hT := set6Z_touch wr (w.heap.size + 1) (.int .i64 op) (.string (tx t)) (.int .i64 vk) (.int .i64 vn) (.string (tx vs)) (.slice (some ⟨g, 0, none⟩) n cap)
        have FIN := Lib.hid (set6Z_whole HR.out (.int .i64 op) (.string (tx t)) (.int .i64 vk) (.int .i64 vn) (.string (tx vs)) (.slice (some ⟨g, 0, none⟩) n cap))
        have FB := Lib.hid (HB.out.trans (hT.below1 (B := w.heap.size) (by omega) HB.out.size))
        have FK : Hid (TreesIn (w.heap.size ≤ ·) (set6Z wr (w.heap.size + 1) (.int .i64 op) (.string (tx t)) (.int .i64 vk) (.int .i64 vn) (.string (tx vs)) (.slice (some ⟨g, 0, none⟩) n cap)) (some ⟨g, 0, none⟩) 0 (ks.map f)) := Lib.hid (by
          have h1 := HK.out
          rw [hie, List.take_of_length_le (by rw [List.length_map]; have := HLEN.out; omega), List.drop_of_length_le (by have := HLEN.out; omega)] at h1
          exact h1.all.moved fun k hk hlt => ⟨hT.block k hlt (by simp; omega), by omega⟩)
        clear hT
        go_wp2_with fail
        exact bodyPost_ret (results_cell_row rfl _ _ (w.heap.size + 1) _ _ _ _ rfl FIN.out Tryz.underlying26 rfl sizeExpr) rfl ⟨_, rfl, ⟨some ⟨g, 0, none⟩, cap, by rw [List.length_map, HLEN.out], by rw [List.length_map, HLEN.out]; omega, FK.out⟩, FB.out⟩
end Go.Proofs.YtbpknainmefidaaGreatDoor

/- copied, Put. -/
namespace Go.Proofs.YtbpknainmefidaaGreatDoor
open Go.RowKit Go.Lib
set_option linter.unusedVariables false
set_option linter.unusedSimpArgs false
set_option maxRecDepth 100000
open Ex (Tree)

set_option maxHeartbeats 1000000 in
theorem copied_all (N : Nat) : ∀ (T : Tree), Ex.count T ≤ N → Ex.count T ≤ 1000000 → ∀ (v : Value) (w : World), NodeV w v T →
    Calls Tryz.prog 28 #[v] w fun e w' => ∃ u, e = .returned u ∧ NodeNew w.heap.size w' u T ∧ Below w.heap.size w w' := by
  induction N with
  | zero => intro T h; have := Ex.count_pos T; omega
  | succ N ih =>
    intro T hN hM v w h
    cases T with
    | node op t vk vn vs ks =>
    obtain ⟨A, c, rfl, hcc, hk⟩ := h
    have hks0 : Ex.counts ks + 1 = Ex.count (.node op t vk vn vs ks) := by rw [Ex.count]
    have hlen := Ex.length_counts ks
    have b0 : Below w.heap.size w ((w.alloc (.cells (ncells op t vk vn vs A ks.length c) 26)).alloc (.cells (ncells 0 [] 0 0 [] none 0 0) 26)) := ((Below.refl _ _).alloc (Nat.le_refl _) _).alloc (by simp) _
    have k0 := (Whole.new w 26 (ncells op t vk vn vs A ks.length c)).alloc (.cells (ncells 0 [] 0 0 [] none 0 0) 26)
    have k1 := Whole.new (w.alloc (.cells (ncells op t vk vn vs A ks.length c) 26)) 26 (ncells 0 [] 0 0 [] none 0 0)
    have hz0 : ((w.alloc (.cells (ncells op t vk vn vs A ks.length c) 26)).alloc (.cells (ncells 0 [] 0 0 [] none 0 0) 26)).heap.size = w.heap.size + 2 := by simp only [World.size_alloc]
    simp only [World.size_alloc] at k1
    have CC := withKids_copied id op t vk vn vs ks _ A c hcc (hk.below b0) (by omega) (fun i hi W hW v hv => by
      have := count_lt (op := op) (t := t) (vk := vk) (vn := vn) (vs := vs) (List.getElem_mem hi)
      exact ih ks[i] (by omega) (by omega) v W hv)
    rw [List.map_id] at CC
    unfold ncells at *
    obtain ⟨W1, hW1⟩ : ∃ W1, (w.alloc (.cells #[.int .i64 op, .string (tx t), .int .i64 vk, .int .i64 vn, .string (tx vs), .slice A ks.length c] 26)).alloc (.cells #[.int .i64 0, .string (tx []), .int .i64 0, .int .i64 0, .string (tx []), .slice none 0 0] 26) = W1 := ⟨_, rfl⟩
    rw [hW1] at b0 k0 k1 hz0 CC
    have HC := Lib.hid CC
    have HZ := Lib.hid hz0
    have K1 := Lib.hid k1
    have B0 := Lib.hid b0
    obtain ⟨c0, c1, c2, c3, c4, c5⟩ := six_of k0
    clear CC hz0 k1 b0 k0 ih hks0 hlen hN hM hk
    go_enter Tryz.func28, Tryz.ntmps28
    go_wp2_with fail
    refine HC.out.mono ?_
    rintro e W2 ⟨u, rfl, hu, hb⟩
    have R1 := K1.out.below hb K1.out.lt
    obtain ⟨A2, c2', rfl, hc2, hk2⟩ := hu
    obtain ⟨x0, x1, x2, x3, x4, x5⟩ := six_of R1
    obtain ⟨y0, y1, y2, y3, y4, y5⟩ := frozen6 R1
    have hT := set6Z_touch W2 (w.heap.size + 1) (.int .i64 op) (.string (tx t)) (.int .i64 vk) (.int .i64 vn) (.string (tx vs)) (.slice A2 ks.length c2')
    have FIN := Lib.hid (set6Z_whole R1 (.int .i64 op) (.string (tx t)) (.int .i64 vk) (.int .i64 vn) (.string (tx vs)) (.slice A2 ks.length c2'))
    have BW := B0.out.trans (hb.mono B0.out.size)
    have FB := Lib.hid (BW.trans (hT.below1 (B := w.heap.size) (by omega) BW.size))
    have FK : Hid (TreesIn (w.heap.size ≤ ·) (set6Z W2 (w.heap.size + 1) (.int .i64 op) (.string (tx t)) (.int .i64 vk) (.int .i64 vn) (.string (tx vs)) (.slice A2 ks.length c2')) A2 0 ks) := Lib.hid (hk2.moved fun k hk hlt => ⟨hT.block k hlt (by have := HZ.out; simp; omega), by have := HZ.out; omega⟩)
    have HCC := Lib.hid hc2
    clear hT BW hb hk2 R1 c0 c1 c2 c3 c4 c5 HC
    go_wp2_with fail
    exact bodyPost_ret (results_cell_row rfl _ _ (w.heap.size + 1) _ _ _ _ rfl FIN.out Tryz.underlying26 rfl sizeExpr) rfl ⟨_, rfl, ⟨A2, c2', rfl, HCC.out, FK.out⟩, FB.out⟩
end Go.Proofs.YtbpknainmefidaaGreatDoor

/- Put. -/
namespace Go.Proofs.YtbpknainmefidaaGreatDoor
open Go.RowKit Go.Lib
set_option linter.unusedVariables false
set_option linter.unusedSimpArgs false
set_option maxRecDepth 100000
open Ex (Tree)

set_option maxHeartbeats 1000000 in
theorem put1_any (n : List UInt8) (Y T R : Tree) (op : Int) (t : List UInt8) (vk vn : Int) (vs : List UInt8) (ks : List Tree) (A : Option Addr) (c : Nat) (pn py : Nat) (v : Value) (w : World) (h : NodeV w v T)
    (hpn : Whole w pn 9 #[.string (tx n)]) (hpy : Whole w py 26 (ncells op t vk vn vs A ks.length c))
    (HC : ∀ W, Below w.heap.size w W → Calls Tryz.prog 18 #[v, .string (tx n), .agg (ncells op t vk vn vs A ks.length c)] W fun e w' => ∃ u, e = .returned u ∧ NodeNew W.heap.size w' u R ∧ Below W.heap.size W w') :
    Calls Tryz.prog 30 #[v, .pointer (some ⟨pn, 0, none⟩), .pointer (some ⟨py, 0, none⟩)] w fun e w' => ∃ u, e = .returned u ∧ NodeNew w.heap.size w' u R ∧ Below w.heap.size w w' := by
  cases T with
  | node op' t' vk' vn' vs' ks' =>
  obtain ⟨A', c', rfl, hcc, hk⟩ := h
  have b0 : Below w.heap.size w ((w.alloc (.cells (ncells op' t' vk' vn' vs' A' ks'.length c') 26)).alloc (.cells (ncells 0 [] 0 0 [] none 0 0) 26)) := ((Below.refl _ _).alloc (Nat.le_refl _) _).alloc (by simp) _
  have k0 := (Whole.new w 26 (ncells op' t' vk' vn' vs' A' ks'.length c')).alloc (.cells (ncells 0 [] 0 0 [] none 0 0) 26)
  have k1 := Whole.new (w.alloc (.cells (ncells op' t' vk' vn' vs' A' ks'.length c') 26)) 26 (ncells 0 [] 0 0 [] none 0 0)
  have hz0 : ((w.alloc (.cells (ncells op' t' vk' vn' vs' A' ks'.length c') 26)).alloc (.cells (ncells 0 [] 0 0 [] none 0 0) 26)).heap.size = w.heap.size + 2 := by simp only [World.size_alloc]
  simp only [World.size_alloc] at k1
  have CC := HC _ b0
  have pn0 := hpn.below b0 hpn.lt
  have py0 := hpy.below b0 hpy.lt
  unfold ncells at *
  obtain ⟨W1, hW1⟩ : ∃ W1, (w.alloc (.cells #[.int .i64 op', .string (tx t'), .int .i64 vk', .int .i64 vn', .string (tx vs'), .slice A' ks'.length c'] 26)).alloc (.cells #[.int .i64 0, .string (tx []), .int .i64 0, .int .i64 0, .string (tx []), .slice none 0 0] 26) = W1 := ⟨_, rfl⟩
  rw [hW1] at b0 k0 k1 hz0 CC pn0 py0
  have HC := Lib.hid CC
  have HZ := Lib.hid hz0
  have K1 := Lib.hid k1
  have B0 := Lib.hid b0
  obtain ⟨c0, c1, c2, c3, c4, c5⟩ := six_of k0
  obtain ⟨d0, d1, d2, d3, d4, d5⟩ := six_of py0
  have e0 : W1.cell? ⟨pn, 0, none⟩ = some (.string (tx n)) := pn0.cell 0
  clear CC hz0 k1 b0 k0 hk pn0 py0
  go_enter Tryz.func30, Tryz.ntmps30
  go_wp2_with fail
  refine HC.out.mono ?_
  rintro e W2 ⟨u, rfl, hu, hb⟩
  have R1 := K1.out.below hb K1.out.lt
  cases R with
  | node op2 t2 vk2 vn2 vs2 ks2 =>
  obtain ⟨A2, c2', rfl, hc2, hk2⟩ := hu
  obtain ⟨x0, x1, x2, x3, x4, x5⟩ := six_of R1
  obtain ⟨y0, y1, y2, y3, y4, y5⟩ := frozen6 R1
  have hT := set6Z_touch W2 (w.heap.size + 1) (.int .i64 op2) (.string (tx t2)) (.int .i64 vk2) (.int .i64 vn2) (.string (tx vs2)) (.slice A2 ks2.length c2')
  have FIN := Lib.hid (set6Z_whole R1 (.int .i64 op2) (.string (tx t2)) (.int .i64 vk2) (.int .i64 vn2) (.string (tx vs2)) (.slice A2 ks2.length c2'))
  have BW := B0.out.trans (hb.mono B0.out.size)
  have FB := Lib.hid (BW.trans (hT.below1 (B := w.heap.size) (by omega) BW.size))
  have FK : Hid (TreesIn (w.heap.size ≤ ·) (set6Z W2 (w.heap.size + 1) (.int .i64 op2) (.string (tx t2)) (.int .i64 vk2) (.int .i64 vn2) (.string (tx vs2)) (.slice A2 ks2.length c2')) A2 0 ks2) := Lib.hid (hk2.moved fun k hk hlt => ⟨hT.block k hlt (by have := HZ.out; simp; omega), by have := HZ.out; omega⟩)
  have HCC := Lib.hid hc2
  clear hT BW hb hk2 R1 c0 c1 c2 c3 c4 c5 HC d0 d1 d2 d3 d4 d5 e0
  go_wp2_with fail
  exact bodyPost_ret (results_cell_row rfl _ _ (w.heap.size + 1) _ _ _ _ rfl FIN.out Tryz.underlying26 rfl sizeExpr) rfl ⟨_, rfl, ⟨A2, c2', rfl, HCC.out, FK.out⟩, FB.out⟩

set_option maxHeartbeats 2000000 in
theorem put_all (n : List UInt8) (o2 : Int) (t2 : List UInt8) (k2 n2 : Int) (s2 : List UInt8) (l2 : List Tree) (hY : Ex.count (.node o2 t2 k2 n2 s2 l2) ≤ 1000000) (N : Nat) : ∀ (T : Tree), Ex.count T ≤ N → Ex.count T ≤ 1000000 → ∀ (v : Value) (A2 : Option Addr) (d2 : Nat) (w : World), NodeV w v T → l2.length ≤ d2 → TreesAt w A2 0 l2 →
    Calls Tryz.prog 18 #[v, .string (tx n), .agg (ncells o2 t2 k2 n2 s2 A2 l2.length d2)] w fun e w' => ∃ u, e = .returned u ∧ NodeNew w.heap.size w' u (Ex.put n (.node o2 t2 k2 n2 s2 l2) T) ∧ Below w.heap.size w w' := by
  induction N with
  | zero => intro T h; have := Ex.count_pos T; omega
  | succ N ih =>
    intro T hN hM v A2 d2 w h hd2 hl2
    cases T with
    | node op t vk vn vs ks =>
    obtain ⟨A, c, rfl, hcc, hk⟩ := h
    have hks0 : Ex.counts ks + 1 = Ex.count (.node op t vk vn vs ks) := by rw [Ex.count]
    have hlen := Ex.length_counts ks
    -- four blocks
    have b0 : Below w.heap.size w ((((w.alloc (.cells (ncells op t vk vn vs A ks.length c) 26)).alloc (.cells #[.string (tx n)] 9)).alloc (.cells (ncells o2 t2 k2 n2 s2 A2 l2.length d2) 26)).alloc (.cells (ncells 0 [] 0 0 [] none 0 0) 26)) :=
      ((((Below.refl _ _).alloc (Nat.le_refl _) _).alloc (by simp) _).alloc (by simp; omega) _).alloc (by simp; omega) _
    have k0 := (((Whole.new w 26 (ncells op t vk vn vs A ks.length c)).alloc (.cells #[.string (tx n)] 9)).alloc (.cells (ncells o2 t2 k2 n2 s2 A2 l2.length d2) 26)).alloc (.cells (ncells 0 [] 0 0 [] none 0 0) 26)
    have k1 := ((Whole.new (w.alloc (.cells (ncells op t vk vn vs A ks.length c) 26)) 9 #[.string (tx n)]).alloc (.cells (ncells o2 t2 k2 n2 s2 A2 l2.length d2) 26)).alloc (.cells (ncells 0 [] 0 0 [] none 0 0) 26)
    have k2' := (Whole.new ((w.alloc (.cells (ncells op t vk vn vs A ks.length c) 26)).alloc (.cells #[.string (tx n)] 9)) 26 (ncells o2 t2 k2 n2 s2 A2 l2.length d2)).alloc (.cells (ncells 0 [] 0 0 [] none 0 0) 26)
    have k3 := Whole.new (((w.alloc (.cells (ncells op t vk vn vs A ks.length c) 26)).alloc (.cells #[.string (tx n)] 9)).alloc (.cells (ncells o2 t2 k2 n2 s2 A2 l2.length d2) 26)) 26 (ncells 0 [] 0 0 [] none 0 0)
    have hz0 : ((((w.alloc (.cells (ncells op t vk vn vs A ks.length c) 26)).alloc (.cells #[.string (tx n)] 9)).alloc (.cells (ncells o2 t2 k2 n2 s2 A2 l2.length d2) 26)).alloc (.cells (ncells 0 [] 0 0 [] none 0 0) 26)).heap.size = w.heap.size + 4 := by simp only [World.size_alloc]
    simp only [World.size_alloc] at k1 k2' k3
    obtain ⟨W1, hW1⟩ : ∃ W1, (((w.alloc (.cells (ncells op t vk vn vs A ks.length c) 26)).alloc (.cells #[.string (tx n)] 9)).alloc (.cells (ncells o2 t2 k2 n2 s2 A2 l2.length d2) 26)).alloc (.cells (ncells 0 [] 0 0 [] none 0 0) 26) = W1 := ⟨_, rfl⟩
    rw [hW1] at b0 k0 k1 k2' k3 hz0
    have hy1 := hl2.below b0
    -- the two calls
    have CA := Lib.hid (copied_all 1000000 (.node o2 t2 k2 n2 s2 l2) hY hY _ W1 ⟨A2, d2, rfl, hd2, hy1⟩)
    have CB := withKids_put (Ex.put n (.node o2 t2 k2 n2 s2 l2)) op t vk vn vs ks (w.heap.size + 1) (w.heap.size + 1 + 1) W1 A c hcc (hk.below b0) (by omega) (fun i hi W hW v' hv => by
      have hci := count_lt (op := op) (t := t) (vk := vk) (vn := vn) (vs := vs) (List.getElem_mem hi)
      exact put1_any n (.node o2 t2 k2 n2 s2 l2) ks[i] _ o2 t2 k2 n2 s2 l2 A2 d2 (w.heap.size + 1) (w.heap.size + 1 + 1) v' W hv (k1.below hW k1.lt) (k2'.below hW k2'.lt) (fun W' hW' => ih ks[i] (by omega) (by omega) v' A2 d2 W' (hv.below hW') hd2 ((hy1.below hW).below hW')))
    have CBH : Hid (¬ (op = 2 ∧ t = n) → Calls Tryz.prog 29 #[.agg (ncells op t vk vn vs A ks.length c), .func (.func 30) #[] #[.pointer (some ⟨w.heap.size + 1, 0, none⟩), .pointer (some ⟨w.heap.size + 1 + 1, 0, none⟩)]] W1 fun e w' => ∃ u, e = .returned u ∧ NodeNew W1.heap.size w' u (Ex.put n (.node o2 t2 k2 n2 s2 l2) (.node op t vk vn vs ks)) ∧ Below W1.heap.size W1 w') := Lib.hid (fun hne => by
      rw [Ex.put, if_neg hne, Ex.puts_map]; exact CB)
    have CAH : Hid ((op = 2 ∧ t = n) → Calls Tryz.prog 28 #[.agg (ncells o2 t2 k2 n2 s2 A2 l2.length d2)] W1 fun e w' => ∃ u, e = .returned u ∧ NodeNew W1.heap.size w' u (Ex.put n (.node o2 t2 k2 n2 s2 l2) (.node op t vk vn vs ks)) ∧ Below W1.heap.size W1 w') := Lib.hid (fun hne => by
      rw [Ex.put, if_pos hne]; exact CA.out)
    generalize Ex.put n (.node o2 t2 k2 n2 s2 l2) (.node op t vk vn vs ks) = R at CAH CBH ⊢
    unfold ncells at *
    have HW1 := Lib.hid hW1
    have HZ := Lib.hid hz0
    have K3 := Lib.hid k3
    have B0 := Lib.hid b0
    obtain ⟨c0, c1, c2, c3, c4, c5⟩ := six_of k0
    obtain ⟨d0, d1, d2', d3, d4, d5⟩ := six_of k2'
    have e0 : W1.cell? ⟨w.heap.size + 1, 0, none⟩ = some (.string (tx n)) := k1.cell 0
    clear CA CB hz0 k1 b0 k0 k2' k3 ih hks0 hlen hN hM hk hy1 hl2 hY HW1
    by_cases h2 : op = 2
    · by_cases h3 : t = n
      · have CA := Lib.hid (CAH.out ⟨h2, h3⟩)
        subst h2; subst h3
        clear CBH CAH
        go_enter Tryz.func18, Tryz.ntmps18
        go_wp2_with fail
        refine CA.out.mono ?_
        rintro e W2 ⟨u, rfl, hu, hb⟩
        have R1 := K3.out.below hb K3.out.lt
        cases R with
        | node op2 t2 vk2 vn2 vs2 ks2 =>
        obtain ⟨A2, c2', rfl, hc2, hk2⟩ := hu
        obtain ⟨x0, x1, x2, x3, x4, x5⟩ := six_of R1
        obtain ⟨y0, y1, y2, y3, y4, y5⟩ := frozen6 R1
        have hT := set6Z_touch W2 (w.heap.size + 1 + 1 + 1) (.int .i64 op2) (.string (tx t2)) (.int .i64 vk2) (.int .i64 vn2) (.string (tx vs2)) (.slice A2 ks2.length c2')
        have FIN := Lib.hid (set6Z_whole R1 (.int .i64 op2) (.string (tx t2)) (.int .i64 vk2) (.int .i64 vn2) (.string (tx vs2)) (.slice A2 ks2.length c2'))
        have BW := B0.out.trans (hb.mono B0.out.size)
        have FB := Lib.hid (BW.trans (hT.below1 (B := w.heap.size) (by omega) BW.size))
        have FK : Hid (TreesIn (w.heap.size ≤ ·) (set6Z W2 (w.heap.size + 1 + 1 + 1) (.int .i64 op2) (.string (tx t2)) (.int .i64 vk2) (.int .i64 vn2) (.string (tx vs2)) (.slice A2 ks2.length c2')) A2 0 ks2) := Lib.hid (hk2.moved fun k hk hlt => ⟨hT.block k hlt (by have := HZ.out; simp; omega), by have := HZ.out; omega⟩)
        have HCC := Lib.hid hc2
        clear hT BW hb hk2 R1 c0 c1 c2 c3 c4 c5 d0 d1 d2' d3 d4 d5 e0 
        go_wp2_with fail
        exact bodyPost_ret (results_cell_row rfl _ _ (w.heap.size + 1 + 1 + 1) _ _ _ _ rfl FIN.out Tryz.underlying26 rfl sizeExpr) rfl ⟨_, rfl, ⟨A2, c2', rfl, HCC.out, FK.out⟩, FB.out⟩
      · have CB := Lib.hid (CBH.out (fun h => h3 h.2))
        subst h2
        have h3' : (t == n) = false := by simpa using h3
        clear CBH CAH h3
        go_enter Tryz.func18, Tryz.ntmps18
        go_wp2_with fail
        refine CB.out.mono ?_
        rintro e W2 ⟨u, rfl, hu, hb⟩
        have R1 := K3.out.below hb K3.out.lt
        cases R with
        | node op2 t2 vk2 vn2 vs2 ks2 =>
        obtain ⟨A2, c2', rfl, hc2, hk2⟩ := hu
        obtain ⟨x0, x1, x2, x3, x4, x5⟩ := six_of R1
        obtain ⟨y0, y1, y2, y3, y4, y5⟩ := frozen6 R1
        have hT := set6Z_touch W2 (w.heap.size + 1 + 1 + 1) (.int .i64 op2) (.string (tx t2)) (.int .i64 vk2) (.int .i64 vn2) (.string (tx vs2)) (.slice A2 ks2.length c2')
        have FIN := Lib.hid (set6Z_whole R1 (.int .i64 op2) (.string (tx t2)) (.int .i64 vk2) (.int .i64 vn2) (.string (tx vs2)) (.slice A2 ks2.length c2'))
        have BW := B0.out.trans (hb.mono B0.out.size)
        have FB := Lib.hid (BW.trans (hT.below1 (B := w.heap.size) (by omega) BW.size))
        have FK : Hid (TreesIn (w.heap.size ≤ ·) (set6Z W2 (w.heap.size + 1 + 1 + 1) (.int .i64 op2) (.string (tx t2)) (.int .i64 vk2) (.int .i64 vn2) (.string (tx vs2)) (.slice A2 ks2.length c2')) A2 0 ks2) := Lib.hid (hk2.moved fun k hk hlt => ⟨hT.block k hlt (by have := HZ.out; simp; omega), by have := HZ.out; omega⟩)
        have HCC := Lib.hid hc2
        clear hT BW hb hk2 R1 c0 c1 c2 c3 c4 c5 d0 d1 d2' d3 d4 d5 e0 
        go_wp2_with fail
        exact bodyPost_ret (results_cell_row rfl _ _ (w.heap.size + 1 + 1 + 1) _ _ _ _ rfl FIN.out Tryz.underlying26 rfl sizeExpr) rfl ⟨_, rfl, ⟨A2, c2', rfl, HCC.out, FK.out⟩, FB.out⟩
    · have CB := Lib.hid (CBH.out (fun h => h2 h.1))
      clear CBH CAH
      go_enter Tryz.func18, Tryz.ntmps18
      go_wp2_with fail
      refine CB.out.mono ?_
      rintro e W2 ⟨u, rfl, hu, hb⟩
      have R1 := K3.out.below hb K3.out.lt
      cases R with
      | node op2 t2 vk2 vn2 vs2 ks2 =>
      obtain ⟨A2, c2', rfl, hc2, hk2⟩ := hu
      obtain ⟨x0, x1, x2, x3, x4, x5⟩ := six_of R1
      obtain ⟨y0, y1, y2, y3, y4, y5⟩ := frozen6 R1
      have hT := set6Z_touch W2 (w.heap.size + 1 + 1 + 1) (.int .i64 op2) (.string (tx t2)) (.int .i64 vk2) (.int .i64 vn2) (.string (tx vs2)) (.slice A2 ks2.length c2')
      have FIN := Lib.hid (set6Z_whole R1 (.int .i64 op2) (.string (tx t2)) (.int .i64 vk2) (.int .i64 vn2) (.string (tx vs2)) (.slice A2 ks2.length c2'))
      have BW := B0.out.trans (hb.mono B0.out.size)
      have FB := Lib.hid (BW.trans (hT.below1 (B := w.heap.size) (by omega) BW.size))
      have FK : Hid (TreesIn (w.heap.size ≤ ·) (set6Z W2 (w.heap.size + 1 + 1 + 1) (.int .i64 op2) (.string (tx t2)) (.int .i64 vk2) (.int .i64 vn2) (.string (tx vs2)) (.slice A2 ks2.length c2')) A2 0 ks2) := Lib.hid (hk2.moved fun k hk hlt => ⟨hT.block k hlt (by have := HZ.out; simp; omega), by have := HZ.out; omega⟩)
      have HCC := Lib.hid hc2
      clear hT BW hb hk2 R1 c0 c1 c2 c3 c4 c5 d0 d1 d2' d3 d4 d5 e0 
      go_wp2_with fail
      exact bodyPost_ret (results_cell_row rfl _ _ (w.heap.size + 1 + 1 + 1) _ _ _ _ rfl FIN.out Tryz.underlying26 rfl sizeExpr) rfl ⟨_, rfl, ⟨A2, c2', rfl, HCC.out, FK.out⟩, FB.out⟩
end Go.Proofs.YtbpknainmefidaaGreatDoor

/- The reference's Put. -/
namespace Go.Proofs.YtbpknainmefidaaGreatDoor
open Go.RowKit Go.Lib
set_option linter.unusedVariables false
set_option linter.unusedSimpArgs false
set_option maxRecDepth 100000
open Ex (Tree)

/-- a node as a value, all blocks below it in S. -/
def NodeS (S : Nat → Prop) (w : World) (v : Value) : Tree → Prop
  | .node op t vk vn vs ks => ∃ A c, v = .agg (ncells op t vk vn vs A ks.length c) ∧ ks.length ≤ c ∧ TreesIn S w A 0 ks
theorem NodeS.node {S : Nat → Prop} {w : World} {v : Value} : ∀ {x : Tree}, NodeS S w v x → NodeV w v x
  | .node op t vk vn vs ks, ⟨A, c, e, hc, hk⟩ => ⟨A, c, e, hc, hk.at⟩
/-- where the kids that were put stand: in blocks of S, or in own ones that are not the row's own. -/
def KidS (S : Nat → Prop) (B : Nat) (w : World) (v : Value) (k : Nat) : Prop := S k ∨ (B ≤ k ∧ k < w.heap.size ∧ v.ownBlock ≠ some k)
theorem RowT.trees {S : Nat → Prop} {w : World} {base : Nat} {v : Value} {l : List Tree} (h : RowT S w base v l) : ∃ A c, v = .slice A l.length c ∧ l.length ≤ c ∧ TreesIn (fun k => S k ∨ base ≤ k) w A 0 l := by
  obtain ⟨xs, h1, h2, h3⟩ := h
  have hl := h2.length
  rcases h1.2 with ⟨rfl, h0⟩ | ⟨g, cap, cur, rfl, hb, hh, hn, hm, hs, ht⟩
  · have : l = [] := List.eq_nil_of_length_eq_zero h0
    subst this
    exact ⟨none, 0, rfl, Nat.le_refl _, by rw [TreesIn]; trivial⟩
  · refine ⟨_, cap, rfl, hn, ?_⟩
    refine (h2.trees (Array.getElem?_eq_some_iff.1 hh).1 0 fun j u hu => ?_).moved fun k hk _ => ⟨rfl, hk.imp id (fun e => by rw [e]; exact hb)⟩
    have hj : j < xs.length := (List.getElem?_eq_some_iff.1 hu).1
    rw [Nat.zero_add, cell_of_row w g j cur 26 (0, 0) hh, ← hu, ← ht, List.getElem?_take, if_pos (by omega)]
    simp
structure PutAt (S : Nat → Prop) (w0 : World) (op : Int) (t : List UInt8) (vk vn : Int) (vs : List UInt8) (wr : World) (v : Value) (done : List Tree) : Prop where
  below : Below w0.heap.size w0 wr
  row : RowT (KidS S (w0.heap.size + 4) wr v) wr (w0.heap.size + 4) v done
  out : Whole wr (w0.heap.size + 3) 26 #[.int .i64 op, .string (tx t), .int .i64 vk, .int .i64 vn, .string (tx vs), v]
/-- one more kid stands there. -/
theorem PutAt.step {S : Nat → Prop} {w0 wr w3 : World} {op : Int} {t : List UInt8} {vk vn : Int} {vs : List UInt8} {v : Value} {done : List Tree} (h : PutAt S w0 op t vk vn vs wr v done) (hS : ∀ k, S k → k < w0.heap.size) (hn : done.length + 1 ≤ 1000000)
    (hb : Below wr.heap.size wr w3) {o2 : Int} {t2 : List UInt8} {k2 n2 : Int} {s2 : List UInt8} {l2 : List Tree} {A2 : Option Addr} {c2 : Nat} (hc2 : l2.length ≤ c2) (hk2 : TreesIn (fun k => S k ∨ wr.heap.size ≤ k) w3 A2 0 l2) :
    ∃ v' w5, Sem.run Tryz.prog (Builtin.append_ #[24, 24] 24 #[v, .slice (some ⟨w3.heap.size, 0, none⟩) 1 1]) (w3.alloc (.cells (ncells o2 t2 k2 n2 s2 A2 l2.length c2) 26)) = .ok v' w5 ∧
      w5.frozen? ⟨w0.heap.size + 3, 5, none⟩ = false ∧ w5.cell? ⟨w0.heap.size + 3, 5, none⟩ = some v ∧ PutAt S w0 op t vk vn vs (w5.setCell ⟨w0.heap.size + 3, 5, none⟩ v') v' (done ++ [.node o2 t2 k2 n2 s2 l2]) ∧ ∀ k, k < wr.heap.size → k < w0.heap.size + 3 → (w5.setCell ⟨w0.heap.size + 3, 5, none⟩ v').heap[k]? = wr.heap[k]? := by
  have hz := h.below.size
  have hO := h.out.lt
  have hz3 := hb.size
  have b4 : Below w3.heap.size w3 (w3.alloc (.cells (ncells o2 t2 k2 n2 s2 A2 l2.length c2) 26)) := (Below.refl _ _).alloc (Nat.le_refl _) _
  have k4 := Whole.new w3 26 (ncells o2 t2 k2 n2 s2 A2 l2.length c2)
  have z4 : (w3.alloc (.cells (ncells o2 t2 k2 n2 s2 A2 l2.length c2) 26)).heap.size = w3.heap.size + 1 := by simp
  obtain ⟨w4, hw4⟩ : ∃ w4, w3.alloc (.cells (ncells o2 t2 k2 n2 s2 A2 l2.length c2) 26) = w4 := ⟨_, rfl⟩
  rw [hw4] at b4 k4 z4 ⊢
  have hown : ∀ k, v.ownBlock = some k → w0.heap.size + 4 ≤ k ∧ k < wr.heap.size := fun k e => h.row.block k e
  -- the row, and the one tree, with one S
  have b34 : Below wr.heap.size wr w4 := hb.trans (b4.mono hb.size)
  have hrow : RowT (fun k => KidS S (w0.heap.size + 4) wr v k ∨ (wr.heap.size ≤ k ∧ k < w3.heap.size)) w4 (w0.heap.size + 4) v done := h.row.moved (fun k hk hlt => ⟨b34.block k hlt, .inl hk⟩) (fun k e => ⟨b34.block k (hown k e).2, fun hh => by
    have := hown k e
    rcases hh with (hh | hh) | hh
    · have := hS k hh; omega
    · exact hh.2.2 e
    · omega⟩)
  have hsrc : SrcT (fun k => KidS S (w0.heap.size + 4) wr v k ∨ (wr.heap.size ≤ k ∧ k < w3.heap.size)) w4 (some ⟨w3.heap.size, 0, none⟩) [.node o2 t2 k2 n2 s2 l2] := by
    refine ⟨_, ⟨A2, c2, [], rfl, hc2, hk2.moved fun k hk hlt => ⟨b4.block k hlt, ?_⟩, rfl⟩, fun j u hu => ⟨w3.heap.size, 0, rfl, by rw [Nat.zero_add, k4.cell, ← hu]; simp [ncells]⟩⟩
    rcases hk with hk | hk
    · exact .inl (.inl hk)
    · exact .inr ⟨hk, hlt⟩
  obtain ⟨v', w5, hrun, hr5, T5, o5⟩ := append_trees hrow (A := some ⟨w3.heap.size, 0, none⟩) (c := 1) hsrc (by simpa using hn) (by omega) (by
    rintro ((hh | hh) | hh)
    · have := hS _ hh; omega
    · have := hh.2.1; omega
    · omega)
  have oO : ∀ k ∈ v.ownBlock.toList, k ≠ w0.heap.size + 3 := fun k hk => by have := hown k (by simpa using hk); omega
  have hOut4 := h.out.below b34 hO
  have hOut5 : Whole w5 (w0.heap.size + 3) 26 #[.int .i64 op, .string (tx t), .int .i64 vk, .int .i64 vn, .string (tx vs), v] := (T5.block _ hOut4.lt (fun hm => oO _ hm rfl)).trans hOut4
  have z5 := T5.size
  have hOut6 := hOut5.set_ 5 v'
  have T6 : Touch [w0.heap.size + 3] w5 (w5.setCell ⟨w0.heap.size + 3, 5, none⟩ v') := Touch.one (by simp)
  have z6 : (w5.setCell ⟨w0.heap.size + 3, 5, none⟩ v').heap.size = w5.heap.size := by simp
  refine ⟨v', w5, hrun, hOut5.frozen 5, hOut5.cell 5, ⟨?_, ?_, hOut6⟩, fun k hk h3 => by
    rw [T6.block k (by have := b34.size; omega) (by intro hm; have : k = w0.heap.size + 3 := by simpa using hm
                                                    omega), T5.block k (by have := b34.size; omega) (fun hm => by have := hown k (by simpa using hm); omega), b34.block k hk]⟩
  · have b5 : Below w0.heap.size w0 w5 := T5.fresh (h.below.trans (b34.mono h.below.size)) (fun k hk => by have := hown k (by simpa using hk); omega)
    exact b5.setCell (p := ⟨w0.heap.size + 3, 5, none⟩) (by simp) v'
  · have own' : ∀ k, v'.ownBlock = some k → w0.heap.size + 4 ≤ k ∧ (v.ownBlock = some k ∨ k = w4.heap.size) := fun k e => by
      rcases o5 with o5 | o5
      · rw [o5] at e; exact ⟨(hown k e).1, .inl e⟩
      · rw [o5] at e; injection e with e; exact ⟨by omega, .inr e.symm⟩
    refine hr5.moved (fun k hk hlt => ⟨T6.block k hlt (by
      intro hm
      have hm : k = w0.heap.size + 3 := by simpa using hm
      rcases hk with (hk | hk) | hk
      · have := hS k hk; omega
      · have := hk.1; omega
      · omega), ?_⟩) (fun k e => ⟨T6.block k (by have := hr5.block k e; exact this.2) (by
        intro hm
        have hm : k = w0.heap.size + 3 := by simpa using hm
        have := own' k e; omega), fun hh => ?_⟩)
    · rcases hk with (hk | hk) | hk
      · exact .inl hk
      · refine .inr ⟨hk.1, by rw [z6]; have := hk.2.1; omega, fun e => ?_⟩
        rcases (own' k e).2 with e' | e'
        · exact hk.2.2 e'
        · have := hk.2.1; omega
      · refine .inr ⟨by omega, by rw [z6]; omega, fun e => ?_⟩
        rcases (own' k e).2 with e' | e'
        · have := hown k e'; omega
        · omega
    · rcases hh with hh | hh
      · have := hS k hh; have := own' k e; omega
      · exact hh.2.2 e

set_option maxHeartbeats 2000000 in
theorem refPut_all (n : List UInt8) (o2 : Int) (t2 : List UInt8) (k2 n2 : Int) (s2 : List UInt8) (l2 : List Tree) (S : Nat → Prop) (N : Nat) : ∀ (T : Tree), Ex.count T ≤ N → Ex.count T ≤ 1000000 → ∀ (v : Value) (A2 : Option Addr) (d2 : Nat) (w : World), NodeV w v T → l2.length ≤ d2 → TreesIn S w A2 0 l2 → (∀ k, S k → k < w.heap.size) →
    Calls Tryz.prog 20 #[v, .string (tx n), .agg (ncells o2 t2 k2 n2 s2 A2 l2.length d2)] w fun e w' => ∃ u, e = .returned u ∧ NodeS (fun k => S k ∨ w.heap.size ≤ k) w' u (Ex.put n (.node o2 t2 k2 n2 s2 l2) T) ∧ Below w.heap.size w w' := by
  induction N with
  | zero => intro T h; have := Ex.count_pos T; omega
  | succ N ih =>
    intro T hN hM v A2 d2 w h hd2 hl2 hS
    cases T with
    | node op t vk vn vs ks =>
    obtain ⟨A, c, rfl, hcc, hk⟩ := h
    have hks0 : Ex.counts ks + 1 = Ex.count (.node op t vk vn vs ks) := by rw [Ex.count]
    have hlen := Ex.length_counts ks
    have b0 : Below w.heap.size w (((w.alloc (.cells (ncells op t vk vn vs A ks.length c) 26)).alloc (.cells (ncells o2 t2 k2 n2 s2 A2 l2.length d2) 26)).alloc (.cells (ncells 0 [] 0 0 [] none 0 0) 26)) :=
      (((Below.refl _ _).alloc (Nat.le_refl _) _).alloc (by simp) _).alloc (by simp; omega) _
    have k0 := ((Whole.new w 26 (ncells op t vk vn vs A ks.length c)).alloc (.cells (ncells o2 t2 k2 n2 s2 A2 l2.length d2) 26)).alloc (.cells (ncells 0 [] 0 0 [] none 0 0) 26)
    have k1 := (Whole.new (w.alloc (.cells (ncells op t vk vn vs A ks.length c) 26)) 26 (ncells o2 t2 k2 n2 s2 A2 l2.length d2)).alloc (.cells (ncells 0 [] 0 0 [] none 0 0) 26)
    have k3 := Whole.new ((w.alloc (.cells (ncells op t vk vn vs A ks.length c) 26)).alloc (.cells (ncells o2 t2 k2 n2 s2 A2 l2.length d2) 26)) 26 (ncells 0 [] 0 0 [] none 0 0)
    have hz0 : (((w.alloc (.cells (ncells op t vk vn vs A ks.length c) 26)).alloc (.cells (ncells o2 t2 k2 n2 s2 A2 l2.length d2) 26)).alloc (.cells (ncells 0 [] 0 0 [] none 0 0) 26)).heap.size = w.heap.size + 3 := by simp only [World.size_alloc]
    simp only [World.size_alloc] at k1 k3
    obtain ⟨W1, hW1⟩ : ∃ W1, ((w.alloc (.cells (ncells op t vk vn vs A ks.length c) 26)).alloc (.cells (ncells o2 t2 k2 n2 s2 A2 l2.length d2) 26)).alloc (.cells (ncells 0 [] 0 0 [] none 0 0) 26) = W1 := ⟨_, rfl⟩
    rw [hW1] at b0 k0 k1 k3 hz0
    unfold ncells at *
    have HZ := Lib.hid hz0
    have B0 := Lib.hid b0
    have K3 := Lib.hid k3
    have HK := Lib.hid hk
    have HL2 := Lib.hid hl2
    have HCNT := Lib.hid (show Ex.counts ks + 1 ≤ N + 1 ∧ Ex.counts ks + 1 ≤ 1000000 ∧ ks.length ≤ Ex.counts ks from ⟨by omega, by omega, hlen⟩)
    have K0 := Lib.hid k0
    have K1 := Lib.hid k1
    obtain ⟨c0, c1, c2, c3, c4, c5⟩ := six_of k0
    obtain ⟨d0, d1, d2', d3, d4, d5⟩ := six_of k1
    have IH := Lib.hid ih
    by_cases hput : op = 2 ∧ t = n
    · obtain ⟨h2, h3⟩ := hput
      subst h2; subst h3
      have FP : Hid (Ex.put t (.node o2 t2 k2 n2 s2 l2) (.node 2 t vk vn vs ks) = .node o2 t2 k2 n2 s2 l2) := Lib.hid (by rw [Ex.put, if_pos ⟨rfl, rfl⟩])
      obtain ⟨x0, x1, x2, x3, x4, x5⟩ := six_of k3
      obtain ⟨y0, y1, y2, y3, y4, y5⟩ := frozen6 k3
      have hT := set6Z_touch W1 (w.heap.size + 1 + 1) (.int .i64 o2) (.string (tx t2)) (.int .i64 k2) (.int .i64 n2) (.string (tx s2)) (.slice A2 l2.length d2)
      have FIN := Lib.hid (set6Z_whole k3 (.int .i64 o2) (.string (tx t2)) (.int .i64 k2) (.int .i64 n2) (.string (tx s2)) (.slice A2 l2.length d2))
      have BW := Lib.hid (b0.trans (hT.below1 (B := w.heap.size) (by omega) b0.size))
      clear k0 k1 k3 hz0 b0 hk hl2 hN hM hlen hks0 ih hT
      go_enter Tryz.func20, Tryz.ntmps20
      go_wp2_with fail
      refine bodyPost_ret (results_cell_row rfl _ _ (w.heap.size + 1 + 1) _ _ _ _ rfl FIN.out Tryz.underlying26 rfl sizeExpr) rfl ⟨_, rfl, ?_, BW.out⟩
      rw [FP.out]
      exact ⟨A2, d2, rfl, hd2, HL2.out.moved fun k hk hlt => ⟨BW.out.block k (hS k hk), .inl hk⟩⟩
    · have FP : Hid (Ex.put n (.node o2 t2 k2 n2 s2 l2) (.node op t vk vn vs ks) = .node op t vk vn vs (ks.map (Ex.put n (.node o2 t2 k2 n2 s2 l2)))) := Lib.hid (by rw [Ex.put, if_neg hput, Ex.puts_map])
      clear k0 k1 k3 hz0 b0 hk hl2 hN hM hlen hks0 ih
      go_enter Tryz.func20, Tryz.ntmps20
      by_cases h2 : op = 2
      · subst h2
        have h3 : (t == n) = false := by simpa using fun h => hput ⟨rfl, h⟩
        go_wp2_with fail
        rw [HZ.out]
        have CC := c5
        have hks9 : (ks.length : Int) ≤ 1000000 := by have := HCNT.out; omega
        have wo := Whole.new W1 26 #[.int .i64 2, .string (tx t), .int .i64 vk, .int .i64 vn, .string (tx vs), .slice none 0 0]
        have bo : Below W1.heap.size W1 (W1.alloc (.cells #[.int .i64 2, .string (tx t), .int .i64 vk, .int .i64 vn, .string (tx vs), .slice none 0 0] 26)) := (Below.refl _ _).alloc (Nat.le_refl _) _
        have K0' := Lib.hid (K0.out.below bo K0.out.lt)
        have K1' := Lib.hid (K1.out.below bo K1.out.lt)
        have K3' := Lib.hid (K3.out.below bo K3.out.lt)
        rw [HZ.out] at wo
        have P0 : Hid (PutAt S w 2 t vk vn vs (W1.alloc (.cells #[.int .i64 2, .string (tx t), .int .i64 vk, .int .i64 vn, .string (tx vs), .slice none 0 0] 26)) (.slice none 0 0) []) := Lib.hid ⟨B0.out.trans (bo.mono B0.out.size), RowT.nil _ _ _, wo⟩
        clear wo bo K0 K1 K3 c0 c1 c2 c3 c4 c5 d0 d1 d2' d3 d4 d5
        generalize W1.alloc (.cells #[.int .i64 2, .string (tx t), .int .i64 vk, .int .i64 vn, .string (tx vs), .slice none 0 0] 26) = W4 at *
        go_loopg [8] (ks.length + 1) (fun j s8 wr => ∃ (i : Nat) (v : Value), i ≤ ks.length ∧ ks.length < i + j ∧ s8 = .int .i64 (i : Nat) ∧ Hid (PutAt S w 2 t vk vn vs wr v ((ks.map (Ex.put n (.node o2 t2 k2 n2 s2 l2))).take i)) ∧ Hid (Whole wr w.heap.size 26 #[.int .i64 2, .string (tx t), .int .i64 vk, .int .i64 vn, .string (tx vs), .slice A ks.length c]) ∧ Hid (Whole wr (w.heap.size + 1) 26 #[.int .i64 o2, .string (tx t2), .int .i64 k2, .int .i64 n2, .string (tx s2), .slice A2 l2.length d2]) ∧ Hid (Whole wr (w.heap.size + 1 + 1) 26 #[.int .i64 0, .string (tx []), .int .i64 0, .int .i64 0, .string (tx []), .slice none 0 0]))
        case atStart => exact ⟨0, _, by omega, by omega, rfl, P0, K0', K1', K3'⟩
        case round =>
          obtain ⟨i, v, hi, hj, rfl, PA, H0, H1, H2⟩ := hrel
          by_cases hlt : i < ks.length
          · have hlt' : (i : Int) < (ks.length : Int) := by omega
            obtain ⟨b, o, op', t', vk', vn', vs', l', B', n', hA, hx, q0, q1, q2, q3, q4, q5, hnv⟩ := TreesAt.kid (HK.out.old PA.out.below).at i hlt
            have hdl : ((ks.map (Ex.put n (.node o2 t2 k2 n2 s2 l2))).take i).length = i := by rw [List.length_take, List.length_map]; omega
            have call : Calls Tryz.prog 20 #[.agg #[.int .i64 op', .string (tx t'), .int .i64 vk', .int .i64 vn', .string (tx vs'), .slice B' l'.length n'], .string (tx n), .agg #[.int .i64 o2, .string (tx t2), .int .i64 k2, .int .i64 n2, .string (tx s2), .slice A2 l2.length d2]] wr.drew fun e w3 => ∃ o3 t3 k3 n3 s3 A3 m3 c3 A5 m5 c5 w5, e = .returned (.agg #[.int .i64 o3, .string (tx t3), .int .i64 k3, .int .i64 n3, .string (tx s3), .slice A3 m3 c3]) ∧
                w3.cell? ⟨w.heap.size + 3, 5, none⟩ = some v ∧
                Sem.run Tryz.prog (Builtin.append_ #[24, 24] 24 #[v, .slice (some ⟨w3.heap.size, 0, none⟩) 1 1]) (w3.alloc (.cells #[.int .i64 o3, .string (tx t3), .int .i64 k3, .int .i64 n3, .string (tx s3), .slice A3 m3 c3] 26)) = .ok (.slice A5 m5 c5) w5 ∧
                (w3.alloc (.cells #[.int .i64 o3, .string (tx t3), .int .i64 k3, .int .i64 n3, .string (tx s3), .slice A3 m3 c3] 26)).cell? ⟨w.heap.size + 3, 5, none⟩ = some v ∧
                w5.frozen? ⟨w.heap.size + 3, 5, none⟩ = false ∧ w5.cell? ⟨w.heap.size + 3, 5, none⟩ = some v ∧
                Hid (PutAt S w 2 t vk vn vs (w5.setCell ⟨w.heap.size + 3, 5, none⟩ (.slice A5 m5 c5)) (.slice A5 m5 c5) ((ks.map (Ex.put n (.node o2 t2 k2 n2 s2 l2))).take (i + 1)) ∧ Whole (w5.setCell ⟨w.heap.size + 3, 5, none⟩ (.slice A5 m5 c5)) w.heap.size 26 #[.int .i64 2, .string (tx t), .int .i64 vk, .int .i64 vn, .string (tx vs), .slice A ks.length c] ∧ Whole (w5.setCell ⟨w.heap.size + 3, 5, none⟩ (.slice A5 m5 c5)) (w.heap.size + 1) 26 #[.int .i64 o2, .string (tx t2), .int .i64 k2, .int .i64 n2, .string (tx s2), .slice A2 l2.length d2] ∧ Whole (w5.setCell ⟨w.heap.size + 3, 5, none⟩ (.slice A5 m5 c5)) (w.heap.size + 1 + 1) 26 #[.int .i64 0, .string (tx []), .int .i64 0, .int .i64 0, .string (tx []), .slice none 0 0]) := by
              have hci := count_lt (op := 2) (t := t) (vk := vk) (vn := vn) (vs := vs) (List.getElem_mem hlt)
              rw [Ex.count] at hci
              have hz := PA.out.below.size
              refine (IH.out ks[i] (by have := HCNT.out; omega) (by have := HCNT.out; omega) _ A2 d2 wr.drew (hnv.below (Below.refl _ _).drew) hd2 ((HL2.out.moved fun k hk _ => ⟨PA.out.below.block k (hS k hk), hk⟩).below (Below.refl _ _).drew) (fun k hk => by have := hS k hk; show k < wr.heap.size; omega)).mono ?_
              rintro e w3 ⟨u, rfl, hu, hb3⟩
              obtain ⟨y, hy⟩ : ∃ y, Ex.put n (.node o2 t2 k2 n2 s2 l2) ks[i] = y := ⟨_, rfl⟩
              rw [hy] at hu
              cases y with
              | node o3 t3 k3 n3 s3 l3 =>
              obtain ⟨A3, c3, rfl, hc3, hk3⟩ := hu
              obtain ⟨v', w5, hrun, hf5, hc5, hP, hrest⟩ := PA.out.step hS (by rw [hdl]; omega) (bdrew1 hb3) hc3 hk3
              obtain ⟨A5, c5, hv5, -⟩ := hP.row.src
              obtain ⟨m5, hm5⟩ : ∃ m5, (List.take i (List.map (Ex.put n (Tree.node o2 t2 k2 n2 s2 l2)) ks) ++ [Tree.node o3 t3 k3 n3 s3 l3]).length = m5 := ⟨_, rfl⟩
              rw [hm5] at hv5
              subst hv5
              have hO3 := PA.out.out.below (bdrew1 hb3) PA.out.out.lt
              have h03 := H0.out.below (bdrew1 hb3) H0.out.lt
              refine ⟨o3, t3, k3, n3, s3, A3, l3.length, c3, A5, m5, c5, w5, rfl, hO3.cell 5, hrun, (hO3.alloc _).cell 5, hf5, hc5, Lib.hid ⟨?_, ?_, ?_, ?_⟩⟩
              · rw [List.take_succ_eq_append_getElem (by rw [List.length_map]; exact hlt), List.getElem_map, hy]
                exact hP
              · exact (hrest _ H0.out.lt (by omega)).trans H0.out
              · exact (hrest _ H1.out.lt (by omega)).trans H1.out
              · exact (hrest _ H2.out.lt (by omega)).trans H2.out
            have CALL := Lib.hid call
            obtain ⟨e0, e1, e2, e3, e4, e5⟩ := six_of H0.out
            obtain ⟨f0, f1, f2, f3, f4, f5⟩ := six_of H1.out
            have g5 : wr.cell? ⟨w.heap.size + 3, 5, none⟩ = some v := PA.out.out.cell 5
            subst hA
            clear call hnv hx hdl
            go_wp2_with fail
            go_region_law (first
              | (refine step_call_any rfl 20 #[.agg #[.int .i64 op', .string (tx t'), .int .i64 vk', .int .i64 vn', .string (tx vs'), .slice B' l'.length n'], .string (tx n), .agg #[.int .i64 o2, .string (tx t2), .int .i64 k2, .int .i64 n2, .string (tx s2), .slice A2 l2.length d2]] ?h1 CALL.out ?_; (case h1 => kernel_rfl); rintro e w3 ⟨o3, t3, k3, n3, s3, A3, m3, c3, A5, m5, c5, w5, rfl, r5, RUN, r6, r7, r8, FIN⟩; refine ⟨_, rfl, ?_⟩)
              | (refine step_append_runI rfl _ _ 24 24 rfl _ _ ?h3 ?h4 RUN ?_; (case h3 => rfl); (case h4 => rfl)))
            all_goals
              obtain ⟨J1, J2, J3, J4⟩ := FIN.out
              have J1 := Lib.hid J1
              have J2 := Lib.hid J2
              have J3 := Lib.hid J3
              have J4 := Lib.hid J4
              clear r5 RUN r6 r7 r8 FIN e0 e1 e2 e3 e4 e5 f0 f1 f2 f3 f4 f5 g5 q0 q1 q2 q3 q4 q5 CALL
              go_wp2_with fail
              go_roundg (ks.length - i)
              case measure => omega
              case rel => exact ⟨i + 1, _, by omega, by omega, by go_num, J1, J2, J3, J4⟩
          · have hlt' : ¬ (i : Int) < (ks.length : Int) := by omega
            have hie : i = ks.length := by omega
            have hdl : ((ks.map (Ex.put n (.node o2 t2 k2 n2 s2 l2))).take i).length = ks.length := by rw [List.length_take, List.length_map]; omega
            have htk : (ks.map (Ex.put n (.node o2 t2 k2 n2 s2 l2))).take i = ks.map (Ex.put n (.node o2 t2 k2 n2 s2 l2)) := List.take_of_length_le (by rw [List.length_map]; omega)
            obtain ⟨A', c', hv', hc', hk'⟩ := PA.out.row.trees
            rw [hdl] at hv' hc'
            rw [htk] at hk'
            subst hv'
            obtain ⟨m0, m1, m2, m3, m4, m5⟩ := six_of PA.out.out
            obtain ⟨e0, e1, e2, e3, e4, e5⟩ := six_of H0.out
            obtain ⟨x0, x1, x2, x3, x4, x5⟩ := six_of H2.out
            obtain ⟨y0, y1, y2, y3, y4, y5⟩ := frozen6 H2.out
            have hT := set6Z_touch wr (w.heap.size + 1 + 1) (.int .i64 2) (.string (tx t)) (.int .i64 vk) (.int .i64 vn) (.string (tx vs)) (.slice A' ks.length c')
            have FIN := Lib.hid (set6Z_whole H2.out (.int .i64 2) (.string (tx t)) (.int .i64 vk) (.int .i64 vn) (.string (tx vs)) (.slice A' ks.length c'))
            have FB := Lib.hid (PA.out.below.trans (hT.below1 (B := w.heap.size) (by omega) PA.out.below.size))
            have HCC := Lib.hid hc'
            have FK : Hid (TreesIn (fun k => S k ∨ w.heap.size ≤ k) (set6Z wr (w.heap.size + 1 + 1) (.int .i64 2) (.string (tx t)) (.int .i64 vk) (.int .i64 vn) (.string (tx vs)) (.slice A' ks.length c')) A' 0 (ks.map (Ex.put n (.node o2 t2 k2 n2 s2 l2)))) := Lib.hid (hk'.moved fun k hk hlt => by
              have h1 : (S k ∨ w.heap.size ≤ k) ∧ k ≠ w.heap.size + 1 + 1 := by
                rcases hk with (hk | hk) | hk
                · exact ⟨.inl hk, by have := hS k hk; omega⟩
                · exact ⟨.inr (by omega), by have := hk.1; omega⟩
                · exact ⟨.inr (by omega), by omega⟩
              exact ⟨hT.block k hlt (by simpa using h1.2), h1.1⟩)
            clear hT hk' hdl htk
            go_wp2_with fail
            refine bodyPost_ret (results_cell_row rfl _ _ (w.heap.size + 1 + 1) _ _ _ _ rfl FIN.out Tryz.underlying26 rfl sizeExpr) rfl ⟨_, rfl, ?_, FB.out⟩
            rw [FP.out]
            exact ⟨A', c', by rw [List.length_map], by rw [List.length_map]; exact HCC.out, FK.out⟩
      · go_wp2_with fail
        rw [HZ.out]
        have CC := c5
        have hks9 : (ks.length : Int) ≤ 1000000 := by have := HCNT.out; omega
        have wo := Whole.new W1 26 #[.int .i64 op, .string (tx t), .int .i64 vk, .int .i64 vn, .string (tx vs), .slice none 0 0]
        have bo : Below W1.heap.size W1 (W1.alloc (.cells #[.int .i64 op, .string (tx t), .int .i64 vk, .int .i64 vn, .string (tx vs), .slice none 0 0] 26)) := (Below.refl _ _).alloc (Nat.le_refl _) _
        have K0' := Lib.hid (K0.out.below bo K0.out.lt)
        have K1' := Lib.hid (K1.out.below bo K1.out.lt)
        have K3' := Lib.hid (K3.out.below bo K3.out.lt)
        rw [HZ.out] at wo
        have P0 : Hid (PutAt S w op t vk vn vs (W1.alloc (.cells #[.int .i64 op, .string (tx t), .int .i64 vk, .int .i64 vn, .string (tx vs), .slice none 0 0] 26)) (.slice none 0 0) []) := Lib.hid ⟨B0.out.trans (bo.mono B0.out.size), RowT.nil _ _ _, wo⟩
        clear wo bo K0 K1 K3 c0 c1 c2 c3 c4 c5 d0 d1 d2' d3 d4 d5
        generalize W1.alloc (.cells #[.int .i64 op, .string (tx t), .int .i64 vk, .int .i64 vn, .string (tx vs), .slice none 0 0] 26) = W4 at *
        go_loopg [8] (ks.length + 1) (fun j s8 wr => ∃ (i : Nat) (v : Value), i ≤ ks.length ∧ ks.length < i + j ∧ s8 = .int .i64 (i : Nat) ∧ Hid (PutAt S w op t vk vn vs wr v ((ks.map (Ex.put n (.node o2 t2 k2 n2 s2 l2))).take i)) ∧ Hid (Whole wr w.heap.size 26 #[.int .i64 op, .string (tx t), .int .i64 vk, .int .i64 vn, .string (tx vs), .slice A ks.length c]) ∧ Hid (Whole wr (w.heap.size + 1) 26 #[.int .i64 o2, .string (tx t2), .int .i64 k2, .int .i64 n2, .string (tx s2), .slice A2 l2.length d2]) ∧ Hid (Whole wr (w.heap.size + 1 + 1) 26 #[.int .i64 0, .string (tx []), .int .i64 0, .int .i64 0, .string (tx []), .slice none 0 0]))
        case atStart => exact ⟨0, _, by omega, by omega, rfl, P0, K0', K1', K3'⟩
        case round =>
          obtain ⟨i, v, hi, hj, rfl, PA, H0, H1, H2⟩ := hrel
          by_cases hlt : i < ks.length
          · have hlt' : (i : Int) < (ks.length : Int) := by omega
            obtain ⟨b, o, op', t', vk', vn', vs', l', B', n', hA, hx, q0, q1, q2, q3, q4, q5, hnv⟩ := TreesAt.kid (HK.out.old PA.out.below).at i hlt
            have hdl : ((ks.map (Ex.put n (.node o2 t2 k2 n2 s2 l2))).take i).length = i := by rw [List.length_take, List.length_map]; omega
            have call : Calls Tryz.prog 20 #[.agg #[.int .i64 op', .string (tx t'), .int .i64 vk', .int .i64 vn', .string (tx vs'), .slice B' l'.length n'], .string (tx n), .agg #[.int .i64 o2, .string (tx t2), .int .i64 k2, .int .i64 n2, .string (tx s2), .slice A2 l2.length d2]] wr.drew fun e w3 => ∃ o3 t3 k3 n3 s3 A3 m3 c3 A5 m5 c5 w5, e = .returned (.agg #[.int .i64 o3, .string (tx t3), .int .i64 k3, .int .i64 n3, .string (tx s3), .slice A3 m3 c3]) ∧
                w3.cell? ⟨w.heap.size + 3, 5, none⟩ = some v ∧
                Sem.run Tryz.prog (Builtin.append_ #[24, 24] 24 #[v, .slice (some ⟨w3.heap.size, 0, none⟩) 1 1]) (w3.alloc (.cells #[.int .i64 o3, .string (tx t3), .int .i64 k3, .int .i64 n3, .string (tx s3), .slice A3 m3 c3] 26)) = .ok (.slice A5 m5 c5) w5 ∧
                (w3.alloc (.cells #[.int .i64 o3, .string (tx t3), .int .i64 k3, .int .i64 n3, .string (tx s3), .slice A3 m3 c3] 26)).cell? ⟨w.heap.size + 3, 5, none⟩ = some v ∧
                w5.frozen? ⟨w.heap.size + 3, 5, none⟩ = false ∧ w5.cell? ⟨w.heap.size + 3, 5, none⟩ = some v ∧
                Hid (PutAt S w op t vk vn vs (w5.setCell ⟨w.heap.size + 3, 5, none⟩ (.slice A5 m5 c5)) (.slice A5 m5 c5) ((ks.map (Ex.put n (.node o2 t2 k2 n2 s2 l2))).take (i + 1)) ∧ Whole (w5.setCell ⟨w.heap.size + 3, 5, none⟩ (.slice A5 m5 c5)) w.heap.size 26 #[.int .i64 op, .string (tx t), .int .i64 vk, .int .i64 vn, .string (tx vs), .slice A ks.length c] ∧ Whole (w5.setCell ⟨w.heap.size + 3, 5, none⟩ (.slice A5 m5 c5)) (w.heap.size + 1) 26 #[.int .i64 o2, .string (tx t2), .int .i64 k2, .int .i64 n2, .string (tx s2), .slice A2 l2.length d2] ∧ Whole (w5.setCell ⟨w.heap.size + 3, 5, none⟩ (.slice A5 m5 c5)) (w.heap.size + 1 + 1) 26 #[.int .i64 0, .string (tx []), .int .i64 0, .int .i64 0, .string (tx []), .slice none 0 0]) := by
              have hci := count_lt (op := op) (t := t) (vk := vk) (vn := vn) (vs := vs) (List.getElem_mem hlt)
              rw [Ex.count] at hci
              have hz := PA.out.below.size
              refine (IH.out ks[i] (by have := HCNT.out; omega) (by have := HCNT.out; omega) _ A2 d2 wr.drew (hnv.below (Below.refl _ _).drew) hd2 ((HL2.out.moved fun k hk _ => ⟨PA.out.below.block k (hS k hk), hk⟩).below (Below.refl _ _).drew) (fun k hk => by have := hS k hk; show k < wr.heap.size; omega)).mono ?_
              rintro e w3 ⟨u, rfl, hu, hb3⟩
              obtain ⟨y, hy⟩ : ∃ y, Ex.put n (.node o2 t2 k2 n2 s2 l2) ks[i] = y := ⟨_, rfl⟩
              rw [hy] at hu
              cases y with
              | node o3 t3 k3 n3 s3 l3 =>
              obtain ⟨A3, c3, rfl, hc3, hk3⟩ := hu
              obtain ⟨v', w5, hrun, hf5, hc5, hP, hrest⟩ := PA.out.step hS (by rw [hdl]; omega) (bdrew1 hb3) hc3 hk3
              obtain ⟨A5, c5, hv5, -⟩ := hP.row.src
              obtain ⟨m5, hm5⟩ : ∃ m5, (List.take i (List.map (Ex.put n (Tree.node o2 t2 k2 n2 s2 l2)) ks) ++ [Tree.node o3 t3 k3 n3 s3 l3]).length = m5 := ⟨_, rfl⟩
              rw [hm5] at hv5
              subst hv5
              have hO3 := PA.out.out.below (bdrew1 hb3) PA.out.out.lt
              have h03 := H0.out.below (bdrew1 hb3) H0.out.lt
              refine ⟨o3, t3, k3, n3, s3, A3, l3.length, c3, A5, m5, c5, w5, rfl, hO3.cell 5, hrun, (hO3.alloc _).cell 5, hf5, hc5, Lib.hid ⟨?_, ?_, ?_, ?_⟩⟩
              · rw [List.take_succ_eq_append_getElem (by rw [List.length_map]; exact hlt), List.getElem_map, hy]
                exact hP
              · exact (hrest _ H0.out.lt (by omega)).trans H0.out
              · exact (hrest _ H1.out.lt (by omega)).trans H1.out
              · exact (hrest _ H2.out.lt (by omega)).trans H2.out
            have CALL := Lib.hid call
            obtain ⟨e0, e1, e2, e3, e4, e5⟩ := six_of H0.out
            obtain ⟨f0, f1, f2, f3, f4, f5⟩ := six_of H1.out
            have g5 : wr.cell? ⟨w.heap.size + 3, 5, none⟩ = some v := PA.out.out.cell 5
            subst hA
            clear call hnv hx hdl
            go_wp2_with fail
            go_region_law (first
              | (refine step_call_any rfl 20 #[.agg #[.int .i64 op', .string (tx t'), .int .i64 vk', .int .i64 vn', .string (tx vs'), .slice B' l'.length n'], .string (tx n), .agg #[.int .i64 o2, .string (tx t2), .int .i64 k2, .int .i64 n2, .string (tx s2), .slice A2 l2.length d2]] ?h1 CALL.out ?_; (case h1 => kernel_rfl); rintro e w3 ⟨o3, t3, k3, n3, s3, A3, m3, c3, A5, m5, c5, w5, rfl, r5, RUN, r6, r7, r8, FIN⟩; refine ⟨_, rfl, ?_⟩)
              | (refine step_append_runI rfl _ _ 24 24 rfl _ _ ?h3 ?h4 RUN ?_; (case h3 => rfl); (case h4 => rfl)))
            all_goals
              obtain ⟨J1, J2, J3, J4⟩ := FIN.out
              have J1 := Lib.hid J1
              have J2 := Lib.hid J2
              have J3 := Lib.hid J3
              have J4 := Lib.hid J4
              clear r5 RUN r6 r7 r8 FIN e0 e1 e2 e3 e4 e5 f0 f1 f2 f3 f4 f5 g5 q0 q1 q2 q3 q4 q5 CALL
              go_wp2_with fail
              go_roundg (ks.length - i)
              case measure => omega
              case rel => exact ⟨i + 1, _, by omega, by omega, by go_num, J1, J2, J3, J4⟩
          · have hlt' : ¬ (i : Int) < (ks.length : Int) := by omega
            have hie : i = ks.length := by omega
            have hdl : ((ks.map (Ex.put n (.node o2 t2 k2 n2 s2 l2))).take i).length = ks.length := by rw [List.length_take, List.length_map]; omega
            have htk : (ks.map (Ex.put n (.node o2 t2 k2 n2 s2 l2))).take i = ks.map (Ex.put n (.node o2 t2 k2 n2 s2 l2)) := List.take_of_length_le (by rw [List.length_map]; omega)
            obtain ⟨A', c', hv', hc', hk'⟩ := PA.out.row.trees
            rw [hdl] at hv' hc'
            rw [htk] at hk'
            subst hv'
            obtain ⟨m0, m1, m2, m3, m4, m5⟩ := six_of PA.out.out
            obtain ⟨e0, e1, e2, e3, e4, e5⟩ := six_of H0.out
            obtain ⟨x0, x1, x2, x3, x4, x5⟩ := six_of H2.out
            obtain ⟨y0, y1, y2, y3, y4, y5⟩ := frozen6 H2.out
            have hT := set6Z_touch wr (w.heap.size + 1 + 1) (.int .i64 op) (.string (tx t)) (.int .i64 vk) (.int .i64 vn) (.string (tx vs)) (.slice A' ks.length c')
            have FIN := Lib.hid (set6Z_whole H2.out (.int .i64 op) (.string (tx t)) (.int .i64 vk) (.int .i64 vn) (.string (tx vs)) (.slice A' ks.length c'))
            have FB := Lib.hid (PA.out.below.trans (hT.below1 (B := w.heap.size) (by omega) PA.out.below.size))
            have HCC := Lib.hid hc'
            have FK : Hid (TreesIn (fun k => S k ∨ w.heap.size ≤ k) (set6Z wr (w.heap.size + 1 + 1) (.int .i64 op) (.string (tx t)) (.int .i64 vk) (.int .i64 vn) (.string (tx vs)) (.slice A' ks.length c')) A' 0 (ks.map (Ex.put n (.node o2 t2 k2 n2 s2 l2)))) := Lib.hid (hk'.moved fun k hk hlt => by
              have h1 : (S k ∨ w.heap.size ≤ k) ∧ k ≠ w.heap.size + 1 + 1 := by
                rcases hk with (hk | hk) | hk
                · exact ⟨.inl hk, by have := hS k hk; omega⟩
                · exact ⟨.inr (by omega), by have := hk.1; omega⟩
                · exact ⟨.inr (by omega), by omega⟩
              exact ⟨hT.block k hlt (by simpa using h1.2), h1.1⟩)
            clear hT hk' hdl htk
            go_wp2_with fail
            refine bodyPost_ret (results_cell_row rfl _ _ (w.heap.size + 1 + 1) _ _ _ _ rfl FIN.out Tryz.underlying26 rfl sizeExpr) rfl ⟨_, rfl, ?_, FB.out⟩
            rw [FP.out]
            exact ⟨A', c', by rw [List.length_map], by rw [List.length_map]; exact HCC.out, FK.out⟩
end Go.Proofs.YtbpknainmefidaaGreatDoor
