import Derived.Test.YtcboakmfabdeoaaM4
import Derived.RangeFuncKeeps
import Derived.RangeFuncBound
import Derived.RangeFuncLeaves
import Derived.Shelf.Abstract
import Derived.OwnWalkIn
import Derived.TacticsInMore
import Derived.RangeFuncBox
import Derived.StillTailTactics
import Derived.Maps.AppendAt

/- A law for a range over a function whose iterator writes variables of its own: the blocks that it turns are told by a test on what they hold. -/
namespace Go.Proofs.Ytcboakmfabdeoaa
open Go.RowKit Go.Shelf

/-- a variable of type int in a block of its own. -/
def IntBox (o : Obj) : Prop := ∃ cs, o = .cells cs 3 (0, 0)

def AbidesB {β : Type} (B : Nat) (J : β → World → Prop) : Prop := ∀ s W W' row, J s W → W.grownBy W' row → (∀ r, row = some r → B ≤ r ∧ ∃ o : Obj, W.heap[r]? = some o ∧ IntBox o) → J s W'
def OwnB {β : Type} (B : Nat) (I : β → World → Prop) : Prop := ∀ s W W' row, I s W → W.grownBy W' row → (∀ r, row = some r → B ≤ r ∧ ∃ o : Obj, W.heap[r]? = some o ∧ (o.isCells = false ∨ IntBox o)) → I s W'

theorem OwnB.own {β : Type} {B : Nat} {I : β → World → Prop} (h : OwnB B I) : OwnFrom B I := fun s W W' row hs hg hr => h s W W' row hs hg (fun r e => let ⟨c, o, a, b⟩ := hr r e; ⟨c, o, a, .inl b⟩)

theorem intBox_keeps {W W' : World} {row : Option Nat} (hg : W.grownBy W' row) (hrow : ∀ r, row = some r → ∃ o : Obj, W.heap[r]? = some o ∧ IntBox o)
    {k : Nat} {o : Obj} (hk : W.heap[k]? = some o) (hw : o.isCells = false) : W'.heap[k]? = W.heap[k]? := by
  refine hg.block k (Array.getElem?_eq_some_iff.1 hk).1 ?_
  intro e
  obtain ⟨o', ho', cs, rfl⟩ := hrow k e.symm
  rw [hk] at ho'; cases ho'; simp [Obj.isCells] at hw

def SeqB {α : Type} (F : Fence) (n : Nat) (P : Program) (g : Nat) (lb : Array Value) (encs : α → Array Value) (Kp : World → World → Prop) (S : List α → Prop) (N : Nat) (w : World) : Prop :=
  ∀ (l : Nat) (J : List α → World → Prop) (W : World), Below w.heap.size w W → AbidesB W.heap.size J →
    (∀ pre x W1, J pre W1 → pre.length < N → YieldAt F (n - 1) P l (encs x) W1 fun e W' => e = .returned (.bool true) ∧ J (pre ++ [x]) W' ∧ Kp W1 W') →
    J [] W →
    CallsIn F n P g (#[.func (.yield l) #[] #[]] ++ lb) W fun e W' => (∃ v, e = .returned v) ∧ ∃ xs, S xs ∧ J xs W'

variable {F : Fence} {n : Nat} {P : Program}

theorem wpIn_rangeFunc_B {α : Type} {g : Operand} {ps : Array Tmp} {assign body : Code} {Q : Exit → Act → World → Prop} {a : Act} {w : World}
    (hro : F.round = none) (h1 : 1 ≤ n) {gf : Nat} {lb : Array Value} (hg : a.eval g = .func (.func gf) #[] lb) (hFg : F.fn gf) (eg : ∀ args w, (callFunc gf args).run P w = .ok (.enter gf args) w)
    {encs : α → Array Value} {Kp : World → World → Prop} {S : List α → Prop} {N : Nat} {w0 : World} (hseq : SeqB F (n - 1) P gf lb encs Kp S N w0)
    (hKt : ∀ {A B C : World}, Kp A B → Kp B C → Kp A C) (hKb : ∀ (W : World) (l : Nat) (o o' : Obj), W.heap[l]? = some o → o.isCells = false → Kp W (W.putObj l o')) (hb0 : Below w0.heap.size w0 w) (hps : ∀ x, (encs x).size = ps.size)
    (I : List α → World → Prop) (hI : OwnB w.heap.size I) (h0 : I [] w) (a₁ : α → Act)
    (hassign : ∀ (l : Nat) (x : α) (W : World) (K : Act → World → Prop), K (a₁ x) W →
      assign.wpIn (F.inRound l) (n - 1 - 1) P (Exit.then K (fun _ _ _ => False)) { tmps := (ps.zip (encs x)).foldl (fun t (p, v) => t.setIfInBounds p v) a.tmps, defers := [] } W)
    (hbody : ∀ (l : Nat) (pre : List α) (x : α) (W : World), I pre W → pre.length < N → body.wpIn (F.inRound l) (n - 1 - 1) P (fun e _ W' => e = .normal ∧ KeepsOthers W W' ∧ Kp W W' ∧ I (pre ++ [x]) W') (a₁ x) W)
    (hdone : ∀ (D : Nat) (xs : List α) (W : World), S xs → I xs W → W.heap[D]? = some (.deferred (some [])) → w.heap.size ≤ D → Q .normal { a with defers := { target := .collected D, args := #[] } :: a.defers } W) :
    (Code.rangeFunc g ps assign body).wpIn F n P Q a w := by
  refine wpIn_rangeFunc ?_
  intro fn hfn
  rw [hro]
  obtain ⟨rec, hrec⟩ : ∃ rec : LoopState → Option Code → Loop, rec = fun st pe => { state := st, pending := pe, fn, tmps := a.tmps, params := ps, assign, body, defers := w.heap.size } := ⟨_, rfl⟩
  obtain ⟨W1, hW1⟩ : ∃ W1, (w.alloc (.deferred (some []))).alloc (.loop (rec .ready none)) = W1 := ⟨_, rfl⟩
  have hO := hI.own
  have hL1 : W1.heap[w.heap.size + 1]? = some (.loop (rec .ready none)) := by
    rw [← hW1]; have := World.alloc_heap_new (w.alloc (.deferred (some []))) (.loop (rec .ready none)); rwa [World.size_alloc] at this
  have hK1 : W1.heap[w.heap.size]? = some (.deferred (some [])) := by
    rw [← hW1]; exact (Below.heap_alloc _ _ _ (by simp)).trans (World.alloc_heap_new w _)
  have hsz : w.heap.size ≤ W1.heap.size := by rw [← hW1]; simp; omega
  have hI1 : I [] W1 := by rw [← hW1]; exact hO.alloc _ (hO.alloc _ h0)
  have hb1 : Below w0.heap.size w0 W1 := by
    rw [← hW1]; exact hb0.trans ((((Below.refl _ w).alloc (Nat.le_refl _) _).alloc (by simp) _).mono hb0.size)
  refine ⟨w.heap.size + 1, [{ target := .collected w.heap.size, args := #[] }], W1, { target := .fn (.func gf) lb, args := #[.func (.yield (w.heap.size + 1)) #[] #[]] }, W1, gf,
    #[.func (.yield (w.heap.size + 1)) #[] #[]] ++ lb, W1, ?_, ?_, ?_, ?_, fun _ => h1, ?_⟩
  · rw [← hW1, hrec]; exact run_enterLoop_outer _ _ _ _ _
  · simp only [resolve, hg]
    simp [go_sem]
  · intro f' hf'; simp [Target.leads] at hf'; subst hf'; exact hFg
  · simp [invoke, go_sem, eg]
  · refine (hseq (w.heap.size + 1)
      (fun pre W => I pre W ∧ W.heap[w.heap.size + 1]? = some (.loop (rec .ready none)) ∧ W.heap[w.heap.size]? = some (.deferred (some [])))
      W1 hb1
      (fun s A B row hs hg' hr => ⟨hI s A B row hs.1 hg' (fun r e => let ⟨c, o, p, q⟩ := hr r e; ⟨Nat.le_trans hsz c, o, p, .inr q⟩), (intBox_keeps hg' (fun r e => (hr r e).2) hs.2.1 rfl).trans hs.2.1, (intBox_keeps hg' (fun r e => (hr r e).2) hs.2.2 rfl).trans hs.2.2⟩)
      ?_ ⟨hI1, hL1, hK1⟩).mono ?_
    · rintro pre x W ⟨hi, hl, hk⟩ hlen
      have hlt : w.heap.size + 1 < W.heap.size := (Array.getElem?_eq_some_iff.1 hl).1
      have hy := run_yield (P := P) (args := encs x) hl (by rw [hrec]; exact hps x)
      rw [hrec] at hy
      refine ⟨fn, _, assign, body, hy, roundIn_of_wpIn hfn (hassign _ x W _ ⟨_, run_beginRound hl (by rw [hrec]), ?_⟩)⟩
      have hl2 : (W.putObj (w.heap.size + 1) (.loop { rec .ready none with state := .busy })).heap[w.heap.size + 1]? = some (.loop { rec .ready none with state := .busy }) := World.putObj_heap_same hlt
      have hk2 : (W.putObj (w.heap.size + 1) (.loop { rec .ready none with state := .busy })).heap[w.heap.size]? = some (.deferred (some [])) := (World.putObj_heap_other (by omega)).trans hk
      have hw2 : Kp W (W.putObj (w.heap.size + 1) (.loop { rec .ready none with state := .busy })) := hKb _ _ _ _ hl rfl
      refine wpIn_mono (hbody _ pre x _ (hO.putObj _ hi (by omega) hl rfl) hlen) ?_
      rintro e a3 W3 ⟨rfl, hk3, hkp3, hi3⟩
      have hl3 := hk3.same _ _ hl2 rfl
      have hr := run_endRound (P := P) none hl3
      rw [hrec] at hr
      have hl4 : (W3.putObj (w.heap.size + 1) (.loop (rec .ready none))).heap[w.heap.size + 1]? = some (.loop (rec .ready none)) := World.putObj_heap_same (Array.getElem?_eq_some_iff.1 hl3).1
      have hk4 : (W3.putObj (w.heap.size + 1) (.loop (rec .ready none))).heap[w.heap.size]? = some (.deferred (some [])) := (World.putObj_heap_other (by omega)).trans (hk3.same _ _ hk2 rfl)
      rw [hrec] at hl4 hk4
      refine ⟨_, _, hr, rfl, ⟨hO.putObj _ hi3 (by omega) hl3 rfl, ?_, ?_⟩, hKt (hKt hw2 hkp3) (hKb _ _ _ _ hl3 rfl)⟩
      · rw [hrec]; exact hl4
      · exact hk4
    · rintro e W2 ⟨⟨v, rfl⟩, xs, hS, hi, hl, hk⟩
      exact ⟨none, _, by have := run_endLoop (P := P) hl (by rw [hrec]; simp); rw [hrec] at this; exact this, hdone _ xs _ hS (hO.putObj _ hi (by omega) hl rfl) ((World.putObj_heap_other (by omega)).trans hk) (Nat.le_refl _)⟩
end Go.Proofs.Ytcboakmfabdeoaa

/- The iterator over a leaf's pairs: the closure that counts, the walk, the iterator. -/
namespace Go.Proofs.Ytcboakmfabdeoaa
open Go.RowKit Go.Shelf

attribute [local go_sem] Oper.semAt_some

theorem room_of_none {F : Fence} (hd : F.depth = none) (k : Nat) : F.room k := fun d h => by rw [hd] at h; cases h
theorem RoundIn.anyDepth {F : Fence} (hd : F.depth = none) {m m' : Nat} {P : Program} {l : Nat} {f : FuncId} {tmps : Array Value} {assign body : Code} {w : World} {R : Ending → World → Prop}
    (h : RoundIn F m P l f tmps assign body w R) : RoundIn F m' P l f tmps assign body w R := ⟨h.1, fun c cs _ => h.2 c cs (room_of_none hd _)⟩
theorem YieldAt.anyDepth {F : Fence} (hd : F.depth = none) {m : Nat} (m' : Nat) {P : Program} {l : Nat} {args : Array Value} {W : World} {R : Ending → World → Prop} (h : YieldAt F m P l args W R) : YieldAt F m' P l args W R := by
  obtain ⟨fn, tmps, assign, body, hy, hR⟩ := h
  exact ⟨fn, tmps, assign, body, hy, RoundIn.anyDepth hd hR⟩

abbrev encs2 (x : Pr) : Array Value := #[.int .i64 x.1, .string x.2]

/-- What a round keeps: every block of cells that is neither a row of int64 nor a variable of type []int64 (nor a row of strings, nor a variable of that type). -/
def KeepT (W W' : World) : Prop := W.heap.size ≤ W'.heap.size ∧ ∀ (b : Nat) (cs : Array Value) (ty : TypeId), W.heap[b]? = some (.cells cs ty (0, 0)) → ty ≠ 2 → ty ≠ 47 → ty ≠ 9 → ty ≠ 49 → W'.heap[b]? = W.heap[b]?

theorem KeepT.refl (W : World) : KeepT W W := ⟨Nat.le_refl _, fun _ _ _ _ _ _ _ _ => rfl⟩
theorem KeepT.trans {A B C : World} (h : KeepT A B) (k : KeepT B C) : KeepT A C :=
  ⟨Nat.le_trans h.1 k.1, fun b cs ty hb h1 h2 h3 h4 => (k.2 b cs ty ((h.2 b cs ty hb h1 h2 h3 h4).trans hb) h1 h2 h3 h4).trans (h.2 b cs ty hb h1 h2 h3 h4)⟩
theorem KeepT.putObj (W : World) (l : Nat) (o o' : Obj) (hl : W.heap[l]? = some o) (ho : o.isCells = false) : KeepT W (W.putObj l o') :=
  ⟨by simp, fun b cs ty hb _ _ _ _ => World.putObj_heap_other (fun e => by subst e; rw [hl] at hb; cases hb; simp [Obj.isCells] at ho)⟩

set_option maxHeartbeats 1000000 in
theorem from11_in (F : Fence) (hd : F.depth = none) (n : Nat) (h55 : F.fn 55) (hro : F.round = none) (l L Y : Nat) (J : List Pr → World → Prop) (B : Nat) (hJa : AbidesB B J) (hBL : B ≤ L)
    (N : Nat) (hY : ∀ m pre x W, J pre W → pre.length < N → YieldAt F m Try.prog l (encs2 x) W fun e W' => e = .returned (.bool true) ∧ J (pre ++ [x]) W' ∧ KeepT W W')
    (k : Int) (s : ByteArray) (c : Nat) (hc : 1 ≤ c) (hc2 : c ≤ 9223372036854775807) (pre : List Pr) (W : World) (hL : W.heap[L]? = some (.cells #[.int .i64 c] 3 (0, 0))) (hYb : W.heap[Y]? = some (.cells #[.func (.yield l) #[] #[]] 86 (0, 0))) (h0 : J pre W) (hlen : pre.length < N) :
    CallsIn F n Try.prog 55 #[.int .i64 k, .string s, .pointer (some ⟨L, 0, none⟩), .pointer (some ⟨Y, 0, none⟩)] W fun e W' =>
      e = .returned (.bool (decide (1 < c))) ∧ J (pre ++ [(k, s)]) W' ∧ W'.heap[L]? = some (.cells #[.int .i64 (c - 1 : Nat)] 3 (0, 0)) ∧ KeepT (W.setCell ⟨L, 0, none⟩ (.int .i64 (c - 1 : Nat))) W' := by
  refine callsIn_of_wp Try.func55 rfl h55 ?_ hro
  simp only [Try.ntmps55, List.size_toArray, List.length_cons, List.length_nil, Nat.reduceAdd, Nat.reduceSub, Array.replicate_succ, Array.replicate_zero, List.push_toArray, List.append_toArray, List.nil_append, List.cons_append]
  have l0 : W.cell? ⟨L, 0, none⟩ = some (.int .i64 c) := cell_of_row W L 0 _ _ _ hL
  have lf : W.frozen? ⟨L, 0, none⟩ = false := by simp [World.frozen?, hL]
  have hLY : Y ≠ L := by rintro rfl; rw [hL] at hYb; simp at hYb
  obtain ⟨W1, hW1⟩ : ∃ W1, W1 = W.setCell ⟨L, 0, none⟩ (.int .i64 ((c - 1 : Nat) : Int)) := ⟨_, rfl⟩
  have hL1 : W1.heap[L]? = some (.cells #[.int .i64 ((c - 1 : Nat) : Int)] 3 (0, 0)) := by rw [hW1]; exact heap_setCell_same W L 0 _ _ _ hL
  have hY1 : W1.heap[Y]? = some (.cells #[.func (.yield l) #[] #[]] 86 (0, 0)) := by rw [hW1, heap_setCell_other W _ Y _ hLY]; exact hYb
  have hJ1 : J pre W1 := hJa pre W W1 (some L) h0 (by rw [hW1]; exact ⟨rfl, rfl, rfl, by simp, fun k _ hk => heap_setCell_other W _ k _ (fun e => hk (by rw [e]))⟩) (fun r e => by cases e; exact ⟨hBL, _, hL, _, rfl⟩)
  have y1 : W1.cell? ⟨Y, 0, none⟩ = some (.func (.yield l) #[] #[]) := cell_of_row W1 Y 0 _ _ _ hY1
  have hcast : ((c - 1 : Nat) : Int) = (c : Int) - 1 := by omega
  have hw1 : W.setCell ⟨L, 0, none⟩ (.int .i64 ((c : Int) - 1)) = W1 := by rw [hW1, hcast]
  rw [← hW1]
  obtain ⟨fn, tmps, assign, body, hy, hR⟩ := hY (n - 1) pre (k, s) W1 hJ1 hlen
  dsimp only [encs2] at hy
  have HL1 := Lib.hid hL1
  have HC := Lib.hid hcast
  clear hL hYb hW1 hL1 hY1 hJ1 h0 hY hcast
  have hdd : ∀ k : Nat, (F.depth.isSome = true → 1 ≤ k) := fun k h => by rw [hd] at h; cases h
  gi_wp2_with fail
  refine hR.mono ?_
  rintro e W2 ⟨rfl, hJ2, hK2⟩
  have l2h : W2.heap[L]? = some (.cells #[.int .i64 ((c - 1 : Nat) : Int)] 3 (0, 0)) := (hK2.2 L _ 3 HL1.out (by decide) (by decide) (by decide) (by decide)).trans HL1.out
  have l2 : W2.cell? ⟨L, 0, none⟩ = some (.int .i64 ((c : Int) - 1)) := by rw [← HC.out]; exact cell_of_row W2 L 0 _ _ _ l2h
  have FIN : Hid (J (pre ++ [(k, s)]) W2 ∧ W2.heap[L]? = some (.cells #[.int .i64 ((c - 1 : Nat) : Int)] 3 (0, 0)) ∧ KeepT W1 W2) := ⟨hJ2, l2h, hK2⟩
  clear hJ2 hK2 l2h hy hR hw1 y1 l0 lf
  by_cases hc1 : 1 < c
  · gi_wp2_with fail
    go_ret
    exact ⟨by simp; omega, FIN.out⟩
  · gi_wp2_with fail
    go_ret
    exact ⟨by simp; omega, FIN.out⟩
theorem KeepT.rec {W W' : World} (h : KeepT W W') {p : Nat} {vp vk : Value} {n : Nat} (hr : Rec W p vp vk n) : Rec W' p vp vk n := (h.2 p _ 68 hr (by decide) (by decide) (by decide) (by decide)).trans hr
theorem KeepT.prow {W W' : World} (h : KeepT W W') {v : Value} {l : List Pr} (hr : PRow W v l) : PRow W' v l := ownsRow_of_heap hr fun b hb => by
  rcases hr.cases with ⟨rfl, _⟩ | ⟨g, cap, cur, rfl, hg, _⟩
  · cases hb
  · have : g = b := by simpa [Value.ownBlock] using hb
    subst this
    exact h.2 g cur 61 hg (by decide) (by decide) (by decide) (by decide)
theorem KeepT.setInt {W : World} {L : Nat} {cs : Array Value} (hL : W.heap[L]? = some (.cells cs 3 (0, 0))) (v : Value) {p : Nat} {cs2 : Array Value} {ty : TypeId} (hp : W.heap[p]? = some (.cells cs2 ty (0, 0))) (ht : ty ≠ 3) : (W.setCell ⟨L, 0, none⟩ v).heap[p]? = W.heap[p]? :=
  heap_setCell_other W _ p _ (fun e => by have e2 : p = L := e; subst e2; rw [hL] at hp; simp at hp; exact ht hp.2.symm)

theorem from11 (l L Y : Nat) (J : List Pr → World → Prop) (B : Nat) (hJa : AbidesB B J) (hBL : B ≤ L)
    (N : Nat) (hY : ∀ m pre x W, J pre W → pre.length < N → YieldAt Fence.wide m Try.prog l (encs2 x) W fun e W' => e = .returned (.bool true) ∧ J (pre ++ [x]) W' ∧ KeepT W W')
    (k : Int) (s : ByteArray) (c : Nat) (hc : 1 ≤ c) (hc2 : c ≤ 9223372036854775807) (pre : List Pr) (W : World) (hL : W.heap[L]? = some (.cells #[.int .i64 c] 3 (0, 0))) (hYb : W.heap[Y]? = some (.cells #[.func (.yield l) #[] #[]] 86 (0, 0))) (h0 : J pre W) (hlen : pre.length < N) :
    Calls Try.prog 55 #[.int .i64 k, .string s, .pointer (some ⟨L, 0, none⟩), .pointer (some ⟨Y, 0, none⟩)] W fun e W' =>
      e = .returned (.bool (decide (1 < c))) ∧ J (pre ++ [(k, s)]) W' ∧ W'.heap[L]? = some (.cells #[.int .i64 (c - 1 : Nat)] 3 (0, 0)) ∧ KeepT (W.setCell ⟨L, 0, none⟩ (.int .i64 (c - 1 : Nat))) W' :=
  callsIn_wide.1 (from11_in Fence.wide rfl 0 trivial rfl l L Y J B hJa hBL N hY k s c hc hc2 pre W hL hYb h0 hlen)

set_option maxHeartbeats 1000000 in
set_option maxRecDepth 100000 in
theorem walk_leaf (t l L Y : Nat) (J : List Pr → World → Prop) (B : Nat) (hJa : AbidesB B J) (hBL : B ≤ L)
    (N : Nat) (hY : ∀ m pre x W, J pre W → pre.length < N → YieldAt Fence.wide m Try.prog l (encs2 x) W fun e W' => e = .returned (.bool true) ∧ J (pre ++ [x]) W' ∧ KeepT W W')
    (x : Kid) (k : Int) (c : Nat) (hc : 1 ≤ c) (hc2 : c ≤ 9223372036854775807) (pre : List Pr) (W : World) (hx : IsT t W 0 x) (hs : Rising x.l) (hn : x.l.length ≤ 1000)
    (hL : W.heap[L]? = some (.cells #[.int .i64 c] 3 (0, 0))) (hYb : W.heap[Y]? = some (.cells #[.func (.yield l) #[] #[]] 86 (0, 0))) (h0 : J pre W) (hNN : pre.length + x.l.length ≤ N) :
    Calls Try.prog 54 #[.pointer (some ⟨x.p, 0, none⟩), .int .i64 k, .func (.func 55) #[] #[.pointer (some ⟨L, 0, none⟩), .pointer (some ⟨Y, 0, none⟩)]] W fun e W' =>
      (∃ b, e = .returned (.bool b)) ∧ J (pre ++ (x.l.drop (pos x.l k)).take c) W' := by
  obtain ⟨vl, r1, r2, r3, r4⟩ := hx
  obtain ⟨hb, hhb⟩ : ∃ hb, hasB x.l k = hb := ⟨_, rfl⟩
  have c1 := r1.c1
  have HS := Lib.hid hs
  have HH := Lib.hid hhb
  have hp := pos_le x.l k
  clear hs hhb
  go_enter Try.func54, Try.ntmps54
  go_wp2_with fail
  refine (place_at x.p vl _ _ x.l k hb _ r1 r2 HS.out (by omega) HH.out).mono ?_
  rintro e W1 ⟨rfl, hb1⟩
  have c1' := (hb1.cell (p := ⟨x.p, 1, none⟩) (World.block_lt_of_cell? W _ c1)).trans c1
  have hJ1 : J pre W1 := hJa pre W W1 none h0 ⟨hb1.os, hb1.tape, hb1.output, hb1.size, fun k hk _ => hb1.block k hk⟩ (fun r e => by cases e)
  have ok1 : Rec W1 x.p vl (.slice none 0 0) x.l.length ∧ PRow W1 vl x.l ∧ W1.heap[Y]? = some (.cells #[.func (.yield l) #[] #[]] 86 (0, 0)) ∧ W1.heap[L]? = some (.cells #[.int .i64 c] 3 (0, 0)) :=
    ⟨(hb1.block _ (Array.getElem?_eq_some_iff.1 r1).1).trans r1, ownsRow_of_heap r2 (fun b hb => hb1.block b (r2.lt hb)), (hb1.block _ (Array.getElem?_eq_some_iff.1 hYb).1).trans hYb, (hb1.block _ (Array.getElem?_eq_some_iff.1 hL).1).trans hL⟩
  have OK1 := Lib.hid ok1
  have HJ1 := Lib.hid hJ1
  have HJA := Lib.hid hJa
  have HY := Lib.hid hY
  have HNN := Lib.hid hNN
  clear hNN r1 r2 r3 r4 c1 hb1 hJ1 ok1 hL hYb h0 hJa hY
  generalize hpp : pos x.l k = q at *
  have HQ := Lib.hid hpp
  clear hpp
  go_wp2_with fail
  refine (leaf_yes x.p 0 none _ c1').mono ?_
  rintro e w' ⟨rfl, rfl⟩
  obtain ⟨a, na, ca, hvl, hna⟩ : ∃ a n c, vl = .slice a n c ∧ n = x.l.length := by
    rcases OK1.out.2.1.cases with ⟨h, h2⟩ | ⟨g, cap, cur, h, _⟩
    · exact ⟨none, 0, 0, h, by rw [h2]; rfl⟩
    · exact ⟨_, _, _, h, rfl⟩
  subst hvl
  have HNA := Lib.hid hna
  have hnb : na ≤ 1000 := by omega
  have hqa : q ≤ na := by omega
  clear hna hp
  go_wp2_with fail
  go_loopw [7] (fun s7 wr => ∃ (j : Nat) (c' : Nat), s7 = .int .i64 j ∧ q ≤ j ∧ j ≤ na ∧ 1 ≤ c' ∧ c' ≤ c ∧ Hid (c' + (j - q) = c) ∧ Hid (J (pre ++ (x.l.drop q).take (j - q)) wr) ∧
      Hid (Rec wr x.p (.slice a na ca) (.slice none 0 0) x.l.length ∧ PRow wr (.slice a na ca) x.l ∧ wr.heap[Y]? = some (.cells #[.func (.yield l) #[] #[]] 86 (0, 0)) ∧ wr.heap[L]? = some (.cells #[.int .i64 c'] 3 (0, 0))))
    (fun s7 _ => na - (intOf s7).toNat)
  case atStart => exact ⟨q, c, rfl, Nat.le_refl _, hqa, hc, Nat.le_refl _, (by omega : c + (q - q) = c), (by rw [Nat.sub_self]; simpa using HJ1.out : J (pre ++ (x.l.drop q).take (q - q)) _), OK1.out⟩
  case round =>
    clear OK1 HJ1 c1'
    obtain ⟨j, c', rfl, hqj, hjn, hc1, hcc, HC, HJ, OK⟩ := hrel
    have c0 := OK.out.1.c0
    have c1 := OK.out.1.c1
    by_cases hlt : j < na
    · obtain ⟨g, cap, e1, e2⟩ : ∃ g cap, (Value.slice a na ca) = .slice (some ⟨g, 0, none⟩) na cap ∧ RowP wr g x.l := by
        rcases OK.out.2.1.cases with ⟨h, h2⟩ | ⟨g, cap, cur, h, _⟩
        · have := HNA.out; rw [h2] at this; simp at this; omega
        · have hr := OK.out.2.1
          rw [h] at hr
          exact ⟨g, cap, by rw [h, ← HNA.out], hr.row⟩
      simp only [Value.slice.injEq, true_and] at e1
      obtain ⟨rfl, rfl⟩ := e1
      obtain ⟨pr, hpr, k1, k2⟩ := e2.getAt j (by have := HNA.out; omega)
      have HPR := Lib.hid hpr
      clear e2 hpr
      have hN : c' ≤ 9223372036854775807 := by omega
      have call := from11 l L Y J B HJA.out hBL N HY.out pr.1 pr.2 c' hc1 hN (pre ++ (x.l.drop q).take (j - q)) wr.drew OK.out.2.2.2 OK.out.2.2.1
        (HJA.out _ wr wr.drew none HJ.out ⟨rfl, rfl, rfl, Nat.le_refl _, fun k _ _ => rfl⟩ (fun r e => by cases e)) (by have := HNA.out; have := HNN.out; rw [List.length_append, List.length_take]; omega)
      have tk : (x.l.drop q).take (j + 1 - q) = (x.l.drop q).take (j - q) ++ [pr] := by
        rw [show j + 1 - q = (j - q) + 1 by omega, List.take_add_one, List.getElem?_drop, show q + (j - q) = j by omega, HPR.out]; rfl
      have TK := Lib.hid tk
      have keep : ∀ W2, KeepT (wr.drew.setCell ⟨L, 0, none⟩ (.int .i64 (c' - 1 : Nat))) W2 → Rec W2 x.p (.slice (some ⟨g, 0, none⟩) na ca) (.slice none 0 0) x.l.length ∧ PRow W2 (.slice (some ⟨g, 0, none⟩) na ca) x.l ∧ W2.heap[Y]? = some (.cells #[.func (.yield l) #[] #[]] 86 (0, 0)) := fun W2 hK => by
        obtain ⟨o1, o2, o3, o4⟩ := OK.out
        have q1 : Rec (wr.drew.setCell ⟨L, 0, none⟩ (.int .i64 (c' - 1 : Nat))) x.p (.slice (some ⟨g, 0, none⟩) na ca) (.slice none 0 0) x.l.length := (KeepT.setInt (W := wr.drew) o4 _ o1 (by decide)).trans o1
        have q2 : PRow (wr.drew.setCell ⟨L, 0, none⟩ (.int .i64 (c' - 1 : Nat))) (.slice (some ⟨g, 0, none⟩) na ca) x.l := ownsRow_of_heap o2 fun b hb => by
          rcases o2.cases with ⟨h, _⟩ | ⟨g', cap', cur', h, hg', _⟩
          · cases h
          · simp only [Value.slice.injEq, Option.some.injEq, Addr.mk.injEq] at h
            obtain ⟨⟨rfl, _⟩, _⟩ := h
            have : g = b := by simpa [Value.ownBlock] using hb
            subst this
            exact KeepT.setInt (W := wr.drew) o4 _ hg' (by decide)
        have q3 := (KeepT.setInt (W := wr.drew) o4 (.int .i64 (c' - 1 : Nat)) o3 (by decide)).trans o3
        exact ⟨hK.rec q1, hK.prow q2, (hK.2 Y _ 86 q3 (by decide) (by decide) (by decide) (by decide)).trans q3⟩
      have KEEP := Lib.hid keep
      clear tk keep
      by_cases hc' : 1 < c'
      · rw [show decide (1 < c') = true by simpa using hc'] at call
        have CALL := Lib.hid call
        clear call
        go_wp2_with fail
        go_still_tail 17, (by kernel_rfl)
        change wpList _ _ _ _ _ wr.drew
        go_wp2_with fail
        refine CALL.out.mono ?_
        rintro e W2 ⟨rfl, h2, h3, h4⟩
        obtain ⟨o1, o2, o3⟩ := KEEP.out W2 h4
        have c1' := o1.c1
        have OK2 := Lib.hid (And.intro o1 (And.intro o2 (And.intro o3 h3)))
        have HJ2 := Lib.hid h2
        clear h2 h3 h4 o1 o2 o3 c0 c1 k1 k2
        go_wp2_with fail
        refine (leaf_yes x.p 0 none _ c1').mono ?_
        rintro e w' ⟨rfl, rfl⟩
        go_wp2_with fail
        go_roundw
        case rel =>
          refine ⟨j + 1, c' - 1, by go_num, by omega, by omega, by omega, by omega, ?_, ?_, OK2.out⟩
          · have := HC.out; show c' - 1 + (j + 1 - q) = c; omega
          · show J (pre ++ (x.l.drop q).take (j + 1 - q)) W2
            rw [TK.out, ← List.append_assoc]; exact HJ2.out
        case measure => simp [intOf]; omega
      · rw [show decide (1 < c') = false by simpa using hc'] at call
        have CALL := Lib.hid call
        clear call
        go_wp2_with fail
        go_still_tail 17, (by kernel_rfl)
        change wpList _ _ _ _ _ wr.drew
        go_wp2_with fail
        refine CALL.out.mono ?_
        rintro e W2 ⟨rfl, h2, h3, h4⟩
        have HJ2 := Lib.hid h2
        clear h2 h3 h4 c0 c1 k1 k2
        go_wp2_with fail
        go_ret
        refine ⟨⟨_, rfl⟩, ?_⟩
        have e : c = j + 1 - q := by have := HC.out; omega
        rw [HQ.out, e, TK.out, ← List.append_assoc]; exact HJ2.out
    · have hj : j = na := by omega
      have HE : Hid ((x.l.drop q).take c = (x.l.drop q).take (j - q)) := by
        show _ = _
        have h1 : (x.l.drop q).length = na - q := by rw [List.length_drop, HNA.out]
        have := HC.out
        rw [List.take_of_length_le (by omega), List.take_of_length_le (by omega)]
      clear hj
      go_wp2_with fail
      go_ret
      refine ⟨⟨_, rfl⟩, ?_⟩
      rw [HQ.out, HE.out]; exact HJ.out
end Go.Proofs.Ytcboakmfabdeoaa

/- The iterator that from gives. -/
namespace Go.Proofs.Ytcboakmfabdeoaa
open Go.RowKit Go.Shelf

/-- What the walk from a root gives, whatever body it is handed. -/
def Walks (rv : Value) (k : Int) (res : List Pr) (N : Nat) (w0 : World) : Prop :=
  ∀ (l L Y : Nat) (J : List Pr → World → Prop) (B : Nat), AbidesB B J → B ≤ L →
    (∀ m pre x W, J pre W → pre.length < N → YieldAt Fence.wide m Try.prog l (encs2 x) W fun e W' => e = .returned (.bool true) ∧ J (pre ++ [x]) W' ∧ KeepT W W') →
    ∀ (c : Nat), 1 ≤ c → c ≤ 9223372036854775807 → ∀ (W : World), Below w0.heap.size w0 W → W.heap[L]? = some (.cells #[.int .i64 c] 3 (0, 0)) → W.heap[Y]? = some (.cells #[.func (.yield l) #[] #[]] 86 (0, 0)) → J [] W →
    Calls Try.prog 54 #[rv, .int .i64 k, .func (.func 55) #[] #[.pointer (some ⟨L, 0, none⟩), .pointer (some ⟨Y, 0, none⟩)]] W fun e W' => (∃ b, e = .returned (.bool b)) ∧ J (res.take c) W'

set_option maxHeartbeats 1000000 in
set_option maxRecDepth 100000 in
theorem from1_some (mv rv : Value) (k : Int) (most : Nat) (res : List Pr) (w0 : World) (A B C : Nat) (hm : most ≤ 9223372036854775807)
    (hA : w0.cell? ⟨A, 0, none⟩ = some (.int .i64 most)) (hB : w0.cell? ⟨B, 0, none⟩ = some mv) (hC : w0.cell? ⟨C, 0, none⟩ = some (.int .i64 k))
    (htop : ∀ W, Below w0.heap.size w0 W → Calls Try.prog 28 #[mv] W fun e w' => e = .returned rv ∧ W = w') (N : Nat) (hwalk : Walks rv k res N w0) (hmp : ∃ a, mv = .pointer a) (hrp : ∃ a, rv = .pointer a)
    (l : Nat) (J : List Pr → World → Prop) (W : World) (hb : Below w0.heap.size w0 W) (hJa : AbidesB W.heap.size J)
    (hY : ∀ m pre x W1, J pre W1 → pre.length < N → YieldAt Fence.wide m Try.prog l (encs2 x) W1 fun e W' => e = .returned (.bool true) ∧ J (pre ++ [x]) W' ∧ KeepT W1 W') (h0 : J [] W) :
    Calls Try.prog 53 #[.func (.yield l) #[] #[], .pointer (some ⟨A, 0, none⟩), .pointer (some ⟨B, 0, none⟩), .pointer (some ⟨C, 0, none⟩)] W fun e W' => (∃ v, e = .returned v) ∧ J (res.take most) W' := by
  obtain ⟨ma, rfl⟩ := hmp
  obtain ⟨ra, rfl⟩ := hrp
  have a1 : W.cell? ⟨A, 0, none⟩ = some (.int .i64 most) := (hb.cell (World.block_lt_of_cell? w0 _ hA)).trans hA
  have b1 : W.cell? ⟨B, 0, none⟩ = some (.pointer ma) := (hb.cell (World.block_lt_of_cell? w0 _ hB)).trans hB
  have c1 : W.cell? ⟨C, 0, none⟩ = some (.int .i64 k) := (hb.cell (World.block_lt_of_cell? w0 _ hC)).trans hC
  have alt : A < W.heap.size := World.block_lt_of_cell? W _ a1
  have blt : B < W.heap.size := World.block_lt_of_cell? W _ b1
  have clt : C < W.heap.size := World.block_lt_of_cell? W _ c1
  have HB := Lib.hid hb
  have HJA := Lib.hid hJa
  have HY := Lib.hid hY
  have H0 := Lib.hid h0
  have HT := Lib.hid htop
  have HW := Lib.hid hwalk
  clear hb hJa hY h0 htop hwalk hA hB hC
  by_cases h1 : most < 1
  · have e : most = 0 := by omega
    have E := Lib.hid e
    clear e
    have hJ2 : J [] ((W.alloc (.cells #[.func (.yield l) #[] #[]] 86)).alloc (.cells #[.int .i64 most] 3)) :=
      HJA.out _ _ _ none (HJA.out _ _ _ none H0.out (World.grownBy_alloc W _ none) (fun r e => by cases e)) (World.grownBy_alloc _ _ none) (fun r e => by cases e)
    have HJ2 := Lib.hid hJ2
    clear hJ2
    go_enter Try.func53, Try.ntmps53
    go_wp2_with fail
    refine bodyPost_ret (results_none rfl _ _ _) rfl ⟨⟨_, rfl⟩, ?_⟩
    rw [E.out, List.take_zero]
    have h := HJ2.out
    rw [E.out] at h
    exact h
  · obtain ⟨W2, hW2⟩ : ∃ W2, W2 = (W.alloc (.cells #[.func (.yield l) #[] #[]] 86)).alloc (.cells #[.int .i64 most] 3) := ⟨_, rfl⟩
    have hJ2 : J [] W2.drew := by
      rw [hW2]
      exact HJA.out _ _ _ none (HJA.out _ _ _ none (HJA.out _ _ _ none H0.out (World.grownBy_alloc W _ none) (fun r e => by cases e)) (World.grownBy_alloc _ _ none) (fun r e => by cases e)) ⟨rfl, rfl, rfl, Nat.le_refl _, fun k _ _ => rfl⟩ (fun r e => by cases e)
    have hb2 : Below w0.heap.size w0 W2.drew := by
      rw [hW2]
      exact ((HB.out.alloc HB.out.size _).alloc (by have := HB.out.size; simp; omega) _).drew
    have hY2 : W2.drew.heap[W.heap.size]? = some (.cells #[.func (.yield l) #[] #[]] 86 (0, 0)) := by
      rw [hW2]
      exact (Below.heap_alloc _ _ _ (by simp)).trans (heap_alloc_new W _)
    have hL2 : W2.drew.heap[W.heap.size + 1]? = some (.cells #[.int .i64 most] 3 (0, 0)) := by
      rw [hW2]
      have := heap_alloc_new (W.alloc (.cells #[.func (.yield l) #[] #[]] 86)) (.cells #[.int .i64 most] 3)
      rwa [World.size_alloc] at this
    have B2 := Lib.hid hb2
    have CALL := Lib.hid (HW.out l (W.heap.size + 1) W.heap.size J W.heap.size HJA.out (by omega) HY.out most (by omega) hm W2.drew hb2 hL2 hY2 hJ2)
    have bW : Below W.heap.size W W2 := by rw [hW2]; exact ((Below.refl _ W).alloc (Nat.le_refl _) _).alloc (by simp) _
    have b2 : W2.cell? ⟨B, 0, none⟩ = some (.pointer ma) := (bW.cell (p := ⟨B, 0, none⟩) blt).trans b1
    have c2 : W2.cell? ⟨C, 0, none⟩ = some (.int .i64 k) := (bW.cell (p := ⟨C, 0, none⟩) clt).trans c1
    clear bW
    clear hJ2 hb2 hY2 hL2
    go_enter Try.func53, Try.ntmps53
    go_wp2_with fail
    rw [← hW2]
    clear hW2 a1 b1 c1
    go_region_with (first | (go_at_call 28; refine (HT.out _ ?_).mono ?_; exact B2.out; rintro e w' ⟨rfl, rfl⟩) | (go_at_call 54; refine CALL.out.mono ?_; rintro e W3 ⟨⟨b, rfl⟩, h3⟩))
    all_goals
      go_wp2
      go_end0
      exact ⟨⟨_, rfl⟩, h3⟩
set_option maxHeartbeats 400000 in
theorem walk_nil (k : Int) (f : Value) (hf : f.cells.size = 1) (W : World) (c : Array Value) (g : Nat) (hfc : f = .func (.func g) #[] c) : Calls Try.prog 54 #[.pointer none, .int .i64 k, f] W fun e W' => e = .returned (.bool true) ∧ W = W' := by
  subst hfc
  go_enter Try.func54, Try.ntmps54
  go_wp2
  go_ret
  exact ⟨rfl, rfl⟩

theorem walks_nil (k : Int) (N : Nat) (w0 : World) : Walks (.pointer none) k [] N w0 := by
  intro l L Y J B hJa hBL hY c hc hc2 W hb hL hYb h0
  refine (walk_nil k _ rfl W _ 55 rfl).mono ?_
  rintro e W' ⟨rfl, rfl⟩
  exact ⟨⟨_, rfl⟩, by simpa using h0⟩

theorem walks_leaf (t : Nat) (x : Kid) (k : Int) (w0 : World) (hx : IsT t w0 0 x) (hs : Rising x.l) (hn : x.l.length ≤ 1000) : Walks (.pointer (some ⟨x.p, 0, none⟩)) k (x.l.drop (pos x.l k)) 1000 w0 := by
  intro l L Y J B hJa hBL hY c hc hc2 W hb hL hYb h0
  have hxW : IsT t W 0 x := hx.frame fun b hbx => hb.block b (hx.lt b hbx)
  refine (walk_leaf t l L Y J B hJa hBL 1000 hY x k c hc hc2 [] W hxW hs hn hL hYb h0 (by simpa using hn)).mono ?_
  rintro e W' ⟨h1, h2⟩
  exact ⟨h1, by simpa using h2⟩
end Go.Proofs.Ytcboakmfabdeoaa

/- Keys. -/
namespace Go.Proofs.Ytcboakmfabdeoaa
open Go.RowKit Go.Shelf

attribute [local go_sem] Oper.semAt_some

set_option maxHeartbeats 400000 in
theorem from_any (a : Option Addr) (k most : Int) (w : World) : Calls Try.prog 40 #[.pointer a, .int .i64 k, .int .i64 most] w fun e w' =>
    e = .returned (.func (.func 53) #[] #[.pointer (some ⟨w.heap.size + 2, 0, none⟩), .pointer (some ⟨w.heap.size, 0, none⟩), .pointer (some ⟨w.heap.size + 1, 0, none⟩)]) ∧
    w' = ((w.alloc (.cells #[.pointer a] 24)).alloc (.cells #[.int .i64 k] 2)).alloc (.cells #[.int .i64 most] 3) := by
  go_enter Try.func40, Try.ntmps40
  go_wp2
  go_ret
  exact ⟨rfl, rfl⟩

theorem Try.info2 : (Try.prog.info? 2).map (fun i => (i.zero, i.size, i.bytes)) = some (some (.int .i64 0), 1, 8) := by kernel_rfl

def keysOf (l : List Pr) : List Value := l.map fun p => .int .i64 p.1

theorem KeepT.grown {W W' : World} {row : Option Nat} (hg : W.grownBy W' row) (hrow : ∀ r, row = some r → ∃ cs ty, W.heap[r]? = some (.cells cs ty (0, 0)) ∧ (ty = 2 ∨ ty = 47 ∨ ty = 9 ∨ ty = 49)) : KeepT W W' :=
  ⟨hg.size, fun b cs ty hb h1 h2 h3 h4 => hg.block b (Array.getElem?_eq_some_iff.1 hb).1 (fun e => by
    obtain ⟨cs', ty', h, h5⟩ := hrow b e.symm
    rw [hb] at h
    simp at h
    obtain ⟨_, rfl⟩ := h
    rcases h5 with h5 | h5 | h5 | h5
    · exact h1 h5
    · exact h2 h5
    · exact h3 h5
    · exact h4 h5)⟩

theorem PRow.rebase2 {w : World} {b : Nat} {v : Value} {n : Nat} {xs : List Value} {e : TypeId} {z : Nat} (h : w.ownsRow (b + 1) e z v n xs) : w.ownsRow b e z v n xs := by
  refine ⟨h.1, ?_⟩
  rcases h.2 with hn | ⟨g, cap, cur, h1, hb, h2⟩
  · exact .inl hn
  · exact .inr ⟨g, cap, cur, h1, by omega, h2⟩

def KeysI (w : World) (pre : List Pr) (W : World) : Prop :=
  ∃ v, W.heap[w.heap.size]? = some (.cells #[v] 47 (0, 0)) ∧ W.ownsRow (w.heap.size + 1) 2 1 v pre.length (keysOf pre) ∧ Below w.heap.size w W

theorem ownsRow_block {w : World} {base : Nat} {e : TypeId} {size : Nat} {v : Value} {n : Nat} {xs : List Value} (h : w.ownsRow base e size v n xs) {b : Nat} (hb : v.ownBlock = some b) : ∃ cs, w.heap[b]? = some (.cells cs e (0, 0)) := by
  rcases h.2 with ⟨rfl, _⟩ | ⟨g, cap, cur, rfl, _, hg, _⟩
  · cases hb
  · have : g = b := by simpa [Value.ownBlock] using hb
    subst this
    exact ⟨cur, hg⟩

theorem keysI_own (w : World) (B : Nat) (hB : w.heap.size ≤ B) : OwnB B (KeysI w) := by
  rintro pre W W' row ⟨v, h1, h2, h3⟩ hg hr
  have hne : ∀ b cs ty, W.heap[b]? = some (.cells cs ty (0, 0)) → ty ≠ 3 → some b ≠ row := fun b cs ty hb ht e => by
    obtain ⟨_, o, ho, h⟩ := hr b e.symm
    rw [hb] at ho
    cases ho
    rcases h with h | ⟨cs', h⟩
    · simp [Obj.isCells] at h
    · simp at h; exact ht h.2
  refine ⟨v, (hg.block _ (Array.getElem?_eq_some_iff.1 h1).1 (hne _ _ 47 h1 (by decide))).trans h1, ownsRow_of_heap h2 fun b hb => ?_, h3.grown hg h3.size (fun k e => Nat.le_trans hB (hr k e).1)⟩
  obtain ⟨cs, hc⟩ := ownsRow_block h2 hb
  exact hg.block b (Array.getElem?_eq_some_iff.1 hc).1 (hne b cs 2 hc (by decide))

set_option maxHeartbeats 1000000 in
set_option maxRecDepth 100000 in
theorem keys_in (a : Option Addr) (k : Int) (most : Int) (res : List Pr) (w : World) (hm : res.length ≤ 1000)
    (hseq : ∀ W, Below w.heap.size w W → ∀ A B C, W.cell? ⟨A, 0, none⟩ = some (.int .i64 most) → W.cell? ⟨B, 0, none⟩ = some (.pointer a) → W.cell? ⟨C, 0, none⟩ = some (.int .i64 k) →
      ∀ n, SeqB Fence.wide n Try.prog 53 #[.pointer (some ⟨A, 0, none⟩), .pointer (some ⟨B, 0, none⟩), .pointer (some ⟨C, 0, none⟩)] encs2 KeepT (fun xs => xs = res) 1000 W) :
    CallsIn Fence.wide 5 Try.prog 20 #[.pointer a, .int .i64 k, .int .i64 most] w fun e w' => ∃ v, e = .returned v ∧ w'.ownsRow w.heap.size 2 1 v res.length (keysOf res) ∧ Below w.heap.size w w' := by
  refine callsIn_of_wp_marks Try.func20 rfl trivial ?_ rfl
  simp only [Try.ntmps20, List.size_toArray, List.length_cons, List.length_nil, Nat.reduceAdd, Nat.reduceSub, Array.replicate_succ, Array.replicate_zero, List.push_toArray, List.append_toArray, List.nil_append, List.cons_append]
  gi_wp2_with ((try refine ⟨trivial, ?_⟩); gi_at_call 40; refine (callsIn_wide.2 (from_any a k most _)).mono ?_; rintro e w' ⟨rfl, rfl⟩)
  obtain ⟨W0, hW0⟩ : ∃ W0, W0 = (((w.alloc (.cells #[.slice none 0 0] 47)).alloc (.cells #[.pointer a] 24)).alloc (.cells #[.int .i64 k] 2)).alloc (.cells #[.int .i64 most] 3) := ⟨_, rfl⟩
  rw [← hW0]
  have b0 : Below w.heap.size w W0 := by rw [hW0]; exact ((((Below.refl _ w).alloc (Nat.le_refl _) _).alloc (by simp) _).alloc (by simp; omega) _).alloc (by simp; omega) _
  have sz0 : W0.heap.size = w.heap.size + 4 := by rw [hW0]; simp
  have l0 : W0.heap[w.heap.size]? = some (.cells #[.slice none 0 0] 47 (0, 0)) := by
    rw [hW0, Below.heap_alloc _ _ _ (by simp; omega), Below.heap_alloc _ _ _ (by simp; omega), Below.heap_alloc _ _ _ (by simp)]; exact heap_alloc_new w _
  have m0 : W0.heap[w.heap.size + 1]? = some (.cells #[.pointer a] 24 (0, 0)) := by
    rw [hW0, Below.heap_alloc _ _ _ (by simp), Below.heap_alloc _ _ _ (by simp)]
    have := heap_alloc_new (w.alloc (.cells #[.slice none 0 0] 47)) (.cells #[.pointer a] 24)
    rwa [World.size_alloc] at this
  have k0 : W0.heap[w.heap.size + 1 + 1]? = some (.cells #[.int .i64 k] 2 (0, 0)) := by
    rw [hW0, Below.heap_alloc _ _ _ (by simp)]
    have := heap_alloc_new ((w.alloc (.cells #[.slice none 0 0] 47)).alloc (.cells #[.pointer a] 24)) (.cells #[.int .i64 k] 2)
    rwa [World.size_alloc, World.size_alloc] at this
  have t0 : W0.heap[w.heap.size + 1 + 2]? = some (.cells #[.int .i64 most] 3 (0, 0)) := by
    rw [hW0]
    have := heap_alloc_new (((w.alloc (.cells #[.slice none 0 0] 47)).alloc (.cells #[.pointer a] 24)).alloc (.cells #[.int .i64 k] 2)) (.cells #[.int .i64 most] 3)
    rwa [World.size_alloc, World.size_alloc, World.size_alloc] at this
  have seq := hseq W0 b0 _ _ _ (cell_of_row W0 _ 0 _ _ _ t0) (cell_of_row W0 _ 0 _ _ _ m0) (cell_of_row W0 _ 0 _ _ _ k0)
  refine wpIn_rangeFunc_B rfl (by omega) (gf := 53) rfl trivial (enters_of Try.func53 (by kernel_rfl) rfl) (seq 4) KeepT.trans KeepT.putObj (Below.refl _ _) (fun _ => rfl)
    (KeysI w) (keysI_own w _ (by omega)) ⟨_, l0, World.ownsRow_nil _ _ _ _, b0⟩
    (fun x => { tmps := #[.pointer a, .int .i64 k, .int .i64 most, undef, undef, undef, .slice none 0 0, .pointer (some ⟨w.heap.size, 0, none⟩), .int .i64 x.1, .pointer a, .int .i64 k, .int .i64 most, .func (.func 53) #[] #[.pointer (some ⟨w.heap.size + 1 + 2, 0, none⟩), .pointer (some ⟨w.heap.size + 1, 0, none⟩), .pointer (some ⟨w.heap.size + 1 + 1, 0, none⟩)], .int .i64 x.1, .string x.2, undef, undef, undef, undef, undef], defers := [] }) ?assign ?body ?done
  case assign =>
    intro l x W K hK
    gi_wp2
    exact hK
  case body =>
    rintro l pre x W ⟨v, h1, h2, h3⟩ hlen
    have lc : W.cell? ⟨w.heap.size, 0, none⟩ = some v := cell_of_row W _ 0 _ _ _ h1
    have lf : W.frozen? ⟨w.heap.size, 0, none⟩ = false := by simp [World.frozen?, h1]
    have hrow := h2
    obtain ⟨i0, hi, hz0, hz1, hz2⟩ := info_parts Try.info2
    have hlen2 : pre.length ≤ 1000 := by omega
    have H1 := Lib.hid h1
    have H2 := Lib.hid h2
    have H3 := Lib.hid h3
    have hsz := h3.size
    have hlt : w.heap.size < W.heap.size := (Array.getElem?_eq_some_iff.1 h1).1
    clear h1 h2 h3
    gi_wp2_with (gi_at_builtin; refine wpListIn_append_own _ rfl _ _ 47 rfl (w.heap.size + 1) 2 i0 (.int .i64 0) 1 8 Try.underlying47 hi hz0 hz1 hz2 rfl (by decide) v pre.length (keysOf pre) rfl (hrow.alloc _) ⟨W.heap.size, 0, none⟩ 1 1 [.int .i64 x.1] rfl rfl (cell_one_new _ _ _) (by simp [Value.oneCell']) (by unfold maxLen; omega) (by omega) (by simp; omega) ?_; intro v' w1 hown' hgrow _; obtain ⟨g', cap', rfl⟩ := ownsRow_succ hown'; obtain ⟨hv1, hv2, hr2, hk2, hb2⟩ := Boxed.appended (B := w.heap.size) (t := 47) (n₀ := w.heap.size) H1.out (by decide) (PRow.rebase2 hrow) hsz (Nat.le_refl _) (PRow.rebase2 hown') hgrow; have hc1 := hv1.cell; have hf1 := hv1.frozen)
    have kt : KeepT W (w1.setCell ⟨w.heap.size, 0, none⟩ (.slice (some ⟨g', 0, none⟩) (pre.length + 1) cap')) := by
      refine KeepT.trans (KeepT.grown (World.grownBy_alloc W _ none) (fun r e => by cases e)) (KeepT.trans (KeepT.grown hgrow (fun r e => ?_)) (KeepT.grown (grownBy_setCell' w1 w.heap.size _) (fun r e => ?_)))
      · obtain ⟨cs, hc⟩ := ownsRow_block (hrow.alloc _) (b := r) e
        exact ⟨cs, 2, hc, .inl rfl⟩
      · cases e
        exact ⟨_, 47, hv1, .inr (.inl rfl)⟩
    refine ⟨kt, _, hv2, ?_, H3.out.trans hb2⟩
    have : (pre ++ [x]).length = pre.length + 1 := by simp
    rw [this, show keysOf (pre ++ [x]) = keysOf pre ++ [.int .i64 x.1] by simp [keysOf]]
    exact ownsRow_of_heap hown' fun b hb => heap_setCell_other w1 _ b _ (fun e => by have h1 := (hown'.lt b hb).1; have e2 : b = w.heap.size := e; omega)
  case done =>
    rintro D xs W rfl ⟨v, h1, h2, h3⟩ hD hle
    have lc : W.cell? ⟨w.heap.size, 0, none⟩ = some v := cell_of_row W _ 0 _ _ _ h1
    have H1 := Lib.hid h1
    have H2 := Lib.hid h2
    have H3 := Lib.hid h3
    have HD := Lib.hid hD
    clear h1 h2 h3 hD
    gi_wp2
    refine ⟨by simp, .inl ⟨_, _, rfl, run_takeDeferred HD.out, ?_⟩⟩
    refine ⟨_, results_tmp rfl _ _ _, v, rfl, ownsRow_putObj (PRow.rebase2 H2.out) _ HD.out rfl, ?_⟩
    exact H3.out.trans (belowK_b (w := w) (Nat.le_refl _) W D _ _ (by omega) HD.out rfl rfl)
end Go.Proofs.Ytcboakmfabdeoaa

/- Things. -/
namespace Go.Proofs.Ytcboakmfabdeoaa
open Go.RowKit Go.Shelf

attribute [local go_sem] Oper.semAt_some
theorem Try.info9 : (Try.prog.info? 9).map (fun i => (i.zero, i.size, i.bytes)) = some (some (.string ⟨#[]⟩), 1, 16) := by kernel_rfl
def thingsOf (l : List Pr) : List Value := l.map fun p => .string p.2

def ThingsI (w : World) (pre : List Pr) (W : World) : Prop :=
  ∃ v, W.heap[w.heap.size]? = some (.cells #[v] 49 (0, 0)) ∧ W.ownsRow (w.heap.size + 1) 9 1 v pre.length (thingsOf pre) ∧ Below w.heap.size w W

theorem thingsI_own (w : World) (B : Nat) (hB : w.heap.size ≤ B) : OwnB B (ThingsI w) := by
  rintro pre W W' row ⟨v, h1, h2, h3⟩ hg hr
  have hne : ∀ b cs ty, W.heap[b]? = some (.cells cs ty (0, 0)) → ty ≠ 3 → some b ≠ row := fun b cs ty hb ht e => by
    obtain ⟨_, o, ho, h⟩ := hr b e.symm
    rw [hb] at ho
    cases ho
    rcases h with h | ⟨cs', h⟩
    · simp [Obj.isCells] at h
    · simp at h; exact ht h.2
  refine ⟨v, (hg.block _ (Array.getElem?_eq_some_iff.1 h1).1 (hne _ _ 49 h1 (by decide))).trans h1, ownsRow_of_heap h2 fun b hb => ?_, h3.grown hg h3.size (fun k e => Nat.le_trans hB (hr k e).1)⟩
  obtain ⟨cs, hc⟩ := ownsRow_block h2 hb
  exact hg.block b (Array.getElem?_eq_some_iff.1 hc).1 (hne b cs 9 hc (by decide))

set_option maxHeartbeats 1000000 in
set_option maxRecDepth 100000 in
theorem things_in (a : Option Addr) (k : Int) (most : Int) (res : List Pr) (w : World) (hm : res.length ≤ 1000)
    (hseq : ∀ W, Below w.heap.size w W → ∀ A B C, W.cell? ⟨A, 0, none⟩ = some (.int .i64 most) → W.cell? ⟨B, 0, none⟩ = some (.pointer a) → W.cell? ⟨C, 0, none⟩ = some (.int .i64 k) →
      ∀ n, SeqB Fence.wide n Try.prog 53 #[.pointer (some ⟨A, 0, none⟩), .pointer (some ⟨B, 0, none⟩), .pointer (some ⟨C, 0, none⟩)] encs2 KeepT (fun xs => xs = res) 1000 W) :
    CallsIn Fence.wide 5 Try.prog 21 #[.pointer a, .int .i64 k, .int .i64 most] w fun e w' => ∃ v, e = .returned v ∧ w'.ownsRow w.heap.size 9 1 v res.length (thingsOf res) ∧ Below w.heap.size w w' := by
  refine callsIn_of_wp_marks Try.func21 rfl trivial ?_ rfl
  simp only [Try.ntmps21, List.size_toArray, List.length_cons, List.length_nil, Nat.reduceAdd, Nat.reduceSub, Array.replicate_succ, Array.replicate_zero, List.push_toArray, List.append_toArray, List.nil_append, List.cons_append]
  gi_wp2_with ((try refine ⟨trivial, ?_⟩); gi_at_call 40; refine (callsIn_wide.2 (from_any a k most _)).mono ?_; rintro e w' ⟨rfl, rfl⟩)
  obtain ⟨W0, hW0⟩ : ∃ W0, W0 = (((w.alloc (.cells #[.slice none 0 0] 49)).alloc (.cells #[.pointer a] 24)).alloc (.cells #[.int .i64 k] 2)).alloc (.cells #[.int .i64 most] 3) := ⟨_, rfl⟩
  rw [← hW0]
  have b0 : Below w.heap.size w W0 := by rw [hW0]; exact ((((Below.refl _ w).alloc (Nat.le_refl _) _).alloc (by simp) _).alloc (by simp; omega) _).alloc (by simp; omega) _
  have sz0 : W0.heap.size = w.heap.size + 4 := by rw [hW0]; simp
  have l0 : W0.heap[w.heap.size]? = some (.cells #[.slice none 0 0] 49 (0, 0)) := by
    rw [hW0, Below.heap_alloc _ _ _ (by simp; omega), Below.heap_alloc _ _ _ (by simp; omega), Below.heap_alloc _ _ _ (by simp)]; exact heap_alloc_new w _
  have m0 : W0.heap[w.heap.size + 1]? = some (.cells #[.pointer a] 24 (0, 0)) := by
    rw [hW0, Below.heap_alloc _ _ _ (by simp), Below.heap_alloc _ _ _ (by simp)]
    have := heap_alloc_new (w.alloc (.cells #[.slice none 0 0] 49)) (.cells #[.pointer a] 24)
    rwa [World.size_alloc] at this
  have k0 : W0.heap[w.heap.size + 1 + 1]? = some (.cells #[.int .i64 k] 2 (0, 0)) := by
    rw [hW0, Below.heap_alloc _ _ _ (by simp)]
    have := heap_alloc_new ((w.alloc (.cells #[.slice none 0 0] 49)).alloc (.cells #[.pointer a] 24)) (.cells #[.int .i64 k] 2)
    rwa [World.size_alloc, World.size_alloc] at this
  have t0 : W0.heap[w.heap.size + 1 + 2]? = some (.cells #[.int .i64 most] 3 (0, 0)) := by
    rw [hW0]
    have := heap_alloc_new (((w.alloc (.cells #[.slice none 0 0] 49)).alloc (.cells #[.pointer a] 24)).alloc (.cells #[.int .i64 k] 2)) (.cells #[.int .i64 most] 3)
    rwa [World.size_alloc, World.size_alloc, World.size_alloc] at this
  have seq := hseq W0 b0 _ _ _ (cell_of_row W0 _ 0 _ _ _ t0) (cell_of_row W0 _ 0 _ _ _ m0) (cell_of_row W0 _ 0 _ _ _ k0)
  refine wpIn_rangeFunc_B rfl (by omega) (gf := 53) rfl trivial (enters_of Try.func53 (by kernel_rfl) rfl) (seq 4) KeepT.trans KeepT.putObj (Below.refl _ _) (fun _ => rfl)
    (ThingsI w) (thingsI_own w _ (by omega)) ⟨_, l0, World.ownsRow_nil _ _ _ _, b0⟩
    (fun x => { tmps := #[.pointer a, .int .i64 k, .int .i64 most, undef, undef, undef, .slice none 0 0, .pointer (some ⟨w.heap.size, 0, none⟩), undef, .string x.2, .pointer a, .int .i64 k, .int .i64 most, .func (.func 53) #[] #[.pointer (some ⟨w.heap.size + 1 + 2, 0, none⟩), .pointer (some ⟨w.heap.size + 1, 0, none⟩), .pointer (some ⟨w.heap.size + 1 + 1, 0, none⟩)], .int .i64 x.1, .string x.2, undef, undef, undef, undef, undef], defers := [] }) ?assign ?body ?done
  case assign =>
    intro l x W K hK
    gi_wp2
    exact hK
  case body =>
    rintro l pre x W ⟨v, h1, h2, h3⟩ hlen
    have lc : W.cell? ⟨w.heap.size, 0, none⟩ = some v := cell_of_row W _ 0 _ _ _ h1
    have lf : W.frozen? ⟨w.heap.size, 0, none⟩ = false := by simp [World.frozen?, h1]
    have hrow := h2
    obtain ⟨i0, hi, hz0, hz1, hz2⟩ := info_parts Try.info9
    have hlen2 : pre.length ≤ 1000 := by omega
    have H1 := Lib.hid h1
    have H2 := Lib.hid h2
    have H3 := Lib.hid h3
    have hsz := h3.size
    have hlt : w.heap.size < W.heap.size := (Array.getElem?_eq_some_iff.1 h1).1
    clear h1 h2 h3
    gi_wp2_with (gi_at_builtin; refine wpListIn_append_own _ rfl _ _ 49 rfl (w.heap.size + 1) 9 i0 (.string ⟨#[]⟩) 1 16 Try.underlying49 hi hz0 hz1 hz2 rfl (by decide) v pre.length (thingsOf pre) rfl (hrow.alloc _) ⟨W.heap.size, 0, none⟩ 1 1 [.string x.2] rfl rfl (cell_one_new _ _ _) (by simp [Value.oneCell']) (by unfold maxLen; omega) (by omega) (by simp; omega) ?_; intro v' w1 hown' hgrow _; obtain ⟨g', cap', rfl⟩ := ownsRow_succ hown'; obtain ⟨hv1, hv2, hr2, hk2, hb2⟩ := Boxed.appended (B := w.heap.size) (t := 49) (n₀ := w.heap.size) H1.out (by decide) (PRow.rebase2 hrow) hsz (Nat.le_refl _) (PRow.rebase2 hown') hgrow; have hc1 := hv1.cell; have hf1 := hv1.frozen)
    have kt : KeepT W (w1.setCell ⟨w.heap.size, 0, none⟩ (.slice (some ⟨g', 0, none⟩) (pre.length + 1) cap')) := by
      refine KeepT.trans (KeepT.grown (World.grownBy_alloc W _ none) (fun r e => by cases e)) (KeepT.trans (KeepT.grown hgrow (fun r e => ?_)) (KeepT.grown (grownBy_setCell' w1 w.heap.size _) (fun r e => ?_)))
      · obtain ⟨cs, hc⟩ := ownsRow_block (hrow.alloc _) (b := r) e
        exact ⟨cs, 9, hc, .inr (.inr (.inl rfl))⟩
      · cases e
        exact ⟨_, 49, hv1, .inr (.inr (.inr rfl))⟩
    refine ⟨kt, _, hv2, ?_, H3.out.trans hb2⟩
    have : (pre ++ [x]).length = pre.length + 1 := by simp
    rw [this, show thingsOf (pre ++ [x]) = thingsOf pre ++ [.string x.2] by simp [thingsOf]]
    exact ownsRow_of_heap hown' fun b hb => heap_setCell_other w1 _ b _ (fun e => by have h1 := (hown'.lt b hb).1; have e2 : b = w.heap.size := e; omega)
  case done =>
    rintro D xs W rfl ⟨v, h1, h2, h3⟩ hD hle
    have lc : W.cell? ⟨w.heap.size, 0, none⟩ = some v := cell_of_row W _ 0 _ _ _ h1
    have H1 := Lib.hid h1
    have H2 := Lib.hid h2
    have H3 := Lib.hid h3
    have HD := Lib.hid hD
    clear h1 h2 h3 hD
    gi_wp2
    refine ⟨by simp, .inl ⟨_, _, rfl, run_takeDeferred HD.out, ?_⟩⟩
    refine ⟨_, results_tmp rfl _ _ _, v, rfl, ownsRow_putObj (PRow.rebase2 H2.out) _ HD.out rfl, ?_⟩
    exact H3.out.trans (belowK_b (w := w) (Nat.le_refl _) W D _ _ (by omega) HD.out rfl rfl)
end Go.Proofs.Ytcboakmfabdeoaa

/- Keys of a leaf map, and of no map. -/
namespace Go.Proofs.Ytcboakmfabdeoaa
open Go.RowKit Go.Shelf

theorem LeafM.walks {t m : Nat} {w : World} {l : List Pr} {rp : Option Addr} {fp : List Nat} (h : LeafM t m w l rp fp) (k : Int) (hn : l.length ≤ 1000) : Walks (.pointer rp) k (l.drop (pos l k)) 1000 w := by
  rcases h.root with ⟨rfl, rfl, _⟩ | ⟨x, rfl, hx, rfl, rfl⟩
  · exact walks_nil k 1000 w
  · exact walks_leaf t x k w hx h.rising hn

theorem keys_leaf {t m : Nat} {w : World} {l : List Pr} {rp : Option Addr} {fp : List Nat} (h : LeafM t m w l rp fp) (k : Int) (most : Nat) (hm : most ≤ 9223372036854775807) (hn : l.length ≤ 1000) :
    Calls Try.prog 20 #[.pointer (some ⟨m, 0, none⟩), .int .i64 k, .int .i64 most] w fun e w' => ∃ v, e = .returned v ∧ w'.ownsRow w.heap.size 2 1 v ((l.drop (pos l k)).take most).length (keysOf ((l.drop (pos l k)).take most)) ∧ Below w.heap.size w w' := by
  refine callsIn_wide.1 (keys_in (some ⟨m, 0, none⟩) k most ((l.drop (pos l k)).take most) w (by simp; omega) ?_)
  intro W hb A B C hA hB hC n l' J W2 hb2 hJa hY h0
  have h2 := h.below hb
  refine callsIn_wide.2 ((from1_some (.pointer (some ⟨m, 0, none⟩)) (.pointer rp) k most (l.drop (pos l k)) W A B C hm hA hB hC ?_ 1000 (h2.walks k hn) ⟨_, rfl⟩ ⟨_, rfl⟩ l' J W2 hb2 hJa (fun m' pre x W1 hj hl => YieldAt.anyDepth rfl m' (hY pre x W1 hj hl)) h0).mono ?_)
  · intro W3 hb3
    exact top_any m _ W3 (cell_of_row W3 m 1 _ _ _ (h2.below hb3).cell)
  · rintro e W' ⟨h1, h2⟩
    exact ⟨h1, _, rfl, h2⟩

set_option maxHeartbeats 1000000 in
set_option maxRecDepth 100000 in
theorem from1_nil (k most : Int) (w0 : World) (A B C : Nat)
    (hA : w0.cell? ⟨A, 0, none⟩ = some (.int .i64 most)) (hB : w0.cell? ⟨B, 0, none⟩ = some (.pointer none)) (hC : w0.cell? ⟨C, 0, none⟩ = some (.int .i64 k))
    (l : Nat) (J : List Pr → World → Prop) (W : World) (hb : Below w0.heap.size w0 W) (hJa : AbidesB W.heap.size J) (h0 : J [] W) :
    Calls Try.prog 53 #[.func (.yield l) #[] #[], .pointer (some ⟨A, 0, none⟩), .pointer (some ⟨B, 0, none⟩), .pointer (some ⟨C, 0, none⟩)] W fun e W' => (∃ v, e = .returned v) ∧ J [] W' := by
  have a1 : W.cell? ⟨A, 0, none⟩ = some (.int .i64 most) := (hb.cell (World.block_lt_of_cell? w0 _ hA)).trans hA
  have b1 : W.cell? ⟨B, 0, none⟩ = some (.pointer none) := (hb.cell (World.block_lt_of_cell? w0 _ hB)).trans hB
  have c1 : W.cell? ⟨C, 0, none⟩ = some (.int .i64 k) := (hb.cell (World.block_lt_of_cell? w0 _ hC)).trans hC
  have alt : A < W.heap.size := World.block_lt_of_cell? W _ a1
  have blt : B < W.heap.size := World.block_lt_of_cell? W _ b1
  have clt : C < W.heap.size := World.block_lt_of_cell? W _ c1
  obtain ⟨W2, hW2⟩ : ∃ W2, W2 = (W.alloc (.cells #[.func (.yield l) #[] #[]] 86)).alloc (.cells #[.int .i64 most] 3) := ⟨_, rfl⟩
  have hJ2 : J [] W2 := by
    rw [hW2]
    exact hJa _ _ _ none (hJa _ _ _ none h0 (World.grownBy_alloc W _ none) (fun r e => by cases e)) (World.grownBy_alloc _ _ none) (fun r e => by cases e)
  have hJ3 : J [] W2.drew := hJa _ _ _ none hJ2 ⟨rfl, rfl, rfl, Nat.le_refl _, fun k _ _ => rfl⟩ (fun r e => by cases e)
  have bW : Below W.heap.size W W2 := by rw [hW2]; exact ((Below.refl _ W).alloc (Nat.le_refl _) _).alloc (by simp) _
  have b2 : W2.cell? ⟨B, 0, none⟩ = some (.pointer none) := (bW.cell (p := ⟨B, 0, none⟩) blt).trans b1
  have c2 : W2.cell? ⟨C, 0, none⟩ = some (.int .i64 k) := (bW.cell (p := ⟨C, 0, none⟩) clt).trans c1
  have J2 := Lib.hid hJ2
  have J3 := Lib.hid hJ3
  clear hb hJa h0 hA hB hC hJ2 hJ3 bW
  by_cases h1 : most < 1
  · have HW := Lib.hid hW2
    clear hW2 b2 c2
    go_enter Try.func53, Try.ntmps53
    go_wp2_with fail
    refine bodyPost_ret (results_none rfl _ _ _) rfl ⟨⟨_, rfl⟩, ?_⟩
    have h := J2.out
    rw [HW.out] at h
    exact h
  · go_enter Try.func53, Try.ntmps53
    go_wp2_with fail
    rw [← hW2]
    clear hW2 a1 b1 c1
    go_region_with (first | (go_at_call 28; refine (top_nil _).mono ?_; rintro e w' ⟨rfl, rfl⟩) | (go_at_call 54; refine (walk_nil k _ rfl _ _ 55 rfl).mono ?_; rintro e W3 ⟨rfl, rfl⟩))
    all_goals
      go_wp2
      go_end0
      exact ⟨⟨_, rfl⟩, J3.out⟩

theorem keys_nil (k most : Int) (w : World) : Calls Try.prog 20 #[.pointer none, .int .i64 k, .int .i64 most] w fun e w' => ∃ v, e = .returned v ∧ w'.ownsRow w.heap.size 2 1 v 0 [] ∧ Below w.heap.size w w' := by
  refine callsIn_wide.1 ((keys_in none k most [] w (by simp) ?_).mono fun e w' h => h)
  intro W hb A B C hA hB hC n l' J W2 hb2 hJa hY h0
  refine callsIn_wide.2 ((from1_nil k most W A B C hA hB hC l' J W2 hb2 hJa h0).mono ?_)
  rintro e W' ⟨h1, h2⟩
  exact ⟨h1, _, rfl, h2⟩
end Go.Proofs.Ytcboakmfabdeoaa

/- The chapter's example. -/
namespace Go.Proofs.Ytcboakmfabdeoaa
open Go.RowKit Go.Shelf

/-- what the example knows of its map. -/
def AwakeAt (w0 : World) (m : Nat) (l : List Pr) (w : World) : Prop := ∃ rp fp, LeafM 2 m w l rp fp ∧ Below w0.heap.size w0 w ∧ w0.heap.size ≤ m ∧ ∀ b ∈ fp, w0.heap.size ≤ b

theorem awake_put {w0 w : World} {m : Nat} {l : List Pr} (h : AwakeAt w0 m l w) (k : Int) (s : ByteArray) (hl : l.length + 1 < 4) (hk : hasB l k = false) :
    Calls Try.prog 16 #[.pointer (some ⟨m, 0, none⟩), .int .i64 k, .string s] w fun e w' => e = .returned (.tuple #[.string ⟨#[]⟩, .bool false]) ∧ AwakeAt w0 m (ins l k s) w' := by
  obtain ⟨rp, fp, h1, h2, h3, h4⟩ := h
  refine (put_leaf 2 m l rp fp k s w h1 (by omega) (by omega) hl hk).mono ?_
  rintro e w' ⟨rfl, rp', fp', i1, i2, i3⟩
  refine ⟨rfl, rp', fp', i1, h2.trans ⟨i2.os, i2.tape, i2.output, i2.size, fun b hb => i2.block b (Nat.lt_of_lt_of_le hb h2.size) (fun hm => ?_)⟩, h3, fun b hb => ?_⟩
  · rcases List.mem_cons.1 hm with rfl | hm
    · omega
    · have := h4 b hm; omega
  · rcases i3 b hb with h | h
    · exact h4 b h
    · have := h2.size; omega

set_option maxHeartbeats 1000000 in
set_option maxRecDepth 100000 in
theorem awake_any (w : World) : Calls Try.prog 7 #[] w fun e w' => e = .returned (.bool true) ∧ Below w.heap.size w w' := by
  have a0 : AwakeAt w w.heap.size [] (w.alloc (.cells #[.int .i64 (2 : Nat), .pointer none] 54)) :=
    ⟨none, [], ⟨heap_alloc_new w _, .inl ⟨rfl, rfl, rfl⟩, by simp, List.Pairwise.nil⟩, (Below.refl _ w).alloc (Nat.le_refl _) _, Nat.le_refl _, by simp⟩
  have A0 := Lib.hid a0
  clear a0
  go_enter Try.func7, Try.ntmps7
  go_wp2_with fail
  refine (new_ok 2 _ (by omega) (by omega)).mono ?_
  rintro e w1 ⟨rfl, hw1⟩
  have A1 : Hid (AwakeAt w w.heap.size [] w1) := by rw [hw1]; exact A0.out
  clear A0 hw1
  go_wp2_with fail
  refine (awake_put A1.out 3 _ (by simp) rfl).mono ?_
  rintro e w2 ⟨rfl, h2⟩
  have e2 : ∀ s, ins [] 3 s = [(3, s)] := fun s => rfl
  rw [e2] at h2
  clear e2
  go_wp2_with fail
  refine (awake_put h2 1 _ (by simp) (by simp [hasB])).mono ?_
  rintro e w3 ⟨rfl, h3⟩
  have e3 : ∀ s t : ByteArray, ins [(3, s)] 1 t = [(1, t), (3, s)] := fun s t => by simp [ins]
  rw [e3] at h3
  clear e3 h2
  go_wp2_with fail
  refine (awake_put h3 2 _ (by simp) (by simp [hasB])).mono ?_
  rintro e w4 ⟨rfl, h4⟩
  have e4 : ∀ s t u : ByteArray, ins [(1, t), (3, s)] 2 u = [(1, t), (2, u), (3, s)] := fun s t u => by simp [ins]
  rw [e4] at h4
  clear e4 h3
  obtain ⟨rp, fp, l4, b4, m4, f4⟩ := h4
  have L4 := Lib.hid l4
  have B4 := Lib.hid b4
  clear l4 b4 m4 f4
  go_wp2_with fail
  refine (keys_leaf L4.out 2 9 (by omega) (by simp)).mono ?_
  rintro e w5 ⟨v, rfl, o5, b5⟩
  have o6 : w5.ownsRow w4.heap.size 2 1 v 2 [.int .i64 2, .int .i64 3] := by simpa [pos, keysOf] using o5
  clear o5
  obtain ⟨g, cap, rfl⟩ := ownsRow_succ (k := 1) o6
  have cl := o6.cells (g := g) rfl
  have k0 : w5.cell? ⟨g, 0, none⟩ = some (.int .i64 2) := by have := cl 0 (.int .i64 2) (by simp); rwa [Addr.add_lit] at this
  have k1 : w5.cell? ⟨g, 1, none⟩ = some (.int .i64 3) := by have := cl 1 (.int .i64 3) (by simp); rwa [Addr.add_lit] at this
  have L5 := Lib.hid (L4.out.below b5)
  have B5 := Lib.hid (B4.out.trans (b5.mono B4.out.size))
  have rk := LeafM.rank L5.out 3 (by simp)
  rw [show pos [((1 : Int), (⟨#[97]⟩ : ByteArray)), (2, ⟨#[98]⟩), (3, ⟨#[99]⟩)] 3 = 2 by simp [pos]] at rk
  have RK := Lib.hid rk
  clear cl o6 b5 rk
  go_wp2_with (go_at_call 15; refine RK.out.mono ?_; rintro e w6 ⟨rfl, b6⟩)
  go_ret
  exact ⟨rfl, B5.out.trans (b6.mono B5.out.size)⟩
end Go.Proofs.Ytcboakmfabdeoaa
