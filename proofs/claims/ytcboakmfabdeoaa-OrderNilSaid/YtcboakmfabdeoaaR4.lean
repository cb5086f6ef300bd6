/- Keys. -/
import Derived.Test.YtcboakmfabdeoaaR3
import Derived.Maps.AppendAt
namespace Go.Proofs.Ytcboakmfabdeoaa
open Go.RowKit Go.Shelf

attribute [local go_sem] Oper.semAt_some

set_option maxHeartbeats 400000 in
theorem from_any (a : Option Addr) (k most : Int) (w : World) : Calls Try.prog 40 #[.pointer a, .int .i64 k, .int .i64 most] w fun e w' =>
    e = .returned (.func (.func 53) #[] #[.pointer (some ⟨w.heap.size + 2, 0, none⟩), .pointer (some ⟨w.heap.size, 0, none⟩), .pointer (some ⟨w.heap.size + 1, 0, none⟩)]) ∧
    w' = ((w.alloc (.cells #[.pointer a] 24)).alloc (.cells #[.int .i64 k] 2)).alloc (.cells #[.int .i64 most] 3) := by
  go_enter Try.func40, Try.ntmps40
  go_wp2
  go_ret
  exact ⟨rfl, rfl⟩

theorem Try.info2 : (Try.prog.info? 2).map (fun i => (i.zero, i.size, i.bytes)) = some (some (.int .i64 0), 1, 8) := by kernel_rfl

def keysOf (l : List Pr) : List Value := l.map fun p => .int .i64 p.1

theorem KeepT.grown {W W' : World} {row : Option Nat} (hg : W.grownBy W' row) (hrow : ∀ r, row = some r → ∃ cs ty, W.heap[r]? = some (.cells cs ty (0, 0)) ∧ (ty = 2 ∨ ty = 47 ∨ ty = 9 ∨ ty = 49)) : KeepT W W' :=
  ⟨hg.size, fun b cs ty hb h1 h2 h3 h4 => hg.block b (Array.getElem?_eq_some_iff.1 hb).1 (fun e => by
    obtain ⟨cs', ty', h, h5⟩ := hrow b e.symm
    rw [hb] at h
    simp at h
    obtain ⟨_, rfl⟩ := h
    rcases h5 with h5 | h5 | h5 | h5
    · exact h1 h5
    · exact h2 h5
    · exact h3 h5
    · exact h4 h5)⟩

theorem PRow.rebase2 {w : World} {b : Nat} {v : Value} {n : Nat} {xs : List Value} {e : TypeId} {z : Nat} (h : w.ownsRow (b + 1) e z v n xs) : w.ownsRow b e z v n xs := by
  refine ⟨h.1, ?_⟩
  rcases h.2 with hn | ⟨g, cap, cur, h1, hb, h2⟩
  · exact .inl hn
  · exact .inr ⟨g, cap, cur, h1, by omega, h2⟩

def KeysI (w : World) (pre : List Pr) (W : World) : Prop :=
  ∃ v, W.heap[w.heap.size]? = some (.cells #[v] 47 (0, 0)) ∧ W.ownsRow (w.heap.size + 1) 2 1 v pre.length (keysOf pre) ∧ Below w.heap.size w W

theorem ownsRow_block {w : World} {base : Nat} {e : TypeId} {size : Nat} {v : Value} {n : Nat} {xs : List Value} (h : w.ownsRow base e size v n xs) {b : Nat} (hb : v.ownBlock = some b) : ∃ cs, w.heap[b]? = some (.cells cs e (0, 0)) := by
  rcases h.2 with ⟨rfl, _⟩ | ⟨g, cap, cur, rfl, _, hg, _⟩
  · cases hb
  · have : g = b := by simpa [Value.ownBlock] using hb
    subst this
    exact ⟨cur, hg⟩

theorem keysI_own (w : World) (B : Nat) (hB : w.heap.size ≤ B) : OwnB B (KeysI w) := by
  rintro pre W W' row ⟨v, h1, h2, h3⟩ hg hr
  have hne : ∀ b cs ty, W.heap[b]? = some (.cells cs ty (0, 0)) → ty ≠ 3 → some b ≠ row := fun b cs ty hb ht e => by
    obtain ⟨_, o, ho, h⟩ := hr b e.symm
    rw [hb] at ho
    cases ho
    rcases h with h | ⟨cs', h⟩
    · simp [Obj.isCells] at h
    · simp at h; exact ht h.2
  refine ⟨v, (hg.block _ (Array.getElem?_eq_some_iff.1 h1).1 (hne _ _ 47 h1 (by decide))).trans h1, ownsRow_of_heap h2 fun b hb => ?_, h3.grown hg h3.size (fun k e => Nat.le_trans hB (hr k e).1)⟩
  obtain ⟨cs, hc⟩ := ownsRow_block h2 hb
  exact hg.block b (Array.getElem?_eq_some_iff.1 hc).1 (hne b cs 2 hc (by decide))

set_option maxHeartbeats 1000000 in
set_option maxRecDepth 100000 in
theorem keys_in (a : Option Addr) (k : Int) (most : Int) (res : List Pr) (w : World) (hm : res.length ≤ 1000)
    (hseq : ∀ W, Below w.heap.size w W → ∀ A B C, W.cell? ⟨A, 0, none⟩ = some (.int .i64 most) → W.cell? ⟨B, 0, none⟩ = some (.pointer a) → W.cell? ⟨C, 0, none⟩ = some (.int .i64 k) →
      ∀ n, SeqB Fence.wide n Try.prog 53 #[.pointer (some ⟨A, 0, none⟩), .pointer (some ⟨B, 0, none⟩), .pointer (some ⟨C, 0, none⟩)] encs2 KeepT (fun xs => xs = res) 1000 W) :
    CallsIn Fence.wide 5 Try.prog 20 #[.pointer a, .int .i64 k, .int .i64 most] w fun e w' => ∃ v, e = .returned v ∧ w'.ownsRow w.heap.size 2 1 v res.length (keysOf res) ∧ Below w.heap.size w w' := by
  refine callsIn_of_wp_marks Try.func20 rfl trivial ?_ rfl
  simp only [Try.ntmps20, List.size_toArray, List.length_cons, List.length_nil, Nat.reduceAdd, Nat.reduceSub, Array.replicate_succ, Array.replicate_zero, List.push_toArray, List.append_toArray, List.nil_append, List.cons_append]
  gi_wp2_with ((try refine ⟨trivial, ?_⟩); gi_at_call 40; refine (callsIn_wide.2 (from_any a k most _)).mono ?_; rintro e w' ⟨rfl, rfl⟩)
  obtain ⟨W0, hW0⟩ : ∃ W0, W0 = (((w.alloc (.cells #[.slice none 0 0] 47)).alloc (.cells #[.pointer a] 24)).alloc (.cells #[.int .i64 k] 2)).alloc (.cells #[.int .i64 most] 3) := ⟨_, rfl⟩
  rw [← hW0]
  have b0 : Below w.heap.size w W0 := by rw [hW0]; exact ((((Below.refl _ w).alloc (Nat.le_refl _) _).alloc (by simp) _).alloc (by simp; omega) _).alloc (by simp; omega) _
  have sz0 : W0.heap.size = w.heap.size + 4 := by rw [hW0]; simp
  have l0 : W0.heap[w.heap.size]? = some (.cells #[.slice none 0 0] 47 (0, 0)) := by
    rw [hW0, Below.heap_alloc _ _ _ (by simp; omega), Below.heap_alloc _ _ _ (by simp; omega), Below.heap_alloc _ _ _ (by simp)]; exact heap_alloc_new w _
  have m0 : W0.heap[w.heap.size + 1]? = some (.cells #[.pointer a] 24 (0, 0)) := by
    rw [hW0, Below.heap_alloc _ _ _ (by simp), Below.heap_alloc _ _ _ (by simp)]
    have := heap_alloc_new (w.alloc (.cells #[.slice none 0 0] 47)) (.cells #[.pointer a] 24)
    rwa [World.size_alloc] at this
  have k0 : W0.heap[w.heap.size + 1 + 1]? = some (.cells #[.int .i64 k] 2 (0, 0)) := by
    rw [hW0, Below.heap_alloc _ _ _ (by simp)]
    have := heap_alloc_new ((w.alloc (.cells #[.slice none 0 0] 47)).alloc (.cells #[.pointer a] 24)) (.cells #[.int .i64 k] 2)
    rwa [World.size_alloc, World.size_alloc] at this
  have t0 : W0.heap[w.heap.size + 1 + 2]? = some (.cells #[.int .i64 most] 3 (0, 0)) := by
    rw [hW0]
    have := heap_alloc_new (((w.alloc (.cells #[.slice none 0 0] 47)).alloc (.cells #[.pointer a] 24)).alloc (.cells #[.int .i64 k] 2)) (.cells #[.int .i64 most] 3)
    rwa [World.size_alloc, World.size_alloc, World.size_alloc] at this
  have seq := hseq W0 b0 _ _ _ (cell_of_row W0 _ 0 _ _ _ t0) (cell_of_row W0 _ 0 _ _ _ m0) (cell_of_row W0 _ 0 _ _ _ k0)
  refine wpIn_rangeFunc_B rfl (by omega) (gf := 53) rfl trivial (enters_of Try.func53 (by kernel_rfl) rfl) (seq 4) KeepT.trans KeepT.putObj (Below.refl _ _) (fun _ => rfl)
    (KeysI w) (keysI_own w _ (by omega)) ⟨_, l0, World.ownsRow_nil _ _ _ _, b0⟩
    (fun x => { tmps := #[.pointer a, .int .i64 k, .int .i64 most, undef, undef, undef, .slice none 0 0, .pointer (some ⟨w.heap.size, 0, none⟩), .int .i64 x.1, .pointer a, .int .i64 k, .int .i64 most, .func (.func 53) #[] #[.pointer (some ⟨w.heap.size + 1 + 2, 0, none⟩), .pointer (some ⟨w.heap.size + 1, 0, none⟩), .pointer (some ⟨w.heap.size + 1 + 1, 0, none⟩)], .int .i64 x.1, .string x.2, undef, undef, undef, undef, undef], defers := [] }) ?assign ?body ?done
  case assign =>
    intro l x W K hK
    gi_wp2
    exact hK
  case body =>
    rintro l pre x W ⟨v, h1, h2, h3⟩ hlen
    have lc : W.cell? ⟨w.heap.size, 0, none⟩ = some v := cell_of_row W _ 0 _ _ _ h1
    have lf : W.frozen? ⟨w.heap.size, 0, none⟩ = false := by simp [World.frozen?, h1]
    have hrow := h2
    obtain ⟨i0, hi, hz0, hz1, hz2⟩ := info_parts Try.info2
    have hlen2 : pre.length ≤ 1000 := by omega
    have H1 := Lib.hid h1
    have H2 := Lib.hid h2
    have H3 := Lib.hid h3
    have hsz := h3.size
    have hlt : w.heap.size < W.heap.size := (Array.getElem?_eq_some_iff.1 h1).1
    clear h1 h2 h3
    gi_wp2_with (gi_at_builtin; refine wpListIn_append_own _ rfl _ _ 47 rfl (w.heap.size + 1) 2 i0 (.int .i64 0) 1 8 Try.underlying47 hi hz0 hz1 hz2 rfl (by decide) v pre.length (keysOf pre) rfl (hrow.alloc _) ⟨W.heap.size, 0, none⟩ 1 1 [.int .i64 x.1] rfl rfl (cell_one_new _ _ _) (by simp [Value.oneCell']) (by unfold maxLen; omega) (by omega) (by simp; omega) ?_; intro v' w1 hown' hgrow _; obtain ⟨g', cap', rfl⟩ := ownsRow_succ hown'; obtain ⟨hv1, hv2, hr2, hk2, hb2⟩ := Boxed.appended (B := w.heap.size) (t := 47) (n₀ := w.heap.size) H1.out (by decide) (PRow.rebase2 hrow) hsz (Nat.le_refl _) (PRow.rebase2 hown') hgrow; have hc1 := hv1.cell; have hf1 := hv1.frozen)
    have kt : KeepT W (w1.setCell ⟨w.heap.size, 0, none⟩ (.slice (some ⟨g', 0, none⟩) (pre.length + 1) cap')) := by
      refine KeepT.trans (KeepT.grown (World.grownBy_alloc W _ none) (fun r e => by cases e)) (KeepT.trans (KeepT.grown hgrow (fun r e => ?_)) (KeepT.grown (grownBy_setCell' w1 w.heap.size _) (fun r e => ?_)))
      · obtain ⟨cs, hc⟩ := ownsRow_block (hrow.alloc _) (b := r) e
        exact ⟨cs, 2, hc, .inl rfl⟩
      · cases e
        exact ⟨_, 47, hv1, .inr (.inl rfl)⟩
    refine ⟨kt, _, hv2, ?_, H3.out.trans hb2⟩
    have : (pre ++ [x]).length = pre.length + 1 := by simp
    rw [this, show keysOf (pre ++ [x]) = keysOf pre ++ [.int .i64 x.1] by simp [keysOf]]
    exact ownsRow_of_heap hown' fun b hb => heap_setCell_other w1 _ b _ (fun e => by have h1 := (hown'.lt b hb).1; have e2 : b = w.heap.size := e; omega)
  case done =>
    rintro D xs W rfl ⟨v, h1, h2, h3⟩ hD hle
    have lc : W.cell? ⟨w.heap.size, 0, none⟩ = some v := cell_of_row W _ 0 _ _ _ h1
    have H1 := Lib.hid h1
    have H2 := Lib.hid h2
    have H3 := Lib.hid h3
    have HD := Lib.hid hD
    clear h1 h2 h3 hD
    gi_wp2
    refine ⟨by simp, .inl ⟨_, _, rfl, run_takeDeferred HD.out, ?_⟩⟩
    refine ⟨_, results_tmp rfl _ _ _, v, rfl, ownsRow_putObj (PRow.rebase2 H2.out) _ HD.out rfl, ?_⟩
    exact H3.out.trans (belowK_b (w := w) (Nat.le_refl _) W D _ _ (by omega) HD.out rfl rfl)
end Go.Proofs.Ytcboakmfabdeoaa
