import Derived.Test.YteghhmomhlnccaaGreatDoorZE
import Derived.Test.YteghhmomhlnccaaGreatDoorZHQ
import Derived.Laws.Rows

/- slices.Clone at trees; nodes that are new. -/
namespace Go.Proofs.YteghhmomhlnccaaGreatDoor
open Go.RowKit Go.Lib
set_option linter.unusedVariables false
set_option linter.unusedSimpArgs false
set_option maxRecDepth 100000
open Ex (Tree)

/-- a node as a value, all below it in memory at or above B. -/
def NodeNew (B : Nat) (w : World) (v : Value) : Tree → Prop
  | .node op t vk vn vs ks => ∃ A c, v = .agg (ncells op t vk vn vs A ks.length c) ∧ ks.length ≤ c ∧ TreesIn (B ≤ ·) w A 0 ks
theorem NodeNew.node {B : Nat} {w : World} {v : Value} : ∀ {x : Tree}, NodeNew B w v x → NodeV w v x
  | .node op t vk vn vs ks, ⟨A, c, e, hc, hk⟩ => ⟨A, c, e, hc, hk.at⟩
theorem NodeNew.le {B B' : Nat} (hB : B' ≤ B) {w : World} {v : Value} : ∀ {x : Tree}, NodeNew B w v x → NodeNew B' w v x
  | .node op t vk vn vs ks, ⟨A, c, e, hc, hk⟩ => ⟨A, c, e, hc, hk.moved fun k h _ => ⟨rfl, Nat.le_trans hB h⟩⟩
theorem NodeNew.below {B : Nat} {w w' : World} (hb : Below w.heap.size w w') {v : Value} : ∀ {x : Tree}, NodeNew B w v x → NodeNew B w' v x
  | .node op t vk vn vs ks, ⟨A, c, e, hc, hk⟩ => ⟨A, c, e, hc, hk.below hb⟩
theorem SrcT.empty {S : Nat → Prop} {w : World} {l : List Tree} (h : SrcT S w none l) : l = [] := by
  cases l with
  | nil => rfl
  | cons x r =>
    cases x with
    | node op t vk vn vs ks =>
    obtain ⟨b, o, B, c, e, -⟩ := h.head
    cases e
/-- six cells in a row, set anew. -/
theorem set6 {xs r : List Value} {a0 a1 a2 a3 a4 a5 : Value} (u0 u1 u2 u3 u4 u5 : Value) {n : Nat} (hn : xs.length = n) :
    ((((((xs ++ a0 :: a1 :: a2 :: a3 :: a4 :: a5 :: r).set n u0).set (n + 1) u1).set (n + 2) u2).set (n + 3) u3).set (n + 4) u4).set (n + 5) u5 = xs ++ u0 :: u1 :: u2 :: u3 :: u4 :: u5 :: r := by
  subst hn
  simp [List.set_append_right]
abbrev set6W (w : World) (g p : Nat) (u0 u1 u2 u3 u4 u5 : Value) : World := (((((w.setCell ⟨g, p, none⟩ u0).setCell ⟨g, p + 1, none⟩ u1).setCell ⟨g, p + 2, none⟩ u2).setCell ⟨g, p + 3, none⟩ u3).setCell ⟨g, p + 4, none⟩ u4).setCell ⟨g, p + 5, none⟩ u5
theorem set6_touch (w : World) (g p : Nat) (u0 u1 u2 u3 u4 u5 : Value) : Touch [g] w (set6W w g p u0 u1 u2 u3 u4 u5) :=
  ((((((Touch.refl _ _).setCell (q := ⟨g, p, none⟩) (.inl (by simp)) u0).setCell (q := ⟨g, p + 1, none⟩) (.inl (by simp)) u1).setCell (q := ⟨g, p + 2, none⟩) (.inl (by simp)) u2).setCell (q := ⟨g, p + 3, none⟩) (.inl (by simp)) u3).setCell (q := ⟨g, p + 4, none⟩) (.inl (by simp)) u4).setCell (q := ⟨g, p + 5, none⟩) (.inl (by simp)) u5
abbrev set6Z (w : World) (g : Nat) (u0 u1 u2 u3 u4 u5 : Value) : World := (((((w.setCell ⟨g, 0, none⟩ u0).setCell ⟨g, 1, none⟩ u1).setCell ⟨g, 2, none⟩ u2).setCell ⟨g, 3, none⟩ u3).setCell ⟨g, 4, none⟩ u4).setCell ⟨g, 5, none⟩ u5
theorem set6Z_touch (w : World) (g : Nat) (u0 u1 u2 u3 u4 u5 : Value) : Touch [g] w (set6Z w g u0 u1 u2 u3 u4 u5) :=
  ((((((Touch.refl _ _).setCell (q := ⟨g, 0, none⟩) (.inl (by simp)) u0).setCell (q := ⟨g, 1, none⟩) (.inl (by simp)) u1).setCell (q := ⟨g, 2, none⟩) (.inl (by simp)) u2).setCell (q := ⟨g, 3, none⟩) (.inl (by simp)) u3).setCell (q := ⟨g, 4, none⟩) (.inl (by simp)) u4).setCell (q := ⟨g, 5, none⟩) (.inl (by simp)) u5
theorem set6Z_whole {w : World} {g : Nat} {t : TypeId} {a0 a1 a2 a3 a4 a5 : Value} (h : Whole w g t #[a0, a1, a2, a3, a4, a5]) (u0 u1 u2 u3 u4 u5 : Value) : Whole (set6Z w g u0 u1 u2 u3 u4 u5) g t #[u0, u1, u2, u3, u4, u5] :=
  (((((h.set_ 0 u0).set_ 1 u1).set_ 2 u2).set_ 3 u3).set_ 4 u4).set_ 5 u5
theorem sizeExpr : (Tryz.prog.info? 26).map (·.size) = some 6 := by kernel_rfl
theorem frozen6 {w : World} {g : Nat} {t : TypeId} {cs : Array Value} (h : Whole w g t cs) : w.frozen? ⟨g, 0, none⟩ = false ∧ w.frozen? ⟨g, 1, none⟩ = false ∧ w.frozen? ⟨g, 2, none⟩ = false ∧ w.frozen? ⟨g, 3, none⟩ = false ∧ w.frozen? ⟨g, 4, none⟩ = false ∧ w.frozen? ⟨g, 5, none⟩ = false := ⟨h.frozen _, h.frozen _, h.frozen _, h.frozen _, h.frozen _, h.frozen _⟩
/-- trees in a block of the call's own: the first ones new, the others as they came. -/
structure KidsAt (w0 : World) (B g : Nat) (wr : World) (done left : List Tree) : Prop where
  row : ∃ cur xs ys, Whole wr g 26 cur ∧ cur.toList.take ((done.length + left.length) * 6) = xs ++ ys ∧ CellsT (fun k => B ≤ k ∧ k ≠ g) wr xs done ∧ CellsT (· < w0.heap.size) wr ys left
  own : B ≤ g
  old : w0.heap.size ≤ B
theorem KidsAt.moved {w0 wr w' : World} {B g : Nat} {done left : List Tree} (h : KidsAt w0 B g wr done left) {H : List Nat} (ht : Touch H wr w') (hH : ∀ k ∈ H, w0.heap.size ≤ k ∧ (k < B ∨ wr.heap.size ≤ k)) : KidsAt w0 B g w' done left := by
  obtain ⟨⟨cur, xs, ys, h1, h2, h3, h4⟩, h5, h6⟩ := h
  have hf : ∀ k, k < wr.heap.size → (k < w0.heap.size ∨ B ≤ k) → w'.heap[k]? = wr.heap[k]? := fun k hk hkB => ht.block k hk (fun hh => by have := hH k hh; omega)
  exact ⟨⟨cur, xs, ys, (hf g h1.lt (.inr h5)).trans h1, h2, h3.moved fun k hk hlt => ⟨hf k hlt (.inr hk.1), hk⟩, h4.moved fun k hk hlt => ⟨hf k hlt (.inl hk), hk⟩⟩, h5, h6⟩
theorem KidsAt.below {w0 wr w' : World} {B g : Nat} {done left : List Tree} (h : KidsAt w0 B g wr done left) (hb : Below wr.heap.size wr w') : KidsAt w0 B g w' done left := h.moved (Touch.of_below hb []) (by simp)
/-- the next kid. -/
theorem KidsAt.next {w0 wr : World} {B g : Nat} {done left : List Tree} {op : Int} {t : List UInt8} {vk vn : Int} {vs : List UInt8} {ks : List Tree} (h : KidsAt w0 B g wr done (.node op t vk vn vs ks :: left)) :
    ∃ C c, wr.cell? ⟨g, done.length * 6, none⟩ = some (.int .i64 op) ∧ wr.cell? ⟨g, done.length * 6 + 1, none⟩ = some (.string (tx t)) ∧ wr.cell? ⟨g, done.length * 6 + 2, none⟩ = some (.int .i64 vk) ∧ wr.cell? ⟨g, done.length * 6 + 3, none⟩ = some (.int .i64 vn) ∧ wr.cell? ⟨g, done.length * 6 + 4, none⟩ = some (.string (tx vs)) ∧
      wr.cell? ⟨g, done.length * 6 + 5, none⟩ = some (.slice C ks.length c) ∧ NodeV wr (.agg (ncells op t vk vn vs C ks.length c)) (.node op t vk vn vs ks) ∧ ∀ j, wr.frozen? ⟨g, j, none⟩ = false := by
  obtain ⟨⟨cur, xs, ys, h1, h2, h3, h4⟩, h5, h6⟩ := h
  obtain ⟨C, c, r, rfl, hc, hk, hr⟩ := h4
  have hl := h3.length
  have key : ∀ j u, j < 6 → (Value.int IntKind.i64 op :: .string (tx t) :: .int .i64 vk :: .int .i64 vn :: .string (tx vs) :: .slice C ks.length c :: r)[j]? = some u → wr.cell? ⟨g, done.length * 6 + j, none⟩ = some u := fun j u hj hu => by
    rw [h1.cell]
    have e := congrArg (fun l => l[done.length * 6 + j]?) h2
    try simp only at e
    rw [List.getElem?_take, if_pos (by rw [List.length_cons]; omega), List.getElem?_append_right (by omega), show done.length * 6 + j - xs.length = j by omega, hu] at e
    simpa using e
  exact ⟨C, c, by simpa using key 0 _ (by omega) rfl, key 1 _ (by omega) rfl, key 2 _ (by omega) rfl, key 3 _ (by omega) rfl, key 4 _ (by omega) rfl, key 5 _ (by omega) rfl, ⟨C, c, rfl, hc, hk.at⟩, fun j => h1.frozen j⟩
/-- a kid set anew. -/
theorem KidsAt.set_ {w0 wr : World} {B g : Nat} {done left : List Tree} {x : Tree} (h : KidsAt w0 B g wr done (x :: left)) {op : Int} {t : List UInt8} {vk vn : Int} {vs : List UInt8} {ks : List Tree} {C : Option Addr} {c : Nat} (hc : ks.length ≤ c) (hk : TreesIn (fun k => B ≤ k ∧ k ≠ g) wr C 0 ks) :
    KidsAt w0 B g (set6W wr g (done.length * 6) (.int .i64 op) (.string (tx t)) (.int .i64 vk) (.int .i64 vn) (.string (tx vs)) (.slice C ks.length c)) (done ++ [.node op t vk vn vs ks]) left := by
  cases x with
  | node op' t' vk' vn' vs' ks' =>
  obtain ⟨⟨cur, xs, ys, h1, h2, h3, h4⟩, h5, h6⟩ := h
  obtain ⟨C', c', r, rfl, hc', hk', hr⟩ := h4
  have hl := h3.length
  have hT := set6_touch wr g (done.length * 6) (.int .i64 op) (.string (tx t)) (.int .i64 vk) (.int .i64 vn) (.string (tx vs)) (.slice C ks.length c)
  have hf : ∀ k, k ≠ g → (set6W wr g (done.length * 6) (.int .i64 op) (.string (tx t)) (.int .i64 vk) (.int .i64 vn) (.string (tx vs)) (.slice C ks.length c)).heap[k]? = wr.heap[k]? := fun k hk => by
    unfold set6W
    simp only [heap_set_other _ _ _ _ _ hk]
  have hW := (((((h1.set_ (done.length * 6) (.int .i64 op)).set_ (done.length * 6 + 1) (.string (tx t))).set_ (done.length * 6 + 2) (.int .i64 vk)).set_ (done.length * 6 + 3) (.int .i64 vn)).set_ (done.length * 6 + 4) (.string (tx vs))).set_ (done.length * 6 + 5) (.slice C ks.length c)
  refine ⟨⟨_, xs ++ [.int .i64 op, .string (tx t), .int .i64 vk, .int .i64 vn, .string (tx vs), .slice C ks.length c], r, hW, ?_, ?_, ?_⟩, h5, h6⟩
  · simp only [Array.toList_setIfInBounds, List.take_set]
    rw [List.length_append, List.length_singleton, show (done.length + 1 + left.length) * 6 = (done.length + (Tree.node op' t' vk' vn' vs' ks' :: left).length) * 6 by rw [List.length_cons]; omega, h2, set6 _ _ _ _ _ _ hl]
    simp
  · refine CellsT.append (h3.moved fun k hk _ => ⟨hf k hk.2, hk⟩) ⟨C, c, [], rfl, hc, hk.moved fun k hk _ => ⟨hf k hk.2, hk⟩, rfl⟩
  · exact hr.moved fun k hk _ => ⟨hf k (by omega), hk⟩
/-- all are set anew. -/
theorem KidsAt.all {w0 wr : World} {B g : Nat} {done : List Tree} (h : KidsAt w0 B g wr done []) : TreesIn (B ≤ ·) wr (some ⟨g, 0, none⟩) 0 done := by
  obtain ⟨⟨cur, xs, ys, h1, h2, h3, h4⟩, h5, h6⟩ := h
  have hl := h3.length
  rw [show ys = [] from h4, List.append_nil] at h2
  refine (h3.trees h1.lt 0 fun j u hu => ?_).moved fun k hk _ => ⟨rfl, hk.elim (·.1) (fun e => by rw [e]; exact h5)⟩
  have hj : j < xs.length := (List.getElem?_eq_some_iff.1 hu).1
  rw [Nat.zero_add, h1.cell, ← hu, ← h2, List.getElem?_take, if_pos (by simp; omega)]
  simp
theorem RowT.kids {w0 w : World} {B : Nat} {v : Value} {l : List Tree} (h : RowT (· < w0.heap.size) w B v l) (hB : w0.heap.size ≤ B) : (l = [] ∧ v = .slice none 0 0) ∨ ∃ g cap, v = .slice (some ⟨g, 0, none⟩) l.length cap ∧ l.length ≤ cap ∧ KidsAt w0 B g w [] l := by
  obtain ⟨xs, h1, h2, h3⟩ := h
  rcases h1.2 with ⟨rfl, h0⟩ | ⟨g, cap, cur, rfl, hb, hh, hn, hm, hs, ht⟩
  · exact .inl ⟨List.eq_nil_of_length_eq_zero h0, rfl⟩
  · exact .inr ⟨g, cap, rfl, hn, ⟨⟨cur, [], xs, hh, by simpa using ht, rfl, h2⟩, hb, hB⟩⟩
theorem KidsAt.lt {w0 wr : World} {B g : Nat} {done left : List Tree} (h : KidsAt w0 B g wr done left) : g < wr.heap.size := let ⟨⟨_, _, _, h1, _⟩, _, _⟩ := h; h1.lt
end Go.Proofs.YteghhmomhlnccaaGreatDoor
