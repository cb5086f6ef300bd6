import Derived.Test.YteghhmomhlnccaaGreatDoorZX
import Derived.Test.YteghhmomhlnccaaGreatDoorZV1
import Derived.Test.YteghhmomhlnccaaGreatDoorZPB0
import Derived.DataShut
import Derived.ShutString
import Derived.Deep.Slices
import Derived.Deep.Strs
import Derived.Carry
import Derived.SliceStrings
import Derived.Lib.SmallJoins

/- Expressions in memory: six cells a node (number, text, value, kids), kids in a slice; a node as a value; opened. -/
namespace Go.Proofs.YteghhmomhlnccaaGreatDoor
open Go.RowKit Go.Lib
set_option linter.unusedVariables false
set_option maxRecDepth 100000
set_option linter.unusedSimpArgs false
open Ex (Tree)

abbrev tx (l : List UInt8) : ByteArray := ⟨l.toArray⟩
mutual
def TreeAt (w : World) (b o : Nat) : Tree → Prop
  | .node op t vk vn vs ks => b < w.heap.size ∧ w.cell? ⟨b, o, none⟩ = some (.int .i64 op) ∧ w.cell? ⟨b, o + 1, none⟩ = some (.string (tx t)) ∧ w.cell? ⟨b, o + 2, none⟩ = some (.int .i64 vk) ∧
      w.cell? ⟨b, o + 3, none⟩ = some (.int .i64 vn) ∧ w.cell? ⟨b, o + 4, none⟩ = some (.string (tx vs)) ∧ ∃ A c, w.cell? ⟨b, o + 5, none⟩ = some (.slice A ks.length c) ∧ ks.length ≤ c ∧ TreesAt w A 0 ks
def TreesAt (w : World) (A : Option Addr) (i : Nat) : List Tree → Prop
  | [] => True
  | x :: l => (∃ b o, A = some ⟨b, o, none⟩ ∧ TreeAt w b (o + i * 6) x) ∧ TreesAt w A (i + 1) l
end
/-- the cells of a node. -/
abbrev ncells (op : Int) (t : List UInt8) (vk vn : Int) (vs : List UInt8) (A : Option Addr) (n c : Nat) : Array Value := #[.int .i64 op, .string (tx t), .int .i64 vk, .int .i64 vn, .string (tx vs), .slice A n c]
/-- a node as a value. -/
def NodeV (w : World) (v : Value) : Tree → Prop
  | .node op t vk vn vs ks => ∃ A c, v = .agg (ncells op t vk vn vs A ks.length c) ∧ ks.length ≤ c ∧ TreesAt w A 0 ks

mutual
theorem TreeAt.below {w w' : World} (hb : Below w.heap.size w w') : ∀ {x : Tree} {b o : Nat}, TreeAt w b o x → TreeAt w' b o x
  | .node op t vk vn vs ks, b, o, h => by
    rw [TreeAt] at h ⊢
    obtain ⟨h0, h1, h2, h3, h4, h5, A, c, h6, h7, h8⟩ := h
    exact ⟨Nat.lt_of_lt_of_le h0 hb.size, (hb.cell (p := ⟨b, o, none⟩) h0).trans h1, (hb.cell (p := ⟨b, o + 1, none⟩) h0).trans h2, (hb.cell (p := ⟨b, o + 2, none⟩) h0).trans h3, (hb.cell (p := ⟨b, o + 3, none⟩) h0).trans h4, (hb.cell (p := ⟨b, o + 4, none⟩) h0).trans h5,
      A, c, (hb.cell (p := ⟨b, o + 5, none⟩) h0).trans h6, h7, TreesAt.below hb h8⟩
theorem TreesAt.below {w w' : World} (hb : Below w.heap.size w w') : ∀ {l : List Tree} {A : Option Addr} {i : Nat}, TreesAt w A i l → TreesAt w' A i l
  | [], A, i, h => by rw [TreesAt]; trivial
  | x :: l, A, i, h => by
    rw [TreesAt] at h ⊢
    obtain ⟨⟨b, o, e, h1⟩, h2⟩ := h
    exact ⟨⟨b, o, e, TreeAt.below hb h1⟩, TreesAt.below hb h2⟩
end
theorem TreesAt.at_ {w : World} : ∀ (l : List Tree) (A : Option Addr) (k : Nat), TreesAt w A k l → ∀ i (h : i < l.length), ∃ b o, A = some ⟨b, o, none⟩ ∧ TreeAt w b (o + (k + i) * 6) l[i]
  | [], A, k, h, i, hi => absurd hi (Nat.not_lt_zero _)
  | x :: l, A, k, h, 0, hi => by
    rw [TreesAt] at h
    obtain ⟨⟨b, o, e, h1⟩, -⟩ := h
    exact ⟨b, o, e, h1⟩
  | x :: l, A, k, h, i + 1, hi => by
    rw [TreesAt] at h
    obtain ⟨b, o, e, h1⟩ := TreesAt.at_ l A (k + 1) h.2 i (by simpa using hi)
    refine ⟨b, o, e, ?_⟩
    rw [show k + (i + 1) = k + 1 + i by omega]
    exact h1
theorem TreesAt.get {w : World} {l : List Tree} {A : Option Addr} (h : TreesAt w A 0 l) (i : Nat) (hi : i < l.length) : ∃ b o, A = some ⟨b, o, none⟩ ∧ TreeAt w b (o + i * 6) l[i] := by
  obtain ⟨b, o, e, k⟩ := TreesAt.at_ l A 0 h i hi
  rw [Nat.zero_add] at k
  exact ⟨b, o, e, k⟩
theorem TreesAt.of {w : World} : ∀ (l : List Tree) (A : Option Addr) (k : Nat), (∀ i (h : i < l.length), ∃ b o, A = some ⟨b, o, none⟩ ∧ TreeAt w b (o + (k + i) * 6) l[i]) → TreesAt w A k l
  | [], A, k, h => by rw [TreesAt]; trivial
  | x :: l, A, k, h => by
    rw [TreesAt]
    refine ⟨h 0 (by simp), TreesAt.of l A (k + 1) fun i hi => ?_⟩
    obtain ⟨b, o, e, h1⟩ := h (i + 1) (by simpa using hi)
    refine ⟨b, o, e, ?_⟩
    rw [show k + 1 + i = k + (i + 1) by omega]
    exact h1
/-- the rest of a slice of trees. -/
theorem TreesAt.tail {w : World} {x : Tree} {l : List Tree} {b o : Nat} (h : TreesAt w (some ⟨b, o, none⟩) 0 (x :: l)) : TreesAt w (some ⟨b, o + 6, none⟩) 0 l := by
  refine TreesAt.of _ _ _ fun i hi => ?_
  obtain ⟨b', o', e, k⟩ := h.get (i + 1) (by simpa using hi)
  cases e
  refine ⟨b, o + 6, rfl, ?_⟩
  rw [show o + 6 + (0 + i) * 6 = o + (i + 1) * 6 by omega]
  exact k
theorem NodeV.below {w w' : World} {v : Value} : ∀ {x : Tree}, NodeV w v x → Below w.heap.size w w' → NodeV w' v x
  | .node op t vk vn vs ks, h, hb => by
    obtain ⟨A, c, e, hc, h8⟩ := h
    exact ⟨A, c, e, hc, TreesAt.below hb h8⟩
/-- the cells of a node that lies in memory: its kids stand there. -/
theorem TreeAt.node {w : World} {b o : Nat} {op : Int} {t : List UInt8} {vk vn : Int} {vs : List UInt8} {ks : List Tree} (h : TreeAt w b o (.node op t vk vn vs ks)) :
    b < w.heap.size ∧ w.cell? ⟨b, o, none⟩ = some (.int .i64 op) ∧ w.cell? ⟨b, o + 1, none⟩ = some (.string (tx t)) ∧ w.cell? ⟨b, o + 2, none⟩ = some (.int .i64 vk) ∧
      w.cell? ⟨b, o + 3, none⟩ = some (.int .i64 vn) ∧ w.cell? ⟨b, o + 4, none⟩ = some (.string (tx vs)) ∧ ∃ A c, w.cell? ⟨b, o + 5, none⟩ = some (.slice A ks.length c) ∧ ks.length ≤ c ∧ TreesAt w A 0 ks := by
  rw [TreeAt] at h; exact h
theorem TreeAt.mk {w : World} {b o : Nat} {op : Int} {t : List UInt8} {vk vn : Int} {vs : List UInt8} {ks : List Tree} {A : Option Addr} {c : Nat} (h : b < w.heap.size) (h0 : w.cell? ⟨b, o, none⟩ = some (.int .i64 op)) (h1 : w.cell? ⟨b, o + 1, none⟩ = some (.string (tx t)))
    (h2 : w.cell? ⟨b, o + 2, none⟩ = some (.int .i64 vk)) (h3 : w.cell? ⟨b, o + 3, none⟩ = some (.int .i64 vn)) (h4 : w.cell? ⟨b, o + 4, none⟩ = some (.string (tx vs))) (h5 : w.cell? ⟨b, o + 5, none⟩ = some (.slice A ks.length c)) (hc : ks.length ≤ c) (hk : TreesAt w A 0 ks) :
    TreeAt w b o (.node op t vk vn vs ks) := by
  rw [TreeAt]
  exact ⟨h, h0, h1, h2, h3, h4, A, c, h5, hc, hk⟩
theorem cellsExpr : Tryz.prog.cellsOf 26 = 6 := by kernel_rfl

/-! opened -/
/- strings that fit. -/
mutual
def fitT : Tree → Prop
  | .node _ t _ _ vs ks => t.length ≤ maxLen ∧ vs.length ≤ maxLen ∧ fitTs ks
def fitTs : List Tree → Prop
  | [] => True
  | x :: l => fitT x ∧ fitTs l
end
theorem fitTs_of : ∀ (l : List Tree), (∀ i (h : i < l.length), fitT l[i]) → fitTs l
  | [], h => by rw [fitTs]; trivial
  | x :: l, h => by
    rw [fitTs]
    exact ⟨h 0 (by simp), fitTs_of l fun i hi => h (i + 1) (by simpa using hi)⟩
theorem choose_tree {n : Nat} {R : Nat → Tree → Prop} (h : ∀ i, i < n → ∃ x, R i x) : ∃ l : List Tree, l.length = n ∧ ∀ i (hi : i < l.length), R i l[i] := by
  induction n with
  | zero => exact ⟨[], rfl, fun i hi => absurd hi (by simp)⟩
  | succ n ih =>
    obtain ⟨l, h1, h2⟩ := ih fun i hi => h i (by omega)
    obtain ⟨x, hx⟩ := h n (by omega)
    refine ⟨l ++ [x], by simp [h1], fun i hi => ?_⟩
    by_cases e : i < l.length
    · rw [List.getElem_append_left e]; exact h2 i e
    · have : i = n := by simp at hi; omega
      subst this
      rw [List.getElem_append_right (by omega)]
      simpa [h1] using hx
section
open Go.Deep Go.Joins Go.WideShapes Go.ChangeShapes
variable {H : Type} {enc : TypeId × Value → H} {W : World} {base : Nat} {spare : Nat → Bool} {held : Bool}
end
end Go.Proofs.YteghhmomhlnccaaGreatDoor

/- Rows of trees of the call's own; append. -/
namespace Go.Proofs.YteghhmomhlnccaaGreatDoor
open Go.RowKit Go.Lib
set_option linter.unusedVariables false
set_option linter.unusedSimpArgs false
set_option maxRecDepth 100000
open Ex (Tree)

mutual
def TreeIn (S : Nat → Prop) (w : World) (b o : Nat) : Tree → Prop
  | .node op t vk vn vs ks => S b ∧ b < w.heap.size ∧ w.cell? ⟨b, o, none⟩ = some (.int .i64 op) ∧ w.cell? ⟨b, o + 1, none⟩ = some (.string (tx t)) ∧ w.cell? ⟨b, o + 2, none⟩ = some (.int .i64 vk) ∧
      w.cell? ⟨b, o + 3, none⟩ = some (.int .i64 vn) ∧ w.cell? ⟨b, o + 4, none⟩ = some (.string (tx vs)) ∧ ∃ A c, w.cell? ⟨b, o + 5, none⟩ = some (.slice A ks.length c) ∧ ks.length ≤ c ∧ TreesIn S w A 0 ks
def TreesIn (S : Nat → Prop) (w : World) (A : Option Addr) (i : Nat) : List Tree → Prop
  | [] => True
  | x :: l => (∃ b o, A = some ⟨b, o, none⟩ ∧ TreeIn S w b (o + i * 6) x) ∧ TreesIn S w A (i + 1) l
end
mutual
theorem TreeIn.moved {S S' : Nat → Prop} {w w' : World} (hb : ∀ k, S k → k < w.heap.size → w'.heap[k]? = w.heap[k]? ∧ S' k) : ∀ {x : Tree} {b o : Nat}, TreeIn S w b o x → TreeIn S' w' b o x
  | .node op t vk vn vs ks, b, o, h => by
    rw [TreeIn] at h ⊢
    obtain ⟨hs, h0, h1, h2, h3, h4, h5, A, c, h6, h7, h8⟩ := h
    obtain ⟨e, hs'⟩ := hb b hs h0
    have k : ∀ j, w'.cell? ⟨b, j, none⟩ = w.cell? ⟨b, j, none⟩ := fun j => by simp only [World.cell?, e]
    have h0' : b < w'.heap.size := by
      rw [Array.getElem?_eq_getElem h0] at e
      exact (Array.getElem?_eq_some_iff.1 e).1
    exact ⟨hs', h0', (k _).trans h1, (k _).trans h2, (k _).trans h3, (k _).trans h4, (k _).trans h5, A, c, (k _).trans h6, h7, TreesIn.moved hb h8⟩
theorem TreesIn.moved {S S' : Nat → Prop} {w w' : World} (hb : ∀ k, S k → k < w.heap.size → w'.heap[k]? = w.heap[k]? ∧ S' k) : ∀ {l : List Tree} {A : Option Addr} {i : Nat}, TreesIn S w A i l → TreesIn S' w' A i l
  | [], A, i, h => by rw [TreesIn]; trivial
  | x :: l, A, i, h => by
    rw [TreesIn] at h ⊢
    obtain ⟨⟨b, o, e, h1⟩, h2⟩ := h
    exact ⟨⟨b, o, e, TreeIn.moved hb h1⟩, TreesIn.moved hb h2⟩
end
mutual
theorem TreeIn.at {S : Nat → Prop} {w : World} : ∀ {x : Tree} {b o : Nat}, TreeIn S w b o x → TreeAt w b o x
  | .node op t vk vn vs ks, b, o, h => by
    rw [TreeIn] at h
    rw [TreeAt]
    obtain ⟨hs, h0, h1, h2, h3, h4, h5, A, c, h6, h7, h8⟩ := h
    exact ⟨h0, h1, h2, h3, h4, h5, A, c, h6, h7, TreesIn.at h8⟩
theorem TreesIn.at {S : Nat → Prop} {w : World} : ∀ {l : List Tree} {A : Option Addr} {i : Nat}, TreesIn S w A i l → TreesAt w A i l
  | [], A, i, h => by rw [TreesAt]; trivial
  | x :: l, A, i, h => by
    rw [TreesIn] at h
    rw [TreesAt]
    obtain ⟨⟨b, o, e, h1⟩, h2⟩ := h
    exact ⟨⟨b, o, e, TreeIn.at h1⟩, TreesIn.at h2⟩
end
mutual
theorem TreeAt.inn {w : World} : ∀ {x : Tree} {b o : Nat}, TreeAt w b o x → TreeIn (· < w.heap.size) w b o x
  | .node op t vk vn vs ks, b, o, h => by
    rw [TreeAt] at h
    rw [TreeIn]
    obtain ⟨h0, h1, h2, h3, h4, h5, A, c, h6, h7, h8⟩ := h
    exact ⟨h0, h0, h1, h2, h3, h4, h5, A, c, h6, h7, TreesAt.inn h8⟩
theorem TreesAt.inn {w : World} : ∀ {l : List Tree} {A : Option Addr} {i : Nat}, TreesAt w A i l → TreesIn (· < w.heap.size) w A i l
  | [], A, i, h => by rw [TreesIn]; trivial
  | x :: l, A, i, h => by
    rw [TreesAt] at h
    rw [TreesIn]
    obtain ⟨⟨b, o, e, h1⟩, h2⟩ := h
    exact ⟨⟨b, o, e, TreeAt.inn h1⟩, TreesAt.inn h2⟩
end
theorem TreesIn.at_ {S : Nat → Prop} {w : World} : ∀ (l : List Tree) (A : Option Addr) (k : Nat), TreesIn S w A k l → ∀ i (h : i < l.length), ∃ b o, A = some ⟨b, o, none⟩ ∧ TreeIn S w b (o + (k + i) * 6) l[i]
  | [], A, k, h, i, hi => absurd hi (Nat.not_lt_zero _)
  | x :: l, A, k, h, 0, hi => by
    rw [TreesIn] at h
    obtain ⟨⟨b, o, e, h1⟩, -⟩ := h
    exact ⟨b, o, e, h1⟩
  | x :: l, A, k, h, i + 1, hi => by
    rw [TreesIn] at h
    obtain ⟨b, o, e, h1⟩ := TreesIn.at_ l A (k + 1) h.2 i (by simpa using hi)
    refine ⟨b, o, e, ?_⟩
    rw [show k + (i + 1) = k + 1 + i by omega]
    exact h1
theorem TreesIn.of {S : Nat → Prop} {w : World} : ∀ (l : List Tree) (A : Option Addr) (k : Nat), (∀ i (h : i < l.length), ∃ b o, A = some ⟨b, o, none⟩ ∧ TreeIn S w b (o + (k + i) * 6) l[i]) → TreesIn S w A k l
  | [], A, k, h => by rw [TreesIn]; trivial
  | x :: l, A, k, h => by
    rw [TreesIn]
    refine ⟨h 0 (by simp), TreesIn.of l A (k + 1) fun i hi => ?_⟩
    obtain ⟨b, o, e, h1⟩ := h (i + 1) (by simpa using hi)
    refine ⟨b, o, e, ?_⟩
    rw [show k + 1 + i = k + (i + 1) by omega]
    exact h1
/-- cells that say trees; their kids stand in memory. -/
def CellsT (S : Nat → Prop) (w : World) : List Value → List Tree → Prop
  | xs, [] => xs = []
  | xs, .node op t vk vn vs ks :: l => ∃ A c r, xs = .int .i64 op :: .string (tx t) :: .int .i64 vk :: .int .i64 vn :: .string (tx vs) :: .slice A ks.length c :: r ∧ ks.length ≤ c ∧ TreesIn S w A 0 ks ∧ CellsT S w r l
theorem CellsT.moved {S S' : Nat → Prop} {w w' : World} (hb : ∀ k, S k → k < w.heap.size → w'.heap[k]? = w.heap[k]? ∧ S' k) : ∀ {l : List Tree} {xs : List Value}, CellsT S w xs l → CellsT S' w' xs l
  | [], xs, h => h
  | .node op t vk vn vs ks :: l, xs, h => by
    obtain ⟨A, c, r, rfl, hc, hk, hr⟩ := h
    exact ⟨A, c, r, rfl, hc, hk.moved hb, CellsT.moved hb hr⟩
theorem CellsT.append {S : Nat → Prop} {w : World} : ∀ {l m : List Tree} {xs ys : List Value}, CellsT S w xs l → CellsT S w ys m → CellsT S w (xs ++ ys) (l ++ m)
  | [], m, xs, ys, h, k => by rw [show xs = [] from h]; exact k
  | .node op t vk vn vs ks :: l, m, xs, ys, h, k => by
    obtain ⟨A, c, r, rfl, hc, hk, hr⟩ := h
    exact ⟨A, c, r ++ ys, rfl, hc, hk, CellsT.append hr k⟩
theorem CellsT.length {S : Nat → Prop} {w : World} : ∀ {l : List Tree} {xs : List Value}, CellsT S w xs l → xs.length = l.length * 6
  | [], xs, h => by rw [show xs = [] from h]; rfl
  | .node op t vk vn vs ks :: l, xs, h => by
    obtain ⟨A, c, r, rfl, hc, hk, hr⟩ := h
    have := hr.length
    simp only [List.length_cons]; omega
theorem CellsT.one {S : Nat → Prop} {w : World} : ∀ {l : List Tree} {xs : List Value}, CellsT S w xs l → ∀ v ∈ xs, v.oneCell' = true
  | [], xs, h, v, hv => by rw [show xs = [] from h] at hv; cases hv
  | .node op t vk vn vs ks :: l, xs, h, v, hv => by
    obtain ⟨A, c, r, rfl, hc, hk, hr⟩ := h
    simp only [List.mem_cons] at hv
    rcases hv with rfl | rfl | rfl | rfl | rfl | rfl | hv
    any_goals rfl
    exact hr.one v hv
/-- trees whose cells stand at an address; what is below them stands in S. -/
def SrcT (S : Nat → Prop) (w : World) (A : Option Addr) (m : List Tree) : Prop := ∃ ys, CellsT S w ys m ∧ ∀ j u, ys[j]? = some u → ∃ b o, A = some ⟨b, o, none⟩ ∧ w.cell? ⟨b, o + j, none⟩ = some u
theorem SrcT.nil (S : Nat → Prop) (w : World) (A : Option Addr) : SrcT S w A [] := ⟨[], rfl, fun j u hu => by simp at hu⟩
theorem TreesIn.tail {S : Nat → Prop} {w : World} {x : Tree} {l : List Tree} {b o : Nat} (h : TreesIn S w (some ⟨b, o, none⟩) 0 (x :: l)) : TreesIn S w (some ⟨b, o + 6, none⟩) 0 l := by
  refine TreesIn.of _ _ _ fun i hi => ?_
  obtain ⟨b', o', e, k⟩ := TreesIn.at_ _ _ _ h (i + 1) (by simpa using hi)
  cases e
  refine ⟨b, o + 6, rfl, ?_⟩
  rw [show o + 6 + (0 + i) * 6 = o + (0 + (i + 1)) * 6 by omega]
  exact k
theorem cellsT_of {S : Nat → Prop} {w : World} {b : Nat} : ∀ (l : List Tree) (o : Nat), TreesIn S w (some ⟨b, o, none⟩) 0 l → ∃ xs, CellsT S w xs l ∧ ∀ j u, xs[j]? = some u → w.cell? ⟨b, o + j, none⟩ = some u
  | [], o, h => ⟨[], rfl, fun j u hu => by simp at hu⟩
  | x :: l, o, h => by
    obtain ⟨xs, h1, h2⟩ := cellsT_of l (o + 6) h.tail
    obtain ⟨b', o', e, k⟩ := TreesIn.at_ _ _ _ h 0 (by simp)
    cases e
    rw [List.getElem_cons_zero] at k
    cases x with
    | node op t vk vn vs ks =>
    rw [TreeIn] at k
    obtain ⟨-, -, c0, c1, c2, c3, c4, A, c, c5, hc, hk⟩ := k
    refine ⟨_, ⟨A, c, xs, rfl, hc, hk, h1⟩, fun j u hu => ?_⟩
    match j, hu with
    | 0, hu => simp at hu; subst hu; simpa using c0
    | 1, hu => simp at hu; subst hu; simpa using c1
    | 2, hu => simp at hu; subst hu; simpa using c2
    | 3, hu => simp at hu; subst hu; simpa using c3
    | 4, hu => simp at hu; subst hu; simpa using c4
    | 5, hu => simp at hu; subst hu; simpa using c5
    | j + 6, hu =>
      have := h2 j u (by simpa using hu)
      rw [show o + (j + 6) = o + 6 + j by omega]
      exact this
theorem TreesIn.src {S : Nat → Prop} {w : World} {A : Option Addr} {l : List Tree} (h : TreesIn S w A 0 l) : SrcT S w A l := by
  cases l with
  | nil => exact SrcT.nil _ _ _
  | cons x l =>
    obtain ⟨b, o, e, -⟩ := TreesIn.at_ _ _ _ h 0 (by simp)
    subst e
    obtain ⟨ys, h1, h2⟩ := cellsT_of (x :: l) o h
    exact ⟨ys, h1, fun j u hu => ⟨b, o, rfl, h2 j u hu⟩⟩
theorem SrcT.moved {S S' : Nat → Prop} {w w' : World} {A : Option Addr} {l : List Tree} (h : SrcT S w A l) (hb : ∀ k, S k → k < w.heap.size → w'.heap[k]? = w.heap[k]? ∧ S' k) (hA : ∀ b o, A = some ⟨b, o, none⟩ → w'.heap[b]? = w.heap[b]?) : SrcT S' w' A l := by
  obtain ⟨ys, h1, h2⟩ := h
  refine ⟨ys, h1.moved hb, fun j u hu => ?_⟩
  obtain ⟨b, o, e, h3⟩ := h2 j u hu
  exact ⟨b, o, e, by have := hA b o e; simp only [World.cell?, this] at h3 ⊢; exact h3⟩
/-- cells in a block are trees. -/
theorem CellsT.trees {S : Nat → Prop} {w : World} {b : Nat} (hb : b < w.heap.size) : ∀ {l : List Tree} {xs : List Value} (o : Nat), CellsT S w xs l → (∀ j u, xs[j]? = some u → w.cell? ⟨b, o + j, none⟩ = some u) → TreesIn (fun k => S k ∨ k = b) w (some ⟨b, o, none⟩) 0 l := by
  intro l xs o h hc
  refine TreesIn.of _ _ _ ?_
  induction l generalizing xs o with
  | nil => intro i hi; exact absurd hi (Nat.not_lt_zero _)
  | cons x l ih =>
    cases x with
    | node op t vk vn vs ks =>
    obtain ⟨A, c, r, rfl, hcc, hk, hr⟩ := h
    intro i hi
    cases i with
    | zero =>
      refine ⟨b, o, rfl, ?_⟩
      rw [List.getElem_cons_zero, TreeIn]
      exact ⟨.inr rfl, hb, by simpa using hc 0 _ rfl, by simpa using hc 1 _ rfl, by simpa using hc 2 _ rfl, by simpa using hc 3 _ rfl, by simpa using hc 4 _ rfl, A, c, by simpa using hc 5 _ rfl, hcc, hk.moved fun k h1 _ => ⟨rfl, .inl h1⟩⟩
    | succ i =>
      obtain ⟨b', o', e, k⟩ := ih (o + 6) hr (fun j u hu => by
        have := hc (j + 6) u (by simpa using hu)
        rwa [show o + (j + 6) = o + 6 + j by omega] at this) i (by simpa using hi)
      cases e
      refine ⟨b, o, rfl, ?_⟩
      rw [List.getElem_cons_succ, show o + (0 + (i + 1)) * 6 = o + 6 + (0 + i) * 6 by omega]
      exact k
/-- a row of trees of the call's own; what is below them stands in S, which has not the row's block. -/
def RowT (S : Nat → Prop) (w : World) (base : Nat) (v : Value) (l : List Tree) : Prop := ∃ xs, w.ownsRow base 26 6 v l.length xs ∧ CellsT S w xs l ∧ ∀ k, v.ownBlock = some k → ¬ S k
theorem RowT.nil (S : Nat → Prop) (w : World) (base : Nat) : RowT S w base (.slice none 0 0) [] := ⟨[], ⟨rfl, .inl ⟨rfl, rfl⟩⟩, rfl, fun k e => by cases e⟩
theorem RowT.new {S : Nat → Prop} {w : World} (hS : ¬ S w.heap.size) : RowT S (w.alloc (.cells #[] 26)) w.heap.size (.slice (some ⟨w.heap.size, 0, none⟩) 0 0) [] :=
  ⟨[], ⟨rfl, .inr ⟨w.heap.size, 0, #[], rfl, Nat.le_refl _, heap_alloc_new w _, Nat.le_refl _, Nat.zero_le _, rfl, rfl⟩⟩, rfl, fun k e => by cases e; exact hS⟩
theorem RowT.moved {S S' : Nat → Prop} {w w' : World} {base : Nat} {v : Value} {l : List Tree} (h : RowT S w base v l) (hb : ∀ k, S k → k < w.heap.size → w'.heap[k]? = w.heap[k]? ∧ S' k) (hv : ∀ k, v.ownBlock = some k → w'.heap[k]? = w.heap[k]? ∧ ¬ S' k) : RowT S' w' base v l := by
  obtain ⟨xs, h1, h2, h3⟩ := h
  exact ⟨xs, ownsRow_of_heap h1 fun b e => (hv b e).1, h2.moved hb, fun k e => (hv k e).2⟩
theorem RowT.below {S : Nat → Prop} {w w' : World} {base : Nat} {v : Value} {l : List Tree} (h : RowT S w base v l) (hb : Below w.heap.size w w') : RowT S w' base v l := by
  have h' := h
  obtain ⟨xs, h1, h2, h3⟩ := h
  refine h'.moved (fun k hS hk => ⟨hb.block k hk, hS⟩) fun k e => ⟨?_, h3 k e⟩
  obtain ⟨cur, hc⟩ := row_kind h1 e
  exact hb.block k (Array.getElem?_eq_some_iff.1 hc).1
theorem RowT.block {S : Nat → Prop} {w : World} {base : Nat} {v : Value} {l : List Tree} (h : RowT S w base v l) : ∀ k, v.ownBlock = some k → base ≤ k ∧ k < w.heap.size := fun k e => by
  obtain ⟨xs, h1, h2, h3⟩ := h
  obtain ⟨cur, hc⟩ := row_kind h1 e
  exact ⟨own_ge h1 e, (Array.getElem?_eq_some_iff.1 hc).1⟩
theorem RowT.shape {S : Nat → Prop} {w : World} {base : Nat} {v : Value} {l : List Tree} (h : RowT S w base v l) : ∃ A c, v = .slice A l.length c ∧ l.length ≤ c ∧ TreesIn (fun k => S k ∨ v.ownBlock = some k) w A 0 l ∧ c ≤ maxLen := by
  obtain ⟨xs, h1, h2, h3⟩ := h
  have hl := h2.length
  rcases h1.2 with ⟨rfl, h0⟩ | ⟨g, cap, cur, rfl, hb, hh, hn, hm, hs, ht⟩
  · have : l = [] := List.eq_nil_of_length_eq_zero h0
    subst this
    exact ⟨none, 0, rfl, Nat.le_refl _, by rw [TreesIn]; trivial, Nat.zero_le _⟩
  · refine ⟨_, cap, rfl, hn, (h2.trees (Array.getElem?_eq_some_iff.1 hh).1 0 fun j u hu => ?_).moved (fun k hk _ => ⟨rfl, hk.imp id (fun e => by rw [e]; rfl)⟩), hm⟩
    have hj : j < xs.length := (List.getElem?_eq_some_iff.1 hu).1
    rw [Nat.zero_add, cell_of_row w g j cur 26 (0, 0) hh, ← hu, ← ht, List.getElem?_take, if_pos (by omega)]
    simp
theorem infoExpr : (Tryz.prog.info? 26).map (fun i => (i.zero.map (fun z => z.cells.size), i.size, decide (i.bytes ≤ 1000))) = some (some 6, 6, true) := by kernel_rfl
/-- trees are appended. -/
theorem append_trees {S : Nat → Prop} {w : World} {base : Nat} {v : Value} {l m : List Tree} (h : RowT S w base v l) {A : Option Addr} {c : Nat} (hm : SrcT S w A m) (hn : l.length + m.length ≤ 1000000) (hbase : base ≤ w.heap.size) (hS : ¬ S w.heap.size) :
    ∃ v' w', Sem.run Tryz.prog (Builtin.append_ #[24, 24] 24 #[v, .slice A m.length c]) w = .ok v' w' ∧ RowT S w' base v' (l ++ m) ∧ Touch v.ownBlock.toList w w' ∧ (v'.ownBlock = v.ownBlock ∨ v'.ownBlock = some w.heap.size) := by
  obtain ⟨xs, h1, h2, h3⟩ := h
  have hinf := infoExpr
  cases hi : Tryz.prog.info? 26 with
  | none => rw [hi] at hinf; simp at hinf
  | some i =>
    rw [hi] at hinf
    simp at hinf
    obtain ⟨⟨z, hz, i1⟩, i2, i3⟩ := hinf
    have hb : ∀ (a b : Nat), a ≤ 1000001 → b ≤ 1000 → a * b ≤ 140737488355328 := fun a b h1 h2 => Nat.le_trans (Nat.mul_le_mul h1 h2) (by omega)
    obtain ⟨ys, k1, k2⟩ := hm
    cases A with
    | none =>
      have hm0 : m = [] := by
        cases m with
        | nil => rfl
        | cons x r =>
          cases x with
          | node op t vk vn vs ks =>
          obtain ⟨A, c, r', rfl, -⟩ := k1
          obtain ⟨b, o, e, _⟩ := k2 0 _ rfl
          cases e
      subst hm0
      refine ⟨v, w, ?_, by simpa using ⟨xs, h1, h2, h3⟩, Touch.refl _ _, .inl rfl⟩
      rcases h1.2 with ⟨rfl, _⟩ | ⟨g, cap, cur, rfl, _, _, hnc, _⟩
      · simp [Builtin.append_, run_underlying Tryz.underlying24, sizeOf, typeInfo, hi, Builtin.lenOf, Builtin.firstCells]
      · simp [Builtin.append_, run_underlying Tryz.underlying24, sizeOf, typeInfo, hi, Builtin.lenOf, Builtin.firstCells, hnc, storeCells]
    | some a =>
      have key : ∀ j u, ys[j]? = some u → w.cell? (a.add j) = some u := fun j u hu => by
        obtain ⟨b, o, e, hc⟩ := k2 j u hu
        cases e
        rw [Addr.add_lit]
        exact hc
      obtain ⟨v', w', hr, ho, hg, _, hb'⟩ := run_append_own_at (P := Tryz.prog) w base 24 24 26 i z 6 i.bytes Tryz.underlying24 hi hz i2 rfl i1 (by omega) v l.length xs h1 a m.length c ys k1.length key k1.one (by simp only [maxLen]; omega) (hb _ _ (by omega) i3) hbase
      have hT : Touch v.ownBlock.toList w w' := Touch.of_grown hg
      have hT2 : ∀ k, S k → k < w.heap.size → w'.heap[k]? = w.heap[k]? ∧ S k := fun k hk hlt => ⟨hT.block k hlt (fun hk' => h3 k (by simpa using hk') hk), hk⟩
      refine ⟨v', w', hr, ⟨xs ++ ys, by rw [List.length_append]; exact ho, (h2.append k1).moved hT2, fun k e => ?_⟩, hT, hb'⟩
      rcases hb' with hb' | hb'
      · exact h3 k (by rw [← hb']; exact e)
      · rw [hb'] at e; cases e; exact hS
theorem RowT.src {S : Nat → Prop} {w : World} {base : Nat} {v : Value} {l : List Tree} (h : RowT S w base v l) : ∃ A c, v = .slice A l.length c ∧ l.length ≤ c ∧ c ≤ maxLen ∧ SrcT S w A l ∧ ∀ b o, A = some ⟨b, o, none⟩ → v.ownBlock = some b := by
  obtain ⟨xs, h1, h2, h3⟩ := h
  have hl := h2.length
  rcases h1.2 with ⟨rfl, h0⟩ | ⟨g, cap, cur, rfl, hb, hh, hn, hm, hs, ht⟩
  · have : l = [] := List.eq_nil_of_length_eq_zero h0
    subst this
    exact ⟨none, 0, rfl, Nat.le_refl _, Nat.zero_le _, SrcT.nil _ _ _, fun b o e => by cases e⟩
  · refine ⟨_, cap, rfl, hn, hm, ⟨xs, h2, fun j u hu => ⟨g, 0, rfl, ?_⟩⟩, fun b o e => by cases e; rfl⟩
    have hj : j < xs.length := (List.getElem?_eq_some_iff.1 hu).1
    rw [Nat.zero_add, cell_of_row w g j cur 26 (0, 0) hh, ← hu, ← ht, List.getElem?_take, if_pos (by omega)]
    simp
theorem SrcT.head {S : Nat → Prop} {w : World} {A : Option Addr} {op : Int} {t : List UInt8} {vk vn : Int} {vs : List UInt8} {ks : List Tree} {l : List Tree} (h : SrcT S w A (.node op t vk vn vs ks :: l)) :
    ∃ b o B c, A = some ⟨b, o, none⟩ ∧ b < w.heap.size ∧ w.cell? ⟨b, o, none⟩ = some (.int .i64 op) ∧ w.cell? ⟨b, o + 1, none⟩ = some (.string (tx t)) ∧ w.cell? ⟨b, o + 2, none⟩ = some (.int .i64 vk) ∧ w.cell? ⟨b, o + 3, none⟩ = some (.int .i64 vn) ∧ w.cell? ⟨b, o + 4, none⟩ = some (.string (tx vs)) ∧
      w.cell? ⟨b, o + 5, none⟩ = some (.slice B ks.length c) ∧ ks.length ≤ c ∧ TreesIn S w B 0 ks ∧ SrcT S w (some ⟨b, o + 6, none⟩) l := by
  obtain ⟨ys, h1, h2⟩ := h
  obtain ⟨B, c, r, rfl, hc, hk, hr⟩ := h1
  obtain ⟨b, o, rfl, c0⟩ := h2 0 _ rfl
  have at_ : ∀ j u, (Value.int IntKind.i64 op :: .string (tx t) :: .int .i64 vk :: .int .i64 vn :: .string (tx vs) :: .slice B ks.length c :: r)[j]? = some u → w.cell? ⟨b, o + j, none⟩ = some u := fun j u hu => by
    obtain ⟨b', o', e, k⟩ := h2 j u hu
    cases e; exact k
  refine ⟨b, o, B, c, rfl, World.block_lt_of_cell? w _ c0, by simpa using c0, at_ 1 _ rfl, at_ 2 _ rfl, at_ 3 _ rfl, at_ 4 _ rfl, at_ 5 _ rfl, hc, hk, r, hr, fun j u hu => ⟨b, o + 6, rfl, ?_⟩⟩
  have := at_ (j + 6) u (by simpa using hu)
  rwa [show o + (j + 6) = o + 6 + j by omega] at this
theorem SrcT.below {S : Nat → Prop} {w w' : World} {A : Option Addr} {l : List Tree} (h : SrcT S w A l) (hb : Below w.heap.size w w') : SrcT S w' A l := by
  obtain ⟨ys, h1, h2⟩ := h
  refine ⟨ys, h1.moved fun k hS hk => ⟨hb.block k hk, hS⟩, fun j u hu => ?_⟩
  obtain ⟨b, o, e, h3⟩ := h2 j u hu
  exact ⟨b, o, e, (hb.cell (p := ⟨b, o + j, none⟩) (World.block_lt_of_cell? w _ h3)).trans h3⟩
theorem TreesIn.below {S : Nat → Prop} {w w' : World} {A : Option Addr} {l : List Tree} (h : TreesIn S w A 0 l) (hb : Below w.heap.size w w') : TreesIn S w' A 0 l := h.moved fun k hS hk => ⟨hb.block k hk, hS⟩
/-- trees of an older world. -/
theorem TreesAt.old {w0 w : World} {A : Option Addr} {l : List Tree} (h : TreesAt w0 A 0 l) (hb : Below w0.heap.size w0 w) : TreesIn (· < w0.heap.size) w A 0 l := h.inn.moved fun k _ hk => ⟨hb.block k hk, hk⟩
end Go.Proofs.YteghhmomhlnccaaGreatDoor
