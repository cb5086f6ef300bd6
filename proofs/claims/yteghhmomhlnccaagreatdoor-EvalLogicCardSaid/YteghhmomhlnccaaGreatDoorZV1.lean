import Derived.Test.YteghhmomhlnccaaGreatDoorRows
import Derived.WalkKit
import Derived.ProofKit
import Derived.OpenShut
import Derived.IntWalk
import Derived.Lib.Hide
import Derived.WalkSmall
import Derived.RegionTactic
import Derived.ChangeAlike
import Derived.BigRegion
import Derived.Deep.QuietTactic
import Derived.BigQuiet
import Derived.Deep.Fields
import Derived.Deep.RegionHeld3
import Derived.Laws.StructEq
import Derived.Below
import Derived.Handy

/- Values: whether two are the same; Null, Int, Bool, Text; whether one is plain. -/
namespace Go.Proofs.YteghhmomhlnccaaGreatDoor
open Go.RowKit

/-- a value of the document, as the program holds it. -/
abbrev val (k n : Int) (s : ByteArray) : Value := .agg #[.int .i64 k, .int .i64 n, .string s]

theorem cellsVal : Tryz.prog.cellsOf 23 = 3 := by kernel_rfl
theorem fieldsVal : Tryz.prog.underlying 23 = some (.struct (Tryz.prog.fieldsOf 23)) := by kernel_rfl
theorem heldVal : Tryz.prog.stoodInHeld 23 = false := by kernel_rfl
/-- are two values the same? -/
def same (k n : Int) (s : ByteArray) (k' n' : Int) (s' : ByteArray) : Bool := k == k' && n == n' && s.toList == s'.toList
theorem same_iff {k n : Int} {s : ByteArray} {k' n' : Int} {s' : ByteArray} : same k n s k' n' s' = true ↔ k = k' ∧ n = n' ∧ s.toList = s'.toList := by
  simp [same, and_assoc]
theorem eqFieldsVal (k n : Int) (s : ByteArray) (k' n' : Int) (s' : ByteArray) (w : World) :
    (Op.eqFields 9999 #[.int .i64 k, .int .i64 n, .string s] #[.int .i64 k', .int .i64 n', .string s'] (Tryz.prog.fieldsOf 23).toList).run Tryz.prog w = .ok (same k n s k' n' s') w := by
  simp only [Program.fieldsOf, Tryz.underlying23]
  by_cases h1 : k = k'
  · by_cases h2 : n = n'
    · by_cases h3 : s.toList = s'.toList <;> simp [go_sem, h1, h2, h3, same, Op.eqFields, Tryz.underlying3, Tryz.underlying2, Tryz.underlying9]
    · simp [go_sem, h1, h2, same, Op.eqFields, Tryz.underlying3, Tryz.underlying2]
  · simp [go_sem, h1, same, Op.eqFields, Tryz.underlying3]
theorem eqVal (k n : Int) (s : ByteArray) (k' n' : Int) (s' : ByteArray) (w : World) :
    (binOp .eql 23 (val k n s) (val k' n' s')).run Tryz.prog w = .ok (.bool (same k n s k' n' s')) w := by
  rw [run_eql_struct, run_equalIn_struct w 9999 _ _ _ fieldsVal heldVal, eqFieldsVal]
  rfl
theorem neqVal (k n : Int) (s : ByteArray) (k' n' : Int) (s' : ByteArray) (w : World) :
    (binOp .neq 23 (val k n s) (val k' n' s')).run Tryz.prog w = .ok (.bool (!same k n s k' n' s')) w := by
  rw [run_neq_struct, run_equalIn_struct w 9999 _ _ _ fieldsVal heldVal, eqFieldsVal]
  rfl

/-- an operation that is taken first: its slot written out. -/
theorem takeAt {P : Program} {ops : Array Oper} {Q : Exit → Act → World → Prop} {md : Region.Mode} {S : World → Prop} (i d : Nat) {oi : Oper} {v : Value} {fuel : Nat} {listed : Array Bool} {a : Act} {w : World}
    (hi : ops[i]? = some oi) (hd : oi.dst = some d) (hs : Region.noSelect ops = true) (hf : Region.free md ops listed i = true) (hr : (Region.ready md ops listed).contains i = true)
    (hQ : ∀ c a w, Q (.panic c) (a.put oi.dst v) w → Q (.panic c) a w) (hy : YieldsIf P ops S oi v a) (hS : S w)
    (h : wpAnyH P md ops Q S fuel (listed.setIfInBounds i true) (a.put (some d) v) w) : wpAnyH P md ops Q S (fuel + 1) listed a w :=
  wpAnyH_take hi hs hf hr hQ hy hS (by rw [hd]; exact h)
/-- one step more. -/
theorem bstep {a b c : World} (h : Below a.heap.size a b) (k : Below b.heap.size b c) : Below a.heap.size a c := h.trans (k.mono h.size)
theorem alloc_size (w : World) (o : Obj) : (w.alloc o).heap.size = w.heap.size + 1 := by simp
/-- a value's three cells in a block. -/
def Holds3 (w : World) (g : Nat) (k n : Int) (s : ByteArray) : Prop := w.cell? ⟨g, 0, none⟩ = some (.int .i64 k) ∧ w.cell? ⟨g, 1, none⟩ = some (.int .i64 n) ∧ w.cell? ⟨g, 2, none⟩ = some (.string s)
theorem Holds3.lt {w : World} {g : Nat} {k n : Int} {s : ByteArray} (h : Holds3 w g k n s) : g < w.heap.size := World.block_lt_of_cell? w _ h.1
theorem Holds3.below {w w1 : World} {g : Nat} {k n : Int} {s : ByteArray} {B : Nat} (h : Holds3 w g k n s) (hb : Below B w w1) (hg : g < B) : Holds3 w1 g k n s :=
  ⟨(hb.cell (p := ⟨g, 0, none⟩) hg).trans h.1, (hb.cell (p := ⟨g, 1, none⟩) hg).trans h.2.1, (hb.cell (p := ⟨g, 2, none⟩) hg).trans h.2.2⟩
theorem Holds3.new (w : World) (k n : Int) (s : ByteArray) (t : TypeId) : Holds3 (w.alloc (.cells #[.int .i64 k, .int .i64 n, .string s] t)) w.heap.size k n s := by
  refine ⟨?_, ?_, ?_⟩ <;> simp [go_sem]
theorem Holds3.alloc {w : World} {g : Nat} {k n : Int} {s : ByteArray} (h : Holds3 w g k n s) (o : Obj) : Holds3 (w.alloc o) g k n s :=
  ⟨(World.cell?_alloc_lt w o _ h.lt).trans h.1, (World.cell?_alloc_lt w o _ h.lt).trans h.2.1, (World.cell?_alloc_lt w o _ h.lt).trans h.2.2⟩
end Go.Proofs.YteghhmomhlnccaaGreatDoor

/- A value's block. -/
namespace Go.Proofs.YteghhmomhlnccaaGreatDoor
open Go.RowKit

/-- a value's block. -/
def Row3 (w : World) (g : Nat) (k n : Int) (s : ByteArray) : Prop := w.heap[g]? = some (.cells #[.int .i64 k, .int .i64 n, .string s] 23 (0, 0))
theorem Row3.lt {w : World} {g : Nat} {k n : Int} {s : ByteArray} (h : Row3 w g k n s) : g < w.heap.size := by
  rcases Nat.lt_or_ge g w.heap.size with hlt | hge
  · exact hlt
  · unfold Row3 at h; rw [Array.getElem?_eq_none hge] at h; cases h
theorem Row3.new (w : World) (k n : Int) (s : ByteArray) : Row3 (w.alloc (.cells #[.int .i64 k, .int .i64 n, .string s] 23)) w.heap.size k n s := heap_alloc_new w _
theorem Row3.below {w w' : World} {g : Nat} {k n : Int} {s : ByteArray} {B : Nat} (h : Row3 w g k n s) (hb : Below B w w') (hg : g < B) : Row3 w' g k n s := (hb.block g hg).trans h
theorem Row3.alloc {w : World} {g : Nat} {k n : Int} {s : ByteArray} (h : Row3 w g k n s) (o : Obj) : Row3 (w.alloc o) g k n s := (Below.heap_alloc w o g h.lt).trans h
theorem Row3.holds {w : World} {g : Nat} {k n : Int} {s : ByteArray} (h : Row3 w g k n s) : Holds3 w g k n s :=
  ⟨cell_of_row w g 0 _ _ _ h, cell_of_row w g 1 _ _ _ h, cell_of_row w g 2 _ _ _ h⟩
theorem Row3.frozen {w : World} {g : Nat} {k n : Int} {s : ByteArray} (h : Row3 w g k n s) (i : Nat) : w.frozen? ⟨g, i, none⟩ = false := by
  unfold Row3 at h
  simp [World.frozen?, h]
theorem Row3.set3 {w : World} {g : Nat} {k n : Int} {s : ByteArray} (h : Row3 w g k n s) (k' n' : Int) (s' : ByteArray) :
    Row3 (((w.setCell ⟨g, 0, none⟩ (.int .i64 k')).setCell ⟨g, 1, none⟩ (.int .i64 n')).setCell ⟨g, 2, none⟩ (.string s')) g k' n' s' := by
  have h0 := heap_setCell_same w g 0 _ _ (.int .i64 k') h
  have h1 := heap_setCell_same _ g 1 _ _ (.int .i64 n') h0
  have h2 := heap_setCell_same _ g 2 _ _ (.string s') h1
  simpa [Row3] using h2

end Go.Proofs.YteghhmomhlnccaaGreatDoor
