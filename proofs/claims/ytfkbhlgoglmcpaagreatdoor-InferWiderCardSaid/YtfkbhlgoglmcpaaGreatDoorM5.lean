/- A value's block. -/
import Derived.Test.YtfkbhlgoglmcpaaGreatDoorV1
namespace Go.Proofs.YtfkbhlgoglmcpaaGreatDoor
open Go.RowKit

/-- a value's block. -/
def Row3 (w : World) (g : Nat) (k n : Int) (s : ByteArray) : Prop := w.heap[g]? = some (.cells #[.int .i64 k, .int .i64 n, .string s] 23 (0, 0))
theorem Row3.lt {w : World} {g : Nat} {k n : Int} {s : ByteArray} (h : Row3 w g k n s) : g < w.heap.size := by
  rcases Nat.lt_or_ge g w.heap.size with hlt | hge
  · exact hlt
  · unfold Row3 at h; rw [Array.getElem?_eq_none hge] at h; cases h
theorem Row3.new (w : World) (k n : Int) (s : ByteArray) : Row3 (w.alloc (.cells #[.int .i64 k, .int .i64 n, .string s] 23)) w.heap.size k n s := heap_alloc_new w _
theorem Row3.below {w w' : World} {g : Nat} {k n : Int} {s : ByteArray} {B : Nat} (h : Row3 w g k n s) (hb : Below B w w') (hg : g < B) : Row3 w' g k n s := (hb.block g hg).trans h
theorem Row3.alloc {w : World} {g : Nat} {k n : Int} {s : ByteArray} (h : Row3 w g k n s) (o : Obj) : Row3 (w.alloc o) g k n s := (Below.heap_alloc w o g h.lt).trans h
theorem Row3.holds {w : World} {g : Nat} {k n : Int} {s : ByteArray} (h : Row3 w g k n s) : Holds3 w g k n s :=
  ⟨cell_of_row w g 0 _ _ _ h, cell_of_row w g 1 _ _ _ h, cell_of_row w g 2 _ _ _ h⟩
theorem Row3.frozen {w : World} {g : Nat} {k n : Int} {s : ByteArray} (h : Row3 w g k n s) (i : Nat) : w.frozen? ⟨g, i, none⟩ = false := by
  unfold Row3 at h
  simp [World.frozen?, h]
theorem Row3.set3 {w : World} {g : Nat} {k n : Int} {s : ByteArray} (h : Row3 w g k n s) (k' n' : Int) (s' : ByteArray) :
    Row3 (((w.setCell ⟨g, 0, none⟩ (.int .i64 k')).setCell ⟨g, 1, none⟩ (.int .i64 n')).setCell ⟨g, 2, none⟩ (.string s')) g k' n' s' := by
  have h0 := heap_setCell_same w g 0 _ _ (.int .i64 k') h
  have h1 := heap_setCell_same _ g 1 _ _ (.int .i64 n') h0
  have h2 := heap_setCell_same _ g 2 _ _ (.string s') h1
  simpa [Row3] using h2

end Go.Proofs.YtfkbhlgoglmcpaaGreatDoor
