/- Bytes appended one by one, beside a value's block. -/
import Derived.Test.YthcfdggdippocaaGreatDoorM5
import Derived.Test.YthcfdggdippocaaGreatDoorV8
import Derived.Maps.AppendAt
import Derived.Laws.OwnMore
import Derived.Laws.IdiomStrings
import Derived.Lib.AppendZeros
namespace Go.Proofs.YthcfdggdippocaaGreatDoor
open Go.RowKit Go.Lib
set_option linter.unusedVariables false

/-- bytes as cells. -/
def bcs (l : List UInt8) : List Value := l.map fun b => .int .u8 (b.toNat : Int)
theorem bcs_length (l : List UInt8) : (bcs l).length = l.length := by simp [bcs]
/-- what has been read so far. -/
structure Bq (w W : World) (k n : Int) (s : ByteArray) (g cap : Nat) (acc : List UInt8) : Prop where
  own : W.ownsRow (w.heap.size + 1) 5 1 (.slice (some ⟨g, 0, none⟩) acc.length cap) acc.length (bcs acc)
  q : Row3 W w.heap.size k n s
  b : Below w.heap.size w W
theorem byte_info : (Tryz.prog.info? 5).map (fun i => (i.zero, i.size, i.bytes)) = some (some (.int .u8 0), 1, 1) := by kernel_rfl
theorem Bq.form {w W : World} {k n : Int} {s : ByteArray} {g cap : Nat} {acc : List UInt8} (h : Bq w W k n s g cap acc) (hn : 0 < acc.length) : w.heap.size + 1 ≤ g := by
  rcases h.own.2 with ⟨e, _⟩ | ⟨g', cap', cur, e, hg, _⟩
  · cases e
  · injection e with e _ _
    injection e with e
    injection e with e _ _
    omega
theorem Bq.ge {w W : World} {k n : Int} {s : ByteArray} {g cap : Nat} {acc : List UInt8} (h : Bq w W k n s g cap acc) : w.heap.size + 1 ≤ g := by
  rcases h.own.2 with ⟨e, _⟩ | ⟨g', cap', cur, e, hg, _⟩
  · cases e
  · injection e with e _ _
    injection e with e
    injection e with e _ _
    omega
theorem Bq.add {w W : World} {k n : Int} {s : ByteArray} {g cap : Nat} {acc : List UInt8} (h : Bq w W k n s g cap acc) (c : UInt8) (x : Int) (hx : x = (c.toNat : Int)) (hl : acc.length ≤ 1000) :
    ∃ g' cap' W', (Builtin.append_ #[45, 45] 45 #[.slice (some ⟨g, 0, none⟩) acc.length cap, .slice (some ⟨W.heap.size, 0, none⟩) 1 1]).run Tryz.prog (W.alloc (.cells #[.int .u8 x] 5)) = .ok (.slice (some ⟨g', 0, none⟩) (acc ++ [c]).length cap') W' ∧ Bq w W' k n s g' cap' (acc ++ [c]) := by
  subst hx
  obtain ⟨i0, hi0, hz0, hz1, hz2⟩ := info_parts byte_info
  have hg := h.ge
  have hown := h.own.alloc (.cells #[.int .u8 (c.toNat : Int)] 5)
  obtain ⟨v', W', hrun, hown', hgrow, hnil, hat⟩ := run_append_own_at (P := Tryz.prog) (W.alloc (.cells #[.int .u8 (c.toNat : Int)] 5)) (w.heap.size + 1) 45 45 5 i0 (.int .u8 0) 1 1 Tryz.underlying45 hi0 hz0 hz1 hz2 rfl (by decide)
    _ _ _ hown ⟨W.heap.size, 0, none⟩ 1 1 [.int .u8 (c.toNat : Int)] rfl (by
      intro j u hj
      cases j with
      | zero =>
        simp at hj
        subst hj
        have e : ((⟨W.heap.size, 0, none⟩ : Addr).add 0) = ⟨W.heap.size, 0, none⟩ := Addr.add_lit ..
        rw [e]
        exact cell_of_row _ _ 0 _ _ _ (heap_alloc_new W _)
      | succ j => simp at hj) (by simp [Value.oneCell']) (by unfold maxLen; omega) (by omega) (by have := h.q.lt; simp; omega)
  have e1 : (acc ++ [c]).length = acc.length + 1 := by simp
  have e2 : bcs (acc ++ [c]) = bcs acc ++ [.int .u8 (c.toNat : Int)] := by simp [bcs]
  rcases hown'.2 with ⟨_, e⟩ | ⟨g', cap', cur, rfl, hg', hh', _⟩
  · omega
  · refine ⟨g', cap', W', by rw [e1]; exact hrun, ?_, ?_, ?_⟩
    · rw [e1, e2]; exact hown'
    · have hq := h.q.alloc (.cells #[.int .u8 (c.toNat : Int)] 5)
      exact (hgrow.block _ hq.lt (by simp [Value.ownBlock]; omega)).trans hq
    · refine (h.b.alloc h.b.size _).grown hgrow (by have := h.b.size; simp; omega) (fun kk hk => ?_)
      simp [Value.ownBlock] at hk
      omega
theorem Bq.text {w W : World} {k n : Int} {s : ByteArray} {g cap : Nat} {acc : List UInt8} (h : Bq w W k n s g cap acc) :
    (convert 45 9 (.slice (some ⟨g, 0, none⟩) acc.length cap)).run Tryz.prog W = .ok (.string (str acc)) W :=
  run_convert_bytes_back (P := Tryz.prog) _ 45 9 5 ⟨g, 0, none⟩ cap acc Tryz.underlying45 Tryz.underlying5 Tryz.underlying9 (fun j hj => by
    exact h.own.cells (g := g) rfl j _ (by simp [bcs, List.getElem?_eq_getElem hj]))

theorem getD (s : ByteArray) (j : Nat) (h : j < s.size) : s[j] = s.data.toList[j]'(by simpa using h) := by simp; rfl
end Go.Proofs.YthcfdggdippocaaGreatDoor
