/- The reference's Read. -/
import Derived.Test.YtpffechllcnnaaaGreatDoorRD
import Derived.Test.YtpffechllcnnaaaGreatDoorC6
import Derived.Maps.AppendAt
import Derived.Laws.OwnMore
namespace Go.Proofs.YtpffechllcnnaaaGreatDoor
open Go.RowKit Go.Lib
set_option linter.unusedVariables false

theorem refread_any (s : ByteArray) (w : World) (hs : s.size ≤ 6000) :
    Calls Tryz.prog 21 #[.string s] w fun e w' => e = .returned (.tuple #[.int .i64 (rv s.data.toList), .int .i64 (re s.data.toList)]) ∧ Below w.heap.size w w' := by
  by_cases h0 : s.size = 0
  · have hde : s = ByteArray.empty := by
      apply ByteArray.ext
      exact Array.eq_empty_of_size_eq_zero h0
    subst hde
    exact refread_none w
  · by_cases hm : (s[0].toNat : Int) = 45
    · exact refread_minus s w hs (by omega) hm
    · exact refread_plain s w hs (by omega) hm

/-- bytes as cells. -/
def bcs (l : List UInt8) : List Value := l.map fun b => .int .u8 (b.toNat : Int)
theorem bcs_length (l : List UInt8) : (bcs l).length = l.length := by simp [bcs]
/-- what has been read so far. -/
structure Buf (w W : World) (g cap : Nat) (acc : List UInt8) : Prop where
  own : W.ownsRow (w.heap.size + 1) 5 1 (.slice (some ⟨g, 0, none⟩) acc.length cap) acc.length (bcs acc)
  q : Row3 W w.heap.size 0 0 ⟨#[]⟩
  b : Below w.heap.size w W
theorem byte_info : (Tryz.prog.info? 5).map (fun i => (i.zero, i.size, i.bytes)) = some (some (.int .u8 0), 1, 1) := by kernel_rfl
theorem Buf.form {w W : World} {g cap : Nat} {acc : List UInt8} (h : Buf w W g cap acc) (hn : 0 < acc.length) : w.heap.size + 1 ≤ g := by
  rcases h.own.2 with ⟨e, _⟩ | ⟨g', cap', cur, e, hg, _⟩
  · cases e
  · injection e with e _ _
    injection e with e
    injection e with e _ _
    omega
theorem Buf.ge {w W : World} {g cap : Nat} {acc : List UInt8} (h : Buf w W g cap acc) : w.heap.size + 1 ≤ g := by
  rcases h.own.2 with ⟨e, _⟩ | ⟨g', cap', cur, e, hg, _⟩
  · cases e
  · injection e with e _ _
    injection e with e
    injection e with e _ _
    omega
theorem Buf.add {w W : World} {g cap : Nat} {acc : List UInt8} (h : Buf w W g cap acc) (c : UInt8) (x : Int) (hx : x = (c.toNat : Int)) (hl : acc.length ≤ 1000) :
    ∃ g' cap' W', (Builtin.append_ #[49, 49] 49 #[.slice (some ⟨g, 0, none⟩) acc.length cap, .slice (some ⟨W.heap.size, 0, none⟩) 1 1]).run Tryz.prog (W.alloc (.cells #[.int .u8 x] 5)) = .ok (.slice (some ⟨g', 0, none⟩) (acc ++ [c]).length cap') W' ∧ Buf w W' g' cap' (acc ++ [c]) := by
  subst hx
  obtain ⟨i0, hi0, hz0, hz1, hz2⟩ := info_parts byte_info
  have hg := h.ge
  have hown := h.own.alloc (.cells #[.int .u8 (c.toNat : Int)] 5)
  obtain ⟨v', W', hrun, hown', hgrow, hnil, hat⟩ := run_append_own_at (P := Tryz.prog) (W.alloc (.cells #[.int .u8 (c.toNat : Int)] 5)) (w.heap.size + 1) 49 49 5 i0 (.int .u8 0) 1 1 Tryz.underlying49 hi0 hz0 hz1 hz2 rfl (by decide)
    _ _ _ hown ⟨W.heap.size, 0, none⟩ 1 1 [.int .u8 (c.toNat : Int)] rfl (by
      intro j u hj
      cases j with
      | zero =>
        simp at hj
        subst hj
        have e : ((⟨W.heap.size, 0, none⟩ : Addr).add 0) = ⟨W.heap.size, 0, none⟩ := Addr.add_lit ..
        rw [e]
        exact cell_of_row _ _ 0 _ _ _ (heap_alloc_new W _)
      | succ j => simp at hj) (by simp [Value.oneCell']) (by unfold maxLen; omega) (by omega) (by have := h.q.lt; simp; omega)
  have e1 : (acc ++ [c]).length = acc.length + 1 := by simp
  have e2 : bcs (acc ++ [c]) = bcs acc ++ [.int .u8 (c.toNat : Int)] := by simp [bcs]
  rcases hown'.2 with ⟨_, e⟩ | ⟨g', cap', cur, rfl, hg', hh', _⟩
  · omega
  · refine ⟨g', cap', W', by rw [e1]; exact hrun, ?_, ?_, ?_⟩
    · rw [e1, e2]; exact hown'
    · have hq := h.q.alloc (.cells #[.int .u8 (c.toNat : Int)] 5)
      exact (hgrow.block _ hq.lt (by simp [Value.ownBlock]; omega)).trans hq
    · refine (h.b.alloc h.b.size _).grown hgrow (by have := h.b.size; simp; omega) (fun k hk => ?_)
      simp [Value.ownBlock] at hk
      omega
theorem Buf.text {w W : World} {g cap : Nat} {acc : List UInt8} (h : Buf w W g cap acc) :
    (convert 49 9 (.slice (some ⟨g, 0, none⟩) acc.length cap)).run Tryz.prog W = .ok (.string (str acc)) W :=
  run_convert_bytes_back (P := Tryz.prog) _ 49 9 5 ⟨g, 0, none⟩ cap acc Tryz.underlying49 Tryz.underlying5 Tryz.underlying9 (fun j hj => by
    exact h.own.cells (g := g) rfl j _ (by simp [bcs, List.getElem?_eq_getElem hj]))

theorem unq_go {l acc : List UInt8} {i : Nat} (h : unq l.tail = (unq (l.drop i)).map (acc ++ ·)) (hi : i < l.length) (hc : l[i] ≠ 39) : unq l.tail = (unq (l.drop (i + 1))).map ((acc ++ [l[i]]) ++ ·) := by
  rw [h, List.drop_eq_getElem_cons hi]
  conv => lhs; unfold unq
  rw [if_neg hc, Option.map_map]
  congr 1
  funext u
  simp
theorem unq_last {l acc : List UInt8} {i : Nat} (h : unq l.tail = (unq (l.drop i)).map (acc ++ ·)) (hi : i + 1 = l.length) (hc : l[i]'(by omega) = 39) : unq l.tail = some acc := by
  rw [h, List.drop_eq_getElem_cons (by omega), hc, List.drop_of_length_le (by omega)]
  simp [unq]
theorem unq_bad {l acc : List UInt8} {i : Nat} (h : unq l.tail = (unq (l.drop i)).map (acc ++ ·)) (hi : i + 1 < l.length) (hc : l[i]'(by omega) = 39) (hd : l[i + 1] ≠ 39) : unq l.tail = none := by
  rw [h, List.drop_eq_getElem_cons (by omega), hc, List.drop_eq_getElem_cons hi]
  simp [unq, hd]
theorem unq_two {l acc : List UInt8} {i : Nat} (h : unq l.tail = (unq (l.drop i)).map (acc ++ ·)) (hi : i + 1 < l.length) (hc : l[i]'(by omega) = 39) (hd : l[i + 1] = 39) : unq l.tail = (unq (l.drop (i + 2))).map ((acc ++ [39]) ++ ·) := by
  rw [h, List.drop_eq_getElem_cons (by omega), hc, List.drop_eq_getElem_cons hi, hd]
  simp [unq, Option.map_map]
  congr 1
theorem unq_end {l acc : List UInt8} {i : Nat} (h : unq l.tail = (unq (l.drop i)).map (acc ++ ·)) (hi : l.length ≤ i) : unq l.tail = none := by
  rw [h, List.drop_of_length_le hi]; rfl
theorem toldText_none {l : List UInt8} (h : unq l.tail = none) : toldText l = ⟨0, 0, [], 7⟩ := by unfold toldText; rw [h]
theorem toldText_some {l u : List UInt8} (h : unq l.tail = some u) (hu : u.length ≤ 200) : toldText l = ⟨2, 0, u, 0⟩ := by unfold toldText; rw [h]; exact if_pos hu
theorem toldText_long {l u : List UInt8} (h : unq l.tail = some u) (hu : ¬ u.length ≤ 200) : toldText l = ⟨0, 0, [], 7⟩ := by unfold toldText; rw [h]; exact if_neg hu

end Go.Proofs.YtpffechllcnnaaaGreatDoor
