/- A slice of values that came in. -/
import Derived.Test.YtmpiknaoocflcaaS5
import Derived.DataShut
import Derived.ShutString
import Derived.Deep.Slices
import Derived.Deep.Strs
import Derived.Carry
import Derived.SliceStrings
namespace Go.Proofs.Ytmpiknaoocflcaa
open Go.ChangeShapes Go.WideShapes Go.ChangeAt Go.RowKit Go.Deep
set_option linter.unusedVariables false
set_option maxRecDepth 100000

section
variable {H : Type} {enc : TypeId × Value → H} {W : World} {base fuel : Nat} {spare : Nat → Bool} {held : Bool}
/-- three cells that read as a value. -/
theorem opens3 {cs : List Value} {x : DataW H × List MemPlace} (h : DataW.trod enc Try.prog W base spare held fuel 42 cs = some x) :
    ∃ (k n : Int) (s : ByteArray), cs = [.int .i64 k, .int .i64 n, .string s] ∧ s.size ≤ maxLen ∧ InRange n := by
  obtain ⟨y0, y1, y2, f, -, hl, h0, h1, h2⟩ := trod_struct3 Try.underlying42 h
  rw [Val.cellsVal] at hl
  match cs, hl with
  | [c0, c1, c2], _ =>
    have z0 : Try.prog.cellsOf 3 = 1 := by kernel_rfl
    have z1 : Try.prog.cellsOf 2 = 1 := by kernel_rfl
    have z2 : Try.prog.cellsOf 9 = 1 := by kernel_rfl
    simp only [z0, z1, z2, List.drop, List.take] at h0 h1 h2
    obtain ⟨k, e0, -, -⟩ := DataW.trod_int Try.underlying3 h0
    obtain ⟨n, e1, -, wf⟩ := DataW.trod_int Try.underlying2 h1
    obtain ⟨s, e2, -, w2⟩ := DataW.trod_string Try.underlying9 h2
    cases e0; cases e1; cases e2
    have := bounds_i64 wf
    exact ⟨k, n, s, rfl, w2, by unfold InRange; omega⟩
theorem opensV {a : Option Addr} {len cap : Nat} {x : DataW H × List MemPlace} (h : DataW.trod enc Try.prog W base spare held fuel 40 (Value.slice a len cap).cells.toList = some x) :
    ∃ xs : List Tri, xs.length = len ∧ VIn W a xs := by
  rcases open_slice Try.underlying40 h with ⟨hcs, _⟩ | ⟨y, l, c, m, n, D, Pl, hcs, _, hl, _, hm, _, hi⟩
  · simp [Value.cells] at hcs
    obtain ⟨rfl, rfl, rfl⟩ := hcs
    exact ⟨[], rfl, ⟨fun i hi => absurd hi (by simp), fun i hi => absurd hi (by simp)⟩⟩
  · simp [Value.cells] at hcs
    obtain ⟨rfl, rfl, rfl⟩ := hcs
    have hle : len ≤ m := by rw [hm]; split <;> omega
    obtain ⟨b, off, spot⟩ := y
    have key : ∀ i, i < len → ∃ t : Tri, W.cell? ((⟨b, off, spot⟩ : Addr).add (i * 3)) = some (.int .i64 t.1) ∧ W.cell? ((⟨b, off, spot⟩ : Addr).add (i * 3 + 1)) = some (.int .i64 t.2.1) ∧ W.cell? ((⟨b, off, spot⟩ : Addr).add (i * 3 + 2)) = some (.string t.2.2) ∧ t.2.2.size ≤ maxLen ∧ InRange t.2.1 := by
      intro i hil
      obtain ⟨cs', hc, ht⟩ := hi i (by omega)
      rw [Val.cellsVal] at hc
      obtain ⟨k, n', s, rfl, hs⟩ := opens3 ht
      obtain ⟨_, _, hat⟩ := World.cells?_some hc
      refine ⟨(k, n', s), ?_, ?_, ?_, hs⟩
      · have := hat 0 (by omega); rw [Go.Deep.add_add] at this; exact this
      · have := hat 1 (by omega); rw [Go.Deep.add_add] at this; exact this
      · have := hat 2 (by omega); rw [Go.Deep.add_add] at this; exact this
    obtain ⟨V, hV⟩ := choose_lt (α := Tri) key
    refine ⟨(List.range len).map V, by simp, ⟨fun i hi' => ?_, fun i hi' => ?_⟩⟩
    · have hil : i < len := by simpa using hi'
      obtain ⟨g1, g2, g3, _⟩ := hV i hil
      have hspot : spot = none := by
        have := World.cell?_spot (hV 0 (by omega)).1
        simpa [Addr.add] using this
      subst hspot
      rw [Addr.add_lit] at g1 g2 g3
      have hlt := World.block_lt_of_cell? W _ g1
      refine ⟨b, off, rfl, hlt, ?_, ?_, ?_⟩ <;> simpa [Nat.add_assoc] using ‹_›
    · have hil : i < len := by simpa using hi'
      obtain ⟨_, _, _, g4, g5⟩ := hV i hil
      unfold maxLen at g4
      simp only [List.getElem_map, List.getElem_range]
      exact ⟨g5, by omega⟩
end
end Go.Proofs.Ytmpiknaoocflcaa
