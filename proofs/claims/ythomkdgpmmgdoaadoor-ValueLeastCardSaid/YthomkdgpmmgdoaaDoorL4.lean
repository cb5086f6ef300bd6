/- A slice of values that came in; ValueLeast, all cases. -/
import Derived.Test.YthomkdgpmmgdoaaDoorL3
import Derived.Test.YthomkdgpmmgdoaaDoorP0
import Derived.Deep.Slices
import Derived.Deep.Strs
import Derived.Carry
import Derived.SliceStrings
namespace Go.Proofs.YthomkdgpmmgdoaaDoor
open Go.ChangeShapes Go.WideShapes Go.ChangeAt Go.RowKit Go.Joins Go.Deep
set_option linter.unusedVariables false
set_option maxRecDepth 100000
theorem laidOut : laidOutB Tryd.prog = true := by kernel_rfl

section
variable {H : Type} {enc : TypeId × Value → H} {W : World} {base fuel : Nat} {spare : Nat → Bool} {held : Bool}
/-- three cells that read as a value. -/
theorem opens3 {cs : List Value} {x : DataW H × List MemPlace} (h : DataW.trod enc Tryd.prog W base spare held fuel 23 cs = some x) :
    ∃ (k n : Int) (s : ByteArray), cs = [.int .i64 k, .int .i64 n, .string s] ∧ s.size ≤ maxLen := by
  obtain ⟨y0, y1, y2, f, -, hl, h0, h1, h2⟩ := trod_struct3 Tryd.underlying23 h
  rw [cellsVal] at hl
  match cs, hl with
  | [c0, c1, c2], _ =>
    have z0 : Tryd.prog.cellsOf 3 = 1 := by kernel_rfl
    have z1 : Tryd.prog.cellsOf 2 = 1 := by kernel_rfl
    have z2 : Tryd.prog.cellsOf 9 = 1 := by kernel_rfl
    simp only [z0, z1, z2, List.drop, List.take] at h0 h1 h2
    obtain ⟨k, e0, -, -⟩ := DataW.trod_int Tryd.underlying3 h0
    obtain ⟨n, e1, -, -⟩ := DataW.trod_int Tryd.underlying2 h1
    obtain ⟨s, e2, -, w2⟩ := DataW.trod_string Tryd.underlying9 h2
    cases e0; cases e1; cases e2
    exact ⟨k, n, s, rfl, w2⟩
theorem opensV {a : Option Addr} {len cap : Nat} {x : DataW H × List MemPlace} (h : DataW.trod enc Tryd.prog W base spare held fuel 38 (Value.slice a len cap).cells.toList = some x) :
    ∃ xs : List Tri, xs.length = len ∧ CameV W a xs := by
  rcases open_slice Tryd.underlying38 h with ⟨hcs, _⟩ | ⟨y, l, c, m, n, D, Pl, hcs, _, hl, _, hm, _, hi⟩
  · simp [Value.cells] at hcs
    obtain ⟨rfl, rfl, rfl⟩ := hcs
    exact ⟨[], rfl, ⟨fun i hi => absurd hi (by simp), fun i hi => absurd hi (by simp)⟩⟩
  · simp [Value.cells] at hcs
    obtain ⟨rfl, rfl, rfl⟩ := hcs
    have hle : len ≤ m := by rw [hm]; split <;> omega
    obtain ⟨b, off, spot⟩ := y
    have key : ∀ i, i < len → ∃ t : Tri, W.cell? ((⟨b, off, spot⟩ : Addr).add (i * 3)) = some (.int .i64 t.1) ∧ W.cell? ((⟨b, off, spot⟩ : Addr).add (i * 3 + 1)) = some (.int .i64 t.2.1) ∧ W.cell? ((⟨b, off, spot⟩ : Addr).add (i * 3 + 2)) = some (.string t.2.2) ∧ t.2.2.size ≤ maxLen := by
      intro i hil
      obtain ⟨cs', hc, ht⟩ := hi i (by omega)
      rw [cellsVal] at hc
      obtain ⟨k, n', s, rfl, hs⟩ := opens3 ht
      obtain ⟨_, _, hat⟩ := World.cells?_some hc
      refine ⟨(k, n', s), ?_, ?_, ?_, hs⟩
      · have := hat 0 (by omega); rw [Go.Deep.add_add] at this; exact this
      · have := hat 1 (by omega); rw [Go.Deep.add_add] at this; exact this
      · have := hat 2 (by omega); rw [Go.Deep.add_add] at this; exact this
    obtain ⟨V, hV⟩ := choose_lt (α := Tri) key
    refine ⟨(List.range len).map V, by simp, ⟨fun i hi' => ?_, fun i hi' => ?_⟩⟩
    · have hil : i < len := by simpa using hi'
      obtain ⟨g1, g2, g3, _⟩ := hV i hil
      have hspot : spot = none := by
        have := World.cell?_spot (hV 0 (by omega)).1
        simpa [Addr.add] using this
      subst hspot
      rw [Addr.add_lit] at g1 g2 g3
      have hlt := World.block_lt_of_cell? W _ g1
      refine ⟨b, off, rfl, hlt, ?_, ?_, ?_⟩ <;> simpa [Nat.add_assoc] using ‹_›
    · have hil : i < len := by simpa using hi'
      obtain ⟨_, _, _, g4⟩ := hV i hil
      unfold maxLen at g4
      simp
      omega
end
theorem least_all (a : Option Addr) (c : Nat) (xs : List Tri) (kd : Int) (name : ByteArray) (w : World) (m0 : Int) (hm : MaxAt w m0) (hc : CameV w a xs) :
    Calls Tryd.prog 5 #[.slice a xs.length c, .int .i64 kd, .string name] w fun e w' => e = .returned (.bool true) ∧ Below w.heap.size w w' := by
  by_cases h1 : (xs.length : Int) ≤ 50
  · by_cases h2 : (name.size : Int) ≤ 50
    · exact least_law a c xs kd name w m0 hm hc h1 h2
    · exact least_big a c xs kd name w m0 hm (.inr (by omega))
  · exact least_big a c xs kd name w m0 hm (.inl (by omega))
end Go.Proofs.YthomkdgpmmgdoaaDoor
