/- slices.Reverse and slices.Clone at strings: the library's contracts at this program's numbers. -/
import Derived.Test.YtekbfjdjgpgmpaaProg
import Derived.Shelf.Slices.ReverseS
import Derived.Shelf.Slices.Clone
import Derived.Lib.OwnBridge
namespace Go.Proofs.Ytekbfjdjgpgmpaa
open Go.Shelf Go.RowKit Go.Lib Go.Sort

def ren : Ren := ⟨fun f => if f = 16 then 24 else if f = 17 then 22 else f, fun t => if t = 24 then 39 else t, fun x => x⟩

theorem lays17 : Lays2.n17 Try.prog ren :=
  { mixed := by kernel_rfl, f17 := by kernel_rfl, t0 := by kernel_rfl, a0 := fun w => Try.isAgg0 w, z0 := fun w => Try.sizeOf0 w, v0 := fun w => Try.zeroValue0 w,
    t3 := by kernel_rfl, a3 := fun w => Try.isAgg3 w, z3 := fun w => Try.sizeOf3 w, v3 := fun w => Try.zeroValue3 w,
    t4 := by kernel_rfl, a4 := fun w => Try.isAgg4 w, z4 := fun w => Try.sizeOf4 w, v4 := fun w => Try.zeroValue4 w,
    t9 := by kernel_rfl, a9 := fun w => Try.isAgg9 w, z9 := fun w => Try.sizeOf9 w, v9 := fun w => Try.zeroValue9 w,
    t24 := by kernel_rfl, a24 := fun w => Try.isAgg39 w, z24 := fun w => Try.sizeOf39 w, v24 := fun w => Try.zeroValue39 w }

theorem lays16 : Lays2.n16 Try.prog ren :=
  { mixed := by kernel_rfl, f16 := by kernel_rfl,
    t4 := by kernel_rfl, a4 := fun w => Try.isAgg4 w, z4 := fun w => Try.sizeOf4 w, v4 := fun w => Try.zeroValue4 w,
    t9 := by kernel_rfl, a9 := fun w => Try.isAgg9 w, z9 := fun w => Try.sizeOf9 w, v9 := fun w => Try.zeroValue9 w,
    t24 := by kernel_rfl, a24 := fun w => Try.isAgg39 w, z24 := fun w => Try.sizeOf39 w, v24 := fun w => Try.zeroValue39 w,
    i9 := by kernel_rfl }

def texts (l : List ByteArray) : List Value := l.map Value.string
theorem texts_length (l : List ByteArray) : (texts l).length = l.length := by simp [texts]

/-- slices.Reverse at a row of one's own. -/
theorem reverse_own (B : Nat) (v : Value) (n : Nat) (l : List ByteArray) (w : World) (h : w.ownsRow B 9 1 v n (texts l)) (hn : n ≤ 1000000) :
    Calls Try.prog 22 #[v] w fun e w' => e = .returned (.tuple #[]) ∧ w'.ownsRow B 9 1 v n (texts l.reverse) ∧ ∀ B0 w0, Below B0 w0 w → B0 ≤ B → Below B0 w0 w' := by
  have hl : l.length = n := by have := h.1; simpa [texts] using this
  by_cases hv : v = .slice none 0 0
  · subst hv
    have hn0 : n = 0 := by rcases h.2 with ⟨_, e⟩ | ⟨g, cap, cur, e, _⟩; exact e; cases e
    subst hn0
    have : l = [] := List.eq_nil_of_length_eq_zero hl
    subst this
    refine (Any.slices_Reverse_string_empty lays17 none 0 w).mono ?_
    rintro e w' ⟨rfl, rfl⟩
    exact ⟨rfl, h, fun _ _ hb _ => hb⟩
  · have h2 : w.ownsRow B 9 1 v n ((l.map (·.data.toList)).map encStr) := by rw [map_encStr]; exact h
    obtain ⟨g, cap, rfl, hB, hg, _, _, hlz, hH⟩ := holds_of_ownsRow h2 hv
    have hc := Any.slices_Reverse_string lays17 g 0 cap (l.map (·.data.toList)) w hH (by rw [hlz]; omega)
    rw [hlz] at hc
    refine hc.mono ?_
    rintro e w' ⟨rfl, q, rfl⟩
    have h3 := ownsRow_putRow (q := q) (ys := (l.map (·.data.toList)).reverse) h2 (by simpa using hl) (Nat.le_refl n)
    refine ⟨rfl, ?_, fun B0 w0 hb hle => below_putRow hb (by omega)⟩
    rw [List.take_of_length_le (by simp [hl])] at h3
    rw [← List.map_reverse, map_encStr] at h3
    rw [← List.map_reverse]
    exact h3

/-- slices.Clone of a part of a row. -/
theorem clone_part (b off n c : Nat) (l : List ByteArray) (w : World) (hl : l.length = n) (hn : n ≤ 1000000) (hc : ∀ j, j < l.length → w.cell? ⟨b, off + j, none⟩ = some (.string (l.getD j ByteArray.empty))) :
    Calls Try.prog 24 #[.slice (some ⟨b, off, none⟩) n c] w fun e w' => ∃ v', e = .returned v' ∧ w'.ownsRow w.heap.size 9 1 v' n (texts l) ∧ Below w.heap.size w w' := by
  refine (Any.slices_Clone_string lays16 b off n c l w (by omega) (by omega) hc).mono ?_
  rintro e w' ⟨v', rfl, h1, _, h2⟩
  rw [List.take_of_length_le (by omega)] at h1
  exact ⟨v', rfl, h1, h2⟩

theorem clone_nil (w : World) : Calls Try.prog 24 #[.slice none 0 0] w fun e w' => e = .returned (.slice none 0 0) ∧ w' = w :=
  Any.slices_Clone_string_nil lays16 0 0 w
end Go.Proofs.Ytekbfjdjgpgmpaa
