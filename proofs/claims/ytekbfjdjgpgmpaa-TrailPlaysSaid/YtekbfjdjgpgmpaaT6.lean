/- A list of calls that came in. -/
import Derived.Test.YtekbfjdjgpgmpaaT5
import Derived.Deep.Slices
namespace Go.Proofs.Ytekbfjdjgpgmpaa
open Go.RowKit Go.ChangeShapes Go.WideShapes Go.Deep

structure Deed where
  k : Int
  n : Int
  x : ByteArray

/-- calls that came in: a slice, and what its cells hold. -/
structure CameA (w : World) (a : Option Addr) (ds : List Deed) : Prop where
  cell : ∀ i (h : i < ds.length), ∃ b off, a = some ⟨b, off, none⟩ ∧ b < w.heap.size ∧ w.cell? ⟨b, off + i * 3, none⟩ = some (.int .i64 ds[i].k) ∧ w.cell? ⟨b, off + i * 3 + 1, none⟩ = some (.int .i64 ds[i].n) ∧ w.cell? ⟨b, off + i * 3 + 2, none⟩ = some (.string ds[i].x)

theorem CameA.below {w w' : World} {a : Option Addr} {ds : List Deed} (h : CameA w a ds) (hb : Below w.heap.size w w') : CameA w' a ds :=
  ⟨fun i hi => by
    obtain ⟨b, off, h1, h2, h3, h4, h5⟩ := h.cell i hi
    exact ⟨b, off, h1, Nat.lt_of_lt_of_le h2 hb.size, (hb.cell h2).trans h3, (hb.cell h2).trans h4, (hb.cell h2).trans h5⟩⟩

theorem list_of {α : Type} {P : Nat → α → Prop} (n : Nat) (h : ∀ i, i < n → ∃ d, P i d) : ∃ ds : List α, ds.length = n ∧ ∀ i (hi : i < ds.length), P i ds[i] := by
  induction n with
  | zero => exact ⟨[], rfl, fun i hi => absurd hi (by simp)⟩
  | succ n ih =>
    obtain ⟨ds, h1, h2⟩ := ih fun i hi => h i (by omega)
    obtain ⟨d, hd⟩ := h n (by omega)
    refine ⟨ds ++ [d], by simp [h1], fun i hi => ?_⟩
    by_cases hl : i < ds.length
    · rw [List.getElem_append_left hl]; exact h2 i hl
    · have : i = n := by simp at hi; omega
      subst this
      rw [List.getElem_append_right (by omega)]
      simp [h1, hd]

theorem opensA {H : Type} {enc : TypeId × Value → H} {W : World} {base fuel : Nat} {spare : Nat → Bool} {held : Bool} {a : Option Addr} {len cap : Nat} {x : DataW H × List MemPlace} (h : DataW.trod enc Try.prog W base spare held fuel 22 (Value.slice a len cap).cells.toList = some x) :
    ∃ ds : List Deed, ds.length = len ∧ CameA W a ds := by
  rcases open_slice Try.underlying22 h with ⟨hcs, _⟩ | ⟨y, l, c, m, n, D, Pl, hcs, _, hl, _, hm, _, hi⟩
  · simp [Value.cells] at hcs
    obtain ⟨rfl, rfl, rfl⟩ := hcs
    exact ⟨[], rfl, ⟨fun i hi => absurd hi (by simp)⟩⟩
  · simp [Value.cells] at hcs
    obtain ⟨rfl, rfl, rfl⟩ := hcs
    have hC : Try.prog.cellsOf 31 = 3 := by kernel_rfl
    have hle : len ≤ m := by rw [hm]; split <;> omega
    have each : ∀ i, i < len → ∃ d : Deed, W.cell? (y.add (i * 3)) = some (.int .i64 d.k) ∧ W.cell? (y.add (i * 3 + 1)) = some (.int .i64 d.n) ∧ W.cell? (y.add (i * 3 + 2)) = some (.string d.x) := fun i hil => by
      obtain ⟨cs', h1, h2⟩ := hi i (by omega)
      rw [hC] at h1
      obtain ⟨_, hcl, hat⟩ := World.cells?_some h1
      obtain ⟨ys, n', _, _, _, hyl, hf⟩ := DataW.trod_struct Try.underlying31 h2
      have hys : ys.length = 3 := hyl
      match cs', hcl with
      | [u0, u1, u2], _ =>
        have g0 := hf 0 _ rfl
        have g1 := hf 1 _ rfl
        have g2 := hf 2 _ rfl
        have c3 : Try.prog.cellsOf 3 = 1 := by kernel_rfl
        have c9 : Try.prog.cellsOf 9 = 1 := by kernel_rfl
        change DataW.trod enc Try.prog W base spare held n' 3 (List.take (Try.prog.cellsOf 3) (List.drop 0 [u0, u1, u2])) = ys[0]? at g0
        change DataW.trod enc Try.prog W base spare held n' 3 (List.take (Try.prog.cellsOf 3) (List.drop 1 [u0, u1, u2])) = ys[1]? at g1
        change DataW.trod enc Try.prog W base spare held n' 9 (List.take (Try.prog.cellsOf 9) (List.drop 2 [u0, u1, u2])) = ys[2]? at g2
        rw [c3] at g0 g1
        rw [c9] at g2
        rw [List.getElem?_eq_getElem (by omega)] at g0 g1 g2
        obtain ⟨k, e0, _⟩ := DataW.trod_int Try.underlying3 g0
        obtain ⟨n2, e1, _⟩ := DataW.trod_int Try.underlying3 g1
        obtain ⟨s, e2, _⟩ := DataW.trod_string Try.underlying9 g2
        simp at e0 e1 e2
        refine ⟨⟨k, n2, s⟩, ?_, ?_, ?_⟩
        · have := hat 0 (by omega); rw [add_add] at this; simpa [e0] using this
        · have := hat 1 (by omega); rw [add_add] at this; simpa [e1] using this
        · have := hat 2 (by omega); rw [add_add] at this; simpa [e2] using this
    obtain ⟨ds, hdl, hds⟩ := list_of len each
    refine ⟨ds, hdl, ⟨fun i hil => ?_⟩⟩
    obtain ⟨b, off, spot⟩ := y
    have hspot : spot = none := by
      obtain ⟨d, h1, _⟩ := each 0 (by omega)
      simpa [Addr.add] using World.cell?_spot h1
    subst hspot
    obtain ⟨h1, h2, h3⟩ := hds i hil
    have hlt := World.block_lt_of_cell? W _ h2
    rw [Addr.add_lit] at h1 h2 h3
    refine ⟨b, off, rfl, ?_, h1, ?_, ?_⟩
    · have h4 : (⟨b, off, none⟩ : Addr).add (i * 3 + 1) = ⟨b, off + (i * 3 + 1), none⟩ := Addr.add_lit ..
      rw [h4] at hlt; exact hlt
    · rw [Nat.add_assoc]; exact h2
    · rw [Nat.add_assoc]; exact h3
end Go.Proofs.Ytekbfjdjgpgmpaa
