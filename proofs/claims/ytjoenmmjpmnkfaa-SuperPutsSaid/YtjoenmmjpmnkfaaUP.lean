/- Superblocks that come in: one, or a slice of them; ints that come in. -/
import Derived.Test.YtjoenmmjpmnkfaaMU1
import Derived.DataShut
import Derived.ShutString
import Derived.Deep.Slices
import Derived.Deep.Strs
import Derived.Carry
import Derived.SliceStrings
import Derived.OpenShut
import Derived.ChangeSame
import Derived.ChangeVars
import Derived.ChangeMaps5
import Derived.Lib.SmallJoins
namespace Go.Proofs.Ytjoenmmjpmnkfaa
open Go.ChangeShapes Go.WideShapes Go.ChangeAt Go.RowKit Go.Joins Go.Deep
set_option linter.unusedVariables false
set_option maxRecDepth 100000
theorem oneSup : oneCellFields Try.prog (Try.prog.fieldsOf 30) = true := by kernel_rfl
theorem cellsSup : Try.prog.cellsOf 30 = 3 := by kernel_rfl
section
variable {H : Type} {enc : TypeId × Value → H} {w : World} {base : Nat} {spare : Nat → Bool} {held : Bool}
theorem open_sup {r : Reach} {b0 : Nat} {v : Value} {d : DataW H} {p : List MemPlace} (hv : Value.okWide Try.prog w r b0 30 v) (h : DataW.Trod enc Try.prog w base spare held 30 v d p) :
    ∃ (e a u : Int), v = sup e a u ∧ d = .agg [.lit (.int .u32 e), .lit (.int .i64 a), .lit (.int .i64 u)] ∧ p = [] ∧ (Lit.int .u32 e).wf = true ∧ (Lit.int .i64 a).wf = true ∧ (Lit.int .i64 u).wf = true := by
  have hu := Try.underlying30
  have ho := oneSup
  simp only [Program.fieldsOf, hu] at ho
  obtain ⟨v0, v1, v2, y0, y1, y2, f, rfl, rfl, rfl, h0, h1, h2⟩ := open_agg3 hu ho cellsSup hv h
  obtain ⟨k, e0, rfl, w0⟩ := DataW.trod_int Try.underlying28 h0
  obtain ⟨n, e1, rfl, w1⟩ := DataW.trod_int Try.underlying3 h1
  obtain ⟨s, e2, rfl, w2⟩ := DataW.trod_int Try.underlying3 h2
  cases e0; cases e1; cases e2
  exact ⟨k, n, s, rfl, rfl, rfl, w0, w1, w2⟩
theorem shut_sup {e a u : Int} (h0 : (Lit.int .u32 e).wf = true) (h1 : (Lit.int .i64 a).wf = true) (h2 : (Lit.int .i64 u).wf = true) :
    DataW.Trod enc Try.prog w base spare held 30 (sup e a u) (.agg [.lit (.int .u32 e), .lit (.int .i64 a), .lit (.int .i64 u)]) [] := by
  have hu := Try.underlying30
  have ho := oneSup
  simp only [Program.fieldsOf, hu] at ho
  obtain ⟨f0, t0⟩ := (shut_int (enc := enc) (P := Try.prog) (w := w) (base := base) (held := held) Try.underlying28 h0)
  obtain ⟨f1, t1⟩ := (shut_int (enc := enc) (P := Try.prog) (w := w) (base := base) (held := held) Try.underlying3 h1)
  obtain ⟨f2, t2⟩ := (shut_int (enc := enc) (P := Try.prog) (w := w) (base := base) (held := held) Try.underlying3 h2)
  exact shut_agg3 (y0 := (_, [])) (y1 := (_, [])) (y2 := (_, [])) hu ho cellsSup ⟨f0, by simpa [Value.cells] using t0⟩ ⟨f1, by simpa [Value.cells] using t1⟩ ⟨f2, by simpa [Value.cells] using t2⟩
/-- ints that came in. -/
structure CameI (w : World) (a : Option Addr) (ds : List Int) : Prop where
  cell : ∀ j (h : j < ds.length), ∃ b off, a = some ⟨b, off, none⟩ ∧ b < w.heap.size ∧ w.cell? ⟨b, off + j, none⟩ = some (.int .i64 ds[j])
  fits : ∀ j (h : j < ds.length), -9223372036854775808 ≤ ds[j] ∧ ds[j] ≤ 9223372036854775807
theorem CameI.below {w w' : World} {a : Option Addr} {ds : List Int} (h : CameI w a ds) (hb : Below w.heap.size w w') : CameI w' a ds :=
  ⟨fun j hj => by
    obtain ⟨b, off, h1, h2, h3⟩ := h.cell j hj
    exact ⟨b, off, h1, Nat.lt_of_lt_of_le h2 hb.size, (hb.cell h2).trans h3⟩, h.fits⟩
theorem opensI {fuel : Nat} {a : Option Addr} {len cap : Nat} {x : DataW H × List MemPlace} (h : DataW.trod enc Try.prog w base spare held fuel 48 (Value.slice a len cap).cells.toList = some x) :
    ∃ ts : List Int, ts.length = len ∧ CameI w a ts := by
  rcases open_ints Try.underlying48 Try.underlying3 (by kernel_rfl) h with ⟨hcs, _⟩ | ⟨y, l, c, zs, hcs, _, hl, hm, hs, _, hcell, hwf⟩
  · simp [Value.cells] at hcs
    obtain ⟨rfl, rfl, rfl⟩ := hcs
    exact ⟨[], rfl, ⟨fun i hi => absurd hi (by simp), fun i hi => absurd hi (by simp)⟩⟩
  · simp [Value.cells] at hcs
    obtain ⟨rfl, rfl, rfl⟩ := hcs
    have hle : len ≤ zs.length := by rw [hs]; split <;> omega
    have e0 : ∀ i (hi : i < (zs.take len).length), (zs.take len)[i] = zs.getD i 0 := fun i hi => by
      have hi' : i < len := by simp at hi; omega
      simp [List.getD, List.getElem?_eq_getElem (show i < zs.length by omega)]
    refine ⟨zs.take len, by simp; omega, ⟨fun i hi => ?_, fun i hi => ?_⟩⟩
    · have hi' : i < len := by simp at hi; omega
      obtain ⟨b, off, spot⟩ := y
      have hc0 := hcell 0 (by omega)
      have hspot : spot = none := by simpa [Addr.add] using World.cell?_spot hc0
      subst hspot
      have hc := hcell i (by omega)
      rw [Addr.add_lit] at hc
      exact ⟨b, off, rfl, World.block_lt_of_cell? w _ hc, by rw [hc, e0 i hi]⟩
    · have hi' : i < len := by simp at hi; omega
      have hb := bounds_i64 (hwf (zs.getD i 0) (by rw [List.getD_eq_getElem?_getD, List.getElem?_eq_getElem (show i < zs.length by omega)]; exact List.getElem_mem _))
      rw [e0 i hi]
      omega
/-- superblocks that came in. -/
structure TriS where
  e : Int
  a : Int
  u : Int
structure CameS (w : World) (a : Option Addr) (ds : List TriS) : Prop where
  cell : ∀ j (h : j < ds.length), ∃ b off, a = some ⟨b, off, none⟩ ∧ b < w.heap.size ∧ w.cell? ⟨b, off + j * 3, none⟩ = some (.int .u32 ds[j].e) ∧ w.cell? ⟨b, off + j * 3 + 1, none⟩ = some (.int .i64 ds[j].a) ∧ w.cell? ⟨b, off + j * 3 + 2, none⟩ = some (.int .i64 ds[j].u)
  fits : ∀ j (h : j < ds.length), 0 ≤ ds[j].e ∧ ds[j].e < 4294967296
theorem CameS.below {w w' : World} {a : Option Addr} {ds : List TriS} (h : CameS w a ds) (hb : Below w.heap.size w w') : CameS w' a ds :=
  ⟨fun j hj => by
    obtain ⟨b, off, h1, h2, h3, h4, h5⟩ := h.cell j hj
    exact ⟨b, off, h1, Nat.lt_of_lt_of_le h2 hb.size, (hb.cell h2).trans h3, (hb.cell h2).trans h4, (hb.cell h2).trans h5⟩, h.fits⟩
theorem choose_sup {P : Nat → TriS → Prop} : ∀ (n : Nat), (∀ i, i < n → ∃ d, P i d) → ∃ ds : List TriS, ds.length = n ∧ ∀ i (h : i < ds.length), P i ds[i]
  | 0, _ => ⟨[], rfl, fun i h => absurd h (by simp)⟩
  | n + 1, h => by
    obtain ⟨ds, h1, h2⟩ := choose_sup n (fun i hi => h i (by omega))
    obtain ⟨d, hd⟩ := h n (by omega)
    refine ⟨ds ++ [d], by simp [h1], fun i hi => ?_⟩
    rw [List.length_append, List.length_singleton] at hi
    rcases Nat.lt_or_ge i ds.length with hl | hl
    · rw [List.getElem_append_left hl]; exact h2 i hl
    · have : i = ds.length := by omega
      subst this
      rw [List.getElem_append_right (by omega)]
      simp only [Nat.sub_self, List.getElem_cons_zero]
      rw [h1]; exact hd
theorem opensS {fuel : Nat} {a : Option Addr} {len cap : Nat} {x : DataW H × List MemPlace} (h : DataW.trod enc Try.prog w base spare held fuel 22 (Value.slice a len cap).cells.toList = some x) :
    ∃ ds : List TriS, ds.length = len ∧ CameS w a ds := by
  rcases open_slice Try.underlying22 h with ⟨hcs, _⟩ | ⟨y, l, c, m, n, D, Pl, hcs, _, hl, _, hm, _, hi⟩
  · simp [Value.cells] at hcs
    obtain ⟨rfl, rfl, rfl⟩ := hcs
    exact ⟨[], rfl, ⟨fun i hi => absurd hi (by simp), fun i hi => absurd hi (by simp)⟩⟩
  · simp [Value.cells] at hcs
    obtain ⟨rfl, rfl, rfl⟩ := hcs
    have hle : len ≤ m := by rw [hm]; split <;> omega
    have hC : Try.prog.cellsOf 30 = 3 := by kernel_rfl
    obtain ⟨b, off, spot⟩ := y
    have key : ∀ i, i < len → ∃ t : TriS, w.cell? ((⟨b, off, spot⟩ : Addr).add (i * 3)) = some (.int .u32 t.e) ∧ w.cell? ((⟨b, off, spot⟩ : Addr).add (i * 3 + 1)) = some (.int .i64 t.a) ∧ w.cell? ((⟨b, off, spot⟩ : Addr).add (i * 3 + 2)) = some (.int .i64 t.u) ∧ 0 ≤ t.e ∧ t.e < 4294967296 := by
      intro i hil
      obtain ⟨cs', h1, h2⟩ := hi i (by omega)
      rw [hC] at h1
      obtain ⟨_, hcl, hat⟩ := World.cells?_some h1
      obtain ⟨ys, n', _, _, _, hyl, hf⟩ := DataW.trod_struct Try.underlying30 h2
      have hys : ys.length = 3 := hyl
      match cs', hcl with
      | [u0, u1, u2], _ =>
        have g0 := hf 0 _ rfl
        have g1 := hf 1 _ rfl
        have g2 := hf 2 _ rfl
        have c3 : Try.prog.cellsOf 3 = 1 := by kernel_rfl
        have c9 : Try.prog.cellsOf 28 = 1 := by kernel_rfl
        change DataW.trod enc Try.prog w base spare held n' 28 (List.take (Try.prog.cellsOf 28) (List.drop 0 [u0, u1, u2])) = ys[0]? at g0
        change DataW.trod enc Try.prog w base spare held n' 3 (List.take (Try.prog.cellsOf 3) (List.drop 1 [u0, u1, u2])) = ys[1]? at g1
        change DataW.trod enc Try.prog w base spare held n' 3 (List.take (Try.prog.cellsOf 3) (List.drop 2 [u0, u1, u2])) = ys[2]? at g2
        rw [c9] at g0
        rw [c3] at g1 g2
        rw [List.getElem?_eq_getElem (by omega)] at g0 g1 g2
        simp only [List.drop, List.take] at g0 g1 g2
        obtain ⟨k, e0, _, w0⟩ := DataW.trod_int Try.underlying28 g0
        obtain ⟨n2, e1, _, w1⟩ := DataW.trod_int Try.underlying3 g1
        obtain ⟨n3, e2, _, w2⟩ := DataW.trod_int Try.underlying3 g2
        cases e0; cases e1; cases e2
        have b0 := bounds_u32 w0
        refine ⟨⟨k, n2, n3⟩, ?_, ?_, ?_, by simp only; omega, by simp only; omega⟩
        · have := hat 0 (by omega); rw [add_add] at this; simpa using this
        · have := hat 1 (by omega); rw [add_add] at this; simpa using this
        · have := hat 2 (by omega); rw [add_add] at this; simpa using this
    obtain ⟨ds, hdl, hds⟩ := choose_sup len key
    refine ⟨ds, hdl, ⟨fun i hil => ?_, fun i hil => (hds i hil).2.2.2⟩⟩
    have hspot : spot = none := by
      have := World.cell?_spot (hds 0 (by omega)).1
      simpa [Addr.add] using this
    subst hspot
    obtain ⟨g1, g2, g3, _⟩ := hds i hil
    rw [Addr.add_lit] at g1 g2 g3
    exact ⟨b, off, rfl, World.block_lt_of_cell? w _ g1, g1, by rw [Nat.add_assoc]; exact g2, by rw [Nat.add_assoc]; exact g3⟩
end
end Go.Proofs.Ytjoenmmjpmnkfaa
