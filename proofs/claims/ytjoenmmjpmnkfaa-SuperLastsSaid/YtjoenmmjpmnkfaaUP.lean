/- Superblocks that come in: one, or a slice of them; ints that come in. -/
import Derived.Test.YtjoenmmjpmnkfaaMU1
import Derived.DataShut
import Derived.ShutString
import Derived.Deep.Slices
import Derived.Deep.Strs
import Derived.Carry
import Derived.SliceStrings
import Derived.OpenShut
import Derived.ChangeSame
import Derived.ChangeVars
import Derived.ChangeMaps5
import Derived.Lib.SmallJoins
namespace Go.Proofs.Ytjoenmmjpmnkfaa
open Go.ChangeShapes Go.WideShapes Go.ChangeAt Go.RowKit Go.Joins Go.Deep
set_option linter.unusedVariables false
set_option maxRecDepth 100000
theorem oneSup : oneCellFields Try.prog (Try.prog.fieldsOf 30) = true := by kernel_rfl
theorem cellsSup : Try.prog.cellsOf 30 = 3 := by kernel_rfl
section
variable {H : Type} {enc : TypeId × Value → H} {w : World} {base : Nat} {spare : Nat → Bool} {held : Bool}
theorem open_sup {r : Reach} {b0 : Nat} {v : Value} {d : DataW H} {p : List MemPlace} (hv : Value.okWide Try.prog w r b0 30 v) (h : DataW.Trod enc Try.prog w base spare held 30 v d p) :
    ∃ (e a u : Int), v = sup e a u ∧ d = .agg [.lit (.int .u32 e), .lit (.int .i64 a), .lit (.int .i64 u)] ∧ p = [] ∧ (Lit.int .u32 e).wf = true ∧ (Lit.int .i64 a).wf = true ∧ (Lit.int .i64 u).wf = true := by
  have hu := Try.underlying30
  have ho := oneSup
  simp only [Program.fieldsOf, hu] at ho
  obtain ⟨v0, v1, v2, y0, y1, y2, f, rfl, rfl, rfl, h0, h1, h2⟩ := open_agg3 hu ho cellsSup hv h
  obtain ⟨k, e0, rfl, w0⟩ := DataW.trod_int Try.underlying28 h0
  obtain ⟨n, e1, rfl, w1⟩ := DataW.trod_int Try.underlying3 h1
  obtain ⟨s, e2, rfl, w2⟩ := DataW.trod_int Try.underlying3 h2
  cases e0; cases e1; cases e2
  exact ⟨k, n, s, rfl, rfl, rfl, w0, w1, w2⟩
theorem shut_sup {e a u : Int} (h0 : (Lit.int .u32 e).wf = true) (h1 : (Lit.int .i64 a).wf = true) (h2 : (Lit.int .i64 u).wf = true) :
    DataW.Trod enc Try.prog w base spare held 30 (sup e a u) (.agg [.lit (.int .u32 e), .lit (.int .i64 a), .lit (.int .i64 u)]) [] := by
  have hu := Try.underlying30
  have ho := oneSup
  simp only [Program.fieldsOf, hu] at ho
  obtain ⟨f0, t0⟩ := (shut_int (enc := enc) (P := Try.prog) (w := w) (base := base) (held := held) Try.underlying28 h0)
  obtain ⟨f1, t1⟩ := (shut_int (enc := enc) (P := Try.prog) (w := w) (base := base) (held := held) Try.underlying3 h1)
  obtain ⟨f2, t2⟩ := (shut_int (enc := enc) (P := Try.prog) (w := w) (base := base) (held := held) Try.underlying3 h2)
  exact shut_agg3 (y0 := (_, [])) (y1 := (_, [])) (y2 := (_, [])) hu ho cellsSup ⟨f0, by simpa [Value.cells] using t0⟩ ⟨f1, by simpa [Value.cells] using t1⟩ ⟨f2, by simpa [Value.cells] using t2⟩
/-- ints that came in. -/
structure CameI (w : World) (a : Option Addr) (ds : List Int) : Prop where
  cell : ∀ j (h : j < ds.length), ∃ b off, a = some ⟨b, off, none⟩ ∧ b < w.heap.size ∧ w.cell? ⟨b, off + j, none⟩ = some (.int .i64 ds[j])
  fits : ∀ j (h : j < ds.length), -9223372036854775808 ≤ ds[j] ∧ ds[j] ≤ 9223372036854775807
theorem CameI.below {w w' : World} {a : Option Addr} {ds : List Int} (h : CameI w a ds) (hb : Below w.heap.size w w') : CameI w' a ds :=
  ⟨fun j hj => by
    obtain ⟨b, off, h1, h2, h3⟩ := h.cell j hj
    exact ⟨b, off, h1, Nat.lt_of_lt_of_le h2 hb.size, (hb.cell h2).trans h3⟩, h.fits⟩
theorem opensI {fuel : Nat} {a : Option Addr} {len cap : Nat} {x : DataW H × List MemPlace} (h : DataW.trod enc Try.prog w base spare held fuel 48 (Value.slice a len cap).cells.toList = some x) :
    ∃ ts : List Int, ts.length = len ∧ CameI w a ts := by
  rcases open_ints Try.underlying48 Try.underlying3 (by kernel_rfl) h with ⟨hcs, _⟩ | ⟨y, l, c, zs, hcs, _, hl, hm, hs, _, hcell, hwf⟩
  · simp [Value.cells] at hcs
    obtain ⟨rfl, rfl, rfl⟩ := hcs
    exact ⟨[], rfl, ⟨fun i hi => absurd hi (by simp), fun i hi => absurd hi (by simp)⟩⟩
  · simp [Value.cells] at hcs
    obtain ⟨rfl, rfl, rfl⟩ := hcs
    have hle : len ≤ zs.length := by rw [hs]; split <;> omega
    have e0 : ∀ i (hi : i < (zs.take len).length), (zs.take len)[i] = zs.getD i 0 := fun i hi => by
      have hi' : i < len := by simp at hi; omega
      simp [List.getD, List.getElem?_eq_getElem (show i < zs.length by omega)]
    refine ⟨zs.take len, by simp; omega, ⟨fun i hi => ?_, fun i hi => ?_⟩⟩
    · have hi' : i < len := by simp at hi; omega
      obtain ⟨b, off, spot⟩ := y
      have hc0 := hcell 0 (by omega)
      have hspot : spot = none := by simpa [Addr.add] using World.cell?_spot hc0
      subst hspot
      have hc := hcell i (by omega)
      rw [Addr.add_lit] at hc
      exact ⟨b, off, rfl, World.block_lt_of_cell? w _ hc, by rw [hc, e0 i hi]⟩
    · have hi' : i < len := by simp at hi; omega
      have hb := bounds_i64 (hwf (zs.getD i 0) (by rw [List.getD_eq_getElem?_getD, List.getElem?_eq_getElem (show i < zs.length by omega)]; exact List.getElem_mem _))
      rw [e0 i hi]
      omega
end
end Go.Proofs.Ytjoenmmjpmnkfaa
