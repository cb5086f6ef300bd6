/- Calls that came in. -/
import Derived.Test.YtjnblkibejmdjaaPC4
import Derived.DataShut
import Derived.ShutString
import Derived.Deep.Slices
import Derived.Deep.Strs
import Derived.Carry
import Derived.SliceStrings
import Derived.OpenShut
namespace Go.Proofs.Ytjnblkibejmdjaa
open Go.ChangeShapes Go.WideShapes Go.ChangeAt Go.RowKit Go.Deep
set_option linter.unusedVariables false
set_option maxRecDepth 100000

structure ActG where
  k : Int
  i : Int
  A : Option Addr
  c : Nat
  b : List UInt8
def Rng (n : Int) : Prop := -9223372036854775808 ≤ n ∧ n ≤ 9223372036854775807
structure CameA (w : World) (a : Option Addr) (ds : List ActG) : Prop where
  cell : ∀ j (h : j < ds.length), ∃ b off, a = some ⟨b, off, none⟩ ∧ b < w.heap.size ∧ w.cell? ⟨b, off + j * 3, none⟩ = some (.int .i64 ds[j].k) ∧ w.cell? ⟨b, off + j * 3 + 1, none⟩ = some (.int .i64 ds[j].i) ∧ w.cell? ⟨b, off + j * 3 + 2, none⟩ = some (.slice ds[j].A ds[j].b.length ds[j].c)
  bytes : ∀ j (h : j < ds.length), Holds w ds[j].A ds[j].b ∧ ds[j].b.length ≤ ds[j].c ∧ ds[j].c ≤ maxLen
  fits : ∀ j (h : j < ds.length), Rng ds[j].k ∧ Rng ds[j].i
theorem CameA.below {w w' : World} {a : Option Addr} {ds : List ActG} (h : CameA w a ds) (hb : Below w.heap.size w w') : CameA w' a ds :=
  ⟨fun j hj => by
    obtain ⟨b, off, h1, h2, h3, h4, h5⟩ := h.cell j hj
    exact ⟨b, off, h1, Nat.lt_of_lt_of_le h2 hb.size, (hb.cell h2).trans h3, (hb.cell h2).trans h4, (hb.cell h2).trans h5⟩, fun j hj => ⟨(h.bytes j hj).1.below hb, (h.bytes j hj).2⟩, h.fits⟩
theorem choose_act {P : Nat → ActG → Prop} : ∀ (n : Nat), (∀ i, i < n → ∃ d, P i d) → ∃ ds : List ActG, ds.length = n ∧ ∀ i (h : i < ds.length), P i ds[i]
  | 0, _ => ⟨[], rfl, fun i h => absurd h (by simp)⟩
  | n + 1, h => by
    obtain ⟨ds, h1, h2⟩ := choose_act n (fun i hi => h i (by omega))
    obtain ⟨d, hd⟩ := h n (by omega)
    refine ⟨ds ++ [d], by simp [h1], fun i hi => ?_⟩
    rw [List.length_append, List.length_singleton] at hi
    rcases Nat.lt_or_ge i ds.length with hl | hl
    · rw [List.getElem_append_left hl]; exact h2 i hl
    · have : i = ds.length := by omega
      subst this
      rw [List.getElem_append_right (by omega)]
      simp only [Nat.sub_self, List.getElem_cons_zero]
      rw [h1]; exact hd
section
variable {H : Type} {enc : TypeId × Value → H} {W : World} {base fuel : Nat} {spare : Nat → Bool} {held : Bool}
theorem opensBytes {v : Value} {x : DataW H × List MemPlace} (h : DataW.trod enc Try.prog W base spare held fuel 29 [v] = some x) :
    ∃ (A : Option Addr) (c : Nat) (b : List UInt8), v = .slice A b.length c ∧ Holds W A b ∧ b.length ≤ c ∧ c ≤ maxLen := by
  rcases open_ints Try.underlying29 Try.underlying5 (by kernel_rfl) h with ⟨hcs, _⟩ | ⟨y, l, c, zs, hcs, _, hl, hm, hs, _, hcell, hwf⟩
  · simp at hcs
    exact ⟨none, 0, [], hcs, Holds.nil _ _, Nat.le_refl _, Nat.zero_le _⟩
  · simp at hcs
    have hle : l ≤ zs.length := by rw [hs]; split <;> omega
    refine ⟨some y, c, (zs.take l).map (fun z => UInt8.ofNat z.toNat), ?_, fun i hi => ?_, by simp; omega, hm⟩
    · rw [hcs]; congr 1; simp; omega
    have hi' : i < l := by simp at hi; omega
    obtain ⟨b, off, spot⟩ := y
    have hc0 := hcell 0 (by omega)
    have hspot : spot = none := by simpa [Addr.add] using World.cell?_spot hc0
    subst hspot
    have hc := hcell i (by omega)
    rw [Addr.add_lit] at hc
    refine ⟨b, off, rfl, World.block_lt_of_cell? W _ hc, ?_⟩
    have hb := bounds_u8 (hwf (zs.getD i 0) (by rw [List.getD_eq_getElem?_getD, List.getElem?_eq_getElem (show i < zs.length by omega)]; exact List.getElem_mem _))
    have e1 : ((zs.take l).map (fun z => UInt8.ofNat z.toNat))[i]'hi = UInt8.ofNat (zs.getD i 0).toNat := by
      simp [List.getD, List.getElem?_eq_getElem (show i < zs.length by omega)]
    rw [e1, hc]
    congr 2
    rw [UInt8.toNat_ofNat']
    omega
theorem opensActs {a : Option Addr} {len cap : Nat} {x : DataW H × List MemPlace} (h : DataW.trod enc Try.prog W base spare held fuel 22 (Value.slice a len cap).cells.toList = some x) :
    ∃ ds : List ActG, ds.length = len ∧ CameA W a ds := by
  rcases open_slice Try.underlying22 h with ⟨hcs, _⟩ | ⟨y, l, c, m, n, D, Pl, hcs, _, hl, _, hm, _, hi⟩
  · simp [Value.cells] at hcs
    obtain ⟨rfl, rfl, rfl⟩ := hcs
    exact ⟨[], rfl, ⟨fun i hi => absurd hi (by simp), fun i hi => absurd hi (by simp), fun i hi => absurd hi (by simp)⟩⟩
  · simp [Value.cells] at hcs
    obtain ⟨rfl, rfl, rfl⟩ := hcs
    have hle : len ≤ m := by rw [hm]; split <;> omega
    have hC : Try.prog.cellsOf 31 = 3 := by kernel_rfl
    obtain ⟨b, off, spot⟩ := y
    have key : ∀ i, i < len → ∃ t : ActG, W.cell? ((⟨b, off, spot⟩ : Addr).add (i * 3)) = some (.int .i64 t.k) ∧ W.cell? ((⟨b, off, spot⟩ : Addr).add (i * 3 + 1)) = some (.int .i64 t.i) ∧ W.cell? ((⟨b, off, spot⟩ : Addr).add (i * 3 + 2)) = some (.slice t.A t.b.length t.c) ∧ (Holds W t.A t.b ∧ t.b.length ≤ t.c ∧ t.c ≤ maxLen) ∧ (Rng t.k ∧ Rng t.i) := by
      intro i hil
      obtain ⟨cs', h1, h2⟩ := hi i (by omega)
      rw [hC] at h1
      obtain ⟨_, hcl, hat⟩ := World.cells?_some h1
      obtain ⟨ys, n', _, _, _, hyl, hf⟩ := DataW.trod_struct Try.underlying31 h2
      have hys : ys.length = 3 := hyl
      match cs', hcl with
      | [u0, u1, u2], _ =>
        have g0 := hf 0 _ rfl
        have g1 := hf 1 _ rfl
        have g2 := hf 2 _ rfl
        have c3 : Try.prog.cellsOf 3 = 1 := by kernel_rfl
        have c9 : Try.prog.cellsOf 29 = 1 := by kernel_rfl
        change DataW.trod enc Try.prog W base spare held n' 3 (List.take (Try.prog.cellsOf 3) (List.drop 0 [u0, u1, u2])) = ys[0]? at g0
        change DataW.trod enc Try.prog W base spare held n' 3 (List.take (Try.prog.cellsOf 3) (List.drop 1 [u0, u1, u2])) = ys[1]? at g1
        change DataW.trod enc Try.prog W base spare held n' 29 (List.take (Try.prog.cellsOf 29) (List.drop 2 [u0, u1, u2])) = ys[2]? at g2
        rw [c3] at g0 g1
        rw [c9] at g2
        rw [List.getElem?_eq_getElem (by omega)] at g0 g1 g2
        simp only [List.drop, List.take] at g0 g1 g2
        obtain ⟨k, e0, _, w0⟩ := DataW.trod_int Try.underlying3 g0
        obtain ⟨n2, e1, _, w1⟩ := DataW.trod_int Try.underlying3 g1
        obtain ⟨A, c', bs, e2, hA⟩ := opensBytes g2
        cases e0; cases e1; subst e2
        have b0 := bounds_i64 w0
        have b1 := bounds_i64 w1
        refine ⟨⟨k, n2, A, c', bs⟩, ?_, ?_, ?_, hA, ⟨by unfold Rng; omega, by unfold Rng; omega⟩⟩
        · have := hat 0 (by omega); rw [add_add] at this; simpa using this
        · have := hat 1 (by omega); rw [add_add] at this; simpa using this
        · have := hat 2 (by omega); rw [add_add] at this; simpa using this
    obtain ⟨ds, hdl, hds⟩ := choose_act len key
    refine ⟨ds, hdl, ⟨fun i hil => ?_, fun i hil => (hds i hil).2.2.2.1, fun i hil => (hds i hil).2.2.2.2⟩⟩
    have hspot : spot = none := by
      have := World.cell?_spot (hds 0 (by omega)).1
      simpa [Addr.add] using this
    subst hspot
    obtain ⟨g1, g2, g3, _⟩ := hds i hil
    rw [Addr.add_lit] at g1 g2 g3
    exact ⟨b, off, rfl, World.block_lt_of_cell? W _ g1, g1, by rw [Nat.add_assoc]; exact g2, by rw [Nat.add_assoc]; exact g3⟩
end
end Go.Proofs.Ytjnblkibejmdjaa
