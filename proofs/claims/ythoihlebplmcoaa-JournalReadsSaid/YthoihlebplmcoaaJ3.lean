/- Lists of byte strings that came in; adding a record that is too long. -/
import Derived.Test.YthoihlebplmcoaaJ2
import Derived.DataShut
import Derived.ShutString
import Derived.Deep.Slices
import Derived.Deep.Strs
import Derived.Carry
import Derived.SliceStrings
import Derived.OpenShut
namespace Go.Proofs.Ythoihlebplmcoaa
open Go.ChangeShapes Go.WideShapes Go.ChangeAt Go.RowKit Go.Deep
set_option linter.unusedVariables false
set_option maxRecDepth 100000
/-- byte strings that came in. -/
structure CameL (w : World) (A : Option Addr) (l : List (List UInt8)) : Prop where
  lists : Lists w A l
  small : ∀ b ∈ l, b.length ≤ 9223372036854775807
  few : l.length ≤ 9223372036854775807
theorem CameL.below {w w' : World} {A : Option Addr} {l : List (List UInt8)} (h : CameL w A l) (hb : Below w.heap.size w w') : CameL w' A l := ⟨h.lists.below hb, h.small, h.few⟩
/-- the bytes of one of them, none of what was made since. -/
theorem CameL.one {w w' : World} {A : Option Addr} {l : List (List UInt8)} (h : CameL w A l) (hb : Below w.heap.size w w') {i : Nat} (hi : i < l.length) : ∃ g o B c, A = some ⟨g, o, none⟩ ∧ w'.cell? ⟨g, o + i, none⟩ = some (.slice B l[i].length c) ∧ Holds w' B l[i] ∧ (l[i] = [] ∨ ∀ x : Addr, B = some x → x.block < w.heap.size) := by
  obtain ⟨g, o, B, c, e, hlt, hc, hh⟩ := h.lists i hi
  refine ⟨g, o, B, c, e, (hb.cell (p := ⟨g, o + i, none⟩) hlt).trans hc, hh.below hb, ?_⟩
  cases hl : l[i] with
  | nil => exact .inl rfl
  | cons x r =>
    refine .inr fun p e => ?_
    obtain ⟨b, o, e', hlt, _⟩ := hh 0 (by rw [hl]; simp)
    rw [e] at e'
    cases e'
    exact hlt
theorem choose_bytes {P : Nat → Option Addr × Nat × List UInt8 → Prop} : ∀ (n : Nat), (∀ i, i < n → ∃ d, P i d) → ∃ ds : List (Option Addr × Nat × List UInt8), ds.length = n ∧ ∀ i (h : i < ds.length), P i ds[i]
  | 0, _ => ⟨[], rfl, fun i h => absurd h (by simp)⟩
  | n + 1, h => by
    obtain ⟨ds, h1, h2⟩ := choose_bytes n (fun i hi => h i (by omega))
    obtain ⟨d, hd⟩ := h n (by omega)
    refine ⟨ds ++ [d], by simp [h1], fun i hi => ?_⟩
    rw [List.length_append, List.length_singleton] at hi
    rcases Nat.lt_or_ge i ds.length with hl | hl
    · rw [List.getElem_append_left hl]; exact h2 i hl
    · have : i = ds.length := by omega
      subst this
      rw [List.getElem_append_right (by omega)]
      simp only [Nat.sub_self, List.getElem_cons_zero]
      rw [h1]; exact hd
section
variable {H : Type} {enc : TypeId × Value → H} {W : World} {base fuel : Nat} {spare : Nat → Bool} {held : Bool}
theorem opensBytes {v : Value} {x : DataW H × List MemPlace} (h : DataW.trod enc Try.prog W base spare held fuel 35 [v] = some x) :
    ∃ (A : Option Addr) (c : Nat) (b : List UInt8), v = .slice A b.length c ∧ Holds W A b ∧ b.length ≤ c ∧ c ≤ maxLen := by
  rcases open_ints Try.underlying35 Try.underlying5 (by kernel_rfl) h with ⟨hcs, _⟩ | ⟨y, l, c, zs, hcs, _, hl, hm, hs, _, hcell, hwf⟩
  · simp at hcs
    exact ⟨none, 0, [], hcs, Holds.nil _ _, Nat.le_refl _, Nat.zero_le _⟩
  · simp at hcs
    have hle : l ≤ zs.length := by rw [hs]; split <;> omega
    refine ⟨some y, c, (zs.take l).map (fun z => UInt8.ofNat z.toNat), ?_, fun i hi => ?_, by simp; omega, hm⟩
    · rw [hcs]; congr 1; simp; omega
    have hi' : i < l := by simp at hi; omega
    obtain ⟨b, off, spot⟩ := y
    have hc0 := hcell 0 (by omega)
    have hspot : spot = none := by simpa [Addr.add] using World.cell?_spot hc0
    subst hspot
    have hc := hcell i (by omega)
    rw [Addr.add_lit] at hc
    refine ⟨b, off, rfl, World.block_lt_of_cell? W _ hc, ?_⟩
    have hb := bounds_u8 (hwf (zs.getD i 0) (by rw [List.getD_eq_getElem?_getD, List.getElem?_eq_getElem (show i < zs.length by omega)]; exact List.getElem_mem _))
    have e1 : ((zs.take l).map (fun z => UInt8.ofNat z.toNat))[i]'hi = UInt8.ofNat (zs.getD i 0).toNat := by
      simp [List.getD, List.getElem?_eq_getElem (show i < zs.length by omega)]
    rw [e1, hc]
    congr 2
    rw [UInt8.toNat_ofNat']
    omega
theorem opensL {a : Option Addr} {len cap : Nat} {x : DataW H × List MemPlace} (h : DataW.trod enc Try.prog W base spare held fuel 23 (Value.slice a len cap).cells.toList = some x) :
    ∃ ts : List (List UInt8), ts.length = len ∧ CameL W a ts := by
  rcases open_slice Try.underlying23 h with ⟨hcs, _⟩ | ⟨y, l, c, m, n, D, Pl, hcs, _, hl, hmx, hm, _, hi⟩
  · simp [Value.cells] at hcs
    obtain ⟨rfl, rfl, rfl⟩ := hcs
    exact ⟨[], rfl, ⟨Lists.nil _ _, by simp, by simp⟩⟩
  · simp [Value.cells] at hcs
    obtain ⟨rfl, rfl, rfl⟩ := hcs
    have hle : len ≤ m := by rw [hm]; split <;> omega
    have hC : Try.prog.cellsOf 35 = 1 := by kernel_rfl
    obtain ⟨b, off, spot⟩ := y
    have key : ∀ i, i < len → ∃ t : Option Addr × Nat × List UInt8, W.cell? ((⟨b, off, spot⟩ : Addr).add i) = some (.slice t.1 t.2.2.length t.2.1) ∧ Holds W t.1 t.2.2 ∧ t.2.2.length ≤ t.2.1 ∧ t.2.1 ≤ maxLen := by
      intro i hil
      obtain ⟨cs', h1, h2⟩ := hi i (by omega)
      rw [hC] at h1
      obtain ⟨_, hcl, hat⟩ := World.cells?_some h1
      match cs', hcl with
      | [u0], _ =>
        obtain ⟨A, c', bs, e2, hA⟩ := opensBytes h2
        subst e2
        refine ⟨(A, c', bs), ?_, hA⟩
        have := hat 0 (by omega)
        rw [add_add] at this
        simpa using this
    obtain ⟨ds, hdl, hds⟩ := choose_bytes len key
    have hmlen : maxLen = 9223372036854775807 := rfl
    refine ⟨ds.map fun t => t.2.2, by simp [hdl], ⟨fun i hil => ?_, fun x hx => ?_, by rw [List.length_map, hdl]; omega⟩⟩
    · have hil' : i < ds.length := by simpa using hil
      have hspot : spot = none := by
        have := World.cell?_spot (hds 0 (by omega)).1
        simpa [Addr.add] using this
      subst hspot
      obtain ⟨g1, g2, g3, g4⟩ := hds i hil'
      rw [Addr.add_lit] at g1
      refine ⟨b, off, ds[i].1, ds[i].2.1, rfl, World.block_lt_of_cell? W _ g1, ?_, ?_⟩
      · rw [g1]; simp
      · simpa using g2
    · obtain ⟨t, ht, rfl⟩ := List.mem_map.1 hx
      obtain ⟨i, hil, rfl⟩ := List.mem_iff_getElem.1 ht
      obtain ⟨g1, g2, g3, g4⟩ := hds i hil
      omega
end
theorem length_huge (n : Int) (w : World) (h0 : 9223372036854775795 < n) (h : n ≤ 9223372036854775807) :
    Calls Try.prog 34 #[.int .i64 n] w fun e w' => e = .returned (.int .i64 9223372036854775807) ∧ w = w' := by
  go_enter Try.func34, Try.ntmps34
  go_wp2_with fail
  go_ret
  exact ⟨rfl, rfl⟩
theorem add_full_huge {w0 w : World} {J : Jd} {m : Mod} (h : JP w0 w J m) (q : Nat) (hq : ((J.tt : Int) - (J.fr : Int)) * (J.f : Int) = (q : Nat)) (hq1 : q ≤ 1000000) (A : Option Addr) (c n : Nat) (hn1 : 9223372036854775795 < n) (hn : n ≤ 9223372036854775807) :
    Calls Try.prog 12 #[J.ptr, .slice A n c] w fun e w' => e = .returned (.int .i64 12) ∧ ∃ k, w' = w.drewN k := by
  have hok := h.ok
  have hbb := beg_bounds J.f J.row.length (by have := hok.f1; omega)
  have hlen := hok.len
  have T := there_any J.p J.dp w h.is.c0
  have LN := length_huge (n : Int) w (by omega) (by omega)
  have LF := left_q J.p J.fr J.tt J.f J.row.length J.c q J.A w h.is.c1 h.is.c2 h.is.c3 h.is.c5 hok.f1 hok.f2 (by omega) (Nat.le_of_lt hok.lo) (Nat.le_trans hok.hi hok.n) hq hq1
  have hfi : (q : Int) - (beg J.f J.row.length : Nat) < 9223372036854775807 := by omega
  replace LF := Lib.hid LF
  replace LN := Lib.hid LN
  replace T := Lib.hid T
  generalize beg J.f J.row.length = z at *
  clear h hok hq
  go_enter Try.func12, Try.ntmps12
  go_wp2_with fail
  with_reducible refine T.out.mono ?_
  rintro e w1 ⟨rfl, rfl⟩
  go_wp2_with fail
  with_reducible refine LN.out.mono ?_
  rintro e w2 ⟨rfl, rfl⟩
  go_wp2_with fail
  with_reducible refine LF.out.mono ?_
  rintro e w3 ⟨rfl, k3, rfl⟩
  go_wp2_with fail
  go_ret
  exact ⟨rfl, _, rfl⟩
theorem Live.full {w0 w : World} {J : Jd} {m : Mod} {c : Nat → List UInt8} {R S : List (List UInt8)} (h : Live w0 w J m c R S) (A : Option Addr) (d n : Nat) (hn : n ≤ 9223372036854775807) (hfull : (J.tt - J.fr) * J.f < beg J.f J.row.length + (n + 12)) :
    Calls Try.prog 12 #[J.ptr, .slice A n d] w fun e w' => e = .returned (.int .i64 12) ∧ ∃ k, w' = w.drewN k := by
  by_cases hh : n ≤ 9223372036854775795
  · exact h.add_full A d n hh hfull
  · exact add_full_huge h.jp _ h.q (by have := h.room; omega) A d n (by omega) hn
end Go.Proofs.Ythoihlebplmcoaa
