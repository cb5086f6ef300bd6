/- Lists of byte strings as they stand in memory; the reference's Same. -/
import Derived.Test.YthoihlebplmcoaaJY
namespace Go.Proofs.Ythoihlebplmcoaa
open Go.RowKit
set_option linter.unusedVariables false
/-- a list of byte strings, as it stands. -/
def Lists (w : World) (A : Option Addr) (l : List (List UInt8)) : Prop :=
  ∀ i (h : i < l.length), ∃ g o B c, A = some ⟨g, o, none⟩ ∧ g < w.heap.size ∧ w.cell? ⟨g, o + i, none⟩ = some (.slice B l[i].length c) ∧ Holds w B l[i]
theorem Lists.nil (w : World) (A : Option Addr) : Lists w A [] := fun i h => absurd h (by simp)
theorem Lists.below {w w' : World} {A : Option Addr} {l : List (List UInt8)} (h : Lists w A l) (hb : Below w.heap.size w w') : Lists w' A l := fun i hi => by
  obtain ⟨g, o, B, c, e, hlt, hc, hh⟩ := h i hi
  exact ⟨g, o, B, c, e, Nat.lt_of_lt_of_le hlt hb.size, (hb.cell (p := ⟨g, o + i, none⟩) hlt).trans hc, hh.below hb⟩
/-- a list of byte strings, that the call made. -/
structure LRow (w : World) (base : Nat) (v : Value) (l : List (List UInt8)) : Prop where
  rows : ∃ ys : List Rc, ys.map (fun x => x.b) = l ∧ BRow w base v ys
theorem LRow.lists {w : World} {base : Nat} {v : Value} {l : List (List UInt8)} (h : LRow w base v l) : ∃ A c, v = .slice A l.length c ∧ Lists w A l ∧ ∀ a : Addr, A = some a → base ≤ a.block := by
  obtain ⟨ys, hy, hb⟩ := h.rows
  subst hy
  obtain ⟨h1, h2⟩ := hb.row
  rw [List.length_map]
  rcases h2 with ⟨rfl, h0⟩ | ⟨g, cap, cur, rfl, hg, hh, hn, hm, hs, ht⟩
  · rw [h0]
    have : ys = [] := List.eq_nil_of_length_eq_zero h0
    subst this
    exact ⟨none, 0, rfl, Lists.nil _ _, fun a e => by cases e⟩
  · refine ⟨_, cap, rfl, fun i hi => ?_, fun a e => by cases e; exact hg⟩
    have hi' : i < ys.length := by rw [List.length_map] at hi; exact hi
    obtain ⟨B, cc, e1, e2, _⟩ := (hb.each ys[i] (List.getElem_mem _)).shape
    refine ⟨g, 0, B, cc, rfl, (Array.getElem?_eq_some_iff.1 hh).1, ?_, ?_⟩
    · rw [Nat.zero_add, cell_of_row w g i cur 35 (0, 0) hh]
      have e3 : (vsOf ys)[i]? = some (ys[i].v) := by simp [vsOf, hi']
      rw [← ht, List.getElem?_take] at e3
      rw [if_pos (by omega)] at e3
      rw [← Array.getElem?_toList, e3, e1]
      simp
    · simpa using e2
theorem refSame_any (A B : Option Addr) (c d : Nat) (la lb : List (List UInt8)) (w : World) (ha : Lists w A la) (hb : Lists w B lb) (hl : la.length ≤ 1000000) :
    Calls Try.prog 16 #[.slice A la.length c, .slice B lb.length d] w fun e w' => e = .returned (.bool (decide (la = lb))) ∧ Below w.heap.size w w' := by
  by_cases hn : la.length = lb.length
  case neg =>
    have hni : ¬ (la.length : Int) = (lb.length : Int) := by omega
    have hne : decide (la = lb) = false := decide_eq_false fun e => hn (by rw [e])
    rw [hne]
    clear ha hb hne
    go_enter Try.func16, Try.ntmps16
    go_wp2_with fail
    go_ret
    exact ⟨rfl, Below.refl _ _⟩
  have hni : (la.length : Int) = (lb.length : Int) := by omega
  have HA := Lib.hid ha
  have HB := Lib.hid hb
  have BW := Lib.hid (Below.refl w.heap.size w)
  clear ha hb
  go_enter Try.func16, Try.ntmps16
  go_wp2_with fail
  go_loopg [5] (la.length + 1) (fun j s5 wr => ∃ i : Nat, i ≤ la.length ∧ la.length < i + j ∧ s5 = .int .i64 (i : Nat) ∧ Below w.heap.size w wr ∧ ∀ k, k < i → la[k]? = lb[k]?)
  case atStart => exact ⟨0, Nat.zero_le _, by omega, rfl, BW.out, fun k hk => absurd hk (by omega)⟩
  case round =>
    obtain ⟨i, hi, hj, rfl, hbw, heq⟩ := hrel
    have HW := Lib.hid hbw
    have HE := Lib.hid heq
    clear hbw heq BW
    by_cases hlt : i < la.length
    · have hlti : (i : Int) < (la.length : Int) := by omega
      have hltj : (i : Int) < (lb.length : Int) := by omega
      obtain ⟨g, o, X, cx, e1, -, k1, m1⟩ := (HA.out.below HW.out) i hlt
      obtain ⟨g', o', Y, cy, e1', -, k1', m1'⟩ := (HB.out.below HW.out) i (by omega)
      subst e1 e1'
      have hbd : Below wr.heap.size wr wr.drew := (Below.refl _ _).drew
      have CA := conv_bytes (m1.below hbd) cx
      have CB := conv_bytes (m1'.below hbd) cy
      clear m1 m1' hbd
      go_wp2_with fail
      go_region
      by_cases hxy : la[i] = lb[i]'(by omega)
      · have hb1 : (!(la[i] == lb[i]'(by omega))) = false := by rw [hxy]; simp
        rw [hb1]
        go_wp2_with fail
        go_roundg (la.length - i)
        case measure => omega
        case rel =>
          refine ⟨i + 1, by omega, by omega, by go_num, HW.out.drew, fun k hk => ?_⟩
          by_cases hki : k < i
          · exact HE.out k hki
          · have : k = i := by omega
            subst this
            rw [List.getElem?_eq_getElem hlt, List.getElem?_eq_getElem (by omega), hxy]
      · have hb1 : (!(la[i] == lb[i]'(by omega))) = true := by simpa using hxy
        have hne : decide (la = lb) = false := decide_eq_false fun e => hxy (by simp only [e])
        rw [hb1]
        go_wp2_with fail
        go_ret
        exact ⟨by rw [hne]; rfl, HW.out.drew⟩
    · have hge : ¬ (i : Int) < (la.length : Int) := by omega
      have heq : la = lb := List.ext_getElem? fun k => by
        by_cases hk : k < i
        · exact HE.out k hk
        · rw [List.getElem?_eq_none (by omega), List.getElem?_eq_none (by omega)]
      go_wp2_with fail
      go_ret
      exact ⟨rfl, HW.out⟩
end Go.Proofs.Ythoihlebplmcoaa
