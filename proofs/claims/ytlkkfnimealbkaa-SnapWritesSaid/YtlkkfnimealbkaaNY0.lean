/- Lists of byte strings as they stand; the reference's Same; sectors as bytes. -/
import Derived.Test.YtlkkfnimealbkaaNX
namespace Go.Proofs.Ytlkkfnimealbkaa
open Go.RowKit
open Pag (IsPage strL strL_len Bx bvs bbs)
set_option linter.unusedVariables false
def Lists (w : World) (A : Option Addr) (l : List (List UInt8)) : Prop :=
  ∀ i (h : i < l.length), ∃ g o B c, A = some ⟨g, o, none⟩ ∧ g < w.heap.size ∧ w.cell? ⟨g, o + i, none⟩ = some (.slice B l[i].length c) ∧ Holds w B l[i]
theorem Lists.below {w w' : World} {A : Option Addr} {l : List (List UInt8)} (h : Lists w A l) (hb : Below w.heap.size w w') : Lists w' A l := fun i hi => by
  obtain ⟨g, o, B, c, e, hlt, hc, hh⟩ := h i hi
  exact ⟨g, o, B, c, e, Nat.lt_of_lt_of_le hlt hb.size, (hb.cell (p := ⟨g, o + i, none⟩) hlt).trans hc, hh.below hb⟩
theorem Recs.lists {w : World} {A : Option Addr} {l : List (List UInt8)} (h : Recs w A l) : Lists w A l := fun i hi => by
  obtain ⟨g, o, B, c, e, hlt, hc, hh, -⟩ := h i hi
  exact ⟨g, o, B, c, e, hlt, hc, hh⟩
theorem MRow.lists {w : World} {base : Nat} {v : Value} {L : List (List UInt8)} (h : MRow w base v L) : ∃ A c, v = .slice A L.length c ∧ Lists w A L ∧ L.length ≤ 9223372036854775807 := by
  obtain ⟨A, c, e, hh⟩ := h.shape
  refine ⟨A, c, e, fun i hi => ?_, ?_⟩
  · obtain ⟨g, B, d, h1, h2, h3, h4⟩ := hh i hi
    exact ⟨g, 0, B, d, h1, h2, by rw [Nat.zero_add]; exact h3, h4⟩
  · obtain ⟨ys, rfl, ho, -⟩ := h.rows
    have hl : (bbs ys).length = ys.length := Pag.bbs_len ys
    rw [hl]
    rcases ho.2 with ⟨-, h0⟩ | ⟨g, cap, cur, -, -, -, hn, hm, -⟩
    · omega
    · have : maxLen = 9223372036854775807 := rfl
      omega
theorem LRo.lists2 {w : World} {base : Nat} {v : Value} {L : List (List UInt8)} (h : LRo w base v L) : ∃ A c, v = .slice A L.length c ∧ Lists w A L := h.lists
theorem refSame_any (A B : Option Addr) (c d : Nat) (la lb : List (List UInt8)) (w : World) (ha : Lists w A la) (hb : Lists w B lb) (hl : la.length ≤ 9223372036854775807) :
    Calls Try.prog 16 #[.slice A la.length c, .slice B lb.length d] w fun e w' => e = .returned (.bool (decide (la = lb))) ∧ Below w.heap.size w w' := by
  by_cases hn : la.length = lb.length
  case neg =>
    have hni : ¬ (la.length : Int) = (lb.length : Int) := by omega
    have hne : decide (la = lb) = false := decide_eq_false fun e => hn (by rw [e])
    rw [hne]
    clear ha hb hne
    go_enter Try.func16, Try.ntmps16
    go_wp2_with fail
    go_ret
    exact ⟨rfl, Below.refl _ _⟩
  have hni : (la.length : Int) = (lb.length : Int) := by omega
  have HA := Lib.hid ha
  have HB := Lib.hid hb
  have BW := Lib.hid (Below.refl w.heap.size w)
  clear ha hb
  go_enter Try.func16, Try.ntmps16
  go_wp2_with fail
  go_loopg [5] (la.length + 1) (fun j s5 wr => ∃ i : Nat, i ≤ la.length ∧ la.length < i + j ∧ s5 = .int .i64 (i : Nat) ∧ Below w.heap.size w wr ∧ ∀ k, k < i → la[k]? = lb[k]?)
  case atStart => exact ⟨0, Nat.zero_le _, by omega, rfl, BW.out, fun k hk => absurd hk (by omega)⟩
  case round =>
    obtain ⟨i, hi, hj, rfl, hbw, heq⟩ := hrel
    have HW := Lib.hid hbw
    have HE := Lib.hid heq
    clear hbw heq BW
    by_cases hlt : i < la.length
    · have hlti : (i : Int) < (la.length : Int) := by omega
      have hltj : (i : Int) < (lb.length : Int) := by omega
      obtain ⟨g, o, X, cx, e1, -, k1, m1⟩ := (HA.out.below HW.out) i hlt
      obtain ⟨g', o', Y, cy, e1', -, k1', m1'⟩ := (HB.out.below HW.out) i (by omega)
      subst e1 e1'
      have hbd : Below wr.heap.size wr wr.drew := (Below.refl _ _).drew
      have CA := conv_bytes (m1.below hbd) cx
      have CB := conv_bytes (m1'.below hbd) cy
      clear m1 m1' hbd
      go_wp2_with fail
      go_region
      by_cases hxy : la[i] = lb[i]'(by omega)
      · have hb1 : (!(la[i] == lb[i]'(by omega))) = false := by rw [hxy]; simp
        rw [hb1]
        go_wp2_with fail
        go_roundg (la.length - i)
        case measure => omega
        case rel =>
          refine ⟨i + 1, by omega, by omega, by go_num, HW.out.drew, fun k hk => ?_⟩
          by_cases hki : k < i
          · exact HE.out k hki
          · have : k = i := by omega
            subst this
            rw [List.getElem?_eq_getElem hlt, List.getElem?_eq_getElem (by omega), hxy]
      · have hb1 : (!(la[i] == lb[i]'(by omega))) = true := by simpa using hxy
        have hne : decide (la = lb) = false := decide_eq_false fun e => hxy (by simp only [e])
        rw [hb1]
        go_wp2_with fail
        go_ret
        exact ⟨by rw [hne]; rfl, HW.out.drew⟩
    · have hge : ¬ (i : Int) < (la.length : Int) := by omega
      have heq : la = lb := List.ext_getElem? fun k => by
        by_cases hk : k < i
        · exact HE.out k hk
        · rw [List.getElem?_eq_none (by omega), List.getElem?_eq_none (by omega)]
      go_wp2_with fail
      go_ret
      exact ⟨rfl, HW.out⟩
/-- whatever is written to a lit disk. -/
theorem write_lit_any {m : Mod} (hd : m.dark = false) (hf : m.fused = false) (i : Int) (b : List UInt8) :
    (m.write i b).dark = false ∧ (m.write i b).fused = false ∧ (m.write i b).n = m.n ∧ (m.write i b).size = m.size ∧ (m.write i b).waits ≤ m.waits + 1 := by
  have hbl : m.blown = false := by unfold Mod.blown; rw [hf]; rfl
  obtain ⟨d1, d2, d3, d4, d5, d6⟩ := deed_same hbl
  unfold Mod.write
  split
  · rw [if_neg (by rw [hbl]; simp)]
    exact ⟨d5.trans hd, d4.trans hf, d1, d2, Nat.le_refl _⟩
  · exact ⟨hd, hf, rfl, rfl, by omega⟩
/-- the bytes of so many sectors. -/
def secsB (m : Mod) (fr k : Nat) : List (List UInt8) := (List.range k).map fun t => secB m (fr + t)
theorem secsB_len (m : Mod) (fr k : Nat) : (secsB m fr k).length = k := by simp [secsB]
theorem secsB_snoc (m : Mod) (fr k : Nat) : secsB m fr (k + 1) = secsB m fr k ++ [secB m (fr + k)] := by simp [secsB, List.range_succ]
theorem pgs_of {m : Mod} {fr : Nat} {Os : List (Int × List (List UInt8))} (hd : m.dark = false) (h : SecsAre m fr Os) (hn : fr + Os.length ≤ m.n) (hs : 0 < m.size) : PgsAre (secsB m fr Os.length) Os := by
  refine ⟨by rw [secsB_len], fun i hi h' => ?_⟩
  have he : (secsB m fr Os.length)[i] = secB m (fr + i) := by simp [secsB]
  rw [he]
  rcases h i h' with ⟨-, -, hh⟩ | ⟨ht, hne⟩
  · exact hh
  · unfold Mod.takes at ht
    rw [hd, if_neg (by simp), if_neg (by omega)] at ht
    exact absurd ht.symm hne
end Go.Proofs.Ytlkkfnimealbkaa
