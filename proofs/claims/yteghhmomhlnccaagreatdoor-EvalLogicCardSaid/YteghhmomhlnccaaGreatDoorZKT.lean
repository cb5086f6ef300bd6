import Derived.Test.YteghhmomhlnccaaGreatDoorZQ

/- EvalKinds. -/
namespace Go.Proofs.YteghhmomhlnccaaGreatDoor
open Go.RowKit Go.Lib
set_option linter.unusedVariables false
set_option linter.unusedSimpArgs false
set_option maxRecDepth 100000
attribute [local go_sem ↓] eqVal neqVal
open Ex (Tree)
open Ev (V R Pl)
/-- a law's arguments: a tree that has been boxed first, columns, a row. -/
structure LawS (w wr : World) (cs : Array Value) (X : Tree) (C : List Col) (Ac : Option Addr) (L : List V) (Al : Option Addr) (a : Addr) (m : Int) : Prop where
  b : Below w.heap.size w wr
  k : Whole wr w.heap.size 26 cs
  nx : NodeV wr (.agg cs) X
  ca : ColsAt wr Ac C
  va : ValsAt wr Al L
  env : Env wr a m
theorem LawS.call {w wr w' : World} {cs X C Ac L Al a m} (h : LawS w wr cs X C Ac L Al a m) (hb : Below wr.heap.size wr w') : LawS w w' cs X C Ac L Al a m :=
  ⟨bstep h.b hb, h.k.below hb h.k.lt, h.nx.below hb, h.ca.below hb, h.va.below hb, h.env.below hb⟩
theorem LawS.alloc {w wr : World} {cs X C Ac L Al a m} (h : LawS w wr cs X C Ac L Al a m) (o : Obj) : LawS w (wr.alloc o) cs X C Ac L Al a m := h.call ((Below.refl _ _).alloc (Nat.le_refl _) o)
/-- the row's kinds. -/
theorem Ev.row_kind {C : List Col} {L : List V} (h : Ev.rowB C L = true) (hf : fitV L) : Ev.rowKind C L := by
  obtain ⟨-, h1, -, h2⟩ := Ev.rowB_is h hf
  exact ⟨h1, fun i hi hi' => h2 i hi' hi⟩
set_option maxHeartbeats 4000000 in
theorem kinds16_any (X : Tree) (C : List Col) (L : List V) (vx : Value) (Ac Al : Option Addr) (cc cl : Nat) (w : World) (hx : NodeV w vx X) (hfx : fitT X) (hgx : Ex.ones rngN X = true) (hA : ColsAt w Ac C) (hFC : fitC C) (hV : ValsAt w Al L) (hFV : fitV L) (a : Addr) (m : Int) (hv : Env w a m) :
    Calls Tryz.prog 4 #[vx, .slice Ac C.length cc, .slice Al L.length cl] w fun e w' => e = .returned (.bool true) ∧ Below w.heap.size w w' := by
  obtain ⟨xop, xt, xvk, xvn, xvs, xn, xA, xc, rfl⟩ : ∃ op t vk vn vs n A c, vx = .agg (ncells op t vk vn vs A n c) := by
    cases X with
    | node op t vk vn vs ks => obtain ⟨A, c, h1, -⟩ := hx; exact ⟨_, _, _, _, _, _, _, _, h1⟩
  have b0 := (Below.refl w.heap.size w).alloc (Nat.le_refl _) (.cells (ncells xop xt xvk xvn xvs xA xn xc) 26)
  have LS : LawS w (w.alloc (.cells (ncells xop xt xvk xvn xvs xA xn xc) 26)) (ncells xop xt xvk xvn xvs xA xn xc) X C Ac L Al a m := ⟨b0, Whole.new w 26 _, hx.below b0, hA.below b0, hV.below b0, hv.below b0⟩
  obtain ⟨W1, hW1⟩ : ∃ W1, w.alloc (.cells (ncells xop xt xvk xvn xvs xA xn xc) 26) = W1 := ⟨_, rfl⟩
  rw [hW1] at LS
  have HFX := Lib.hid hfx
  have HGX := Lib.hid hgx
  have HFC := Lib.hid hFC
  have HFV := Lib.hid hFV
  obtain ⟨cn, hcn⟩ : ∃ cn, C.length = cn := ⟨_, rfl⟩
  obtain ⟨ln, hln⟩ : ∃ ln, L.length = ln := ⟨_, rfl⟩
  have HCN := Lib.hid hcn
  have HLN := Lib.hid hln
  rw [hcn, hln]
  have L1 := Lib.hid LS
  clear hx hfx hgx hA hFC hV hFV hv b0 hcn hln LS
  unfold ncells at *
  go_enter Tryz.func4, Tryz.ntmps4
  have AW := Lib.hid (awake16_any W1 a m L1.out.env)
  go_wp2_with fail
  refine AW.out.mono ?_
  rintro e W2 ⟨rfl, hb⟩
  have L2 := Lib.hid (L1.out.call hb)
  have WX := Lib.hid (Wide_any X _ W2 L2.out.nx)
  obtain ⟨c0, c1, c2, c3, c4, c5⟩ := six_of L2.out.k
  clear AW hb L1
  go_wp2_with fail
  refine WX.out.mono ?_
  rintro e W3 (⟨rfl, hb, hcx, hsx⟩ | ⟨rfl, hb⟩)
  case inr =>
    have L3 := Lib.hid (L2.out.call hb)
    clear hb
    go_wp2_with fail
    go_ret
    exact ⟨rfl, L3.out.b⟩
  have L3 := Lib.hid (L2.out.call hb)
  have MN := Lib.hid (many_any C Ac cc W3 L3.out.ca HFC.out)
  rw [HCN.out] at MN
  have HCX := Lib.hid hcx
  clear hb WX L2 c0 c1 c2 c3 c4 c5 hsx hcx
  go_wp2_with fail
  refine MN.out.mono ?_
  rintro e W4 (⟨rfl, hw4, hc50, hcs⟩ | ⟨rfl, hw4⟩)
  case inr =>
    subst hw4
    go_wp2_with fail
    go_ret
    exact ⟨rfl, L3.out.b⟩
  subst hw4
  have LO := Lib.hid (long_any L Al cl W4 L3.out.va HFV.out)
  rw [HLN.out] at LO
  have HC5 := Lib.hid hc50
  clear MN hcs hc50
  go_wp2_with fail
  refine LO.out.mono ?_
  rintro e W5 (⟨rfl, hw5, hls⟩ | ⟨rfl, hw5⟩)
  case inr =>
    subst hw5
    go_wp2_with fail
    go_ret
    exact ⟨rfl, L3.out.b⟩
  subst hw5
  have HLS := Lib.hid hls.1
  have RO := Lib.hid (row_any2 C L Ac Al cc cl W5 L3.out.ca HFC.out L3.out.va HFV.out (by have := HC5.out; have := HCN.out; omega) (by have := HLS.out; omega) a m L3.out.env)
  rw [HCN.out, HLN.out] at RO
  clear LO hls
  go_wp2_with fail
  refine RO.out.mono ?_
  rintro e W6 ⟨rfl, hb⟩
  have L6 := Lib.hid (L3.out.call hb)
  clear hb RO L3
  cases hrow : Ev.rowB C L
  case false =>
    clear hrow
    go_wp2_with fail
    go_ret
    exact ⟨rfl, L6.out.b⟩
  have HROW := Lib.hid hrow
  clear hrow
  have KI := Lib.hid (kind_any C Ac cc (by have := HC5.out; have := HCN.out; omega) HFC.out X (by have := HCX.out; omega) HFX.out _ W6 L6.out.nx L6.out.ca a m L6.out.env)
  rw [HCN.out] at KI
  obtain ⟨c0, c1, c2, c3, c4, c5⟩ := six_of L6.out.k
  go_wp2_with fail
  refine KI.out.mono ?_
  rintro e W7 ⟨rfl, hb⟩
  have L7 := Lib.hid (L6.out.call hb)
  have HOK := Lib.hid (@Kd.kK_ok C X)
  obtain ⟨kq, hkq⟩ : ∃ kq, Kd.kK C X = kq := ⟨_, rfl⟩
  have HKQ := Lib.hid hkq
  rw [hkq] at HOK ⊢
  obtain ⟨kk, ke⟩ := kq
  dsimp only at HOK ⊢
  clear hb KI L6 hkq c0 c1 c2 c3 c4 c5
  by_cases h : ke = 0
  case neg =>
    have h' : (ke != 0) = true := by simpa using h
    clear h
    go_wp2_with fail
    go_ret
    exact ⟨rfl, L7.out.b⟩
  subst h
  have h' : ((0 : Int) != 0) = false := rfl
  have EV := Lib.hid (eval_any C L Ac Al cc cl X _ W7 L7.out.ca HFC.out L7.out.va HFV.out (by have := HC5.out; have := HCN.out; omega) (by have := HLS.out; omega) a m L7.out.env L7.out.nx HFX.out (by have := HCX.out; omega) HGX.out)
  rw [HCN.out, HLN.out] at EV
  have HG : Hid (Ev.G kk (Ev.evalR C L X)) := Lib.hid (by
    obtain ⟨h1, h2, h3, h4⟩ := HOK.out rfl
    have ho : Ex.ones nodeB X = true := by
      rw [Ex.rightB, Bool.and_eq_true, Bool.and_eq_true] at h1
      exact h1.2.2
    rw [Ev.evalR, if_pos ⟨h1, HROW.out⟩]
    exact Ev.ev_kind (Ev.row_kind HROW.out HFV.out) X ho kk (h3.symm))
  obtain ⟨r, hr⟩ : ∃ r, Ev.evalR C L X = r := ⟨_, rfl⟩
  rw [hr] at EV HG
  obtain ⟨⟨rk, rn, rs⟩, re_⟩ := r
  unfold outR vv vcells at EV
  dsimp only at EV
  obtain ⟨c0, c1, c2, c3, c4, c5⟩ := six_of L7.out.k
  clear hr HOK HKQ
  go_wp2_with fail
  refine EV.out.mono ?_
  rintro e W8 ⟨rfl, hb⟩
  have L8 := Lib.hid ((L7.out.call hb).alloc (.cells #[.int .i64 rk, .int .i64 rn, .string (tx rs)] 23))
  obtain ⟨q0, q1, q2⟩ := (Row3.new W8 rk rn (tx rs)).holds
  clear hb EV L7 c0 c1 c2 c3 c4 c5
  rcases HG.out with ⟨g1, g2⟩ | g | g | g | g
  · dsimp only at g1 g2
    subst g1
    by_cases hk : rk = kk
    · have hk' : (rk == kk) = true := by simpa using hk
      clear hk g2
      go_wp2_with fail
      go_ret
      exact ⟨rfl, L8.out.b⟩
    · have hk' : (rk == kk) = false := by simpa using hk
      have hk0 : (rk == 0) = true := by simpa using g2.resolve_left hk
      clear hk g2
      go_wp2_with fail
      go_ret
      exact ⟨rfl, L8.out.b⟩
  all_goals
    dsimp only at g
    subst g
    go_wp2_with fail
    go_ret
    exact ⟨rfl, L8.out.b⟩
end Go.Proofs.YteghhmomhlnccaaGreatDoor
