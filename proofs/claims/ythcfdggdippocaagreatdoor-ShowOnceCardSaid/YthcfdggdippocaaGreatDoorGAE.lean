/- ShowApart. -/
import Derived.Test.YthcfdggdippocaaGreatDoorGQE
import Derived.Test.YthcfdggdippocaaGreatDoorGQF
namespace Go.Proofs.YthcfdggdippocaaGreatDoor
open Go.RowKit Go.Lib
set_option linter.unusedVariables false
set_option linter.unusedSimpArgs false
set_option maxRecDepth 100000
open Ex (Tree)
theorem prR_zero {T : Tree} (h : (prR T).2 = 0) : Ex.rightB nodeB T = true ∧ (Ps.pr T).length ≤ 4000 ∧ prR T = (Ps.pr T, 0) := by
  unfold prR at *
  split at h
  · next h1 =>
    split at h
    · cases h
    · next h2 => rw [if_pos h1, if_neg h2]; exact ⟨h1, by omega, rfl⟩
  · cases h
theorem apart_same {X Y : Tree} (hx : (prR X).2 = 0) (hy : (prR Y).2 = 0) (rx : rngT X = true) (ry : rngT Y = true) : ((prR X).1 == (prR Y).1) = Ex.same X Y := by
  obtain ⟨x1, x2, x3⟩ := prR_zero hx
  obtain ⟨y1, y2, y3⟩ := prR_zero hy
  rw [x3, y3]
  simp only
  by_cases h : Ps.pr X = Ps.pr Y
  · have := Ps.pr_apart x1 rx y1 ry x2 h
    subst this
    rw [(Ex.same_iff X X).2 rfl]; simp
  · have h2 : Ex.same X Y = false := by
      cases hs : Ex.same X Y with
      | false => rfl
      | true => exact absurd (by rw [(Ex.same_iff X Y).1 hs]) h
    rw [h2]; simpa using h
set_option maxHeartbeats 2000000 in
theorem apart_any (X Y : Tree) (vx vy : Value) (w : World) (hx : NodeV w vx X) (hy : NodeV w vy Y) (hfx : fitT X) (hfy : fitT Y) (hrx : rngT X = true) (hry : rngT Y = true) (a : Addr) (m : Int) (hv : Env w a m) :
    Calls Tryz.prog 5 #[vx, vy] w fun e w' => e = .returned (.bool true) ∧ Below w.heap.size w w' := by
  have hx' := hx
  have hy' := hy
  obtain ⟨xop, xt, xvk, xvn, xvs, xks, xA, xc, hXe, rfl⟩ : ∃ op t vk vn vs ks A c, X = .node op t vk vn vs ks ∧ vx = .agg (ncells op t vk vn vs A ks.length c) := by
    cases X with
    | node op t vk vn vs ks => obtain ⟨A, c, h1, -⟩ := hx; exact ⟨_, _, _, _, _, _, A, c, rfl, h1⟩
  obtain ⟨yop, yt, yvk, yvn, yvs, yks, yA, yc, hYe, rfl⟩ : ∃ op t vk vn vs ks A c, Y = .node op t vk vn vs ks ∧ vy = .agg (ncells op t vk vn vs A ks.length c) := by
    cases Y with
    | node op t vk vn vs ks => obtain ⟨A, c, h1, -⟩ := hy; exact ⟨_, _, _, _, _, _, A, c, rfl, h1⟩
  clear hx hy hXe hYe
  have b0 : Below w.heap.size w ((w.alloc (.cells (ncells xop xt xvk xvn xvs xA xks.length xc) 26)).alloc (.cells (ncells yop yt yvk yvn yvs yA yks.length yc) 26)) := ((Below.refl _ _).alloc (Nat.le_refl _) _).alloc (by simp) _
  have k0 := (Whole.new w 26 (ncells xop xt xvk xvn xvs xA xks.length xc)).alloc (.cells (ncells yop yt yvk yvn yvs yA yks.length yc) 26)
  have k1 := Whole.new (w.alloc (.cells (ncells xop xt xvk xvn xvs xA xks.length xc) 26)) 26 (ncells yop yt yvk yvn yvs yA yks.length yc)
  simp only [World.size_alloc] at k1
  have nx := hx'.below b0
  have ny := hy'.below b0
  obtain ⟨xn, hxn⟩ : ∃ n, xks.length = n := ⟨_, rfl⟩
  obtain ⟨yn, hyn⟩ : ∃ n, yks.length = n := ⟨_, rfl⟩
  unfold ncells at *
  rw [hxn] at b0 k0 k1 nx ny ⊢
  rw [hyn] at b0 k0 k1 nx ny ⊢
  have HV := Lib.hid hv
  have HFX := Lib.hid (And.intro hfx hrx)
  have HFY := Lib.hid (And.intro hfy hry)
  clear hxn hyn hv hfx hfy hx' hy' hrx hry
  go_enter Tryz.func5, Tryz.ntmps5
  go_wp2_with fail
  generalize (w.alloc (.cells #[.int .i64 xop, .string (tx xt), .int .i64 xvk, .int .i64 xvn, .string (tx xvs), .slice xA xn xc] 26)).alloc (.cells #[.int .i64 yop, .string (tx yt), .int .i64 yvk, .int .i64 yvn, .string (tx yvs), .slice yA yn yc] 26) = W1 at *
  have AW := Lib.hid (awake14_any W1 a m (HV.out.below b0))
  have B0 := Lib.hid b0
  have K0 := Lib.hid k0
  have K1 := Lib.hid k1
  have NX := Lib.hid nx
  have NY := Lib.hid ny
  clear b0 k0 k1 nx ny
  refine AW.out.mono ?_
  rintro e W2 ⟨rfl, hb2⟩
  have KX2 := Lib.hid (K0.out.below hb2 K0.out.lt)
  have KY2 := Lib.hid (K1.out.below hb2 K1.out.lt)
  have NX2 := Lib.hid (NX.out.below hb2)
  have NY2 := Lib.hid (NY.out.below hb2)
  have B2 : Hid (Below w.heap.size w W2) := Lib.hid (B0.out.trans (hb2.mono B0.out.size))
  have WX := Lib.hid (Wide_any X _ W2 NX2.out)
  obtain ⟨c0, c1, c2, c3, c4, c5⟩ := six_of KX2.out
  clear AW hb2 K0 K1 B0 NX NY
  go_wp2_with fail
  refine WX.out.mono ?_
  rintro e W3 (⟨rfl, hb3, hcx, -⟩ | ⟨rfl, hb3⟩)
  case inr =>
    have B3 : Hid (Below w.heap.size w W3) := Lib.hid (B2.out.trans (hb3.mono B2.out.size))
    clear hb3
    go_wp2_with fail
    go_ret
    exact ⟨rfl, B3.out⟩
  case inl =>
  have B3 : Hid (Below w.heap.size w W3) := Lib.hid (B2.out.trans (hb3.mono B2.out.size))
  have KX3 := Lib.hid (KX2.out.below hb3 KX2.out.lt)
  have KY3 := Lib.hid (KY2.out.below hb3 KY2.out.lt)
  have NX3 := Lib.hid (NX2.out.below hb3)
  have NY3 := Lib.hid (NY2.out.below hb3)
  have HCX := Lib.hid hcx
  have WY := Lib.hid (Wide_any Y _ W3 NY3.out)
  clear hb3 hcx KX2 KY2 NX2 NY2 B2 WX c0 c1 c2 c3 c4 c5
  obtain ⟨d0, d1, d2, d3, d4, d5⟩ := six_of KY3.out
  go_wp2_with fail
  refine WY.out.mono ?_
  rintro e W4 (⟨rfl, hb4, hcy, -⟩ | ⟨rfl, hb4⟩)
  case inr =>
    have B4 : Hid (Below w.heap.size w W4) := Lib.hid (B3.out.trans (hb4.mono B3.out.size))
    clear hb4
    go_wp2_with fail
    go_ret
    exact ⟨rfl, B4.out⟩
  case inl =>
  have B4 : Hid (Below w.heap.size w W4) := Lib.hid (B3.out.trans (hb4.mono B3.out.size))
  have KX4 := Lib.hid (KX3.out.below hb4 KX3.out.lt)
  have KY4 := Lib.hid (KY3.out.below hb4 KY3.out.lt)
  have NX4 := Lib.hid (NX3.out.below hb4)
  have NY4 := Lib.hid (NY3.out.below hb4)
  have HCY := Lib.hid hcy
  have PX := Lib.hid (shPrint_any X _ W4 NX4.out HFX.out.1 HFX.out.2 (by have := depth_count X; have := HCX.out; omega) (HV.out.below B4.out))
  have AS := Lib.hid (fun h1 h2 => apart_same (X := X) (Y := Y) h1 h2 HFX.out.2 HFY.out.2)
  have PY : Hid (∀ W, Below W4.heap.size W4 W → Calls Tryz.prog 8 #[.agg #[.int .i64 yop, .string (tx yt), .int .i64 yvk, .int .i64 yvn, .string (tx yvs), .slice yA yn yc]] W fun e w' => e = .returned (.tuple #[.string (tx (prR Y).1), .int .i64 ((prR Y).2 : Nat)]) ∧ Below W.heap.size W w') := Lib.hid (fun W hW => shPrint_any Y _ W (NY4.out.below hW) HFY.out.1 HFY.out.2 (by have := depth_count Y; have := HCY.out; omega) (HV.out.below (bstep B4.out hW)))
  have SM : Hid (∀ W, Below W4.heap.size W4 W → Calls Tryz.prog 15 #[.agg #[.int .i64 xop, .string (tx xt), .int .i64 xvk, .int .i64 xvn, .string (tx xvs), .slice xA xn xc], .agg #[.int .i64 yop, .string (tx yt), .int .i64 yvk, .int .i64 yvn, .string (tx yvs), .slice yA yn yc]] W fun e w' => e = .returned (.bool (Ex.same X Y)) ∧ Below W.heap.size W w') := Lib.hid (fun W hW => refSame_all _ X (Nat.le_refl _) (by have := HCX.out; omega) Y _ _ W (NX4.out.below hW) (NY4.out.below hW))
  generalize prR X = px at *
  generalize prR Y = py at *
  generalize Ex.same X Y = bs at *
  obtain ⟨sx, cx⟩ := px
  obtain ⟨sy, cy⟩ := py
  simp only at AS PX PY
  clear hb4 hcy KX3 KY3 NX3 NY3 B3 WY d0 d1 d2 d3 d4 d5
  obtain ⟨c0, c1, c2, c3, c4, c5⟩ := six_of KX4.out
  go_wp2_with fail
  refine PX.out.mono ?_
  rintro e W5 ⟨rfl, hb5⟩
  have B5 := Lib.hid hb5
  have KX5 := Lib.hid (KX4.out.below hb5 KX4.out.lt)
  have KY5 := Lib.hid (KY4.out.below hb5 KY4.out.lt)
  clear hb5 PX c0 c1 c2 c3 c4 c5
  obtain ⟨d0, d1, d2, d3, d4, d5⟩ := six_of KY5.out
  go_wp2_with fail
  refine (PY.out _ B5.out).mono ?_
  rintro e W6 ⟨rfl, hb6⟩
  have B6 := Lib.hid (bstep B5.out hb6)
  have BW := Lib.hid (bstep B4.out B6.out)
  have KX6 := Lib.hid (KX5.out.below hb6 KX5.out.lt)
  have KY6 := Lib.hid (KY5.out.below hb6 KY5.out.lt)
  clear hb6 PY d0 d1 d2 d3 d4 d5 KX5 KY5
  obtain ⟨c0, c1, c2, c3, c4, c5⟩ := six_of KX6.out
  obtain ⟨d0, d1, d2, d3, d4, d5⟩ := six_of KY6.out
  by_cases hx0 : cx = 0
  · subst hx0
    by_cases hy0 : cy = 0
    · subst hy0
      have HS := Lib.hid (AS.out rfl rfl)
      cases hq : (sx == sy)
      all_goals
        rw [hq] at HS
        have hs := HS.out
        subst hs
        clear AS HS
        go_wp2_with fail
        refine (SM.out _ B6.out).mono ?_
        rintro e W7 ⟨rfl, hb7⟩
        have B7 := Lib.hid (bstep BW.out hb7)
        clear hb7
        go_wp2_with fail
        go_ret
        exact ⟨rfl, B7.out⟩
    · have hy9 : ((cy : Int) != 0) = true := by simp; omega
      clear AS SM hy0
      go_wp2_with fail
      go_ret
      exact ⟨rfl, BW.out⟩
  · have hx9 : ((cx : Int) != 0) = true := by simp; omega
    clear AS SM hx0
    go_wp2_with fail
    go_ret
    exact ⟨rfl, BW.out⟩
end Go.Proofs.YthcfdggdippocaaGreatDoor
