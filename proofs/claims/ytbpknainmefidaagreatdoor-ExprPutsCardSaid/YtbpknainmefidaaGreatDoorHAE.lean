/- ExprPuts. -/
import Derived.Test.YtbpknainmefidaaGreatDoorHMF
import Derived.Test.YtbpknainmefidaaGreatDoorHS
import Derived.Test.YtbpknainmefidaaGreatDoorHR
import Derived.Test.YtbpknainmefidaaGreatDoorHU
import Derived.Test.YtbpknainmefidaaGreatDoorHAE0
namespace Go.Proofs.YtbpknainmefidaaGreatDoor
open Go.RowKit Go.Lib
set_option linter.unusedVariables false
set_option linter.unusedSimpArgs false
set_option maxRecDepth 100000
open Ex (Tree)

theorem StrsBel9 {w w' : World} {A : Option Addr} {l : List ByteArray} (h : Strs w A l) (hb : Below w.heap.size w w') : Strs w' A l := fun i hi => by
  obtain ⟨g, o, e, hg, hc⟩ := h i hi
  exact ⟨g, o, e, Nat.lt_of_lt_of_le hg hb.size, (hb.cell hg).trans hc⟩
/-- the names of a tree that is small, told as a row. -/
theorem names_row (T : Tree) (v : Value) (w : World) (h : NodeV w v T) (hf : fitT T) (hc : Ex.count T ≤ 500000) :
    Calls Tryz.prog 14 #[v] w fun e w' => ∃ A' c', e = .returned (.slice A' ((Ex.names T).map tx).length c') ∧ Strs w' A' ((Ex.names T).map tx) ∧ Below w.heap.size w w' :=
  (callsIn_wide.1 (names_in T v w h hf (by have := depth_count T; omega) (by omega))).mono (by
    rintro e w' ⟨u, rfl, hr, hb⟩
    obtain ⟨A', c', rfl, -, h3⟩ := hr.strs
    exact ⟨A', c', rfl, h3, hb⟩)
set_option maxHeartbeats 4000000 in
theorem puts_any (X Y : Tree) (vx vy : Value) (s : ByteArray) (w : World) (hx : NodeV w vx X) (hy : NodeV w vy Y) (hfx : fitT X) (hfy : fitT Y) (a : Addr) (m : Int) (hv : Env w a m) :
    Calls Tryz.prog 4 #[vx, vy, .string s] w fun e w' => e = .returned (.bool true) ∧ Below w.heap.size w w' := by
  obtain ⟨nm, hnm⟩ : ∃ nm : List UInt8, s = tx nm := ⟨s.data.toList, by simp [tx]⟩
  subst hnm
  obtain ⟨X0, hX0⟩ : ∃ X0, X = X0 := ⟨_, rfl⟩
  obtain ⟨Y0, hY0⟩ : ∃ Y0, Y = Y0 := ⟨_, rfl⟩
  have hx' := hx
  have hy' := hy
  obtain ⟨xop, xt, xvk, xvn, xvs, xks, xA, xc, hXe, rfl, -, -⟩ : ∃ op t vk vn vs ks A c, X = .node op t vk vn vs ks ∧ vx = .agg (ncells op t vk vn vs A ks.length c) ∧ ks.length ≤ c ∧ TreesAt w A 0 ks := by
    cases X with
    | node op t vk vn vs ks => obtain ⟨A, c, h1, h2, h3⟩ := hx; exact ⟨_, _, _, _, _, _, A, c, rfl, h1, h2, h3⟩
  obtain ⟨yop, yt, yvk, yvn, yvs, yks, yA, yc, hYe, rfl, hyc, hyk⟩ : ∃ op t vk vn vs ks A c, Y = .node op t vk vn vs ks ∧ vy = .agg (ncells op t vk vn vs A ks.length c) ∧ ks.length ≤ c ∧ TreesAt w A 0 ks := by
    cases Y with
    | node op t vk vn vs ks => obtain ⟨A, c, h1, h2, h3⟩ := hy; exact ⟨_, _, _, _, _, _, A, c, rfl, h1, h2, h3⟩
  have HYE := Lib.hid hYe
  have HYK := Lib.hid (And.intro hyc hyk)
  clear hx hy hXe hYe hyc hyk hX0 hY0 X0 Y0
  have b0 : Below w.heap.size w ((w.alloc (.cells (ncells xop xt xvk xvn xvs xA xks.length xc) 26)).alloc (.cells (ncells yop yt yvk yvn yvs yA yks.length yc) 26)) := ((Below.refl _ _).alloc (Nat.le_refl _) _).alloc (by simp) _
  have k0 := (Whole.new w 26 (ncells xop xt xvk xvn xvs xA xks.length xc)).alloc (.cells (ncells yop yt yvk yvn yvs yA yks.length yc) 26)
  have k1 := Whole.new (w.alloc (.cells (ncells xop xt xvk xvn xvs xA xks.length xc) 26)) 26 (ncells yop yt yvk yvn yvs yA yks.length yc)
  simp only [World.size_alloc] at k1
  have nx := hx'.below b0
  have ny := hy'.below b0
  obtain ⟨xn, hxn⟩ : ∃ n, xks.length = n := ⟨_, rfl⟩
  obtain ⟨yn, hyn⟩ : ∃ n, yks.length = n := ⟨_, rfl⟩
  have HYN := Lib.hid hyn
  unfold ncells at *
  rw [hxn] at b0 k0 k1 nx ny ⊢
  rw [hyn] at b0 k0 k1 nx ny ⊢
  have HV := Lib.hid hv
  have HFX := Lib.hid hfx
  have HFY := Lib.hid hfy
  have HY0 := Lib.hid hy'
  clear hxn hyn hv hfx hfy hx' hy'
  go_enter Tryz.func4, Tryz.ntmps4
  go_wp2_with fail
  generalize (w.alloc (.cells #[.int .i64 xop, .string (tx xt), .int .i64 xvk, .int .i64 xvn, .string (tx xvs), .slice xA xn xc] 26)).alloc (.cells #[.int .i64 yop, .string (tx yt), .int .i64 yvk, .int .i64 yvn, .string (tx yvs), .slice yA yn yc] 26) = W1 at *
  have AW := Lib.hid (awake_any W1 a m (HV.out.below b0))
  have B0 := Lib.hid b0
  have K0 := Lib.hid k0
  have K1 := Lib.hid k1
  have NX := Lib.hid nx
  have NY := Lib.hid ny
  clear b0 k0 k1 nx ny
  refine AW.out.mono ?_
  rintro e W2 ⟨rfl, hb2⟩
  have KX2 := Lib.hid (K0.out.below hb2 K0.out.lt)
  have KY2 := Lib.hid (K1.out.below hb2 K1.out.lt)
  have NX2 := Lib.hid (NX.out.below hb2)
  have NY2 := Lib.hid (NY.out.below hb2)
  have B2 : Hid (Below w.heap.size w W2) := Lib.hid (B0.out.trans (hb2.mono B0.out.size))
  have WX := Lib.hid (Wide_any X _ W2 NX2.out)
  obtain ⟨c0, c1, c2, c3, c4, c5⟩ := six_of KX2.out
  clear AW hb2 K0 K1 B0 NX NY
  go_wp2_with fail
  refine WX.out.mono ?_
  rintro e W3 (⟨rfl, hb3, hcx, -⟩ | ⟨rfl, hb3⟩)
  case inr =>
    have B3 : Hid (Below w.heap.size w W3) := Lib.hid (B2.out.trans (hb3.mono B2.out.size))
    clear hb3
    go_wp2_with fail
    go_ret
    exact ⟨rfl, B3.out⟩
  have KX3 := Lib.hid (KX2.out.below hb3 KX2.out.lt)
  have KY3 := Lib.hid (KY2.out.below hb3 KY2.out.lt)
  have NX3 := Lib.hid (NX2.out.below hb3)
  have NY3 := Lib.hid (NY2.out.below hb3)
  have B3 : Hid (Below w.heap.size w W3) := Lib.hid (B2.out.trans (hb3.mono B2.out.size))
  have HCX := Lib.hid hcx
  have WY := Lib.hid (Wide_any Y _ W3 NY3.out)
  obtain ⟨c0, c1, c2, c3, c4, c5⟩ := six_of KY3.out
  clear hb3 hcx WX KX2 KY2 NX2 NY2 B2
  go_wp2_with fail
  refine WY.out.mono ?_
  rintro e W4 (⟨rfl, hb4, hcy, -⟩ | ⟨rfl, hb4⟩)
  case inr =>
    have B4 : Hid (Below w.heap.size w W4) := Lib.hid (B3.out.trans (hb4.mono B3.out.size))
    clear hb4
    go_wp2_with fail
    go_ret
    exact ⟨rfl, B4.out⟩
  have KX4 := Lib.hid (KX3.out.below hb4 KX3.out.lt)
  have KY4 := Lib.hid (KY3.out.below hb4 KY3.out.lt)
  have NX4 := Lib.hid (NX3.out.below hb4)
  have NY4 := Lib.hid (NY3.out.below hb4)
  have B4 : Hid (Below w.heap.size w W4) := Lib.hid (B3.out.trans (hb4.mono B3.out.size))
  have HCY := Lib.hid hcy
  clear hb4 hcy WY KX3 KY3 NX3 NY3 B3 c0 c1 c2 c3 c4 c5
  by_cases hlen : nm.length ≤ 100
  case neg =>
    have hl' : (100 : Int) < (nm.length : Int) := by omega
    go_wp2_with fail
    go_ret
    exact ⟨rfl, B4.out⟩
  have hl' : ¬ (100 : Int) < (nm.length : Int) := by omega
  have hcZ : Ex.count (Ex.put nm Y X) ≤ 250000 := by
    have h1 := count_put nm Y X
    have h2 : Ex.count X * Ex.count Y ≤ 500 * 500 := Nat.mul_le_mul HCX.out HCY.out
    omega
  have HCZ := Lib.hid hcZ
  have HFZ := Lib.hid (fit_put nm HFY.out X HFX.out)
  have PUT : Hid (Calls Tryz.prog 18 #[.agg #[.int .i64 xop, .string (tx xt), .int .i64 xvk, .int .i64 xvn, .string (tx xvs), .slice xA xn xc], .string (tx nm), .agg #[.int .i64 yop, .string (tx yt), .int .i64 yvk, .int .i64 yvn, .string (tx yvs), .slice yA yn yc]] W4 fun e w' => ∃ u, e = .returned u ∧ NodeNew W4.heap.size w' u (Ex.put nm Y X) ∧ Below W4.heap.size W4 w') := Lib.hid (by
    have h := put_all nm yop yt yvk yvn yvs yks (by rw [← HYE.out]; have := HCY.out; omega) _ X (Nat.le_refl _) (by have := HCX.out; omega) _ yA yc W4 NX4.out HYK.out.1 (((HYK.out.2).below B4.out))
    unfold ncells at h
    rw [HYN.out, ← HYE.out] at h
    exact h)
  obtain ⟨Z, hZ⟩ : ∃ Z, Ex.put nm Y X = Z := ⟨_, rfl⟩
  have HZE := Lib.hid hZ
  rw [hZ] at PUT HCZ HFZ hcZ
  obtain ⟨c0, c1, c2, c3, c4, c5⟩ := six_of KX4.out
  obtain ⟨d0, d1, d2, d3, d4, d5⟩ := six_of KY4.out
  clear hZ hcZ hlen
  go_wp2_with fail
  refine PUT.out.mono ?_
  rintro e W5 ⟨u, rfl, hu, hb5⟩
  have NZ5 : NodeV W5 u Z := hu.node
  obtain ⟨zop, zt, zvk, zvn, zvs, zn, zA, zc, rfl⟩ : ∃ op t vk vn vs n A c, u = .agg (ncells op t vk vn vs A n c) := by
    cases Z with
    | node op t vk vn vs ks => obtain ⟨A, c, h1, -⟩ := NZ5; exact ⟨_, _, _, _, _, _, _, _, h1⟩
  have b6 : Below W4.heap.size W4 (W5.alloc (.cells (ncells zop zt zvk zvn zvs zA zn zc) 26)) := hb5.alloc hb5.size _
  have kz := Whole.new W5 26 (ncells zop zt zvk zvn zvs zA zn zc)
  have nz := NZ5.below ((Below.refl W5.heap.size W5).alloc (Nat.le_refl _) (.cells (ncells zop zt zvk zvn zvs zA zn zc) 26))
  unfold ncells at *
  have KX6 := Lib.hid (KX4.out.below b6 KX4.out.lt)
  have KY6 := Lib.hid (KY4.out.below b6 KY4.out.lt)
  have NX6 := Lib.hid (NX4.out.below b6)
  have NY6 := Lib.hid (NY4.out.below b6)
  have KZ6 := Lib.hid kz
  have NZ6 := Lib.hid nz
  have B6 : Hid (Below w.heap.size w (W5.alloc (.cells #[.int .i64 zop, .string (tx zt), .int .i64 zvk, .int .i64 zvn, .string (tx zvs), .slice zA zn zc] 26))) := Lib.hid (B4.out.trans (b6.mono B4.out.size))
  clear b6 kz nz NZ5 hu hb5 PUT c0 c1 c2 c3 c4 c5 d0 d1 d2 d3 d4 d5 KX4 KY4 NX4 NY4 B4
  go_upto_region 6 with fail
  obtain ⟨BZ, hBZ⟩ : ∃ B, W5.heap.size = B := ⟨_, rfl⟩
  try rw [hBZ]
  rw [hBZ] at KZ6
  generalize W5.alloc (.cells #[.int .i64 zop, .string (tx zt), .int .i64 zvk, .int .i64 zvn, .string (tx zvs), .slice zA zn zc] 26) = W6 at *
  clear hBZ
  obtain ⟨c0, c1, c2, c3, c4, c5⟩ := six_of KX6.out
  obtain ⟨d0, d1, d2, d3, d4, d5⟩ := six_of KY6.out
  obtain ⟨e0, e1, e2, e3, e4, e5⟩ := six_of KZ6.out
  have KK : Hid (∀ w', Below W6.heap.size W6 w' → Below W6.heap.size W6 w' ∧ w'.cell? ⟨w.heap.size, 0, none⟩ = some (.int .i64 xop) ∧ w'.cell? ⟨w.heap.size, 1, none⟩ = some (.string (tx xt)) ∧ w'.cell? ⟨w.heap.size, 2, none⟩ = some (.int .i64 xvk) ∧ w'.cell? ⟨w.heap.size, 3, none⟩ = some (.int .i64 xvn) ∧ w'.cell? ⟨w.heap.size, 4, none⟩ = some (.string (tx xvs)) ∧ w'.cell? ⟨w.heap.size, 5, none⟩ = some (.slice xA xn xc) ∧ w'.cell? ⟨w.heap.size + 1, 0, none⟩ = some (.int .i64 yop) ∧ w'.cell? ⟨w.heap.size + 1, 1, none⟩ = some (.string (tx yt)) ∧ w'.cell? ⟨w.heap.size + 1, 2, none⟩ = some (.int .i64 yvk) ∧ w'.cell? ⟨w.heap.size + 1, 3, none⟩ = some (.int .i64 yvn) ∧ w'.cell? ⟨w.heap.size + 1, 4, none⟩ = some (.string (tx yvs)) ∧ w'.cell? ⟨w.heap.size + 1, 5, none⟩ = some (.slice yA yn yc) ∧ w'.cell? ⟨BZ, 0, none⟩ = some (.int .i64 zop) ∧ w'.cell? ⟨BZ, 1, none⟩ = some (.string (tx zt)) ∧ w'.cell? ⟨BZ, 2, none⟩ = some (.int .i64 zvk) ∧ w'.cell? ⟨BZ, 3, none⟩ = some (.int .i64 zvn) ∧ w'.cell? ⟨BZ, 4, none⟩ = some (.string (tx zvs)) ∧ w'.cell? ⟨BZ, 5, none⟩ = some (.slice zA zn zc)) := Lib.hid (fun w' hw => by
    obtain ⟨p0, p1, p2, p3, p4, p5⟩ := six_of (KX6.out.below hw KX6.out.lt)
    obtain ⟨q0, q1, q2, q3, q4, q5⟩ := six_of (KY6.out.below hw KY6.out.lt)
    exact ⟨hw, p0, p1, p2, p3, p4, p5, q0, q1, q2, q3, q4, q5, six_of (KZ6.out.below hw KZ6.out.lt)⟩)
  have RP : Hid (∀ W, Below W6.heap.size W6 W → Calls Tryz.prog 20 #[.agg #[.int .i64 xop, .string (tx xt), .int .i64 xvk, .int .i64 xvn, .string (tx xvs), .slice xA xn xc], .string (tx nm), .agg #[.int .i64 yop, .string (tx yt), .int .i64 yvk, .int .i64 yvn, .string (tx yvs), .slice yA yn yc]] W fun e w' => ∃ u, e = .returned u ∧ NodeV w' u Z ∧ Below W.heap.size W w') := Lib.hid (fun W hW => by
    have h := refPut_all nm yop yt yvk yvn yvs yks (· < W.heap.size) _ X (Nat.le_refl _) (by have := HCX.out; omega) _ yA yc W (NX6.out.below hW) HYK.out.1 ((HYK.out.2.below (bstep B6.out hW)).inn) (fun k hk => hk)
    unfold ncells at h
    rw [HYN.out, ← HYE.out, HZE.out] at h
    exact h.mono (by rintro e w' ⟨u, rfl, hu, hb⟩; exact ⟨u, rfl, hu.node, hb⟩))
  have RZ : Hid (∀ W u, Below W6.heap.size W6 W → NodeV W u Z → Calls Tryz.prog 19 #[.agg #[.int .i64 zop, .string (tx zt), .int .i64 zvk, .int .i64 zvn, .string (tx zvs), .slice zA zn zc], u] W fun e w' => e = .returned (.bool true) ∧ Below W.heap.size W w') := Lib.hid (fun W u hW hu => by
    have h := refSame_all _ Z (Nat.le_refl _) (by have := HCZ.out; omega) Z _ u W (NZ6.out.below hW) hu
    rw [(Ex.same_iff Z Z).2 rfl] at h
    exact h)
  have RS : Hid (∀ W, Below W6.heap.size W6 W → Calls Tryz.prog 19 #[.agg #[.int .i64 xop, .string (tx xt), .int .i64 xvk, .int .i64 xvn, .string (tx xvs), .slice xA xn xc], .agg #[.int .i64 yop, .string (tx yt), .int .i64 yvk, .int .i64 yvn, .string (tx yvs), .slice yA yn yc]] W fun e w' => e = .returned (.bool (Ex.same X Y)) ∧ Below W.heap.size W w') := Lib.hid (fun W hW => refSame_all _ X (Nat.le_refl _) (by have := HCX.out; omega) Y _ _ W (NX6.out.below hW) (NY6.out.below hW))
  have SS : Hid (∀ W, Below W6.heap.size W6 W → Calls Tryz.prog 21 #[.agg #[.int .i64 xop, .string (tx xt), .int .i64 xvk, .int .i64 xvn, .string (tx xvs), .slice xA xn xc], .agg #[.int .i64 yop, .string (tx yt), .int .i64 yvk, .int .i64 yvn, .string (tx yvs), .slice yA yn yc]] W fun e w' => e = .returned (.bool (Ex.same X Y)) ∧ Below W.heap.size W w') := Lib.hid (fun W hW => same_all _ X (Nat.le_refl _) (by have := HCX.out; omega) Y _ _ W (NX6.out.below hW) (NY6.out.below hW))
  have SX : Hid (∀ W, Below W6.heap.size W6 W → Calls Tryz.prog 21 #[.agg #[.int .i64 xop, .string (tx xt), .int .i64 xvk, .int .i64 xvn, .string (tx xvs), .slice xA xn xc], .agg #[.int .i64 xop, .string (tx xt), .int .i64 xvk, .int .i64 xvn, .string (tx xvs), .slice xA xn xc]] W fun e w' => e = .returned (.bool true) ∧ Below W.heap.size W w') := Lib.hid (fun W hW => by
    have h := same_all _ X (Nat.le_refl _) (by have := HCX.out; omega) X _ _ W (NX6.out.below hW) (NX6.out.below hW)
    rw [(Ex.same_iff X X).2 rfl] at h
    exact h)
  generalize hsb : Ex.same X Y = sb at *
  clear hsb
  go_cut [48] from 27 to 48 (fun s48 wc => s48 = .bool false ∧ Hid (Below W6.heap.size W6 wc))
  case first =>
    go_region_held3 (fun w' => Below W6.heap.size W6 w' ∧ w'.cell? ⟨w.heap.size, 0, none⟩ = some (.int .i64 xop) ∧ w'.cell? ⟨w.heap.size, 1, none⟩ = some (.string (tx xt)) ∧ w'.cell? ⟨w.heap.size, 2, none⟩ = some (.int .i64 xvk) ∧ w'.cell? ⟨w.heap.size, 3, none⟩ = some (.int .i64 xvn) ∧ w'.cell? ⟨w.heap.size, 4, none⟩ = some (.string (tx xvs)) ∧ w'.cell? ⟨w.heap.size, 5, none⟩ = some (.slice xA xn xc) ∧ w'.cell? ⟨w.heap.size + 1, 0, none⟩ = some (.int .i64 yop) ∧ w'.cell? ⟨w.heap.size + 1, 1, none⟩ = some (.string (tx yt)) ∧ w'.cell? ⟨w.heap.size + 1, 2, none⟩ = some (.int .i64 yvk) ∧ w'.cell? ⟨w.heap.size + 1, 3, none⟩ = some (.int .i64 yvn) ∧ w'.cell? ⟨w.heap.size + 1, 4, none⟩ = some (.string (tx yvs)) ∧ w'.cell? ⟨w.heap.size + 1, 5, none⟩ = some (.slice yA yn yc) ∧ w'.cell? ⟨BZ, 0, none⟩ = some (.int .i64 zop) ∧ w'.cell? ⟨BZ, 1, none⟩ = some (.string (tx zt)) ∧ w'.cell? ⟨BZ, 2, none⟩ = some (.int .i64 zvk) ∧ w'.cell? ⟨BZ, 3, none⟩ = some (.int .i64 zvn) ∧ w'.cell? ⟨BZ, 4, none⟩ = some (.string (tx zvs)) ∧ w'.cell? ⟨BZ, 5, none⟩ = some (.slice zA zn zc))
      (first | (exact KK.out _ (Below.refl _ _).drew) | (go_split_ands; exact KK.out _ (bstep (by assumption) hb5)) | (go_split_ands; exact KK.out _ (bstep (by assumption) hb4)) | (go_split_ands; exact KK.out _ (bstep (by assumption) hb3)) | (go_split_ands; exact KK.out _ (bstep (by assumption) hb2)) | (go_split_ands; exact KK.out _ (bstep (by assumption) hb1)) | go_keep)
      (first
        | (go_at_call 20; (with_reducible refine (RP.out _ ?_).mono ?_); (go_split_ands; assumption); rintro e wp1 ⟨u1, rfl, hu1, hb1⟩)
        | (go_at_call 19; (with_reducible refine (RZ.out _ _ ?_ hu1).mono ?_); (go_split_ands; assumption); rintro e wp2 ⟨rfl, hb2⟩)
        | (go_at_call 21; (with_reducible refine (SS.out _ ?_).mono ?_); (go_split_ands; assumption); rintro e wp3 ⟨rfl, hb3⟩)
        | (go_at_call 19; (with_reducible refine (RS.out _ ?_).mono ?_); (go_split_ands; assumption); rintro e wp4 ⟨rfl, hb4⟩)
        | (go_at_call 21; (with_reducible refine (SX.out _ ?_).mono ?_); (go_split_ands; assumption); rintro e wp5 ⟨rfl, hb5⟩))
    all_goals
      go_wp2_with fail
      go_meet
      case rel => exact ⟨rfl, Lib.hid (by (go_split_ands; first | assumption | exact bstep (by assumption) hb5))⟩
  case rest =>
    obtain ⟨rfl, HB7⟩ := hcut
    obtain ⟨wd, rfl⟩ : ∃ wd, wd = wc := ⟨wc, rfl⟩
    have HX : Hid (hasC (Ex.names X) nm = true ↔ nm ∈ Ex.flat X) := Lib.hid (hasC_names X nm)
    have HYF : Hid (hasC (Ex.names Y) nm = true ↔ nm ∈ Ex.flat Y) := Lib.hid (hasC_names Y nm)
    have HZF : Hid (hasC (Ex.names Z) nm = true ↔ nm ∈ Ex.flat Z) := Lib.hid (hasC_names Z nm)
    have NMX : Hid (∀ W, Below W6.heap.size W6 W → Calls Tryz.prog 14 #[.agg #[.int .i64 xop, .string (tx xt), .int .i64 xvk, .int .i64 xvn, .string (tx xvs), .slice xA xn xc]] W fun e w' => ∃ A' c', e = .returned (.slice A' ((Ex.names X).map tx).length c') ∧ Strs w' A' ((Ex.names X).map tx) ∧ Below W.heap.size W w') := Lib.hid (fun W hW => names_row X _ W (NX6.out.below hW) HFX.out (by have := HCX.out; omega))
    have NMY : Hid (∀ W, Below W6.heap.size W6 W → Calls Tryz.prog 14 #[.agg #[.int .i64 yop, .string (tx yt), .int .i64 yvk, .int .i64 yvn, .string (tx yvs), .slice yA yn yc]] W fun e w' => ∃ A' c', e = .returned (.slice A' ((Ex.names Y).map tx).length c') ∧ Strs w' A' ((Ex.names Y).map tx) ∧ Below W.heap.size W w') := Lib.hid (fun W hW => names_row Y _ W (NY6.out.below hW) HFY.out (by have := HCY.out; omega))
    have NMZ : Hid (∀ W, Below W6.heap.size W6 W → Calls Tryz.prog 14 #[.agg #[.int .i64 zop, .string (tx zt), .int .i64 zvk, .int .i64 zvn, .string (tx zvs), .slice zA zn zc]] W fun e w' => ∃ A' c', e = .returned (.slice A' ((Ex.names Z).map tx).length c') ∧ Strs w' A' ((Ex.names Z).map tx) ∧ Below W.heap.size W w') := Lib.hid (fun W hW => names_row Z _ W (NZ6.out.below hW) HFZ.out (by have := HCZ.out; omega))
    have INX : Hid (∀ W A' c', Strs W A' ((Ex.names X).map tx) → Calls Tryz.prog 22 #[.slice A' ((Ex.names X).map tx).length c', .string (tx nm)] W fun e w' => e = .returned (.bool (hasC (Ex.names X) nm)) ∧ w' = W) := Lib.hid (fun W A' c' h => in_any A' c' (Ex.names X) nm W h (by have := names_few X; have := HCX.out; omega))
    have INY : Hid (∀ W A' c', Strs W A' ((Ex.names Y).map tx) → Calls Tryz.prog 22 #[.slice A' ((Ex.names Y).map tx).length c', .string (tx nm)] W fun e w' => e = .returned (.bool (hasC (Ex.names Y) nm)) ∧ w' = W) := Lib.hid (fun W A' c' h => in_any A' c' (Ex.names Y) nm W h (by have := names_few Y; have := HCY.out; omega))
    have INZ : Hid (∀ W A' c', Strs W A' ((Ex.names Z).map tx) → Calls Tryz.prog 22 #[.slice A' ((Ex.names Z).map tx).length c', .string (tx nm)] W fun e w' => e = .returned (.bool (hasC (Ex.names Z) nm)) ∧ w' = W) := Lib.hid (fun W A' c' h => in_any A' c' (Ex.names Z) nm W h (by have := names_few Z; have := HCZ.out; omega))
    have SZX : Hid (Z = X → ∀ W, Below W6.heap.size W6 W → Calls Tryz.prog 21 #[.agg #[.int .i64 zop, .string (tx zt), .int .i64 zvk, .int .i64 zvn, .string (tx zvs), .slice zA zn zc], .agg #[.int .i64 xop, .string (tx xt), .int .i64 xvk, .int .i64 xvn, .string (tx xvs), .slice xA xn xc]] W fun e w' => e = .returned (.bool true) ∧ Below W.heap.size W w') := Lib.hid (fun hzx W hW => by
      have h := same_all _ Z (Nat.le_refl _) (by have := HCZ.out; omega) X _ _ W (NZ6.out.below hW) (NX6.out.below hW)
      rw [(Ex.same_iff Z X).2 hzx] at h
      exact h)
    have PX : Hid (hasC (Ex.names X) nm = false → Z = X) := Lib.hid (fun h => by
      rw [← HZE.out]; exact Ex.put_none nm Y X (fun hm => by rw [HX.out.2 hm] at h; cases h))
    have PZ : Hid (hasC (Ex.names X) nm = true → hasC (Ex.names Y) nm = true → hasC (Ex.names Z) nm = true) := Lib.hid (fun h1 h2 => HZF.out.2 (by rw [← HZE.out]; exact (Ex.put_has nm Y X).2 ⟨HX.out.1 h1, HYF.out.1 h2⟩))
    generalize ((Ex.names X).map tx) = nsx at *
    generalize ((Ex.names Y).map tx) = nsy at *
    generalize ((Ex.names Z).map tx) = nsz at *
    generalize hgx : hasC (Ex.names X) nm = bx at *
    generalize hgy : hasC (Ex.names Y) nm = bY at *
    generalize hgz : hasC (Ex.names Z) nm = bz at *
    generalize nsx.length = lx at *
    generalize nsy.length = ly at *
    generalize nsz.length = lz at *
    clear hgx hgy hgz RP RZ RS SS SX HX HYF HZF c0 c1 c2 c3 c4 c5 d0 d1 d2 d3 d4 d5 e0 e1 e2 e3 e4 e5
    obtain ⟨-, c0, c1, c2, c3, c4, c5, d0, d1, d2, d3, d4, d5, e0, e1, e2, e3, e4, e5⟩ := KK.out _ HB7.out
    go_upto_region 8 with fail
    go_cut [8, 9] from 49 to 56 (fun s8 s9 wc => s8 = .bool bx ∧ s9 = .bool bY ∧ Hid (Below W6.heap.size W6 wc))
    case first =>
      go_region_held3 (fun w' => Below W6.heap.size W6 w' ∧ w'.cell? ⟨w.heap.size, 0, none⟩ = some (.int .i64 xop) ∧ w'.cell? ⟨w.heap.size, 1, none⟩ = some (.string (tx xt)) ∧ w'.cell? ⟨w.heap.size, 2, none⟩ = some (.int .i64 xvk) ∧ w'.cell? ⟨w.heap.size, 3, none⟩ = some (.int .i64 xvn) ∧ w'.cell? ⟨w.heap.size, 4, none⟩ = some (.string (tx xvs)) ∧ w'.cell? ⟨w.heap.size, 5, none⟩ = some (.slice xA xn xc) ∧ w'.cell? ⟨w.heap.size + 1, 0, none⟩ = some (.int .i64 yop) ∧ w'.cell? ⟨w.heap.size + 1, 1, none⟩ = some (.string (tx yt)) ∧ w'.cell? ⟨w.heap.size + 1, 2, none⟩ = some (.int .i64 yvk) ∧ w'.cell? ⟨w.heap.size + 1, 3, none⟩ = some (.int .i64 yvn) ∧ w'.cell? ⟨w.heap.size + 1, 4, none⟩ = some (.string (tx yvs)) ∧ w'.cell? ⟨w.heap.size + 1, 5, none⟩ = some (.slice yA yn yc) ∧ w'.cell? ⟨BZ, 0, none⟩ = some (.int .i64 zop) ∧ w'.cell? ⟨BZ, 1, none⟩ = some (.string (tx zt)) ∧ w'.cell? ⟨BZ, 2, none⟩ = some (.int .i64 zvk) ∧ w'.cell? ⟨BZ, 3, none⟩ = some (.int .i64 zvn) ∧ w'.cell? ⟨BZ, 4, none⟩ = some (.string (tx zvs)) ∧ w'.cell? ⟨BZ, 5, none⟩ = some (.slice zA zn zc))
        (first | (exact KK.out _ (HB7.out.trans ((Below.refl _ _).drew.mono HB7.out.size))) | (go_split_ands; exact KK.out _ (bstep (by assumption) hb2)) | (go_split_ands; exact KK.out _ (bstep (by assumption) hb1)) | go_keep)
        (first
          | (go_at_call 14; (with_reducible refine (NMX.out _ ?_).mono ?_); (go_split_ands; assumption); rintro e wn1 ⟨A1, d1', rfl, hs1, hb1⟩)
          | (go_at_call 14; (with_reducible refine (NMY.out _ ?_).mono ?_); (go_split_ands; assumption); rintro e wn2 ⟨A2, d2', rfl, hs2, hb2⟩)
          | (go_at_call 22; (with_reducible refine (INX.out _ _ _ hs1).mono ?_); rintro e wi1 ⟨rfl, rfl⟩)
          | (go_at_call 22; (with_reducible refine (INX.out _ _ _ (StrsBel9 hs1 hb2)).mono ?_); rintro e wi1 ⟨rfl, rfl⟩)
          | (go_at_call 22; (with_reducible refine (INY.out _ _ _ hs2).mono ?_); rintro e wi2 ⟨rfl, rfl⟩))
      all_goals
        go_wp2_with fail
        go_meet
        case rel => exact ⟨rfl, rfl, Lib.hid (by (go_split_ands; first | assumption | exact bstep (by assumption) hb2))⟩
    case rest =>
      obtain ⟨rfl, rfl, HB8⟩ := hcut
      obtain ⟨we, rfl⟩ : ∃ we, we = wc := ⟨wc, rfl⟩
      have BW : Hid (Below w.heap.size w we) := Lib.hid (bstep B6.out HB8.out)
      clear c0 c1 c2 c3 c4 c5 d0 d1 d2 d3 d4 d5 e0 e1 e2 e3 e4 e5
      obtain ⟨-, c0, c1, c2, c3, c4, c5, d0, d1, d2, d3, d4, d5, e0, e1, e2, e3, e4, e5⟩ := KK.out _ HB8.out
      cases bx
      · have SZ := Lib.hid (SZX.out (PX.out rfl) we HB8.out)
        go_wp2_with fail
        refine SZ.out.mono ?_
        rintro e wz ⟨rfl, hbz⟩
        have FB := Lib.hid (bstep BW.out hbz)
        clear hbz
        go_wp2_with fail
        go_ret
        exact ⟨rfl, FB.out⟩
      · cases bY
        · go_wp2_with fail
          go_ret
          exact ⟨rfl, BW.out⟩
        · have hbz : bz = true := PZ.out rfl rfl
          subst hbz
          have NZ := Lib.hid (NMZ.out we HB8.out)
          go_wp2_with fail
          refine NZ.out.mono ?_
          rintro e wz ⟨A3, d3', rfl, hs3, hbz⟩
          have IZ := Lib.hid (INZ.out wz A3 d3' hs3)
          have FB := Lib.hid (bstep BW.out hbz)
          clear hbz
          go_wp2_with fail
          refine IZ.out.mono ?_
          rintro e wy ⟨rfl, rfl⟩
          go_wp2_with fail
          go_ret
          exact ⟨rfl, FB.out⟩
end Go.Proofs.YtbpknainmefidaaGreatDoor
