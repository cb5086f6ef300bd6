/- InferPuts. -/
import Derived.Test.YtfkbhlgoglmcpaaGreatDoorIK
import Derived.Test.YtfkbhlgoglmcpaaGreatDoorHPT
import Derived.Test.YtfkbhlgoglmcpaaGreatDoorHS
import Derived.Test.YtfkbhlgoglmcpaaGreatDoorHAE0
import Derived.Deep.RegionHeld
namespace Go.Proofs.YtfkbhlgoglmcpaaGreatDoor
open Go.RowKit Go.Lib
set_option linter.unusedVariables false
set_option linter.unusedSimpArgs false
set_option maxRecDepth 100000
open Ex (Tree)
attribute [local go_sem ↓] eqVal neqVal

theorem fitC_of_short {C : List Col} (h : shortC C) : fitC C := fun c hc => by
  have := h c hc
  simp only [maxLen]; omega
mutual
theorem short_put (n : List UInt8) {Y : Tree} (hY : shortT Y) : ∀ X : Tree, shortT X → shortT (Ex.put n Y X)
  | .node op t vk vn vs ks, h => by
    rw [Ex.put]
    split
    · exact hY
    · rw [shortT] at h ⊢
      exact ⟨h.1, shorts_put n hY ks h.2⟩
theorem shorts_put (n : List UInt8) {Y : Tree} (hY : shortT Y) : ∀ l : List Tree, shortTs l → shortTs (Ex.puts n Y l)
  | [], h => by rw [Ex.puts]; exact h
  | x :: l, h => by
    rw [Ex.puts, shortTs]
    rw [shortTs] at h
    exact ⟨short_put n hY x h.1, shorts_put n hY l h.2⟩
end
/-- a tree in new blocks stays when other blocks turn. -/
theorem put_far {B : Nat} {w w' : World} {v : Value} {T : Tree} (h : NodeNew B w v T) (hb : ∀ k, B ≤ k → k < w.heap.size → w'.heap[k]? = w.heap[k]?) : NodeV w' v T := by
  cases T with
  | node op t vk vn vs ks =>
    obtain ⟨A, c, rfl, h1, h2⟩ := h
    exact ⟨A, c, rfl, h1, (h2.moved (S' := fun _ => True) (fun k hk hlt => ⟨hb k hk hlt, trivial⟩)).at⟩
set_option maxHeartbeats 4000000 in
theorem puts15_any (X Y : Tree) (C : List Col) (vx vy : Value) (Ac : Option Addr) (cc : Nat) (at_ : Int) (w : World) (hx : NodeV w vx X) (hy : NodeV w vy Y) (hfx : fitT X) (hfy : fitT Y) (hA : ColsAt w Ac C) (hFC : fitC C) (hcc : C.length ≤ cc) (a : Addr) (m : Int) (hv : Env w a m) :
    Calls Tryz.prog 3 #[vx, vy, .slice Ac C.length cc, .int .i64 at_] w fun e w' => e = .returned (.bool true) ∧ Below w.heap.size w w' := by
  have hx' := hx
  have hy' := hy
  obtain ⟨xop, xt, xvk, xvn, xvs, xn, xA, xc, rfl⟩ : ∃ op t vk vn vs n A c, vx = .agg (ncells op t vk vn vs A n c) := by
    cases X with
    | node op t vk vn vs ks => obtain ⟨A, c, h1, -⟩ := hx; exact ⟨_, _, _, _, _, _, _, _, h1⟩
  obtain ⟨yop, yt, yvk, yvn, yvs, yks, yA, yc, hYe, rfl, hyc, hyk⟩ : ∃ op t vk vn vs ks A c, Y = .node op t vk vn vs ks ∧ vy = .agg (ncells op t vk vn vs A ks.length c) ∧ ks.length ≤ c ∧ TreesAt w A 0 ks := by
    cases Y with
    | node op t vk vn vs ks => obtain ⟨A, c, h1, h2, h3⟩ := hy; exact ⟨_, _, _, _, _, _, A, c, rfl, h1, h2, h3⟩
  have HYE := Lib.hid hYe
  have HYK := Lib.hid (And.intro hyc hyk)
  clear hx hy hYe hyc hyk
  have b0 : Below w.heap.size w ((w.alloc (.cells (ncells xop xt xvk xvn xvs xA xn xc) 26)).alloc (.cells (ncells yop yt yvk yvn yvs yA yks.length yc) 26)) := ((Below.refl _ _).alloc (Nat.le_refl _) _).alloc (by simp) _
  have k0 := (Whole.new w 26 (ncells xop xt xvk xvn xvs xA xn xc)).alloc (.cells (ncells yop yt yvk yvn yvs yA yks.length yc) 26)
  have k1 := Whole.new (w.alloc (.cells (ncells xop xt xvk xvn xvs xA xn xc) 26)) 26 (ncells yop yt yvk yvn yvs yA yks.length yc)
  simp only [World.size_alloc] at k1
  have nx := hx'.below b0
  have ny := hy'.below b0
  have ca := hA.below b0
  obtain ⟨yn, hyn⟩ : ∃ n, yks.length = n := ⟨_, rfl⟩
  have HYN := Lib.hid hyn
  unfold ncells at *
  rw [hyn] at b0 k0 k1 nx ny ca ⊢
  have HV := Lib.hid hv
  have HFX := Lib.hid hfx
  have HFY := Lib.hid hfy
  have HFC := Lib.hid hFC
  have HCC := Lib.hid hcc
  obtain ⟨q, hq⟩ : ∃ q, C.length = q := ⟨_, rfl⟩
  have HQ := Lib.hid hq
  rw [hq]
  clear hyn hv hfx hfy hFC hcc hx' hy' hA hq
  go_enter Tryz.func3, Tryz.ntmps3
  go_wp2_with fail
  generalize (w.alloc (.cells #[.int .i64 xop, .string (tx xt), .int .i64 xvk, .int .i64 xvn, .string (tx xvs), .slice xA xn xc] 26)).alloc (.cells #[.int .i64 yop, .string (tx yt), .int .i64 yvk, .int .i64 yvn, .string (tx yvs), .slice yA yn yc] 26) = W1 at *
  have AW := Lib.hid (awake15_any W1 a m (HV.out.below b0))
  have B0 := Lib.hid b0
  have K0 := Lib.hid k0
  have K1 := Lib.hid k1
  have NX := Lib.hid nx
  have NY := Lib.hid ny
  have CA := Lib.hid ca
  clear b0 k0 k1 nx ny ca
  refine AW.out.mono ?_
  rintro e W2 ⟨rfl, hb2⟩
  have KX2 := Lib.hid (K0.out.below hb2 K0.out.lt)
  have KY2 := Lib.hid (K1.out.below hb2 K1.out.lt)
  have NX2 := Lib.hid (NX.out.below hb2)
  have NY2 := Lib.hid (NY.out.below hb2)
  have CA2 := Lib.hid (CA.out.below hb2)
  have B2 : Hid (Below w.heap.size w W2) := Lib.hid (B0.out.trans (hb2.mono B0.out.size))
  have WX := Lib.hid (Wide_any X _ W2 NX2.out)
  obtain ⟨c0, c1, c2, c3, c4, c5⟩ := six_of KX2.out
  clear AW hb2 K0 K1 B0 NX NY CA
  go_wp2_with fail
  refine WX.out.mono ?_
  rintro e W3 (⟨rfl, hb3, hcx, hsx⟩ | ⟨rfl, hb3⟩)
  case inr =>
    have B3 : Hid (Below w.heap.size w W3) := Lib.hid (B2.out.trans (hb3.mono B2.out.size))
    clear hb3
    go_wp2_with fail
    go_ret
    exact ⟨rfl, B3.out⟩
  have KX3 := Lib.hid (KX2.out.below hb3 KX2.out.lt)
  have KY3 := Lib.hid (KY2.out.below hb3 KY2.out.lt)
  have NX3 := Lib.hid (NX2.out.below hb3)
  have NY3 := Lib.hid (NY2.out.below hb3)
  have CA3 := Lib.hid (CA2.out.below hb3)
  have B3 : Hid (Below w.heap.size w W3) := Lib.hid (B2.out.trans (hb3.mono B2.out.size))
  have HCX := Lib.hid hcx
  have HSX := Lib.hid hsx
  have WY := Lib.hid (Wide_any Y _ W3 NY3.out)
  obtain ⟨c0, c1, c2, c3, c4, c5⟩ := six_of KY3.out
  clear hb3 hcx hsx WX KX2 KY2 NX2 NY2 CA2 B2
  go_wp2_with fail
  refine WY.out.mono ?_
  rintro e W4 (⟨rfl, hb4, hcy, hsy⟩ | ⟨rfl, hb4⟩)
  case inr =>
    have B4 : Hid (Below w.heap.size w W4) := Lib.hid (B3.out.trans (hb4.mono B3.out.size))
    clear hb4
    go_wp2_with fail
    go_ret
    exact ⟨rfl, B4.out⟩
  have KX4 := Lib.hid (KX3.out.below hb4 KX3.out.lt)
  have KY4 := Lib.hid (KY3.out.below hb4 KY3.out.lt)
  have NX4 := Lib.hid (NX3.out.below hb4)
  have NY4 := Lib.hid (NY3.out.below hb4)
  have CA4 := Lib.hid (CA3.out.below hb4)
  have B4 : Hid (Below w.heap.size w W4) := Lib.hid (B3.out.trans (hb4.mono B3.out.size))
  have HCY := Lib.hid hcy
  have HSY := Lib.hid hsy
  have MY := Lib.hid (many_any C Ac cc W4 CA4.out HFC.out)
  rw [HQ.out] at MY
  clear hb4 hcy hsy WY KX3 KY3 NX3 NY3 CA3 B3 c0 c1 c2 c3 c4 c5
  go_wp2_with fail
  refine MY.out.mono ?_
  rintro e W5 (⟨rfl, rfl, hq50, hsc⟩ | ⟨rfl, rfl⟩)
  case inr =>
    go_wp2_with fail
    go_ret
    exact ⟨rfl, B4.out⟩
  have HSC := Lib.hid hsc
  clear MY hsc
  by_cases hq0 : q = 0
  · subst hq0
    go_wp2_with fail
    go_ret
    exact ⟨rfl, B4.out⟩
  have hq0' : ¬ (q : Int) = 0 := by omega
  have hq0b : ((q : Int) == 0) = false := by simpa using hq0'
  obtain ⟨i, hi, hpk⟩ := pick at_ q (by omega) (by omega)
  go_upto_region 6 with fail
  rw [hpk]
  have hiC : i < C.length := by rw [HQ.out]; exact hi
  obtain ⟨nm, hnm⟩ : ∃ nm, C[i].1 = nm := ⟨_, rfl⟩
  obtain ⟨kk, hkk⟩ : ∃ kk, C[i].2 = kk := ⟨_, rfl⟩
  have HCI : Hid (∃ h : i < C.length, C[i].1 = nm ∧ C[i].2 = kk) := Lib.hid ⟨hiC, hnm, hkk⟩
  have hq50' : q ≤ 50 := by omega
  have hC1 : C.length ≤ 1000000 := by rw [HQ.out]; omega
  have HC1 := Lib.hid hC1
  have V4 := Lib.hid (HV.out.below B4.out)
  have KX := Lib.hid (kind_any C Ac cc HC1.out HFC.out X (by have := HCX.out; omega) HFX.out _ W5 NX4.out CA4.out a m V4.out)
  rw [HQ.out] at KX
  clear hpk hnm hkk hC1 hiC
  obtain ⟨c0, c1, c2, c3, c4, c5⟩ := six_of KX4.out
  go_wp2_with fail
  refine KX.out.mono ?_
  rintro e W6 ⟨rfl, hb6⟩
  have KX6 := Lib.hid (KX4.out.below hb6 KX4.out.lt)
  have KY6 := Lib.hid (KY4.out.below hb6 KY4.out.lt)
  have NX6 := Lib.hid (NX4.out.below hb6)
  have NY6 := Lib.hid (NY4.out.below hb6)
  have CA6 := Lib.hid (CA4.out.below hb6)
  have B6 : Hid (Below w.heap.size w W6) := Lib.hid (B4.out.trans (hb6.mono B4.out.size))
  have V6 := Lib.hid (HV.out.below B6.out)
  have KY := Lib.hid (kind_any C Ac cc HC1.out HFC.out Y (by have := HCY.out; omega) HFY.out _ W6 NY6.out CA6.out a m V6.out)
  rw [HQ.out] at KY
  obtain ⟨kx, hkx⟩ : ∃ p, Kd.kK C X = p := ⟨_, rfl⟩
  obtain ⟨ky, hky⟩ : ∃ p, Kd.kK C Y = p := ⟨_, rfl⟩
  obtain ⟨kx1, kx2⟩ := kx
  obtain ⟨ky1, ky2⟩ := ky
  have HKX := Lib.hid hkx
  have HKY := Lib.hid hky
  rw [hkx]
  rw [hky] at KY
  clear hkx hky hb6 KX KX4 KY4 NX4 NY4 CA4 B4 V4 c0 c1 c2 c3 c4 c5
  obtain ⟨c0, c1, c2, c3, c4, c5⟩ := six_of KY6.out
  dsimp only
  go_wp2_with fail
  refine KY.out.mono ?_
  rintro e W7 ⟨rfl, hb7⟩
  have KX7 := Lib.hid (KX6.out.below hb7 KX6.out.lt)
  have KY7 := Lib.hid (KY6.out.below hb7 KY6.out.lt)
  have NX7 := Lib.hid (NX6.out.below hb7)
  have NY7 := Lib.hid (NY6.out.below hb7)
  have CA7 := Lib.hid (CA6.out.below hb7)
  have B7 : Hid (Below w.heap.size w W7) := Lib.hid (B6.out.trans (hb7.mono B6.out.size))
  clear hb7 KY KX6 KY6 NX6 NY6 CA6 B6 V6 c0 c1 c2 c3 c4 c5
  by_cases hx0 : kx2 = 0
  case neg =>
    have hx0' : (kx2 != 0) = true := by simpa using hx0
    clear hx0
    go_wp2_with fail
    go_ret
    exact ⟨rfl, B7.out⟩
  subst hx0
  by_cases hy0 : ky2 = 0
  case neg =>
    have hy0' : (ky2 != 0) = true := by simpa using hy0
    clear hy0
    go_wp2_with fail
    go_ret
    exact ⟨rfl, B7.out⟩
  subst hy0
  have hcol : ∃ b o, Ac = some ⟨b, o, none⟩ ∧ b < W7.heap.size ∧ W7.cell? ⟨b, o + i * 2, none⟩ = some (.string (tx nm)) ∧ W7.cell? ⟨b, o + i * 2 + 1, none⟩ = some (.int .i64 kk) := by
    obtain ⟨hiC, rfl, rfl⟩ := HCI.out
    exact CA7.out i hiC
  obtain ⟨b, o, rfl, hbl, d0, d1⟩ := hcol
  have hiq : (i : Int) < (q : Int) := by omega
  by_cases hkk : ky1 = kk
  case neg =>
    have hkk' : (ky1 != kk) = true := by simpa using hkk
    clear hkk d0
    go_wp2_with fail
    go_ret
    exact ⟨rfl, B7.out⟩
  subst hkk
  have PUT : Hid (∀ W, Below W7.heap.size W7 W → Calls Tryz.prog 9 #[.agg #[.int .i64 xop, .string (tx xt), .int .i64 xvk, .int .i64 xvn, .string (tx xvs), .slice xA xn xc], .string (tx nm), .agg #[.int .i64 yop, .string (tx yt), .int .i64 yvk, .int .i64 yvn, .string (tx yvs), .slice yA yn yc]] W fun e w' => ∃ zop zt zvk zvn zvs zn zA zc, e = .returned (.agg #[.int .i64 zop, .string (tx zt), .int .i64 zvk, .int .i64 zvn, .string (tx zvs), .slice zA zn zc]) ∧ NodeNew W.heap.size w' (.agg (ncells zop zt zvk zvn zvs zA zn zc)) (Ex.put nm Y X) ∧ Below W.heap.size W w' ∧ (Whole W W7.heap.size 26 (ncells 0 [] 0 0 [] none 0 0) → Whole w' W7.heap.size 26 (ncells 0 [] 0 0 [] none 0 0))) := Lib.hid (fun W hW => by
    have h := put_all nm yop yt yvk yvn yvs yks (by rw [← HYE.out]; have := HCY.out; omega) _ X (Nat.le_refl _) (by have := HCX.out; omega) _ yA yc W (NX7.out.below hW) HYK.out.1 (((HYK.out.2).below (bstep B7.out hW)))
    unfold ncells at h
    rw [HYN.out, ← HYE.out] at h
    refine h.mono ?_
    rintro e w' ⟨u, rfl, hu, hb⟩
    generalize Ex.put nm Y X = Z at *
    cases Z with
    | node op t vk vn vs ks => obtain ⟨A, c, rfl, h1, h2⟩ := hu; exact ⟨_, _, _, _, _, _, _, _, rfl, ⟨A, c, rfl, h1, h2⟩, hb, fun h => h.below hb h.lt⟩)
  obtain ⟨c0, c1, c2, c3, c4, c5⟩ := six_of KX7.out
  obtain ⟨g0, g1, g2, g3, g4, g5⟩ := six_of KY7.out
  have h16 : w.heap.size < W7.heap.size := KX7.out.lt
  have h17 : w.heap.size + 1 < W7.heap.size := KY7.out.lt
  go_upto_region 10 with fail
  go_cut [14] from 68 to 75 (fun s14 wc => ∃ B zop zt zvk zvn zvs zn zA zc, s14 = .pointer (some ⟨B, 0, none⟩) ∧ Hid (Whole wc B 26 (ncells zop zt zvk zvn zvs zA zn zc)) ∧ Hid (NodeV wc (.agg (ncells zop zt zvk zvn zvs zA zn zc)) (Ex.put nm Y X)) ∧ Hid (Below W7.heap.size W7 wc))
  case first =>
    have QD : Hid (Below W7.heap.size W7 W7.drew) := Lib.hid (Below.refl _ _).drew
    refine wp_region_held_drew (S := fun W => Below W7.heap.size W7 W) (by kernel_rfl) QD.out (fun _ => ?_)
    refine wpAnyH_take (i := 0) (oi := { dst := some 68, op := Op.load 26 (Operand.tmp 4), type := 26, pos := "law.go:80", after := #[], guard := none }) (v := ?_) rfl (by kernel_rfl) (by kernel_rfl) (by kernel_rfl) (fun _ _ _ h => h) (Or.inl ⟨by rfl, ?_⟩) QD.out ?_
    rotate_left
    · (intro W hw; obtain ⟨p0, p1, p2, p3, p4, p5⟩ := six_of (KX7.out.below hw KX7.out.lt); go_simp; try with_reducible rfl)
    simp only [Act.put, List.setIfInBounds_toArray, List.set_cons_zero, List.set_cons_succ]
    refine wpAnyH_take (i := 1) (oi := { dst := some 69, op := Op.move (Operand.tmp 2), type := 27, pos := "law.go:80", after := #[], guard := none }) (v := ?_) rfl (by kernel_rfl) (by kernel_rfl) (by kernel_rfl) (fun _ _ _ h => h) (Or.inl ⟨by rfl, ?_⟩) QD.out ?_
    rotate_left
    · (intro W hw; go_simp; try with_reducible rfl)
    simp only [Act.put, List.setIfInBounds_toArray, List.set_cons_zero, List.set_cons_succ]
    refine wpAnyH_take (i := 2) (oi := { dst := some 70, op := Op.move (Operand.tmp 9), type := 3, pos := "law.go:80", after := #[], guard := none }) (v := ?_) rfl (by kernel_rfl) (by kernel_rfl) (by kernel_rfl) (fun _ _ _ h => h) (Or.inl ⟨by rfl, ?_⟩) QD.out ?_
    rotate_left
    · (intro W hw; go_simp; try with_reducible rfl)
    simp only [Act.put, List.setIfInBounds_toArray, List.set_cons_zero, List.set_cons_succ]
    refine wpAnyH_take (i := 3) (oi := { dst := some 71, op := Op.indexAddr 27 (Operand.tmp 69) (Operand.tmp 70), type := 0, pos := "law.go:80", after := #[{ on := 1, ground := Ground.data }, { on := 2, ground := Ground.data }], guard := none }) (v := ?_) rfl (by kernel_rfl) (by kernel_rfl) (by kernel_rfl) (fun _ _ _ h => h) (Or.inl ⟨by rfl, ?_⟩) QD.out ?_
    rotate_left
    · (intro W hw; go_simp; try with_reducible rfl)
    simp only [Act.put, List.setIfInBounds_toArray, List.set_cons_zero, List.set_cons_succ]
    refine wpAnyH_take (i := 4) (oi := { dst := some 72, op := Op.fieldAddr 36 (Operand.tmp 71) 0, type := 0, pos := "law.go:80", after := #[{ on := 3, ground := Ground.data }], guard := none }) (v := ?_) rfl (by kernel_rfl) (by kernel_rfl) (by kernel_rfl) (fun _ _ _ h => h) (Or.inl ⟨by rfl, ?_⟩) QD.out ?_
    rotate_left
    · (intro W hw; go_simp; try with_reducible rfl)
    simp only [Act.put, List.setIfInBounds_toArray, List.set_cons_zero, List.set_cons_succ]
    refine wpAnyH_take (i := 5) (oi := { dst := some 73, op := Op.load 9 (Operand.tmp 72), type := 9, pos := "law.go:80", after := #[{ on := 4, ground := Ground.data }], guard := none }) (v := ?_) rfl (by kernel_rfl) (by kernel_rfl) (by kernel_rfl) (fun _ _ _ h => h) (Or.inl ⟨by rfl, ?_⟩) QD.out ?_
    rotate_left
    · (intro W hw; have p0 := (hw.cell (p := ⟨b, o + i * 2, none⟩) hbl).trans d0; go_simp; try with_reducible rfl)
    simp only [Act.put, List.setIfInBounds_toArray, List.set_cons_zero, List.set_cons_succ]
    refine wpAnyH_take (i := 6) (oi := { dst := some 74, op := Op.load 26 (Operand.tmp 5), type := 26, pos := "law.go:80", after := #[], guard := none }) (v := ?_) rfl (by kernel_rfl) (by kernel_rfl) (by kernel_rfl) (fun _ _ _ h => h) (Or.inl ⟨by rfl, ?_⟩) QD.out ?_
    rotate_left
    · (intro W hw; obtain ⟨p0, p1, p2, p3, p4, p5⟩ := six_of (KY7.out.below hw KY7.out.lt); go_simp; try with_reducible rfl)
    simp only [Act.put, List.setIfInBounds_toArray, List.set_cons_zero, List.set_cons_succ]
    refine wpAnyH_ready (rs := [7, 8]) (by kernel_rfl) (by simp) ?_
    refine AllReadyH.cons (o := { dst := some 75, op := Op.call { callee := Callee.value (Operand.func 9), args := #[Operand.tmp 68, Operand.tmp 73, Operand.tmp 74], argTypes := #[26, 9, 26] }, type := 26, pos := "law.go:80", after := #[{ on := 0, ground := Ground.data }, { on := 5, ground := Ground.data }, { on := 6, ground := Ground.data }], guard := none }) rfl (fun K hK => ?_) (AllReadyH.cons (o := { dst := some 14, op := Op.alloc 26, type := 0, pos := "law.go:80", after := #[], guard := none }) rfl (fun K hK => ?_) AllReadyH.nil)
    ·
      go_simp
      refine (PUT.out _ QD.out).mono ?_
      rintro e W ⟨zop, zt, zvk, zvn, zvs, zn, zA, zc, rfl, hz, hb8, hzz⟩
      have Q1 : Hid (Below W7.heap.size W7 W) := Lib.hid (bstep QD.out hb8)
      refine hK.out _ _ Q1.out (fun _ => ?_)
      clear hK K
      try simp only [Act.put, List.setIfInBounds_toArray, List.set_cons_zero, List.set_cons_succ]
      have Q2 := Lib.hid (Q1.out.alloc Q1.out.size (.cells (ncells 0 [] 0 0 [] none 0 0) 26))
      refine wpAnyH_ready (rs := [8]) (by kernel_rfl) (by simp) ?_
      refine AllReadyH.cons (o := { dst := some 14, op := Op.alloc 26, type := 0, pos := "law.go:80", after := #[], guard := none }) rfl (fun K hK => ?_) AllReadyH.nil
      go_simp
      refine hK.out _ _ Q2.out (fun _ => ?_)
      clear hK K
      try simp only [Act.put, List.setIfInBounds_toArray, List.set_cons_zero, List.set_cons_succ]
      have Q3 := Lib.hid (Q1.out.alloc Q1.out.size (.cells #[.int .i64 zop, .string (tx zt), .int .i64 zvk, .int .i64 zvn, .string (tx zvs), .slice zA zn zc] 26))
      refine wpAnyH_ready (rs := [9]) (by kernel_rfl) (by simp) ?_
      refine AllReadyH.cons (o := { dst := none, op := Op.store 26 (Operand.tmp 14) (Operand.tmp 75), type := 0, pos := "law.go:80", after := #[{ on := 8, ground := Ground.data }, { on := 7, ground := Ground.data }, { on := 7, ground := Ground.chain }, { on := 0, ground := Ground.phase }, { on := 1, ground := Ground.phase }, { on := 2, ground := Ground.phase }, { on := 3, ground := Ground.phase }, { on := 4, ground := Ground.phase }, { on := 5, ground := Ground.phase }, { on := 6, ground := Ground.phase }, { on := 7, ground := Ground.phase }, { on := 8, ground := Ground.phase }], guard := none }) rfl (fun K hK => ?_) AllReadyH.nil
      go_simp
      refine hK.out _ _ Q3.out (fun _ => ?_)
      clear hK K
      try simp only [Act.put, List.setIfInBounds_toArray, List.set_cons_zero, List.set_cons_succ]
      refine wpAnyH_done (by kernel_rfl) ?_ _
      have FW := Lib.hid (Whole.new W 26 #[.int .i64 zop, .string (tx zt), .int .i64 zvk, .int .i64 zvn, .string (tx zvs), .slice zA zn zc])
      have FN := Lib.hid (hz.node.below ((Below.refl _ _).alloc (Nat.le_refl _) (.cells #[.int .i64 zop, .string (tx zt), .int .i64 zvk, .int .i64 zvn, .string (tx zvs), .slice zA zn zc] 26)))
      clear hz hb8 hzz Q1 Q2
      go_wp2_with fail
      go_meet
      case rel => exact ⟨_, zop, zt, zvk, zvn, zvs, zn, zA, zc, rfl, FW, FN, Q3⟩
    ·
      go_simp
      have Q1 := Lib.hid (QD.out.alloc QD.out.size (.cells (ncells 0 [] 0 0 [] none 0 0) 26))
      refine hK.out _ _ Q1.out (fun _ => ?_)
      clear hK K
      try simp only [Act.put, List.setIfInBounds_toArray, List.set_cons_zero, List.set_cons_succ]
      refine wpAnyH_ready (rs := [7]) (by kernel_rfl) (by simp) ?_
      refine AllReadyH.cons (o := { dst := some 75, op := Op.call { callee := Callee.value (Operand.func 9), args := #[Operand.tmp 68, Operand.tmp 73, Operand.tmp 74], argTypes := #[26, 9, 26] }, type := 26, pos := "law.go:80", after := #[{ on := 0, ground := Ground.data }, { on := 5, ground := Ground.data }, { on := 6, ground := Ground.data }], guard := none }) rfl (fun K hK => ?_) AllReadyH.nil
      go_simp
      refine (PUT.out _ Q1.out).mono ?_
      rintro e W ⟨zop, zt, zvk, zvn, zvs, zn, zA, zc, rfl, hz, hb8, hzz⟩
      have w8 := hzz (Whole.new W7 _ _)
      obtain ⟨z0, z1, z2, z3, z4, z5⟩ := six_of w8
      obtain ⟨y0, y1, y2, y3, y4, y5⟩ := frozen6 w8
      have Q2 : Hid (Below W7.heap.size W7 W) := Lib.hid (bstep Q1.out hb8)
      refine hK.out _ _ Q2.out (fun _ => ?_)
      clear hK K
      try simp only [Act.put, List.setIfInBounds_toArray, List.set_cons_zero, List.set_cons_succ]
      have T8 := set6Z_touch W W7.heap.size (.int .i64 zop) (.string (tx zt)) (.int .i64 zvk) (.int .i64 zvn) (.string (tx zvs)) (.slice zA zn zc)
      have hq3 : Below W7.heap.size W7 (set6Z W W7.heap.size (.int .i64 zop) (.string (tx zt)) (.int .i64 zvk) (.int .i64 zvn) (.string (tx zvs)) (.slice zA zn zc)) := Q2.out.trans (T8.below1 (Nat.le_refl _) Q2.out.size)
      have Q3 := Lib.hid hq3
      refine wpAnyH_ready (rs := [9]) (by kernel_rfl) (by simp) ?_
      refine AllReadyH.cons (o := { dst := none, op := Op.store 26 (Operand.tmp 14) (Operand.tmp 75), type := 0, pos := "law.go:80", after := #[{ on := 8, ground := Ground.data }, { on := 7, ground := Ground.data }, { on := 7, ground := Ground.chain }, { on := 0, ground := Ground.phase }, { on := 1, ground := Ground.phase }, { on := 2, ground := Ground.phase }, { on := 3, ground := Ground.phase }, { on := 4, ground := Ground.phase }, { on := 5, ground := Ground.phase }, { on := 6, ground := Ground.phase }, { on := 7, ground := Ground.phase }, { on := 8, ground := Ground.phase }], guard := none }) rfl (fun K hK => ?_) AllReadyH.nil
      go_simp
      refine hK.out _ _ Q3.out (fun _ => ?_)
      clear hK K
      try simp only [Act.put, List.setIfInBounds_toArray, List.set_cons_zero, List.set_cons_succ]
      refine wpAnyH_done (by kernel_rfl) ?_ _
      have FW := Lib.hid (set6Z_whole w8 (.int .i64 zop) (.string (tx zt)) (.int .i64 zvk) (.int .i64 zvn) (.string (tx zvs)) (.slice zA zn zc))
      have FN : Hid (NodeV (set6Z W W7.heap.size (.int .i64 zop) (.string (tx zt)) (.int .i64 zvk) (.int .i64 zvn) (.string (tx zvs)) (.slice zA zn zc)) (.agg (ncells zop zt zvk zvn zvs zA zn zc)) (Ex.put nm Y X)) := Lib.hid (put_far hz (fun k hk hlt => T8.block k hlt (by simp at hk ⊢; omega)))
      clear hz hb8 hzz Q1 Q2 w8 T8 hq3 z0 z1 z2 z3 z4 z5 y0 y1 y2 y3 y4 y5
      go_wp2_with fail
      go_meet
      case rel => exact ⟨_, zop, zt, zvk, zvn, zvs, zn, zA, zc, rfl, FW, FN, Q3⟩
  case rest =>
    obtain ⟨B, zop, zt, zvk, zvn, zvs, zn, zA, zc, rfl, FW, FN, HB8⟩ := hcut
    obtain ⟨W8, rfl⟩ : ∃ W8, W8 = wc := ⟨wc, rfl⟩
    have B8 := Lib.hid (bstep B7.out HB8.out)
    have HCZ : Hid (Ex.count (Ex.put nm Y X) ≤ 250000) := Lib.hid (by
      have h1 := count_put nm Y X
      have h2 : Ex.count X * Ex.count Y ≤ 500 * 500 := Nat.mul_le_mul HCX.out HCY.out
      omega)
    have HFZ := Lib.hid (fit_put nm HFY.out X HFX.out)
    have HSZ := Lib.hid (short_put nm HSY.out X HSX.out)
    have HKZ : Hid (if Ex.rightB nodeB (Ex.put nm Y X) = true then Kd.kK C (Ex.put nm Y X) = (kx1, 0) else Kd.kK C (Ex.put nm Y X) = (0, 1)) := Lib.hid (by
      obtain ⟨h1, h2, h3, h4⟩ := Kd.kK_ok (C := C) (T := X) (by rw [HKX.out])
      obtain ⟨g1, g2, g3, g4⟩ := Kd.kK_ok (C := C) (T := Y) (by rw [HKY.out])
      rw [HKX.out] at h3
      rw [HKY.out] at g3
      have hfk : Kd.fk C nm = some ky1 := by
        obtain ⟨hiC, e1, e2⟩ := HCI.out
        rw [Kd.fk_iff ((Kd.goodB_iff C).1 h2), ← e1, ← e2]
        exact List.getElem_mem hiC
      have hz := Kd.kd_put hfk g3.symm X h4
      by_cases hr : Ex.rightB nodeB (Ex.put nm Y X) = true
      · rw [if_pos hr, Kd.kK, if_pos ⟨hr, h2⟩, hz, ← h3]
      · rw [if_neg hr, Kd.kK, if_neg (fun h => hr h.1)])
    have NZ := FN
    obtain ⟨Z, hZ⟩ : ∃ Z, Ex.put nm Y X = Z := ⟨_, rfl⟩
    rw [hZ] at HCZ HFZ HSZ HKZ NZ
    have V8 := Lib.hid (HV.out.below B8.out)
    have KZ := Lib.hid (kind_any C (some ⟨b, o, none⟩) cc HC1.out HFC.out Z (by have := HCZ.out; omega) HFZ.out _ W8 NZ.out (CA7.out.below HB8.out) a m V8.out)
    rw [HQ.out] at KZ
    obtain ⟨kz, hkz⟩ : ∃ p, Kd.kK C Z = p := ⟨_, rfl⟩
    obtain ⟨kz1, kz2⟩ := kz
    rw [hkz] at KZ HKZ
    clear hZ hkz PUT c0 c1 c2 c3 c4 c5 g0 g1 g2 g3 g4 g5 FN
    unfold ncells at *
    obtain ⟨c0, c1, c2, c3, c4, c5⟩ := six_of FW.out
    dsimp only at KZ
    go_wp2_with fail
    refine KZ.out.mono ?_
    rintro e W9 ⟨rfl, hb9⟩
    have B9 := Lib.hid (bstep B8.out hb9)
    have x9 := six_of (FW.out.below hb9 FW.out.lt)
    have RZ := Lib.hid (refRight_any Z (by have := HCZ.out; omega) HSZ.out _ W9 (NZ.out.below hb9))
    clear hb9 KZ c0 c1 c2 c3 c4 c5
    obtain ⟨c0, c1, c2, c3, c4, c5⟩ := x9
    by_cases hr : Ex.rightB nodeB Z = true
    · have hk := HKZ.out
      rw [if_pos hr] at hk
      cases hk
      clear RZ
      go_wp2_with fail
      go_ret
      exact ⟨rfl, B9.out⟩
    · have hk := HKZ.out
      rw [if_neg hr] at hk
      cases hk
      have hr' : Ex.rightB nodeB Z = false := by simpa using hr
      rw [hr'] at RZ
      clear hr hr'
      go_wp2_with fail
      refine RZ.out.mono ?_
      rintro e W10 ⟨rfl, hb10⟩
      have B10 := Lib.hid (bstep B9.out hb10)
      clear hb10
      go_wp2_with fail
      go_ret
      exact ⟨rfl, B10.out⟩
end Go.Proofs.YtfkbhlgoglmcpaaGreatDoor
