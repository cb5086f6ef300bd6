import Derived.Test.YteghhmomhlnccaaGreatDoorYP1
import Derived.Test.YteghhmomhlnccaaGreatDoorYP19
import Derived.Test.YteghhmomhlnccaaGreatDoorYP20
set_option linter.unusedVariables false
set_option linter.unusedSimpArgs false
namespace Go.Proofs.YteghhmomhlnccaaGreatDoor
open Go.RowKit Go.Lib
set_option maxRecDepth 100000
attribute [local go_sem ↓] eqVal neqVal
open Ex (Tree)
open Ev (V R Pl)
mutual
theorem evshort_put (n : List UInt8) {Y : Tree} (hY : shortT Y) : ∀ X : Tree, shortT X → shortT (Ex.put n Y X)
 | .node op t vk vn vs ks, h => by
  rw [Ex.put]
  split
  ·exact hY
  ·rw [shortT] at h ⊢
   exact ⟨h.1, evshorts_put n hY ks h.2⟩
theorem evshorts_put (n : List UInt8) {Y : Tree} (hY : shortT Y) : ∀ l : List Tree, shortTs l → shortTs (Ex.puts n Y l)
 | [], h => by rw [Ex.puts]; exact h
 | x :: l, h => by
  rw [Ex.puts, shortTs]
  rw [shortTs] at h
  exact ⟨evshort_put n hY x h.1, evshorts_put n hY l h.2⟩
end
mutual
theorem evrng_put (n : List UInt8) {Y : Tree} (hY : Ex.ones rngN Y = true) : ∀ X : Tree, Ex.ones rngN X = true → Ex.ones rngN (Ex.put n Y X) = true
 | .node op t vk vn vs ks, h => by
  rw [Ex.put]
  split
  ·exact hY
  ·rw [Ex.ones, Bool.and_eq_true] at h ⊢
   exact ⟨h.1, evrngs_put n hY ks h.2⟩
theorem evrngs_put (n : List UInt8) {Y : Tree} (hY : Ex.ones rngN Y = true) : ∀ l : List Tree, Ex.oness rngN l = true → Ex.oness rngN (Ex.puts n Y l) = true
 | [], h => by rw [Ex.puts]; exact h
 | x :: l, h => by
  rw [Ex.puts, Ex.oness, Bool.and_eq_true]
  rw [Ex.oness, Bool.and_eq_true] at h
  exact ⟨evrng_put n hY x h.1, evrngs_put n hY l h.2⟩
end
theorem evput_far {B : Nat} {w w' : World} {v : Value} {T : Tree} (h : NodeNew B w v T) (hb : ∀ k, B ≤ k → k < w.heap.size → w'.heap[k]? = w.heap[k]?) : NodeV w' v T := by
 cases T with
 | node op t vk vn vs ks =>
  obtain ⟨A, c, rfl, h1, h2⟩ := h
  exact ⟨A, c, rfl, h1, (h2.moved (S' := fun _ => True) (fun k hk hlt => ⟨hb k hk hlt, trivial⟩)).at⟩
theorem evpick (x : Int) (n : Nat) (h1 : 1 ≤ n) (h2 : n ≤ 5000) : ∃ k : Nat, k < n ∧ wrap64 ((IntKind.u64.wrap x).tmod n) = (k : Int) := by
 have h0 : 0 ≤ IntKind.u64.wrap x := by simp [IntKind.wrap, IntKind.bits, IntKind.signed]; omega
 rw [Int.tmod_eq_emod_of_nonneg h0]
 have a := Int.emod_nonneg (IntKind.u64.wrap x) (show (n : Int) ≠ 0 by omega)
 have b := Int.emod_lt_of_pos (IntKind.u64.wrap x) (show (0 : Int) < n by omega)
 exact ⟨((IntKind.u64.wrap x) % n).toNat, by omega, by rw [← IntWalk.i64_left, IntWalk.i64_in _ (by omega)]; omega⟩
theorem fitV_set2 {U : List V} {k : Nat} {x : V} (h : fitV U) (hx : x.s.length ≤ maxLen ∧ Fits x.n) : fitV (U.set k x) := fun v hv => by
 rcases List.mem_or_eq_of_mem_set hv with h1 | rfl
 ·exact h v h1
 ·exact hx
def LawY (w wr : World) (cs : Array Value) (Y : Tree) : Prop := Whole wr (w.heap.size + 1) 26 cs ∧ NodeV wr (.agg cs) Y
theorem LawY.call {w wr w' : World} {cs Y} (h : LawY w wr cs Y) (hb : Below wr.heap.size wr w') : LawY w w' cs Y := ⟨h.1.below hb h.1.lt, h.2.below hb⟩
set_option maxHeartbeats 8000000 in
theorem puts16_any (X Y : Tree) (C : List Col) (L : List V) (vx vy : Value) (Ac Al : Option Addr) (cc cl : Nat) (at_ : Int) (w : World) (hx : NodeV w vx X) (hy : NodeV w vy Y) (hfx : fitT X) (hfy : fitT Y) (hgx : Ex.ones rngN X = true) (hgy : Ex.ones rngN Y = true) (hA : ColsAt w Ac C) (hFC : fitC C) (hV : ValsAt w Al L) (hFV : fitV L) (a : Addr) (m : Int) (hv : Env w a m) :
  Calls Tryz.prog 5 #[vx, vy, .slice Ac C.length cc, .slice Al L.length cl, .int .i64 at_] w fun e w' => e = .returned (.bool true) ∧ Below w.heap.size w w' := by
 obtain ⟨xop, xt, xvk, xvn, xvs, xn, xA, xc, rfl⟩ : ∃ op t vk vn vs n A c, vx = .agg (ncells op t vk vn vs A n c) := by
  cases X with
  | node op t vk vn vs ks => obtain ⟨A, c, h1, -⟩ := hx; exact ⟨_, _, _, _, _, _, _, _, h1⟩
 have hy' := hy
 obtain ⟨yop, yt, yvk, yvn, yvs, yks, yA, yc, hYe, rfl, hyc, hyk⟩ : ∃ op t vk vn vs ks A c, Y = .node op t vk vn vs ks ∧ vy = .agg (ncells op t vk vn vs A ks.length c) ∧ ks.length ≤ c ∧ TreesAt w A 0 ks := by
  cases Y with
  | node op t vk vn vs ks => obtain ⟨A, c, h1, h2, h3⟩ := hy; exact ⟨_, _, _, _, _, _, A, c, rfl, h1, h2, h3⟩
 have HYE := Lib.hid hYe
 have HYK := Lib.hid (And.intro hyc hyk)
 clear hy hYe hyc hyk
 have b0 : Below w.heap.size w ((w.alloc (.cells (ncells xop xt xvk xvn xvs xA xn xc) 26)).alloc (.cells (ncells yop yt yvk yvn yvs yA yks.length yc) 26)) := ((Below.refl _ _).alloc (Nat.le_refl _) _).alloc (by simp) _
 have k0 := (Whole.new w 26 (ncells xop xt xvk xvn xvs xA xn xc)).alloc (.cells (ncells yop yt yvk yvn yvs yA yks.length yc) 26)
 have k1 := Whole.new (w.alloc (.cells (ncells xop xt xvk xvn xvs xA xn xc) 26)) 26 (ncells yop yt yvk yvn yvs yA yks.length yc)
 simp only [World.size_alloc] at k1
 obtain ⟨W1, hW1⟩ : ∃ W1, (w.alloc (.cells (ncells xop xt xvk xvn xvs xA xn xc) 26)).alloc (.cells (ncells yop yt yvk yvn yvs yA yks.length yc) 26) = W1 := ⟨_, rfl⟩
 rw [hW1] at b0 k0 k1
 have L1 : Hid (LawS w W1 (ncells xop xt xvk xvn xvs xA xn xc) X C Ac L Al a m) := Lib.hid ⟨b0, k0, hx.below b0, hA.below b0, hV.below b0, hv.below b0⟩
 have Y1 : Hid (LawY w W1 (ncells yop yt yvk yvn yvs yA yks.length yc) Y) := Lib.hid ⟨k1, hy'.below b0⟩
 have HFX := Lib.hid hfx
 have HFY := Lib.hid hfy
 have HGX := Lib.hid hgx
 have HGY := Lib.hid hgy
 have HFC := Lib.hid hFC
 have HFV := Lib.hid hFV
 obtain ⟨cn, hcn⟩ : ∃ cn, C.length = cn := ⟨_, rfl⟩
 obtain ⟨ln, hln⟩ : ∃ ln, L.length = ln := ⟨_, rfl⟩
 obtain ⟨yn, hyn⟩ : ∃ n, yks.length = n := ⟨_, rfl⟩
 have HCN := Lib.hid hcn
 have HLN := Lib.hid hln
 have HYN := Lib.hid hyn
 rw [hyn] at hW1 Y1
 rw [hcn, hln, hyn]
 clear hx hy' hfx hfy hgx hgy hA hFC hV hFV hv b0 k0 k1 hcn hln hyn
 unfold ncells at *
 go_enter Tryz.func5, Tryz.ntmps5
 have AW := Lib.hid (awake16_any W1 a m L1.out.env)
 go_wp2_with fail
 refine AW.out.mono ?_
 rintro e W2 ⟨rfl, hb⟩
 have L2 := Lib.hid (L1.out.call hb)
 have Y2 := Lib.hid (Y1.out.call hb)
 have WX := Lib.hid (Wide_any X _ W2 L2.out.nx)
 obtain ⟨c0, c1, c2, c3, c4, c5⟩ := six_of L2.out.k
 clear AW hb L1 Y1
 go_wp2_with fail
 refine WX.out.mono ?_
 rintro e W3 (⟨rfl, hb, hcx, hsx⟩ | ⟨rfl, hb⟩)
 case inr =>
  have L3 := Lib.hid (L2.out.call hb)
  clear hb
  go_wp2_with fail
  go_ret
  exact ⟨rfl, L3.out.b⟩
 have L3 := Lib.hid (L2.out.call hb)
 have Y3 := Lib.hid (Y2.out.call hb)
 have HCX := Lib.hid hcx
 have HSX := Lib.hid hsx
 have WY := Lib.hid (Wide_any Y _ W3 Y3.out.2)
 clear hb WX L2 Y2 c0 c1 c2 c3 c4 c5 hsx hcx
 obtain ⟨c0, c1, c2, c3, c4, c5⟩ := six_of Y3.out.1
 go_wp2_with fail
 refine WY.out.mono ?_
 rintro e W4 (⟨rfl, hb, hcx, hsx⟩ | ⟨rfl, hb⟩)
 case inr =>
  have L4 := Lib.hid (L3.out.call hb)
  clear hb
  go_wp2_with fail
  go_ret
  exact ⟨rfl, L4.out.b⟩
 have L4 := Lib.hid (L3.out.call hb)
 have Y4 := Lib.hid (Y3.out.call hb)
 have HCY := Lib.hid hcx
 have HSY := Lib.hid hsx
 have MN := Lib.hid (many_any C Ac cc W4 L4.out.ca HFC.out)
 rw [HCN.out] at MN
 clear hb WY L3 Y3 c0 c1 c2 c3 c4 c5 hsx hcx
 go_wp2_with fail
 refine MN.out.mono ?_
 rintro e W5 (⟨rfl, hw5, hc50, hcs⟩ | ⟨rfl, hw5⟩)
 case inr =>
  subst hw5
  go_wp2_with fail
  go_ret
  exact ⟨rfl, L4.out.b⟩
 subst hw5
 have LO := Lib.hid (long_any L Al cl W5 L4.out.va HFV.out)
 rw [HLN.out] at LO
 have HC5 := Lib.hid hc50
 clear MN hcs hc50
 go_wp2_with fail
 refine LO.out.mono ?_
 rintro e W6 (⟨rfl, hw6, hls⟩ | ⟨rfl, hw6⟩)
 case inr =>
  subst hw6
  go_wp2_with fail
  go_ret
  exact ⟨rfl, L4.out.b⟩
 subst hw6
 have HLS := Lib.hid hls.1
 have HC9 : Hid (C.length ≤ 1000000) := Lib.hid (by have := HC5.out; have := HCN.out; omega)
 have HL9 : Hid (L.length ≤ 1000000) := Lib.hid (by have := HLS.out; omega)
 have RO := Lib.hid (row_any2 C L Ac Al cc cl W6 L4.out.ca HFC.out L4.out.va HFV.out HC9.out HL9.out a m L4.out.env)
 rw [HCN.out, HLN.out] at RO
 clear LO hls
 go_wp2_with fail
 refine RO.out.mono ?_
 rintro e W7 ⟨rfl, hb⟩
 have L7 := Lib.hid (L4.out.call hb)
 have Y7 := Lib.hid (Y4.out.call hb)
 clear hb RO L4 Y4
 cases hrow : Ev.rowB C L
 case false =>
  clear hrow
  go_wp2_with fail
  go_ret
  exact ⟨rfl, L7.out.b⟩
 have HROW := Lib.hid hrow
 clear hrow
 by_cases hq0 : cn = 0
 ·subst hq0
  go_wp2_with fail
  go_ret
  exact ⟨rfl, L7.out.b⟩
 have hq0' : ¬ (cn : Int) = 0 := by omega
 have hq0b : ((cn : Int) == 0) = false := by simpa using hq0'
 have hq50 : cn ≤ 50 := by have := HC5.out; have := HCN.out; omega
 have hq50i : (cn : Int) ≤ 50 := by omega
 obtain ⟨i, hi, hpk⟩ := evpick at_ cn (by omega) (by have := HC5.out; have := HCN.out; omega)
 go_upto_region 6 with fail
 rw [hpk]
 have hiC : i < C.length := by rw [HCN.out]; exact hi
 obtain ⟨nm, hnm⟩ : ∃ nm, C[i].1 = nm := ⟨_, rfl⟩
 obtain ⟨kk, hkk⟩ : ∃ kk, C[i].2 = kk := ⟨_, rfl⟩
 have HCI : Hid (∃ h : i < C.length, C[i].1 = nm ∧ C[i].2 = kk) := Lib.hid ⟨hiC, hnm, hkk⟩
 have hi50 : (i : Int) ≤ 50 := by have := HC5.out; have := HCN.out; omega
 have EY := Lib.hid (eval_any C L Ac Al cc cl Y _ W7 L7.out.ca HFC.out L7.out.va HFV.out HC9.out HL9.out a m L7.out.env Y7.out.2 HFY.out (by have := HCY.out; omega) HGY.out)
 rw [HCN.out, HLN.out] at EY
 obtain ⟨r, hr⟩ : ∃ r, Ev.evalR C L Y = r := ⟨_, rfl⟩
 have HRY := Lib.hid hr
 rw [hr] at EY
 obtain ⟨⟨rk, rn, rs⟩, re_⟩ := r
 unfold outR vv vcells at EY
 dsimp only at EY
 obtain ⟨c0, c1, c2, c3, c4, c5⟩ := six_of Y7.out.1
 clear hpk hnm hkk hiC hr
 go_wp2_with fail
 refine EY.out.mono ?_
 rintro e W8 ⟨rfl, hb⟩
 have hbb := hb.alloc (Nat.le_trans (Nat.le_refl _) hb.size) (.cells #[.int .i64 rk, .int .i64 rn, .string (tx rs)] 23)
 have q8 := Row3.new W8 rk rn (tx rs)
 obtain ⟨W9, hW9⟩ : ∃ W9, W8.alloc (.cells #[.int .i64 rk, .int .i64 rn, .string (tx rs)] 23) = W9 := ⟨_, rfl⟩
 rw [hW9] at hbb q8
 have L9 := Lib.hid (L7.out.call hbb)
 have Y9 := Lib.hid (Y7.out.call hbb)
 have Q9 := Lib.hid q8
 have PUT : Hid (∀ U, Below W9.heap.size W9 U → Calls Tryz.prog 19 #[.agg #[.int .i64 xop, .string (tx xt), .int .i64 xvk, .int .i64 xvn, .string (tx xvs), .slice xA xn xc], .string (tx nm), .agg #[.int .i64 yop, .string (tx yt), .int .i64 yvk, .int .i64 yvn, .string (tx yvs), .slice yA yn yc]] U fun e w' => ∃ zop zt zvk zvn zvs zn zA zc, e = .returned (.agg #[.int .i64 zop, .string (tx zt), .int .i64 zvk, .int .i64 zvn, .string (tx zvs), .slice zA zn zc]) ∧ NodeNew U.heap.size w' (.agg #[.int .i64 zop, .string (tx zt), .int .i64 zvk, .int .i64 zvn, .string (tx zvs), .slice zA zn zc]) (Ex.put nm Y X) ∧ Below U.heap.size U w' ∧ True) := Lib.hid (fun U hU => by
  have h := put_all nm yop yt yvk yvn yvs yks (by rw [← HYE.out]; have := HCY.out; omega) _ X (Nat.le_refl _) (by have := HCX.out; omega) _ yA yc U (L9.out.nx.below hU) HYK.out.1 (((HYK.out.2).below (bstep L9.out.b hU)))
  unfold ncells at h
  rw [HYN.out, ← HYE.out] at h
  refine h.mono ?_
  rintro e w' ⟨u, rfl, hu, hb⟩
  generalize Ex.put nm Y X = Z at *
  cases Z with
  | node op t vk vn vs ks => obtain ⟨A, c, rfl, h1, h2⟩ := hu; exact ⟨_, _, _, _, _, _, _, _, rfl, ⟨A, c, rfl, h1, h2⟩, hb, trivial⟩)
 have hcol : ∃ b o, Ac = some ⟨b, o, none⟩ ∧ b < W9.heap.size ∧ W9.cell? ⟨b, o + i * 2, none⟩ = some (.string (tx nm)) ∧ W9.cell? ⟨b, o + i * 2 + 1, none⟩ = some (.int .i64 kk) := by
  obtain ⟨hiC, rfl, rfl⟩ := HCI.out
  exact L9.out.ca i hiC
 obtain ⟨b, o, rfl, hbl, d0, d1⟩ := hcol
 have hiq : (i : Int) < (cn : Int) := by omega
 clear hb hbb q8 EY L7 Y7 c0 c1 c2 c3 c4 c5
 go_upto_region 7 with fail
 go_cut [14] from 61 to 68 (fun s14 wc => ∃ B zop zt zvk zvn zvs zn zA zc, s14 = .pointer (some ⟨B, 0, none⟩) ∧ Hid (Whole wc B 26 (ncells zop zt zvk zvn zvs zA zn zc)) ∧ Hid (NodeV wc (.agg (ncells zop zt zvk zvn zvs zA zn zc)) (Ex.put nm Y X)) ∧ Hid (Below W9.heap.size W9 wc))
 case first =>
  have QD : Hid (Below W9.heap.size W9 W9.drew) := Lib.hid (Below.refl _ _).drew
  have KK : Hid (∀ U, Below W9.heap.size W9 U → (U.cell? ⟨w.heap.size, 0, none⟩ = some (.int .i64 xop) ∧ U.cell? ⟨w.heap.size, 1, none⟩ = some (.string (tx xt)) ∧ U.cell? ⟨w.heap.size, 2, none⟩ = some (.int .i64 xvk) ∧ U.cell? ⟨w.heap.size, 3, none⟩ = some (.int .i64 xvn) ∧ U.cell? ⟨w.heap.size, 4, none⟩ = some (.string (tx xvs)) ∧ U.cell? ⟨w.heap.size, 5, none⟩ = some (.slice xA xn xc)) ∧ (U.cell? ⟨w.heap.size + 1, 0, none⟩ = some (.int .i64 yop) ∧ U.cell? ⟨w.heap.size + 1, 1, none⟩ = some (.string (tx yt)) ∧ U.cell? ⟨w.heap.size + 1, 2, none⟩ = some (.int .i64 yvk) ∧ U.cell? ⟨w.heap.size + 1, 3, none⟩ = some (.int .i64 yvn) ∧ U.cell? ⟨w.heap.size + 1, 4, none⟩ = some (.string (tx yvs)) ∧ U.cell? ⟨w.heap.size + 1, 5, none⟩ = some (.slice yA yn yc)) ∧ U.cell? ⟨b, o + i * 2, none⟩ = some (.string (tx nm))) := Lib.hid (fun U hU => ⟨six_of (L9.out.call hU).k, six_of (Y9.out.call hU).1, (hU.cell (p := ⟨b, o + i * 2, none⟩) hbl).trans d0⟩)
  refine wp_region_held_drew (S := fun U => Below W9.heap.size W9 U) (by kernel_rfl) QD.out (fun _ => ?_)
  refine qTk 0 (v := ?_) QD.out ?_ ?_
  rotate_left
  ·(intro W hw; obtain ⟨⟨p0, p1, p2, p3, p4, p5⟩, ⟨u0, u1, u2, u3, u4, u5⟩, v0⟩ := KK.out W hw; go_simp; try with_reducible rfl)
  refine qTk 1 (v := ?_) QD.out ?_ ?_
  rotate_left
  ·(intro W hw; go_simp; try with_reducible rfl)
  refine qTk 2 (v := ?_) QD.out ?_ ?_
  rotate_left
  ·(intro W hw; go_simp; try with_reducible rfl)
  refine qTk 3 (v := ?_) QD.out ?_ ?_
  rotate_left
  ·(intro W hw; go_simp; try with_reducible rfl)
  refine qTk 4 (v := ?_) QD.out ?_ ?_
  rotate_left
  ·(intro W hw; go_simp; try with_reducible rfl)
  refine qTk 5 (v := ?_) QD.out ?_ ?_
  rotate_left
  ·(intro W hw; obtain ⟨⟨p0, p1, p2, p3, p4, p5⟩, ⟨u0, u1, u2, u3, u4, u5⟩, v0⟩ := KK.out W hw; go_simp; try with_reducible rfl)
  refine qTk 6 (v := ?_) QD.out ?_ ?_
  rotate_left
  ·(intro W hw; obtain ⟨⟨p0, p1, p2, p3, p4, p5⟩, ⟨u0, u1, u2, u3, u4, u5⟩, v0⟩ := KK.out W hw; go_simp; try with_reducible rfl)
  refine qTr2 7 8 (fun K hK => ?_) (fun K hK => ?_)
  ·
   go_simp
   refine (PUT.out _ QD.out).mono ?_
   rintro e V ⟨zop, zt, zvk, zvn, zvs, zn, zA, zc, rfl, hz, hb8, -⟩
   have QC : Hid (Below W9.heap.size W9 V) := Lib.hid (bstep QD.out hb8)
   refine hK.out _ _ QC.out (fun _ => ?_)
   clear hK K
   refine qTr1 8 (fun K hK => ?_)
   go_simp
   have QA := Lib.hid (QC.out.alloc QC.out.size (.cells (ncells 0 [] 0 0 [] none 0 0) 26))
   refine hK.out _ _ QA.out (fun _ => ?_)
   clear hK K
   refine qTr1 9 (fun K hK => ?_)
   go_simp
   have QS := Lib.hid (QC.out.alloc QC.out.size (.cells #[.int .i64 zop, .string (tx zt), .int .i64 zvk, .int .i64 zvn, .string (tx zvs), .slice zA zn zc] 26))
   refine hK.out _ _ QS.out (fun _ => ?_)
   clear hK K
   refine wpAnyH_done (by kernel_rfl) ?_ _
   try simp only  [Act.put, List.setIfInBounds_toArray, List.set_cons_zero, List.set_cons_succ]
   have FW := Lib.hid (Whole.new V 26 #[.int .i64 zop, .string (tx zt), .int .i64 zvk, .int .i64 zvn, .string (tx zvs), .slice zA zn zc])
   have FN := Lib.hid (hz.node.below ((Below.refl _ _).alloc (Nat.le_refl _) (.cells #[.int .i64 zop, .string (tx zt), .int .i64 zvk, .int .i64 zvn, .string (tx zvs), .slice zA zn zc] 26)))
   clear hz hb8
   go_wp2_with fail
   go_meet
   case rel => exact ⟨_, zop, zt, zvk, zvn, zvs, zn, zA, zc, rfl, FW, FN, QS⟩
  ·
   go_simp
   have QA := Lib.hid (QD.out.alloc QD.out.size (.cells (ncells 0 [] 0 0 [] none 0 0) 26))
   refine hK.out _ _ QA.out (fun _ => ?_)
   clear hK K
   refine qTr1 7 (fun K hK => ?_)
   go_simp
   refine (PUT.out _ QA.out).mono ?_
   rintro e V ⟨zop, zt, zvk, zvn, zvs, zn, zA, zc, rfl, hz, hb8, -⟩
   have QC : Hid (Below W9.heap.size W9 V) := Lib.hid (bstep QA.out hb8)
   have w8 := Whole.below (g := W9.heap.size) (t := 26) (cs := ncells 0 [] 0 0 [] none 0 0) (by exact Whole.new W9 _ _) hb8 (by simp)
   obtain ⟨z0, z1, z2, z3, z4, z5⟩ := six_of w8
   obtain ⟨y0, y1, y2, y3, y4, y5⟩ := frozen6 w8
   refine hK.out _ _ QC.out (fun _ => ?_)
   clear hK K
   refine qTr1 9 (fun K hK => ?_)
   go_simp
   have T8 := set6Z_touch V W9.heap.size (.int .i64 zop) (.string (tx zt)) (.int .i64 zvk) (.int .i64 zvn) (.string (tx zvs)) (.slice zA zn zc)
   have QS : Hid (Below W9.heap.size W9 (set6Z V W9.heap.size (.int .i64 zop) (.string (tx zt)) (.int .i64 zvk) (.int .i64 zvn) (.string (tx zvs)) (.slice zA zn zc))) := Lib.hid (QC.out.trans (T8.below1 (Nat.le_refl _) QC.out.size))
   refine hK.out _ _ QS.out (fun _ => ?_)
   clear hK K
   refine wpAnyH_done (by kernel_rfl) ?_ _
   try simp only  [Act.put, List.setIfInBounds_toArray, List.set_cons_zero, List.set_cons_succ]
   have FW := Lib.hid (set6Z_whole w8 (.int .i64 zop) (.string (tx zt)) (.int .i64 zvk) (.int .i64 zvn) (.string (tx zvs)) (.slice zA zn zc))
   have FN : Hid (NodeV (set6Z V W9.heap.size (.int .i64 zop) (.string (tx zt)) (.int .i64 zvk) (.int .i64 zvn) (.string (tx zvs)) (.slice zA zn zc)) (.agg (ncells zop zt zvk zvn zvs zA zn zc)) (Ex.put nm Y X)) := Lib.hid (evput_far hz (fun k hk hlt => T8.block k hlt (by simp at hk ⊢; omega)))
   clear hz hb8 w8 T8 z0 z1 z2 z3 z4 z5 y0 y1 y2 y3 y4 y5
   go_wp2_with fail
   go_meet
   case rel => exact ⟨_, zop, zt, zvk, zvn, zvs, zn, zA, zc, rfl, FW, FN, QS⟩
 case rest =>
  obtain ⟨B, zop, zt, zvk, zvn, zvs, zn, zA, zc, rfl, HZW, HZN, HB⟩ := hcut
  obtain ⟨W10, rfl⟩ : ∃ W10, W10 = wc := ⟨wc, rfl⟩
  have L10 := Lib.hid (L9.out.call HB.out)
  have Y10 := Lib.hid (Y9.out.call HB.out)
  have Q10 := Lib.hid (Q9.out.below HB.out Q9.out.lt)
  have d1' := (HB.out.cell (p := ⟨b, o + i * 2 + 1, none⟩) hbl).trans d1
  obtain ⟨q0, q1, q2⟩ := Q10.out.holds
  unfold ncells at *
  have HBL : Hid (b < W10.heap.size) := Lib.hid (by have := HB.out.size; omega)
  clear PUT d0 d1 L9 Y9 Q9 HB hbl
  by_cases he : re_ = 0
  case neg =>
   have he' : (re_ != 0) = true := by simpa using he
   clear he
   go_upto_region 8 with fail
   go_quiet (fail)
   go_wp2_with fail
   go_ret
   exact ⟨rfl, by first | exact below_drewN L10.out.b _ | exact L10.out.b.drew | exact L10.out.b⟩
  subst he
  by_cases hk : rk = 0 ∨ rk = kk
  case neg =>
   have hk0 : (rk != 0) = true := by simp; omega
   have hk1 : (rk != kk) = true := by simp; omega
   clear hk
   go_upto_region 8 with fail
   go_quiet (fail)
   go_wp2_with fail
   go_ret
   exact ⟨rfl, by first | exact below_drewN L10.out.b _ | exact L10.out.b.drew | exact L10.out.b⟩
  have HKC : Hid (rk = 0 ∨ (rk = 1 ∧ kk = 1) ∨ (rk = 2 ∧ kk = 2) ∨ (rk = 3 ∧ kk = 3)) := Lib.hid (by
   obtain ⟨hiC, e1, e2⟩ := HCI.out
   obtain ⟨hg, -⟩ := Ev.rowB_iff.1 HROW.out
   obtain ⟨_, -, g1, g2, -⟩ := (Kd.goodB_iff C).1 hg i hiC
   rw [e2] at g1 g2
   omega)
  have RZ : Hid (∀ U, Below W10.heap.size W10 U → Calls Tryz.prog 16 #[.agg #[.int .i64 zop, .string (tx zt), .int .i64 zvk, .int .i64 zvn, .string (tx zvs), .slice zA zn zc]] U fun e w' => e = .returned (.bool (Ex.rightB nodeB (Ex.put nm Y X))) ∧ Below U.heap.size U w') := Lib.hid (fun U hU => refRight_any (Ex.put nm Y X) (by have h1 := count_put nm Y X; have h2 := HCX.out; have h3 := HCY.out; have h4 : Ex.count X * Ex.count Y ≤ 500 * 500 := Nat.mul_le_mul h2 h3; omega) (evshort_put nm HSY.out X HSX.out) _ U (HZN.out.below hU))
  have RX : Hid (∀ U, Below W10.heap.size W10 U → Calls Tryz.prog 16 #[.agg #[.int .i64 xop, .string (tx xt), .int .i64 xvk, .int .i64 xvn, .string (tx xvs), .slice xA xn xc]] U fun e w' => e = .returned (.bool (Ex.rightB nodeB X)) ∧ Below U.heap.size U w') := Lib.hid (fun U hU => refRight_any X (by have := HCX.out; omega) HSX.out _ U (L10.out.nx.below hU))
  obtain ⟨rz, hrz⟩ : ∃ q, Ex.rightB nodeB (Ex.put nm Y X) = q := ⟨_, rfl⟩
  obtain ⟨rx, hrx⟩ : ∃ q, Ex.rightB nodeB X = q := ⟨_, rfl⟩
  have HRZ := Lib.hid hrz
  have HRX := Lib.hid hrx
  rw [hrz] at RZ
  rw [hrx] at RX
  have KK : Hid (∀ w', Below W10.heap.size W10 w' → Below W10.heap.size W10 w' ∧ (w'.cell? ⟨w.heap.size, 0, none⟩ = some (.int .i64 xop) ∧ w'.cell? ⟨w.heap.size, 1, none⟩ = some (.string (tx xt)) ∧ w'.cell? ⟨w.heap.size, 2, none⟩ = some (.int .i64 xvk) ∧ w'.cell? ⟨w.heap.size, 3, none⟩ = some (.int .i64 xvn) ∧ w'.cell? ⟨w.heap.size, 4, none⟩ = some (.string (tx xvs)) ∧ w'.cell? ⟨w.heap.size, 5, none⟩ = some (.slice xA xn xc)) ∧ (w'.cell? ⟨B, 0, none⟩ = some (.int .i64 zop) ∧ w'.cell? ⟨B, 1, none⟩ = some (.string (tx zt)) ∧ w'.cell? ⟨B, 2, none⟩ = some (.int .i64 zvk) ∧ w'.cell? ⟨B, 3, none⟩ = some (.int .i64 zvn) ∧ w'.cell? ⟨B, 4, none⟩ = some (.string (tx zvs)) ∧ w'.cell? ⟨B, 5, none⟩ = some (.slice zA zn zc)) ∧ (w'.cell? ⟨W8.heap.size, 0, none⟩ = some (.int .i64 rk) ∧ w'.cell? ⟨W8.heap.size, 1, none⟩ = some (.int .i64 rn) ∧ w'.cell? ⟨W8.heap.size, 2, none⟩ = some (.string (tx rs))) ∧ w'.cell? ⟨b, o + i * 2 + 1, none⟩ = some (.int .i64 kk)) := Lib.hid (fun w' hw => ⟨hw, six_of (L10.out.k.below hw L10.out.k.lt), six_of (HZW.out.below hw HZW.out.lt), (Q10.out.below hw Q10.out.lt).holds, (hw.cell (p := ⟨b, o + i * 2 + 1, none⟩) HBL.out).trans d1'⟩)
  clear hrz hrx q0 q1 q2 d1' hk
  go_upto_region 8 with fail
  go_cut [95] from 69 to 95 (fun s95 wc => s95 = .bool (!(rz && rx)) ∧ Hid (Below W10.heap.size W10 wc))
  case first =>
   have QD0 : Hid (Below W10.heap.size W10 W10.drew) := Lib.hid (Below.refl _ _).drew
   rcases HKC.out with hkz | ⟨hkz, hkk⟩ | ⟨hkz, hkk⟩ | ⟨hkz, hkk⟩
   ·subst hkz
    clear HKC HRY HCI
    cases rz
    ·
     refine wp_region_held_drew (S := fun U => Below W10.heap.size W10 U) (by kernel_rfl) QD0.out (fun _ => ?_)
     refine qTk 0 (v := ?_) QD0.out ?_ ?_
     rotate_left
     ·(intro W hw; go_simp; try with_reducible rfl)
     refine qTk 1 (v := ?_) QD0.out ?_ ?_
     rotate_left
     ·(intro W hw; go_simp; try with_reducible rfl)
     refine qTk 2 (v := ?_) QD0.out ?_ ?_
     rotate_left
     ·(intro W hw; go_simp; try with_reducible rfl)
     refine qTk 3 (v := ?_) QD0.out ?_ ?_
     rotate_left
     ·(intro W hw; go_simp; try with_reducible rfl)
     refine qTk 4 (v := ?_) QD0.out ?_ ?_
     rotate_left
     ·(intro W hw; obtain ⟨-, ⟨p0, p1, p2, p3, p4, p5⟩, ⟨u0, u1, u2, u3, u4, u5⟩, ⟨v0, v1, v2⟩, v3⟩ := KK.out W hw; go_simp; try with_reducible rfl)
     refine qTk 5 (v := ?_) QD0.out ?_ ?_
     rotate_left
     ·(intro W hw; go_simp; try with_reducible rfl)
     refine qTk 6 (v := ?_) QD0.out ?_ ?_
     rotate_left
     ·(intro W hw; go_simp; try with_reducible rfl)
     refine qTs 7 QD0.out ?_
     refine qTs 8 QD0.out ?_
     refine qTs 9 QD0.out ?_
     refine qTs 10 QD0.out ?_
     refine qTs 11 QD0.out ?_
     refine qTs 12 QD0.out ?_
     refine qTs 13 QD0.out ?_
     refine qTs 14 QD0.out ?_
     refine qTk 15 (v := ?_) QD0.out ?_ ?_
     rotate_left
     ·(intro W hw; go_simp; try with_reducible rfl)
     refine qTk 16 (v := ?_) QD0.out ?_ ?_
     rotate_left
     ·(intro W hw; go_simp; try with_reducible rfl)
     refine qTk 17 (v := ?_) QD0.out ?_ ?_
     rotate_left
     ·(intro W hw; go_simp; try with_reducible rfl)
     refine qTk 18 (v := ?_) QD0.out ?_ ?_
     rotate_left
     ·(intro W hw; obtain ⟨-, ⟨p0, p1, p2, p3, p4, p5⟩, ⟨u0, u1, u2, u3, u4, u5⟩, ⟨v0, v1, v2⟩, v3⟩ := KK.out W hw; go_simp; try with_reducible rfl)
     refine qTr1 19 (fun K hK => ?_)
     go_simp
     refine (RZ.out _ QD0.out).mono ?_
     rintro e V1 ⟨rfl, hv1⟩
     have QV1 := Lib.hid (bstep QD0.out hv1)
     refine hK.out _ _ QV1.out (fun _ => ?_)
     clear hK K
     refine qTk 20 (v := ?_) QV1.out ?_ ?_
     rotate_left
     ·(intro W hw; go_simp; try with_reducible rfl)
     refine qTk 21 (v := ?_) QV1.out ?_ ?_
     rotate_left
     ·(intro W hw; go_simp; try with_reducible rfl)
     refine qTk 22 (v := ?_) QV1.out ?_ ?_
     rotate_left
     ·(intro W hw; go_simp; try with_reducible rfl)
     refine qTs 23 QV1.out ?_
     refine qTs 24 QV1.out ?_
     refine qTs 25 QV1.out ?_
     refine qTk 26 (v := ?_) QV1.out ?_ ?_
     rotate_left
     ·(intro W hw; go_simp; try with_reducible rfl)
     refine wpAnyH_done (by kernel_rfl) ?_ _
     try simp only  [Act.put, List.setIfInBounds_toArray, List.set_cons_zero, List.set_cons_succ]
     go_wp2_with fail
     go_meet
     case rel => exact ⟨rfl, QV1⟩
    ·cases rx
     ·
      refine wp_region_held_drew (S := fun U => Below W10.heap.size W10 U) (by kernel_rfl) QD0.out (fun _ => ?_)
      refine qTk 0 (v := ?_) QD0.out ?_ ?_
      rotate_left
      ·(intro W hw; go_simp; try with_reducible rfl)
      refine qTk 1 (v := ?_) QD0.out ?_ ?_
      rotate_left
      ·(intro W hw; go_simp; try with_reducible rfl)
      refine qTk 2 (v := ?_) QD0.out ?_ ?_
      rotate_left
      ·(intro W hw; go_simp; try with_reducible rfl)
      refine qTk 3 (v := ?_) QD0.out ?_ ?_
      rotate_left
      ·(intro W hw; go_simp; try with_reducible rfl)
      refine qTk 4 (v := ?_) QD0.out ?_ ?_
      rotate_left
      ·(intro W hw; obtain ⟨-, ⟨p0, p1, p2, p3, p4, p5⟩, ⟨u0, u1, u2, u3, u4, u5⟩, ⟨v0, v1, v2⟩, v3⟩ := KK.out W hw; go_simp; try with_reducible rfl)
      refine qTk 5 (v := ?_) QD0.out ?_ ?_
      rotate_left
      ·(intro W hw; go_simp; try with_reducible rfl)
      refine qTk 6 (v := ?_) QD0.out ?_ ?_
      rotate_left
      ·(intro W hw; go_simp; try with_reducible rfl)
      refine qTs 7 QD0.out ?_
      refine qTs 8 QD0.out ?_
      refine qTs 9 QD0.out ?_
      refine qTs 10 QD0.out ?_
      refine qTs 11 QD0.out ?_
      refine qTs 12 QD0.out ?_
      refine qTs 13 QD0.out ?_
      refine qTs 14 QD0.out ?_
      refine qTk 15 (v := ?_) QD0.out ?_ ?_
      rotate_left
      ·(intro W hw; go_simp; try with_reducible rfl)
      refine qTk 16 (v := ?_) QD0.out ?_ ?_
      rotate_left
      ·(intro W hw; go_simp; try with_reducible rfl)
      refine qTk 17 (v := ?_) QD0.out ?_ ?_
      rotate_left
      ·(intro W hw; go_simp; try with_reducible rfl)
      refine qTk 18 (v := ?_) QD0.out ?_ ?_
      rotate_left
      ·(intro W hw; obtain ⟨-, ⟨p0, p1, p2, p3, p4, p5⟩, ⟨u0, u1, u2, u3, u4, u5⟩, ⟨v0, v1, v2⟩, v3⟩ := KK.out W hw; go_simp; try with_reducible rfl)
      refine qTr1 19 (fun K hK => ?_)
      go_simp
      refine (RZ.out _ QD0.out).mono ?_
      rintro e V1 ⟨rfl, hv1⟩
      have QV1 := Lib.hid (bstep QD0.out hv1)
      refine hK.out _ _ QV1.out (fun _ => ?_)
      clear hK K
      refine qTk 20 (v := ?_) QV1.out ?_ ?_
      rotate_left
      ·(intro W hw; go_simp; try with_reducible rfl)
      refine qTk 21 (v := ?_) QV1.out ?_ ?_
      rotate_left
      ·(intro W hw; go_simp; try with_reducible rfl)
      refine qTk 22 (v := ?_) QV1.out ?_ ?_
      rotate_left
      ·(intro W hw; go_simp; try with_reducible rfl)
      refine qTk 23 (v := ?_) QV1.out ?_ ?_
      rotate_left
      ·(intro W hw; obtain ⟨-, ⟨p0, p1, p2, p3, p4, p5⟩, ⟨u0, u1, u2, u3, u4, u5⟩, ⟨v0, v1, v2⟩, v3⟩ := KK.out W hw; go_simp; try with_reducible rfl)
      refine qTr1 24 (fun K hK => ?_)
      go_simp
      refine (RX.out _ QV1.out).mono ?_
      rintro e V2 ⟨rfl, hv2⟩
      have QV2 := Lib.hid (bstep QV1.out hv2)
      refine hK.out _ _ QV2.out (fun _ => ?_)
      clear hK K
      refine qTk 25 (v := ?_) QV2.out ?_ ?_
      rotate_left
      ·(intro W hw; go_simp; try with_reducible rfl)
      refine qTk 26 (v := ?_) QV2.out ?_ ?_
      rotate_left
      ·(intro W hw; go_simp; try with_reducible rfl)
      refine wpAnyH_done (by kernel_rfl) ?_ _
      try simp only  [Act.put, List.setIfInBounds_toArray, List.set_cons_zero, List.set_cons_succ]
      go_wp2_with fail
      go_meet
      case rel => exact ⟨rfl, QV2⟩
     ·
      refine wp_region_held_drew (S := fun U => Below W10.heap.size W10 U) (by kernel_rfl) QD0.out (fun _ => ?_)
      refine qTk 0 (v := ?_) QD0.out ?_ ?_
      rotate_left
      ·(intro W hw; go_simp; try with_reducible rfl)
      refine qTk 1 (v := ?_) QD0.out ?_ ?_
      rotate_left
      ·(intro W hw; go_simp; try with_reducible rfl)
      refine qTk 2 (v := ?_) QD0.out ?_ ?_
      rotate_left
      ·(intro W hw; go_simp; try with_reducible rfl)
      refine qTk 3 (v := ?_) QD0.out ?_ ?_
      rotate_left
      ·(intro W hw; go_simp; try with_reducible rfl)
      refine qTk 4 (v := ?_) QD0.out ?_ ?_
      rotate_left
      ·(intro W hw; obtain ⟨-, ⟨p0, p1, p2, p3, p4, p5⟩, ⟨u0, u1, u2, u3, u4, u5⟩, ⟨v0, v1, v2⟩, v3⟩ := KK.out W hw; go_simp; try with_reducible rfl)
      refine qTk 5 (v := ?_) QD0.out ?_ ?_
      rotate_left
      ·(intro W hw; go_simp; try with_reducible rfl)
      refine qTk 6 (v := ?_) QD0.out ?_ ?_
      rotate_left
      ·(intro W hw; go_simp; try with_reducible rfl)
      refine qTs 7 QD0.out ?_
      refine qTs 8 QD0.out ?_
      refine qTs 9 QD0.out ?_
      refine qTs 10 QD0.out ?_
      refine qTs 11 QD0.out ?_
      refine qTs 12 QD0.out ?_
      refine qTs 13 QD0.out ?_
      refine qTs 14 QD0.out ?_
      refine qTk 15 (v := ?_) QD0.out ?_ ?_
      rotate_left
      ·(intro W hw; go_simp; try with_reducible rfl)
      refine qTk 16 (v := ?_) QD0.out ?_ ?_
      rotate_left
      ·(intro W hw; go_simp; try with_reducible rfl)
      refine qTk 17 (v := ?_) QD0.out ?_ ?_
      rotate_left
      ·(intro W hw; go_simp; try with_reducible rfl)
      refine qTk 18 (v := ?_) QD0.out ?_ ?_
      rotate_left
      ·(intro W hw; obtain ⟨-, ⟨p0, p1, p2, p3, p4, p5⟩, ⟨u0, u1, u2, u3, u4, u5⟩, ⟨v0, v1, v2⟩, v3⟩ := KK.out W hw; go_simp; try with_reducible rfl)
      refine qTr1 19 (fun K hK => ?_)
      go_simp
      refine (RZ.out _ QD0.out).mono ?_
      rintro e V1 ⟨rfl, hv1⟩
      have QV1 := Lib.hid (bstep QD0.out hv1)
      refine hK.out _ _ QV1.out (fun _ => ?_)
      clear hK K
      refine qTk 20 (v := ?_) QV1.out ?_ ?_
      rotate_left
      ·(intro W hw; go_simp; try with_reducible rfl)
      refine qTk 21 (v := ?_) QV1.out ?_ ?_
      rotate_left
      ·(intro W hw; go_simp; try with_reducible rfl)
      refine qTk 22 (v := ?_) QV1.out ?_ ?_
      rotate_left
      ·(intro W hw; go_simp; try with_reducible rfl)
      refine qTk 23 (v := ?_) QV1.out ?_ ?_
      rotate_left
      ·(intro W hw; obtain ⟨-, ⟨p0, p1, p2, p3, p4, p5⟩, ⟨u0, u1, u2, u3, u4, u5⟩, ⟨v0, v1, v2⟩, v3⟩ := KK.out W hw; go_simp; try with_reducible rfl)
      refine qTr1 24 (fun K hK => ?_)
      go_simp
      refine (RX.out _ QV1.out).mono ?_
      rintro e V2 ⟨rfl, hv2⟩
      have QV2 := Lib.hid (bstep QV1.out hv2)
      refine hK.out _ _ QV2.out (fun _ => ?_)
      clear hK K
      refine qTk 25 (v := ?_) QV2.out ?_ ?_
      rotate_left
      ·(intro W hw; go_simp; try with_reducible rfl)
      refine qTk 26 (v := ?_) QV2.out ?_ ?_
      rotate_left
      ·(intro W hw; go_simp; try with_reducible rfl)
      refine wpAnyH_done (by kernel_rfl) ?_ _
      try simp only  [Act.put, List.setIfInBounds_toArray, List.set_cons_zero, List.set_cons_succ]
      go_wp2_with fail
      go_meet
      case rel => exact ⟨rfl, QV2⟩
   ·subst hkz hkk
    clear HKC HRY HCI
    cases rz
    ·
     refine wp_region_held_drew (S := fun U => Below W10.heap.size W10 U) (by kernel_rfl) QD0.out (fun _ => ?_)
     refine qTk 0 (v := ?_) QD0.out ?_ ?_
     rotate_left
     ·(intro W hw; go_simp; try with_reducible rfl)
     refine qTk 1 (v := ?_) QD0.out ?_ ?_
     rotate_left
     ·(intro W hw; go_simp; try with_reducible rfl)
     refine qTk 2 (v := ?_) QD0.out ?_ ?_
     rotate_left
     ·(intro W hw; go_simp; try with_reducible rfl)
     refine qTk 3 (v := ?_) QD0.out ?_ ?_
     rotate_left
     ·(intro W hw; go_simp; try with_reducible rfl)
     refine qTk 4 (v := ?_) QD0.out ?_ ?_
     rotate_left
     ·(intro W hw; obtain ⟨-, ⟨p0, p1, p2, p3, p4, p5⟩, ⟨u0, u1, u2, u3, u4, u5⟩, ⟨v0, v1, v2⟩, v3⟩ := KK.out W hw; go_simp; try with_reducible rfl)
     refine qTk 5 (v := ?_) QD0.out ?_ ?_
     rotate_left
     ·(intro W hw; go_simp; try with_reducible rfl)
     refine qTk 6 (v := ?_) QD0.out ?_ ?_
     rotate_left
     ·(intro W hw; go_simp; try with_reducible rfl)
     refine qTk 7 (v := ?_) QD0.out ?_ ?_
     rotate_left
     ·(intro W hw; go_simp; try with_reducible rfl)
     refine qTk 8 (v := ?_) QD0.out ?_ ?_
     rotate_left
     ·(intro W hw; obtain ⟨-, ⟨p0, p1, p2, p3, p4, p5⟩, ⟨u0, u1, u2, u3, u4, u5⟩, ⟨v0, v1, v2⟩, v3⟩ := KK.out W hw; go_simp; try with_reducible rfl)
     refine qTk 9 (v := ?_) QD0.out ?_ ?_
     rotate_left
     ·(intro W hw; go_simp; try with_reducible rfl)
     refine qTk 10 (v := ?_) QD0.out ?_ ?_
     rotate_left
     ·(intro W hw; go_simp; try with_reducible rfl)
     refine qTk 11 (v := ?_) QD0.out ?_ ?_
     rotate_left
     ·(intro W hw; go_simp; try with_reducible rfl)
     refine qTk 12 (v := ?_) QD0.out ?_ ?_
     rotate_left
     ·(intro W hw; go_simp; try with_reducible rfl)
     refine qTk 13 (v := ?_) QD0.out ?_ ?_
     rotate_left
     ·(intro W hw; obtain ⟨-, ⟨p0, p1, p2, p3, p4, p5⟩, ⟨u0, u1, u2, u3, u4, u5⟩, ⟨v0, v1, v2⟩, v3⟩ := KK.out W hw; go_simp; try with_reducible rfl)
     refine qTk 14 (v := ?_) QD0.out ?_ ?_
     rotate_left
     ·(intro W hw; go_simp; try with_reducible rfl)
     refine qTk 15 (v := ?_) QD0.out ?_ ?_
     rotate_left
     ·(intro W hw; go_simp; try with_reducible rfl)
     refine qTk 16 (v := ?_) QD0.out ?_ ?_
     rotate_left
     ·(intro W hw; go_simp; try with_reducible rfl)
     refine qTk 17 (v := ?_) QD0.out ?_ ?_
     rotate_left
     ·(intro W hw; go_simp; try with_reducible rfl)
     refine qTk 18 (v := ?_) QD0.out ?_ ?_
     rotate_left
     ·(intro W hw; obtain ⟨-, ⟨p0, p1, p2, p3, p4, p5⟩, ⟨u0, u1, u2, u3, u4, u5⟩, ⟨v0, v1, v2⟩, v3⟩ := KK.out W hw; go_simp; try with_reducible rfl)
     refine qTr1 19 (fun K hK => ?_)
     go_simp
     refine (RZ.out _ QD0.out).mono ?_
     rintro e V1 ⟨rfl, hv1⟩
     have QV1 := Lib.hid (bstep QD0.out hv1)
     refine hK.out _ _ QV1.out (fun _ => ?_)
     clear hK K
     refine qTk 20 (v := ?_) QV1.out ?_ ?_
     rotate_left
     ·(intro W hw; go_simp; try with_reducible rfl)
     refine qTk 21 (v := ?_) QV1.out ?_ ?_
     rotate_left
     ·(intro W hw; go_simp; try with_reducible rfl)
     refine qTk 22 (v := ?_) QV1.out ?_ ?_
     rotate_left
     ·(intro W hw; go_simp; try with_reducible rfl)
     refine qTs 23 QV1.out ?_
     refine qTs 24 QV1.out ?_
     refine qTs 25 QV1.out ?_
     refine qTk 26 (v := ?_) QV1.out ?_ ?_
     rotate_left
     ·(intro W hw; go_simp; try with_reducible rfl)
     refine wpAnyH_done (by kernel_rfl) ?_ _
     try simp only  [Act.put, List.setIfInBounds_toArray, List.set_cons_zero, List.set_cons_succ]
     go_wp2_with fail
     go_meet
     case rel => exact ⟨rfl, QV1⟩
    ·cases rx
     ·
      refine wp_region_held_drew (S := fun U => Below W10.heap.size W10 U) (by kernel_rfl) QD0.out (fun _ => ?_)
      refine qTk 0 (v := ?_) QD0.out ?_ ?_
      rotate_left
      ·(intro W hw; go_simp; try with_reducible rfl)
      refine qTk 1 (v := ?_) QD0.out ?_ ?_
      rotate_left
      ·(intro W hw; go_simp; try with_reducible rfl)
      refine qTk 2 (v := ?_) QD0.out ?_ ?_
      rotate_left
      ·(intro W hw; go_simp; try with_reducible rfl)
      refine qTk 3 (v := ?_) QD0.out ?_ ?_
      rotate_left
      ·(intro W hw; go_simp; try with_reducible rfl)
      refine qTk 4 (v := ?_) QD0.out ?_ ?_
      rotate_left
      ·(intro W hw; obtain ⟨-, ⟨p0, p1, p2, p3, p4, p5⟩, ⟨u0, u1, u2, u3, u4, u5⟩, ⟨v0, v1, v2⟩, v3⟩ := KK.out W hw; go_simp; try with_reducible rfl)
      refine qTk 5 (v := ?_) QD0.out ?_ ?_
      rotate_left
      ·(intro W hw; go_simp; try with_reducible rfl)
      refine qTk 6 (v := ?_) QD0.out ?_ ?_
      rotate_left
      ·(intro W hw; go_simp; try with_reducible rfl)
      refine qTk 7 (v := ?_) QD0.out ?_ ?_
      rotate_left
      ·(intro W hw; go_simp; try with_reducible rfl)
      refine qTk 8 (v := ?_) QD0.out ?_ ?_
      rotate_left
      ·(intro W hw; obtain ⟨-, ⟨p0, p1, p2, p3, p4, p5⟩, ⟨u0, u1, u2, u3, u4, u5⟩, ⟨v0, v1, v2⟩, v3⟩ := KK.out W hw; go_simp; try with_reducible rfl)
      refine qTk 9 (v := ?_) QD0.out ?_ ?_
      rotate_left
      ·(intro W hw; go_simp; try with_reducible rfl)
      refine qTk 10 (v := ?_) QD0.out ?_ ?_
      rotate_left
      ·(intro W hw; go_simp; try with_reducible rfl)
      refine qTk 11 (v := ?_) QD0.out ?_ ?_
      rotate_left
      ·(intro W hw; go_simp; try with_reducible rfl)
      refine qTk 12 (v := ?_) QD0.out ?_ ?_
      rotate_left
      ·(intro W hw; go_simp; try with_reducible rfl)
      refine qTk 13 (v := ?_) QD0.out ?_ ?_
      rotate_left
      ·(intro W hw; obtain ⟨-, ⟨p0, p1, p2, p3, p4, p5⟩, ⟨u0, u1, u2, u3, u4, u5⟩, ⟨v0, v1, v2⟩, v3⟩ := KK.out W hw; go_simp; try with_reducible rfl)
      refine qTk 14 (v := ?_) QD0.out ?_ ?_
      rotate_left
      ·(intro W hw; go_simp; try with_reducible rfl)
      refine qTk 15 (v := ?_) QD0.out ?_ ?_
      rotate_left
      ·(intro W hw; go_simp; try with_reducible rfl)
      refine qTk 16 (v := ?_) QD0.out ?_ ?_
      rotate_left
      ·(intro W hw; go_simp; try with_reducible rfl)
      refine qTk 17 (v := ?_) QD0.out ?_ ?_
      rotate_left
      ·(intro W hw; go_simp; try with_reducible rfl)
      refine qTk 18 (v := ?_) QD0.out ?_ ?_
      rotate_left
      ·(intro W hw; obtain ⟨-, ⟨p0, p1, p2, p3, p4, p5⟩, ⟨u0, u1, u2, u3, u4, u5⟩, ⟨v0, v1, v2⟩, v3⟩ := KK.out W hw; go_simp; try with_reducible rfl)
      refine qTr1 19 (fun K hK => ?_)
      go_simp
      refine (RZ.out _ QD0.out).mono ?_
      rintro e V1 ⟨rfl, hv1⟩
      have QV1 := Lib.hid (bstep QD0.out hv1)
      refine hK.out _ _ QV1.out (fun _ => ?_)
      clear hK K
      refine qTk 20 (v := ?_) QV1.out ?_ ?_
      rotate_left
      ·(intro W hw; go_simp; try with_reducible rfl)
      refine qTk 21 (v := ?_) QV1.out ?_ ?_
      rotate_left
      ·(intro W hw; go_simp; try with_reducible rfl)
      refine qTk 22 (v := ?_) QV1.out ?_ ?_
      rotate_left
      ·(intro W hw; go_simp; try with_reducible rfl)
      refine qTk 23 (v := ?_) QV1.out ?_ ?_
      rotate_left
      ·(intro W hw; obtain ⟨-, ⟨p0, p1, p2, p3, p4, p5⟩, ⟨u0, u1, u2, u3, u4, u5⟩, ⟨v0, v1, v2⟩, v3⟩ := KK.out W hw; go_simp; try with_reducible rfl)
      refine qTr1 24 (fun K hK => ?_)
      go_simp
      refine (RX.out _ QV1.out).mono ?_
      rintro e V2 ⟨rfl, hv2⟩
      have QV2 := Lib.hid (bstep QV1.out hv2)
      refine hK.out _ _ QV2.out (fun _ => ?_)
      clear hK K
      refine qTk 25 (v := ?_) QV2.out ?_ ?_
      rotate_left
      ·(intro W hw; go_simp; try with_reducible rfl)
      refine qTk 26 (v := ?_) QV2.out ?_ ?_
      rotate_left
      ·(intro W hw; go_simp; try with_reducible rfl)
      refine wpAnyH_done (by kernel_rfl) ?_ _
      try simp only  [Act.put, List.setIfInBounds_toArray, List.set_cons_zero, List.set_cons_succ]
      go_wp2_with fail
      go_meet
      case rel => exact ⟨rfl, QV2⟩
     ·
      refine wp_region_held_drew (S := fun U => Below W10.heap.size W10 U) (by kernel_rfl) QD0.out (fun _ => ?_)
      refine qTk 0 (v := ?_) QD0.out ?_ ?_
      rotate_left
      ·(intro W hw; go_simp; try with_reducible rfl)
      refine qTk 1 (v := ?_) QD0.out ?_ ?_
      rotate_left
      ·(intro W hw; go_simp; try with_reducible rfl)
      refine qTk 2 (v := ?_) QD0.out ?_ ?_
      rotate_left
      ·(intro W hw; go_simp; try with_reducible rfl)
      refine qTk 3 (v := ?_) QD0.out ?_ ?_
      rotate_left
      ·(intro W hw; go_simp; try with_reducible rfl)
      refine qTk 4 (v := ?_) QD0.out ?_ ?_
      rotate_left
      ·(intro W hw; obtain ⟨-, ⟨p0, p1, p2, p3, p4, p5⟩, ⟨u0, u1, u2, u3, u4, u5⟩, ⟨v0, v1, v2⟩, v3⟩ := KK.out W hw; go_simp; try with_reducible rfl)
      refine qTk 5 (v := ?_) QD0.out ?_ ?_
      rotate_left
      ·(intro W hw; go_simp; try with_reducible rfl)
      refine qTk 6 (v := ?_) QD0.out ?_ ?_
      rotate_left
      ·(intro W hw; go_simp; try with_reducible rfl)
      refine qTk 7 (v := ?_) QD0.out ?_ ?_
      rotate_left
      ·(intro W hw; go_simp; try with_reducible rfl)
      refine qTk 8 (v := ?_) QD0.out ?_ ?_
      rotate_left
      ·(intro W hw; obtain ⟨-, ⟨p0, p1, p2, p3, p4, p5⟩, ⟨u0, u1, u2, u3, u4, u5⟩, ⟨v0, v1, v2⟩, v3⟩ := KK.out W hw; go_simp; try with_reducible rfl)
      refine qTk 9 (v := ?_) QD0.out ?_ ?_
      rotate_left
      ·(intro W hw; go_simp; try with_reducible rfl)
      refine qTk 10 (v := ?_) QD0.out ?_ ?_
      rotate_left
      ·(intro W hw; go_simp; try with_reducible rfl)
      refine qTk 11 (v := ?_) QD0.out ?_ ?_
      rotate_left
      ·(intro W hw; go_simp; try with_reducible rfl)
      refine qTk 12 (v := ?_) QD0.out ?_ ?_
      rotate_left
      ·(intro W hw; go_simp; try with_reducible rfl)
      refine qTk 13 (v := ?_) QD0.out ?_ ?_
      rotate_left
      ·(intro W hw; obtain ⟨-, ⟨p0, p1, p2, p3, p4, p5⟩, ⟨u0, u1, u2, u3, u4, u5⟩, ⟨v0, v1, v2⟩, v3⟩ := KK.out W hw; go_simp; try with_reducible rfl)
      refine qTk 14 (v := ?_) QD0.out ?_ ?_
      rotate_left
      ·(intro W hw; go_simp; try with_reducible rfl)
      refine qTk 15 (v := ?_) QD0.out ?_ ?_
      rotate_left
      ·(intro W hw; go_simp; try with_reducible rfl)
      refine qTk 16 (v := ?_) QD0.out ?_ ?_
      rotate_left
      ·(intro W hw; go_simp; try with_reducible rfl)
      refine qTk 17 (v := ?_) QD0.out ?_ ?_
      rotate_left
      ·(intro W hw; go_simp; try with_reducible rfl)
      refine qTk 18 (v := ?_) QD0.out ?_ ?_
      rotate_left
      ·(intro W hw; obtain ⟨-, ⟨p0, p1, p2, p3, p4, p5⟩, ⟨u0, u1, u2, u3, u4, u5⟩, ⟨v0, v1, v2⟩, v3⟩ := KK.out W hw; go_simp; try with_reducible rfl)
      refine qTr1 19 (fun K hK => ?_)
      go_simp
      refine (RZ.out _ QD0.out).mono ?_
      rintro e V1 ⟨rfl, hv1⟩
      have QV1 := Lib.hid (bstep QD0.out hv1)
      refine hK.out _ _ QV1.out (fun _ => ?_)
      clear hK K
      refine qTk 20 (v := ?_) QV1.out ?_ ?_
      rotate_left
      ·(intro W hw; go_simp; try with_reducible rfl)
      refine qTk 21 (v := ?_) QV1.out ?_ ?_
      rotate_left
      ·(intro W hw; go_simp; try with_reducible rfl)
      refine qTk 22 (v := ?_) QV1.out ?_ ?_
      rotate_left
      ·(intro W hw; go_simp; try with_reducible rfl)
      refine qTk 23 (v := ?_) QV1.out ?_ ?_
      rotate_left
      ·(intro W hw; obtain ⟨-, ⟨p0, p1, p2, p3, p4, p5⟩, ⟨u0, u1, u2, u3, u4, u5⟩, ⟨v0, v1, v2⟩, v3⟩ := KK.out W hw; go_simp; try with_reducible rfl)
      refine qTr1 24 (fun K hK => ?_)
      go_simp
      refine (RX.out _ QV1.out).mono ?_
      rintro e V2 ⟨rfl, hv2⟩
      have QV2 := Lib.hid (bstep QV1.out hv2)
      refine hK.out _ _ QV2.out (fun _ => ?_)
      clear hK K
      refine qTk 25 (v := ?_) QV2.out ?_ ?_
      rotate_left
      ·(intro W hw; go_simp; try with_reducible rfl)
      refine qTk 26 (v := ?_) QV2.out ?_ ?_
      rotate_left
      ·(intro W hw; go_simp; try with_reducible rfl)
      refine wpAnyH_done (by kernel_rfl) ?_ _
      try simp only  [Act.put, List.setIfInBounds_toArray, List.set_cons_zero, List.set_cons_succ]
      go_wp2_with fail
      go_meet
      case rel => exact ⟨rfl, QV2⟩
   ·subst hkz hkk
    clear HKC HRY HCI
    cases rz
    ·
     refine wp_region_held_drew (S := fun U => Below W10.heap.size W10 U) (by kernel_rfl) QD0.out (fun _ => ?_)
     refine qTk 0 (v := ?_) QD0.out ?_ ?_
     rotate_left
     ·(intro W hw; go_simp; try with_reducible rfl)
     refine qTk 1 (v := ?_) QD0.out ?_ ?_
     rotate_left
     ·(intro W hw; go_simp; try with_reducible rfl)
     refine qTk 2 (v := ?_) QD0.out ?_ ?_
     rotate_left
     ·(intro W hw; go_simp; try with_reducible rfl)
     refine qTk 3 (v := ?_) QD0.out ?_ ?_
     rotate_left
     ·(intro W hw; go_simp; try with_reducible rfl)
     refine qTk 4 (v := ?_) QD0.out ?_ ?_
     rotate_left
     ·(intro W hw; obtain ⟨-, ⟨p0, p1, p2, p3, p4, p5⟩, ⟨u0, u1, u2, u3, u4, u5⟩, ⟨v0, v1, v2⟩, v3⟩ := KK.out W hw; go_simp; try with_reducible rfl)
     refine qTk 5 (v := ?_) QD0.out ?_ ?_
     rotate_left
     ·(intro W hw; go_simp; try with_reducible rfl)
     refine qTk 6 (v := ?_) QD0.out ?_ ?_
     rotate_left
     ·(intro W hw; go_simp; try with_reducible rfl)
     refine qTk 7 (v := ?_) QD0.out ?_ ?_
     rotate_left
     ·(intro W hw; go_simp; try with_reducible rfl)
     refine qTk 8 (v := ?_) QD0.out ?_ ?_
     rotate_left
     ·(intro W hw; obtain ⟨-, ⟨p0, p1, p2, p3, p4, p5⟩, ⟨u0, u1, u2, u3, u4, u5⟩, ⟨v0, v1, v2⟩, v3⟩ := KK.out W hw; go_simp; try with_reducible rfl)
     refine qTk 9 (v := ?_) QD0.out ?_ ?_
     rotate_left
     ·(intro W hw; go_simp; try with_reducible rfl)
     refine qTk 10 (v := ?_) QD0.out ?_ ?_
     rotate_left
     ·(intro W hw; go_simp; try with_reducible rfl)
     refine qTk 11 (v := ?_) QD0.out ?_ ?_
     rotate_left
     ·(intro W hw; go_simp; try with_reducible rfl)
     refine qTk 12 (v := ?_) QD0.out ?_ ?_
     rotate_left
     ·(intro W hw; go_simp; try with_reducible rfl)
     refine qTk 13 (v := ?_) QD0.out ?_ ?_
     rotate_left
     ·(intro W hw; obtain ⟨-, ⟨p0, p1, p2, p3, p4, p5⟩, ⟨u0, u1, u2, u3, u4, u5⟩, ⟨v0, v1, v2⟩, v3⟩ := KK.out W hw; go_simp; try with_reducible rfl)
     refine qTk 14 (v := ?_) QD0.out ?_ ?_
     rotate_left
     ·(intro W hw; go_simp; try with_reducible rfl)
     refine qTk 15 (v := ?_) QD0.out ?_ ?_
     rotate_left
     ·(intro W hw; go_simp; try with_reducible rfl)
     refine qTk 16 (v := ?_) QD0.out ?_ ?_
     rotate_left
     ·(intro W hw; go_simp; try with_reducible rfl)
     refine qTk 17 (v := ?_) QD0.out ?_ ?_
     rotate_left
     ·(intro W hw; go_simp; try with_reducible rfl)
     refine qTk 18 (v := ?_) QD0.out ?_ ?_
     rotate_left
     ·(intro W hw; obtain ⟨-, ⟨p0, p1, p2, p3, p4, p5⟩, ⟨u0, u1, u2, u3, u4, u5⟩, ⟨v0, v1, v2⟩, v3⟩ := KK.out W hw; go_simp; try with_reducible rfl)
     refine qTr1 19 (fun K hK => ?_)
     go_simp
     refine (RZ.out _ QD0.out).mono ?_
     rintro e V1 ⟨rfl, hv1⟩
     have QV1 := Lib.hid (bstep QD0.out hv1)
     refine hK.out _ _ QV1.out (fun _ => ?_)
     clear hK K
     refine qTk 20 (v := ?_) QV1.out ?_ ?_
     rotate_left
     ·(intro W hw; go_simp; try with_reducible rfl)
     refine qTk 21 (v := ?_) QV1.out ?_ ?_
     rotate_left
     ·(intro W hw; go_simp; try with_reducible rfl)
     refine qTk 22 (v := ?_) QV1.out ?_ ?_
     rotate_left
     ·(intro W hw; go_simp; try with_reducible rfl)
     refine qTs 23 QV1.out ?_
     refine qTs 24 QV1.out ?_
     refine qTs 25 QV1.out ?_
     refine qTk 26 (v := ?_) QV1.out ?_ ?_
     rotate_left
     ·(intro W hw; go_simp; try with_reducible rfl)
     refine wpAnyH_done (by kernel_rfl) ?_ _
     try simp only  [Act.put, List.setIfInBounds_toArray, List.set_cons_zero, List.set_cons_succ]
     go_wp2_with fail
     go_meet
     case rel => exact ⟨rfl, QV1⟩
    ·cases rx
     ·
      refine wp_region_held_drew (S := fun U => Below W10.heap.size W10 U) (by kernel_rfl) QD0.out (fun _ => ?_)
      refine qTk 0 (v := ?_) QD0.out ?_ ?_
      rotate_left
      ·(intro W hw; go_simp; try with_reducible rfl)
      refine qTk 1 (v := ?_) QD0.out ?_ ?_
      rotate_left
      ·(intro W hw; go_simp; try with_reducible rfl)
      refine qTk 2 (v := ?_) QD0.out ?_ ?_
      rotate_left
      ·(intro W hw; go_simp; try with_reducible rfl)
      refine qTk 3 (v := ?_) QD0.out ?_ ?_
      rotate_left
      ·(intro W hw; go_simp; try with_reducible rfl)
      refine qTk 4 (v := ?_) QD0.out ?_ ?_
      rotate_left
      ·(intro W hw; obtain ⟨-, ⟨p0, p1, p2, p3, p4, p5⟩, ⟨u0, u1, u2, u3, u4, u5⟩, ⟨v0, v1, v2⟩, v3⟩ := KK.out W hw; go_simp; try with_reducible rfl)
      refine qTk 5 (v := ?_) QD0.out ?_ ?_
      rotate_left
      ·(intro W hw; go_simp; try with_reducible rfl)
      refine qTk 6 (v := ?_) QD0.out ?_ ?_
      rotate_left
      ·(intro W hw; go_simp; try with_reducible rfl)
      refine qTk 7 (v := ?_) QD0.out ?_ ?_
      rotate_left
      ·(intro W hw; go_simp; try with_reducible rfl)
      refine qTk 8 (v := ?_) QD0.out ?_ ?_
      rotate_left
      ·(intro W hw; obtain ⟨-, ⟨p0, p1, p2, p3, p4, p5⟩, ⟨u0, u1, u2, u3, u4, u5⟩, ⟨v0, v1, v2⟩, v3⟩ := KK.out W hw; go_simp; try with_reducible rfl)
      refine qTk 9 (v := ?_) QD0.out ?_ ?_
      rotate_left
      ·(intro W hw; go_simp; try with_reducible rfl)
      refine qTk 10 (v := ?_) QD0.out ?_ ?_
      rotate_left
      ·(intro W hw; go_simp; try with_reducible rfl)
      refine qTk 11 (v := ?_) QD0.out ?_ ?_
      rotate_left
      ·(intro W hw; go_simp; try with_reducible rfl)
      refine qTk 12 (v := ?_) QD0.out ?_ ?_
      rotate_left
      ·(intro W hw; go_simp; try with_reducible rfl)
      refine qTk 13 (v := ?_) QD0.out ?_ ?_
      rotate_left
      ·(intro W hw; obtain ⟨-, ⟨p0, p1, p2, p3, p4, p5⟩, ⟨u0, u1, u2, u3, u4, u5⟩, ⟨v0, v1, v2⟩, v3⟩ := KK.out W hw; go_simp; try with_reducible rfl)
      refine qTk 14 (v := ?_) QD0.out ?_ ?_
      rotate_left
      ·(intro W hw; go_simp; try with_reducible rfl)
      refine qTk 15 (v := ?_) QD0.out ?_ ?_
      rotate_left
      ·(intro W hw; go_simp; try with_reducible rfl)
      refine qTk 16 (v := ?_) QD0.out ?_ ?_
      rotate_left
      ·(intro W hw; go_simp; try with_reducible rfl)
      refine qTk 17 (v := ?_) QD0.out ?_ ?_
      rotate_left
      ·(intro W hw; go_simp; try with_reducible rfl)
      refine qTk 18 (v := ?_) QD0.out ?_ ?_
      rotate_left
      ·(intro W hw; obtain ⟨-, ⟨p0, p1, p2, p3, p4, p5⟩, ⟨u0, u1, u2, u3, u4, u5⟩, ⟨v0, v1, v2⟩, v3⟩ := KK.out W hw; go_simp; try with_reducible rfl)
      refine qTr1 19 (fun K hK => ?_)
      go_simp
      refine (RZ.out _ QD0.out).mono ?_
      rintro e V1 ⟨rfl, hv1⟩
      have QV1 := Lib.hid (bstep QD0.out hv1)
      refine hK.out _ _ QV1.out (fun _ => ?_)
      clear hK K
      refine qTk 20 (v := ?_) QV1.out ?_ ?_
      rotate_left
      ·(intro W hw; go_simp; try with_reducible rfl)
      refine qTk 21 (v := ?_) QV1.out ?_ ?_
      rotate_left
      ·(intro W hw; go_simp; try with_reducible rfl)
      refine qTk 22 (v := ?_) QV1.out ?_ ?_
      rotate_left
      ·(intro W hw; go_simp; try with_reducible rfl)
      refine qTk 23 (v := ?_) QV1.out ?_ ?_
      rotate_left
      ·(intro W hw; obtain ⟨-, ⟨p0, p1, p2, p3, p4, p5⟩, ⟨u0, u1, u2, u3, u4, u5⟩, ⟨v0, v1, v2⟩, v3⟩ := KK.out W hw; go_simp; try with_reducible rfl)
      refine qTr1 24 (fun K hK => ?_)
      go_simp
      refine (RX.out _ QV1.out).mono ?_
      rintro e V2 ⟨rfl, hv2⟩
      have QV2 := Lib.hid (bstep QV1.out hv2)
      refine hK.out _ _ QV2.out (fun _ => ?_)
      clear hK K
      refine qTk 25 (v := ?_) QV2.out ?_ ?_
      rotate_left
      ·(intro W hw; go_simp; try with_reducible rfl)
      refine qTk 26 (v := ?_) QV2.out ?_ ?_
      rotate_left
      ·(intro W hw; go_simp; try with_reducible rfl)
      refine wpAnyH_done (by kernel_rfl) ?_ _
      try simp only  [Act.put, List.setIfInBounds_toArray, List.set_cons_zero, List.set_cons_succ]
      go_wp2_with fail
      go_meet
      case rel => exact ⟨rfl, QV2⟩
     ·
      refine wp_region_held_drew (S := fun U => Below W10.heap.size W10 U) (by kernel_rfl) QD0.out (fun _ => ?_)
      refine qTk 0 (v := ?_) QD0.out ?_ ?_
      rotate_left
      ·(intro W hw; go_simp; try with_reducible rfl)
      refine qTk 1 (v := ?_) QD0.out ?_ ?_
      rotate_left
      ·(intro W hw; go_simp; try with_reducible rfl)
      refine qTk 2 (v := ?_) QD0.out ?_ ?_
      rotate_left
      ·(intro W hw; go_simp; try with_reducible rfl)
      refine qTk 3 (v := ?_) QD0.out ?_ ?_
      rotate_left
      ·(intro W hw; go_simp; try with_reducible rfl)
      refine qTk 4 (v := ?_) QD0.out ?_ ?_
      rotate_left
      ·(intro W hw; obtain ⟨-, ⟨p0, p1, p2, p3, p4, p5⟩, ⟨u0, u1, u2, u3, u4, u5⟩, ⟨v0, v1, v2⟩, v3⟩ := KK.out W hw; go_simp; try with_reducible rfl)
      refine qTk 5 (v := ?_) QD0.out ?_ ?_
      rotate_left
      ·(intro W hw; go_simp; try with_reducible rfl)
      refine qTk 6 (v := ?_) QD0.out ?_ ?_
      rotate_left
      ·(intro W hw; go_simp; try with_reducible rfl)
      refine qTk 7 (v := ?_) QD0.out ?_ ?_
      rotate_left
      ·(intro W hw; go_simp; try with_reducible rfl)
      refine qTk 8 (v := ?_) QD0.out ?_ ?_
      rotate_left
      ·(intro W hw; obtain ⟨-, ⟨p0, p1, p2, p3, p4, p5⟩, ⟨u0, u1, u2, u3, u4, u5⟩, ⟨v0, v1, v2⟩, v3⟩ := KK.out W hw; go_simp; try with_reducible rfl)
      refine qTk 9 (v := ?_) QD0.out ?_ ?_
      rotate_left
      ·(intro W hw; go_simp; try with_reducible rfl)
      refine qTk 10 (v := ?_) QD0.out ?_ ?_
      rotate_left
      ·(intro W hw; go_simp; try with_reducible rfl)
      refine qTk 11 (v := ?_) QD0.out ?_ ?_
      rotate_left
      ·(intro W hw; go_simp; try with_reducible rfl)
      refine qTk 12 (v := ?_) QD0.out ?_ ?_
      rotate_left
      ·(intro W hw; go_simp; try with_reducible rfl)
      refine qTk 13 (v := ?_) QD0.out ?_ ?_
      rotate_left
      ·(intro W hw; obtain ⟨-, ⟨p0, p1, p2, p3, p4, p5⟩, ⟨u0, u1, u2, u3, u4, u5⟩, ⟨v0, v1, v2⟩, v3⟩ := KK.out W hw; go_simp; try with_reducible rfl)
      refine qTk 14 (v := ?_) QD0.out ?_ ?_
      rotate_left
      ·(intro W hw; go_simp; try with_reducible rfl)
      refine qTk 15 (v := ?_) QD0.out ?_ ?_
      rotate_left
      ·(intro W hw; go_simp; try with_reducible rfl)
      refine qTk 16 (v := ?_) QD0.out ?_ ?_
      rotate_left
      ·(intro W hw; go_simp; try with_reducible rfl)
      refine qTk 17 (v := ?_) QD0.out ?_ ?_
      rotate_left
      ·(intro W hw; go_simp; try with_reducible rfl)
      refine qTk 18 (v := ?_) QD0.out ?_ ?_
      rotate_left
      ·(intro W hw; obtain ⟨-, ⟨p0, p1, p2, p3, p4, p5⟩, ⟨u0, u1, u2, u3, u4, u5⟩, ⟨v0, v1, v2⟩, v3⟩ := KK.out W hw; go_simp; try with_reducible rfl)
      refine qTr1 19 (fun K hK => ?_)
      go_simp
      refine (RZ.out _ QD0.out).mono ?_
      rintro e V1 ⟨rfl, hv1⟩
      have QV1 := Lib.hid (bstep QD0.out hv1)
      refine hK.out _ _ QV1.out (fun _ => ?_)
      clear hK K
      refine qTk 20 (v := ?_) QV1.out ?_ ?_
      rotate_left
      ·(intro W hw; go_simp; try with_reducible rfl)
      refine qTk 21 (v := ?_) QV1.out ?_ ?_
      rotate_left
      ·(intro W hw; go_simp; try with_reducible rfl)
      refine qTk 22 (v := ?_) QV1.out ?_ ?_
      rotate_left
      ·(intro W hw; go_simp; try with_reducible rfl)
      refine qTk 23 (v := ?_) QV1.out ?_ ?_
      rotate_left
      ·(intro W hw; obtain ⟨-, ⟨p0, p1, p2, p3, p4, p5⟩, ⟨u0, u1, u2, u3, u4, u5⟩, ⟨v0, v1, v2⟩, v3⟩ := KK.out W hw; go_simp; try with_reducible rfl)
      refine qTr1 24 (fun K hK => ?_)
      go_simp
      refine (RX.out _ QV1.out).mono ?_
      rintro e V2 ⟨rfl, hv2⟩
      have QV2 := Lib.hid (bstep QV1.out hv2)
      refine hK.out _ _ QV2.out (fun _ => ?_)
      clear hK K
      refine qTk 25 (v := ?_) QV2.out ?_ ?_
      rotate_left
      ·(intro W hw; go_simp; try with_reducible rfl)
      refine qTk 26 (v := ?_) QV2.out ?_ ?_
      rotate_left
      ·(intro W hw; go_simp; try with_reducible rfl)
      refine wpAnyH_done (by kernel_rfl) ?_ _
      try simp only  [Act.put, List.setIfInBounds_toArray, List.set_cons_zero, List.set_cons_succ]
      go_wp2_with fail
      go_meet
      case rel => exact ⟨rfl, QV2⟩
   ·subst hkz hkk
    clear HKC HRY HCI
    cases rz
    ·
     refine wp_region_held_drew (S := fun U => Below W10.heap.size W10 U) (by kernel_rfl) QD0.out (fun _ => ?_)
     refine qTk 0 (v := ?_) QD0.out ?_ ?_
     rotate_left
     ·(intro W hw; go_simp; try with_reducible rfl)
     refine qTk 1 (v := ?_) QD0.out ?_ ?_
     rotate_left
     ·(intro W hw; go_simp; try with_reducible rfl)
     refine qTk 2 (v := ?_) QD0.out ?_ ?_
     rotate_left
     ·(intro W hw; go_simp; try with_reducible rfl)
     refine qTk 3 (v := ?_) QD0.out ?_ ?_
     rotate_left
     ·(intro W hw; go_simp; try with_reducible rfl)
     refine qTk 4 (v := ?_) QD0.out ?_ ?_
     rotate_left
     ·(intro W hw; obtain ⟨-, ⟨p0, p1, p2, p3, p4, p5⟩, ⟨u0, u1, u2, u3, u4, u5⟩, ⟨v0, v1, v2⟩, v3⟩ := KK.out W hw; go_simp; try with_reducible rfl)
     refine qTk 5 (v := ?_) QD0.out ?_ ?_
     rotate_left
     ·(intro W hw; go_simp; try with_reducible rfl)
     refine qTk 6 (v := ?_) QD0.out ?_ ?_
     rotate_left
     ·(intro W hw; go_simp; try with_reducible rfl)
     refine qTk 7 (v := ?_) QD0.out ?_ ?_
     rotate_left
     ·(intro W hw; go_simp; try with_reducible rfl)
     refine qTk 8 (v := ?_) QD0.out ?_ ?_
     rotate_left
     ·(intro W hw; obtain ⟨-, ⟨p0, p1, p2, p3, p4, p5⟩, ⟨u0, u1, u2, u3, u4, u5⟩, ⟨v0, v1, v2⟩, v3⟩ := KK.out W hw; go_simp; try with_reducible rfl)
     refine qTk 9 (v := ?_) QD0.out ?_ ?_
     rotate_left
     ·(intro W hw; go_simp; try with_reducible rfl)
     refine qTk 10 (v := ?_) QD0.out ?_ ?_
     rotate_left
     ·(intro W hw; go_simp; try with_reducible rfl)
     refine qTk 11 (v := ?_) QD0.out ?_ ?_
     rotate_left
     ·(intro W hw; go_simp; try with_reducible rfl)
     refine qTk 12 (v := ?_) QD0.out ?_ ?_
     rotate_left
     ·(intro W hw; go_simp; try with_reducible rfl)
     refine qTk 13 (v := ?_) QD0.out ?_ ?_
     rotate_left
     ·(intro W hw; obtain ⟨-, ⟨p0, p1, p2, p3, p4, p5⟩, ⟨u0, u1, u2, u3, u4, u5⟩, ⟨v0, v1, v2⟩, v3⟩ := KK.out W hw; go_simp; try with_reducible rfl)
     refine qTk 14 (v := ?_) QD0.out ?_ ?_
     rotate_left
     ·(intro W hw; go_simp; try with_reducible rfl)
     refine qTk 15 (v := ?_) QD0.out ?_ ?_
     rotate_left
     ·(intro W hw; go_simp; try with_reducible rfl)
     refine qTk 16 (v := ?_) QD0.out ?_ ?_
     rotate_left
     ·(intro W hw; go_simp; try with_reducible rfl)
     refine qTk 17 (v := ?_) QD0.out ?_ ?_
     rotate_left
     ·(intro W hw; go_simp; try with_reducible rfl)
     refine qTk 18 (v := ?_) QD0.out ?_ ?_
     rotate_left
     ·(intro W hw; obtain ⟨-, ⟨p0, p1, p2, p3, p4, p5⟩, ⟨u0, u1, u2, u3, u4, u5⟩, ⟨v0, v1, v2⟩, v3⟩ := KK.out W hw; go_simp; try with_reducible rfl)
     refine qTr1 19 (fun K hK => ?_)
     go_simp
     refine (RZ.out _ QD0.out).mono ?_
     rintro e V1 ⟨rfl, hv1⟩
     have QV1 := Lib.hid (bstep QD0.out hv1)
     refine hK.out _ _ QV1.out (fun _ => ?_)
     clear hK K
     refine qTk 20 (v := ?_) QV1.out ?_ ?_
     rotate_left
     ·(intro W hw; go_simp; try with_reducible rfl)
     refine qTk 21 (v := ?_) QV1.out ?_ ?_
     rotate_left
     ·(intro W hw; go_simp; try with_reducible rfl)
     refine qTk 22 (v := ?_) QV1.out ?_ ?_
     rotate_left
     ·(intro W hw; go_simp; try with_reducible rfl)
     refine qTs 23 QV1.out ?_
     refine qTs 24 QV1.out ?_
     refine qTs 25 QV1.out ?_
     refine qTk 26 (v := ?_) QV1.out ?_ ?_
     rotate_left
     ·(intro W hw; go_simp; try with_reducible rfl)
     refine wpAnyH_done (by kernel_rfl) ?_ _
     try simp only  [Act.put, List.setIfInBounds_toArray, List.set_cons_zero, List.set_cons_succ]
     go_wp2_with fail
     go_meet
     case rel => exact ⟨rfl, QV1⟩
    ·cases rx
     ·
      refine wp_region_held_drew (S := fun U => Below W10.heap.size W10 U) (by kernel_rfl) QD0.out (fun _ => ?_)
      refine qTk 0 (v := ?_) QD0.out ?_ ?_
      rotate_left
      ·(intro W hw; go_simp; try with_reducible rfl)
      refine qTk 1 (v := ?_) QD0.out ?_ ?_
      rotate_left
      ·(intro W hw; go_simp; try with_reducible rfl)
      refine qTk 2 (v := ?_) QD0.out ?_ ?_
      rotate_left
      ·(intro W hw; go_simp; try with_reducible rfl)
      refine qTk 3 (v := ?_) QD0.out ?_ ?_
      rotate_left
      ·(intro W hw; go_simp; try with_reducible rfl)
      refine qTk 4 (v := ?_) QD0.out ?_ ?_
      rotate_left
      ·(intro W hw; obtain ⟨-, ⟨p0, p1, p2, p3, p4, p5⟩, ⟨u0, u1, u2, u3, u4, u5⟩, ⟨v0, v1, v2⟩, v3⟩ := KK.out W hw; go_simp; try with_reducible rfl)
      refine qTk 5 (v := ?_) QD0.out ?_ ?_
      rotate_left
      ·(intro W hw; go_simp; try with_reducible rfl)
      refine qTk 6 (v := ?_) QD0.out ?_ ?_
      rotate_left
      ·(intro W hw; go_simp; try with_reducible rfl)
      refine qTk 7 (v := ?_) QD0.out ?_ ?_
      rotate_left
      ·(intro W hw; go_simp; try with_reducible rfl)
      refine qTk 8 (v := ?_) QD0.out ?_ ?_
      rotate_left
      ·(intro W hw; obtain ⟨-, ⟨p0, p1, p2, p3, p4, p5⟩, ⟨u0, u1, u2, u3, u4, u5⟩, ⟨v0, v1, v2⟩, v3⟩ := KK.out W hw; go_simp; try with_reducible rfl)
      refine qTk 9 (v := ?_) QD0.out ?_ ?_
      rotate_left
      ·(intro W hw; go_simp; try with_reducible rfl)
      refine qTk 10 (v := ?_) QD0.out ?_ ?_
      rotate_left
      ·(intro W hw; go_simp; try with_reducible rfl)
      refine qTk 11 (v := ?_) QD0.out ?_ ?_
      rotate_left
      ·(intro W hw; go_simp; try with_reducible rfl)
      refine qTk 12 (v := ?_) QD0.out ?_ ?_
      rotate_left
      ·(intro W hw; go_simp; try with_reducible rfl)
      refine qTk 13 (v := ?_) QD0.out ?_ ?_
      rotate_left
      ·(intro W hw; obtain ⟨-, ⟨p0, p1, p2, p3, p4, p5⟩, ⟨u0, u1, u2, u3, u4, u5⟩, ⟨v0, v1, v2⟩, v3⟩ := KK.out W hw; go_simp; try with_reducible rfl)
      refine qTk 14 (v := ?_) QD0.out ?_ ?_
      rotate_left
      ·(intro W hw; go_simp; try with_reducible rfl)
      refine qTk 15 (v := ?_) QD0.out ?_ ?_
      rotate_left
      ·(intro W hw; go_simp; try with_reducible rfl)
      refine qTk 16 (v := ?_) QD0.out ?_ ?_
      rotate_left
      ·(intro W hw; go_simp; try with_reducible rfl)
      refine qTk 17 (v := ?_) QD0.out ?_ ?_
      rotate_left
      ·(intro W hw; go_simp; try with_reducible rfl)
      refine qTk 18 (v := ?_) QD0.out ?_ ?_
      rotate_left
      ·(intro W hw; obtain ⟨-, ⟨p0, p1, p2, p3, p4, p5⟩, ⟨u0, u1, u2, u3, u4, u5⟩, ⟨v0, v1, v2⟩, v3⟩ := KK.out W hw; go_simp; try with_reducible rfl)
      refine qTr1 19 (fun K hK => ?_)
      go_simp
      refine (RZ.out _ QD0.out).mono ?_
      rintro e V1 ⟨rfl, hv1⟩
      have QV1 := Lib.hid (bstep QD0.out hv1)
      refine hK.out _ _ QV1.out (fun _ => ?_)
      clear hK K
      refine qTk 20 (v := ?_) QV1.out ?_ ?_
      rotate_left
      ·(intro W hw; go_simp; try with_reducible rfl)
      refine qTk 21 (v := ?_) QV1.out ?_ ?_
      rotate_left
      ·(intro W hw; go_simp; try with_reducible rfl)
      refine qTk 22 (v := ?_) QV1.out ?_ ?_
      rotate_left
      ·(intro W hw; go_simp; try with_reducible rfl)
      refine qTk 23 (v := ?_) QV1.out ?_ ?_
      rotate_left
      ·(intro W hw; obtain ⟨-, ⟨p0, p1, p2, p3, p4, p5⟩, ⟨u0, u1, u2, u3, u4, u5⟩, ⟨v0, v1, v2⟩, v3⟩ := KK.out W hw; go_simp; try with_reducible rfl)
      refine qTr1 24 (fun K hK => ?_)
      go_simp
      refine (RX.out _ QV1.out).mono ?_
      rintro e V2 ⟨rfl, hv2⟩
      have QV2 := Lib.hid (bstep QV1.out hv2)
      refine hK.out _ _ QV2.out (fun _ => ?_)
      clear hK K
      refine qTk 25 (v := ?_) QV2.out ?_ ?_
      rotate_left
      ·(intro W hw; go_simp; try with_reducible rfl)
      refine qTk 26 (v := ?_) QV2.out ?_ ?_
      rotate_left
      ·(intro W hw; go_simp; try with_reducible rfl)
      refine wpAnyH_done (by kernel_rfl) ?_ _
      try simp only  [Act.put, List.setIfInBounds_toArray, List.set_cons_zero, List.set_cons_succ]
      go_wp2_with fail
      go_meet
      case rel => exact ⟨rfl, QV2⟩
     ·
      refine wp_region_held_drew (S := fun U => Below W10.heap.size W10 U) (by kernel_rfl) QD0.out (fun _ => ?_)
      refine qTk 0 (v := ?_) QD0.out ?_ ?_
      rotate_left
      ·(intro W hw; go_simp; try with_reducible rfl)
      refine qTk 1 (v := ?_) QD0.out ?_ ?_
      rotate_left
      ·(intro W hw; go_simp; try with_reducible rfl)
      refine qTk 2 (v := ?_) QD0.out ?_ ?_
      rotate_left
      ·(intro W hw; go_simp; try with_reducible rfl)
      refine qTk 3 (v := ?_) QD0.out ?_ ?_
      rotate_left
      ·(intro W hw; go_simp; try with_reducible rfl)
      refine qTk 4 (v := ?_) QD0.out ?_ ?_
      rotate_left
      ·(intro W hw; obtain ⟨-, ⟨p0, p1, p2, p3, p4, p5⟩, ⟨u0, u1, u2, u3, u4, u5⟩, ⟨v0, v1, v2⟩, v3⟩ := KK.out W hw; go_simp; try with_reducible rfl)
      refine qTk 5 (v := ?_) QD0.out ?_ ?_
      rotate_left
      ·(intro W hw; go_simp; try with_reducible rfl)
      refine qTk 6 (v := ?_) QD0.out ?_ ?_
      rotate_left
      ·(intro W hw; go_simp; try with_reducible rfl)
      refine qTk 7 (v := ?_) QD0.out ?_ ?_
      rotate_left
      ·(intro W hw; go_simp; try with_reducible rfl)
      refine qTk 8 (v := ?_) QD0.out ?_ ?_
      rotate_left
      ·(intro W hw; obtain ⟨-, ⟨p0, p1, p2, p3, p4, p5⟩, ⟨u0, u1, u2, u3, u4, u5⟩, ⟨v0, v1, v2⟩, v3⟩ := KK.out W hw; go_simp; try with_reducible rfl)
      refine qTk 9 (v := ?_) QD0.out ?_ ?_
      rotate_left
      ·(intro W hw; go_simp; try with_reducible rfl)
      refine qTk 10 (v := ?_) QD0.out ?_ ?_
      rotate_left
      ·(intro W hw; go_simp; try with_reducible rfl)
      refine qTk 11 (v := ?_) QD0.out ?_ ?_
      rotate_left
      ·(intro W hw; go_simp; try with_reducible rfl)
      refine qTk 12 (v := ?_) QD0.out ?_ ?_
      rotate_left
      ·(intro W hw; go_simp; try with_reducible rfl)
      refine qTk 13 (v := ?_) QD0.out ?_ ?_
      rotate_left
      ·(intro W hw; obtain ⟨-, ⟨p0, p1, p2, p3, p4, p5⟩, ⟨u0, u1, u2, u3, u4, u5⟩, ⟨v0, v1, v2⟩, v3⟩ := KK.out W hw; go_simp; try with_reducible rfl)
      refine qTk 14 (v := ?_) QD0.out ?_ ?_
      rotate_left
      ·(intro W hw; go_simp; try with_reducible rfl)
      refine qTk 15 (v := ?_) QD0.out ?_ ?_
      rotate_left
      ·(intro W hw; go_simp; try with_reducible rfl)
      refine qTk 16 (v := ?_) QD0.out ?_ ?_
      rotate_left
      ·(intro W hw; go_simp; try with_reducible rfl)
      refine qTk 17 (v := ?_) QD0.out ?_ ?_
      rotate_left
      ·(intro W hw; go_simp; try with_reducible rfl)
      refine qTk 18 (v := ?_) QD0.out ?_ ?_
      rotate_left
      ·(intro W hw; obtain ⟨-, ⟨p0, p1, p2, p3, p4, p5⟩, ⟨u0, u1, u2, u3, u4, u5⟩, ⟨v0, v1, v2⟩, v3⟩ := KK.out W hw; go_simp; try with_reducible rfl)
      refine qTr1 19 (fun K hK => ?_)
      go_simp
      refine (RZ.out _ QD0.out).mono ?_
      rintro e V1 ⟨rfl, hv1⟩
      have QV1 := Lib.hid (bstep QD0.out hv1)
      refine hK.out _ _ QV1.out (fun _ => ?_)
      clear hK K
      refine qTk 20 (v := ?_) QV1.out ?_ ?_
      rotate_left
      ·(intro W hw; go_simp; try with_reducible rfl)
      refine qTk 21 (v := ?_) QV1.out ?_ ?_
      rotate_left
      ·(intro W hw; go_simp; try with_reducible rfl)
      refine qTk 22 (v := ?_) QV1.out ?_ ?_
      rotate_left
      ·(intro W hw; go_simp; try with_reducible rfl)
      refine qTk 23 (v := ?_) QV1.out ?_ ?_
      rotate_left
      ·(intro W hw; obtain ⟨-, ⟨p0, p1, p2, p3, p4, p5⟩, ⟨u0, u1, u2, u3, u4, u5⟩, ⟨v0, v1, v2⟩, v3⟩ := KK.out W hw; go_simp; try with_reducible rfl)
      refine qTr1 24 (fun K hK => ?_)
      go_simp
      refine (RX.out _ QV1.out).mono ?_
      rintro e V2 ⟨rfl, hv2⟩
      have QV2 := Lib.hid (bstep QV1.out hv2)
      refine hK.out _ _ QV2.out (fun _ => ?_)
      clear hK K
      refine qTk 25 (v := ?_) QV2.out ?_ ?_
      rotate_left
      ·(intro W hw; go_simp; try with_reducible rfl)
      refine qTk 26 (v := ?_) QV2.out ?_ ?_
      rotate_left
      ·(intro W hw; go_simp; try with_reducible rfl)
      refine wpAnyH_done (by kernel_rfl) ?_ _
      try simp only  [Act.put, List.setIfInBounds_toArray, List.set_cons_zero, List.set_cons_succ]
      go_wp2_with fail
      go_meet
      case rel => exact ⟨rfl, QV2⟩
  case rest =>
   obtain ⟨rfl, HB11⟩ := hcut
   obtain ⟨W11, rfl⟩ : ∃ W11, W11 = wc := ⟨wc, rfl⟩
   have L11 := Lib.hid (L10.out.call HB11.out)
   have Z11 := Lib.hid (HZW.out.below HB11.out HZW.out.lt)
   have N11 := Lib.hid (HZN.out.below HB11.out)
   have Q11 := Lib.hid (Q10.out.below HB11.out Q10.out.lt)
   clear RZ RX KK L10 HZW HZN Q10 HB11 HBL Y10
   cases hzx : (rz && rx)
   case false =>
    clear hzx
    go_wp2_with fail
    go_ret
    exact ⟨rfl, L11.out.b⟩
   obtain ⟨hrz, hrx⟩ : rz = true ∧ rx = true := by simpa using hzx
   subst hrz hrx
   clear hzx
   have HFIN : Hid (Ev.evalR C L (Ex.put nm Y X) = Ev.evalR C (L.set i ⟨rk, rn, rs⟩) X ∧ fitV (L.set i ⟨rk, rn, rs⟩) ∧ i < L.length) := Lib.hid (by
    obtain ⟨hiC, e1, e2⟩ := HCI.out
    obtain ⟨hg, hl, hall⟩ := Ev.rowB_iff.1 HROW.out
    have hiL : i < L.length := by omega
    have hry : Ex.rightB nodeB Y = true := by
     cases hq : Ex.rightB nodeB Y
     ·have h := HRY.out
      rw [Ev.evalR, if_neg (by rw [hq]; simp)] at h
      have := congrArg R.e h
      exact absurd (show (1 : Int) = 0 from this) (by decide)
     ·rfl
    have hev : Ev.ev C L Y = Ev.ok ⟨rk, rn, rs⟩ := by
     have h := HRY.out
     rw [Ev.evalR, if_pos ⟨hry, HROW.out⟩] at h
     exact h
    have hpl : Pl (⟨rk, rn, rs⟩ : V) := by
     have ho : Ex.ones nodeB Y = true := by
      rw [Ex.rightB, Bool.and_eq_true, Bool.and_eq_true] at hry
      exact hry.2.2
     have := Ev.ev_pl (C := C) (Ev.rowB_is HROW.out HFV.out).2.2.1 Y ho HGY.out
     rw [hev] at this; exact this
    have hrow2 : Ev.rowB C (L.set i ⟨rk, rn, rs⟩) = true := Ev.row_set HROW.out hiC (pl_plain hpl) (by
     have := HKC.out
     rw [e2]
     show rk = kk ∨ rk = 0
     omega)
    refine ⟨?_, fitV_set2 HFV.out ⟨by have h := (pl_size hpl).2; show rs.length ≤ maxLen; have h2 : rs.length ≤ 200 := h; simp only [maxLen]; omega, ?_⟩, hiL⟩
    ·rw [Ev.evalR, Ev.evalR, if_pos ⟨HRZ.out, HROW.out⟩, if_pos ⟨HRX.out, hrow2⟩]
     have h := Ev.ev_put ((Kd.goodB_iff C).1 hg) hiC hl hev X
     rw [e1] at h
     exact h
    ·show Fits rn
     rcases hpl with ⟨-, h, -⟩ | ⟨-, h, -⟩ | ⟨-, h, -⟩ | ⟨-, h, -⟩
     ·rw [show rn = 0 from h]; decide
     ·exact h
     ·rw [show rn = 0 from h]; decide
     ·rcases h with h | h
      ·rw [show rn = 0 from h]; decide
      ·rw [show rn = 1 from h]; decide)
   obtain ⟨v10, W12, hrun, hr12, ht12, -⟩ := append_vals (RowV.new W11) (m := L) (A := Al) (c := cl) (L11.out.va.below ((Below.refl _ _).alloc (Nat.le_refl _) _)) (by have := HL9.out; simp; omega) (by simp)
   rw [HLN.out] at hrun
   have HRUN := Lib.hid hrun
   have HB12 : Hid (Below W11.heap.size W11 W12) := Lib.hid (ht12.fresh ((Below.refl _ _).alloc (Nat.le_refl _) _) (fun k hk => by simp [Value.ownBlock] at hk; omega))
   have HT12 : Hid (TurnV W12 W11.heap.size v10 L) := Lib.hid (TurnV.of_row (by simpa using hr12))
   clear hrun hr12 ht12
   obtain ⟨g, cap, he, hbg, htg⟩ := HT12.out.place HFIN.out.2.2
   subst he
   obtain ⟨b', o', e', -, z0, z1, z2⟩ := htg.vals i HFIN.out.2.2
   cases e'
   simp only [Nat.zero_add] at z0 z1 z2
   have f0 := htg.frozen (i * 3)
   have f1 := htg.frozen (i * 3 + 1)
   have f2 := htg.frozen (i * 3 + 2)
   have HTS := Lib.hid (htg.set HFIN.out.2.2 ⟨rk, rn, rs⟩)
   have HB13 : Hid (Below W11.heap.size W11 (((W12.setCell ⟨g, i * 3, none⟩ (.int .i64 rk)).setCell ⟨g, i * 3 + 1, none⟩ (.int .i64 rn)).setCell ⟨g, i * 3 + 2, none⟩ (.string (tx rs)))) := Lib.hid (((HB12.out.setCell (p := ⟨g, i * 3, none⟩) hbg _).setCell (p := ⟨g, i * 3 + 1, none⟩) hbg _).setCell (p := ⟨g, i * 3 + 2, none⟩) hbg _)
   obtain ⟨q0, q1, q2⟩ := (Q11.out.below HB12.out Q11.out.lt).holds
   have hil9 : (i : Int) < (ln : Int) := by have := HFIN.out.2.2; have := HLN.out; omega
   obtain ⟨W13, hW13⟩ : ∃ W13, ((W12.setCell ⟨g, i * 3, none⟩ (.int .i64 rk)).setCell ⟨g, i * 3 + 1, none⟩ (.int .i64 rn)).setCell ⟨g, i * 3 + 2, none⟩ (.string (tx rs)) = W13 := ⟨_, rfl⟩
   dsimp only at HTS
   rw [hW13] at HTS HB13
   have L13 := Lib.hid (L11.out.call HB13.out)
   have Z13 := Lib.hid (Z11.out.below HB13.out Z11.out.lt)
   have N13 := Lib.hid (N11.out.below HB13.out)
   rw [HLN.out] at HRUN
   have hilN : i < ln := by have := HFIN.out.2.2; have := HLN.out; omega
   have HLS2 : Hid ((L.set i ⟨rk, rn, rs⟩).length = ln) := Lib.hid (by rw [List.length_set, HLN.out])
   have EZ := Lib.hid (eval_any C L (some ⟨b, o, none⟩) Al cc cl (Ex.put nm Y X) _ W13 L13.out.ca HFC.out L13.out.va HFV.out HC9.out HL9.out a m L13.out.env N13.out (fit_put nm HFY.out X HFX.out) (by have h1 := count_put nm Y X; have h2 := HCX.out; have h3 := HCY.out; have h4 : Ex.count X * Ex.count Y ≤ 500 * 500 := Nat.mul_le_mul h2 h3; omega) (evrng_put nm HGY.out X HGX.out))
   have EX := Lib.hid (fun V (hV : Below W13.heap.size W13 V) => eval_any C (L.set i ⟨rk, rn, rs⟩) (some ⟨b, o, none⟩) (some ⟨g, 0, none⟩) cc cap X _ V (L13.out.call hV).ca HFC.out ((HTS.out.below hV).vals) HFIN.out.2.1 HC9.out (by rw [HLS2.out]; have := HL9.out; have := HLN.out; omega) a m (L13.out.call hV).env (L13.out.call hV).nx HFX.out (by have := HCX.out; omega) HGX.out)
   rw [HCN.out, HLN.out] at EZ
   rw [HCN.out, HLS2.out, ← HFIN.out.1] at EX
   obtain ⟨r, hr⟩ : ∃ r, Ev.evalR C L (Ex.put nm Y X) = r := ⟨_, rfl⟩
   rw [hr] at EZ EX
   obtain ⟨⟨r1k, r1n, r1s⟩, r1e⟩ := r
   unfold outR vv vcells at EZ EX
   dsimp only at EZ EX
   obtain ⟨c0, c1, c2, c3, c4, c5⟩ := six_of Z13.out
   have hzb : B < W11.heap.size := Z11.out.lt
   clear hr HKC HRY HCI Z11 N11 Q11
   go_wp2_with (at_builtin; refine Lib.wpList_append_run _ rfl (.tmp 96) (.tmp 97) 28 28 rfl _ _ rfl rfl _ _ HRUN.out ?_)
   refine EZ.out.mono ?_
   rintro e V1 ⟨rfl, hb⟩
   have hbb := hb.alloc (Nat.le_trans (Nat.le_refl _) hb.size) (.cells #[.int .i64 r1k, .int .i64 r1n, .string (tx r1s)] 23)
   have q1' := Row3.new V1 r1k r1n (tx r1s)
   have LV := Lib.hid (L13.out.call hbb)
   have EX2 := Lib.hid (EX.out _ hbb)
   have QV := Lib.hid q1'
   clear c0 c1 c2 c3 c4 c5 q0 q1 q2 z0 z1 z2 f0 f1 f2
   obtain ⟨c0, c1, c2, c3, c4, c5⟩ := six_of LV.out.k
   have hsm : same r1k r1n (tx r1s) r1k r1n (tx r1s) = true := by rw [same_iff]; exact ⟨rfl, rfl, rfl⟩
   clear hb hbb q1' EZ EX
   go_wp2_with fail
   refine EX2.out.mono ?_
   rintro e V2 ⟨rfl, hb⟩
   have q9 := (QV.out.below hb QV.out.lt).alloc (.cells #[.int .i64 r1k, .int .i64 r1n, .string (tx r1s)] 23)
   have LF := Lib.hid ((LV.out.call hb).alloc (.cells #[.int .i64 r1k, .int .i64 r1n, .string (tx r1s)] 23))
   obtain ⟨s0, s1, s2⟩ := q9.holds
   obtain ⟨r0, r1, r2⟩ := (Row3.new V2 r1k r1n (tx r1s)).holds
   clear hb q9 c0 c1 c2 c3 c4 c5 EX2
   go_wp2_with fail
   go_ret
   exact ⟨rfl, LF.out.b⟩
end Go.Proofs.YteghhmomhlnccaaGreatDoor
