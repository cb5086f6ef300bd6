import Derived.Test.YthcfdggdippocaaGreatDoorGQD
import Derived.Test.YthcfdggdippocaaGreatDoorRP

/- The reference's Print: values, names, minus, not. -/
namespace Go.Proofs.YthcfdggdippocaaGreatDoor
open Go.RowKit Go.Lib
set_option linter.unusedVariables false
set_option linter.unusedSimpArgs false
set_option maxRecDepth 100000
open Ex (Tree)
theorem tx_add (a b : List UInt8) : tx a ++ tx b = tx (a ++ b) := by
  apply ByteArray.ext
  rw [ByteArray.data_append]
  show a.toArray ++ b.toArray = (a ++ b).toArray
  simp
theorem rprint_any (k n : Int) (s : List UInt8) (w : World) (hb : valB k n (tx s) = true) (hn : Fits n) :
    Calls Tryz.prog 26 #[val k n (tx s)] w fun e w' => e = .returned (.string (tx (Ps.vpr k n s))) ∧ Below w.heap.size w w' := by
  have hp : plainB k n (tx s) = true := by simp only [valB, Bool.and_eq_true] at hb; exact hb.1
  have hs0 : (tx s).size = 0 → s = [] := fun h => by
    have e : (tx s).size = s.length := by simp [ByteArray.size]
    exact List.eq_nil_of_length_eq_zero (by omega)
  rcases plainB_iff.1 hp with ⟨rfl, rfl, h3⟩ | ⟨rfl, h3⟩ | ⟨rfl, rfl, h3⟩ | ⟨rfl, h3, h4, h5⟩
  · rw [hs0 h3]; exact rp_null w
  · rw [hs0 h3]; exact rp_int n w hn
  · exact rp_text (tx s) w h3
  · rw [hs0 h3]
    by_cases h1 : n = 1
    · subst h1; exact rp_true w
    · have h0 : n = 0 := by omega
      subst h0; exact rp_false w
def RefC (T : Tree) : Prop := ∀ w v, NodeV w v T → Calls Tryz.prog 13 #[v] w fun e w' => e = .returned (.string (tx (Ps.pr T))) ∧ Below w.heap.size w w'
set_option maxHeartbeats 1000000 in
theorem ref_val {t : List UInt8} {vk vn : Int} {vs : List UInt8} (hb : valB vk vn (tx vs) = true) (hr : Fits vn) : RefC (.node 1 t vk vn vs []) := by
  intro w v hv
  obtain ⟨A, c, rfl, hcc, hk⟩ := hv
  have b0 : Below w.heap.size w (w.alloc (.cells (ncells 1 t vk vn vs A 0 c) 26)) := (Below.refl _ _).alloc (Nat.le_refl _) _
  have k0 := Whole.new w 26 (ncells 1 t vk vn vs A 0 c)
  unfold ncells at *
  try dsimp only [List.length_cons, List.length_nil] at *
  obtain ⟨W1, hW1⟩ : ∃ W1, w.alloc (.cells #[.int .i64 1, .string (tx t), .int .i64 vk, .int .i64 vn, .string (tx vs), .slice A 0 c] 26) = W1 := ⟨_, rfl⟩
  rw [hW1] at b0 k0
  have B0 := Lib.hid b0
  obtain ⟨x0, x1, x2, x3, x4, x5⟩ := six_of k0
  rw [show Ps.pr (.node 1 t vk vn vs []) = Ps.vpr vk vn vs by simp [Ps.pr, Ps.prN]]
  have VP := Lib.hid (rprint_any vk vn vs W1 hb hr)
  clear b0 k0 hk hcc
  go_enter Tryz.func13, Tryz.ntmps13
  go_wp2_with fail
  refine VP.out.mono ?_
  rintro e W2 ⟨rfl, hb2⟩
  have B2 := Lib.hid (bstep B0.out hb2)
  clear hb2 VP
  go_wp2_with fail
  go_ret
  exact ⟨rfl, B2.out⟩
set_option maxHeartbeats 1000000 in
theorem ref_name {t : List UInt8} {vk vn : Int} {vs : List UInt8} : RefC (.node 2 t vk vn vs []) := by
  intro w v hv
  obtain ⟨A, c, rfl, hcc, hk⟩ := hv
  have b0 : Below w.heap.size w (w.alloc (.cells (ncells 2 t vk vn vs A 0 c) 26)) := (Below.refl _ _).alloc (Nat.le_refl _) _
  have k0 := Whole.new w 26 (ncells 2 t vk vn vs A 0 c)
  unfold ncells at *
  try dsimp only [List.length_cons, List.length_nil] at *
  obtain ⟨W1, hW1⟩ : ∃ W1, w.alloc (.cells #[.int .i64 2, .string (tx t), .int .i64 vk, .int .i64 vn, .string (tx vs), .slice A 0 c] 26) = W1 := ⟨_, rfl⟩
  rw [hW1] at b0 k0
  have B0 := Lib.hid b0
  obtain ⟨x0, x1, x2, x3, x4, x5⟩ := six_of k0
  rw [show Ps.pr (.node 2 t vk vn vs []) = t by simp [Ps.pr, Ps.prN]]
  clear b0 k0 hk hcc
  go_enter Tryz.func13, Tryz.ntmps13
  go_wp2_with fail
  go_ret
  exact ⟨rfl, B0.out⟩
set_option maxHeartbeats 2000000 in
theorem ref_neg {t : List UInt8} {vk vn : Int} {vs : List UInt8} {X : Tree} (HX : RefC X) (hlen : (Ps.pr X).length ≤ 1000000000) (hX : ∀ o t1 k1 n1 s1 l1, X = .node o t1 k1 n1 s1 l1 → ((o == 4) = true ∨ (o == 4) = false ∧ (o == 5) = true) ∧ ¬ 6 ≤ Ps.slev X ∨ ((o == 4) = false ∧ (o == 5) = false) ∧ 6 ≤ Ps.slev X) : RefC (.node 3 t vk vn vs [X]) := by
  intro w v hv
  obtain ⟨A, c, rfl, hcc, hk⟩ := hv
  have b0 : Below w.heap.size w (w.alloc (.cells (ncells 3 t vk vn vs A 1 c) 26)) := (Below.refl _ _).alloc (Nat.le_refl _) _
  have k0 := Whole.new w 26 (ncells 3 t vk vn vs A 1 c)
  unfold ncells at *
  try dsimp only [List.length_cons, List.length_nil] at *
  obtain ⟨W1, hW1⟩ : ∃ W1, w.alloc (.cells #[.int .i64 3, .string (tx t), .int .i64 vk, .int .i64 vn, .string (tx vs), .slice A 1 c] 26) = W1 := ⟨_, rfl⟩
  rw [hW1] at b0 k0
  have B0 := Lib.hid b0
  have K0 := Lib.hid k0
  obtain ⟨x0, x1, x2, x3, x4, x5⟩ := six_of k0
  have hpr : Ps.pr (.node 3 t vk vn vs [X]) = [45] ++ Ps.par 6 (Ps.slev X, Ps.pr X) := by simp [Ps.pr, Ps.prs, Ps.prN]
  rw [hpr]
  obtain ⟨kb, ko, o1, t1, k1, n1, s1, l1, B1, c1, hA1, hX1, hltb, nv1, cl1⟩ := kid_node hk 0 (by simp)
  subst hA1
  simp only [List.getElem_cons_zero] at hX1
  rw [← hX1] at nv1
  rw [show ko + 0 * 6 = ko by omega] at cl1
  have CL1 := Lib.hid cl1
  have hX2 := hX _ _ _ _ _ _ hX1
  have CX := Lib.hid (HX W1 _ (nv1.below b0))
  obtain ⟨y0, y1, y2, y3, y4, y5⟩ := cl1 W1 b0
  clear b0 k0 hk hcc hpr nv1 cl1 hX1 hX HX
  unfold ncells at CX
  obtain ⟨px, hpx⟩ : ∃ px, Ps.pr X = px := ⟨_, rfl⟩
  obtain ⟨lx, hlx⟩ : ∃ lx, Ps.slev X = lx := ⟨_, rfl⟩
  rw [hpx] at CX hlen ⊢
  rw [hlx] at hX2 ⊢
  have H6 : Hid (¬ 6 ≤ lx → tx [45] ++ (tx [40] ++ tx px ++ tx [41]) = tx ([45] ++ Ps.par 6 (lx, px))) := Lib.hid (fun h => by rw [tx_add, tx_add, tx_add, Ps.par, if_neg h]; rfl)
  have H6' : Hid (6 ≤ lx → tx [45] ++ tx px = tx ([45] ++ Ps.par 6 (lx, px))) := Lib.hid (fun h => by rw [tx_add, Ps.par, if_pos h])
  go_enter Tryz.func13, Tryz.ntmps13
  go_wp2_with fail
  refine CX.out.mono ?_
  rintro e W2 ⟨rfl, hb2⟩
  have B2 := Lib.hid (bstep B0.out hb2)
  obtain ⟨y0, y1, y2, y3, y4, y5⟩ := CL1.out W2 B2.out
  obtain ⟨x0, x1, x2, x3, x4, x5⟩ := six_of (K0.out.below hb2 K0.out.lt)
  clear hb2 CX hpx hlx hW1
  rcases hX2 with ⟨h1 | ⟨h1, h2⟩, h6⟩ | ⟨⟨h1, h2⟩, h6⟩
  · have E := Lib.hid (H6.out h6)
    clear H6 H6' h6
    go_wp2_with fail
    all_goals first
      | (exfalso; omega)
      | (go_ret; exact ⟨congrArg (fun z => Ending.returned (Value.string z)) E.out, B2.out⟩)
  · have E := Lib.hid (H6.out h6)
    clear H6 H6' h6
    go_wp2_with fail
    all_goals first
      | (exfalso; omega)
      | (go_ret; exact ⟨congrArg (fun z => Ending.returned (Value.string z)) E.out, B2.out⟩)
  · have E := Lib.hid (H6'.out h6)
    clear H6 H6' h6
    go_wp2_with fail
    all_goals first
      | (exfalso; omega)
      | (go_ret; exact ⟨congrArg (fun z => Ending.returned (Value.string z)) E.out, B2.out⟩)
set_option maxHeartbeats 2000000 in
theorem ref_not {t : List UInt8} {vk vn : Int} {vs : List UInt8} {X : Tree} (HX : RefC X) (hlen : (Ps.pr X).length ≤ 1000000000) (hX : ∀ o t1 k1 n1 s1 l1, X = .node o t1 k1 n1 s1 l1 → ((o == 5) = true ∧ (t1 == [111, 114]) = true) ∧ ¬ 2 ≤ Ps.slev X ∨ ((o == 5) = true ∧ (t1 == [111, 114]) = false ∧ (t1 == [97, 110, 100]) = true) ∧ ¬ 2 ≤ Ps.slev X ∨ ((o == 5) = true ∧ (t1 == [111, 114]) = false ∧ (t1 == [97, 110, 100]) = false) ∧ 2 ≤ Ps.slev X ∨ ((o == 5) = false) ∧ 2 ≤ Ps.slev X) : RefC (.node 4 t vk vn vs [X]) := by
  intro w v hv
  obtain ⟨A, c, rfl, hcc, hk⟩ := hv
  have b0 : Below w.heap.size w (w.alloc (.cells (ncells 4 t vk vn vs A 1 c) 26)) := (Below.refl _ _).alloc (Nat.le_refl _) _
  have k0 := Whole.new w 26 (ncells 4 t vk vn vs A 1 c)
  unfold ncells at *
  try dsimp only [List.length_cons, List.length_nil] at *
  obtain ⟨W1, hW1⟩ : ∃ W1, w.alloc (.cells #[.int .i64 4, .string (tx t), .int .i64 vk, .int .i64 vn, .string (tx vs), .slice A 1 c] 26) = W1 := ⟨_, rfl⟩
  rw [hW1] at b0 k0
  have B0 := Lib.hid b0
  have K0 := Lib.hid k0
  obtain ⟨x0, x1, x2, x3, x4, x5⟩ := six_of k0
  have hpr : Ps.pr (.node 4 t vk vn vs [X]) = [110, 111, 116, 32] ++ Ps.par 2 (Ps.slev X, Ps.pr X) := by simp [Ps.pr, Ps.prs, Ps.prN]
  rw [hpr]
  obtain ⟨kb, ko, o1, t1, k1, n1, s1, l1, B1, c1, hA1, hX1, hltb, nv1, cl1⟩ := kid_node hk 0 (by simp)
  subst hA1
  simp only [List.getElem_cons_zero] at hX1
  rw [← hX1] at nv1
  rw [show ko + 0 * 6 = ko by omega] at cl1
  have CL1 := Lib.hid cl1
  have hX2 := hX _ _ _ _ _ _ hX1
  have CX := Lib.hid (HX W1 _ (nv1.below b0))
  obtain ⟨y0, y1, y2, y3, y4, y5⟩ := cl1 W1 b0
  clear b0 k0 hk hcc hpr nv1 cl1 hX1 hX HX
  unfold ncells at CX
  obtain ⟨px, hpx⟩ : ∃ px, Ps.pr X = px := ⟨_, rfl⟩
  obtain ⟨lx, hlx⟩ : ∃ lx, Ps.slev X = lx := ⟨_, rfl⟩
  rw [hpx] at CX hlen ⊢
  rw [hlx] at hX2 ⊢
  have H6 : Hid (¬ 2 ≤ lx → tx [110, 111, 116, 32] ++ (tx [40] ++ tx px ++ tx [41]) = tx ([110, 111, 116, 32] ++ Ps.par 2 (lx, px))) := Lib.hid (fun h => by rw [tx_add, tx_add, tx_add, Ps.par, if_neg h]; rfl)
  have H6' : Hid (2 ≤ lx → tx [110, 111, 116, 32] ++ tx px = tx ([110, 111, 116, 32] ++ Ps.par 2 (lx, px))) := Lib.hid (fun h => by rw [tx_add, Ps.par, if_pos h])
  go_enter Tryz.func13, Tryz.ntmps13
  go_wp2_with fail
  refine CX.out.mono ?_
  rintro e W2 ⟨rfl, hb2⟩
  have B2 := Lib.hid (bstep B0.out hb2)
  obtain ⟨y0, y1, y2, y3, y4, y5⟩ := CL1.out W2 B2.out
  obtain ⟨x0, x1, x2, x3, x4, x5⟩ := six_of (K0.out.below hb2 K0.out.lt)
  clear hb2 CX hpx hlx hW1
  rcases hX2 with ⟨⟨h1, h2⟩, h6⟩ | ⟨⟨h1, h2, h3⟩, h6⟩ | ⟨⟨h1, h2, h3⟩, h6⟩ | ⟨h1, h6⟩
  · have E := Lib.hid (H6.out h6)
    clear H6 H6' h6
    go_wp2_with fail
    all_goals first
      | (exfalso; omega)
      | (go_ret; exact ⟨congrArg (fun z => Ending.returned (Value.string z)) E.out, B2.out⟩)
  · have E := Lib.hid (H6.out h6)
    clear H6 H6' h6
    go_wp2_with fail
    all_goals first
      | (exfalso; omega)
      | (go_ret; exact ⟨congrArg (fun z => Ending.returned (Value.string z)) E.out, B2.out⟩)
  · have E := Lib.hid (H6'.out h6)
    clear H6 H6' h6
    go_wp2_with fail
    all_goals first
      | (exfalso; omega)
      | (go_ret; exact ⟨congrArg (fun z => Ending.returned (Value.string z)) E.out, B2.out⟩)
  · have E := Lib.hid (H6'.out h6)
    clear H6 H6' h6
    go_wp2_with fail
    all_goals first
      | (exfalso; omega)
      | (go_ret; exact ⟨congrArg (fun z => Ending.returned (Value.string z)) E.out, B2.out⟩)
end Go.Proofs.YthcfdggdippocaaGreatDoor

/- The reference's Print: two operands. -/
namespace Go.Proofs.YthcfdggdippocaaGreatDoor
open Go.RowKit Go.Lib
set_option linter.unusedVariables false
set_option linter.unusedSimpArgs false
set_option maxRecDepth 100000
open Ex (Tree)
set_option maxHeartbeats 4000000 in
theorem ref_bin {t : List UInt8} {vk vn : Int} {vs : List UInt8} {X Y : Tree} (HX : RefC X) (HY : RefC Y) (hlenx : (Ps.pr X).length ≤ 1000000000) (hleny : (Ps.pr Y).length ≤ 1000000000) (hlt : t.length ≤ 3) : RefC (.node 5 t vk vn vs [X, Y]) := by
  intro w v hv
  obtain ⟨A, c, rfl, hcc, hk⟩ := hv
  have b0 : Below w.heap.size w (w.alloc (.cells (ncells 5 t vk vn vs A 2 c) 26)) := (Below.refl _ _).alloc (Nat.le_refl _) _
  have k0 := Whole.new w 26 (ncells 5 t vk vn vs A 2 c)
  have hpr : Ps.pr (.node 5 t vk vn vs [X, Y]) = Ps.par (Ps.fl (Ps.mlev t)) (Ps.slev X, Ps.pr X) ++ [32] ++ t ++ [32] ++ Ps.par (Ps.mlev t + 1) (Ps.slev Y, Ps.pr Y) := by simp [Ps.pr, Ps.prs, Ps.prN]
  rw [hpr]
  obtain ⟨xb, xo, o1, t1, k1, n1, s1, l1, B1, c1, hA1, hX1, hltx, nvx, clx⟩ := kid_node hk 0 (by simp)
  obtain ⟨yb, yo, o2, t2, k2, n2, s2, l2, B2, c2, hA2, hY1, hlty, nvy, cly⟩ := kid_node hk 1 (by simp)
  rw [hA1] at hA2
  cases hA2
  subst hA1
  simp only [List.getElem_cons_zero, List.getElem_cons_succ] at hX1 hY1
  rw [← hX1] at nvx
  rw [← hY1] at nvy
  rw [show xo + 0 * 6 = xo by omega] at clx
  rw [show xo + 1 * 6 = xo + 6 by omega] at cly
  have L0 : Hid (∀ W, Calls Tryz.prog 10 #[.agg (ncells 5 t vk vn vs (some ⟨xb, xo, none⟩) 2 c)] W fun e w' => e = .returned (.int .i64 (Ps.mlev t : Nat)) ∧ Below W.heap.size W w') := Lib.hid (fun W => by
    have := refLevel14_any (op := 5) (t := t) (vk := vk) (vn := vn) (vs := vs) (A := some ⟨xb, xo, none⟩) (n := 2) (c := c) (w := W) [X, Y]
    rw [show Ps.slev (.node 5 t vk vn vs [X, Y]) = Ps.mlev t by simp [Ps.slev]] at this
    exact this)
  have L1 : Hid (∀ W, Calls Tryz.prog 10 #[.agg (ncells o1 t1 k1 n1 s1 B1 l1.length c1)] W fun e w' => e = .returned (.int .i64 (Ps.slev X : Nat)) ∧ Below W.heap.size W w') := Lib.hid (fun W => by rw [hX1]; exact refLevel14_any l1)
  have L2 : Hid (∀ W, Calls Tryz.prog 10 #[.agg (ncells o2 t2 k2 n2 s2 B2 l2.length c2)] W fun e w' => e = .returned (.int .i64 (Ps.slev Y : Nat)) ∧ Below W.heap.size W w') := Lib.hid (fun W => by rw [hY1]; exact refLevel14_any l2)
  have PX : Hid (∀ W, Below w.heap.size w W → Calls Tryz.prog 13 #[.agg (ncells o1 t1 k1 n1 s1 B1 l1.length c1)] W fun e w' => e = .returned (.string (tx (Ps.pr X))) ∧ Below W.heap.size W w') := Lib.hid (fun W hW => HX W _ (nvx.below hW))
  have PY : Hid (∀ W, Below w.heap.size w W → Calls Tryz.prog 13 #[.agg (ncells o2 t2 k2 n2 s2 B2 l2.length c2)] W fun e w' => e = .returned (.string (tx (Ps.pr Y))) ∧ Below W.heap.size W w') := Lib.hid (fun W hW => HY W _ (nvy.below hW))
  have KK : Hid (∀ W, Below (w.alloc (.cells (ncells 5 t vk vn vs (some ⟨xb, xo, none⟩) 2 c) 26)).heap.size (w.alloc (.cells (ncells 5 t vk vn vs (some ⟨xb, xo, none⟩) 2 c) 26)) W → Below w.heap.size w W ∧
      (W.cell? ⟨w.heap.size, 0, none⟩ = some (.int .i64 5) ∧ W.cell? ⟨w.heap.size, 1, none⟩ = some (.string (tx t)) ∧ W.cell? ⟨w.heap.size, 2, none⟩ = some (.int .i64 vk) ∧ W.cell? ⟨w.heap.size, 3, none⟩ = some (.int .i64 vn) ∧ W.cell? ⟨w.heap.size, 4, none⟩ = some (.string (tx vs)) ∧ W.cell? ⟨w.heap.size, 5, none⟩ = some (.slice (some ⟨xb, xo, none⟩) 2 c)) ∧
      (W.cell? ⟨xb, xo, none⟩ = some (.int .i64 o1) ∧ W.cell? ⟨xb, xo + 1, none⟩ = some (.string (tx t1)) ∧ W.cell? ⟨xb, xo + 2, none⟩ = some (.int .i64 k1) ∧ W.cell? ⟨xb, xo + 3, none⟩ = some (.int .i64 n1) ∧ W.cell? ⟨xb, xo + 4, none⟩ = some (.string (tx s1)) ∧ W.cell? ⟨xb, xo + 5, none⟩ = some (.slice B1 l1.length c1)) ∧
      (W.cell? ⟨xb, xo + 6, none⟩ = some (.int .i64 o2) ∧ W.cell? ⟨xb, xo + 6 + 1, none⟩ = some (.string (tx t2)) ∧ W.cell? ⟨xb, xo + 6 + 2, none⟩ = some (.int .i64 k2) ∧ W.cell? ⟨xb, xo + 6 + 3, none⟩ = some (.int .i64 n2) ∧ W.cell? ⟨xb, xo + 6 + 4, none⟩ = some (.string (tx s2)) ∧ W.cell? ⟨xb, xo + 6 + 5, none⟩ = some (.slice B2 l2.length c2))) := Lib.hid (fun W hW => ⟨bstep b0 hW, six_of (k0.below hW k0.lt), clx W (bstep b0 hW), cly W (bstep b0 hW)⟩)
  obtain ⟨px, hpx⟩ : ∃ px, Ps.pr X = px := ⟨_, rfl⟩
  obtain ⟨lx, hlx⟩ : ∃ lx, Ps.slev X = lx := ⟨_, rfl⟩
  obtain ⟨py, hpy⟩ : ∃ py, Ps.pr Y = py := ⟨_, rfl⟩
  obtain ⟨ly, hly⟩ : ∃ ly, Ps.slev Y = ly := ⟨_, rfl⟩
  obtain ⟨mo, hmo⟩ : ∃ mo, Ps.mlev t = mo := ⟨_, rfl⟩
  rw [hpx] at PX hlenx ⊢
  rw [hpy] at PY hleny ⊢
  rw [hlx] at L1 ⊢
  rw [hly] at L2 ⊢
  rw [hmo] at L0 ⊢
  have E1 : Hid (lx < mo ∨ (mo = 3 ∧ lx = 3) → Ps.par (Ps.fl mo) (lx, px) = [40] ++ px ++ [41]) := Lib.hid (fun h => by
    unfold Ps.par
    rw [if_neg]
    · rfl
    · unfold Ps.fl; simp only; split <;> omega)
  have E1' : Hid (¬ (lx < mo ∨ (mo = 3 ∧ lx = 3)) → Ps.par (Ps.fl mo) (lx, px) = px) := Lib.hid (fun h => by
    unfold Ps.par
    rw [if_pos]
    unfold Ps.fl; simp only; split <;> omega)
  have E2 : Hid (ly ≤ mo → Ps.par (mo + 1) (ly, py) = [40] ++ py ++ [41]) := Lib.hid (fun h => by
    unfold Ps.par
    rw [if_neg (by simp only; omega)]; rfl)
  have E2' : Hid (¬ ly ≤ mo → Ps.par (mo + 1) (ly, py) = py) := Lib.hid (fun h => by
    unfold Ps.par
    rw [if_pos (by simp only; omega)])
  obtain ⟨R, hR⟩ : ∃ R, Ps.par (Ps.fl mo) (lx, px) ++ [32] ++ t ++ [32] ++ Ps.par (mo + 1) (ly, py) = R := ⟨_, rfl⟩
  rw [hR]
  have HR := Lib.hid hR
  clear hR
  clear nvx nvy clx cly hX1 hY1 HX HY hpr hk hcc hpx hpy hlx hly hmo hltx hlty
  unfold ncells at *
  obtain ⟨W1, hW1⟩ : ∃ W1, w.alloc (.cells #[.int .i64 5, .string (tx t), .int .i64 vk, .int .i64 vn, .string (tx vs), .slice (some ⟨xb, xo, none⟩) 2 c] 26) = W1 := ⟨_, rfl⟩
  rw [hW1] at b0 k0 KK
  have B0 := Lib.hid b0
  obtain ⟨x0, x1, x2, x3, x4, x5⟩ := six_of k0
  clear b0 k0
  go_enter Tryz.func13, Tryz.ntmps13
  go_upto_region 17 with fail
  clear x0 x1 x2 x3 x4 x5
  go_region_held3 (fun w' => Below W1.heap.size W1 w' ∧ Below w.heap.size w w' ∧
      (w'.cell? ⟨w.heap.size, 0, none⟩ = some (.int .i64 5) ∧ w'.cell? ⟨w.heap.size, 1, none⟩ = some (.string (tx t)) ∧ w'.cell? ⟨w.heap.size, 2, none⟩ = some (.int .i64 vk) ∧ w'.cell? ⟨w.heap.size, 3, none⟩ = some (.int .i64 vn) ∧ w'.cell? ⟨w.heap.size, 4, none⟩ = some (.string (tx vs)) ∧ w'.cell? ⟨w.heap.size, 5, none⟩ = some (.slice (some ⟨xb, xo, none⟩) 2 c)) ∧
      (w'.cell? ⟨xb, xo, none⟩ = some (.int .i64 o1) ∧ w'.cell? ⟨xb, xo + 1, none⟩ = some (.string (tx t1)) ∧ w'.cell? ⟨xb, xo + 2, none⟩ = some (.int .i64 k1) ∧ w'.cell? ⟨xb, xo + 3, none⟩ = some (.int .i64 n1) ∧ w'.cell? ⟨xb, xo + 4, none⟩ = some (.string (tx s1)) ∧ w'.cell? ⟨xb, xo + 5, none⟩ = some (.slice B1 l1.length c1)) ∧
      (w'.cell? ⟨xb, xo + 6, none⟩ = some (.int .i64 o2) ∧ w'.cell? ⟨xb, xo + 6 + 1, none⟩ = some (.string (tx t2)) ∧ w'.cell? ⟨xb, xo + 6 + 2, none⟩ = some (.int .i64 k2) ∧ w'.cell? ⟨xb, xo + 6 + 3, none⟩ = some (.int .i64 n2) ∧ w'.cell? ⟨xb, xo + 6 + 4, none⟩ = some (.string (tx s2)) ∧ w'.cell? ⟨xb, xo + 6 + 5, none⟩ = some (.slice B2 l2.length c2)))
    (first | (exact ⟨(Below.refl _ _).drew, KK.out _ (Below.refl _ _).drew⟩) | (go_split_ands; exact ⟨bstep (by assumption) hbL, KK.out _ (bstep (by assumption) hbL)⟩) | go_keep)
    (first
      | (go_at_call 10; (with_reducible refine (L0.out _).mono ?_); rintro e wl0 ⟨rfl, hbL⟩)
      | (go_at_call 10; (with_reducible refine (L1.out _).mono ?_); rintro e wl1 ⟨rfl, hbL⟩)
      | (go_at_call 10; (with_reducible refine (L2.out _).mono ?_); rintro e wl2 ⟨rfl, hbL⟩))
  all_goals go_upto_region 18 with fail
  all_goals
    go_region_held3 (fun w' => Below W1.heap.size W1 w' ∧ Below w.heap.size w w' ∧
        (w'.cell? ⟨w.heap.size, 0, none⟩ = some (.int .i64 5) ∧ w'.cell? ⟨w.heap.size, 1, none⟩ = some (.string (tx t)) ∧ w'.cell? ⟨w.heap.size, 2, none⟩ = some (.int .i64 vk) ∧ w'.cell? ⟨w.heap.size, 3, none⟩ = some (.int .i64 vn) ∧ w'.cell? ⟨w.heap.size, 4, none⟩ = some (.string (tx vs)) ∧ w'.cell? ⟨w.heap.size, 5, none⟩ = some (.slice (some ⟨xb, xo, none⟩) 2 c)) ∧
        (w'.cell? ⟨xb, xo, none⟩ = some (.int .i64 o1) ∧ w'.cell? ⟨xb, xo + 1, none⟩ = some (.string (tx t1)) ∧ w'.cell? ⟨xb, xo + 2, none⟩ = some (.int .i64 k1) ∧ w'.cell? ⟨xb, xo + 3, none⟩ = some (.int .i64 n1) ∧ w'.cell? ⟨xb, xo + 4, none⟩ = some (.string (tx s1)) ∧ w'.cell? ⟨xb, xo + 5, none⟩ = some (.slice B1 l1.length c1)) ∧
        (w'.cell? ⟨xb, xo + 6, none⟩ = some (.int .i64 o2) ∧ w'.cell? ⟨xb, xo + 6 + 1, none⟩ = some (.string (tx t2)) ∧ w'.cell? ⟨xb, xo + 6 + 2, none⟩ = some (.int .i64 k2) ∧ w'.cell? ⟨xb, xo + 6 + 3, none⟩ = some (.int .i64 n2) ∧ w'.cell? ⟨xb, xo + 6 + 4, none⟩ = some (.string (tx s2)) ∧ w'.cell? ⟨xb, xo + 6 + 5, none⟩ = some (.slice B2 l2.length c2)))
      (first | (go_split_ands; exact ⟨bstep (by assumption) hbP, KK.out _ (bstep (by assumption) hbP)⟩) | (go_split_ands; exact ⟨Below.drew (by assumption), KK.out _ (Below.drew (by assumption))⟩) | (go_split_ands; exact ⟨by assumption, KK.out _ (by assumption)⟩) | (go_split_ands; exact ⟨Below.drew (bstep (by assumption) hbL), KK.out _ (Below.drew (bstep (by assumption) hbL))⟩) | go_keep)
      (first
        | (go_at_call 13; (with_reducible refine (PX.out _ ?_).mono ?_); (go_split_ands; assumption); rintro e wp1 ⟨rfl, hbP⟩)
        | (go_at_call 13; (with_reducible refine (PY.out _ ?_).mono ?_); (go_split_ands; assumption); rintro e wp2 ⟨rfl, hbP⟩))
  by_cases h1 : lx < mo
  · have h1' : (lx : Int) < (mo : Int) := by omega
    have hA : lx < mo ∨ (mo = 3 ∧ lx = 3) := .inl h1
    by_cases hB : ly ≤ mo
    · have hb : (ly : Int) ≤ (mo : Int) := by omega
      have F := Lib.hid ((congrArg (fun z => Ending.returned (Value.string z)) (show tx [40] ++ tx px ++ tx [41] ++ tx [32] ++ tx t ++ tx [32] ++ (tx [40] ++ tx py ++ tx [41]) = tx R by rw [← HR.out, E1.out hA, E2.out hB]; simp only [tx_add])) )
      clear E1 E1' E2 E2'
      go_wp2_with fail
      all_goals first
        | (exfalso; omega)
        | (go_ret; exact ⟨F.out, by (go_split_ands; first | exact bstep (by assumption) hbP | assumption)⟩)
    · have hb : ¬ (ly : Int) ≤ (mo : Int) := by omega
      have F := Lib.hid ((congrArg (fun z => Ending.returned (Value.string z)) (show tx [40] ++ tx px ++ tx [41] ++ tx [32] ++ tx t ++ tx [32] ++ tx py = tx R by rw [← HR.out, E1.out hA, E2'.out hB]; simp only [tx_add])) )
      clear E1 E1' E2 E2'
      go_wp2_with fail
      all_goals first
        | (exfalso; omega)
        | (go_ret; exact ⟨F.out, by (go_split_ands; first | exact bstep (by assumption) hbP | assumption)⟩)
  · have h1' : ¬ (lx : Int) < (mo : Int) := by omega
    by_cases h3 : mo = 3
    · have h3' : ((mo : Int) == 3) = true := by simp; omega
      by_cases h4 : lx = 3
      · have h4' : ((lx : Int) == 3) = true := by simp; omega
        have hA : lx < mo ∨ (mo = 3 ∧ lx = 3) := .inr ⟨h3, h4⟩
        by_cases hB : ly ≤ mo
        · have hb : (ly : Int) ≤ (mo : Int) := by omega
          have F := Lib.hid ((congrArg (fun z => Ending.returned (Value.string z)) (show tx [40] ++ tx px ++ tx [41] ++ tx [32] ++ tx t ++ tx [32] ++ (tx [40] ++ tx py ++ tx [41]) = tx R by rw [← HR.out, E1.out hA, E2.out hB]; simp only [tx_add])) )
          clear E1 E1' E2 E2'
          go_wp2_with fail
          all_goals first
            | (exfalso; omega)
            | (go_ret; exact ⟨F.out, by (go_split_ands; first | exact bstep (by assumption) hbP | assumption)⟩)
        · have hb : ¬ (ly : Int) ≤ (mo : Int) := by omega
          have F := Lib.hid ((congrArg (fun z => Ending.returned (Value.string z)) (show tx [40] ++ tx px ++ tx [41] ++ tx [32] ++ tx t ++ tx [32] ++ tx py = tx R by rw [← HR.out, E1.out hA, E2'.out hB]; simp only [tx_add])) )
          clear E1 E1' E2 E2'
          go_wp2_with fail
          all_goals first
            | (exfalso; omega)
            | (go_ret; exact ⟨F.out, by (go_split_ands; first | exact bstep (by assumption) hbP | assumption)⟩)
      · have h4' : ((lx : Int) == 3) = false := by simp; omega
        have hA : ¬ (lx < mo ∨ (mo = 3 ∧ lx = 3)) := by omega
        by_cases hB : ly ≤ mo
        · have hb : (ly : Int) ≤ (mo : Int) := by omega
          have F := Lib.hid ((congrArg (fun z => Ending.returned (Value.string z)) (show tx px ++ tx [32] ++ tx t ++ tx [32] ++ (tx [40] ++ tx py ++ tx [41]) = tx R by rw [← HR.out, E1'.out hA, E2.out hB]; simp only [tx_add])) )
          clear E1 E1' E2 E2'
          go_wp2_with fail
          all_goals first
            | (exfalso; omega)
            | (go_ret; exact ⟨F.out, by (go_split_ands; first | exact bstep (by assumption) hbP | assumption)⟩)
        · have hb : ¬ (ly : Int) ≤ (mo : Int) := by omega
          have F := Lib.hid ((congrArg (fun z => Ending.returned (Value.string z)) (show tx px ++ tx [32] ++ tx t ++ tx [32] ++ tx py = tx R by rw [← HR.out, E1'.out hA, E2'.out hB]; simp only [tx_add])) )
          clear E1 E1' E2 E2'
          go_wp2_with fail
          all_goals first
            | (exfalso; omega)
            | (go_ret; exact ⟨F.out, by (go_split_ands; first | exact bstep (by assumption) hbP | assumption)⟩)
    · have h3' : ((mo : Int) == 3) = false := by simp; omega
      have hA : ¬ (lx < mo ∨ (mo = 3 ∧ lx = 3)) := by omega
      by_cases hB : ly ≤ mo
      · have hb : (ly : Int) ≤ (mo : Int) := by omega
        have F := Lib.hid ((congrArg (fun z => Ending.returned (Value.string z)) (show tx px ++ tx [32] ++ tx t ++ tx [32] ++ (tx [40] ++ tx py ++ tx [41]) = tx R by rw [← HR.out, E1'.out hA, E2.out hB]; simp only [tx_add])) )
        clear E1 E1' E2 E2'
        go_wp2_with fail
        all_goals first
          | (exfalso; omega)
          | (go_ret; exact ⟨F.out, by (go_split_ands; first | exact bstep (by assumption) hbP | assumption)⟩)
      · have hb : ¬ (ly : Int) ≤ (mo : Int) := by omega
        have F := Lib.hid ((congrArg (fun z => Ending.returned (Value.string z)) (show tx px ++ tx [32] ++ tx t ++ tx [32] ++ tx py = tx R by rw [← HR.out, E1'.out hA, E2'.out hB]; simp only [tx_add])) )
        clear E1 E1' E2 E2'
        go_wp2_with fail
        all_goals first
          | (exfalso; omega)
          | (go_ret; exact ⟨F.out, by (go_split_ands; first | exact bstep (by assumption) hbP | assumption)⟩)
end Go.Proofs.YthcfdggdippocaaGreatDoor

/- The reference's Print: a call; any tree. -/
namespace Go.Proofs.YthcfdggdippocaaGreatDoor
open Go.RowKit Go.Lib
set_option linter.unusedVariables false
set_option linter.unusedSimpArgs false
set_option maxRecDepth 100000
open Ex (Tree)
set_option maxHeartbeats 2000000 in
theorem ref_call {ks : List Tree} (HK : ∀ x ∈ ks, RefC x) {t : List UInt8} {vk vn : Int} {vs : List UInt8} (hkn : ks.length ≤ 1000000) (hlen : (Ps.pr (.node 6 t vk vn vs ks)).length ≤ 1000000000) : RefC (.node 6 t vk vn vs ks) := by
  intro w v hv
  obtain ⟨A, c, rfl, hcc, hk⟩ := hv
  have hpr : Ps.pr (.node 6 t vk vn vs ks) = t ++ [40] ++ Ps.commas (Ps.prs ks) ++ [41] := by
    simp [Ps.pr, Ps.prN]
  rw [hpr] at hlen ⊢
  simp only [List.length_append, List.length_cons, List.length_nil] at hlen
  have b0 : Below w.heap.size w (w.alloc (.cells (ncells 6 t vk vn vs A ks.length c) 26)) := (Below.refl _ _).alloc (Nat.le_refl _) _
  have k0 := Whole.new w 26 (ncells 6 t vk vn vs A ks.length c)
  unfold ncells at *
  obtain ⟨W1, hW1⟩ : ∃ W1, w.alloc (.cells #[.int .i64 6, .string (tx t), .int .i64 vk, .int .i64 vn, .string (tx vs), .slice A ks.length c] 26) = W1 := ⟨_, rfl⟩
  rw [hW1] at b0 k0
  have B0 := Lib.hid b0
  have K0 := Lib.hid k0
  have HLEN := Lib.hid hlen
  have HKS := Lib.hid HK
  have HT := Lib.hid hk
  obtain ⟨x0, x1, x2, x3, x4, x5⟩ := six_of k0
  have htl : t.length ≤ 1000000000 := by omega
  obtain ⟨R, hR⟩ : ∃ R, t ++ [40] ++ Ps.commas (Ps.prs ks) ++ [41] = R := ⟨_, rfl⟩
  rw [hR]
  have HR := Lib.hid hR
  obtain ⟨kn, hkn2⟩ : ∃ kn, ks.length = kn := ⟨_, rfl⟩
  rw [hkn2] at hkn K0 hW1 x5 ⊢
  have HKN := Lib.hid hkn2
  clear b0 k0 hlen hk hcc hpr HK hkn2 hR
  go_enter Tryz.func13, Tryz.ntmps13
  go_wp2_with fail
  all_goals try (exfalso; omega)
  go_loopg [10, 11] (kn + 1) (fun j s10 s11 wr => ∃ (i : Nat) (S : List UInt8), i ≤ kn ∧ kn < i + j ∧ s11 = .int .i64 (i : Nat) ∧ s10 = .string (tx S) ∧ Hid (S = t ++ [40] ++ Ps.commas ((Ps.prs ks).take i)) ∧ Hid (Below W1.heap.size W1 wr))
  case atStart => exact ⟨0, t ++ [40], by omega, by omega, rfl, by rw [← tx_add], Lib.hid (by simp [Ps.commas]), Lib.hid (Below.refl _ _)⟩
  case round =>
    obtain ⟨i, S, hi, hj, rfl, rfl, HS, HBI⟩ := hrel
    have KI := Lib.hid (K0.out.below HBI.out K0.out.lt)
    obtain ⟨x0, x1, x2, x3, x4, x5⟩ := six_of KI.out
    have hSl : S.length ≤ 1000000000 := by
      have h1 := HLEN.out
      have h2 := commas_le (Ps.prs ks) i
      rw [HS.out]; simp; omega
    by_cases hlt : i < kn
    · have hlt' : (i : Int) < (kn : Int) := by omega
      have hi9 : (i : Int) < 1000000 := by omega
      have hik : i < ks.length := by have := HKN.out; omega
      obtain ⟨kb, ko, o1, t1, k1, n1, s1, l1, B1, c1, hA1, hX1, hltb, nv1, cl1⟩ := kid_node HT.out i hik
      subst hA1
      have hbw := bstep B0.out HBI.out
      obtain ⟨y0, y1, y2, y3, y4, y5⟩ := cl1 wr hbw
      have HCT := Lib.hid (commas_take ks i hik)
      have HCL := commas_le (Ps.prs ks) (i + 1)
      rw [← hX1] at nv1
      have TC := Lib.hid (HKS.out _ (List.getElem_mem hik) wr _ (nv1.below hbw))
      obtain ⟨px, hpx⟩ : ∃ px, Ps.pr ks[i] = px := ⟨_, rfl⟩
      rw [hpx] at TC HCT
      have hpl : px.length ≤ 1000000000 := by
        have h1 := HLEN.out
        rw [HCT.out] at HCL
        simp at HCL; omega
      unfold ncells at TC
      clear nv1 cl1 hX1 hlt hbw hpx HCL
      by_cases h0 : i = 0
      · have E : Hid (S ++ px = t ++ [40] ++ Ps.commas ((Ps.prs ks).take (i + 1))) := Lib.hid (by rw [HCT.out, if_pos h0, HS.out, h0]; simp [Ps.commas])
        have hnp : ¬ (0 : Int) < (i : Int) := by omega
        have hnp2 : ¬ 0 < i := by omega
        clear h0 HCT
        go_wp2_with fail
        refine TC.out.mono ?_
        rintro e W4 ⟨rfl, hb4⟩
        have B4 := Lib.hid (bstep HBI.out hb4)
        clear hb4 TC y0 y1 y2 y3 y4 y5
        go_wp2_with fail
        all_goals try (exfalso; omega)
        go_roundg (kn - i)
        case measure => omega
        case rel => exact ⟨i + 1, S ++ px, by omega, by omega, by simp, by rw [tx_add], E, B4⟩
      · have E : Hid (S ++ [44, 32] ++ px = t ++ [40] ++ Ps.commas ((Ps.prs ks).take (i + 1))) := Lib.hid (by rw [HCT.out, if_neg h0, HS.out]; simp)
        have hpos : (0 : Int) < (i : Int) := by omega
        have hpos2 : 0 < i := by omega
        clear h0 HCT
        go_wp2_with fail
        all_goals try (exfalso; omega)
        refine TC.out.mono ?_
        rintro e W4 ⟨rfl, hb4⟩
        have B4 := Lib.hid (bstep HBI.out hb4)
        clear hb4 TC y0 y1 y2 y3 y4 y5
        go_wp2_with fail
        all_goals try (exfalso; omega)
        go_roundg (kn - i)
        case measure => omega
        case rel => exact ⟨i + 1, S ++ [44, 32] ++ px, by omega, by omega, by simp, by rw [← tx_add, ← tx_add], E, B4⟩
    · have hik : i = kn := by omega
      subst hik
      have hlt' : ¬ (i : Int) < (i : Int) := by omega
      have EA : Hid (tx S ++ tx [41] = tx R) := Lib.hid (by
        have h1 : (Ps.prs ks).take i = Ps.prs ks := by rw [prs_map]; exact List.take_of_length_le (by simp; have := HKN.out; omega)
        rw [← HR.out, tx_add, HS.out, h1])
      clear hlt
      go_wp2_with fail
      all_goals try (exfalso; omega)
      go_ret
      exact ⟨congrArg (fun z => Ending.returned (Value.string z)) EA.out, bstep B0.out HBI.out⟩
theorem mark_or {t : List UInt8} (h : Ex.lev t ≠ 0) : ((t == [111, 114]) = true ∧ Ps.mlev t = 0) ∨ ((t == [111, 114]) = false ∧ (t == [97, 110, 100]) = true ∧ Ps.mlev t = 1) ∨ ((t == [111, 114]) = false ∧ (t == [97, 110, 100]) = false ∧ 3 ≤ Ps.mlev t ∧ Ps.mlev t ≤ 5) := by
  have hm := Ps.marks t h
  simp only [List.mem_cons, List.not_mem_nil, or_false] at hm
  rcases hm with rfl | rfl | rfl | rfl | rfl | rfl | rfl | rfl | rfl | rfl | rfl | rfl | rfl | rfl
  · exact .inl (by decide)
  · exact .inr (.inl (by decide))
  all_goals exact .inr (.inr (by decide))
theorem ref_all : ∀ (k : Nat) (T : Tree), Ex.count T ≤ k → Ex.count T ≤ 1000000 → Ex.ones nodeB T = true → rngT T = true → RefC T
  | 0, T, h, _, _, _ => by have := Ex.count_pos T; omega
  | k + 1, .node op t vk vn vs ks, h, hM, h1, h2 => by
    obtain ⟨g1, g2⟩ := node_cases h1
    have hr : rngN op t vk vn vs ks.length = true ∧ Ex.oness rngN ks = true := by
      have := h2
      rw [rngT, Ex.ones, Bool.and_eq_true] at this
      exact this
    have hf : Fits vn := by have := hr.1; simpa [rngN, Fits] using this
    have hlen := (pr_len _ _ (Nat.le_refl _) h1 h2).1
    rw [Ex.count] at h
    have hcn : ∀ x ∈ ks, Ex.count x ≤ k ∧ Ex.count x ≤ 1000000 := fun x hx => by have := counts_mem hx; rw [Ex.count] at hM; omega
    have IH : ∀ x ∈ ks, RefC x := fun x hx => ref_all k x (hcn x hx).1 (hcn x hx).2 (oness_mem g1 hx) (oness_mem hr.2 hx)
    have IL : ∀ x ∈ ks, (Ps.pr x).length ≤ 1000000000 := fun x hx => by
      have := (pr_len _ x (Nat.le_refl _) (oness_mem g1 hx) (oness_mem hr.2 hx)).1
      have := (hcn x hx).2
      omega
    rcases g2 with ⟨rfl, rfl, e1, rfl⟩ | ⟨rfl, e1, rfl, rfl, rfl, rfl⟩ | ⟨e0, rfl, rfl, rfl, rfl, x, rfl⟩ | ⟨rfl, e1, rfl, rfl, rfl, x, y, rfl⟩ | ⟨rfl, e1, rfl, rfl, rfl⟩
    · exact ref_val e1 hf
    · exact ref_name
    · have hx := oness_mem g1 (List.mem_singleton.2 rfl : x ∈ [x])
      rcases e0 with rfl | rfl
      · refine ref_neg (IH x (by simp)) (IL x (by simp)) fun o t1 k1 n1 s1 l1 hX => ?_
        subst hX
        obtain ⟨-, q⟩ := node_cases hx
        rcases q with ⟨rfl, -⟩ | ⟨rfl, -⟩ | ⟨rfl | rfl, -⟩ | ⟨rfl, e, -⟩ | ⟨rfl, -⟩
        · exact .inr ⟨⟨rfl, rfl⟩, by simp [Ps.slev]⟩
        · exact .inr ⟨⟨rfl, rfl⟩, by simp [Ps.slev]⟩
        · exact .inr ⟨⟨rfl, rfl⟩, by simp [Ps.slev]⟩
        · exact .inl ⟨.inl rfl, by simp [Ps.slev]⟩
        · refine .inl ⟨.inr ⟨rfl, rfl⟩, ?_⟩
          have : Ps.slev (.node 5 t1 k1 n1 s1 l1) = Ps.mlev t1 := by simp [Ps.slev]
          rw [this]
          rcases mark_or e with h | h | h <;> omega
        · exact .inr ⟨⟨rfl, rfl⟩, by simp [Ps.slev]⟩
      · refine ref_not (IH x (by simp)) (IL x (by simp)) fun o t1 k1 n1 s1 l1 hX => ?_
        subst hX
        obtain ⟨-, q⟩ := node_cases hx
        rcases q with ⟨rfl, -⟩ | ⟨rfl, -⟩ | ⟨rfl | rfl, -⟩ | ⟨rfl, e, -⟩ | ⟨rfl, -⟩
        · exact .inr (.inr (.inr ⟨rfl, by simp [Ps.slev]⟩))
        · exact .inr (.inr (.inr ⟨rfl, by simp [Ps.slev]⟩))
        · exact .inr (.inr (.inr ⟨rfl, by simp [Ps.slev]⟩))
        · exact .inr (.inr (.inr ⟨rfl, by simp [Ps.slev]⟩))
        · have : Ps.slev (.node 5 t1 k1 n1 s1 l1) = Ps.mlev t1 := by simp [Ps.slev]
          rw [this]
          rcases mark_or e with ⟨h, h'⟩ | ⟨h, h', h''⟩ | ⟨h, h', h'', -⟩
          · exact .inl ⟨⟨rfl, h⟩, by omega⟩
          · exact .inr (.inl ⟨⟨rfl, h, h'⟩, by omega⟩)
          · exact .inr (.inr (.inl ⟨⟨rfl, h, h'⟩, by omega⟩))
        · exact .inr (.inr (.inr ⟨rfl, by simp [Ps.slev]⟩))
    · exact ref_bin (IH x (by simp)) (IH y (by simp)) (IL x (by simp)) (IL y (by simp)) (mark_len2 e1)
    · refine ref_call IH ?_ (by omega)
      have := Ex.length_counts ks
      rw [Ex.count] at hM
      omega
theorem refPrint_any (T : Tree) (v : Value) (w : World) (h : NodeV w v T) (hM : Ex.count T ≤ 1000000) (h1 : Ex.ones nodeB T = true) (h2 : rngT T = true) :
    Calls Tryz.prog 13 #[v] w fun e w' => e = .returned (.string (tx (Ps.pr T))) ∧ Below w.heap.size w w' := ref_all _ T (Nat.le_refl _) hM h1 h2 w v h
end Go.Proofs.YthcfdggdippocaaGreatDoor
