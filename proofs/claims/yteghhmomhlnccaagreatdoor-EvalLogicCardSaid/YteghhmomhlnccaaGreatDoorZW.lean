import Derived.Test.YteghhmomhlnccaaGreatDoorZI
import Derived.Test.YteghhmomhlnccaaGreatDoorZGQA
import Derived.Test.YteghhmomhlnccaaGreatDoorZKT

namespace Go.Proofs.YteghhmomhlnccaaGreatDoor
open Go.Lib
set_option linter.unusedVariables false
set_option linter.unusedSimpArgs false
set_option maxRecDepth 100000
open Ex (Tree)
namespace Ev
abbrev nmT (c : UInt8) : Tree := .node 2 [c] 0 0 [] []
abbrev notT (x : Tree) : Tree := .node 4 [] 0 0 [] [x]
abbrev lgOr : Tree := opT [111, 114] (nmT 97) (nmT 98)
abbrev lgAnd : Tree := opT [97, 110, 100] (nmT 97) (nmT 98)
abbrev lgNor : Tree := notT (opT [97, 110, 100] (notT (nmT 97)) (notT (nmT 98)))
abbrev lgLazy : Tree := opT [111, 114] (nmT 97) (opT [61] (opT [47] (.node 1 [] 1 1 [] []) (.node 1 [] 1 0 [] [])) (nmT 110))
abbrev lgC : List Col := [([97], 3), ([98], 3), ([110], 1)]
theorem lgOr_parse : Ps.parse [97, 32, 111, 114, 32, 98] = .ok lgOr 3 := by kernel_rfl
theorem lgAnd_parse : Ps.parse [97, 32, 97, 110, 100, 32, 98] = .ok lgAnd 3 := by kernel_rfl
theorem lgNor_parse : Ps.parse [110, 111, 116, 32, 40, 110, 111, 116, 32, 97, 32, 97, 110, 100, 32, 110, 111, 116, 32, 98, 41] = .ok lgNor 8 := by kernel_rfl
theorem lgLazy_parse : Ps.parse [97, 32, 111, 114, 32, 49, 32, 47, 32, 48, 32, 61, 32, 110] = .ok lgLazy 7 := by kernel_rfl
theorem lgOr_right : Ex.rightB nodeB lgOr = true := by kernel_rfl
theorem lgAnd_right : Ex.rightB nodeB lgAnd = true := by kernel_rfl
theorem lgNor_right : Ex.rightB nodeB lgNor = true := by kernel_rfl
theorem lgLazy_right : Ex.rightB nodeB lgLazy = true := by kernel_rfl
/-- null, false, true. -/
def Tr (x : V) : Prop := x = z ∨ x = ⟨3, 0, []⟩ ∨ x = ⟨3, 1, []⟩
theorem lg_or {x y : V} (hx : Tr x) (hy : Tr y) (n : Int) : ev lgC [x, y, ⟨1, n, []⟩] lgOr = ok (if x.n = 1 ∨ x.k = 0 ∧ y.n = 0 then x else y) := by
  rcases hx with rfl | rfl | rfl <;> rcases hy with rfl | rfl | rfl <;> rfl
theorem lg_and {x y : V} (hx : Tr x) (hy : Tr y) (n : Int) : ev lgC [x, y, ⟨1, n, []⟩] lgAnd = ok (if x.k = 3 ∧ x.n = 0 ∨ x.k = 0 ∧ (y.k = 0 ∨ y.n = 1) then x else y) := by
  rcases hx with rfl | rfl | rfl <;> rcases hy with rfl | rfl | rfl <;> rfl
theorem lg_nor {x y : V} (hx : Tr x) (hy : Tr y) (n : Int) : ev lgC [x, y, ⟨1, n, []⟩] lgNor = ok (if x.n = 1 ∨ x.k = 0 ∧ y.n = 0 then x else y) := by
  rcases hx with rfl | rfl | rfl <;> rcases hy with rfl | rfl | rfl <;> rfl
theorem lg_lazy {x y : V} (hx : Tr x) (hy : Tr y) (n : Int) : ev lgC [x, y, ⟨1, n, []⟩] lgLazy = if x.n = 1 then ok x else err 5 := by
  rcases hx with rfl | rfl | rfl <;> rcases hy with rfl | rfl | rfl <;> rfl
end Ev
end Go.Proofs.YteghhmomhlnccaaGreatDoor


/- EvalLogic: ask. -/

namespace Go.Proofs.YteghhmomhlnccaaGreatDoor
open Go.RowKit Go.Lib
set_option linter.unusedVariables false
set_option linter.unusedSimpArgs false
set_option maxRecDepth 100000
attribute [local go_sem ↓] eqVal neqVal
open Ex (Tree)
open Ev (V R Pl)
set_option maxHeartbeats 2000000 in
theorem ask_any (s : ByteArray) {T : Tree} {j : Nat} (hp : Ps.parse s.data.toList = .ok T j) (hfit : fitT T) (hcn : Ex.count T ≤ 1000000) (hg : Ex.ones rngN T = true) (C : List Col) (L : List V) (A AL : Option Addr) (c cl : Nat) (w : World) (hA : ColsAt w A C) (hF : fitC C) (hV : ValsAt w AL L) (hFV : fitV L) (hC : C.length ≤ 1000000) (hL : L.length ≤ 1000000) (hix : Kd.ix C [97] = some 0) (a : Addr) (mx : Int) (hv : Env w a mx) :
    Calls Tryz.prog 20 #[.string s, .slice A C.length c, .slice AL L.length cl] w fun e w' => e = .returned (outR (Ev.evalR C L T)) ∧ Below w.heap.size w w' := by
  have b0 := (Below.refl w.heap.size w).alloc (Nat.le_refl _) (.cells #[.int .i64 0, .int .i64 0, .string ⟨#[]⟩] 23)
  have r0 := Row3.new w 0 0 ⟨#[]⟩
  obtain ⟨W1, hW1⟩ : ∃ W1, w.alloc (.cells #[.int .i64 0, .int .i64 0, .string ⟨#[]⟩] 23) = W1 := ⟨_, rfl⟩
  rw [hW1] at b0 r0
  have PA := parse_any s W1 a mx (hv.below b0)
  rw [hp] at PA
  have HPA := Lib.hid PA
  have EVA := Lib.hid (fun (U : World) (hU : Below w.heap.size w U) v (hn : NodeV U v T) => eval_any C L A AL c cl T v U (hA.below hU) hF (hV.below hU) hFV hC hL a mx (hv.below hU) hn hfit hcn hg)
  have FI := Lib.hid (fun (U : World) (hU : Below w.heap.size w U) => refFind_any C [97] A c U (hA.below hU) hC)
  rw [hix, show Kd.ixV (some 0) = (0 : Nat) from rfl] at FI
  have B0 := Lib.hid b0
  have R0 := Lib.hid r0
  obtain ⟨RES, hres⟩ : ∃ RES, Ev.evalR C L T = RES := ⟨_, rfl⟩
  rw [hres] at EVA ⊢
  obtain ⟨⟨rk, rn, rs⟩, re_⟩ := RES
  unfold outR vv vcells at EVA
  dsimp only at EVA
  clear hp hfit hcn hg hA hF hV hFV hC hL hix hv PA b0 r0 hres
  generalize C.length = cn at *
  generalize L.length = ln at *
  cases T with
  | node op t vk vn vs ks =>
  generalize hkn : ks.length = kn at *
  go_enter Tryz.func20, Tryz.ntmps20
  go_wp2_with fail
  refine HPA.out.mono ?_
  rintro e W2 ⟨u, rfl, ⟨A2, c2, rfl, hc2, hk2⟩, hb⟩
  rw [hkn] at hc2 ⊢
  have b3 : Below W2.heap.size W2 ((W2.alloc (.cells (ncells op t vk vn vs A2 kn c2) 26)).alloc (.cells #[.int .i64 0, .int .i64 0] 54)) := ((Below.refl _ _).alloc (Nat.le_refl _) _).alloc (by simp) _
  have k0 := (Whole.new W2 26 (ncells op t vk vn vs A2 kn c2)).alloc (.cells #[.int .i64 0, .int .i64 0] 54)
  have k1 := Whole.new (W2.alloc (.cells (ncells op t vk vn vs A2 kn c2) 26)) 54 #[.int .i64 0, .int .i64 0]
  simp only [World.size_alloc] at k1
  have nv : NodeV ((W2.alloc (.cells (ncells op t vk vn vs A2 kn c2) 26)).alloc (.cells #[.int .i64 0, .int .i64 0] 54)) (.agg (ncells op t vk vn vs A2 kn c2)) (.node op t vk vn vs ks) := ⟨A2, c2, by rw [hkn], by rw [hkn]; exact hc2, (hk2.below b3).at⟩
  have r3 := (R0.out.below hb R0.out.lt).below b3 (R0.out.below hb R0.out.lt).lt
  have bb := bstep (bstep B0.out hb) b3
  have HEV := Lib.hid (EVA.out _ bb _ nv)
  have HFI := Lib.hid (FI.out _ bb)
  unfold ncells at *
  have B3 := Lib.hid bb
  have R3 := Lib.hid r3
  obtain ⟨x0, x1, x2, x3, x4, x5⟩ := six_of k0
  have y0 := k1.cell 0
  simp only [List.getElem?_toArray, List.getElem?_cons_zero] at y0
  clear b3 k0 k1 nv r3 bb hb hk2 hc2 EVA FI HPA hkn
  go_wp2_with fail
  refine HFI.out.mono ?_
  rintro e W4 ⟨rfl, hw4⟩
  rw [← hw4] at HEV B3 R3 x0 x1 x2 x3 x4 x5 y0
  clear hw4
  go_wp2_with fail
  refine HEV.out.mono ?_
  rintro e W5 ⟨rfl, hb5⟩
  have R5 := Lib.hid (R3.out.below hb5 R3.out.lt)
  have B5 := Lib.hid (bstep B3.out hb5)
  clear hb5 x0 x1 x2 x3 x4 x5 y0
  obtain ⟨d0, d1, d2⟩ := R5.out.holds
  have f0 := R5.out.frozen 0
  have f1 := R5.out.frozen 1
  have f2 := R5.out.frozen 2
  go_wp2_with fail
  exact fin_R (r := ⟨⟨rk, rn, rs⟩, re_⟩) Tryz.results20 rfl rfl rfl R5.out B5.out (Nat.le_refl _) rfl
end Go.Proofs.YteghhmomhlnccaaGreatDoor


/- EvalLogic. -/

namespace Go.Proofs.YteghhmomhlnccaaGreatDoor
open Go.RowKit Go.Lib
set_option linter.unusedVariables false
set_option linter.unusedSimpArgs false
set_option maxRecDepth 100000
attribute [local go_sem ↓] eqVal neqVal
open Ex (Tree)
open Ev (V R Pl)
abbrev truths : List V := [Ev.z, ⟨3, 0, []⟩, ⟨3, 1, []⟩]
theorem truths_is {k : Nat} (h : k < truths.length) : Ev.Tr truths[k] := by
  match k, h with
  | 0, _ => exact .inl rfl
  | 1, _ => exact .inr (.inl rfl)
  | 2, _ => exact .inr (.inr rfl)
theorem pick_u8 {n : Int} (h : (Lit.int .u8 n).wf = true) : ∃ k : Nat, k < 3 ∧ IntKind.u8.wrap (n.tmod 3) = (k : Nat) ∧ n.tmod 3 = (k : Nat) := by
  have b := bounds_u8 h
  have e : n.tmod 3 = n % 3 := Int.tmod_eq_emod_of_nonneg b.1
  refine ⟨(n % 3).toNat, by omega, ?_, by rw [e]; omega⟩
  rw [e]
  simp [IntKind.wrap, IntKind.bits, IntKind.signed]
  omega
theorem lg_row {x y : V} (hx : Ev.Tr x) (hy : Ev.Tr y) (n : Int) : Ev.rowB Ev.lgC [x, y, ⟨1, n, []⟩] = true := by
  have hp : plainB 1 n (tx []) = true := plainB_iff.2 (.inr (.inl ⟨rfl, rfl⟩))
  have hg : Kd.goodB Ev.lgC = true := by kernel_rfl
  have hpt : ∀ v : V, Ev.Tr v → plainB v.k v.n (tx v.s) = true := fun v hv => by rcases hv with rfl | rfl | rfl <;> kernel_rfl
  have ha : Ev.areB [x, y, ⟨1, n, []⟩] (Ev.lgC.map (·.2)) = true := by rcases hx with rfl | rfl | rfl <;> rcases hy with rfl | rfl | rfl <;> rfl
  rw [Ev.rowB, hg, ha]
  simp [hpt x hx, hpt y hy, hp]
theorem lg_eval {x y : V} (hx : Ev.Tr x) (hy : Ev.Tr y) (n : Int) {T : Tree} (hr : Ex.rightB nodeB T = true) : Ev.evalR Ev.lgC [x, y, ⟨1, n, []⟩] T = Ev.ev Ev.lgC [x, y, ⟨1, n, []⟩] T := by
  rw [Ev.evalR, if_pos ⟨hr, lg_row hx hy n⟩]
/-- another block stays. -/
theorem row3_other {w : World} {g g2 : Nat} {k n : Int} {s : ByteArray} (h : Row3 w g2 k n s) (hne : g ≠ g2) (a b c : Value) : Row3 (((w.setCell ⟨g, 0, none⟩ a).setCell ⟨g, 1, none⟩ b).setCell ⟨g, 2, none⟩ c) g2 k n s := by
  have e : ∀ (W : World) (i : Nat) (v : Value), (W.setCell ⟨g, i, none⟩ v).heap[g2]? = W.heap[g2]? := fun W i v => heap_setCell_other W ⟨g, i, none⟩ g2 v (fun h => hne h.symm)
  unfold Row3 at *
  rw [e, e, e]; exact h
/-- three values in a block. -/
theorem vals_three {w : World} {g : Nat} {x y u : V} (h : Whole w g 23 #[.int .i64 x.k, .int .i64 x.n, .string (tx x.s), .int .i64 y.k, .int .i64 y.n, .string (tx y.s), .int .i64 u.k, .int .i64 u.n, .string (tx u.s)]) : ValsAt w (some ⟨g, 0, none⟩) [x, y, u] :=
  ValsAt.of_cells h.lt (fun j v hv => by rw [Nat.zero_add, h.cell, ← hv]; simp [valCells])
theorem cols_three {w : World} {g : Nat} (h : Whole w g 45 #[.string (tx [97]), .int .i64 3, .string (tx [98]), .int .i64 3, .string (tx [110]), .int .i64 1]) : ColsAt w (some ⟨g, 0, none⟩) Ev.lgC := fun i hi => by
  have hi' : i = 0 ∨ i = 1 ∨ i = 2 := by simp at hi; omega
  rcases hi' with rfl | rfl | rfl
  · exact ⟨_, _, rfl, h.lt, by rw [h.cell]; rfl, by rw [h.cell]; rfl⟩
  · exact ⟨_, _, rfl, h.lt, by rw [h.cell]; rfl, by rw [h.cell]; rfl⟩
  · exact ⟨_, _, rfl, h.lt, by rw [h.cell]; rfl, by rw [h.cell]; rfl⟩
set_option maxHeartbeats 1000000 in
theorem logic16_any (n0 n1 n2 : Int) (w : World) (w0 : (Lit.int .u8 n0).wf = true) (w1 : (Lit.int .u8 n1).wf = true) (w2 : (Lit.int .i64 n2).wf = true) (a : Addr) (m : Int) (hv : Env w a m) :
    Calls Tryz.prog 6 #[.int .u8 n0, .int .u8 n1, .int .i64 n2] w fun e w' => e = .returned (.bool true) ∧ Below w.heap.size w w' := by
  obtain ⟨ka, hka, hwa, hta⟩ := pick_u8 w0
  obtain ⟨kb, hkb, hwb, htb⟩ := pick_u8 w1
  have hb2 := bounds_i64 w2
  have AW := Lib.hid (awake16_any w a m hv)
  have HV := Lib.hid hv
  have HF2 : Hid (Fits n2) := Lib.hid (by unfold Fits; omega)
  clear hv w0 w1 w2 hb2
  go_enter Tryz.func6, Tryz.ntmps6
  go_wp2_with fail
  refine AW.out.mono ?_
  rintro e W1 ⟨rfl, hb⟩
  have B1 := Lib.hid hb
  clear hb AW
  have k3 := Whole.new W1 23 #[.int .i64 0, .int .i64 0, .string (tx []), .int .i64 3, .int .i64 0, .string (tx []), .int .i64 3, .int .i64 1, .string (tx [])]
  have b3 := (Below.refl W1.heap.size W1).alloc (Nat.le_refl _) (.cells #[.int .i64 0, .int .i64 0, .string (tx []), .int .i64 3, .int .i64 0, .string (tx []), .int .i64 3, .int .i64 1, .string (tx [])] 23)
  obtain ⟨W3, hW3⟩ : ∃ W3, W1.alloc (.cells #[.int .i64 0, .int .i64 0, .string (tx []), .int .i64 3, .int .i64 0, .string (tx []), .int .i64 3, .int .i64 1, .string (tx [])] 23) = W3 := ⟨_, rfl⟩
  rw [hW3] at k3 b3
  have VT : ValsAt W3 (some ⟨W1.heap.size, 0, none⟩) truths := vals_three (x := Ev.z) (y := ⟨3, 0, []⟩) (u := ⟨3, 1, []⟩) k3
  have hla : ka < truths.length := hka
  have hlb : kb < truths.length := hkb
  have HTX := Lib.hid (truths_is hla)
  have HTY := Lib.hid (truths_is hlb)
  obtain ⟨x, hx⟩ : ∃ x, truths[ka] = x := ⟨_, rfl⟩
  obtain ⟨y, hy⟩ : ∃ y, truths[kb] = y := ⟨_, rfl⟩
  have HXX : Hid (∃ xs_, tx x.s = xs_) := Lib.hid ⟨_, rfl⟩
  rw [hx] at HTX
  rw [hy] at HTY
  obtain ⟨xk, hxk⟩ : ∃ q, x.k = q := ⟨_, rfl⟩
  obtain ⟨xn, hxn⟩ : ∃ q, x.n = q := ⟨_, rfl⟩
  obtain ⟨xs, hxs⟩ : ∃ q, tx x.s = q := ⟨_, rfl⟩
  obtain ⟨yk, hyk⟩ : ∃ q, y.k = q := ⟨_, rfl⟩
  obtain ⟨yn, hyn⟩ : ∃ q, y.n = q := ⟨_, rfl⟩
  obtain ⟨ys, hys⟩ : ∃ q, tx y.s = q := ⟨_, rfl⟩
  have HXE := Lib.hid (And.intro hxk (And.intro hxn hxs))
  have HYE := Lib.hid (And.intro hyk (And.intro hyn hys))
  have KK : Hid (∀ U, BW W3 U → U.cell? ⟨W1.heap.size, ka * 3, none⟩ = some (.int .i64 xk) ∧ U.cell? ⟨W1.heap.size, ka * 3 + 1, none⟩ = some (.int .i64 xn) ∧ U.cell? ⟨W1.heap.size, ka * 3 + 2, none⟩ = some (.string xs) ∧ U.cell? ⟨W1.heap.size, kb * 3, none⟩ = some (.int .i64 yk) ∧ U.cell? ⟨W1.heap.size, kb * 3 + 1, none⟩ = some (.int .i64 yn) ∧ U.cell? ⟨W1.heap.size, kb * 3 + 2, none⟩ = some (.string ys)) := Lib.hid (fun U hU => by
    obtain ⟨b, o, e, -, h1, h2, h3⟩ := (VT.below hU) ka hla
    cases e
    obtain ⟨b, o, e, -, h4, h5, h6⟩ := (VT.below hU) kb hlb
    cases e
    rw [hx, hxk] at h1
    rw [hx, hxn] at h2
    rw [hx, hxs] at h3
    rw [hy, hyk] at h4
    rw [hy, hyn] at h5
    rw [hy, hys] at h6
    simp only [Nat.zero_add] at h1 h2 h3 h4 h5 h6
    exact ⟨h1, h2, h3, h4, h5, h6⟩)
  have B3 := Lib.hid (bstep B1.out b3)
  have hka3 : (ka : Int) < 3 := by omega
  have hkb3 : (kb : Int) < 3 := by omega
  clear hla hlb hx hy hxk hxn hxs hyk hyn hys VT k3 b3 HXX
  go_upto_region 4 with fail
  go_cut [8, 9] from 28 to 37 (fun s8 s9 wc => ∃ g8 g9, s8 = .pointer (some ⟨g8, 0, none⟩) ∧ s9 = .pointer (some ⟨g9, 0, none⟩) ∧ Hid (Row3 wc g8 xk xn xs) ∧ Hid (Row3 wc g9 yk yn ys) ∧ Hid (BW W3 wc))
  case first =>
    have QD : Hid (BW W3 W3.drew) := Lib.hid (Below.refl _ _).drew
    refine wp_region_held_drew (S := fun U => BW W3 U) (by kernel_rfl) QD.out (fun _ => ?_)
    refine wpAnyH_take (i := 0) (oi := { dst := some 28, op := Op.move (Operand.tmp 7), type := 28, pos := "law.go:109", after := #[], guard := none }) (v := ?_) rfl (by kernel_rfl) (by kernel_rfl) (by kernel_rfl) (fun _ _ _ h => h) (Or.inl ⟨by rfl, ?_⟩) QD.out ?_
    rotate_left
    · (intro W hw; go_simp; try with_reducible rfl)
    simp only [Act.put, List.setIfInBounds_toArray, List.set_cons_zero, List.set_cons_succ]
    refine wpAnyH_take (i := 1) (oi := { dst := some 29, op := Op.move (Operand.tmp 0), type := 5, pos := "law.go:109", after := #[], guard := none }) (v := ?_) rfl (by kernel_rfl) (by kernel_rfl) (by kernel_rfl) (fun _ _ _ h => h) (Or.inl ⟨by rfl, ?_⟩) QD.out ?_
    rotate_left
    · (intro W hw; go_simp; try with_reducible rfl)
    simp only [Act.put, List.setIfInBounds_toArray, List.set_cons_zero, List.set_cons_succ]
    refine wpAnyH_take (i := 2) (oi := { dst := some 30, op := Op.binOp BinOp.rem 5 (Operand.tmp 29) (Operand.const (Value.int IntKind.u8 3)) 5, type := 5, pos := "law.go:109", after := #[{ on := 1, ground := Ground.data }], guard := none }) (v := ?_) rfl (by kernel_rfl) (by kernel_rfl) (by kernel_rfl) (fun _ _ _ h => h) (Or.inl ⟨by rfl, ?_⟩) QD.out ?_
    rotate_left
    · (intro W hw; go_simp; try with_reducible rfl)
    simp only [Act.put, List.setIfInBounds_toArray, List.set_cons_zero, List.set_cons_succ]
    refine wpAnyH_take (i := 3) (oi := { dst := some 31, op := Op.indexAddr 28 (Operand.tmp 28) (Operand.tmp 30), type := 0, pos := "law.go:109", after := #[{ on := 0, ground := Ground.data }, { on := 2, ground := Ground.data }], guard := none }) (v := ?_) rfl (by kernel_rfl) (by kernel_rfl) (by kernel_rfl) (fun _ _ _ h => h) (Or.inl ⟨by rfl, ?_⟩) QD.out ?_
    rotate_left
    · (intro W hw; go_simp; try with_reducible rfl)
    simp only [Act.put, List.setIfInBounds_toArray, List.set_cons_zero, List.set_cons_succ]
    refine wpAnyH_take (i := 4) (oi := { dst := some 32, op := Op.load 23 (Operand.tmp 31), type := 23, pos := "law.go:109", after := #[{ on := 3, ground := Ground.data }], guard := none }) (v := ?_) rfl (by kernel_rfl) (by kernel_rfl) (by kernel_rfl) (fun _ _ _ h => h) (Or.inl ⟨by rfl, ?_⟩) QD.out ?_
    rotate_left
    · (intro W hw; obtain ⟨p0, p1, p2, p3, p4, p5⟩ := KK.out W hw; go_simp; try with_reducible rfl)
    simp only [Act.put, List.setIfInBounds_toArray, List.set_cons_zero, List.set_cons_succ]
    refine wpAnyH_take (i := 5) (oi := { dst := some 33, op := Op.move (Operand.tmp 7), type := 28, pos := "law.go:109", after := #[{ on := 12, ground := Ground.gcOnly Departure.lateStores }], guard := none }) (v := ?_) rfl (by kernel_rfl) (by kernel_rfl) (by kernel_rfl) (fun _ _ _ h => h) (Or.inl ⟨by rfl, ?_⟩) QD.out ?_
    rotate_left
    · (intro W hw; go_simp; try with_reducible rfl)
    simp only [Act.put, List.setIfInBounds_toArray, List.set_cons_zero, List.set_cons_succ]
    refine wpAnyH_take (i := 6) (oi := { dst := some 34, op := Op.move (Operand.tmp 1), type := 5, pos := "law.go:109", after := #[{ on := 12, ground := Ground.gcOnly Departure.lateStores }], guard := none }) (v := ?_) rfl (by kernel_rfl) (by kernel_rfl) (by kernel_rfl) (fun _ _ _ h => h) (Or.inl ⟨by rfl, ?_⟩) QD.out ?_
    rotate_left
    · (intro W hw; go_simp; try with_reducible rfl)
    simp only [Act.put, List.setIfInBounds_toArray, List.set_cons_zero, List.set_cons_succ]
    refine wpAnyH_take (i := 7) (oi := { dst := some 35, op := Op.binOp BinOp.rem 5 (Operand.tmp 34) (Operand.const (Value.int IntKind.u8 3)) 5, type := 5, pos := "law.go:109", after := #[{ on := 6, ground := Ground.data }, { on := 12, ground := Ground.gcOnly Departure.lateStores }], guard := none }) (v := ?_) rfl (by kernel_rfl) (by kernel_rfl) (by kernel_rfl) (fun _ _ _ h => h) (Or.inl ⟨by rfl, ?_⟩) QD.out ?_
    rotate_left
    · (intro W hw; go_simp; try with_reducible rfl)
    simp only [Act.put, List.setIfInBounds_toArray, List.set_cons_zero, List.set_cons_succ]
    refine wpAnyH_take (i := 8) (oi := { dst := some 36, op := Op.indexAddr 28 (Operand.tmp 33) (Operand.tmp 35), type := 0, pos := "law.go:109", after := #[{ on := 5, ground := Ground.data }, { on := 7, ground := Ground.data }, { on := 12, ground := Ground.gcOnly Departure.lateStores }], guard := none }) (v := ?_) rfl (by kernel_rfl) (by kernel_rfl) (by kernel_rfl) (fun _ _ _ h => h) (Or.inl ⟨by rfl, ?_⟩) QD.out ?_
    rotate_left
    · (intro W hw; go_simp; try with_reducible rfl)
    simp only [Act.put, List.setIfInBounds_toArray, List.set_cons_zero, List.set_cons_succ]
    refine wpAnyH_take (i := 9) (oi := { dst := some 37, op := Op.load 23 (Operand.tmp 36), type := 23, pos := "law.go:109", after := #[{ on := 8, ground := Ground.data }, { on := 12, ground := Ground.gcOnly Departure.lateStores }], guard := none }) (v := ?_) rfl (by kernel_rfl) (by kernel_rfl) (by kernel_rfl) (fun _ _ _ h => h) (Or.inl ⟨by rfl, ?_⟩) QD.out ?_
    rotate_left
    · (intro W hw; obtain ⟨p0, p1, p2, p3, p4, p5⟩ := KK.out W hw; go_simp; try with_reducible rfl)
    simp only [Act.put, List.setIfInBounds_toArray, List.set_cons_zero, List.set_cons_succ]
    refine wpAnyH_ready (rs := [10, 11]) (by kernel_rfl) (by simp) ?_
    refine (AllReadyH.cons (o := { dst := some 8, op := Op.alloc 23, type := 0, pos := "law.go:109", after := #[], guard := none }) rfl (fun K hK => ?_) (AllReadyH.cons (o := { dst := some 9, op := Op.alloc 23, type := 0, pos := "law.go:109", after := #[], guard := none }) rfl (fun K hK => ?_) AllReadyH.nil))
    ·
      go_simp
      have QA1 := Lib.hid (QD.out.alloc (.cells #[.int .i64 0, .int .i64 0, .string ⟨#[]⟩] 23))
      refine hK.out _ _ QA1.out (fun _ => ?_)
      clear hK K
      try simp only [Act.put, List.setIfInBounds_toArray, List.set_cons_zero, List.set_cons_succ]
      refine wpAnyH_ready (rs := [11]) (by kernel_rfl) (by simp) ?_
      refine (AllReadyH.cons (o := { dst := some 9, op := Op.alloc 23, type := 0, pos := "law.go:109", after := #[], guard := none }) rfl (fun K hK => ?_) AllReadyH.nil)
      go_simp
      have QA2 := Lib.hid (QA1.out.alloc (.cells #[.int .i64 0, .int .i64 0, .string ⟨#[]⟩] 23))
      refine hK.out _ _ QA2.out (fun _ => ?_)
      clear hK K
      try simp only [Act.put, List.setIfInBounds_toArray, List.set_cons_zero, List.set_cons_succ]
      have RA2 := Row3.new (W3.alloc (.cells #[.int .i64 0, .int .i64 0, .string ⟨#[]⟩] 23)) 0 0 ⟨#[]⟩
      have RB := (Row3.new W3 0 0 ⟨#[]⟩).alloc (.cells #[.int .i64 0, .int .i64 0, .string ⟨#[]⟩] 23)
      rw [World.size_alloc] at RA2
      obtain ⟨VB, hVB⟩ : ∃ VB, ((W3.alloc (.cells #[.int .i64 0, .int .i64 0, .string ⟨#[]⟩] 23)).alloc (.cells #[.int .i64 0, .int .i64 0, .string ⟨#[]⟩] 23)).drew = VB := ⟨_, rfl⟩
      replace RA2 : Row3 VB (W3.heap.size + 1) 0 0 ⟨#[]⟩ := by rw [← hVB]; exact RA2
      replace RB : Row3 VB W3.heap.size 0 0 ⟨#[]⟩ := by rw [← hVB]; exact RB
      have QB : Hid (BW W3 VB) := Lib.hid (by rw [← hVB]; exact QA2.out)
      rw [hVB]
      clear hVB QA1 QA2
      obtain ⟨z0, z1, z2⟩ := RA2.holds
      obtain ⟨z3, z4, z5⟩ := RB.holds
      have f0 := RA2.frozen 0
      have f1 := RA2.frozen 1
      have f2 := RA2.frozen 2
      have f3 := RB.frozen 0
      have f4 := RB.frozen 1
      have f5 := RB.frozen 2
      refine wpAnyH_ready (rs := [12]) (by kernel_rfl) (by simp) ?_
      refine (AllReadyH.cons (o := { dst := none, op := Op.store 23 (Operand.tmp 8) (Operand.tmp 32), type := 0, pos := "law.go:109", after := #[{ on := 10, ground := Ground.data }, { on := 4, ground := Ground.data }, { on := 0, ground := Ground.phase }, { on := 1, ground := Ground.phase }, { on := 2, ground := Ground.phase }, { on := 3, ground := Ground.phase }, { on := 4, ground := Ground.phase }, { on := 5, ground := Ground.textOnly Departure.lateStores }, { on := 6, ground := Ground.textOnly Departure.lateStores }, { on := 7, ground := Ground.textOnly Departure.lateStores }, { on := 8, ground := Ground.textOnly Departure.lateStores }, { on := 9, ground := Ground.textOnly Departure.lateStores }, { on := 10, ground := Ground.phase }, { on := 11, ground := Ground.phase }], guard := none }) rfl (fun K hK => ?_) AllReadyH.nil)
      go_simp
      have QS1 := Lib.hid (QB.out.set3 (g := W3.heap.size) (by omega) (.int .i64 xk) (.int .i64 xn) (.string xs))
      have FX := RB.set3 xk xn xs
      have FO := row3_other (g := W3.heap.size) (g2 := (W3.heap.size + 1)) RA2 (by omega) (.int .i64 xk) (.int .i64 xn) (.string xs)
      clear z0 z1 z2 z3 z4 z5 f0 f1 f2 f3 f4 f5
      obtain ⟨z0, z1, z2⟩ := FO.holds
      have f0 := FO.frozen 0
      have f1 := FO.frozen 1
      have f2 := FO.frozen 2
      refine hK.out _ _ QS1.out (fun _ => ?_)
      clear hK K
      try simp only [Act.put, List.setIfInBounds_toArray, List.set_cons_zero, List.set_cons_succ]
      refine wpAnyH_ready (rs := [13]) (by kernel_rfl) (by simp) ?_
      refine (AllReadyH.cons (o := { dst := none, op := Op.store 23 (Operand.tmp 9) (Operand.tmp 37), type := 0, pos := "law.go:109", after := #[{ on := 11, ground := Ground.data }, { on := 9, ground := Ground.data }, { on := 12, ground := Ground.chain }, { on := 0, ground := Ground.phase }, { on := 1, ground := Ground.phase }, { on := 2, ground := Ground.phase }, { on := 3, ground := Ground.phase }, { on := 4, ground := Ground.phase }, { on := 5, ground := Ground.phase }, { on := 6, ground := Ground.phase }, { on := 7, ground := Ground.phase }, { on := 8, ground := Ground.phase }, { on := 9, ground := Ground.phase }, { on := 10, ground := Ground.phase }, { on := 11, ground := Ground.phase }, { on := 12, ground := Ground.phase }], guard := none }) rfl (fun K hK => ?_) AllReadyH.nil)
      go_simp
      have QS2 := Lib.hid (QS1.out.set3 (g := (W3.heap.size + 1)) (by omega) (.int .i64 yk) (.int .i64 yn) (.string ys))
      have FY := FO.set3 yk yn ys
      have FX2 := row3_other (g := (W3.heap.size + 1)) (g2 := W3.heap.size) FX (by omega) (.int .i64 yk) (.int .i64 yn) (.string ys)
      refine hK.out _ _ QS2.out (fun _ => ?_)
      clear hK K
      try simp only [Act.put, List.setIfInBounds_toArray, List.set_cons_zero, List.set_cons_succ]
      refine wpAnyH_done (by kernel_rfl) ?_ _
      go_wp2_with fail
      go_meet
      case rel => exact ⟨_, _, rfl, rfl, Lib.hid FX2, Lib.hid FY, QS2⟩
    ·
      go_simp
      have QA1 := Lib.hid (QD.out.alloc (.cells #[.int .i64 0, .int .i64 0, .string ⟨#[]⟩] 23))
      refine hK.out _ _ QA1.out (fun _ => ?_)
      clear hK K
      try simp only [Act.put, List.setIfInBounds_toArray, List.set_cons_zero, List.set_cons_succ]
      refine wpAnyH_ready (rs := [10]) (by kernel_rfl) (by simp) ?_
      refine (AllReadyH.cons (o := { dst := some 8, op := Op.alloc 23, type := 0, pos := "law.go:109", after := #[], guard := none }) rfl (fun K hK => ?_) AllReadyH.nil)
      go_simp
      have QA2 := Lib.hid (QA1.out.alloc (.cells #[.int .i64 0, .int .i64 0, .string ⟨#[]⟩] 23))
      refine hK.out _ _ QA2.out (fun _ => ?_)
      clear hK K
      try simp only [Act.put, List.setIfInBounds_toArray, List.set_cons_zero, List.set_cons_succ]
      have RA2 := Row3.new (W3.alloc (.cells #[.int .i64 0, .int .i64 0, .string ⟨#[]⟩] 23)) 0 0 ⟨#[]⟩
      have RB := (Row3.new W3 0 0 ⟨#[]⟩).alloc (.cells #[.int .i64 0, .int .i64 0, .string ⟨#[]⟩] 23)
      rw [World.size_alloc] at RA2
      obtain ⟨VB, hVB⟩ : ∃ VB, ((W3.alloc (.cells #[.int .i64 0, .int .i64 0, .string ⟨#[]⟩] 23)).alloc (.cells #[.int .i64 0, .int .i64 0, .string ⟨#[]⟩] 23)).drew = VB := ⟨_, rfl⟩
      replace RA2 : Row3 VB (W3.heap.size + 1) 0 0 ⟨#[]⟩ := by rw [← hVB]; exact RA2
      replace RB : Row3 VB W3.heap.size 0 0 ⟨#[]⟩ := by rw [← hVB]; exact RB
      have QB : Hid (BW W3 VB) := Lib.hid (by rw [← hVB]; exact QA2.out)
      rw [hVB]
      clear hVB QA1 QA2
      obtain ⟨z0, z1, z2⟩ := RA2.holds
      obtain ⟨z3, z4, z5⟩ := RB.holds
      have f0 := RA2.frozen 0
      have f1 := RA2.frozen 1
      have f2 := RA2.frozen 2
      have f3 := RB.frozen 0
      have f4 := RB.frozen 1
      have f5 := RB.frozen 2
      refine wpAnyH_ready (rs := [12]) (by kernel_rfl) (by simp) ?_
      refine (AllReadyH.cons (o := { dst := none, op := Op.store 23 (Operand.tmp 8) (Operand.tmp 32), type := 0, pos := "law.go:109", after := #[{ on := 10, ground := Ground.data }, { on := 4, ground := Ground.data }, { on := 0, ground := Ground.phase }, { on := 1, ground := Ground.phase }, { on := 2, ground := Ground.phase }, { on := 3, ground := Ground.phase }, { on := 4, ground := Ground.phase }, { on := 5, ground := Ground.textOnly Departure.lateStores }, { on := 6, ground := Ground.textOnly Departure.lateStores }, { on := 7, ground := Ground.textOnly Departure.lateStores }, { on := 8, ground := Ground.textOnly Departure.lateStores }, { on := 9, ground := Ground.textOnly Departure.lateStores }, { on := 10, ground := Ground.phase }, { on := 11, ground := Ground.phase }], guard := none }) rfl (fun K hK => ?_) AllReadyH.nil)
      go_simp
      have QS1 := Lib.hid (QB.out.set3 (g := (W3.heap.size + 1)) (by omega) (.int .i64 xk) (.int .i64 xn) (.string xs))
      have FX := RA2.set3 xk xn xs
      have FO := row3_other (g := (W3.heap.size + 1)) (g2 := W3.heap.size) RB (by omega) (.int .i64 xk) (.int .i64 xn) (.string xs)
      clear z0 z1 z2 z3 z4 z5 f0 f1 f2 f3 f4 f5
      obtain ⟨z0, z1, z2⟩ := FO.holds
      have f0 := FO.frozen 0
      have f1 := FO.frozen 1
      have f2 := FO.frozen 2
      refine hK.out _ _ QS1.out (fun _ => ?_)
      clear hK K
      try simp only [Act.put, List.setIfInBounds_toArray, List.set_cons_zero, List.set_cons_succ]
      refine wpAnyH_ready (rs := [13]) (by kernel_rfl) (by simp) ?_
      refine (AllReadyH.cons (o := { dst := none, op := Op.store 23 (Operand.tmp 9) (Operand.tmp 37), type := 0, pos := "law.go:109", after := #[{ on := 11, ground := Ground.data }, { on := 9, ground := Ground.data }, { on := 12, ground := Ground.chain }, { on := 0, ground := Ground.phase }, { on := 1, ground := Ground.phase }, { on := 2, ground := Ground.phase }, { on := 3, ground := Ground.phase }, { on := 4, ground := Ground.phase }, { on := 5, ground := Ground.phase }, { on := 6, ground := Ground.phase }, { on := 7, ground := Ground.phase }, { on := 8, ground := Ground.phase }, { on := 9, ground := Ground.phase }, { on := 10, ground := Ground.phase }, { on := 11, ground := Ground.phase }, { on := 12, ground := Ground.phase }], guard := none }) rfl (fun K hK => ?_) AllReadyH.nil)
      go_simp
      have QS2 := Lib.hid (QS1.out.set3 (g := W3.heap.size) (by omega) (.int .i64 yk) (.int .i64 yn) (.string ys))
      have FY := FO.set3 yk yn ys
      have FX2 := row3_other (g := W3.heap.size) (g2 := (W3.heap.size + 1)) FX (by omega) (.int .i64 yk) (.int .i64 yn) (.string ys)
      refine hK.out _ _ QS2.out (fun _ => ?_)
      clear hK K
      try simp only [Act.put, List.setIfInBounds_toArray, List.set_cons_zero, List.set_cons_succ]
      refine wpAnyH_done (by kernel_rfl) ?_ _
      go_wp2_with fail
      go_meet
      case rel => exact ⟨_, _, rfl, rfl, Lib.hid FX2, Lib.hid FY, QS2⟩
  case rest =>
    obtain ⟨g8, g9, rfl, rfl, HX8, HY9, HBW⟩ := hcut
    obtain ⟨W4, rfl⟩ : ∃ W4, W4 = wc := ⟨wc, rfl⟩
    have B4 := Lib.hid (bstep B3.out HBW.out)
    obtain ⟨x0, x1, x2⟩ := HX8.out.holds
    obtain ⟨y0, y1, y2⟩ := HY9.out.holds
    have b5 := (Below.refl W4.heap.size W4).alloc (Nat.le_refl _) (.cells #[.string (tx [97]), .int .i64 3, .string (tx [98]), .int .i64 3, .string (tx [110]), .int .i64 1] 45)
    have b6 := b5.alloc (by simp) (.cells #[.int .i64 xk, .int .i64 xn, .string xs, .int .i64 yk, .int .i64 yn, .string ys, .int .i64 1, .int .i64 n2, .string (tx [])] 23)
    have k5 := (Whole.new W4 45 #[.string (tx [97]), .int .i64 3, .string (tx [98]), .int .i64 3, .string (tx [110]), .int .i64 1]).alloc (.cells #[.int .i64 xk, .int .i64 xn, .string xs, .int .i64 yk, .int .i64 yn, .string ys, .int .i64 1, .int .i64 n2, .string (tx [])] 23)
    have k6 := Whole.new (W4.alloc (.cells #[.string (tx [97]), .int .i64 3, .string (tx [98]), .int .i64 3, .string (tx [110]), .int .i64 1] 45)) 23 #[.int .i64 xk, .int .i64 xn, .string xs, .int .i64 yk, .int .i64 yn, .string ys, .int .i64 1, .int .i64 n2, .string (tx [])]
    rw [World.size_alloc] at k6
    have hx4 := HX8.out.lt
    have hy4 := HY9.out.lt
    have hxa := (HX8.out.alloc (.cells #[.string (tx [97]), .int .i64 3, .string (tx [98]), .int .i64 3, .string (tx [110]), .int .i64 1] 45)).alloc (.cells #[.int .i64 xk, .int .i64 xn, .string xs, .int .i64 yk, .int .i64 yn, .string ys, .int .i64 1, .int .i64 n2, .string (tx [])] 23)
    have hya := (HY9.out.alloc (.cells #[.string (tx [97]), .int .i64 3, .string (tx [98]), .int .i64 3, .string (tx [110]), .int .i64 1] 45)).alloc (.cells #[.int .i64 xk, .int .i64 xn, .string xs, .int .i64 yk, .int .i64 yn, .string ys, .int .i64 1, .int .i64 n2, .string (tx [])] 23)
    obtain ⟨W6, hW6⟩ : ∃ W6, (W4.alloc (.cells #[.string (tx [97]), .int .i64 3, .string (tx [98]), .int .i64 3, .string (tx [110]), .int .i64 1] 45)).alloc (.cells #[.int .i64 xk, .int .i64 xn, .string xs, .int .i64 yk, .int .i64 yn, .string ys, .int .i64 1, .int .i64 n2, .string (tx [])] 23) = W6 := ⟨_, rfl⟩
    rw [hW6] at k5 k6 hxa hya b6
    have CA := Lib.hid (cols_three k5)
    have VA : Hid (ValsAt W6 (some ⟨W4.heap.size + 1, 0, none⟩) [x, y, ⟨1, n2, []⟩]) := Lib.hid (vals_three (by rw [HXE.out.1, HXE.out.2.1, HXE.out.2.2, HYE.out.1, HYE.out.2.1, HYE.out.2.2]; exact k6))
    have B6 := Lib.hid (bstep B4.out b6)
    have HX6 := Lib.hid hxa
    have HY6 := Lib.hid hya
    have ASK : Hid (∀ (s : ByteArray) (T : Tree) (j : Nat) (r : R), Ps.parse s.data.toList = .ok T j → fitT T → Ex.count T ≤ 1000000 → Ex.ones rngN T = true → Ev.evalR Ev.lgC [x, y, ⟨1, n2, []⟩] T = r → ∀ U, Below W6.heap.size W6 U → Calls Tryz.prog 20 #[.string s, .slice (some ⟨W4.heap.size, 0, none⟩) 3 3, .slice (some ⟨W4.heap.size + 1, 0, none⟩) 3 3] U fun e w' => e = .returned (.tuple #[.agg #[.int .i64 r.v.k, .int .i64 r.v.n, .string (tx r.v.s)], .int .i64 r.e]) ∧ Below U.heap.size U w') := Lib.hid (fun s T j r h1 h2 h3 h4 h5 U hU => by
      have h := ask_any s h1 h2 h3 h4 Ev.lgC [x, y, ⟨1, n2, []⟩] (some ⟨W4.heap.size, 0, none⟩) (some ⟨W4.heap.size + 1, 0, none⟩) 3 3 U (CA.out.below hU) (by intro c hc; simp at hc; rcases hc with rfl | rfl | rfl <;> simp [maxLen]) (VA.out.below hU) (by
        intro v hv
        have ft : ∀ u : V, Ev.Tr u → u.s.length ≤ maxLen ∧ Fits u.n := fun u hu => by rcases hu with rfl | rfl | rfl <;> exact ⟨Nat.zero_le _, by decide⟩
        simp only [List.mem_cons, List.not_mem_nil, or_false] at hv
        rcases hv with rfl | rfl | rfl
        · exact ft _ HTX.out
        · exact ft _ HTY.out
        · exact ⟨Nat.zero_le _, HF2.out⟩) (by simp) (by simp) rfl a m (HV.out.below (bstep B6.out hU))
      rw [h5] at h
      exact h)
    have A1 := Lib.hid (ASK.out ⟨#[97, 32, 111, 114, 32, 98]⟩ Ev.lgOr 3 _ Ev.lgOr_parse (by simp [fitT, fitTs, maxLen]) (by simp [Ex.count, Ex.counts]) (by kernel_rfl) ((lg_eval HTX.out HTY.out n2 Ev.lgOr_right).trans (Ev.lg_or HTX.out HTY.out n2)))
    have A2 := Lib.hid (ASK.out ⟨#[97, 32, 97, 110, 100, 32, 98]⟩ Ev.lgAnd 3 _ Ev.lgAnd_parse (by simp [fitT, fitTs, maxLen]) (by simp [Ex.count, Ex.counts]) (by kernel_rfl) ((lg_eval HTX.out HTY.out n2 Ev.lgAnd_right).trans (Ev.lg_and HTX.out HTY.out n2)))
    have A3 := Lib.hid (ASK.out ⟨#[110, 111, 116, 32, 40, 110, 111, 116, 32, 97, 32, 97, 110, 100, 32, 110, 111, 116, 32, 98, 41]⟩ Ev.lgNor 8 _ Ev.lgNor_parse (by simp [fitT, fitTs, maxLen]) (by simp [Ex.count, Ex.counts]) (by kernel_rfl) ((lg_eval HTX.out HTY.out n2 Ev.lgNor_right).trans (Ev.lg_nor HTX.out HTY.out n2)))
    have A4 := Lib.hid (ASK.out ⟨#[97, 32, 111, 114, 32, 49, 32, 47, 32, 48, 32, 61, 32, 110]⟩ Ev.lgLazy 7 _ Ev.lgLazy_parse (by simp [fitT, fitTs, maxLen]) (by simp [Ex.count, Ex.counts]) (by kernel_rfl) ((lg_eval HTX.out HTY.out n2 Ev.lgLazy_right).trans (Ev.lg_lazy HTX.out HTY.out n2)))
    obtain ⟨r1, hr1⟩ : ∃ r, (Ev.ok (if x.n = 1 ∨ x.k = 0 ∧ y.n = 0 then x else y) : R) = r := ⟨_, rfl⟩
    obtain ⟨r2, hr2⟩ : ∃ r, (Ev.ok (if x.k = 3 ∧ x.n = 0 ∨ x.k = 0 ∧ (y.k = 0 ∨ y.n = 1) then x else y) : R) = r := ⟨_, rfl⟩
    obtain ⟨r4, hr4⟩ : ∃ r, (if x.n = 1 then Ev.ok x else Ev.err 5 : R) = r := ⟨_, rfl⟩
    rw [hr1] at A1 A3
    rw [hr2] at A2
    rw [hr4] at A4
    have HR1 := Lib.hid hr1
    have HR2 := Lib.hid hr2
    have HR4 := Lib.hid hr4
    obtain ⟨⟨r1k, r1n, r1s⟩, r1e⟩ := r1
    obtain ⟨⟨r2k, r2n, r2s⟩, r2e⟩ := r2
    obtain ⟨⟨r4k, r4n, r4s⟩, r4e⟩ := r4
    dsimp only at A1 A2 A3 A4
    clear ASK CA VA k5 k6 hxa hya b5 b6 hr1 hr2 hr4 hW3 KK HBW B3
    go_wp2_with fail
    refine (A1.out _ (Below.refl _ _)).mono ?_
    rintro e V1 ⟨rfl, hb⟩
    have hb1 := hb.alloc (Nat.le_trans (Nat.le_refl _) hb.size) (.cells #[.int .i64 r1k, .int .i64 r1n, .string (tx r1s)] 23)
    have HA1 := Lib.hid (Row3.new V1 r1k r1n (tx r1s))
    have H1 := Lib.hid hb1
    clear hb hb1 x0 x1 x2 y0 y1 y2 A1
    go_wp2_with fail
    refine (A2.out _ H1.out).mono ?_
    rintro e V2 ⟨rfl, hb⟩
    have hb1 := hb.alloc (Nat.le_trans (Nat.le_refl _) hb.size) (.cells #[.int .i64 r2k, .int .i64 r2n, .string (tx r2s)] 23)
    have HA2 := Lib.hid (HA1.out.below hb1 HA1.out.lt)
    have HB2 := Lib.hid (Row3.new V2 r2k r2n (tx r2s))
    have H2 := Lib.hid (bstep H1.out hb1)
    clear hb hb1 A2 HA1
    go_wp2_with fail
    refine (A3.out _ H2.out).mono ?_
    rintro e V3 ⟨rfl, hb⟩
    have hb1 := hb.alloc (Nat.le_trans (Nat.le_refl _) hb.size) (.cells #[.int .i64 r1k, .int .i64 r1n, .string (tx r1s)] 23)
    have HA3 := Lib.hid (HA2.out.below hb1 HA2.out.lt)
    have HB3 := Lib.hid (HB2.out.below hb1 HB2.out.lt)
    have HC3 := Lib.hid (Row3.new V3 r1k r1n (tx r1s))
    have H3 := Lib.hid (bstep H2.out hb1)
    clear hb hb1 A3 HA2 HB2
    go_wp2_with fail
    refine (A4.out _ H3.out).mono ?_
    rintro e V4 ⟨rfl, hb⟩
    have hb1 := hb.alloc (Nat.le_trans (Nat.le_refl _) hb.size) (.cells #[.int .i64 r4k, .int .i64 r4n, .string (tx r4s)] 23)
    have HA4 := Lib.hid (HA3.out.below hb1 HA3.out.lt)
    have HB4 := Lib.hid (HB3.out.below hb1 HB3.out.lt)
    have HC4 := Lib.hid (HC3.out.below hb1 HC3.out.lt)
    have HD4 := Lib.hid (Row3.new V4 r4k r4n (tx r4s))
    have H4 := Lib.hid (bstep H3.out hb1)
    obtain ⟨V5, hV5⟩ : ∃ V5, V4.alloc (.cells #[.int .i64 r4k, .int .i64 r4n, .string (tx r4s)] 23) = V5 := ⟨_, rfl⟩
    rw [hV5] at HA4 HB4 HC4 HD4 H4
    have HX9 := HX6.out.below H4.out HX6.out.lt
    have HY9' := HY6.out.below H4.out HY6.out.lt
    have BF := Lib.hid (bstep B6.out H4.out)
    obtain ⟨x0, x1, x2⟩ := HX9.holds
    obtain ⟨y0, y1, y2⟩ := HY9'.holds
    obtain ⟨p0, p1, p2⟩ := HA4.out.holds
    obtain ⟨q0, q1, q2⟩ := HB4.out.holds
    obtain ⟨s0, s1, s2⟩ := HC4.out.holds
    obtain ⟨t0, t1, t2⟩ := HD4.out.holds
    have hg8 := HX9.lt
    have hg9 := HY9'.lt
    have ha9 := HA4.out.lt
    have hb9 := HB4.out.lt
    have hc9 := HC4.out.lt
    have hd9 := HD4.out.lt
    clear hb hb1 A4 HA3 HB3 HC3 H1 H2 H3 HX6 HY6 HX8 HY9 HA4 HB4 HC4 HD4 HX9 HY9' B4 B6 hW6
    have hs0 : same 0 0 (tx []) 0 0 (tx []) = true := by rw [same_iff]; exact ⟨rfl, rfl, rfl⟩
    have hs1 : same 3 0 (tx []) 3 0 (tx []) = true := by rw [same_iff]; exact ⟨rfl, rfl, rfl⟩
    have hs2 : same 3 1 (tx []) 3 1 (tx []) = true := by rw [same_iff]; exact ⟨rfl, rfl, rfl⟩
    have HXE' := HXE.out
    have HYE' := HYE.out
    have H1' := HR1.out
    have H2' := HR2.out
    have H4' := HR4.out
    go_upto_region 11 with fail
    rcases HTX.out with rfl | rfl | rfl <;> rcases HTY.out with rfl | rfl | rfl
    all_goals
      simp [Ev.z, Ev.ok, Ev.err] at HXE' HYE' H1' H2' H4'
      obtain ⟨rfl, rfl, rfl⟩ := HXE'
      obtain ⟨rfl, rfl, rfl⟩ := HYE'
      obtain ⟨⟨rfl, rfl, rfl⟩, rfl⟩ := H1'
      obtain ⟨⟨rfl, rfl, rfl⟩, rfl⟩ := H2'
      obtain ⟨⟨rfl, rfl, rfl⟩, rfl⟩ := H4'
      clear HXE HYE HR1 HR2 HR4 HTX HTY
      go_wp2_with fail
      go_ret
      refine ⟨rfl, ?_⟩
      repeat (first | exact BF.out | refine Below.setCell ?_ (by have := BF.out.size; simp; try omega) _ | refine Below.alloc ?_ (by have := BF.out.size; simp; try omega) _ | refine Below.drew ?_ | refine below_drewN ?_ _)
end Go.Proofs.YteghhmomhlnccaaGreatDoor

