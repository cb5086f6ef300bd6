/- The examples of the chapter: awake. -/
import Derived.Test.YtfkbhlgoglmcpaaGreatDoorIQC
import Derived.Test.YtfkbhlgoglmcpaaGreatDoorGQC
import Derived.Test.YtfkbhlgoglmcpaaGreatDoorPE
namespace Go.Proofs.YtfkbhlgoglmcpaaGreatDoor
open Go.RowKit Go.Lib
set_option linter.unusedVariables false
set_option linter.unusedSimpArgs false
set_option maxRecDepth 100000
open Ex (Tree)
abbrev awA : Tree := .node 5 [43] 0 0 [] [.node 6 [108, 101, 110] 0 0 [] [.node 2 [116] 0 0 [] []], .node 1 [] 1 1 [] []]
abbrev awB : Tree := .node 5 [61] 0 0 [] [.node 1 [] 1 1 [] [], .node 1 [] 2 0 [97] []]
theorem awA_parse : Ps.parse [108, 101, 110, 40, 116, 41, 32, 43, 32, 49] = .ok awA 6 := by kernel_rfl
theorem awB_parse : Ps.parse [49, 32, 61, 32, 39, 97, 39] = .ok awB 3 := by kernel_rfl
theorem awA_kind : Kd.kK [([116], 2)] awA = (1, 0) := by kernel_rfl
theorem awB_kind : Kd.kK [] awB = (0, 10) := by kernel_rfl
theorem awA_fit : fitT awA := by simp [fitT, fitTs, maxLen]
theorem awB_fit : fitT awB := by simp [fitT, fitTs, maxLen]
theorem aw_col {W : World} : ColsAt (W.alloc (.cells #[.string (tx [116]), .int .i64 2] 36)) (some ⟨W.heap.size, 0, none⟩) [([116], 2)] := fun i hi => by
  have : i = 0 := by simpa using hi
  subst this
  have h := Whole.new W 36 #[.string (tx [116]), .int .i64 2]
  exact ⟨_, _, rfl, h.lt, by rw [h.cell]; rfl, by rw [h.cell]; rfl⟩
set_option maxHeartbeats 1000000 in
theorem awake15_any (w : World) (a : Addr) (m : Int) (hv : Env w a m) : Calls Tryz.prog 5 #[] w fun e w' => e = .returned (.bool true) ∧ Below w.heap.size w w' := by
  have ep := parse_any ⟨#[108, 101, 110, 40, 116, 41, 32, 43, 32, 49]⟩ w a m hv
  rw [show (⟨#[108, 101, 110, 40, 116, 41, 32, 43, 32, 49]⟩ : ByteArray).data.toList = [108, 101, 110, 40, 116, 41, 32, 43, 32, 49] from rfl, awA_parse] at ep
  have EP := Lib.hid ep
  have PB := Lib.hid (fun W (h : Env W a m) => parse_any ⟨#[49, 32, 61, 32, 39, 97, 39]⟩ W a m h)
  rw [show (⟨#[49, 32, 61, 32, 39, 97, 39]⟩ : ByteArray).data.toList = [49, 32, 61, 32, 39, 97, 39] from rfl, awB_parse] at PB
  have HV := Lib.hid hv
  clear ep hv
  go_enter Tryz.func5, Tryz.ntmps5
  go_wp2_with fail
  refine EP.out.mono ?_
  rintro e W1 ⟨u, rfl, ⟨A, c, rfl, hc, hk⟩, hb⟩
  have b2 : Below w.heap.size w ((W1.alloc (.cells (ncells 5 [43] 0 0 [] A 2 c) 26)).alloc (.cells #[.int .i64 0, .int .i64 0] 41)) := (hb.alloc hb.size _).alloc (by have := hb.size; simp; omega) _
  have b1 : Below W1.heap.size W1 ((W1.alloc (.cells (ncells 5 [43] 0 0 [] A 2 c) 26)).alloc (.cells #[.int .i64 0, .int .i64 0] 41)) := ((Below.refl _ _).alloc (Nat.le_refl _) _).alloc (by simp) _
  have k0 := (Whole.new W1 26 (ncells 5 [43] 0 0 [] A 2 c)).alloc (.cells #[.int .i64 0, .int .i64 0] 41)
  have k1 := Whole.new (W1.alloc (.cells (ncells 5 [43] 0 0 [] A 2 c) 26)) 41 #[.int .i64 0, .int .i64 0]
  simp only [World.size_alloc] at k1
  have nv : NodeV ((W1.alloc (.cells (ncells 5 [43] 0 0 [] A 2 c) 26)).alloc (.cells #[.int .i64 0, .int .i64 0] 41)) (.agg (ncells 5 [43] 0 0 [] A 2 c)) awA := ⟨A, c, rfl, hc, (hk.below b1).at⟩
  have PB2 := Lib.hid (PB.out _ (HV.out.below b2))
  unfold ncells at *
  have B2 := Lib.hid b2
  have K0 := Lib.hid k0
  have K1 := Lib.hid k1
  have NV := Lib.hid nv
  clear b2 b1 k0 k1 nv hk hb EP PB
  go_wp2_with fail
  generalize (W1.alloc (.cells #[.int .i64 5, .string (tx [43]), .int .i64 0, .int .i64 0, .string (tx []), .slice A 2 c] 26)).alloc (.cells #[.int .i64 0, .int .i64 0] 41) = W2 at *
  refine PB2.out.mono ?_
  rintro e W3 ⟨u2, rfl, ⟨A2, c2, rfl, hc2, hk2⟩, hb3⟩
  have b4 : Below W2.heap.size W2 ((W3.alloc (.cells (ncells 5 [61] 0 0 [] A2 2 c2) 26)).alloc (.cells #[.int .i64 0, .int .i64 0] 41)) := (hb3.alloc hb3.size _).alloc (by have := hb3.size; simp; omega) _
  have b3 : Below W3.heap.size W3 ((W3.alloc (.cells (ncells 5 [61] 0 0 [] A2 2 c2) 26)).alloc (.cells #[.int .i64 0, .int .i64 0] 41)) := ((Below.refl _ _).alloc (Nat.le_refl _) _).alloc (by simp) _
  have p0 := (Whole.new W3 26 (ncells 5 [61] 0 0 [] A2 2 c2)).alloc (.cells #[.int .i64 0, .int .i64 0] 41)
  have p1 := Whole.new (W3.alloc (.cells (ncells 5 [61] 0 0 [] A2 2 c2) 26)) 41 #[.int .i64 0, .int .i64 0]
  simp only [World.size_alloc] at p1
  have nvb : NodeV ((W3.alloc (.cells (ncells 5 [61] 0 0 [] A2 2 c2) 26)).alloc (.cells #[.int .i64 0, .int .i64 0] 41)) (.agg (ncells 5 [61] 0 0 [] A2 2 c2)) awB := ⟨A2, c2, rfl, hc2, (hk2.below b3).at⟩
  unfold ncells at *
  obtain ⟨x0, x1, x2, x3, x4, x5⟩ := six_of (K0.out.below b4 K0.out.lt)
  have HW4 : Hid (∀ W4, Below W4.heap.size ((W3.alloc (.cells #[.int .i64 5, .string (tx [61]), .int .i64 0, .int .i64 0, .string (tx []), .slice A2 2 c2] 26)).alloc (.cells #[.int .i64 0, .int .i64 0] 41)) W4 → True) := Lib.hid (fun _ _ => trivial)
  have B4 := Lib.hid b4
  have P0 := Lib.hid p0
  have P1 := Lib.hid p1
  have NVB := Lib.hid nvb
  have col := aw_col (W := ((W3.alloc (.cells #[.int .i64 5, .string (tx [61]), .int .i64 0, .int .i64 0, .string (tx []), .slice A2 2 c2] 26)).alloc (.cells #[.int .i64 0, .int .i64 0] 41)))
  clear b4 b3 p0 p1 nvb hk2 hb3 PB2 hc2 hc
  have b5 : Below ((W3.alloc (.cells #[.int .i64 5, .string (tx [61]), .int .i64 0, .int .i64 0, .string (tx []), .slice A2 2 c2] 26)).alloc (.cells #[.int .i64 0, .int .i64 0] 41)).heap.size ((W3.alloc (.cells #[.int .i64 5, .string (tx [61]), .int .i64 0, .int .i64 0, .string (tx []), .slice A2 2 c2] 26)).alloc (.cells #[.int .i64 0, .int .i64 0] 41)) (((W3.alloc (.cells #[.int .i64 5, .string (tx [61]), .int .i64 0, .int .i64 0, .string (tx []), .slice A2 2 c2] 26)).alloc (.cells #[.int .i64 0, .int .i64 0] 41)).alloc (.cells #[.string (tx [116]), .int .i64 2] 36)) := (Below.refl _ _).alloc (Nat.le_refl _) _
  have B5 := Lib.hid (bstep B4.out b5)
  simp only [World.size_alloc] at col
  have N5 := Lib.hid (NV.out.below B5.out)
  have V5 := Lib.hid (HV.out.below (bstep B2.out B5.out))
  have KA := Lib.hid (kind_any [([116], 2)] _ 1 (by simp) (by intro c hc; simp at hc; subst hc; simp [maxLen]) awA (by simp [Ex.count, Ex.counts]) awA_fit _ _ N5.out col a m V5.out)
  rw [awA_kind] at KA
  have Q0 := Lib.hid (P0.out.below b5 P0.out.lt)
  have Q1 := Lib.hid (P1.out.below b5 P1.out.lt)
  have R0 := Lib.hid (K1.out.below B5.out K1.out.lt)
  have NB5 := Lib.hid (NVB.out.below b5)
  clear b5 col N5 HW4 NV NVB P0 P1 K0 K1 B4
  go_wp2_with fail
  refine KA.out.mono ?_
  rintro e W6 ⟨rfl, hb6⟩
  have B6 := Lib.hid (bstep B5.out hb6)
  have N6 := Lib.hid (NB5.out.below hb6)
  have V6 := Lib.hid (V5.out.below hb6)
  have q0 := Q0.out.below hb6 Q0.out.lt
  have Q6 := Lib.hid (Q1.out.below hb6 Q1.out.lt)
  have R6 := Lib.hid (R0.out.below hb6 R0.out.lt)
  have KB := Lib.hid (kind_any [] none 0 (by simp) (by intro c hc; simp at hc) awB (by simp [Ex.count, Ex.counts]) awB_fit _ _ N6.out (ColsAt.nil _ _) a m V6.out)
  rw [awB_kind] at KB
  obtain ⟨x0, x1, x2, x3, x4, x5⟩ := six_of q0
  clear KA hb6 NB5 V5 Q0 Q1 R0 q0 N6 V6 B5
  go_wp2_with fail
  refine KB.out.mono ?_
  rintro e W7 ⟨rfl, hb7⟩
  have B7 := Lib.hid (bstep B6.out hb7)
  have q7 := Q6.out.below hb7 Q6.out.lt
  have r7 := R6.out.below hb7 R6.out.lt
  have y0 := q7.cell 0
  have z0 := r7.cell 0
  simp only [List.getElem?_toArray, List.getElem?_cons_zero] at y0 z0
  clear KB hb7 Q6 R6 x0 x1 x2 x3 x4 x5 q7 r7 B6
  go_wp2_with fail
  go_ret
  exact ⟨rfl, bstep B2.out B7.out⟩
theorem pick (x : Int) (n : Nat) (h1 : 1 ≤ n) (h2 : n ≤ 5000) : ∃ k : Nat, k < n ∧ wrap64 ((IntKind.u64.wrap x).tmod n) = (k : Int) := by
  have h0 : 0 ≤ IntKind.u64.wrap x := by simp [IntKind.wrap, IntKind.bits, IntKind.signed]; omega
  rw [Int.tmod_eq_emod_of_nonneg h0]
  have a := Int.emod_nonneg (IntKind.u64.wrap x) (show (n : Int) ≠ 0 by omega)
  have b := Int.emod_lt_of_pos (IntKind.u64.wrap x) (show (0 : Int) < n by omega)
  exact ⟨((IntKind.u64.wrap x) % n).toNat, by omega, by rw [← IntWalk.i64_left, IntWalk.i64_in _ (by omega)]; omega⟩
theorem laidOut : laidOutB Tryz.prog = true := by kernel_rfl
end Go.Proofs.YtfkbhlgoglmcpaaGreatDoor
