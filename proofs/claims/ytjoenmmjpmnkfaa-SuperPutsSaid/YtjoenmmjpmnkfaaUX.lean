/- The reference's Get. -/
import Derived.Test.YtjoenmmjpmnkfaaUW
namespace Go.Proofs.Ytjoenmmjpmnkfaa
open Go.RowKit
/-- variables of a call's own. -/
def Vars (w W : World) (L : List (Nat × Array Value)) : Prop := Below w.heap.size w W ∧ ∀ x ∈ L, Whole W x.1 30 x.2
section
variable {w W W' : World} {L : List (Nat × Array Value)}
theorem Vars.below (h : Vars w W L) (hb : Below W.heap.size W W') : Vars w W' L := ⟨below_next h.1 hb, fun x hx => (h.2 x hx).below hb (h.2 x hx).lt⟩
theorem Vars.push (h : Vars w W L) (cs : Array Value) : Vars w (W.alloc (.cells cs 30)) ((W.heap.size, cs) :: L) := by
  have h2 := h.below ((Below.refl _ _).alloc (Nat.le_refl _) (.cells cs 30))
  refine ⟨h2.1, fun x hx => ?_⟩
  rcases List.mem_cons.1 hx with rfl | hx
  · exact Whole.new W _ cs
  · exact h2.2 x hx
theorem Vars.at (h : Vars w W L) {g : Nat} {a b c : Value} (hm : (g, #[a, b, c]) ∈ L) : W.cell? ⟨g, 0, none⟩ = some a ∧ W.cell? ⟨g, 1, none⟩ = some b ∧ W.cell? ⟨g, 2, none⟩ = some c ∧ g < W.heap.size ∧ W.frozen? ⟨g, 0, none⟩ = false ∧ W.frozen? ⟨g, 1, none⟩ = false ∧ W.frozen? ⟨g, 2, none⟩ = false := by
  have hw : Whole W g _ _ := h.2 _ hm
  have h0 := hw.cell 0
  have h1 := hw.cell 1
  have h2 := hw.cell 2
  simp only [List.getElem?_toArray, List.getElem?_cons_zero, List.getElem?_cons_succ] at h0 h1 h2
  exact ⟨h0, h1, h2, hw.lt, hw.frozen 0, hw.frozen 1, hw.frozen 2⟩
end
set_option maxRecDepth 100000 in
set_option maxHeartbeats 1000000 in
theorem refGet_NN (sa sb : ByteArray) (e1 a1 u1 : Int) (e2 a2 u2 : Int) (PA : Hid (∀ W, Calls Try.prog 27 #[.string sa] W fun r w' => r = .returned (.tuple #[sup e1 a1 u1, .bool false]) ∧ Below W.heap.size W w')) (PB : Hid (∀ W, Calls Try.prog 27 #[.string sb] W fun r w' => r = .returned (.tuple #[sup e2 a2 u2, .bool false]) ∧ Below W.heap.size W w')) (w : World) :
    Calls Try.prog 13 #[.string sa, .string sb] w fun r w' => r = .returned (.tuple #[sup 0 0 0, .bool false]) ∧ Below w.heap.size w w' := by
  have L0 : Hid (Vars w (w.alloc (.cells #[.int .u32 0, .int .i64 0, .int .i64 0] 30)) [(w.heap.size, #[.int .u32 0, .int .i64 0, .int .i64 0])]) := Lib.hid (Vars.push (L := []) ⟨Below.refl _ _, by simp⟩ _)
  go_enter Try.func13, Try.ntmps13
  go_wp2_with fail
  refine (PA.out _).mono ?_
  rintro r w1 ⟨rfl, b1⟩
  have L1 := Lib.hid ((L0.out.below b1).push #[.int .u32 e1, .int .i64 a1, .int .i64 u1])
  clear b1 L0 PA
  go_wp2_with fail
  refine (PB.out _).mono ?_
  rintro r w2 ⟨rfl, b2⟩
  have L2 := Lib.hid (L1.out.below b2)
  have L3 := Lib.hid (L2.out.push #[.int .u32 e2, .int .i64 a2, .int .i64 u2])
  clear b2 L1 PB
  obtain ⟨x0, x1, x2, xl, xf0, xf1, xf2⟩ := L2.out.at (g := w1.heap.size) (a := .int .u32 e1) (b := .int .i64 a1) (c := .int .i64 u1) (by simp)
  obtain ⟨z0, z1, z2, zl, zf0, zf1, zf2⟩ := L2.out.at (g := w.heap.size) (a := .int .u32 0) (b := .int .i64 0) (c := .int .i64 0) (by simp)
  have BB := Lib.hid L2.out.1
  have ZZ := Lib.hid (L2.out.2 (w.heap.size, #[.int .u32 0, .int .i64 0, .int .i64 0]) (by simp))
  have hzl := Lib.hid zl
  clear L2 L3
  go_wp2_with fail
  exact bodyPost_ret (results_s2 rfl _ _ w.heap.size #[.int .u32 0, .int .i64 0, .int .i64 0] rfl ((ZZ.out.three _ _ _).alloc _) rfl) rfl ⟨rfl, (below_three BB.out (Nat.le_refl _) _ _ _).alloc (Nat.le_of_lt (by simpa using hzl.out)) _⟩
set_option maxRecDepth 100000 in
set_option maxHeartbeats 1000000 in
theorem refGet_NW (sa sb : ByteArray) (e1 a1 u1 : Int) (s2 : Sup) (p2 : ((s2.e : Int) % 2 == 1) = false) (PA : Hid (∀ W, Calls Try.prog 27 #[.string sa] W fun r w' => r = .returned (.tuple #[sup e1 a1 u1, .bool false]) ∧ Below W.heap.size W w')) (PB : Hid (∀ W, Calls Try.prog 27 #[.string sb] W fun r w' => r = .returned (.tuple #[sup (s2.e : Nat) (s2.a : Nat) (s2.u : Nat), .bool true]) ∧ Below W.heap.size W w')) (w : World) :
    Calls Try.prog 13 #[.string sa, .string sb] w fun r w' => r = .returned (.tuple #[sup 0 0 0, .bool false]) ∧ Below w.heap.size w w' := by
  have L0 : Hid (Vars w (w.alloc (.cells #[.int .u32 0, .int .i64 0, .int .i64 0] 30)) [(w.heap.size, #[.int .u32 0, .int .i64 0, .int .i64 0])]) := Lib.hid (Vars.push (L := []) ⟨Below.refl _ _, by simp⟩ _)
  go_enter Try.func13, Try.ntmps13
  go_wp2_with fail
  refine (PA.out _).mono ?_
  rintro r w1 ⟨rfl, b1⟩
  have L1 := Lib.hid ((L0.out.below b1).push #[.int .u32 e1, .int .i64 a1, .int .i64 u1])
  clear b1 L0 PA
  go_wp2_with fail
  refine (PB.out _).mono ?_
  rintro r w2 ⟨rfl, b2⟩
  have L2 := Lib.hid (L1.out.below b2)
  have L3 := Lib.hid (L2.out.push #[.int .u32 (s2.e : Nat), .int .i64 (s2.a : Nat), .int .i64 (s2.u : Nat)])
  clear b2 L1 PB
  obtain ⟨x0, x1, x2, xl, xf0, xf1, xf2⟩ := L2.out.at (g := w1.heap.size) (a := .int .u32 e1) (b := .int .i64 a1) (c := .int .i64 u1) (by simp)
  obtain ⟨z0, z1, z2, zl, zf0, zf1, zf2⟩ := L2.out.at (g := w.heap.size) (a := .int .u32 0) (b := .int .i64 0) (c := .int .i64 0) (by simp)
  have BB := Lib.hid L2.out.1
  have ZZ := Lib.hid (L2.out.2 (w.heap.size, #[.int .u32 0, .int .i64 0, .int .i64 0]) (by simp))
  have hzl := Lib.hid zl
  clear L2 L3
  go_wp2_with fail
  exact bodyPost_ret (results_s2 rfl _ _ w.heap.size #[.int .u32 0, .int .i64 0, .int .i64 0] rfl ((ZZ.out.three _ _ _).alloc _) rfl) rfl ⟨rfl, (below_three BB.out (Nat.le_refl _) _ _ _).alloc (Nat.le_of_lt (by simpa using hzl.out)) _⟩
set_option maxRecDepth 100000 in
set_option maxHeartbeats 1000000 in
theorem refGet_NY (sa sb : ByteArray) (e1 a1 u1 : Int) (s2 : Sup) (p2 : ((s2.e : Int) % 2 == 1) = true) (PA : Hid (∀ W, Calls Try.prog 27 #[.string sa] W fun r w' => r = .returned (.tuple #[sup e1 a1 u1, .bool false]) ∧ Below W.heap.size W w')) (PB : Hid (∀ W, Calls Try.prog 27 #[.string sb] W fun r w' => r = .returned (.tuple #[sup (s2.e : Nat) (s2.a : Nat) (s2.u : Nat), .bool true]) ∧ Below W.heap.size W w')) (w : World) :
    Calls Try.prog 13 #[.string sa, .string sb] w fun r w' => r = .returned (.tuple #[s2.v, .bool true]) ∧ Below w.heap.size w w' := by
  have L0 : Hid (Vars w (w.alloc (.cells #[.int .u32 0, .int .i64 0, .int .i64 0] 30)) [(w.heap.size, #[.int .u32 0, .int .i64 0, .int .i64 0])]) := Lib.hid (Vars.push (L := []) ⟨Below.refl _ _, by simp⟩ _)
  go_enter Try.func13, Try.ntmps13
  go_wp2_with fail
  refine (PA.out _).mono ?_
  rintro r w1 ⟨rfl, b1⟩
  have L1 := Lib.hid ((L0.out.below b1).push #[.int .u32 e1, .int .i64 a1, .int .i64 u1])
  clear b1 L0 PA
  go_wp2_with fail
  refine (PB.out _).mono ?_
  rintro r w2 ⟨rfl, b2⟩
  have L2 := Lib.hid (L1.out.below b2)
  have L3 := Lib.hid (L2.out.push #[.int .u32 (s2.e : Nat), .int .i64 (s2.a : Nat), .int .i64 (s2.u : Nat)])
  clear b2 L1 PB
  obtain ⟨x0, x1, x2, xl, xf0, xf1, xf2⟩ := L2.out.at (g := w1.heap.size) (a := .int .u32 e1) (b := .int .i64 a1) (c := .int .i64 u1) (by simp)
  obtain ⟨z0, z1, z2, zl, zf0, zf1, zf2⟩ := L2.out.at (g := w.heap.size) (a := .int .u32 0) (b := .int .i64 0) (c := .int .i64 0) (by simp)
  have BB := Lib.hid L2.out.1
  have ZZ := Lib.hid (L2.out.2 (w.heap.size, #[.int .u32 0, .int .i64 0, .int .i64 0]) (by simp))
  have hzl := Lib.hid zl
  clear L2 L3
  go_wp2_with fail
  exact bodyPost_ret (results_s2 rfl _ _ w.heap.size #[.int .u32 (s2.e : Nat), .int .i64 (s2.a : Nat), .int .i64 (s2.u : Nat)] rfl ((ZZ.out.three _ _ _).alloc _) rfl) rfl ⟨rfl, (below_three BB.out (Nat.le_refl _) _ _ _).alloc (Nat.le_of_lt (by simpa using hzl.out)) _⟩
set_option maxRecDepth 100000 in
set_option maxHeartbeats 1000000 in
theorem refGet_WN (sa sb : ByteArray) (s1 : Sup) (p1 : ((s1.e : Int) % 2 == 0) = false) (e2 a2 u2 : Int) (PA : Hid (∀ W, Calls Try.prog 27 #[.string sa] W fun r w' => r = .returned (.tuple #[sup (s1.e : Nat) (s1.a : Nat) (s1.u : Nat), .bool true]) ∧ Below W.heap.size W w')) (PB : Hid (∀ W, Calls Try.prog 27 #[.string sb] W fun r w' => r = .returned (.tuple #[sup e2 a2 u2, .bool false]) ∧ Below W.heap.size W w')) (w : World) :
    Calls Try.prog 13 #[.string sa, .string sb] w fun r w' => r = .returned (.tuple #[sup 0 0 0, .bool false]) ∧ Below w.heap.size w w' := by
  have L0 : Hid (Vars w (w.alloc (.cells #[.int .u32 0, .int .i64 0, .int .i64 0] 30)) [(w.heap.size, #[.int .u32 0, .int .i64 0, .int .i64 0])]) := Lib.hid (Vars.push (L := []) ⟨Below.refl _ _, by simp⟩ _)
  go_enter Try.func13, Try.ntmps13
  go_wp2_with fail
  refine (PA.out _).mono ?_
  rintro r w1 ⟨rfl, b1⟩
  have L1 := Lib.hid ((L0.out.below b1).push #[.int .u32 (s1.e : Nat), .int .i64 (s1.a : Nat), .int .i64 (s1.u : Nat)])
  clear b1 L0 PA
  go_wp2_with fail
  refine (PB.out _).mono ?_
  rintro r w2 ⟨rfl, b2⟩
  have L2 := Lib.hid (L1.out.below b2)
  have L3 := Lib.hid (L2.out.push #[.int .u32 e2, .int .i64 a2, .int .i64 u2])
  clear b2 L1 PB
  obtain ⟨x0, x1, x2, xl, xf0, xf1, xf2⟩ := L2.out.at (g := w1.heap.size) (a := .int .u32 (s1.e : Nat)) (b := .int .i64 (s1.a : Nat)) (c := .int .i64 (s1.u : Nat)) (by simp)
  obtain ⟨z0, z1, z2, zl, zf0, zf1, zf2⟩ := L2.out.at (g := w.heap.size) (a := .int .u32 0) (b := .int .i64 0) (c := .int .i64 0) (by simp)
  have BB := Lib.hid L2.out.1
  have ZZ := Lib.hid (L2.out.2 (w.heap.size, #[.int .u32 0, .int .i64 0, .int .i64 0]) (by simp))
  have hzl := Lib.hid zl
  clear L2 L3
  go_wp2_with fail
  exact bodyPost_ret (results_s2 rfl _ _ w.heap.size #[.int .u32 0, .int .i64 0, .int .i64 0] rfl ((ZZ.out.three _ _ _).alloc _) rfl) rfl ⟨rfl, (below_three BB.out (Nat.le_refl _) _ _ _).alloc (Nat.le_of_lt (by simpa using hzl.out)) _⟩
set_option maxRecDepth 100000 in
set_option maxHeartbeats 1000000 in
theorem refGet_WW (sa sb : ByteArray) (s1 : Sup) (p1 : ((s1.e : Int) % 2 == 0) = false) (s2 : Sup) (p2 : ((s2.e : Int) % 2 == 1) = false) (PA : Hid (∀ W, Calls Try.prog 27 #[.string sa] W fun r w' => r = .returned (.tuple #[sup (s1.e : Nat) (s1.a : Nat) (s1.u : Nat), .bool true]) ∧ Below W.heap.size W w')) (PB : Hid (∀ W, Calls Try.prog 27 #[.string sb] W fun r w' => r = .returned (.tuple #[sup (s2.e : Nat) (s2.a : Nat) (s2.u : Nat), .bool true]) ∧ Below W.heap.size W w')) (w : World) :
    Calls Try.prog 13 #[.string sa, .string sb] w fun r w' => r = .returned (.tuple #[sup 0 0 0, .bool false]) ∧ Below w.heap.size w w' := by
  have L0 : Hid (Vars w (w.alloc (.cells #[.int .u32 0, .int .i64 0, .int .i64 0] 30)) [(w.heap.size, #[.int .u32 0, .int .i64 0, .int .i64 0])]) := Lib.hid (Vars.push (L := []) ⟨Below.refl _ _, by simp⟩ _)
  go_enter Try.func13, Try.ntmps13
  go_wp2_with fail
  refine (PA.out _).mono ?_
  rintro r w1 ⟨rfl, b1⟩
  have L1 := Lib.hid ((L0.out.below b1).push #[.int .u32 (s1.e : Nat), .int .i64 (s1.a : Nat), .int .i64 (s1.u : Nat)])
  clear b1 L0 PA
  go_wp2_with fail
  refine (PB.out _).mono ?_
  rintro r w2 ⟨rfl, b2⟩
  have L2 := Lib.hid (L1.out.below b2)
  have L3 := Lib.hid (L2.out.push #[.int .u32 (s2.e : Nat), .int .i64 (s2.a : Nat), .int .i64 (s2.u : Nat)])
  clear b2 L1 PB
  obtain ⟨x0, x1, x2, xl, xf0, xf1, xf2⟩ := L2.out.at (g := w1.heap.size) (a := .int .u32 (s1.e : Nat)) (b := .int .i64 (s1.a : Nat)) (c := .int .i64 (s1.u : Nat)) (by simp)
  obtain ⟨z0, z1, z2, zl, zf0, zf1, zf2⟩ := L2.out.at (g := w.heap.size) (a := .int .u32 0) (b := .int .i64 0) (c := .int .i64 0) (by simp)
  have BB := Lib.hid L2.out.1
  have ZZ := Lib.hid (L2.out.2 (w.heap.size, #[.int .u32 0, .int .i64 0, .int .i64 0]) (by simp))
  have hzl := Lib.hid zl
  clear L2 L3
  go_wp2_with fail
  exact bodyPost_ret (results_s2 rfl _ _ w.heap.size #[.int .u32 0, .int .i64 0, .int .i64 0] rfl ((ZZ.out.three _ _ _).alloc _) rfl) rfl ⟨rfl, (below_three BB.out (Nat.le_refl _) _ _ _).alloc (Nat.le_of_lt (by simpa using hzl.out)) _⟩
set_option maxRecDepth 100000 in
set_option maxHeartbeats 1000000 in
theorem refGet_WY (sa sb : ByteArray) (s1 : Sup) (p1 : ((s1.e : Int) % 2 == 0) = false) (s2 : Sup) (p2 : ((s2.e : Int) % 2 == 1) = true) (PA : Hid (∀ W, Calls Try.prog 27 #[.string sa] W fun r w' => r = .returned (.tuple #[sup (s1.e : Nat) (s1.a : Nat) (s1.u : Nat), .bool true]) ∧ Below W.heap.size W w')) (PB : Hid (∀ W, Calls Try.prog 27 #[.string sb] W fun r w' => r = .returned (.tuple #[sup (s2.e : Nat) (s2.a : Nat) (s2.u : Nat), .bool true]) ∧ Below W.heap.size W w')) (w : World) :
    Calls Try.prog 13 #[.string sa, .string sb] w fun r w' => r = .returned (.tuple #[s2.v, .bool true]) ∧ Below w.heap.size w w' := by
  have L0 : Hid (Vars w (w.alloc (.cells #[.int .u32 0, .int .i64 0, .int .i64 0] 30)) [(w.heap.size, #[.int .u32 0, .int .i64 0, .int .i64 0])]) := Lib.hid (Vars.push (L := []) ⟨Below.refl _ _, by simp⟩ _)
  go_enter Try.func13, Try.ntmps13
  go_wp2_with fail
  refine (PA.out _).mono ?_
  rintro r w1 ⟨rfl, b1⟩
  have L1 := Lib.hid ((L0.out.below b1).push #[.int .u32 (s1.e : Nat), .int .i64 (s1.a : Nat), .int .i64 (s1.u : Nat)])
  clear b1 L0 PA
  go_wp2_with fail
  refine (PB.out _).mono ?_
  rintro r w2 ⟨rfl, b2⟩
  have L2 := Lib.hid (L1.out.below b2)
  have L3 := Lib.hid (L2.out.push #[.int .u32 (s2.e : Nat), .int .i64 (s2.a : Nat), .int .i64 (s2.u : Nat)])
  clear b2 L1 PB
  obtain ⟨x0, x1, x2, xl, xf0, xf1, xf2⟩ := L2.out.at (g := w1.heap.size) (a := .int .u32 (s1.e : Nat)) (b := .int .i64 (s1.a : Nat)) (c := .int .i64 (s1.u : Nat)) (by simp)
  obtain ⟨z0, z1, z2, zl, zf0, zf1, zf2⟩ := L2.out.at (g := w.heap.size) (a := .int .u32 0) (b := .int .i64 0) (c := .int .i64 0) (by simp)
  have BB := Lib.hid L2.out.1
  have ZZ := Lib.hid (L2.out.2 (w.heap.size, #[.int .u32 0, .int .i64 0, .int .i64 0]) (by simp))
  have hzl := Lib.hid zl
  clear L2 L3
  go_wp2_with fail
  exact bodyPost_ret (results_s2 rfl _ _ w.heap.size #[.int .u32 (s2.e : Nat), .int .i64 (s2.a : Nat), .int .i64 (s2.u : Nat)] rfl ((ZZ.out.three _ _ _).alloc _) rfl) rfl ⟨rfl, (below_three BB.out (Nat.le_refl _) _ _ _).alloc (Nat.le_of_lt (by simpa using hzl.out)) _⟩
set_option maxRecDepth 100000 in
set_option maxHeartbeats 1000000 in
theorem refGet_YN (sa sb : ByteArray) (s1 : Sup) (p1 : ((s1.e : Int) % 2 == 0) = true) (e2 a2 u2 : Int) (PA : Hid (∀ W, Calls Try.prog 27 #[.string sa] W fun r w' => r = .returned (.tuple #[sup (s1.e : Nat) (s1.a : Nat) (s1.u : Nat), .bool true]) ∧ Below W.heap.size W w')) (PB : Hid (∀ W, Calls Try.prog 27 #[.string sb] W fun r w' => r = .returned (.tuple #[sup e2 a2 u2, .bool false]) ∧ Below W.heap.size W w')) (w : World) :
    Calls Try.prog 13 #[.string sa, .string sb] w fun r w' => r = .returned (.tuple #[s1.v, .bool true]) ∧ Below w.heap.size w w' := by
  have L0 : Hid (Vars w (w.alloc (.cells #[.int .u32 0, .int .i64 0, .int .i64 0] 30)) [(w.heap.size, #[.int .u32 0, .int .i64 0, .int .i64 0])]) := Lib.hid (Vars.push (L := []) ⟨Below.refl _ _, by simp⟩ _)
  go_enter Try.func13, Try.ntmps13
  go_wp2_with fail
  refine (PA.out _).mono ?_
  rintro r w1 ⟨rfl, b1⟩
  have L1 := Lib.hid ((L0.out.below b1).push #[.int .u32 (s1.e : Nat), .int .i64 (s1.a : Nat), .int .i64 (s1.u : Nat)])
  clear b1 L0 PA
  go_wp2_with fail
  refine (PB.out _).mono ?_
  rintro r w2 ⟨rfl, b2⟩
  have L2 := Lib.hid (L1.out.below b2)
  have L3 := Lib.hid (L2.out.push #[.int .u32 e2, .int .i64 a2, .int .i64 u2])
  clear b2 L1 PB
  obtain ⟨x0, x1, x2, xl, xf0, xf1, xf2⟩ := L2.out.at (g := w1.heap.size) (a := .int .u32 (s1.e : Nat)) (b := .int .i64 (s1.a : Nat)) (c := .int .i64 (s1.u : Nat)) (by simp)
  obtain ⟨z0, z1, z2, zl, zf0, zf1, zf2⟩ := L2.out.at (g := w.heap.size) (a := .int .u32 0) (b := .int .i64 0) (c := .int .i64 0) (by simp)
  have BB := Lib.hid L2.out.1
  have ZZ := Lib.hid (L2.out.2 (w.heap.size, #[.int .u32 0, .int .i64 0, .int .i64 0]) (by simp))
  have hzl := Lib.hid zl
  clear L2 L3
  go_wp2_with fail
  exact bodyPost_ret (results_s2 rfl _ _ w.heap.size #[.int .u32 (s1.e : Nat), .int .i64 (s1.a : Nat), .int .i64 (s1.u : Nat)] rfl ((ZZ.out.three _ _ _).alloc _) rfl) rfl ⟨rfl, (below_three BB.out (Nat.le_refl _) _ _ _).alloc (Nat.le_of_lt (by simpa using hzl.out)) _⟩
set_option maxRecDepth 100000 in
set_option maxHeartbeats 1000000 in
theorem refGet_YW (sa sb : ByteArray) (s1 : Sup) (p1 : ((s1.e : Int) % 2 == 0) = true) (s2 : Sup) (p2 : ((s2.e : Int) % 2 == 1) = false) (PA : Hid (∀ W, Calls Try.prog 27 #[.string sa] W fun r w' => r = .returned (.tuple #[sup (s1.e : Nat) (s1.a : Nat) (s1.u : Nat), .bool true]) ∧ Below W.heap.size W w')) (PB : Hid (∀ W, Calls Try.prog 27 #[.string sb] W fun r w' => r = .returned (.tuple #[sup (s2.e : Nat) (s2.a : Nat) (s2.u : Nat), .bool true]) ∧ Below W.heap.size W w')) (w : World) :
    Calls Try.prog 13 #[.string sa, .string sb] w fun r w' => r = .returned (.tuple #[s1.v, .bool true]) ∧ Below w.heap.size w w' := by
  have L0 : Hid (Vars w (w.alloc (.cells #[.int .u32 0, .int .i64 0, .int .i64 0] 30)) [(w.heap.size, #[.int .u32 0, .int .i64 0, .int .i64 0])]) := Lib.hid (Vars.push (L := []) ⟨Below.refl _ _, by simp⟩ _)
  go_enter Try.func13, Try.ntmps13
  go_wp2_with fail
  refine (PA.out _).mono ?_
  rintro r w1 ⟨rfl, b1⟩
  have L1 := Lib.hid ((L0.out.below b1).push #[.int .u32 (s1.e : Nat), .int .i64 (s1.a : Nat), .int .i64 (s1.u : Nat)])
  clear b1 L0 PA
  go_wp2_with fail
  refine (PB.out _).mono ?_
  rintro r w2 ⟨rfl, b2⟩
  have L2 := Lib.hid (L1.out.below b2)
  have L3 := Lib.hid (L2.out.push #[.int .u32 (s2.e : Nat), .int .i64 (s2.a : Nat), .int .i64 (s2.u : Nat)])
  clear b2 L1 PB
  obtain ⟨x0, x1, x2, xl, xf0, xf1, xf2⟩ := L2.out.at (g := w1.heap.size) (a := .int .u32 (s1.e : Nat)) (b := .int .i64 (s1.a : Nat)) (c := .int .i64 (s1.u : Nat)) (by simp)
  obtain ⟨z0, z1, z2, zl, zf0, zf1, zf2⟩ := L2.out.at (g := w.heap.size) (a := .int .u32 0) (b := .int .i64 0) (c := .int .i64 0) (by simp)
  have BB := Lib.hid L2.out.1
  have ZZ := Lib.hid (L2.out.2 (w.heap.size, #[.int .u32 0, .int .i64 0, .int .i64 0]) (by simp))
  have hzl := Lib.hid zl
  clear L2 L3
  go_wp2_with fail
  exact bodyPost_ret (results_s2 rfl _ _ w.heap.size #[.int .u32 (s1.e : Nat), .int .i64 (s1.a : Nat), .int .i64 (s1.u : Nat)] rfl ((ZZ.out.three _ _ _).alloc _) rfl) rfl ⟨rfl, (below_three BB.out (Nat.le_refl _) _ _ _).alloc (Nat.le_of_lt (by simpa using hzl.out)) _⟩
set_option maxRecDepth 100000 in
set_option maxHeartbeats 1000000 in
theorem refGet_YYg (sa sb : ByteArray) (s1 : Sup) (p1 : ((s1.e : Int) % 2 == 0) = true) (s2 : Sup) (p2 : ((s2.e : Int) % 2 == 1) = true) (hg : (s2.e : Int) < (s1.e : Int)) (PA : Hid (∀ W, Calls Try.prog 27 #[.string sa] W fun r w' => r = .returned (.tuple #[sup (s1.e : Nat) (s1.a : Nat) (s1.u : Nat), .bool true]) ∧ Below W.heap.size W w')) (PB : Hid (∀ W, Calls Try.prog 27 #[.string sb] W fun r w' => r = .returned (.tuple #[sup (s2.e : Nat) (s2.a : Nat) (s2.u : Nat), .bool true]) ∧ Below W.heap.size W w')) (w : World) :
    Calls Try.prog 13 #[.string sa, .string sb] w fun r w' => r = .returned (.tuple #[s1.v, .bool true]) ∧ Below w.heap.size w w' := by
  have L0 : Hid (Vars w (w.alloc (.cells #[.int .u32 0, .int .i64 0, .int .i64 0] 30)) [(w.heap.size, #[.int .u32 0, .int .i64 0, .int .i64 0])]) := Lib.hid (Vars.push (L := []) ⟨Below.refl _ _, by simp⟩ _)
  go_enter Try.func13, Try.ntmps13
  go_wp2_with fail
  refine (PA.out _).mono ?_
  rintro r w1 ⟨rfl, b1⟩
  have L1 := Lib.hid ((L0.out.below b1).push #[.int .u32 (s1.e : Nat), .int .i64 (s1.a : Nat), .int .i64 (s1.u : Nat)])
  clear b1 L0 PA
  go_wp2_with fail
  refine (PB.out _).mono ?_
  rintro r w2 ⟨rfl, b2⟩
  have L2 := Lib.hid (L1.out.below b2)
  have L3 := Lib.hid (L2.out.push #[.int .u32 (s2.e : Nat), .int .i64 (s2.a : Nat), .int .i64 (s2.u : Nat)])
  clear b2 L1 PB
  obtain ⟨x0, x1, x2, xl, xf0, xf1, xf2⟩ := L2.out.at (g := w1.heap.size) (a := .int .u32 (s1.e : Nat)) (b := .int .i64 (s1.a : Nat)) (c := .int .i64 (s1.u : Nat)) (by simp)
  obtain ⟨z0, z1, z2, zl, zf0, zf1, zf2⟩ := L2.out.at (g := w.heap.size) (a := .int .u32 0) (b := .int .i64 0) (c := .int .i64 0) (by simp)
  have BB := Lib.hid L2.out.1
  have ZZ := Lib.hid (L2.out.2 (w.heap.size, #[.int .u32 0, .int .i64 0, .int .i64 0]) (by simp))
  have hzl := Lib.hid zl
  clear L2 L3
  go_wp2_with fail
  exact bodyPost_ret (results_s2 rfl _ _ w.heap.size #[.int .u32 (s1.e : Nat), .int .i64 (s1.a : Nat), .int .i64 (s1.u : Nat)] rfl ((ZZ.out.three _ _ _).alloc _) rfl) rfl ⟨rfl, (below_three BB.out (Nat.le_refl _) _ _ _).alloc (Nat.le_of_lt (by simpa using hzl.out)) _⟩
set_option maxRecDepth 100000 in
set_option maxHeartbeats 1000000 in
theorem refGet_YYl (sa sb : ByteArray) (s1 : Sup) (p1 : ((s1.e : Int) % 2 == 0) = true) (s2 : Sup) (p2 : ((s2.e : Int) % 2 == 1) = true) (hg : (s1.e : Int) ≤ (s2.e : Int)) (PA : Hid (∀ W, Calls Try.prog 27 #[.string sa] W fun r w' => r = .returned (.tuple #[sup (s1.e : Nat) (s1.a : Nat) (s1.u : Nat), .bool true]) ∧ Below W.heap.size W w')) (PB : Hid (∀ W, Calls Try.prog 27 #[.string sb] W fun r w' => r = .returned (.tuple #[sup (s2.e : Nat) (s2.a : Nat) (s2.u : Nat), .bool true]) ∧ Below W.heap.size W w')) (w : World) :
    Calls Try.prog 13 #[.string sa, .string sb] w fun r w' => r = .returned (.tuple #[s2.v, .bool true]) ∧ Below w.heap.size w w' := by
  have L0 : Hid (Vars w (w.alloc (.cells #[.int .u32 0, .int .i64 0, .int .i64 0] 30)) [(w.heap.size, #[.int .u32 0, .int .i64 0, .int .i64 0])]) := Lib.hid (Vars.push (L := []) ⟨Below.refl _ _, by simp⟩ _)
  go_enter Try.func13, Try.ntmps13
  go_wp2_with fail
  refine (PA.out _).mono ?_
  rintro r w1 ⟨rfl, b1⟩
  have L1 := Lib.hid ((L0.out.below b1).push #[.int .u32 (s1.e : Nat), .int .i64 (s1.a : Nat), .int .i64 (s1.u : Nat)])
  clear b1 L0 PA
  go_wp2_with fail
  refine (PB.out _).mono ?_
  rintro r w2 ⟨rfl, b2⟩
  have L2 := Lib.hid (L1.out.below b2)
  have L3 := Lib.hid (L2.out.push #[.int .u32 (s2.e : Nat), .int .i64 (s2.a : Nat), .int .i64 (s2.u : Nat)])
  clear b2 L1 PB
  obtain ⟨x0, x1, x2, xl, xf0, xf1, xf2⟩ := L2.out.at (g := w1.heap.size) (a := .int .u32 (s1.e : Nat)) (b := .int .i64 (s1.a : Nat)) (c := .int .i64 (s1.u : Nat)) (by simp)
  obtain ⟨z0, z1, z2, zl, zf0, zf1, zf2⟩ := L2.out.at (g := w.heap.size) (a := .int .u32 0) (b := .int .i64 0) (c := .int .i64 0) (by simp)
  have BB := Lib.hid L2.out.1
  have ZZ := Lib.hid (L2.out.2 (w.heap.size, #[.int .u32 0, .int .i64 0, .int .i64 0]) (by simp))
  have hzl := Lib.hid zl
  clear L2 L3
  go_wp2_with fail
  exact bodyPost_ret (results_s2 rfl _ _ w.heap.size #[.int .u32 (s2.e : Nat), .int .i64 (s2.a : Nat), .int .i64 (s2.u : Nat)] rfl ((ZZ.out.three _ _ _).alloc _) rfl) rfl ⟨rfl, (below_three BB.out (Nat.le_refl _) _ _ _).alloc (Nat.le_of_lt (by simpa using hzl.out)) _⟩
/-- what stands in two sectors' bytes. -/
def standL (l : List UInt8) (k : Nat) : Option Sup := (supOf l).filter fun s => s.e % 2 == k
def getL (la lb : List UInt8) : Option Sup := newest ((standL la 0).toList ++ (standL lb 1).toList)
def GetSays (o : Option Sup) : Value := match o with | some s => .tuple #[s.v, .bool true] | none => .tuple #[sup 0 0 0, .bool false]
theorem standL_none {l : List UInt8} (k : Nat) (h : supOf l = none) : standL l k = none := by unfold standL; rw [h]; rfl
theorem standL_yes {l : List UInt8} {k : Nat} {s : Sup} (h : supOf l = some s) (hp : s.e % 2 = k) : standL l k = some s := by unfold standL; rw [h]; simp [Option.filter, hp]
theorem standL_no {l : List UInt8} {k : Nat} {s : Sup} (h : supOf l = some s) (hp : ¬ s.e % 2 = k) : standL l k = none := by unfold standL; rw [h]; simp [Option.filter, hp]
theorem par_yes {e k : Nat} (h : e % 2 = k) : ((e : Int) % 2 == (k : Int)) = true := by simp; omega
theorem par_no {e k : Nat} (h : ¬ e % 2 = k) : ((e : Int) % 2 == (k : Int)) = false := by simp; omega
theorem refGet_any (la lb : List UInt8) (w : World) (ha : 12 ≤ la.length) (ha2 : la.length ≤ 2000) (hb : 12 ≤ lb.length) (hb2 : lb.length ≤ 2000) : Calls Try.prog 13 #[.string ⟨la.toArray⟩, .string ⟨lb.toArray⟩] w fun e w' => e = .returned (GetSays (getL la lb)) ∧ Below w.heap.size w w' := by
  have key : ∀ (l : List UInt8) (k : Nat), k < 2 → 12 ≤ l.length → l.length ≤ 2000 →
      (∃ s, standL l k = some s ∧ ((s.e : Int) % 2 == (k : Int)) = true ∧ ∀ W, Calls Try.prog 27 #[.string ⟨l.toArray⟩] W fun r w' => r = .returned (.tuple #[s.v, .bool true]) ∧ Below W.heap.size W w') ∨
      (standL l k = none ∧ ((∃ s : Sup, ((s.e : Int) % 2 == (k : Int)) = false ∧ ∀ W, Calls Try.prog 27 #[.string ⟨l.toArray⟩] W fun r w' => r = .returned (.tuple #[s.v, .bool true]) ∧ Below W.heap.size W w') ∨
        (∃ e a u : Int, ∀ W, Calls Try.prog 27 #[.string ⟨l.toArray⟩] W fun r w' => r = .returned (.tuple #[sup e a u, .bool false]) ∧ Below W.heap.size W w'))) := by
    intro l k _ h1 h2
    cases hs : supOf l with
    | some s =>
      have hp : ∀ W, Calls Try.prog 27 #[.string ⟨l.toArray⟩] W fun r w' => r = .returned (.tuple #[s.v, .bool true]) ∧ Below W.heap.size W w' := fun W => (parse_any l W h1 h2).mono fun r w' hh => by
        refine ⟨?_, hh.2⟩
        rcases hh.1 with ⟨t, ht, hr⟩ | ⟨ht, _⟩
        · rw [hs] at ht; cases ht; exact hr
        · rw [hs] at ht; cases ht
      by_cases hq : s.e % 2 = k
      · exact .inl ⟨s, standL_yes hs hq, par_yes hq, hp⟩
      · exact .inr ⟨standL_no hs hq, .inl ⟨s, par_no hq, hp⟩⟩
    | none => exact .inr ⟨standL_none k hs, .inr (parse_none_says l hs h1 h2)⟩
  rcases key la 0 (by omega) ha ha2 with ⟨s1, a1, p1, PA⟩ | ⟨a1, ⟨s1, p1, PA⟩ | ⟨e1, b1, u1, PA⟩⟩ <;> rcases key lb 1 (by omega) hb hb2 with ⟨s2, a2, p2, PB⟩ | ⟨a2, ⟨s2, p2, PB⟩ | ⟨e2, b2, u2, PB⟩⟩
  · by_cases hg : (s2.e : Int) < (s1.e : Int)
    · have e : getL la lb = some s1 := by unfold getL; rw [a1, a2]; simp only [Option.toList_some, newest, List.cons_append, List.nil_append, List.foldl_cons, List.foldl_nil, newer]; rw [if_neg (by omega)]
      rw [e]; exact refGet_YYg _ _ s1 p1 s2 p2 hg (Lib.hid PA) (Lib.hid PB) w
    · have e : getL la lb = some s2 := by
        have : s1.e < s2.e := by simp at p1 p2; omega
        unfold getL; rw [a1, a2]; simp only [Option.toList_some, newest, List.cons_append, List.nil_append, List.foldl_cons, List.foldl_nil, newer]; rw [if_pos this]
      rw [e]; exact refGet_YYl _ _ s1 p1 s2 p2 (by omega) (Lib.hid PA) (Lib.hid PB) w
  · have e : getL la lb = some s1 := by unfold getL; rw [a1, a2]; rfl
    rw [e]; exact refGet_YW _ _ s1 p1 s2 p2 (Lib.hid PA) (Lib.hid PB) w
  · have e : getL la lb = some s1 := by unfold getL; rw [a1, a2]; rfl
    rw [e]; exact refGet_YN _ _ s1 p1 e2 b2 u2 (Lib.hid PA) (Lib.hid PB) w
  · have e : getL la lb = some s2 := by unfold getL; rw [a1, a2]; rfl
    rw [e]; exact refGet_WY _ _ s1 p1 s2 p2 (Lib.hid PA) (Lib.hid PB) w
  · have e : getL la lb = none := by unfold getL; rw [a1, a2]; rfl
    rw [e]; exact refGet_WW _ _ s1 p1 s2 p2 (Lib.hid PA) (Lib.hid PB) w
  · have e : getL la lb = none := by unfold getL; rw [a1, a2]; rfl
    rw [e]; exact refGet_WN _ _ s1 p1 e2 b2 u2 (Lib.hid PA) (Lib.hid PB) w
  · have e : getL la lb = some s2 := by unfold getL; rw [a1, a2]; rfl
    rw [e]; exact refGet_NY _ _ e1 b1 u1 s2 p2 (Lib.hid PA) (Lib.hid PB) w
  · have e : getL la lb = none := by unfold getL; rw [a1, a2]; rfl
    rw [e]; exact refGet_NW _ _ e1 b1 u1 s2 p2 (Lib.hid PA) (Lib.hid PB) w
  · have e : getL la lb = none := by unfold getL; rw [a1, a2]; rfl
    rw [e]; exact refGet_NN _ _ e1 b1 u1 e2 b2 u2 (Lib.hid PA) (Lib.hid PB) w
end Go.Proofs.Ytjoenmmjpmnkfaa
