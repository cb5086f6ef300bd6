/- The law's read; SuperPuts where no disk is made, or too many are put. -/
import Derived.Test.YtjoenmmjpmnkfaaUX
import Derived.Test.YtjoenmmjpmnkfaaUM
import Derived.Test.YtjoenmmjpmnkfaaUP
import Derived.Test.YtjoenmmjpmnkfaaUT
namespace Go.Proofs.Ytjoenmmjpmnkfaa
open Go.RowKit
section
variable {w0 w : World} {p : Nat} {m : Mod} {n size D : Nat} {c : Nat → List UInt8}
set_option maxRecDepth 100000 in
theorem lawRead (h : OwnD w0 w p m) (hc : Calm m n size D c) (k : Nat) (hk : k < n) : Calls Try.prog 14 #[.pointer (some ⟨p, 0, none⟩), .int .i64 (k : Nat)] w fun e w' => ∃ g, e = .returned (.slice (some ⟨g, 0, none⟩) size size) ∧ BB w' g (pad size (c k)) ∧ (pad size (c k)).length = size ∧ Below w.heap.size w w' := by
  have RD := h.read (by rw [hc.waits]; decide) hc.dark k (by rw [hc.n]; exact hk)
  rw [hc.cont, hc.size] at RD
  have RD1 := Lib.hid RD
  clear RD h
  go_enter Try.func14, Try.ntmps14
  go_wp2_with fail
  refine RD1.out.mono ?_
  rintro r w1 ⟨g, rfl, hg, hb, hl, b1, -⟩
  have F := Lib.hid (And.intro hb (And.intro hl b1))
  clear hb hl b1 RD1
  go_wp2_with fail
  go_ret
  exact ⟨g, rfl, F.out⟩
end
set_option maxRecDepth 100000 in
set_option maxHeartbeats 2000000 in
theorem puts_bad (a : Option Addr) (cap : Nat) (ll : Nat) (size : Int) (hs : size < 64 ∨ 1024 < size) (w : World) : Calls Try.prog 3 #[.int .i64 size, .slice a ll cap] w fun e w' => e = .returned (.bool true) ∧ Below w.heap.size w w' := by
  go_enter Try.func3, Try.ntmps3
  go_wp2_with fail
  refine (awake8 _).mono ?_
  rintro r w1 ⟨rfl, b1⟩
  have B1 := Lib.hid b1
  clear b1
  go_wp2_with fail
  refine (new_bad 2 size w1 (by unfold badNew; omega)).mono ?_
  rintro r w2 ⟨rfl, hw2⟩
  rw [← hw2] at B1
  clear hw2
  go_wp2_with fail
  go_ret
  exact ⟨rfl, B1.out⟩
set_option maxRecDepth 100000 in
set_option maxHeartbeats 2000000 in
theorem puts_long (a : Option Addr) (cap : Nat) (ll : Nat) (hl : 40 < ll) (size : Nat) (h1 : 64 ≤ size) (h2 : size ≤ 1024) (w : World) : Calls Try.prog 3 #[.int .i64 (size : Nat), .slice a ll cap] w fun e w' => e = .returned (.bool true) ∧ Below w.heap.size w w' := by
  have hli : (40 : Int) < (ll : Int) := by omega
  go_enter Try.func3, Try.ntmps3
  go_wp2_with fail
  refine (awake8 _).mono ?_
  rintro r w1 ⟨rfl, b1⟩
  have B1 := Lib.hid b1
  clear b1
  go_wp2_with fail
  refine (newM 2 size w1 (by omega) (by omega) h1 h2).mono ?_
  rintro r w2 ⟨p, rfl, F, hd, hF, b2⟩
  have B2 := Lib.hid (below_next B1.out b2)
  clear hd hF b2
  go_wp2_with fail
  go_ret
  exact ⟨rfl, B2.out⟩
end Go.Proofs.Ytjoenmmjpmnkfaa
