/- Words of a source, walked: is it a reserved word? -/
import Derived.Test.YtbpknainmefidaaGreatDoorWA
namespace Go.Proofs.YtbpknainmefidaaGreatDoor
open Go.RowKit Go.Lib
set_option linter.unusedVariables false

theorem retB2 {a b : Bool} (h : a = b) : Ending.returned (.bool a) = .returned (.bool b) := by rw [h]
theorem reserved_eq : Lx.reserved = [[97, 100, 100], [100, 114, 111, 112], [114, 101, 110, 97, 109, 101], [115, 112, 108, 105, 116], [109, 101, 114, 103, 101], [114, 101, 116, 121, 112, 101], [105, 110, 116, 111], [116, 111], [98, 97, 99, 107], [97, 110, 100], [111, 114], [110, 111, 116], [116, 114, 117, 101], [102, 97, 108, 115, 101], [110, 117, 108, 108], [105, 110, 116], [116, 101, 120, 116], [98, 111, 111, 108], [115, 101, 108, 101, 99, 116], [119, 104, 101, 114, 101], [102, 114, 111, 109], [108, 105, 109, 105, 116]] := by decide +kernel
theorem res_no (l : List UInt8) : Lx.res l = false ↔ ((l == [97, 100, 100]) = false ∧ (l == [100, 114, 111, 112]) = false ∧ (l == [114, 101, 110, 97, 109, 101]) = false ∧ (l == [115, 112, 108, 105, 116]) = false ∧ (l == [109, 101, 114, 103, 101]) = false ∧ (l == [114, 101, 116, 121, 112, 101]) = false ∧ (l == [105, 110, 116, 111]) = false ∧ (l == [116, 111]) = false ∧ (l == [98, 97, 99, 107]) = false ∧ (l == [97, 110, 100]) = false ∧ (l == [111, 114]) = false ∧ (l == [110, 111, 116]) = false ∧ (l == [116, 114, 117, 101]) = false ∧ (l == [102, 97, 108, 115, 101]) = false ∧ (l == [110, 117, 108, 108]) = false ∧ (l == [105, 110, 116]) = false ∧ (l == [116, 101, 120, 116]) = false ∧ (l == [98, 111, 111, 108]) = false ∧ (l == [115, 101, 108, 101, 99, 116]) = false ∧ (l == [119, 104, 101, 114, 101]) = false ∧ (l == [102, 114, 111, 109]) = false ∧ (l == [108, 105, 109, 105, 116]) = false) := by
  rw [Lx.res, reserved_eq]
  simp only [List.contains_cons, List.contains_nil, Bool.or_eq_false_iff, and_true, beq_eq_false_iff_ne]
set_option maxRecDepth 100000 in
theorem reserved_0 (s : ByteArray) (w : World)  (h0 : (s.toList == [97, 100, 100]) = true) :
    Calls Tryz.prog 72 #[.string s] w fun e w' => e = .returned (.bool true) ∧ w' = w := by
  go_enter Tryz.func72, Tryz.ntmps72
  go_wp2
  go_ret
  exact ⟨rfl, rfl⟩
set_option maxRecDepth 100000 in
theorem reserved_1 (s : ByteArray) (w : World) (h0 : (s.toList == [97, 100, 100]) = false) (h1 : (s.toList == [100, 114, 111, 112]) = true) :
    Calls Tryz.prog 72 #[.string s] w fun e w' => e = .returned (.bool true) ∧ w' = w := by
  go_enter Tryz.func72, Tryz.ntmps72
  go_wp2
  go_ret
  exact ⟨rfl, rfl⟩
set_option maxRecDepth 100000 in
theorem reserved_2 (s : ByteArray) (w : World) (h0 : (s.toList == [97, 100, 100]) = false) (h1 : (s.toList == [100, 114, 111, 112]) = false) (h2 : (s.toList == [114, 101, 110, 97, 109, 101]) = true) :
    Calls Tryz.prog 72 #[.string s] w fun e w' => e = .returned (.bool true) ∧ w' = w := by
  go_enter Tryz.func72, Tryz.ntmps72
  go_wp2
  go_ret
  exact ⟨rfl, rfl⟩
set_option maxRecDepth 100000 in
theorem reserved_3 (s : ByteArray) (w : World) (h0 : (s.toList == [97, 100, 100]) = false) (h1 : (s.toList == [100, 114, 111, 112]) = false) (h2 : (s.toList == [114, 101, 110, 97, 109, 101]) = false) (h3 : (s.toList == [115, 112, 108, 105, 116]) = true) :
    Calls Tryz.prog 72 #[.string s] w fun e w' => e = .returned (.bool true) ∧ w' = w := by
  go_enter Tryz.func72, Tryz.ntmps72
  go_wp2
  go_ret
  exact ⟨rfl, rfl⟩
set_option maxRecDepth 100000 in
theorem reserved_4 (s : ByteArray) (w : World) (h0 : (s.toList == [97, 100, 100]) = false) (h1 : (s.toList == [100, 114, 111, 112]) = false) (h2 : (s.toList == [114, 101, 110, 97, 109, 101]) = false) (h3 : (s.toList == [115, 112, 108, 105, 116]) = false) (h4 : (s.toList == [109, 101, 114, 103, 101]) = true) :
    Calls Tryz.prog 72 #[.string s] w fun e w' => e = .returned (.bool true) ∧ w' = w := by
  go_enter Tryz.func72, Tryz.ntmps72
  go_wp2
  go_ret
  exact ⟨rfl, rfl⟩
set_option maxRecDepth 100000 in
theorem reserved_5 (s : ByteArray) (w : World) (h0 : (s.toList == [97, 100, 100]) = false) (h1 : (s.toList == [100, 114, 111, 112]) = false) (h2 : (s.toList == [114, 101, 110, 97, 109, 101]) = false) (h3 : (s.toList == [115, 112, 108, 105, 116]) = false) (h4 : (s.toList == [109, 101, 114, 103, 101]) = false) (h5 : (s.toList == [114, 101, 116, 121, 112, 101]) = true) :
    Calls Tryz.prog 72 #[.string s] w fun e w' => e = .returned (.bool true) ∧ w' = w := by
  go_enter Tryz.func72, Tryz.ntmps72
  go_wp2
  go_ret
  exact ⟨rfl, rfl⟩
set_option maxRecDepth 100000 in
theorem reserved_6 (s : ByteArray) (w : World) (h0 : (s.toList == [97, 100, 100]) = false) (h1 : (s.toList == [100, 114, 111, 112]) = false) (h2 : (s.toList == [114, 101, 110, 97, 109, 101]) = false) (h3 : (s.toList == [115, 112, 108, 105, 116]) = false) (h4 : (s.toList == [109, 101, 114, 103, 101]) = false) (h5 : (s.toList == [114, 101, 116, 121, 112, 101]) = false) (h6 : (s.toList == [105, 110, 116, 111]) = true) :
    Calls Tryz.prog 72 #[.string s] w fun e w' => e = .returned (.bool true) ∧ w' = w := by
  go_enter Tryz.func72, Tryz.ntmps72
  go_wp2
  go_ret
  exact ⟨rfl, rfl⟩
set_option maxRecDepth 100000 in
theorem reserved_7 (s : ByteArray) (w : World) (h0 : (s.toList == [97, 100, 100]) = false) (h1 : (s.toList == [100, 114, 111, 112]) = false) (h2 : (s.toList == [114, 101, 110, 97, 109, 101]) = false) (h3 : (s.toList == [115, 112, 108, 105, 116]) = false) (h4 : (s.toList == [109, 101, 114, 103, 101]) = false) (h5 : (s.toList == [114, 101, 116, 121, 112, 101]) = false) (h6 : (s.toList == [105, 110, 116, 111]) = false) (h7 : (s.toList == [116, 111]) = true) :
    Calls Tryz.prog 72 #[.string s] w fun e w' => e = .returned (.bool true) ∧ w' = w := by
  go_enter Tryz.func72, Tryz.ntmps72
  go_wp2
  go_ret
  exact ⟨rfl, rfl⟩
set_option maxRecDepth 100000 in
theorem reserved_8 (s : ByteArray) (w : World) (h0 : (s.toList == [97, 100, 100]) = false) (h1 : (s.toList == [100, 114, 111, 112]) = false) (h2 : (s.toList == [114, 101, 110, 97, 109, 101]) = false) (h3 : (s.toList == [115, 112, 108, 105, 116]) = false) (h4 : (s.toList == [109, 101, 114, 103, 101]) = false) (h5 : (s.toList == [114, 101, 116, 121, 112, 101]) = false) (h6 : (s.toList == [105, 110, 116, 111]) = false) (h7 : (s.toList == [116, 111]) = false) (h8 : (s.toList == [98, 97, 99, 107]) = true) :
    Calls Tryz.prog 72 #[.string s] w fun e w' => e = .returned (.bool true) ∧ w' = w := by
  go_enter Tryz.func72, Tryz.ntmps72
  go_wp2
  go_ret
  exact ⟨rfl, rfl⟩
set_option maxRecDepth 100000 in
theorem reserved_9 (s : ByteArray) (w : World) (h0 : (s.toList == [97, 100, 100]) = false) (h1 : (s.toList == [100, 114, 111, 112]) = false) (h2 : (s.toList == [114, 101, 110, 97, 109, 101]) = false) (h3 : (s.toList == [115, 112, 108, 105, 116]) = false) (h4 : (s.toList == [109, 101, 114, 103, 101]) = false) (h5 : (s.toList == [114, 101, 116, 121, 112, 101]) = false) (h6 : (s.toList == [105, 110, 116, 111]) = false) (h7 : (s.toList == [116, 111]) = false) (h8 : (s.toList == [98, 97, 99, 107]) = false) (h9 : (s.toList == [97, 110, 100]) = true) :
    Calls Tryz.prog 72 #[.string s] w fun e w' => e = .returned (.bool true) ∧ w' = w := by
  go_enter Tryz.func72, Tryz.ntmps72
  go_wp2
  go_ret
  exact ⟨rfl, rfl⟩
set_option maxRecDepth 100000 in
theorem reserved_10 (s : ByteArray) (w : World) (h0 : (s.toList == [97, 100, 100]) = false) (h1 : (s.toList == [100, 114, 111, 112]) = false) (h2 : (s.toList == [114, 101, 110, 97, 109, 101]) = false) (h3 : (s.toList == [115, 112, 108, 105, 116]) = false) (h4 : (s.toList == [109, 101, 114, 103, 101]) = false) (h5 : (s.toList == [114, 101, 116, 121, 112, 101]) = false) (h6 : (s.toList == [105, 110, 116, 111]) = false) (h7 : (s.toList == [116, 111]) = false) (h8 : (s.toList == [98, 97, 99, 107]) = false) (h9 : (s.toList == [97, 110, 100]) = false) (h10 : (s.toList == [111, 114]) = true) :
    Calls Tryz.prog 72 #[.string s] w fun e w' => e = .returned (.bool true) ∧ w' = w := by
  go_enter Tryz.func72, Tryz.ntmps72
  go_wp2
  go_ret
  exact ⟨rfl, rfl⟩
set_option maxRecDepth 100000 in
theorem reserved_11 (s : ByteArray) (w : World) (h0 : (s.toList == [97, 100, 100]) = false) (h1 : (s.toList == [100, 114, 111, 112]) = false) (h2 : (s.toList == [114, 101, 110, 97, 109, 101]) = false) (h3 : (s.toList == [115, 112, 108, 105, 116]) = false) (h4 : (s.toList == [109, 101, 114, 103, 101]) = false) (h5 : (s.toList == [114, 101, 116, 121, 112, 101]) = false) (h6 : (s.toList == [105, 110, 116, 111]) = false) (h7 : (s.toList == [116, 111]) = false) (h8 : (s.toList == [98, 97, 99, 107]) = false) (h9 : (s.toList == [97, 110, 100]) = false) (h10 : (s.toList == [111, 114]) = false) (h11 : (s.toList == [110, 111, 116]) = true) :
    Calls Tryz.prog 72 #[.string s] w fun e w' => e = .returned (.bool true) ∧ w' = w := by
  go_enter Tryz.func72, Tryz.ntmps72
  go_wp2
  go_ret
  exact ⟨rfl, rfl⟩
set_option maxRecDepth 100000 in
theorem reserved_12 (s : ByteArray) (w : World) (h0 : (s.toList == [97, 100, 100]) = false) (h1 : (s.toList == [100, 114, 111, 112]) = false) (h2 : (s.toList == [114, 101, 110, 97, 109, 101]) = false) (h3 : (s.toList == [115, 112, 108, 105, 116]) = false) (h4 : (s.toList == [109, 101, 114, 103, 101]) = false) (h5 : (s.toList == [114, 101, 116, 121, 112, 101]) = false) (h6 : (s.toList == [105, 110, 116, 111]) = false) (h7 : (s.toList == [116, 111]) = false) (h8 : (s.toList == [98, 97, 99, 107]) = false) (h9 : (s.toList == [97, 110, 100]) = false) (h10 : (s.toList == [111, 114]) = false) (h11 : (s.toList == [110, 111, 116]) = false) (h12 : (s.toList == [116, 114, 117, 101]) = true) :
    Calls Tryz.prog 72 #[.string s] w fun e w' => e = .returned (.bool true) ∧ w' = w := by
  go_enter Tryz.func72, Tryz.ntmps72
  go_wp2
  go_ret
  exact ⟨rfl, rfl⟩
set_option maxRecDepth 100000 in
theorem reserved_13 (s : ByteArray) (w : World) (h0 : (s.toList == [97, 100, 100]) = false) (h1 : (s.toList == [100, 114, 111, 112]) = false) (h2 : (s.toList == [114, 101, 110, 97, 109, 101]) = false) (h3 : (s.toList == [115, 112, 108, 105, 116]) = false) (h4 : (s.toList == [109, 101, 114, 103, 101]) = false) (h5 : (s.toList == [114, 101, 116, 121, 112, 101]) = false) (h6 : (s.toList == [105, 110, 116, 111]) = false) (h7 : (s.toList == [116, 111]) = false) (h8 : (s.toList == [98, 97, 99, 107]) = false) (h9 : (s.toList == [97, 110, 100]) = false) (h10 : (s.toList == [111, 114]) = false) (h11 : (s.toList == [110, 111, 116]) = false) (h12 : (s.toList == [116, 114, 117, 101]) = false) (h13 : (s.toList == [102, 97, 108, 115, 101]) = true) :
    Calls Tryz.prog 72 #[.string s] w fun e w' => e = .returned (.bool true) ∧ w' = w := by
  go_enter Tryz.func72, Tryz.ntmps72
  go_wp2
  go_ret
  exact ⟨rfl, rfl⟩
set_option maxRecDepth 100000 in
theorem reserved_14 (s : ByteArray) (w : World) (h0 : (s.toList == [97, 100, 100]) = false) (h1 : (s.toList == [100, 114, 111, 112]) = false) (h2 : (s.toList == [114, 101, 110, 97, 109, 101]) = false) (h3 : (s.toList == [115, 112, 108, 105, 116]) = false) (h4 : (s.toList == [109, 101, 114, 103, 101]) = false) (h5 : (s.toList == [114, 101, 116, 121, 112, 101]) = false) (h6 : (s.toList == [105, 110, 116, 111]) = false) (h7 : (s.toList == [116, 111]) = false) (h8 : (s.toList == [98, 97, 99, 107]) = false) (h9 : (s.toList == [97, 110, 100]) = false) (h10 : (s.toList == [111, 114]) = false) (h11 : (s.toList == [110, 111, 116]) = false) (h12 : (s.toList == [116, 114, 117, 101]) = false) (h13 : (s.toList == [102, 97, 108, 115, 101]) = false) (h14 : (s.toList == [110, 117, 108, 108]) = true) :
    Calls Tryz.prog 72 #[.string s] w fun e w' => e = .returned (.bool true) ∧ w' = w := by
  go_enter Tryz.func72, Tryz.ntmps72
  go_wp2
  go_ret
  exact ⟨rfl, rfl⟩
set_option maxRecDepth 100000 in
theorem reserved_15 (s : ByteArray) (w : World) (h0 : (s.toList == [97, 100, 100]) = false) (h1 : (s.toList == [100, 114, 111, 112]) = false) (h2 : (s.toList == [114, 101, 110, 97, 109, 101]) = false) (h3 : (s.toList == [115, 112, 108, 105, 116]) = false) (h4 : (s.toList == [109, 101, 114, 103, 101]) = false) (h5 : (s.toList == [114, 101, 116, 121, 112, 101]) = false) (h6 : (s.toList == [105, 110, 116, 111]) = false) (h7 : (s.toList == [116, 111]) = false) (h8 : (s.toList == [98, 97, 99, 107]) = false) (h9 : (s.toList == [97, 110, 100]) = false) (h10 : (s.toList == [111, 114]) = false) (h11 : (s.toList == [110, 111, 116]) = false) (h12 : (s.toList == [116, 114, 117, 101]) = false) (h13 : (s.toList == [102, 97, 108, 115, 101]) = false) (h14 : (s.toList == [110, 117, 108, 108]) = false) (h15 : (s.toList == [105, 110, 116]) = true) :
    Calls Tryz.prog 72 #[.string s] w fun e w' => e = .returned (.bool true) ∧ w' = w := by
  go_enter Tryz.func72, Tryz.ntmps72
  go_wp2
  go_ret
  exact ⟨rfl, rfl⟩
set_option maxRecDepth 100000 in
theorem reserved_16 (s : ByteArray) (w : World) (h0 : (s.toList == [97, 100, 100]) = false) (h1 : (s.toList == [100, 114, 111, 112]) = false) (h2 : (s.toList == [114, 101, 110, 97, 109, 101]) = false) (h3 : (s.toList == [115, 112, 108, 105, 116]) = false) (h4 : (s.toList == [109, 101, 114, 103, 101]) = false) (h5 : (s.toList == [114, 101, 116, 121, 112, 101]) = false) (h6 : (s.toList == [105, 110, 116, 111]) = false) (h7 : (s.toList == [116, 111]) = false) (h8 : (s.toList == [98, 97, 99, 107]) = false) (h9 : (s.toList == [97, 110, 100]) = false) (h10 : (s.toList == [111, 114]) = false) (h11 : (s.toList == [110, 111, 116]) = false) (h12 : (s.toList == [116, 114, 117, 101]) = false) (h13 : (s.toList == [102, 97, 108, 115, 101]) = false) (h14 : (s.toList == [110, 117, 108, 108]) = false) (h15 : (s.toList == [105, 110, 116]) = false) (h16 : (s.toList == [116, 101, 120, 116]) = true) :
    Calls Tryz.prog 72 #[.string s] w fun e w' => e = .returned (.bool true) ∧ w' = w := by
  go_enter Tryz.func72, Tryz.ntmps72
  go_wp2
  go_ret
  exact ⟨rfl, rfl⟩
set_option maxRecDepth 100000 in
theorem reserved_17 (s : ByteArray) (w : World) (h0 : (s.toList == [97, 100, 100]) = false) (h1 : (s.toList == [100, 114, 111, 112]) = false) (h2 : (s.toList == [114, 101, 110, 97, 109, 101]) = false) (h3 : (s.toList == [115, 112, 108, 105, 116]) = false) (h4 : (s.toList == [109, 101, 114, 103, 101]) = false) (h5 : (s.toList == [114, 101, 116, 121, 112, 101]) = false) (h6 : (s.toList == [105, 110, 116, 111]) = false) (h7 : (s.toList == [116, 111]) = false) (h8 : (s.toList == [98, 97, 99, 107]) = false) (h9 : (s.toList == [97, 110, 100]) = false) (h10 : (s.toList == [111, 114]) = false) (h11 : (s.toList == [110, 111, 116]) = false) (h12 : (s.toList == [116, 114, 117, 101]) = false) (h13 : (s.toList == [102, 97, 108, 115, 101]) = false) (h14 : (s.toList == [110, 117, 108, 108]) = false) (h15 : (s.toList == [105, 110, 116]) = false) (h16 : (s.toList == [116, 101, 120, 116]) = false) (h17 : (s.toList == [98, 111, 111, 108]) = true) :
    Calls Tryz.prog 72 #[.string s] w fun e w' => e = .returned (.bool true) ∧ w' = w := by
  go_enter Tryz.func72, Tryz.ntmps72
  go_wp2
  go_ret
  exact ⟨rfl, rfl⟩
set_option maxRecDepth 100000 in
theorem reserved_18 (s : ByteArray) (w : World) (h0 : (s.toList == [97, 100, 100]) = false) (h1 : (s.toList == [100, 114, 111, 112]) = false) (h2 : (s.toList == [114, 101, 110, 97, 109, 101]) = false) (h3 : (s.toList == [115, 112, 108, 105, 116]) = false) (h4 : (s.toList == [109, 101, 114, 103, 101]) = false) (h5 : (s.toList == [114, 101, 116, 121, 112, 101]) = false) (h6 : (s.toList == [105, 110, 116, 111]) = false) (h7 : (s.toList == [116, 111]) = false) (h8 : (s.toList == [98, 97, 99, 107]) = false) (h9 : (s.toList == [97, 110, 100]) = false) (h10 : (s.toList == [111, 114]) = false) (h11 : (s.toList == [110, 111, 116]) = false) (h12 : (s.toList == [116, 114, 117, 101]) = false) (h13 : (s.toList == [102, 97, 108, 115, 101]) = false) (h14 : (s.toList == [110, 117, 108, 108]) = false) (h15 : (s.toList == [105, 110, 116]) = false) (h16 : (s.toList == [116, 101, 120, 116]) = false) (h17 : (s.toList == [98, 111, 111, 108]) = false) (h18 : (s.toList == [115, 101, 108, 101, 99, 116]) = true) :
    Calls Tryz.prog 72 #[.string s] w fun e w' => e = .returned (.bool true) ∧ w' = w := by
  go_enter Tryz.func72, Tryz.ntmps72
  go_wp2
  go_ret
  exact ⟨rfl, rfl⟩
set_option maxRecDepth 100000 in
theorem reserved_19 (s : ByteArray) (w : World) (h0 : (s.toList == [97, 100, 100]) = false) (h1 : (s.toList == [100, 114, 111, 112]) = false) (h2 : (s.toList == [114, 101, 110, 97, 109, 101]) = false) (h3 : (s.toList == [115, 112, 108, 105, 116]) = false) (h4 : (s.toList == [109, 101, 114, 103, 101]) = false) (h5 : (s.toList == [114, 101, 116, 121, 112, 101]) = false) (h6 : (s.toList == [105, 110, 116, 111]) = false) (h7 : (s.toList == [116, 111]) = false) (h8 : (s.toList == [98, 97, 99, 107]) = false) (h9 : (s.toList == [97, 110, 100]) = false) (h10 : (s.toList == [111, 114]) = false) (h11 : (s.toList == [110, 111, 116]) = false) (h12 : (s.toList == [116, 114, 117, 101]) = false) (h13 : (s.toList == [102, 97, 108, 115, 101]) = false) (h14 : (s.toList == [110, 117, 108, 108]) = false) (h15 : (s.toList == [105, 110, 116]) = false) (h16 : (s.toList == [116, 101, 120, 116]) = false) (h17 : (s.toList == [98, 111, 111, 108]) = false) (h18 : (s.toList == [115, 101, 108, 101, 99, 116]) = false) (h19 : (s.toList == [119, 104, 101, 114, 101]) = true) :
    Calls Tryz.prog 72 #[.string s] w fun e w' => e = .returned (.bool true) ∧ w' = w := by
  go_enter Tryz.func72, Tryz.ntmps72
  go_wp2
  go_ret
  exact ⟨rfl, rfl⟩
set_option maxRecDepth 100000 in
theorem reserved_20 (s : ByteArray) (w : World) (h0 : (s.toList == [97, 100, 100]) = false) (h1 : (s.toList == [100, 114, 111, 112]) = false) (h2 : (s.toList == [114, 101, 110, 97, 109, 101]) = false) (h3 : (s.toList == [115, 112, 108, 105, 116]) = false) (h4 : (s.toList == [109, 101, 114, 103, 101]) = false) (h5 : (s.toList == [114, 101, 116, 121, 112, 101]) = false) (h6 : (s.toList == [105, 110, 116, 111]) = false) (h7 : (s.toList == [116, 111]) = false) (h8 : (s.toList == [98, 97, 99, 107]) = false) (h9 : (s.toList == [97, 110, 100]) = false) (h10 : (s.toList == [111, 114]) = false) (h11 : (s.toList == [110, 111, 116]) = false) (h12 : (s.toList == [116, 114, 117, 101]) = false) (h13 : (s.toList == [102, 97, 108, 115, 101]) = false) (h14 : (s.toList == [110, 117, 108, 108]) = false) (h15 : (s.toList == [105, 110, 116]) = false) (h16 : (s.toList == [116, 101, 120, 116]) = false) (h17 : (s.toList == [98, 111, 111, 108]) = false) (h18 : (s.toList == [115, 101, 108, 101, 99, 116]) = false) (h19 : (s.toList == [119, 104, 101, 114, 101]) = false) (h20 : (s.toList == [102, 114, 111, 109]) = true) :
    Calls Tryz.prog 72 #[.string s] w fun e w' => e = .returned (.bool true) ∧ w' = w := by
  go_enter Tryz.func72, Tryz.ntmps72
  go_wp2
  go_ret
  exact ⟨rfl, rfl⟩
set_option maxRecDepth 100000 in
theorem reserved_21 (s : ByteArray) (w : World) (h0 : (s.toList == [97, 100, 100]) = false) (h1 : (s.toList == [100, 114, 111, 112]) = false) (h2 : (s.toList == [114, 101, 110, 97, 109, 101]) = false) (h3 : (s.toList == [115, 112, 108, 105, 116]) = false) (h4 : (s.toList == [109, 101, 114, 103, 101]) = false) (h5 : (s.toList == [114, 101, 116, 121, 112, 101]) = false) (h6 : (s.toList == [105, 110, 116, 111]) = false) (h7 : (s.toList == [116, 111]) = false) (h8 : (s.toList == [98, 97, 99, 107]) = false) (h9 : (s.toList == [97, 110, 100]) = false) (h10 : (s.toList == [111, 114]) = false) (h11 : (s.toList == [110, 111, 116]) = false) (h12 : (s.toList == [116, 114, 117, 101]) = false) (h13 : (s.toList == [102, 97, 108, 115, 101]) = false) (h14 : (s.toList == [110, 117, 108, 108]) = false) (h15 : (s.toList == [105, 110, 116]) = false) (h16 : (s.toList == [116, 101, 120, 116]) = false) (h17 : (s.toList == [98, 111, 111, 108]) = false) (h18 : (s.toList == [115, 101, 108, 101, 99, 116]) = false) (h19 : (s.toList == [119, 104, 101, 114, 101]) = false) (h20 : (s.toList == [102, 114, 111, 109]) = false) (h21 : (s.toList == [108, 105, 109, 105, 116]) = true) :
    Calls Tryz.prog 72 #[.string s] w fun e w' => e = .returned (.bool true) ∧ w' = w := by
  go_enter Tryz.func72, Tryz.ntmps72
  go_wp2
  go_ret
  exact ⟨rfl, rfl⟩
set_option maxRecDepth 100000 in
theorem reserved_none (s : ByteArray) (w : World) (h0 : (s.toList == [97, 100, 100]) = false) (h1 : (s.toList == [100, 114, 111, 112]) = false) (h2 : (s.toList == [114, 101, 110, 97, 109, 101]) = false) (h3 : (s.toList == [115, 112, 108, 105, 116]) = false) (h4 : (s.toList == [109, 101, 114, 103, 101]) = false) (h5 : (s.toList == [114, 101, 116, 121, 112, 101]) = false) (h6 : (s.toList == [105, 110, 116, 111]) = false) (h7 : (s.toList == [116, 111]) = false) (h8 : (s.toList == [98, 97, 99, 107]) = false) (h9 : (s.toList == [97, 110, 100]) = false) (h10 : (s.toList == [111, 114]) = false) (h11 : (s.toList == [110, 111, 116]) = false) (h12 : (s.toList == [116, 114, 117, 101]) = false) (h13 : (s.toList == [102, 97, 108, 115, 101]) = false) (h14 : (s.toList == [110, 117, 108, 108]) = false) (h15 : (s.toList == [105, 110, 116]) = false) (h16 : (s.toList == [116, 101, 120, 116]) = false) (h17 : (s.toList == [98, 111, 111, 108]) = false) (h18 : (s.toList == [115, 101, 108, 101, 99, 116]) = false) (h19 : (s.toList == [119, 104, 101, 114, 101]) = false) (h20 : (s.toList == [102, 114, 111, 109]) = false) (h21 : (s.toList == [108, 105, 109, 105, 116]) = false) :
    Calls Tryz.prog 72 #[.string s] w fun e w' => e = .returned (.bool false) ∧ w' = w := by
  go_enter Tryz.func72, Tryz.ntmps72
  go_wp2
  go_ret
  exact ⟨rfl, rfl⟩
theorem reserved_any (s : ByteArray) (w : World) :
    Calls Tryz.prog 72 #[.string s] w fun e w' => e = .returned (.bool (Lx.res s.data.toList)) ∧ w' = w := by
  have hl : s.toList = s.data.toList := ByteArray.toList_eq s
  cases hr : Lx.res s.data.toList
  · rw [← hl] at hr
    obtain ⟨h0, h1, h2, h3, h4, h5, h6, h7, h8, h9, h10, h11, h12, h13, h14, h15, h16, h17, h18, h19, h20, h21⟩ := (res_no _).1 hr
    exact reserved_none s w h0 h1 h2 h3 h4 h5 h6 h7 h8 h9 h10 h11 h12 h13 h14 h15 h16 h17 h18 h19 h20 h21
  · rw [← hl] at hr
    cases h0 : s.toList == [97, 100, 100]
    case true => exact reserved_0 s w h0
    cases h1 : s.toList == [100, 114, 111, 112]
    case true => exact reserved_1 s w h0 h1
    cases h2 : s.toList == [114, 101, 110, 97, 109, 101]
    case true => exact reserved_2 s w h0 h1 h2
    cases h3 : s.toList == [115, 112, 108, 105, 116]
    case true => exact reserved_3 s w h0 h1 h2 h3
    cases h4 : s.toList == [109, 101, 114, 103, 101]
    case true => exact reserved_4 s w h0 h1 h2 h3 h4
    cases h5 : s.toList == [114, 101, 116, 121, 112, 101]
    case true => exact reserved_5 s w h0 h1 h2 h3 h4 h5
    cases h6 : s.toList == [105, 110, 116, 111]
    case true => exact reserved_6 s w h0 h1 h2 h3 h4 h5 h6
    cases h7 : s.toList == [116, 111]
    case true => exact reserved_7 s w h0 h1 h2 h3 h4 h5 h6 h7
    cases h8 : s.toList == [98, 97, 99, 107]
    case true => exact reserved_8 s w h0 h1 h2 h3 h4 h5 h6 h7 h8
    cases h9 : s.toList == [97, 110, 100]
    case true => exact reserved_9 s w h0 h1 h2 h3 h4 h5 h6 h7 h8 h9
    cases h10 : s.toList == [111, 114]
    case true => exact reserved_10 s w h0 h1 h2 h3 h4 h5 h6 h7 h8 h9 h10
    cases h11 : s.toList == [110, 111, 116]
    case true => exact reserved_11 s w h0 h1 h2 h3 h4 h5 h6 h7 h8 h9 h10 h11
    cases h12 : s.toList == [116, 114, 117, 101]
    case true => exact reserved_12 s w h0 h1 h2 h3 h4 h5 h6 h7 h8 h9 h10 h11 h12
    cases h13 : s.toList == [102, 97, 108, 115, 101]
    case true => exact reserved_13 s w h0 h1 h2 h3 h4 h5 h6 h7 h8 h9 h10 h11 h12 h13
    cases h14 : s.toList == [110, 117, 108, 108]
    case true => exact reserved_14 s w h0 h1 h2 h3 h4 h5 h6 h7 h8 h9 h10 h11 h12 h13 h14
    cases h15 : s.toList == [105, 110, 116]
    case true => exact reserved_15 s w h0 h1 h2 h3 h4 h5 h6 h7 h8 h9 h10 h11 h12 h13 h14 h15
    cases h16 : s.toList == [116, 101, 120, 116]
    case true => exact reserved_16 s w h0 h1 h2 h3 h4 h5 h6 h7 h8 h9 h10 h11 h12 h13 h14 h15 h16
    cases h17 : s.toList == [98, 111, 111, 108]
    case true => exact reserved_17 s w h0 h1 h2 h3 h4 h5 h6 h7 h8 h9 h10 h11 h12 h13 h14 h15 h16 h17
    cases h18 : s.toList == [115, 101, 108, 101, 99, 116]
    case true => exact reserved_18 s w h0 h1 h2 h3 h4 h5 h6 h7 h8 h9 h10 h11 h12 h13 h14 h15 h16 h17 h18
    cases h19 : s.toList == [119, 104, 101, 114, 101]
    case true => exact reserved_19 s w h0 h1 h2 h3 h4 h5 h6 h7 h8 h9 h10 h11 h12 h13 h14 h15 h16 h17 h18 h19
    cases h20 : s.toList == [102, 114, 111, 109]
    case true => exact reserved_20 s w h0 h1 h2 h3 h4 h5 h6 h7 h8 h9 h10 h11 h12 h13 h14 h15 h16 h17 h18 h19 h20
    cases h21 : s.toList == [108, 105, 109, 105, 116]
    case true => exact reserved_21 s w h0 h1 h2 h3 h4 h5 h6 h7 h8 h9 h10 h11 h12 h13 h14 h15 h16 h17 h18 h19 h20 h21
    rw [(res_no _).2 ⟨h0, h1, h2, h3, h4, h5, h6, h7, h8, h9, h10, h11, h12, h13, h14, h15, h16, h17, h18, h19, h20, h21⟩] at hr
    cases hr
end Go.Proofs.YtbpknainmefidaaGreatDoor
