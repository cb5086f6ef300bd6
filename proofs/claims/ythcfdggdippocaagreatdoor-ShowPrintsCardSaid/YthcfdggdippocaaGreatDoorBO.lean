/- Wide numbers: Of. -/
import Derived.Test.YthcfdggdippocaaGreatDoorC2
import Derived.Test.YthcfdggdippocaaGreatDoorV1
import Derived.Test.YthcfdggdippocaaGreatDoorRows
import Derived.WalkKit
import Derived.ProofKit
import Derived.OpenShut
import Derived.IntWalk
import Derived.Lib.Hide
import Derived.WalkSmall
import Derived.RegionTactic
import Derived.ChangeAlike
import Derived.BigRegion
import Derived.Deep.QuietTactic
import Derived.BigQuiet
import Derived.Deep.Fields
import Derived.Handy
import Derived.Lib.EndianBits
namespace Go.Proofs.YthcfdggdippocaaGreatDoor
open Go.RowKit

theorem Tryz.cells90 : Tryz.prog.cellsOf 90 = 5 := by kernel_rfl
theorem Tryz.cells92 : Tryz.prog.cellsOf 92 = 6 := by kernel_rfl
theorem Tryz.cells89 : Tryz.prog.cellsOf 89 = 1 := by kernel_rfl
theorem Tryz.cells4 : Tryz.prog.cellsOf 4 = 1 := by kernel_rfl

/-- a wide number as a value. -/
abbrev wide (s : Bool) (p0 p1 p2 p3 p4 : Int) : Value := .agg #[.bool s, .int .u64 p0, .int .u64 p1, .int .u64 p2, .int .u64 p3, .int .u64 p4]

set_option maxRecDepth 100000 in
theorem of_pos (a : Int) (w : World) (h0 : 0 ≤ a) (h1 : a ≤ 9223372036854775807) :
    Calls Tryz.prog 58 #[.int .i64 a] w fun e w' => e = .returned (wide false (a % 4294967296) (a / 4294967296) 0 0 0) ∧ Below w.heap.size w w' := by
  have hd : decide (a < 0) = false := decide_eq_false (by omega)
  go_enter Tryz.func58, Tryz.ntmps58
  go_wp2
  exact bodyPost_ret (v := wide false (a % 4294967296) (a / 4294967296) 0 0 0) (by simp [results, Tryz.results58, go_sem]) rfl ⟨rfl, ((Below.refl _ _).alloc (Nat.le_refl _) _).alloc (by simp) _⟩

set_option maxRecDepth 100000 in
theorem of_neg (m : Int) (w : World) (h0 : 1 ≤ m) (h1 : m ≤ 9223372036854775808) :
    Calls Tryz.prog 58 #[.int .i64 (-m)] w fun e w' => e = .returned (wide true (m % 4294967296) (m / 4294967296) 0 0 0) ∧ Below w.heap.size w w' := by
  have hd : decide (-m < 0) = true := decide_eq_true (by omega)
  have hd2 : decide (0 < m) = true := decide_eq_true (by omega)
  have hw : IntKind.u64.wrap (-IntKind.u64.wrap (-m)) = m := by rw [IntKind.wrap_u64, IntKind.wrap_u64]; omega
  go_enter Tryz.func58, Tryz.ntmps58
  go_wp2
  exact bodyPost_ret (v := wide true (m % 4294967296) (m / 4294967296) 0 0 0) (by simp [results, Tryz.results58, go_sem]) rfl ⟨rfl, ((Below.refl _ _).alloc (Nat.le_refl _) _).alloc (by simp) _⟩

/-- the size of a wide number; a part of it. -/
def size (p0 p1 p2 p3 p4 : Int) : Int := p0 + 4294967296 * p1 + 18446744073709551616 * p2 + 79228162514264337593543950336 * p3 + 340282366920938463463374607431768211456 * p4
def Part (p : Int) : Prop := 0 ≤ p ∧ p ≤ 4294967295
end Go.Proofs.YthcfdggdippocaaGreatDoor
