/- SuperPuts of any arguments. -/
import Derived.Test.YtjoenmmjpmnkfaaUZ
namespace Go.Proofs.Ytjoenmmjpmnkfaa
open Go.RowKit
theorem superPuts_all (size : Int) (a : Option Addr) (cap : Nat) (l : List TriS) (w : World) (hA : CameS w a l) : Calls Try.prog 3 #[.int .i64 size, .slice a l.length cap] w fun e w' => e = .returned (.bool true) ∧ Below w.heap.size w w' := by
  by_cases h : size < 64 ∨ 1024 < size
  · exact puts_bad a cap l.length size h w
  · obtain ⟨n, rfl⟩ : ∃ n : Nat, size = n := ⟨size.toNat, by omega⟩
    rcases Nat.lt_or_ge 40 l.length with hl | hl
    · exact puts_long a cap l.length hl n (by omega) (by omega) w
    · exact puts_few a cap l hl n (by omega) (by omega) w hA
end Go.Proofs.Ytjoenmmjpmnkfaa
