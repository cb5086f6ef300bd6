/- LexTells. -/
import Derived.Test.YtpffechllcnnaaaGreatDoorWT0
import Derived.Test.YtpffechllcnnaaaGreatDoorWR
namespace Go.Proofs.YtpffechllcnnaaaGreatDoor
open Go.RowKit Go.Lib
set_option linter.unusedVariables false
/-- LexTells, for all that comes. -/
theorem lexTells_all (s : ByteArray) (w : World) (a : Addr) (m : Int) (hv : Env w a m) :
    Calls Tryz.prog 3 #[.string s] w fun e w' => e = .returned (.bool true) ∧ Below w.heap.size w w' := by
  by_cases h : 4100 < s.size
  · exact tells_long s w a m hv h
  · exact tells_any s w a m hv (by omega) (fun W => refLex_any s W)
end Go.Proofs.YtpffechllcnnaaaGreatDoor
