/- Words of a source: the law's example. -/
import Derived.Test.YtbpknainmefidaaGreatDoorWI
namespace Go.Proofs.YtbpknainmefidaaGreatDoor
open Go.RowKit Go.Lib
set_option linter.unusedVariables false

theorem lx_awake : Lx.lx [97, 60, 61, 98] = .ok [⟨1, [97], 0⟩, ⟨5, [60, 61], 1⟩, ⟨1, [98], 3⟩, ⟨0, [], 4⟩] := by decide +kernel
theorem Env.max' {w : World} {a : Addr} {m : Int} (h : Env w a m) : MaxAt w m := h.max
end Go.Proofs.YtbpknainmefidaaGreatDoor
