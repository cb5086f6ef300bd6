/-
  No cell of these rows narrows 'for every input' (looked for: loops, veiled, ifaces, maps, wideKeys, modest, calm, conditions, laid).
  DERIVED. THE GIVEN ROWS OF THIS SEAT. 4 by the template 'for every input the law returns true; each argument reads behind the call as it read before'; 0 by the template 'total and deterministic' (their statements: YtekbfjdjgpgmpaaTotals.lean).
  GIVEN WITH THE SEED: the statements are not yours to turn. If you find one false, say at which input.
  Laid BY PROGRAM, IN A SANDBOX (cutbox-rows.mjs): the forced cells as the released guide's own fill.sh prints them over the translation 067a6a32a505e633… (all of the seat's roots in one cut). By AI agents, Wed Nov 11 2026. No macro, syntax, notation, axiom, sorry.
-/
import Derived.Test.YtekbfjdjgpgmpaaChecked
import GoSem.Claim
import GoSem.ClaimJoined
import GoSem.ClaimMapViews
import Derived.JoinedTies
import Derived.KernelRfl
namespace Go.Proofs.Ytekbfjdjgpgmpaa
/- THE CELL 'sum', in the pinned program and in every row, IS THE sha256 OF THE DUMP (.gsa) THAT YtekbfjdjgpgmpaaProg.lean LOADS. Nothing in Lean hashes anything: it is a label: what it is worth is what the hold of that sum in a sandbox is worth. -/
noncomputable def Try.pinned : Pinned := { name := "ytekbfjdjgpgmpaa", sum := "067a6a32a505e633510a6ff5885ba18f3f78eabfe28f45e264b94f07519d7e4c", checked := Try.checked }
namespace Rows
def none {H : Type} : Left H := { results := [], args := [] }

/-- 'needlebeamlaw02.TrailPlays': WHATEVER THE INPUT: true; the input reads as it did. -/
def trailPlaysSpec : ChangeSpec := { name := "trailPlays", fn := fun _ => fun
  | [d] => { results := [.lit (.bool true)], args := [d] }
  | _ => none }
def trailPlaysRow : OpenClaim := { program := "ytekbfjdjgpgmpaa", sum := "067a6a32a505e633510a6ff5885ba18f3f78eabfe28f45e264b94f07519d7e4c", func := "needlebeam/needlebeamlaw02.TrailPlays", spec := "trailPlays", apart := false }
def TrailPlaysSaid : Prop := trailPlaysRow.holds Try.pinned (OpenSpec.ofChange trailPlaysSpec)

/-- ITS FALSE NEIGHBOUR: 'it returns false'. Refute it at one input. -/
def trailPlaysWrong : ChangeSpec := { name := "trailPlays", fn := fun _ => fun
  | [d] => { results := [.lit (.bool false)], args := [d] }
  | _ => none }
def TrailPlaysWrongFalsely : Prop := trailPlaysRow.holds Try.pinned (OpenSpec.ofChange trailPlaysWrong)

/-- 'needlebeamlaw02.TrailTurns': WHATEVER THE INPUT: true; the input reads as it did. -/
def trailTurnsSpec : ChangeSpec := { name := "trailTurns", fn := fun _ => fun
  | [d1, d2] => { results := [.lit (.bool true)], args := [d1, d2] }
  | _ => none }
def trailTurnsRow : OpenClaim := { program := "ytekbfjdjgpgmpaa", sum := "067a6a32a505e633510a6ff5885ba18f3f78eabfe28f45e264b94f07519d7e4c", func := "needlebeam/needlebeamlaw02.TrailTurns", spec := "trailTurns", apart := false }
def TrailTurnsSaid : Prop := trailTurnsRow.holds Try.pinned (OpenSpec.ofChange trailTurnsSpec)

/-- ITS FALSE NEIGHBOUR: 'it returns false'. Refute it at one input. -/
def trailTurnsWrong : ChangeSpec := { name := "trailTurns", fn := fun _ => fun
  | [d1, d2] => { results := [.lit (.bool false)], args := [d1, d2] }
  | _ => none }
def TrailTurnsWrongFalsely : Prop := trailTurnsRow.holds Try.pinned (OpenSpec.ofChange trailTurnsWrong)

/-- 'needlebeamlaw02.TrailNil': WHATEVER THE INPUT: true; the input reads as it did. -/
def trailNilSpec : ChangeSpec := { name := "trailNil", fn := fun _ => fun
  | [d1, d2] => { results := [.lit (.bool true)], args := [d1, d2] }
  | _ => none }
def trailNilRow : OpenClaim := { program := "ytekbfjdjgpgmpaa", sum := "067a6a32a505e633510a6ff5885ba18f3f78eabfe28f45e264b94f07519d7e4c", func := "needlebeam/needlebeamlaw02.TrailNil", spec := "trailNil", apart := false }
def TrailNilSaid : Prop := trailNilRow.holds Try.pinned (OpenSpec.ofChange trailNilSpec)

/-- ITS FALSE NEIGHBOUR: 'it returns false'. Refute it at one input. -/
def trailNilWrong : ChangeSpec := { name := "trailNil", fn := fun _ => fun
  | [d1, d2] => { results := [.lit (.bool false)], args := [d1, d2] }
  | _ => none }
def TrailNilWrongFalsely : Prop := trailNilRow.holds Try.pinned (OpenSpec.ofChange trailNilWrong)

/-- 'needlebeamlaw02.TrailNests': WHATEVER THE INPUT: true; the input reads as it did. -/
def trailNestsSpec : ChangeSpec := { name := "trailNests", fn := fun _ => fun
  | [d1, d2, d3] => { results := [.lit (.bool true)], args := [d1, d2, d3] }
  | _ => none }
def trailNestsRow : OpenClaim := { program := "ytekbfjdjgpgmpaa", sum := "067a6a32a505e633510a6ff5885ba18f3f78eabfe28f45e264b94f07519d7e4c", func := "needlebeam/needlebeamlaw02.TrailNests", spec := "trailNests", apart := false }
def TrailNestsSaid : Prop := trailNestsRow.holds Try.pinned (OpenSpec.ofChange trailNestsSpec)

/-- ITS FALSE NEIGHBOUR: 'it returns false'. Refute it at one input. -/
def trailNestsWrong : ChangeSpec := { name := "trailNests", fn := fun _ => fun
  | [d1, d2, d3] => { results := [.lit (.bool false)], args := [d1, d2, d3] }
  | _ => none }
def TrailNestsWrongFalsely : Prop := trailNestsRow.holds Try.pinned (OpenSpec.ofChange trailNestsWrong)

/- THE SECOND FORM. 'bulk': how many values and letters a reading holds, each counted each time it is reached (what is shared counts as often as it is met; a slice's spare places count too). A statement '..UptoSaid' is the law's where the arguments, and the package variables that the reading takes, are together of bulk at most 1048576: NARROWER than '..Said'. Prove '..Said' where nothing that the law and all that it calls make is longer than what came in: it says more and counts as full. Else prove '..UptoSaid'. A law counts once. -/
mutual
def uptoBulk {H : Type} : DataW H → Nat
  | .lit (.string bytes) => bytes.length + 1
  | .lit _ => 1
  | .nil => 1
  | .ptr d => uptoBulk d + 1
  | .slice elems spare => uptoBulkAll elems + uptoBulkAll spare + 1
  | .agg parts => uptoBulkAll parts + 1
  | .iface _ d => uptoBulk d + 1
  | .map entries => uptoBulkEntries entries + 1
  | .held _ => 1
def uptoBulkAll {H : Type} : List (DataW H) → Nat
  | [] => 0
  | d :: r => uptoBulk d + uptoBulkAll r
def uptoBulkEntries {H : Type} : List (Lit × DataW H) → Nat
  | [] => 0
  | x :: r => uptoBulkEntry x + uptoBulkEntries r
def uptoBulkEntry {H : Type} : Lit × DataW H → Nat
  | (.string bytes, d) => bytes.length + uptoBulk d + 1
  | (_, d) => uptoBulk d + 1
 end
def uptoSmall : (H : Type) → List (DataW H) → Bool := fun _ ds => decide (uptoBulkAll ds ≤ 1048576)
def OpenSpec.upto (s : _root_.Go.ChangeSpec) : _root_.Go.OpenSpec := { _root_.Go.OpenSpec.ofChange s with cond := some uptoSmall }

/-- 'needlebeamlaw02.TrailPlays', WHERE WHAT IT READS IS OF BULK AT MOST 1048576: true; the input reads as it did. -/
def trailPlaysUptoRow : OpenClaim := { program := "ytekbfjdjgpgmpaa", sum := "067a6a32a505e633510a6ff5885ba18f3f78eabfe28f45e264b94f07519d7e4c", func := "needlebeam/needlebeamlaw02.TrailPlays", spec := "trailPlays", apart := false, narrowed := true }
def TrailPlaysUptoSaid : Prop := trailPlaysUptoRow.holds Try.pinned (OpenSpec.upto trailPlaysSpec)

/-- 'needlebeamlaw02.TrailTurns', WHERE WHAT IT READS IS OF BULK AT MOST 1048576: true; the input reads as it did. -/
def trailTurnsUptoRow : OpenClaim := { program := "ytekbfjdjgpgmpaa", sum := "067a6a32a505e633510a6ff5885ba18f3f78eabfe28f45e264b94f07519d7e4c", func := "needlebeam/needlebeamlaw02.TrailTurns", spec := "trailTurns", apart := false, narrowed := true }
def TrailTurnsUptoSaid : Prop := trailTurnsUptoRow.holds Try.pinned (OpenSpec.upto trailTurnsSpec)

/-- 'needlebeamlaw02.TrailNil', WHERE WHAT IT READS IS OF BULK AT MOST 1048576: true; the input reads as it did. -/
def trailNilUptoRow : OpenClaim := { program := "ytekbfjdjgpgmpaa", sum := "067a6a32a505e633510a6ff5885ba18f3f78eabfe28f45e264b94f07519d7e4c", func := "needlebeam/needlebeamlaw02.TrailNil", spec := "trailNil", apart := false, narrowed := true }
def TrailNilUptoSaid : Prop := trailNilUptoRow.holds Try.pinned (OpenSpec.upto trailNilSpec)

/-- 'needlebeamlaw02.TrailNests', WHERE WHAT IT READS IS OF BULK AT MOST 1048576: true; the input reads as it did. -/
def trailNestsUptoRow : OpenClaim := { program := "ytekbfjdjgpgmpaa", sum := "067a6a32a505e633510a6ff5885ba18f3f78eabfe28f45e264b94f07519d7e4c", func := "needlebeam/needlebeamlaw02.TrailNests", spec := "trailNests", apart := false, narrowed := true }
def TrailNestsUptoSaid : Prop := trailNestsUptoRow.holds Try.pinned (OpenSpec.upto trailNestsSpec)

end Rows
end Go.Proofs.Ytekbfjdjgpgmpaa
