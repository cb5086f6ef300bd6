/-
  No cell of these rows narrows 'for every input' (looked for: loops, veiled, ifaces, maps, wideKeys, modest, calm, conditions, laid).
  DERIVED. THE GIVEN ROWS OF THIS SEAT. 4 by the template 'for every input the law returns true; each argument reads behind the call as it read before'; 0 by the template 'total and deterministic' (their statements: YtcboakmfabdeoaaTotals.lean).
  GIVEN WITH THE SEED: the statements are not yours to turn. If you find one false, say at which input.
  Laid BY PROGRAM, IN A SANDBOX (cutbox-rows.mjs): the forced cells as the released guide's own fill.sh prints them over the translation a00f533237a5dc46… (all of the seat's roots in one cut). By AI agents, Wed Nov 11 2026. No macro, syntax, notation, axiom, sorry.
-/
import Derived.Test.YtcboakmfabdeoaaChecked
import GoSem.Claim
import GoSem.ClaimJoined
import GoSem.ClaimMapViews
import Derived.JoinedTies
import Derived.KernelRfl
namespace Go.Proofs.Ytcboakmfabdeoaa
/- THE CELL 'sum', in the pinned program and in every row, IS THE sha256 OF THE DUMP (.gsa) THAT YtcboakmfabdeoaaProg.lean LOADS. Nothing in Lean hashes anything: it is a label: what it is worth is what the hold of that sum in a sandbox is worth. -/
noncomputable def Try.pinned : Pinned := { name := "ytcboakmfabdeoaa", sum := "a00f533237a5dc4603989754efed7b4fc456f7c3e0cd796719d2e04b00095641", checked := Try.checked }
namespace Rows
def none {H : Type} : Left H := { results := [], args := [] }

/-- 'needlebeamlaw01.OrderPlays': WHATEVER THE INPUT: true; the input reads as it did. -/
def orderPlaysSpec : ChangeSpec := { name := "orderPlays", fn := fun _ => fun
  | [d1, d2, d3, d4] => { results := [.lit (.bool true)], args := [d1, d2, d3, d4] }
  | _ => none }
def orderPlaysRow : OpenClaim := { program := "ytcboakmfabdeoaa", sum := "a00f533237a5dc4603989754efed7b4fc456f7c3e0cd796719d2e04b00095641", func := "needlebeam/needlebeamlaw01.OrderPlays", spec := "orderPlays", inPlace := ["slices.overlaps[needlebeam/order.pair[int64, string]]", "slices.overlaps[*needlebeam/order.node[int64, string]]"], unfollowed := true, recurses := true, apart := false }
def OrderPlaysSaid : Prop := orderPlaysRow.holds Try.pinned (OpenSpec.ofChange orderPlaysSpec)

/-- ITS FALSE NEIGHBOUR: 'it returns false'. Refute it at one input. -/
def orderPlaysWrong : ChangeSpec := { name := "orderPlays", fn := fun _ => fun
  | [d1, d2, d3, d4] => { results := [.lit (.bool false)], args := [d1, d2, d3, d4] }
  | _ => none }
def OrderPlaysWrongFalsely : Prop := orderPlaysRow.holds Try.pinned (OpenSpec.ofChange orderPlaysWrong)

/-- 'needlebeamlaw01.OrderCopies': WHATEVER THE INPUT: true; the input reads as it did. -/
def orderCopiesSpec : ChangeSpec := { name := "orderCopies", fn := fun _ => fun
  | [d1, d2, d3] => { results := [.lit (.bool true)], args := [d1, d2, d3] }
  | _ => none }
def orderCopiesRow : OpenClaim := { program := "ytcboakmfabdeoaa", sum := "a00f533237a5dc4603989754efed7b4fc456f7c3e0cd796719d2e04b00095641", func := "needlebeam/needlebeamlaw01.OrderCopies", spec := "orderCopies", inPlace := ["slices.overlaps[needlebeam/order.pair[int64, string]]", "slices.overlaps[*needlebeam/order.node[int64, string]]"], unfollowed := true, recurses := true, apart := false }
def OrderCopiesSaid : Prop := orderCopiesRow.holds Try.pinned (OpenSpec.ofChange orderCopiesSpec)

/-- ITS FALSE NEIGHBOUR: 'it returns false'. Refute it at one input. -/
def orderCopiesWrong : ChangeSpec := { name := "orderCopies", fn := fun _ => fun
  | [d1, d2, d3] => { results := [.lit (.bool false)], args := [d1, d2, d3] }
  | _ => none }
def OrderCopiesWrongFalsely : Prop := orderCopiesRow.holds Try.pinned (OpenSpec.ofChange orderCopiesWrong)

/-- 'needlebeamlaw01.OrderRanks': WHATEVER THE INPUT: true; the input reads as it did. -/
def orderRanksSpec : ChangeSpec := { name := "orderRanks", fn := fun _ => fun
  | [d1, d2] => { results := [.lit (.bool true)], args := [d1, d2] }
  | _ => none }
def orderRanksRow : OpenClaim := { program := "ytcboakmfabdeoaa", sum := "a00f533237a5dc4603989754efed7b4fc456f7c3e0cd796719d2e04b00095641", func := "needlebeam/needlebeamlaw01.OrderRanks", spec := "orderRanks", inPlace := ["slices.overlaps[needlebeam/order.pair[int64, string]]", "slices.overlaps[*needlebeam/order.node[int64, string]]"], unfollowed := true, recurses := true, apart := false }
def OrderRanksSaid : Prop := orderRanksRow.holds Try.pinned (OpenSpec.ofChange orderRanksSpec)

/-- ITS FALSE NEIGHBOUR: 'it returns false'. Refute it at one input. -/
def orderRanksWrong : ChangeSpec := { name := "orderRanks", fn := fun _ => fun
  | [d1, d2] => { results := [.lit (.bool false)], args := [d1, d2] }
  | _ => none }
def OrderRanksWrongFalsely : Prop := orderRanksRow.holds Try.pinned (OpenSpec.ofChange orderRanksWrong)

/-- 'needlebeamlaw01.OrderNil': WHATEVER THE INPUT: true; the input reads as it did. -/
def orderNilSpec : ChangeSpec := { name := "orderNil", fn := fun _ => fun
  | [d1, d2, d3] => { results := [.lit (.bool true)], args := [d1, d2, d3] }
  | _ => none }
def orderNilRow : OpenClaim := { program := "ytcboakmfabdeoaa", sum := "a00f533237a5dc4603989754efed7b4fc456f7c3e0cd796719d2e04b00095641", func := "needlebeam/needlebeamlaw01.OrderNil", spec := "orderNil", inPlace := ["slices.overlaps[needlebeam/order.pair[int64, string]]", "slices.overlaps[*needlebeam/order.node[int64, string]]"], unfollowed := true, recurses := true, apart := false }
def OrderNilSaid : Prop := orderNilRow.holds Try.pinned (OpenSpec.ofChange orderNilSpec)

/-- ITS FALSE NEIGHBOUR: 'it returns false'. Refute it at one input. -/
def orderNilWrong : ChangeSpec := { name := "orderNil", fn := fun _ => fun
  | [d1, d2, d3] => { results := [.lit (.bool false)], args := [d1, d2, d3] }
  | _ => none }
def OrderNilWrongFalsely : Prop := orderNilRow.holds Try.pinned (OpenSpec.ofChange orderNilWrong)

/- THE SECOND FORM. 'bulk': how many values and letters a reading holds, each counted each time it is reached (what is shared counts as often as it is met; a slice's spare places count too). A statement '..UptoSaid' is the law's where the arguments, and the package variables that the reading takes, are together of bulk at most 1048576: NARROWER than '..Said'. Prove '..Said' where nothing that the law and all that it calls make is longer than what came in: it says more and counts as full. Else prove '..UptoSaid'. A law counts once. -/
mutual
def uptoBulk {H : Type} : DataW H → Nat
  | .lit (.string bytes) => bytes.length + 1
  | .lit _ => 1
  | .nil => 1
  | .ptr d => uptoBulk d + 1
  | .slice elems spare => uptoBulkAll elems + uptoBulkAll spare + 1
  | .agg parts => uptoBulkAll parts + 1
  | .iface _ d => uptoBulk d + 1
  | .map entries => uptoBulkEntries entries + 1
  | .held _ => 1
def uptoBulkAll {H : Type} : List (DataW H) → Nat
  | [] => 0
  | d :: r => uptoBulk d + uptoBulkAll r
def uptoBulkEntries {H : Type} : List (Lit × DataW H) → Nat
  | [] => 0
  | x :: r => uptoBulkEntry x + uptoBulkEntries r
def uptoBulkEntry {H : Type} : Lit × DataW H → Nat
  | (.string bytes, d) => bytes.length + uptoBulk d + 1
  | (_, d) => uptoBulk d + 1
 end
def uptoSmall : (H : Type) → List (DataW H) → Bool := fun _ ds => decide (uptoBulkAll ds ≤ 1048576)
def OpenSpec.upto (s : _root_.Go.ChangeSpec) : _root_.Go.OpenSpec := { _root_.Go.OpenSpec.ofChange s with cond := some uptoSmall }

/-- 'needlebeamlaw01.OrderPlays', WHERE WHAT IT READS IS OF BULK AT MOST 1048576: true; the input reads as it did. -/
def orderPlaysUptoRow : OpenClaim := { program := "ytcboakmfabdeoaa", sum := "a00f533237a5dc4603989754efed7b4fc456f7c3e0cd796719d2e04b00095641", func := "needlebeam/needlebeamlaw01.OrderPlays", spec := "orderPlays", inPlace := ["slices.overlaps[needlebeam/order.pair[int64, string]]", "slices.overlaps[*needlebeam/order.node[int64, string]]"], unfollowed := true, recurses := true, apart := false, narrowed := true }
def OrderPlaysUptoSaid : Prop := orderPlaysUptoRow.holds Try.pinned (OpenSpec.upto orderPlaysSpec)

/-- 'needlebeamlaw01.OrderCopies', WHERE WHAT IT READS IS OF BULK AT MOST 1048576: true; the input reads as it did. -/
def orderCopiesUptoRow : OpenClaim := { program := "ytcboakmfabdeoaa", sum := "a00f533237a5dc4603989754efed7b4fc456f7c3e0cd796719d2e04b00095641", func := "needlebeam/needlebeamlaw01.OrderCopies", spec := "orderCopies", inPlace := ["slices.overlaps[needlebeam/order.pair[int64, string]]", "slices.overlaps[*needlebeam/order.node[int64, string]]"], unfollowed := true, recurses := true, apart := false, narrowed := true }
def OrderCopiesUptoSaid : Prop := orderCopiesUptoRow.holds Try.pinned (OpenSpec.upto orderCopiesSpec)

/-- 'needlebeamlaw01.OrderRanks', WHERE WHAT IT READS IS OF BULK AT MOST 1048576: true; the input reads as it did. -/
def orderRanksUptoRow : OpenClaim := { program := "ytcboakmfabdeoaa", sum := "a00f533237a5dc4603989754efed7b4fc456f7c3e0cd796719d2e04b00095641", func := "needlebeam/needlebeamlaw01.OrderRanks", spec := "orderRanks", inPlace := ["slices.overlaps[needlebeam/order.pair[int64, string]]", "slices.overlaps[*needlebeam/order.node[int64, string]]"], unfollowed := true, recurses := true, apart := false, narrowed := true }
def OrderRanksUptoSaid : Prop := orderRanksUptoRow.holds Try.pinned (OpenSpec.upto orderRanksSpec)

/-- 'needlebeamlaw01.OrderNil', WHERE WHAT IT READS IS OF BULK AT MOST 1048576: true; the input reads as it did. -/
def orderNilUptoRow : OpenClaim := { program := "ytcboakmfabdeoaa", sum := "a00f533237a5dc4603989754efed7b4fc456f7c3e0cd796719d2e04b00095641", func := "needlebeam/needlebeamlaw01.OrderNil", spec := "orderNil", inPlace := ["slices.overlaps[needlebeam/order.pair[int64, string]]", "slices.overlaps[*needlebeam/order.node[int64, string]]"], unfollowed := true, recurses := true, apart := false, narrowed := true }
def OrderNilUptoSaid : Prop := orderNilUptoRow.holds Try.pinned (OpenSpec.upto orderNilSpec)

end Rows
end Go.Proofs.Ytcboakmfabdeoaa
