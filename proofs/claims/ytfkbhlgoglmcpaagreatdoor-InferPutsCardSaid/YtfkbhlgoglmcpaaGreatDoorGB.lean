/- What a word is by itself: levels of marks, arities, nodes that are right, a word's sign and node: plain. -/
import Derived.Test.YtfkbhlgoglmcpaaGreatDoorEX1
import Derived.Test.YtfkbhlgoglmcpaaGreatDoorHC
import Derived.Test.YtfkbhlgoglmcpaaGreatDoorV4
import Derived.Test.YtfkbhlgoglmcpaaGreatDoorLX2
import Derived.Test.YtfkbhlgoglmcpaaGreatDoorQ2
import Derived.Test.YtfkbhlgoglmcpaaGreatDoorHA
namespace Go.Proofs.YtfkbhlgoglmcpaaGreatDoor
set_option linter.unusedVariables false
open Ex (Tree)
def Ex.lev (l : List UInt8) : Int :=
  bif l == [111, 114] then 1 else
  bif l == [97, 110, 100] then 2 else
  bif l == [61] then 3 else
  bif l == [33, 61] then 3 else
  bif l == [60] then 3 else
  bif l == [60, 61] then 3 else
  bif l == [62] then 3 else
  bif l == [62, 61] then 3 else
  bif l == [43] then 4 else
  bif l == [45] then 4 else
  bif l == [38] then 4 else
  bif l == [42] then 5 else
  bif l == [47] then 5 else
  bif l == [37] then 5 else
  0
def Ex.arity (l : List UInt8) : Int :=
  bif l == [108, 101, 110] then 1 else
  bif l == [115, 116, 114] then 1 else
  bif l == [110, 117, 109] then 1 else
  bif l == [105, 115, 110, 117, 108, 108] then 1 else
  bif l == [110, 118, 108] then 2 else
  bif l == [108, 101, 102, 116] then 2 else
  bif l == [114, 105, 103, 104, 116] then 2 else
  bif l == [105, 102] then 3 else
  -1
/-- may a value stand in a tree? -/
def valB (k n : Int) (s : ByteArray) : Bool := plainB k n s && (!(k == 1) || decide (0 ≤ n))
/-- is a node right by itself, with so many kids? -/
def nodeB (op : Int) (t : List UInt8) (vk vn : Int) (vs : List UInt8) (n : Nat) : Bool :=
  if op = 1 then t.isEmpty && (valB vk vn (tx vs) && ((n : Int) == 0))
  else if op = 2 then Lx.isName t && (same vk vn (tx vs) 0 0 ⟨#[]⟩ && ((n : Int) == 0))
  else if op = 3 ∨ op = 4 then t.isEmpty && (same vk vn (tx vs) 0 0 ⟨#[]⟩ && ((n : Int) == 1))
  else if op = 5 then !(Ex.lev t == 0) && (same vk vn (tx vs) 0 0 ⟨#[]⟩ && ((n : Int) == 2))
  else if op = 6 then ((n : Int) == Ex.arity t) && same vk vn (tx vs) 0 0 ⟨#[]⟩
  else false
def tk (L : List Lx.Tk) (i : Nat) : Lx.Tk := L.getD i ⟨0, [], 0⟩
theorem tk_lt {L : List Lx.Tk} {i : Nat} (h : i < L.length) : tk L i = L[i] := by simp [tk, h]
theorem tk_ge {L : List Lx.Tk} {i : Nat} (h : ¬ i < L.length) : tk L i = ⟨0, [], 0⟩ := by simp [tk, Nat.not_lt.1 h]
def sgn (t : Lx.Tk) : List UInt8 := if t.kind = 5 ∨ t.kind = 2 then t.text else []
/-- the node that a word is by itself. -/
def leafT (t : Lx.Tk) : Tree :=
  if t.kind = 1 then .node 2 t.text 0 0 [] [] else
  if t.kind = 4 then .node 1 [] 2 0 t.text [] else
  if t.kind = 3 ∨ t.kind = 2 then (if (told t.text).e = 0 then .node 1 [] (told t.text).k (told t.text).n (told t.text).s [] else .node 0 [] 0 0 [] []) else
  .node 0 [] 0 0 [] []
end Go.Proofs.YtfkbhlgoglmcpaaGreatDoor
