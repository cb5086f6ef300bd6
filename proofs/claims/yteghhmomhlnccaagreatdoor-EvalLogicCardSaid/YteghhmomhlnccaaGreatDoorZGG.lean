import Derived.Test.YteghhmomhlnccaaGreatDoorZX
import Derived.Test.YteghhmomhlnccaaGreatDoorZV4
import Derived.Test.YteghhmomhlnccaaGreatDoorZL
import Derived.Test.YteghhmomhlnccaaGreatDoorZB
import Derived.Test.YteghhmomhlnccaaGreatDoorZE
import Derived.Test.YteghhmomhlnccaaGreatDoorZC2

/- What a word is by itself: levels of marks, arities, nodes that are right, a word's sign and node: plain. -/
namespace Go.Proofs.YteghhmomhlnccaaGreatDoor
set_option linter.unusedVariables false
open Ex (Tree)
def Ex.lev (l : List UInt8) : Int :=
  bif l == [111, 114] then 1 else
  bif l == [97, 110, 100] then 2 else
  bif l == [61] then 3 else
  bif l == [33, 61] then 3 else
  bif l == [60] then 3 else
  bif l == [60, 61] then 3 else
  bif l == [62] then 3 else
  bif l == [62, 61] then 3 else
  bif l == [43] then 4 else
  bif l == [45] then 4 else
  bif l == [38] then 4 else
  bif l == [42] then 5 else
  bif l == [47] then 5 else
  bif l == [37] then 5 else
  0
def Ex.arity (l : List UInt8) : Int :=
  bif l == [108, 101, 110] then 1 else
  bif l == [115, 116, 114] then 1 else
  bif l == [110, 117, 109] then 1 else
  bif l == [105, 115, 110, 117, 108, 108] then 1 else
  bif l == [110, 118, 108] then 2 else
  bif l == [108, 101, 102, 116] then 2 else
  bif l == [114, 105, 103, 104, 116] then 2 else
  bif l == [105, 102] then 3 else
  -1
/-- may a value stand in a tree? -/
def valB (k n : Int) (s : ByteArray) : Bool := plainB k n s && (!(k == 1) || decide (0 ≤ n))
/-- is a node right by itself, with so many kids? -/
def nodeB (op : Int) (t : List UInt8) (vk vn : Int) (vs : List UInt8) (n : Nat) : Bool :=
  if op = 1 then t.isEmpty && (valB vk vn (tx vs) && ((n : Int) == 0))
  else if op = 2 then Lx.isName t && (same vk vn (tx vs) 0 0 ⟨#[]⟩ && ((n : Int) == 0))
  else if op = 3 ∨ op = 4 then t.isEmpty && (same vk vn (tx vs) 0 0 ⟨#[]⟩ && ((n : Int) == 1))
  else if op = 5 then !(Ex.lev t == 0) && (same vk vn (tx vs) 0 0 ⟨#[]⟩ && ((n : Int) == 2))
  else if op = 6 then ((n : Int) == Ex.arity t) && same vk vn (tx vs) 0 0 ⟨#[]⟩
  else false
def tk (L : List Lx.Tk) (i : Nat) : Lx.Tk := L.getD i ⟨0, [], 0⟩
theorem tk_lt {L : List Lx.Tk} {i : Nat} (h : i < L.length) : tk L i = L[i] := by simp [tk, h]
theorem tk_ge {L : List Lx.Tk} {i : Nat} (h : ¬ i < L.length) : tk L i = ⟨0, [], 0⟩ := by simp [tk, Nat.not_lt.1 h]
def sgn (t : Lx.Tk) : List UInt8 := if t.kind = 5 ∨ t.kind = 2 then t.text else []
/-- the node that a word is by itself. -/
def leafT (t : Lx.Tk) : Tree :=
  if t.kind = 1 then .node 2 t.text 0 0 [] [] else
  if t.kind = 4 then .node 1 [] 2 0 t.text [] else
  if t.kind = 3 ∨ t.kind = 2 then (if (told t.text).e = 0 then .node 1 [] (told t.text).k (told t.text).n (told t.text).s [] else .node 0 [] 0 0 [] []) else
  .node 0 [] 0 0 [] []
end Go.Proofs.YteghhmomhlnccaaGreatDoor

/- Trees that came in, their numbers in range. -/
namespace Go.Proofs.YteghhmomhlnccaaGreatDoor
open Go.RowKit Go.Lib
set_option linter.unusedVariables false
set_option maxRecDepth 100000
set_option linter.unusedSimpArgs false
open Ex (Tree)
/-- a value's number is one. -/
def rngN (_op : Int) (_t : List UInt8) (_vk vn : Int) (_vs : List UInt8) (_n : Nat) : Bool := decide (-9223372036854775808 ≤ vn ∧ vn ≤ 9223372036854775807)
def rngT (x : Tree) : Bool := Ex.ones rngN x
theorem rngs_of : ∀ (l : List Tree), (∀ i (h : i < l.length), rngT l[i] = true) → Ex.oness rngN l = true
  | [], h => by rw [Ex.oness]
  | x :: l, h => by
    rw [Ex.oness, Bool.and_eq_true]
    exact ⟨h 0 (by simp), rngs_of l fun i hi => h (i + 1) (by simpa using hi)⟩
section
open Go.Deep Go.Joins Go.WideShapes Go.ChangeShapes
variable {H : Type} {enc : TypeId × Value → H} {W : World} {base : Nat} {spare : Nat → Bool} {held : Bool}
theorem opens_tree2 (N : Nat) : (∀ (fuel : Nat), fuel < N → ∀ (cs : List Value) (x : DataW H × List MemPlace), DataW.trod enc Tryz.prog W base spare held fuel 26 cs = some x →
      ∃ (op : Int) (t : List UInt8) (vk vn : Int) (vs : List UInt8) (ks : List Tree) (A : Option Addr) (c : Nat), cs = (ncells op t vk vn vs A ks.length c).toList ∧ ks.length ≤ c ∧ TreesAt W A 0 ks ∧ fitT (.node op t vk vn vs ks) ∧ rngT (.node op t vk vn vs ks) = true) := by
  induction N with
  | zero => intro fuel h; omega
  | succ N ih =>
    intro fuel hlt cs x h
    obtain ⟨xs, n, rfl, -, hl, hlen, hf⟩ := DataW.trod_struct Tryz.underlying26 h
    rw [cellsExpr] at hl
    match cs, hl, xs, hlen with
    | [c0, c1, c2, c3, c4, c5], _, [y0, y1, y2, y3], _ =>
      have z0 : Tryz.prog.cellsOf 3 = 1 := by kernel_rfl
      have z1 : Tryz.prog.cellsOf 9 = 1 := by kernel_rfl
      have z2 : Tryz.prog.cellsOf 24 = 1 := by kernel_rfl
      have z3 : Tryz.prog.cellsOf 2 = 1 := by kernel_rfl
      have h0 := hf 0 _ rfl
      have h1 := hf 1 _ rfl
      have h2 := hf 2 _ rfl
      have h3 := hf 3 _ rfl
      simp only [z0, z1, z2, cellsVal, List.drop, List.take, List.getElem?_cons_zero, List.getElem?_cons_succ] at h0 h1 h2 h3
      obtain ⟨op, e0, -, -⟩ := DataW.trod_int Tryz.underlying3 h0
      obtain ⟨s1, e1, -, w1⟩ := DataW.trod_string Tryz.underlying9 h1
      obtain ⟨u0, u1, u2, n2, -, hl2, g0, g1, g2⟩ := trod_struct3 Tryz.underlying23 h2
      simp only [z0, z1, z3, List.drop, List.take] at g0 g1 g2
      obtain ⟨vk, e2, -, -⟩ := DataW.trod_int Tryz.underlying3 g0
      obtain ⟨vn, e3, -, rg⟩ := DataW.trod_int Tryz.underlying2 g1
      obtain ⟨s4, e4, -, w4⟩ := DataW.trod_string Tryz.underlying9 g2
      cases e0; cases e1; cases e2; cases e3; cases e4
      have key : ∃ (ks : List Tree) (A : Option Addr) (c : Nat), c5 = .slice A ks.length c ∧ ks.length ≤ c ∧ TreesAt W A 0 ks ∧ fitTs ks ∧ Ex.oness rngN ks = true := by
        rcases DataW.trod_slice Tryz.underlying24 h3 with ⟨hcs, _⟩ | ⟨a, len, cap, elems, rest, m, rfl, hcs, -, -, hle, -, hln, hel, -⟩
        · cases hcs
          exact ⟨[], none, 0, rfl, Nat.le_refl _, by rw [TreesAt]; trivial, by rw [fitTs]; trivial, by rw [Ex.oness]⟩
        · cases hcs
          have hk : ∀ i, i < len → ∃ x : Tree, (∃ b o, a = ⟨b, o, none⟩ ∧ TreeAt W b (o + i * 6) x) ∧ fitT x ∧ rngT x = true := by
            intro i hi
            have hh := hel i hi
            rw [cellsExpr, List.getElem?_eq_getElem (by omega)] at hh
            obtain ⟨cs', h5, h6⟩ := Option.bind_eq_some_iff.1 hh
            obtain ⟨op', t', vk', vn', vs', ks', A', c', rfl, k2, k3, k4, k5⟩ := ih m (by omega) _ _ h6
            obtain ⟨_, _, hat⟩ := World.cells?_some h5
            obtain ⟨b, o, spot⟩ := a
            have q0 := hat 0 (by show 0 < 6; omega)
            have q1 := hat 1 (by show 1 < 6; omega)
            have q2 := hat 2 (by show 2 < 6; omega)
            have q3 := hat 3 (by show 3 < 6; omega)
            have q4 := hat 4 (by show 4 < 6; omega)
            have q5 := hat 5 (by show 5 < 6; omega)
            rw [Go.Deep.add_add] at q0 q1 q2 q3 q4 q5
            have hspot : spot = none := by
              have hh := hel 0 (by omega)
              rw [cellsExpr, List.getElem?_eq_getElem (by omega)] at hh
              obtain ⟨cs2, h52, h62⟩ := Option.bind_eq_some_iff.1 hh
              obtain ⟨op2, t2, vk2, vn2, vs2, ks2, A2, c2, rfl, -⟩ := ih m (by omega) _ _ h62
              obtain ⟨_, _, hat2⟩ := World.cells?_some h52
              have := World.cell?_spot (hat2 0 (by show 0 < 6; omega))
              simpa [Addr.add] using this
            subst hspot
            rw [Addr.add_lit] at q0 q1 q2 q3 q4 q5
            have hblt := World.block_lt_of_cell? W _ q0
            exact ⟨.node op' t' vk' vn' vs' ks', ⟨b, o, rfl, TreeAt.mk hblt (by simpa using q0) (by simpa [Nat.add_assoc] using q1) (by simpa [Nat.add_assoc] using q2) (by simpa [Nat.add_assoc] using q3) (by simpa [Nat.add_assoc] using q4) (by simpa [Nat.add_assoc] using q5) k2 k3⟩, k4, k5⟩
          obtain ⟨l, hl1, hl2⟩ := choose_tree hk
          refine ⟨l, some a, cap, by rw [hl1], by omega, TreesAt.of _ _ _ fun i hi => ?_, fitTs_of _ fun i hi => (hl2 i hi).2.1, rngs_of _ fun i hi => (hl2 i hi).2.2⟩
          obtain ⟨b, o, rfl, k⟩ := (hl2 i hi).1
          exact ⟨b, o, rfl, by rw [Nat.zero_add]; exact k⟩
      obtain ⟨ks, A, c, rfl, hc, hT, hF, hR⟩ := key
      refine ⟨op, s1.data.toList, vk, vn, s4.data.toList, ks, A, c, rfl, hc, hT, ?_, ?_⟩
      rotate_left
      · rw [rngT, Ex.ones, hR, Bool.and_true, rngN]
        exact decide_eq_true ((Lit.wf_int_iff .i64 vn).1 rg)
      rw [fitT]
      refine ⟨?_, ?_, hF⟩
      · have : s1.data.toList.length = s1.size := by simp
        omega
      · have : s4.data.toList.length = s4.size := by simp
        omega
/-- a tree that came in. -/
theorem open_tree2 {r : Reach} {b0 : Nat} {v : Value} {d : DataW H} {p : List MemPlace} (hv : Value.okWide Tryz.prog W r b0 26 v) (h : DataW.Trod enc Tryz.prog W base spare held 26 v d p) : ∃ x, NodeV W v x ∧ fitT x ∧ rngT x = true := by
  obtain ⟨cs, rfl, hsz⟩ := okWide_struct Tryz.underlying26 hv
  obtain ⟨fuel, hf⟩ := h
  obtain ⟨op, t, vk, vn, vs, ks, A, c, hcs, hc, hT, hF, hR⟩ := opens_tree2 (fuel + 1) fuel (by omega) _ _ hf
  refine ⟨.node op t vk vn vs ks, ⟨A, c, ?_, hc, hT⟩, hF, hR⟩
  congr 1
  apply Array.ext'
  simpa [Value.cells] using hcs
end
end Go.Proofs.YteghhmomhlnccaaGreatDoor
