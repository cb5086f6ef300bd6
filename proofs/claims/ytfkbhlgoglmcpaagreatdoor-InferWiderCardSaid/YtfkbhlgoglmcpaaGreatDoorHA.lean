/- Expressions in memory: six cells a node (number, text, value, kids), kids in a slice; a node as a value; opened. -/
import Derived.Test.YtfkbhlgoglmcpaaGreatDoorEX1
import Derived.Test.YtfkbhlgoglmcpaaGreatDoorV1
import Derived.Test.YtfkbhlgoglmcpaaGreatDoorPB0
import Derived.DataShut
import Derived.ShutString
import Derived.Deep.Slices
import Derived.Deep.Strs
import Derived.Carry
import Derived.SliceStrings
import Derived.Lib.SmallJoins
namespace Go.Proofs.YtfkbhlgoglmcpaaGreatDoor
open Go.RowKit Go.Lib
set_option linter.unusedVariables false
set_option maxRecDepth 100000
set_option linter.unusedSimpArgs false
open Ex (Tree)

abbrev tx (l : List UInt8) : ByteArray := ⟨l.toArray⟩
mutual
def TreeAt (w : World) (b o : Nat) : Tree → Prop
  | .node op t vk vn vs ks => b < w.heap.size ∧ w.cell? ⟨b, o, none⟩ = some (.int .i64 op) ∧ w.cell? ⟨b, o + 1, none⟩ = some (.string (tx t)) ∧ w.cell? ⟨b, o + 2, none⟩ = some (.int .i64 vk) ∧
      w.cell? ⟨b, o + 3, none⟩ = some (.int .i64 vn) ∧ w.cell? ⟨b, o + 4, none⟩ = some (.string (tx vs)) ∧ ∃ A c, w.cell? ⟨b, o + 5, none⟩ = some (.slice A ks.length c) ∧ ks.length ≤ c ∧ TreesAt w A 0 ks
def TreesAt (w : World) (A : Option Addr) (i : Nat) : List Tree → Prop
  | [] => True
  | x :: l => (∃ b o, A = some ⟨b, o, none⟩ ∧ TreeAt w b (o + i * 6) x) ∧ TreesAt w A (i + 1) l
end
/-- the cells of a node. -/
abbrev ncells (op : Int) (t : List UInt8) (vk vn : Int) (vs : List UInt8) (A : Option Addr) (n c : Nat) : Array Value := #[.int .i64 op, .string (tx t), .int .i64 vk, .int .i64 vn, .string (tx vs), .slice A n c]
/-- a node as a value. -/
def NodeV (w : World) (v : Value) : Tree → Prop
  | .node op t vk vn vs ks => ∃ A c, v = .agg (ncells op t vk vn vs A ks.length c) ∧ ks.length ≤ c ∧ TreesAt w A 0 ks

mutual
theorem TreeAt.below {w w' : World} (hb : Below w.heap.size w w') : ∀ {x : Tree} {b o : Nat}, TreeAt w b o x → TreeAt w' b o x
  | .node op t vk vn vs ks, b, o, h => by
    rw [TreeAt] at h ⊢
    obtain ⟨h0, h1, h2, h3, h4, h5, A, c, h6, h7, h8⟩ := h
    exact ⟨Nat.lt_of_lt_of_le h0 hb.size, (hb.cell (p := ⟨b, o, none⟩) h0).trans h1, (hb.cell (p := ⟨b, o + 1, none⟩) h0).trans h2, (hb.cell (p := ⟨b, o + 2, none⟩) h0).trans h3, (hb.cell (p := ⟨b, o + 3, none⟩) h0).trans h4, (hb.cell (p := ⟨b, o + 4, none⟩) h0).trans h5,
      A, c, (hb.cell (p := ⟨b, o + 5, none⟩) h0).trans h6, h7, TreesAt.below hb h8⟩
theorem TreesAt.below {w w' : World} (hb : Below w.heap.size w w') : ∀ {l : List Tree} {A : Option Addr} {i : Nat}, TreesAt w A i l → TreesAt w' A i l
  | [], A, i, h => by rw [TreesAt]; trivial
  | x :: l, A, i, h => by
    rw [TreesAt] at h ⊢
    obtain ⟨⟨b, o, e, h1⟩, h2⟩ := h
    exact ⟨⟨b, o, e, TreeAt.below hb h1⟩, TreesAt.below hb h2⟩
end
theorem TreesAt.at_ {w : World} : ∀ (l : List Tree) (A : Option Addr) (k : Nat), TreesAt w A k l → ∀ i (h : i < l.length), ∃ b o, A = some ⟨b, o, none⟩ ∧ TreeAt w b (o + (k + i) * 6) l[i]
  | [], A, k, h, i, hi => absurd hi (Nat.not_lt_zero _)
  | x :: l, A, k, h, 0, hi => by
    rw [TreesAt] at h
    obtain ⟨⟨b, o, e, h1⟩, -⟩ := h
    exact ⟨b, o, e, h1⟩
  | x :: l, A, k, h, i + 1, hi => by
    rw [TreesAt] at h
    obtain ⟨b, o, e, h1⟩ := TreesAt.at_ l A (k + 1) h.2 i (by simpa using hi)
    refine ⟨b, o, e, ?_⟩
    rw [show k + (i + 1) = k + 1 + i by omega]
    exact h1
theorem TreesAt.get {w : World} {l : List Tree} {A : Option Addr} (h : TreesAt w A 0 l) (i : Nat) (hi : i < l.length) : ∃ b o, A = some ⟨b, o, none⟩ ∧ TreeAt w b (o + i * 6) l[i] := by
  obtain ⟨b, o, e, k⟩ := TreesAt.at_ l A 0 h i hi
  rw [Nat.zero_add] at k
  exact ⟨b, o, e, k⟩
theorem TreesAt.of {w : World} : ∀ (l : List Tree) (A : Option Addr) (k : Nat), (∀ i (h : i < l.length), ∃ b o, A = some ⟨b, o, none⟩ ∧ TreeAt w b (o + (k + i) * 6) l[i]) → TreesAt w A k l
  | [], A, k, h => by rw [TreesAt]; trivial
  | x :: l, A, k, h => by
    rw [TreesAt]
    refine ⟨h 0 (by simp), TreesAt.of l A (k + 1) fun i hi => ?_⟩
    obtain ⟨b, o, e, h1⟩ := h (i + 1) (by simpa using hi)
    refine ⟨b, o, e, ?_⟩
    rw [show k + 1 + i = k + (i + 1) by omega]
    exact h1
/-- the rest of a slice of trees. -/
theorem TreesAt.tail {w : World} {x : Tree} {l : List Tree} {b o : Nat} (h : TreesAt w (some ⟨b, o, none⟩) 0 (x :: l)) : TreesAt w (some ⟨b, o + 6, none⟩) 0 l := by
  refine TreesAt.of _ _ _ fun i hi => ?_
  obtain ⟨b', o', e, k⟩ := h.get (i + 1) (by simpa using hi)
  cases e
  refine ⟨b, o + 6, rfl, ?_⟩
  rw [show o + 6 + (0 + i) * 6 = o + (i + 1) * 6 by omega]
  exact k
theorem NodeV.below {w w' : World} {v : Value} : ∀ {x : Tree}, NodeV w v x → Below w.heap.size w w' → NodeV w' v x
  | .node op t vk vn vs ks, h, hb => by
    obtain ⟨A, c, e, hc, h8⟩ := h
    exact ⟨A, c, e, hc, TreesAt.below hb h8⟩
/-- the cells of a node that lies in memory: its kids stand there. -/
theorem TreeAt.node {w : World} {b o : Nat} {op : Int} {t : List UInt8} {vk vn : Int} {vs : List UInt8} {ks : List Tree} (h : TreeAt w b o (.node op t vk vn vs ks)) :
    b < w.heap.size ∧ w.cell? ⟨b, o, none⟩ = some (.int .i64 op) ∧ w.cell? ⟨b, o + 1, none⟩ = some (.string (tx t)) ∧ w.cell? ⟨b, o + 2, none⟩ = some (.int .i64 vk) ∧
      w.cell? ⟨b, o + 3, none⟩ = some (.int .i64 vn) ∧ w.cell? ⟨b, o + 4, none⟩ = some (.string (tx vs)) ∧ ∃ A c, w.cell? ⟨b, o + 5, none⟩ = some (.slice A ks.length c) ∧ ks.length ≤ c ∧ TreesAt w A 0 ks := by
  rw [TreeAt] at h; exact h
theorem TreeAt.mk {w : World} {b o : Nat} {op : Int} {t : List UInt8} {vk vn : Int} {vs : List UInt8} {ks : List Tree} {A : Option Addr} {c : Nat} (h : b < w.heap.size) (h0 : w.cell? ⟨b, o, none⟩ = some (.int .i64 op)) (h1 : w.cell? ⟨b, o + 1, none⟩ = some (.string (tx t)))
    (h2 : w.cell? ⟨b, o + 2, none⟩ = some (.int .i64 vk)) (h3 : w.cell? ⟨b, o + 3, none⟩ = some (.int .i64 vn)) (h4 : w.cell? ⟨b, o + 4, none⟩ = some (.string (tx vs))) (h5 : w.cell? ⟨b, o + 5, none⟩ = some (.slice A ks.length c)) (hc : ks.length ≤ c) (hk : TreesAt w A 0 ks) :
    TreeAt w b o (.node op t vk vn vs ks) := by
  rw [TreeAt]
  exact ⟨h, h0, h1, h2, h3, h4, A, c, h5, hc, hk⟩
theorem cellsExpr : Tryz.prog.cellsOf 26 = 6 := by kernel_rfl

/-! opened -/
/- strings that fit. -/
mutual
def fitT : Tree → Prop
  | .node _ t _ _ vs ks => t.length ≤ maxLen ∧ vs.length ≤ maxLen ∧ fitTs ks
def fitTs : List Tree → Prop
  | [] => True
  | x :: l => fitT x ∧ fitTs l
end
theorem fitTs_of : ∀ (l : List Tree), (∀ i (h : i < l.length), fitT l[i]) → fitTs l
  | [], h => by rw [fitTs]; trivial
  | x :: l, h => by
    rw [fitTs]
    exact ⟨h 0 (by simp), fitTs_of l fun i hi => h (i + 1) (by simpa using hi)⟩
theorem choose_tree {n : Nat} {R : Nat → Tree → Prop} (h : ∀ i, i < n → ∃ x, R i x) : ∃ l : List Tree, l.length = n ∧ ∀ i (hi : i < l.length), R i l[i] := by
  induction n with
  | zero => exact ⟨[], rfl, fun i hi => absurd hi (by simp)⟩
  | succ n ih =>
    obtain ⟨l, h1, h2⟩ := ih fun i hi => h i (by omega)
    obtain ⟨x, hx⟩ := h n (by omega)
    refine ⟨l ++ [x], by simp [h1], fun i hi => ?_⟩
    by_cases e : i < l.length
    · rw [List.getElem_append_left e]; exact h2 i e
    · have : i = n := by simp at hi; omega
      subst this
      rw [List.getElem_append_right (by omega)]
      simpa [h1] using hx
section
open Go.Deep Go.Joins Go.WideShapes Go.ChangeShapes
variable {H : Type} {enc : TypeId × Value → H} {W : World} {base : Nat} {spare : Nat → Bool} {held : Bool}
theorem opens_tree (N : Nat) : (∀ (fuel : Nat), fuel < N → ∀ (cs : List Value) (x : DataW H × List MemPlace), DataW.trod enc Tryz.prog W base spare held fuel 26 cs = some x →
      ∃ (op : Int) (t : List UInt8) (vk vn : Int) (vs : List UInt8) (ks : List Tree) (A : Option Addr) (c : Nat), cs = (ncells op t vk vn vs A ks.length c).toList ∧ ks.length ≤ c ∧ TreesAt W A 0 ks ∧ fitT (.node op t vk vn vs ks)) := by
  induction N with
  | zero => intro fuel h; omega
  | succ N ih =>
    intro fuel hlt cs x h
    obtain ⟨xs, n, rfl, -, hl, hlen, hf⟩ := DataW.trod_struct Tryz.underlying26 h
    rw [cellsExpr] at hl
    match cs, hl, xs, hlen with
    | [c0, c1, c2, c3, c4, c5], _, [y0, y1, y2, y3], _ =>
      have z0 : Tryz.prog.cellsOf 3 = 1 := by kernel_rfl
      have z1 : Tryz.prog.cellsOf 9 = 1 := by kernel_rfl
      have z2 : Tryz.prog.cellsOf 24 = 1 := by kernel_rfl
      have z3 : Tryz.prog.cellsOf 2 = 1 := by kernel_rfl
      have h0 := hf 0 _ rfl
      have h1 := hf 1 _ rfl
      have h2 := hf 2 _ rfl
      have h3 := hf 3 _ rfl
      simp only [z0, z1, z2, cellsVal, List.drop, List.take, List.getElem?_cons_zero, List.getElem?_cons_succ] at h0 h1 h2 h3
      obtain ⟨op, e0, -, -⟩ := DataW.trod_int Tryz.underlying3 h0
      obtain ⟨s1, e1, -, w1⟩ := DataW.trod_string Tryz.underlying9 h1
      obtain ⟨u0, u1, u2, n2, -, hl2, g0, g1, g2⟩ := trod_struct3 Tryz.underlying23 h2
      simp only [z0, z1, z3, List.drop, List.take] at g0 g1 g2
      obtain ⟨vk, e2, -, -⟩ := DataW.trod_int Tryz.underlying3 g0
      obtain ⟨vn, e3, -, -⟩ := DataW.trod_int Tryz.underlying2 g1
      obtain ⟨s4, e4, -, w4⟩ := DataW.trod_string Tryz.underlying9 g2
      cases e0; cases e1; cases e2; cases e3; cases e4
      have key : ∃ (ks : List Tree) (A : Option Addr) (c : Nat), c5 = .slice A ks.length c ∧ ks.length ≤ c ∧ TreesAt W A 0 ks ∧ fitTs ks := by
        rcases DataW.trod_slice Tryz.underlying24 h3 with ⟨hcs, _⟩ | ⟨a, len, cap, elems, rest, m, rfl, hcs, -, -, hle, -, hln, hel, -⟩
        · cases hcs
          exact ⟨[], none, 0, rfl, Nat.le_refl _, by rw [TreesAt]; trivial, by rw [fitTs]; trivial⟩
        · cases hcs
          have hk : ∀ i, i < len → ∃ x : Tree, (∃ b o, a = ⟨b, o, none⟩ ∧ TreeAt W b (o + i * 6) x) ∧ fitT x := by
            intro i hi
            have hh := hel i hi
            rw [cellsExpr, List.getElem?_eq_getElem (by omega)] at hh
            obtain ⟨cs', h5, h6⟩ := Option.bind_eq_some_iff.1 hh
            obtain ⟨op', t', vk', vn', vs', ks', A', c', rfl, k2, k3, k4⟩ := ih m (by omega) _ _ h6
            obtain ⟨_, _, hat⟩ := World.cells?_some h5
            obtain ⟨b, o, spot⟩ := a
            have q0 := hat 0 (by show 0 < 6; omega)
            have q1 := hat 1 (by show 1 < 6; omega)
            have q2 := hat 2 (by show 2 < 6; omega)
            have q3 := hat 3 (by show 3 < 6; omega)
            have q4 := hat 4 (by show 4 < 6; omega)
            have q5 := hat 5 (by show 5 < 6; omega)
            rw [Go.Deep.add_add] at q0 q1 q2 q3 q4 q5
            have hspot : spot = none := by
              have hh := hel 0 (by omega)
              rw [cellsExpr, List.getElem?_eq_getElem (by omega)] at hh
              obtain ⟨cs2, h52, h62⟩ := Option.bind_eq_some_iff.1 hh
              obtain ⟨op2, t2, vk2, vn2, vs2, ks2, A2, c2, rfl, -⟩ := ih m (by omega) _ _ h62
              obtain ⟨_, _, hat2⟩ := World.cells?_some h52
              have := World.cell?_spot (hat2 0 (by show 0 < 6; omega))
              simpa [Addr.add] using this
            subst hspot
            rw [Addr.add_lit] at q0 q1 q2 q3 q4 q5
            have hblt := World.block_lt_of_cell? W _ q0
            exact ⟨.node op' t' vk' vn' vs' ks', ⟨b, o, rfl, TreeAt.mk hblt (by simpa using q0) (by simpa [Nat.add_assoc] using q1) (by simpa [Nat.add_assoc] using q2) (by simpa [Nat.add_assoc] using q3) (by simpa [Nat.add_assoc] using q4) (by simpa [Nat.add_assoc] using q5) k2 k3⟩, k4⟩
          obtain ⟨l, hl1, hl2⟩ := choose_tree hk
          refine ⟨l, some a, cap, by rw [hl1], by omega, TreesAt.of _ _ _ fun i hi => ?_, fitTs_of _ fun i hi => (hl2 i hi).2⟩
          obtain ⟨b, o, rfl, k⟩ := (hl2 i hi).1
          exact ⟨b, o, rfl, by rw [Nat.zero_add]; exact k⟩
      obtain ⟨ks, A, c, rfl, hc, hT, hF⟩ := key
      refine ⟨op, s1.data.toList, vk, vn, s4.data.toList, ks, A, c, rfl, hc, hT, ?_⟩
      rw [fitT]
      refine ⟨?_, ?_, hF⟩
      · have : s1.data.toList.length = s1.size := by simp
        omega
      · have : s4.data.toList.length = s4.size := by simp
        omega
/-- a tree that came in. -/
theorem open_tree {r : Reach} {b0 : Nat} {v : Value} {d : DataW H} {p : List MemPlace} (hv : Value.okWide Tryz.prog W r b0 26 v) (h : DataW.Trod enc Tryz.prog W base spare held 26 v d p) : ∃ x, NodeV W v x ∧ fitT x := by
  obtain ⟨cs, rfl, hsz⟩ := okWide_struct Tryz.underlying26 hv
  obtain ⟨fuel, hf⟩ := h
  obtain ⟨op, t, vk, vn, vs, ks, A, c, hcs, hc, hT, hF⟩ := opens_tree (fuel + 1) fuel (by omega) _ _ hf
  refine ⟨.node op t vk vn vs ks, ⟨A, c, ?_, hc, hT⟩, hF⟩
  congr 1
  apply Array.ext'
  simpa [Value.cells] using hcs
end
end Go.Proofs.YtfkbhlgoglmcpaaGreatDoor
