import Derived.Test.YteghhmomhlnccaaGreatDoorZGG
import Derived.Test.YteghhmomhlnccaaGreatDoorZE
import Derived.Test.YteghhmomhlnccaaGreatDoorZHMB

/- Columns and kinds of trees: plain. -/
namespace Go.Proofs.YteghhmomhlnccaaGreatDoor
set_option linter.unusedVariables false
set_option linter.unusedSimpArgs false
open Ex (Tree)
/-- a column: its name and kind. -/
abbrev Col := List UInt8 × Int
namespace Kd
/-- the place of the first column of that name. -/
def ix (C : List Col) (n : List UInt8) : Option Nat := C.findIdx? (fun c => c.1 == n)
def ixV : Option Nat → Int
  | none => -1
  | some i => i
/-- its kind. -/
def fk (C : List Col) (n : List UInt8) : Option Int := (C.find? (fun c => c.1 == n)).map (·.2)
theorem ix_some {C : List Col} {n : List UInt8} {i : Nat} (h : i < C.length) (h1 : C[i].1 = n) (h2 : ∀ j (hj : j < C.length), j < i → C[j].1 ≠ n) : ix C n = some i := by
  rw [ix, List.findIdx?_eq_some_iff_getElem]
  exact ⟨h, by simpa using h1, fun j hj => by simpa using h2 j (by omega) hj⟩
theorem ix_none {C : List Col} {n : List UInt8} (h2 : ∀ j (hj : j < C.length), C[j].1 ≠ n) : ix C n = none := by
  rw [ix, List.findIdx?_eq_none_iff]
  intro x hx
  obtain ⟨j, hj, rfl⟩ := List.getElem_of_mem hx
  simpa using h2 j hj
theorem ix_spec {C : List Col} {n : List UInt8} {i : Nat} (h : ix C n = some i) : ∃ hi : i < C.length, C[i].1 = n ∧ ∀ j (hj : j < C.length), j < i → C[j].1 ≠ n := by
  rw [ix, List.findIdx?_eq_some_iff_getElem] at h
  obtain ⟨h1, h2, h3⟩ := h
  exact ⟨h1, by simpa using h2, fun j hj hji => by simpa using h3 j hji⟩
theorem fk_ix (C : List Col) (n : List UInt8) : (ix C n = none ∧ fk C n = none) ∨ ∃ i, ∃ hi : i < C.length, ix C n = some i ∧ fk C n = some C[i].2 := by
  induction C with
  | nil => left; exact ⟨rfl, rfl⟩
  | cons c C ih =>
    by_cases h : c.1 = n
    · right
      refine ⟨0, by simp, ?_, ?_⟩
      · simp [ix, List.findIdx?_cons, h]
      · simp [fk, List.find?_cons, h]
    · have h' : (c.1 == n) = false := by simpa using h
      rcases ih with ⟨h1, h2⟩ | ⟨i, hi, h1, h2⟩
      · left
        simp only [ix, fk] at h1 h2 ⊢
        rw [List.findIdx?_cons, h', List.find?_cons, h', h1]
        exact ⟨rfl, h2⟩
      · right
        refine ⟨i + 1, by simpa using hi, ?_, ?_⟩
        · simp only [ix] at h1 ⊢
          rw [List.findIdx?_cons, h', h1]; rfl
        · simp only [fk] at h2 ⊢
          rw [List.find?_cons, h', h2]; rfl
/-- one column that goes with those ahead. -/
def goodAt (C : List Col) (i : Nat) : Prop := ∃ h : i < C.length, Lx.isName C[i].1 = true ∧ 1 ≤ C[i].2 ∧ C[i].2 ≤ 3 ∧ ∀ j (hj : j < C.length), j < i → C[j].1 ≠ C[i].1
def Good (C : List Col) : Prop := ∀ i, i < C.length → goodAt C i
theorem good_iff (C : List Col) : Good C ↔ (∀ c ∈ C, Lx.isName c.1 = true ∧ 1 ≤ c.2 ∧ c.2 ≤ 3) ∧ (C.map (·.1)).Nodup := by
  constructor
  · intro h
    refine ⟨fun c hc => ?_, ?_⟩
    · obtain ⟨i, hi, rfl⟩ := List.getElem_of_mem hc
      obtain ⟨_, h1, h2, h3, -⟩ := h i hi
      exact ⟨h1, h2, h3⟩
    · rw [List.Nodup, List.pairwise_iff_getElem]
      intro i j hi hj hij
      obtain ⟨_, -, -, -, h4⟩ := h j (by simpa using hj)
      simpa using h4 i (by simpa using hi) hij
  · rintro ⟨h1, h2⟩ i hi
    obtain ⟨a, b, c⟩ := h1 _ (List.getElem_mem hi)
    refine ⟨hi, a, b, c, fun j hj hji => ?_⟩
    rw [List.Nodup, List.pairwise_iff_getElem] at h2
    have := h2 j i (by rw [List.length_map]; exact hj) (by rw [List.length_map]; exact hi) hji
    rw [List.getElem_map, List.getElem_map] at this
    exact this
/-! kinds -/
def stepK (ask kind one : Int) : Option Int :=
  if ask = -1 then (if kind = (if one = 0 then kind else one) ∨ kind = 0 then some (if one = 0 then kind else one) else none)
  else if kind = ask ∨ kind = 0 then some one else none
def ovr (asks kinds : List Int) : Nat → Option Int
  | 0 => some 0
  | i + 1 => match ovr asks kinds i with
    | none => none
    | some one => stepK (asks.getD i 0) (kinds.getD i 0) one
theorem ovr_none {asks kinds : List Int} {i : Nat} (h : ovr asks kinds i = none) : ∀ j, ovr asks kinds (i + j) = none
  | 0 => h
  | j + 1 => by rw [← Nat.add_assoc, ovr, ovr_none h j]
def over (g : Int) (asks kinds : List Int) : Int × Int := match ovr asks kinds kinds.length with
  | none => (0, 10)
  | some one => if g = -1 then (one, 0) else (g, 0)
def shT (t : List UInt8) : Int × List Int :=
  bif t == [111, 114] then (3, [3, 3]) else
  bif t == [97, 110, 100] then (3, [3, 3]) else
  bif t == [61] then (3, [-1, -1]) else
  bif t == [33, 61] then (3, [-1, -1]) else
  bif t == [60] then (3, [-1, -1]) else
  bif t == [60, 61] then (3, [-1, -1]) else
  bif t == [62] then (3, [-1, -1]) else
  bif t == [62, 61] then (3, [-1, -1]) else
  bif t == [43] then (1, [1, 1]) else
  bif t == [45] then (1, [1, 1]) else
  bif t == [42] then (1, [1, 1]) else
  bif t == [47] then (1, [1, 1]) else
  bif t == [37] then (1, [1, 1]) else
  bif t == [38] then (2, [2, 2]) else
  bif t == [108, 101, 110] then (1, [2]) else
  bif t == [110, 117, 109] then (1, [2]) else
  bif t == [115, 116, 114] then (2, [1]) else
  bif t == [108, 101, 102, 116] then (2, [2, 1]) else
  bif t == [114, 105, 103, 104, 116] then (2, [2, 1]) else
  bif t == [105, 115, 110, 117, 108, 108] then (3, [-1]) else
  bif t == [110, 118, 108] then (-1, [-1, -1]) else
  (-1, [3, -1, -1])
def sh (op : Int) (t : List UInt8) : Int × List Int := if op = 3 then (1, [1]) else if op = 4 then (3, [3]) else shT t
theorem sh5 (t : List UInt8) (h : (Ex.lev t == 0) = false) : (shT t).2.length = 2 := by
  revert h
  unfold Ex.lev shT
  cases h0 : t == [111, 114]
  case true => intro _; rfl
  simp only [cond_false]
  cases h1 : t == [97, 110, 100]
  case true => intro _; rfl
  simp only [cond_false]
  cases h2 : t == [61]
  case true => intro _; rfl
  simp only [cond_false]
  cases h3 : t == [33, 61]
  case true => intro _; rfl
  simp only [cond_false]
  cases h4 : t == [60]
  case true => intro _; rfl
  simp only [cond_false]
  cases h5 : t == [60, 61]
  case true => intro _; rfl
  simp only [cond_false]
  cases h6 : t == [62]
  case true => intro _; rfl
  simp only [cond_false]
  cases h7 : t == [62, 61]
  case true => intro _; rfl
  simp only [cond_false]
  cases h8 : t == [43]
  case true => intro _; rfl
  simp only [cond_false]
  cases h9 : t == [45]
  case true => intro _; rfl
  simp only [cond_false]
  cases h10 : t == [42]
  case true => intro _; rfl
  simp only [cond_false]
  cases h11 : t == [47]
  case true => intro _; rfl
  simp only [cond_false]
  cases h12 : t == [37]
  case true => intro _; rfl
  simp only [cond_false]
  cases h13 : t == [38]
  case true => intro _; rfl
  simp only [cond_false]
  intro h
  exact absurd h (by decide)
theorem sh6 (t : List UInt8) (n : Nat) (h : ((n : Int) == Ex.arity t) = true) : (shT t).2.length = n := by
  revert h
  unfold Ex.arity
  cases h0 : t == [108, 101, 110]
  case true =>
    intro h
    simp only [cond_true, beq_iff_eq] at h
    rw [eq_of_beq h0]
    have hn : n = 1 := by omega
    rw [hn]; rfl
  simp only [cond_false]
  cases h1 : t == [115, 116, 114]
  case true =>
    intro h
    simp only [cond_true, beq_iff_eq] at h
    rw [eq_of_beq h1]
    have hn : n = 1 := by omega
    rw [hn]; rfl
  simp only [cond_false]
  cases h2 : t == [110, 117, 109]
  case true =>
    intro h
    simp only [cond_true, beq_iff_eq] at h
    rw [eq_of_beq h2]
    have hn : n = 1 := by omega
    rw [hn]; rfl
  simp only [cond_false]
  cases h3 : t == [105, 115, 110, 117, 108, 108]
  case true =>
    intro h
    simp only [cond_true, beq_iff_eq] at h
    rw [eq_of_beq h3]
    have hn : n = 1 := by omega
    rw [hn]; rfl
  simp only [cond_false]
  cases h4 : t == [110, 118, 108]
  case true =>
    intro h
    simp only [cond_true, beq_iff_eq] at h
    rw [eq_of_beq h4]
    have hn : n = 2 := by omega
    rw [hn]; rfl
  simp only [cond_false]
  cases h5 : t == [108, 101, 102, 116]
  case true =>
    intro h
    simp only [cond_true, beq_iff_eq] at h
    rw [eq_of_beq h5]
    have hn : n = 2 := by omega
    rw [hn]; rfl
  simp only [cond_false]
  cases h6 : t == [114, 105, 103, 104, 116]
  case true =>
    intro h
    simp only [cond_true, beq_iff_eq] at h
    rw [eq_of_beq h6]
    have hn : n = 2 := by omega
    rw [hn]; rfl
  simp only [cond_false]
  cases h7 : t == [105, 102]
  case true =>
    intro h
    simp only [cond_true, beq_iff_eq] at h
    rw [eq_of_beq h7]
    have hn : n = 3 := by omega
    rw [hn]; rfl
  simp only [cond_false]
  intro h
  simp only [beq_iff_eq] at h
  omega
mutual
/-- the kind of a tree over columns, and what is wrong (0: nothing). -/
def kd (C : List Col) : Tree → Int × Int
  | .node op t vk vn vs ks =>
    if op = 1 then (vk, 0) else
    if op = 2 then (match fk C t with
      | none => (0, 9)
      | some k => (k, 0)) else
    (if (kds C ks).1 = 0 then over (sh op t).1 (sh op t).2 (kds C ks).2 else (0, (kds C ks).1))
def kds (C : List Col) : List Tree → Int × List Int
  | [] => (0, [])
  | x :: l => if (kd C x).2 = 0 then ((kds C l).1, (kd C x).1 :: (kds C l).2) else ((kd C x).2, [])
end
theorem kds_snoc (C : List Col) (x : Tree) : ∀ l : List Tree, (kds C l).1 = 0 → kds C (l ++ [x]) = if (kd C x).2 = 0 then (0, (kds C l).2 ++ [(kd C x).1]) else ((kd C x).2, (kds C l).2)
  | [], h => by simp only [List.nil_append, kds]
  | y :: l, h => by
    rw [kds] at h
    by_cases hy : (kd C y).2 = 0
    · rw [if_pos hy] at h
      have := kds_snoc C x l h
      rw [List.cons_append, kds, if_pos hy, this]
      by_cases hx : (kd C x).2 = 0
      · rw [if_pos hx, if_pos hx, kds, if_pos hy]; rfl
      · rw [if_neg hx, if_neg hx, kds, if_pos hy]
    · rw [if_neg hy] at h; exact absurd h hy
theorem kds_len (C : List Col) : ∀ l : List Tree, (kds C l).1 = 0 → (kds C l).2.length = l.length
  | [], h => rfl
  | y :: l, h => by
    rw [kds] at h ⊢
    by_cases hy : (kd C y).2 = 0
    · rw [if_pos hy] at h ⊢
      simp only [List.length_cons, kds_len C l h]
    · rw [if_neg hy] at h; exact absurd h hy
/-- a wrong one behind right ones. -/
theorem kds_bad (C : List Col) (x : Tree) (r : List Tree) : ∀ l : List Tree, (kds C l).1 = 0 → (kd C x).2 ≠ 0 → (kds C (l ++ x :: r)).1 = (kd C x).2
  | [], h, hx => by rw [List.nil_append, kds, if_neg hx]
  | y :: l, h, hx => by
    rw [kds] at h
    by_cases hy : (kd C y).2 = 0
    · rw [if_pos hy] at h
      rw [List.cons_append, kds, if_pos hy]
      exact kds_bad C x r l h hx
    · rw [if_neg hy] at h; exact absurd h hy
/-- right nodes have as many kids as are asked of. -/
theorem sh_len {op : Int} {t : List UInt8} {vk vn : Int} {vs : List UInt8} {n : Nat} (h : nodeB op t vk vn vs n = true) (h1 : op ≠ 1) (h2 : op ≠ 2) : (sh op t).2.length = n := by
  rw [nodeB, if_neg h1, if_neg h2] at h
  rw [sh]
  by_cases h3 : op = 3
  · rw [if_pos (.inl h3)] at h
    rw [if_pos h3]
    simp only [Bool.and_eq_true, beq_iff_eq] at h
    simp only [List.length_cons, List.length_nil]; omega
  rw [if_neg h3]
  by_cases h4 : op = 4
  · rw [if_pos (.inr h4)] at h
    rw [if_pos h4]
    simp only [Bool.and_eq_true, beq_iff_eq] at h
    simp only [List.length_cons, List.length_nil]; omega
  rw [if_neg h4]
  rw [if_neg (by omega)] at h
  by_cases h5 : op = 5
  · rw [if_pos h5] at h
    simp only [Bool.and_eq_true, beq_iff_eq, Bool.not_eq_true'] at h
    have := sh5 t h.1
    omega
  rw [if_neg h5] at h
  by_cases h6 : op = 6
  · rw [if_pos h6] at h
    simp only [Bool.and_eq_true] at h
    exact sh6 t n h.1
  · rw [if_neg h6] at h; cases h
end Kd
end Go.Proofs.YteghhmomhlnccaaGreatDoor

/- Columns in memory (two cells each); opened; rows of columns and of ints of the call's own. -/
namespace Go.Proofs.YteghhmomhlnccaaGreatDoor
open Go.RowKit Go.Lib
set_option linter.unusedVariables false
set_option maxRecDepth 100000
set_option linter.unusedSimpArgs false

def ColsAt (w : World) (A : Option Addr) (C : List Col) : Prop := ∀ i (h : i < C.length), ∃ b o, A = some ⟨b, o, none⟩ ∧ b < w.heap.size ∧ w.cell? ⟨b, o + i * 2, none⟩ = some (.string (tx C[i].1)) ∧ w.cell? ⟨b, o + i * 2 + 1, none⟩ = some (.int .i64 C[i].2)
abbrev ncol (c : Col) : Array Value := #[.string (tx c.1), .int .i64 c.2]
theorem ColsAt.below {w w' : World} {A : Option Addr} {C : List Col} (h : ColsAt w A C) (hb : Below w.heap.size w w') : ColsAt w' A C := fun i hi => by
  obtain ⟨b, o, e, h1, h2, h3⟩ := h i hi
  exact ⟨b, o, e, Nat.lt_of_lt_of_le h1 hb.size, (hb.cell (p := ⟨b, o + i * 2, none⟩) h1).trans h2, (hb.cell (p := ⟨b, o + i * 2 + 1, none⟩) h1).trans h3⟩
theorem ColsAt.nil (w : World) (A : Option Addr) : ColsAt w A [] := fun i hi => absurd hi (Nat.not_lt_zero _)
theorem ColsAt.drop {w : World} {b o : Nat} {C : List Col} (h : ColsAt w (some ⟨b, o, none⟩) C) (n : Nat) : ColsAt w (some ⟨b, o + n * 2, none⟩) (C.drop n) := fun i hi => by
  rw [List.length_drop] at hi
  obtain ⟨b', o', e, h1, h2, h3⟩ := h (n + i) (by omega)
  cases e
  refine ⟨b, o + n * 2, rfl, h1, ?_, ?_⟩
  · rw [show o + n * 2 + i * 2 = o + (n + i) * 2 by omega, h2, List.getElem_drop]
  · rw [show o + n * 2 + i * 2 + 1 = o + (n + i) * 2 + 1 by omega, h3, List.getElem_drop]
theorem ColsAt.take {w : World} {A : Option Addr} {C : List Col} (h : ColsAt w A C) (n : Nat) : ColsAt w A (C.take n) := fun i hi => by
  rw [List.length_take] at hi
  obtain ⟨b, o, e, h1, h2, h3⟩ := h i (by omega)
  exact ⟨b, o, e, h1, by rw [h2, List.getElem_take], by rw [h3, List.getElem_take]⟩

/-! opened -/
def fitC (C : List Col) : Prop := ∀ c ∈ C, c.1.length ≤ maxLen
theorem cellsCol : Tryz.prog.cellsOf 45 = 2 := by kernel_rfl
theorem choose_col {n : Nat} {R : Nat → Col → Prop} (h : ∀ i, i < n → ∃ x, R i x) : ∃ l : List Col, l.length = n ∧ ∀ i (hi : i < l.length), R i l[i] := by
  induction n with
  | zero => exact ⟨[], rfl, fun i hi => absurd hi (by simp)⟩
  | succ n ih =>
    obtain ⟨l, h1, h2⟩ := ih fun i hi => h i (by omega)
    obtain ⟨x, hx⟩ := h n (by omega)
    refine ⟨l ++ [x], by simp [h1], fun i hi => ?_⟩
    by_cases e : i < l.length
    · rw [List.getElem_append_left e]; exact h2 i e
    · have : i = n := by simp at hi; omega
      subst this
      rw [List.getElem_append_right (by omega)]
      simpa [h1] using hx
section
open Go.Deep Go.Joins Go.WideShapes Go.ChangeShapes
variable {H : Type} {enc : TypeId × Value → H} {W : World} {base : Nat} {spare : Nat → Bool} {held : Bool}
theorem opens_col {fuel : Nat} {cs : List Value} {x : DataW H × List MemPlace} (h : DataW.trod enc Tryz.prog W base spare held fuel 45 cs = some x) : ∃ c : Col, cs = (ncol c).toList ∧ c.1.length ≤ maxLen := by
  obtain ⟨y0, y1, n, -, hl, h0, h1⟩ := trod_struct2 Tryz.underlying45 h
  rw [cellsCol] at hl
  match cs, hl with
  | [c0, c1], _ =>
    have z0 : Tryz.prog.cellsOf 3 = 1 := by kernel_rfl
    have z1 : Tryz.prog.cellsOf 9 = 1 := by kernel_rfl
    simp only [z0, z1, List.drop, List.take] at h0 h1
    obtain ⟨s, e0, -, w0⟩ := DataW.trod_string Tryz.underlying9 h0
    obtain ⟨k, e1, -, -⟩ := DataW.trod_int Tryz.underlying3 h1
    cases e0; cases e1
    refine ⟨(s.data.toList, k), by simp [ncol, tx], ?_⟩
    have : s.data.toList.length = s.size := by simp
    show s.data.toList.length ≤ maxLen
    omega
theorem opens_cols {fuel : Nat} {cs : List Value} {x : DataW H × List MemPlace} (h : DataW.trod enc Tryz.prog W base spare held fuel 27 cs = some x) : ∃ (C : List Col) (A : Option Addr) (c : Nat), cs = [.slice A C.length c] ∧ C.length ≤ c ∧ c ≤ maxLen ∧ ColsAt W A C ∧ fitC C ∧ (A = none → c = 0) := by
  rcases DataW.trod_slice Tryz.underlying27 h with ⟨hcs, _⟩ | ⟨a, len, cap, elems, rest, m, rfl, hcs, -, -, hle, hmx, hln, hel, -⟩
  · cases hcs
    exact ⟨[], none, 0, rfl, Nat.le_refl _, Nat.zero_le _, ColsAt.nil _ _, fun c hc => absurd hc (by simp), fun _ => rfl⟩
  · cases hcs
    have hk : ∀ i, i < len → ∃ x : Col, (∃ b o, a = ⟨b, o, none⟩ ∧ b < W.heap.size ∧ W.cell? ⟨b, o + i * 2, none⟩ = some (.string (tx x.1)) ∧ W.cell? ⟨b, o + i * 2 + 1, none⟩ = some (.int .i64 x.2)) ∧ x.1.length ≤ maxLen := by
      intro i hi
      have hh := hel i hi
      rw [cellsCol, List.getElem?_eq_getElem (by omega)] at hh
      obtain ⟨cs', h5, h6⟩ := Option.bind_eq_some_iff.1 hh
      obtain ⟨x, rfl, k4⟩ := opens_col h6
      obtain ⟨_, _, hat⟩ := World.cells?_some h5
      obtain ⟨b, o, spot⟩ := a
      have q0 := hat 0 (by show 0 < 2; omega)
      have q1 := hat 1 (by show 1 < 2; omega)
      rw [Go.Deep.add_add] at q0 q1
      have hspot : spot = none := by
        have hh := hel 0 (by omega)
        rw [cellsCol, List.getElem?_eq_getElem (by omega)] at hh
        obtain ⟨cs2, h52, h62⟩ := Option.bind_eq_some_iff.1 hh
        obtain ⟨x2, rfl, -⟩ := opens_col h62
        obtain ⟨_, _, hat2⟩ := World.cells?_some h52
        have := World.cell?_spot (hat2 0 (by show 0 < 2; omega))
        simpa [Addr.add] using this
      subst hspot
      rw [Addr.add_lit] at q0 q1
      exact ⟨x, ⟨b, o, rfl, World.block_lt_of_cell? W _ q0, by simpa using q0, by simpa [Nat.add_assoc] using q1⟩, k4⟩
    obtain ⟨l, hl1, hl2⟩ := choose_col hk
    refine ⟨l, some a, cap, by rw [hl1], by omega, hmx, fun i hi => ?_, fun c hc => ?_, fun h => by cases h⟩
    · obtain ⟨b, o, rfl, k⟩ := (hl2 i hi).1
      exact ⟨b, o, rfl, k⟩
    · obtain ⟨i, hi, rfl⟩ := List.getElem_of_mem hc
      exact (hl2 i hi).2
/-- columns that came in. -/
theorem open_cols {r : Reach} {b0 : Nat} {v : Value} {d : DataW H} {p : List MemPlace} (hv : Value.okWide Tryz.prog W r b0 27 v) (h : DataW.Trod enc Tryz.prog W base spare held 27 v d p) : ∃ (C : List Col) (A : Option Addr) (c : Nat), v = .slice A C.length c ∧ C.length ≤ c ∧ c ≤ maxLen ∧ ColsAt W A C ∧ fitC C ∧ (A = none → c = 0) := by
  obtain ⟨A, n, c, rfl⟩ : ∃ A n c, v = .slice A n c := okWide_slice Tryz.underlying27 hv
  obtain ⟨fuel, hf⟩ := h
  obtain ⟨C, A', c', hcs, h1, h2, h3, h4⟩ := opens_cols hf
  refine ⟨C, A', c', ?_, h1, h2, h3, h4⟩
  simpa [Value.cells] using hcs
end

/-! rows of the call's own -/
def colCells (C : List Col) : List Value := C.flatMap fun c => [.string (tx c.1), .int .i64 c.2]
theorem colCells_len : ∀ C : List Col, (colCells C).length = C.length * 2
  | [] => rfl
  | c :: C => by
    have := colCells_len C
    rw [colCells, List.flatMap_cons, ← colCells, List.length_append, this]
    simp only [List.length_cons, List.length_nil]; omega
theorem colCells_at : ∀ (C : List Col) (i : Nat) (h : i < C.length), (colCells C)[i * 2]? = some (.string (tx C[i].1)) ∧ (colCells C)[i * 2 + 1]? = some (.int .i64 C[i].2)
  | c :: C, 0, h => ⟨rfl, rfl⟩
  | c :: C, i + 1, h => by
    have := colCells_at C i (by simpa using h)
    rw [colCells, List.flatMap_cons, ← colCells, show (i + 1) * 2 = i * 2 + 1 + 1 by omega]
    exact this
/-- cells at an address that say columns. -/
theorem ColsAt.cells {w : World} {b o : Nat} {C : List Col} (h : ColsAt w (some ⟨b, o, none⟩) C) : ∀ j u, (colCells C)[j]? = some u → w.cell? ⟨b, o + j, none⟩ = some u := by
  intro j u hu
  have hj : j < C.length * 2 := by rw [← colCells_len]; exact (List.getElem?_eq_some_iff.1 hu).1
  obtain ⟨b', o', e, h1, h2, h3⟩ := h (j / 2) (by omega)
  cases e
  obtain ⟨k1, k2⟩ := colCells_at C (j / 2) (by omega)
  rcases Nat.mod_two_eq_zero_or_one j with hm | hm
  · rw [show j / 2 * 2 = j by omega] at k1 h2
    rw [h2, ← k1, hu]
  · rw [show j / 2 * 2 + 1 = j by omega] at k2
    rw [show o + j / 2 * 2 + 1 = o + j by omega] at h3
    rw [h3, ← k2, hu]
theorem ColsAt.of_cells {w : World} {b o : Nat} {C : List Col} (hb : b < w.heap.size) (h : ∀ j u, (colCells C)[j]? = some u → w.cell? ⟨b, o + j, none⟩ = some u) : ColsAt w (some ⟨b, o, none⟩) C := fun i hi => by
  obtain ⟨k1, k2⟩ := colCells_at C i hi
  exact ⟨b, o, rfl, hb, h _ _ k1, by have := h _ _ k2; rwa [← Nat.add_assoc] at this⟩
def RowC (w : World) (base : Nat) (v : Value) (C : List Col) : Prop := w.ownsRow base 45 2 v C.length (colCells C)
theorem RowC.new (w : World) : RowC (w.alloc (.cells #[] 45)) w.heap.size (.slice (some ⟨w.heap.size, 0, none⟩) 0 0) [] :=
  ⟨rfl, .inr ⟨w.heap.size, 0, #[], rfl, Nat.le_refl _, heap_alloc_new w _, Nat.le_refl _, Nat.zero_le _, rfl, rfl⟩⟩
theorem RowC.of_heap {w w' : World} {base : Nat} {v : Value} {C : List Col} (h : RowC w base v C) (hv : ∀ k, v.ownBlock = some k → w'.heap[k]? = w.heap[k]?) : RowC w' base v C := ownsRow_of_heap h hv
theorem RowC.block {w : World} {base : Nat} {v : Value} {C : List Col} (h : RowC w base v C) : ∀ k, v.ownBlock = some k → base ≤ k ∧ k < w.heap.size := fun k e => by
  obtain ⟨cur, hc⟩ := row_kind h e
  exact ⟨own_ge h e, (Array.getElem?_eq_some_iff.1 hc).1⟩
theorem RowC.below {w w' : World} {base : Nat} {v : Value} {C : List Col} (h : RowC w base v C) (hb : Below w.heap.size w w') : RowC w' base v C := h.of_heap fun k e => hb.block k (h.block k e).2
theorem RowC.shape {w : World} {base : Nat} {v : Value} {C : List Col} (h : RowC w base v C) : ∃ A c, v = .slice A C.length c ∧ C.length ≤ c ∧ c ≤ maxLen ∧ ColsAt w A C := by
  rcases h.2 with ⟨rfl, h0⟩ | ⟨g, cap, cur, rfl, hb, hh, hn, hm, hs, ht⟩
  · have : C = [] := List.eq_nil_of_length_eq_zero h0
    subst this
    exact ⟨none, 0, rfl, Nat.le_refl _, Nat.zero_le _, ColsAt.nil _ _⟩
  · refine ⟨_, cap, rfl, hn, hm, ColsAt.of_cells (Array.getElem?_eq_some_iff.1 hh).1 fun j u hu => ?_⟩
    have hj : j < C.length * 2 := by rw [← colCells_len]; exact (List.getElem?_eq_some_iff.1 hu).1
    rw [Nat.zero_add, cell_of_row w g j cur 45 (0, 0) hh, ← hu, ← ht, List.getElem?_take, if_pos (by omega)]
    simp
/-- ints in memory. -/
def IntsAt (w : World) (A : Option Addr) (l : List Int) : Prop := ∀ i (h : i < l.length), ∃ b o, A = some ⟨b, o, none⟩ ∧ b < w.heap.size ∧ w.cell? ⟨b, o + i, none⟩ = some (.int .i64 l[i])
theorem IntsAt.below {w w' : World} {A : Option Addr} {l : List Int} (h : IntsAt w A l) (hb : Below w.heap.size w w') : IntsAt w' A l := fun i hi => by
  obtain ⟨b, o, e, h1, h2⟩ := h i hi
  exact ⟨b, o, e, Nat.lt_of_lt_of_le h1 hb.size, (hb.cell (p := ⟨b, o + i, none⟩) h1).trans h2⟩
theorem IntsAt.whole {w : World} {g : Nat} {l : List Int} (h : Whole w g 3 ((l.map (Value.int .i64)).toArray)) : IntsAt w (some ⟨g, 0, none⟩) l := fun i hi => by
  refine ⟨g, 0, rfl, h.lt, ?_⟩
  rw [Nat.zero_add, h.cell, List.getElem?_toArray, List.getElem?_map, List.getElem?_eq_getElem hi]; rfl
def RowI (w : World) (base : Nat) (v : Value) (l : List Int) : Prop := w.ownsRow base 3 1 v l.length (l.map (Value.int .i64))
theorem RowI.nil (w : World) (base : Nat) : RowI w base (.slice none 0 0) [] := ⟨rfl, .inl ⟨rfl, rfl⟩⟩
theorem RowI.of_heap {w w' : World} {base : Nat} {v : Value} {l : List Int} (h : RowI w base v l) (hv : ∀ k, v.ownBlock = some k → w'.heap[k]? = w.heap[k]?) : RowI w' base v l := ownsRow_of_heap h hv
theorem RowI.block {w : World} {base : Nat} {v : Value} {l : List Int} (h : RowI w base v l) : ∀ k, v.ownBlock = some k → base ≤ k ∧ k < w.heap.size := fun k e => by
  obtain ⟨cur, hc⟩ := row_kind h e
  exact ⟨own_ge h e, (Array.getElem?_eq_some_iff.1 hc).1⟩
theorem RowI.below {w w' : World} {base : Nat} {v : Value} {l : List Int} (h : RowI w base v l) (hb : Below w.heap.size w w') : RowI w' base v l := h.of_heap fun k e => hb.block k (h.block k e).2
theorem RowI.shape {w : World} {base : Nat} {v : Value} {l : List Int} (h : RowI w base v l) : ∃ A c, v = .slice A l.length c ∧ l.length ≤ c ∧ c ≤ maxLen ∧ IntsAt w A l := by
  rcases h.2 with ⟨rfl, h0⟩ | ⟨g, cap, cur, rfl, hb, hh, hn, hm, hs, ht⟩
  · have : l = [] := List.eq_nil_of_length_eq_zero h0
    subst this
    exact ⟨none, 0, rfl, Nat.le_refl _, Nat.zero_le _, fun i hi => absurd hi (Nat.not_lt_zero _)⟩
  · refine ⟨_, cap, rfl, hn, hm, fun i hi => ⟨g, 0, rfl, (Array.getElem?_eq_some_iff.1 hh).1, ?_⟩⟩
    have hu : (l.map (Value.int .i64))[i]? = some (.int .i64 l[i]) := by rw [List.getElem?_map, List.getElem?_eq_getElem hi]; rfl
    rw [Nat.zero_add, cell_of_row w g i cur 3 (0, 0) hh, ← hu, ← ht, List.getElem?_take, if_pos (by omega)]
    simp
theorem infoInt : (Tryz.prog.info? 3).map (fun i => (i.zero.map (fun z => z.cells.size), i.size, decide (i.bytes ≤ 1000))) = some (some 1, 1, true) := by kernel_rfl
/-- an int more. -/
theorem append_int {w : World} {base : Nat} {v : Value} {l : List Int} (h : RowI w base v l) (x : Int) (hn : l.length ≤ 1000000) (hbase : base ≤ w.heap.size) :
    ∃ v' w', Sem.run Tryz.prog (Builtin.append_ #[65, 65] 65 #[v, .slice (some ⟨w.heap.size, 0, none⟩) 1 1]) (w.alloc (.cells #[.int .i64 x] 3)) = .ok v' w' ∧ RowI w' base v' (l ++ [x]) ∧ Touch v.ownBlock.toList w w' ∧ (v'.ownBlock = v.ownBlock ∨ v'.ownBlock = some (w.heap.size + 1)) := by
  have hinf := infoInt
  cases hi : Tryz.prog.info? 3 with
  | none => rw [hi] at hinf; simp at hinf
  | some i =>
    rw [hi] at hinf
    simp at hinf
    obtain ⟨⟨z, hz, i1⟩, i2, i3⟩ := hinf
    have hb : ∀ (a b : Nat), a ≤ 1000001 → b ≤ 1000 → a * b ≤ 140737488355328 := fun a b h1 h2 => Nat.le_trans (Nat.mul_le_mul h1 h2) (by omega)
    obtain ⟨v', w', hr, ho, hg, _, hb'⟩ := run_append_own_at (P := Tryz.prog) (w.alloc (.cells #[.int .i64 x] 3)) base 65 65 3 i z 1 i.bytes Tryz.underlying65 hi hz i2 rfl i1 (by omega) v l.length (l.map (Value.int .i64)) (h.below ((Below.refl _ _).alloc (Nat.le_refl _) _)) ⟨w.heap.size, 0, none⟩ 1 1 [.int .i64 x] rfl (by
      intro j u hu
      rw [Addr.add_lit, Nat.zero_add, cell_of_row _ w.heap.size j #[.int .i64 x] 3 (0, 0) (heap_alloc_new w _), ← hu]
      simp) (by
      intro u hu
      simp at hu
      subst hu
      rfl) (by simp only [maxLen]; omega) (hb _ _ (by omega) i3) (by simp; omega)
    refine ⟨v', w', hr, ?_, ?_, by simpa using hb'⟩
    · unfold RowI
      rw [List.length_append, List.map_append]
      exact ho
    · exact ((Touch.refl _ _).alloc _).grown hg (fun k e => .inl (by rw [e]; simp))
end Go.Proofs.YteghhmomhlnccaaGreatDoor
