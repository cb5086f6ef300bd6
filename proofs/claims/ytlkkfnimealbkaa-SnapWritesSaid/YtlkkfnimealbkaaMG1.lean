import Derived.Test.YtlkkfnimealbkaaPBX
import Derived.RangeFuncKeeps
import Derived.RangeFuncBound
import Derived.RangeFuncLeaves
import Derived.RangeFuncNested
import Derived.Shelf.Abstract
import Derived.Shelf.RegionOpen
import Derived.OwnWalkIn
import Derived.TacticsInMore
import Derived.RangeFuncBox
/- Pages: the layer page, in a namespace of its own (made by mkpag.py out of PB1, PB2, PB3, PB4, PB5, PB6, PBI). -/
namespace Go.Proofs.Ytlkkfnimealbkaa.Pag
open Go.RowKit Go.Shelf Go.Proofs.Ytlkkfnimealbkaa
set_option linter.unusedVariables false
attribute [local go_sem] Oper.semAt_some
/- The page in memory; fits, there, has, filled, Slots, head, left, Room. -/

/-- a piece, as a slice tells it. -/
structure Bx where
  A : Option Addr
  c : Nat
  b : List UInt8
abbrev Bx.v (x : Bx) : Value := .slice x.A x.b.length x.c
def bvs (l : List Bx) : List Value := l.map Bx.v
def bbs (l : List Bx) : List (List UInt8) := l.map fun x => x.b
theorem bbs_len (xs : List Bx) : (bbs xs).length = xs.length := by simp [bbs]
theorem bvs_len (xs : List Bx) : (bvs xs).length = xs.length := by simp [bvs]
theorem bbs_at (xs : List Bx) (i : Nat) (h : i < (bbs xs).length) : (bbs xs)[i] = (xs[i]'(by rw [bbs_len] at h; exact h)).b := by simp [bbs]
/-- how many bytes the pieces have. -/
def used : List (List UInt8) → Nat
  | [] => 0
  | b :: r => b.length + used r
theorem used_append : ∀ (l r : List (List UInt8)), used (l ++ r) = used l + used r
  | [], r => by simp [used]
  | b :: l, r => by simp only [List.cons_append, used, used_append l r]; omega
theorem used_one (b : List UInt8) : used [b] = b.length := by simp [used]
theorem used_at : ∀ (l : List (List UInt8)) (i : Nat) (h : i < l.length), used (l.take i) + l[i].length ≤ used l
  | [], i, h => absurd h (by simp)
  | b :: l, 0, h => by simp [used]
  | b :: l, i + 1, h => by
    have := used_at l i (by simpa using h)
    simp only [List.take_succ_cons, used, List.getElem_cons_succ]
    omega
theorem used_set : ∀ (l : List (List UInt8)) (i : Nat) (h : i < l.length) (b : List UInt8), used (l.set i b) + l[i].length = used l + b.length
  | [], i, h, _ => absurd h (by simp)
  | a :: l, 0, h, b => by simp [used]; omega
  | a :: l, i + 1, h, b => by
    have := used_set l i (by simpa using h) b
    simp only [List.set_cons_succ, used, List.getElem_cons_succ]
    omega
theorem used_take_succ (l : List (List UInt8)) (i : Nat) (h : i < l.length) : used (l.take (i + 1)) = used (l.take i) + l[i].length := by
  rw [List.take_add_one, List.getElem?_eq_getElem h, used_append]
  simp [used]
structure Pg where
  p : Nat
  size : Nat
  A : Option Addr
  c : Nat
  xs : List Bx
abbrev Pg.v (P : Pg) : Value := .slice P.A P.xs.length P.c
abbrev Pg.ptr (P : Pg) : Value := .pointer (some ⟨P.p, 0, none⟩)
def Pg.L (P : Pg) : List (List UInt8) := bbs P.xs
def pcells (P : Pg) : Array Value := #[.int .i64 (P.size : Nat), P.v]
structure PgAt (w : World) (P : Pg) : Prop where
  top : Whole w P.p 96 (pcells P)
  row : w.ownsRow 0 35 1 P.v P.xs.length (bvs P.xs)
  held : ∀ x ∈ P.xs, Row w 0 x.v x.b
  sz1 : 64 ≤ P.size
  sz2 : P.size ≤ 1024
  few : P.xs.length ≤ 250
  fit : 1 + 4 * P.xs.length + used P.L ≤ P.size
def foot (P : Pg) : List Nat := P.p :: P.v.ownBlock.toList
theorem foot_p {P : Pg} : P.p ∈ foot P := by simp [foot]
theorem foot_v {P : Pg} {k : Nat} (h : P.v.ownBlock = some k) : k ∈ foot P := by simp [foot, h]
theorem foot_cases {P : Pg} {k : Nat} (h : k ∈ foot P) : k = P.p ∨ P.v.ownBlock = some k := by simpa [foot] using h
/-- blocks of other kinds than the page's own stand as they stood. -/
structure Still (w w' : World) : Prop where
  size : w.heap.size ≤ w'.heap.size
  block : ∀ (k : Nat) (cs : Array Value) (t : TypeId) (z : Nat × Nat), w.heap[k]? = some (.cells cs t z) → t ≠ 96 → t ≠ 35 → w'.heap[k]? = w.heap[k]?
theorem Still.refl (w : World) : Still w w := ⟨Nat.le_refl _, fun _ _ _ _ _ _ _ => rfl⟩
theorem Still.trans {a b c : World} (h : Still a b) (k : Still b c) : Still a c :=
  ⟨Nat.le_trans h.size k.size, fun x cs t z e h1 h2 => (k.block x cs t z ((h.block x cs t z e h1 h2).trans e) h1 h2).trans (h.block x cs t z e h1 h2)⟩
theorem Still.of_below {w w' : World} (h : Below w.heap.size w w') : Still w w' := ⟨h.size, fun k _ _ _ e _ _ => h.block k (Array.getElem?_eq_some_iff.1 e).1⟩
section
variable {w w' w0 : World} {P : Pg}
theorem PgAt.c0 (h : PgAt w P) : w.cell? ⟨P.p, 0, none⟩ = some (.int .i64 (P.size : Nat)) := Whole.cell h.top 0
theorem PgAt.c1 (h : PgAt w P) : w.cell? ⟨P.p, 1, none⟩ = some P.v := Whole.cell h.top 1
theorem PgAt.f (h : PgAt w P) (i : Nat) : w.frozen? ⟨P.p, i, none⟩ = false := Whole.frozen h.top i
theorem PgAt.lt (h : PgAt w P) : P.p < w.heap.size := h.top.lt
theorem PgAt.kinds (h : PgAt w P) {k : Nat} (hk : k ∈ foot P) : ∃ cs t, w.heap[k]? = some (.cells cs t (0, 0)) ∧ (t = 96 ∨ t = 35) := by
  rcases foot_cases hk with rfl | e
  · exact ⟨_, _, h.top, .inl rfl⟩
  · obtain ⟨cur, hc⟩ := row_kind h.row e
    exact ⟨_, _, hc, .inr rfl⟩
theorem PgAt.of_heap (h : PgAt w P) (hf : ∀ k ∈ foot P, w'.heap[k]? = w.heap[k]?) (hb : ∀ k, Bytes w k → w'.heap[k]? = w.heap[k]?) : PgAt w' P :=
  ⟨(hf _ foot_p).trans h.top, ownsRow_of_heap h.row fun b e => hf b (foot_v e), fun x hx => (h.held x hx).of_heap fun k hk => hb k ((h.held x hx).bytes hk), h.sz1, h.sz2, h.few, h.fit⟩
theorem PgAt.footlt (h : PgAt w P) {k : Nat} (hk : k ∈ foot P) : k < w.heap.size := by
  obtain ⟨cs, t, e, _⟩ := h.kinds hk
  exact (Array.getElem?_eq_some_iff.1 e).1
theorem PgAt.below (h : PgAt w P) (hb : Below w.heap.size w w') : PgAt w' P :=
  h.of_heap (fun k hk => hb.block k (h.footlt hk)) (fun k hk => hb.block k hk.lt)
/-- a slot's cell. -/
theorem PgAt.slot (h : PgAt w P) (i : Nat) (hi : i < P.xs.length) : ∃ g, P.A = some ⟨g, 0, none⟩ ∧ P.v.ownBlock = some g ∧ g < w.heap.size ∧ w.cell? ⟨g, i, none⟩ = some (P.xs[i]).v ∧ w.frozen? ⟨g, i, none⟩ = false ∧ P.xs.length ≤ P.c := by
  have hr := h.row
  obtain ⟨_, h2⟩ := hr
  rcases h2 with ⟨e, h0⟩ | ⟨g, cap, cur, e, hb, hh, hn, hm, hs, ht⟩
  · omega
  · simp only [Pg.v, Value.slice.injEq] at e
    obtain ⟨e1, _, e3⟩ := e
    subst e3
    have hg := (Array.getElem?_eq_some_iff.1 hh).1
    refine ⟨g, e1, by unfold Pg.v; rw [e1]; rfl, hg, ?_, ?_, hn⟩
    · have hu : (bvs P.xs)[i]? = some (P.xs[i]).v := by simp [bvs, hi]
      rw [cell_of_row w g i cur 35 (0, 0) hh, ← hu, ← ht, List.getElem?_take, if_pos (by omega)]
      simp
    · simp [World.frozen?, hh]
end
/-! the calls that only read -/
theorem fits_any (n : Int) (w : World) : Calls Try.prog 50 #[.int .i64 n] w fun e w' => e = .returned (.bool (decide (64 ≤ n) && decide (n ≤ 1024))) ∧ w = w' := by
  by_cases h1 : 64 ≤ n
  · have h1' : n ≥ 64 := h1
    rw [decide_eq_true h1, Bool.true_and]
    go_enter Try.func50, Try.ntmps50
    go_wp2_with fail
    go_ret
    exact ⟨rfl, rfl⟩
  · have h1' : ¬ n ≥ 64 := h1
    rw [decide_eq_false h1, Bool.false_and]
    go_enter Try.func50, Try.ntmps50
    go_wp2_with fail
    go_ret
    exact ⟨rfl, rfl⟩
theorem fits_good (n : Nat) (h1 : 64 ≤ n) (h2 : n ≤ 1024) (w : World) : Calls Try.prog 50 #[.int .i64 (n : Nat)] w fun e w' => e = .returned (.bool true) ∧ w = w' := by
  have := fits_any (n : Int) w
  rw [decide_eq_true (show (64 : Int) ≤ n by omega), decide_eq_true (show (n : Int) ≤ 1024 by omega)] at this
  exact this
theorem there_nil (w : World) : Calls Try.prog 42 #[.pointer none] w fun e w' => e = .returned (.bool false) ∧ w = w' := by
  go_enter Try.func42, Try.ntmps42
  go_wp2_with fail
  go_ret
  exact ⟨rfl, rfl⟩
theorem there_any (p n : Nat) (h1 : 64 ≤ n) (h2 : n ≤ 1024) (w : World) (c0 : w.cell? ⟨p, 0, none⟩ = some (.int .i64 (n : Nat))) : Calls Try.prog 42 #[.pointer (some ⟨p, 0, none⟩)] w fun e w' => e = .returned (.bool true) ∧ w = w' := by
  have F := Lib.hid (fits_good n h1 h2 w)
  go_enter Try.func42, Try.ntmps42
  go_wp2_with fail
  refine F.out.mono ?_
  rintro e w1 ⟨rfl, rfl⟩
  go_wp2_with fail
  go_ret
  exact ⟨rfl, rfl⟩
theorem head_any (n : Nat) (hn : n ≤ 1000000) (w : World) : Calls Try.prog 58 #[.int .i64 (n : Nat)] w fun e w' => e = .returned (.int .i64 (1 + (n : Int) * 4)) ∧ w = w' := by
  have h1 : (n : Int) ≤ 1000000 := by omega
  go_enter Try.func58, Try.ntmps58
  go_wp2_with fail
  go_ret
  exact ⟨rfl, rfl⟩
theorem has_nil (i : Int) (w : World) : Calls Try.prog 65 #[.pointer none, .int .i64 i] w fun e w' => e = .returned (.int .i64 2) ∧ w = w' := by
  have T := there_nil w
  go_enter Try.func65, Try.ntmps65
  go_wp2_with fail
  refine T.mono ?_
  rintro e w1 ⟨rfl, rfl⟩
  go_wp2_with fail
  go_ret
  exact ⟨rfl, rfl⟩
theorem PgAt.there {w : World} {P : Pg} (h : PgAt w P) : Calls Try.prog 42 #[P.ptr] w fun e w' => e = .returned (.bool true) ∧ w = w' := there_any P.p P.size h.sz1 h.sz2 w h.c0
/-- is there no such slot? -/
def noSlot (P : Pg) (i : Int) : Prop := i < 0 ∨ (P.xs.length : Int) ≤ i
instance (P : Pg) (i : Int) : Decidable (noSlot P i) := inferInstanceAs (Decidable (_ ∨ _))
theorem has_no {w : World} {P : Pg} (h : PgAt w P) (i : Int) (hi : noSlot P i) : Calls Try.prog 65 #[P.ptr, .int .i64 i] w fun e w' => e = .returned (.int .i64 1) ∧ w = w' := by
  have T := Lib.hid h.there
  have c1 := h.c1
  clear h
  unfold noSlot at hi
  by_cases h0 : i < 0
  · go_enter Try.func65, Try.ntmps65
    go_wp2_with fail
    refine T.out.mono ?_
    rintro e w1 ⟨rfl, rfl⟩
    go_wp2_with fail
    go_ret
    exact ⟨rfl, rfl⟩
  · have hge : i ≥ (P.xs.length : Int) := by omega
    go_enter Try.func65, Try.ntmps65
    go_wp2_with fail
    refine T.out.mono ?_
    rintro e w1 ⟨rfl, rfl⟩
    go_wp2_with fail
    go_ret
    exact ⟨rfl, rfl⟩
theorem has_yes {w : World} {P : Pg} (h : PgAt w P) (i : Nat) (hi : i < P.xs.length) : Calls Try.prog 65 #[P.ptr, .int .i64 (i : Nat)] w fun e w' => e = .returned (.int .i64 0) ∧ w = w' := by
  have T := Lib.hid h.there
  have c1 := h.c1
  have h0 : ¬ (i : Int) < 0 := by omega
  have hge : ¬ (i : Int) ≥ (P.xs.length : Int) := by omega
  clear h hi
  go_enter Try.func65, Try.ntmps65
  go_wp2_with fail
  refine T.out.mono ?_
  rintro e w1 ⟨rfl, rfl⟩
  go_wp2_with fail
  go_ret
  exact ⟨rfl, rfl⟩
theorem filled_nil (i : Int) (w : World) : Calls Try.prog 61 #[.pointer none, .int .i64 i] w fun e w' => e = .returned (.int .i64 2) ∧ w = w' := by
  have T := has_nil i w
  go_enter Try.func61, Try.ntmps61
  go_wp2_with fail
  refine T.mono ?_
  rintro e w1 ⟨rfl, rfl⟩
  go_wp2_with fail
  go_ret
  exact ⟨rfl, rfl⟩
theorem filled_no {w : World} {P : Pg} (h : PgAt w P) (i : Int) (hi : noSlot P i) : Calls Try.prog 61 #[P.ptr, .int .i64 i] w fun e w' => e = .returned (.int .i64 1) ∧ w = w' := by
  have T := has_no h i hi
  clear h
  go_enter Try.func61, Try.ntmps61
  go_wp2_with fail
  refine T.mono ?_
  rintro e w1 ⟨rfl, rfl⟩
  go_wp2_with fail
  go_ret
  exact ⟨rfl, rfl⟩
theorem filled_yes {w : World} {P : Pg} (h : PgAt w P) (i : Nat) (hi : i < P.xs.length) : Calls Try.prog 61 #[P.ptr, .int .i64 (i : Nat)] w fun e w' => e = .returned (.int .i64 (if P.xs[i].b = [] then 13 else 0)) ∧ w = w' := by
  have T := Lib.hid (has_yes h i hi)
  have c1 := h.c1
  obtain ⟨g, hA, -, -, hc, -, -⟩ := h.slot i hi
  have hil : (i : Int) < (P.xs.length : Int) := by omega
  unfold Pg.v at c1
  rw [hA] at c1
  unfold Pg.ptr at *
  unfold Bx.v at hc
  clear h
  generalize P.xs[i] = x at *
  generalize P.xs.length = n at *
  by_cases hb : x.b = []
  · rw [if_pos hb]
    rw [hb] at hc
    simp only [List.length_nil] at hc
    clear hb
    go_enter Try.func61, Try.ntmps61
    go_wp2_with fail
    refine T.out.mono ?_
    rintro e w1 ⟨rfl, rfl⟩
    go_wp2_with fail
    go_ret
    exact ⟨rfl, rfl⟩
  · rw [if_neg hb]
    have hlen : ¬ ((x.b.length : Nat) : Int) = 0 := by
      have := List.length_pos_iff.2 hb
      omega
    generalize x.b.length = m at *
    clear hb
    go_enter Try.func61, Try.ntmps61
    go_wp2_with fail
    refine T.out.mono ?_
    rintro e w1 ⟨rfl, rfl⟩
    go_wp2_with fail
    go_ret
    exact ⟨rfl, rfl⟩
theorem slots_nil (w : World) : Calls Try.prog 47 #[.pointer none] w fun e w' => e = .returned (.int .i64 0) ∧ w = w' := by
  have T := there_nil w
  go_enter Try.func47, Try.ntmps47
  go_wp2_with fail
  refine T.mono ?_
  rintro e w1 ⟨rfl, rfl⟩
  go_wp2_with fail
  go_ret
  exact ⟨rfl, rfl⟩
theorem slots_at {w : World} {P : Pg} (h : PgAt w P) : Calls Try.prog 47 #[P.ptr] w fun e w' => e = .returned (.int .i64 (P.xs.length : Nat)) ∧ w = w' := by
  have T := Lib.hid h.there
  have c1 := h.c1
  clear h
  go_enter Try.func47, Try.ntmps47
  go_wp2_with fail
  refine T.out.mono ?_
  rintro e w1 ⟨rfl, rfl⟩
  go_wp2_with fail
  go_ret
  exact ⟨rfl, rfl⟩
theorem room_nil (w : World) : Calls Try.prog 37 #[.pointer none] w fun e w' => e = .returned (.int .i64 0) ∧ w = w' := by
  have T := there_nil w
  go_enter Try.func37, Try.ntmps37
  go_wp2_with fail
  refine T.mono ?_
  rintro e w1 ⟨rfl, rfl⟩
  go_wp2_with fail
  go_ret
  exact ⟨rfl, rfl⟩
/-- how many bytes neither slots nor pieces have. -/
def Pg.left (P : Pg) : Nat := P.size - 1 - 4 * P.xs.length - used P.L
set_option maxRecDepth 100000 in
set_option maxHeartbeats 1000000 in
theorem left_at {w : World} {P : Pg} (h : PgAt w P) : Calls Try.prog 51 #[P.ptr] w fun e w' => e = .returned (.int .i64 (P.left : Nat)) ∧ ∃ k, w' = w.drewN k := by
  have c0 := h.c0
  have c1 := h.c1
  have hfew := h.few
  have hfit := h.fit
  have hsz := h.sz2
  have HD := Lib.hid fun W => head_any P.xs.length (by omega) W
  have H := Lib.hid h
  have hfewi : (P.xs.length : Int) ≤ 250 := by omega
  have hszi : (P.size : Int) ≤ 1024 := by omega
  clear h
  go_enter Try.func51, Try.ntmps51
  go_wp2_with fail
  go_quiet ((go_at_call 58; exact Calls.quiet_of ((HD.out _).mono fun _ _ hh => ⟨hh.1, 0, hh.2.symm⟩)))
  have hb1 : Below w.heap.size w (w.drewN nq) := below_drewN (Below.refl _ _) nq
  have H1 := Lib.hid (H.out.below hb1)
  have HW : Hid (∃ k, w.drewN nq = w.drewN k) := Lib.hid ⟨_, rfl⟩
  generalize w.drewN nq = W at *
  have c1 := H1.out.c1
  have HALL : Hid (∀ i (hi : i < P.xs.length), ∃ g, P.A = some ⟨g, 0, none⟩ ∧ W.cell? ⟨g, i, none⟩ = some (P.xs[i]).v) := Lib.hid fun i hi => by
    obtain ⟨g, h1, -, -, h2, -, -⟩ := H1.out.slot i hi
    exact ⟨g, h1, h2⟩
  unfold Pg.v at c1
  clear c0 hb1 HD H H1
  generalize P.A = AA at *
  go_wp2_with fail
  go_loopg [3, 22] (P.xs.length + 1) (fun j s3 s22 wr => ∃ i : Nat, i ≤ P.xs.length ∧ P.xs.length < i + j ∧ s22 = .int .i64 (i : Nat) ∧ s3 = .int .i64 ((P.size : Int) - (1 + (P.xs.length : Int) * 4) - (used (P.L.take i) : Nat)) ∧ wr = W)
  case atStart => exact ⟨0, by omega, by omega, rfl, by simp [used], rfl⟩
  case round =>
    obtain ⟨i, hi, hj, rfl, rfl, rfl⟩ := hrel
    have hLlen : P.L.length = P.xs.length := bbs_len _
    by_cases hlt : i < P.xs.length
    · have hlti : (i : Int) < (P.xs.length : Int) := by omega
      obtain ⟨g, rfl, hc⟩ := HALL.out i hlt
      have hu := used_take_succ P.L i (by omega)
      have hu2 := used_at P.L i (by omega)
      have hLi : P.L[i] = P.xs[i].b := bbs_at _ _ _
      rw [hLi] at hu hu2
      have HU := Lib.hid hu
      unfold Bx.v at hc
      clear HALL
      generalize P.xs[i] = x at *
      have hxi : ((x.b.length : Nat) : Int) ≤ 1024 := by omega
      have hui : ((used (P.L.take i) : Nat) : Int) ≤ 1024 := by omega
      generalize used (P.L.take i) = u at *
      clear hLi hu hu2 c1 HW
      go_wp2_with fail
      go_roundg (P.xs.length - i)
      case measure => omega
      case rel => exact ⟨i + 1, by omega, by omega, rfl, by rw [HU.out, Int.natCast_add]; congr 1; omega, rfl⟩
    · have hge : ¬ (i : Int) < (P.xs.length : Int) := by omega
      have hin : i = P.xs.length := by omega
      have hu : P.L.take i = P.L := List.take_of_length_le (by omega)
      rw [hu]
      have hfin : Hid ((P.size : Int) - (1 + (P.xs.length : Int) * 4) - (used P.L : Nat) = (P.left : Nat)) := Lib.hid (by unfold Pg.left; omega)
      clear hu c1 HALL
      go_wp2_with fail
      go_ret
      exact ⟨by show Ending.returned (.int .i64 _) = _; rw [hfin.out], HW.out⟩
theorem room_at {w : World} {P : Pg} (h : PgAt w P) : Calls Try.prog 37 #[P.ptr] w fun e w' => e = .returned (.int .i64 (P.left : Nat)) ∧ ∃ k, w' = w.drewN k := by
  have T := Lib.hid h.there
  have L := Lib.hid (left_at h)
  clear h
  go_enter Try.func37, Try.ntmps37
  go_wp2_with fail
  refine T.out.mono ?_
  rintro e w1 ⟨rfl, rfl⟩
  go_wp2_with fail
  refine L.out.mono ?_
  rintro e w2 ⟨rfl, k, rfl⟩
  go_wp2_with fail
  go_ret
  exact ⟨rfl, _, rfl⟩
/- What a call that turns the page leaves: a store into a slot, an append, fewer slots (plain). -/

theorem step_append_runI {P : Program} {ops : Array Oper} {o : Oper} {a : Act} {w : World} {K : Act → World → Prop} {Q : Exit → Act → World → Prop} {E : Prop}
    (hg : o.guard = none) (d x : Operand) (dT sT : TypeId) (hop : o.op = Op.call { callee := Callee.builtin Builtin.append, args := #[d, x], argTypes := #[dT, sT] })
    (v u : Value) (hd : a.eval d = v) (hx : a.eval x = u) {v' : Value} {w' : World} (hr : (Builtin.append_ #[dT, sT] o.type #[v, u]).run P w = .ok v' w') (hK : K (a.put o.dst v') w') :
    if Region.wanted o (yielded ops a.tmps) = true then Oper.wp P o a w K Q else E := by
  have hw : Region.wanted o (yielded ops a.tmps) = true := by simp [Region.wanted, hg]
  rw [if_pos hw]
  unfold Oper.wp
  simp [execOp, hop, resolve, invoke, builtin, hd, hx, hr, Result.andThen]
  exact hK
theorem step_call_any {P : Program} {ops : Array Oper} {o : Oper} {a : Act} {w : World} {K : Act → World → Prop} {Q : Exit → Act → World → Prop} {E : Prop}
    (hg : o.guard = none) (f : FuncId) (args : Array Value) (hrun : (execOp a.eval o).run P w = .ok (.enter f args) w) {R : Ending → World → Prop} (hc : Calls P f args w R) (hK : ∀ e w', R e w' → ∃ v, e = .returned v ∧ K (a.put o.dst v) w') :
    if Region.wanted o (yielded ops a.tmps) = true then Oper.wp P o a w K Q else E := by
  have hw : Region.wanted o (yielded ops a.tmps) = true := by simp [Region.wanted, hg]
  rw [if_pos hw]
  unfold Oper.wp
  rw [hrun, Oper.upon_enter]
  refine hc.mono fun e w' hh => ?_
  obtain ⟨v, rfl, hk⟩ := hK e w' hh
  exact hk

/-- how the page stands behind a call. -/
def Goes (w w' : World) (P P' : Pg) : Prop := PgAt w' P' ∧ P'.p = P.p ∧ P'.size = P.size ∧ (∀ k ∈ foot P', k ∈ foot P ∨ w.heap.size ≤ k) ∧ Touch (foot P) w w'
theorem Goes.refl {w : World} {P : Pg} (h : PgAt w P) : Goes w w P P := ⟨h, rfl, rfl, fun _ hk => .inl hk, Touch.refl _ _⟩
theorem Goes.trans {w w1 w2 : World} {P P1 P2 : Pg} (h : Goes w w1 P P1) (k : Goes w1 w2 P1 P2) : Goes w w2 P P2 :=
  ⟨k.1, k.2.1.trans h.2.1, k.2.2.1.trans h.2.2.1, fun x hx => by
    rcases k.2.2.2.1 x hx with h1 | h1
    · exact h.2.2.2.1 x h1
    · exact .inr (Nat.le_trans h.2.2.2.2.size h1), h.2.2.2.2.trans k.2.2.2.2 (fun x hx => h.2.2.2.1 x hx)⟩
theorem Goes.after {w w1 w2 : World} {P P2 : Pg} (hb : Below w.heap.size w w1) (k : Goes w1 w2 P P2) : Goes w w2 P P2 :=
  ⟨k.1, k.2.1, k.2.2.1, fun x hx => (k.2.2.2.1 x hx).imp id (fun h => Nat.le_trans hb.size h), (Touch.of_below hb (foot P)).trans k.2.2.2.2 (fun x hx => .inl hx)⟩
theorem Goes.still {w w' : World} {P P' : Pg} (h : PgAt w P) (g : Goes w w' P P') : Still w w' :=
  ⟨g.2.2.2.2.size, fun k cs t z e h1 h2 => g.2.2.2.2.block k (Array.getElem?_eq_some_iff.1 e).1 fun hk => by
    obtain ⟨cs', t', e', ht⟩ := h.kinds hk
    rw [e] at e'
    simp at e'
    rcases ht with ht | ht
    · exact h1 (e'.2.1.trans ht)
    · exact h2 (e'.2.1.trans ht)⟩
section
variable {w w' w0 : World} {P : Pg}
theorem PgAt.vp (h : PgAt w P) {k : Nat} (e : P.v.ownBlock = some k) : k ≠ P.p := fun e' => by
  obtain ⟨cur, hc⟩ := row_kind h.row e
  have := h.top
  unfold Whole at this
  rw [e', this] at hc
  simp at hc
theorem PgAt.plain (h : PgAt w P) {k : Nat} (hk : k ∈ foot P) : ¬ Bytes w k := fun hb => by
  obtain ⟨cs, t, e, ht⟩ := h.kinds hk
  obtain ⟨cs', z, e'⟩ := hb
  rw [e] at e'
  simp at e'
  rcases ht with ht | ht
  · exact absurd (e'.2.1.symm.trans ht) (by decide)
  · exact absurd (e'.2.1.symm.trans ht) (by decide)
theorem bvs_set (xs : List Bx) (i : Nat) (x : Bx) : bvs (xs.set i x) = (bvs xs).set i x.v := by simp [bvs, List.map_set]
theorem bbs_set (xs : List Bx) (i : Nat) (x : Bx) : bbs (xs.set i x) = (bbs xs).set i x.b := by simp [bbs, List.map_set]
theorem ownsRow_set {base : Nat} {e : TypeId} {v : Value} {n : Nat} {xs : List Value} {g : Nat} (h : w.ownsRow base e 1 v n xs) (hg : v.ownBlock = some g) (i : Nat) (u : Value) : (w.setCell ⟨g, i, none⟩ u).ownsRow base e 1 v n (xs.set i u) := by
  refine ⟨by rw [List.length_set]; exact h.1, ?_⟩
  rcases h.2 with ⟨rfl, _⟩ | ⟨g', cap, cur, rfl, hb, hh, hn, hm, hs, ht⟩
  · cases hg
  · cases hg
    refine .inr ⟨g', cap, cur.setIfInBounds i u, rfl, hb, Whole.set_ (show Whole w g' e cur from hh) i u, hn, hm, by simpa using hs, ?_⟩
    rw [Array.toList_setIfInBounds, List.take_set, ht]
theorem PgAt.store (h : PgAt w P) (i : Nat) (hi : i < P.xs.length) (x : Bx) (hx : Row w 0 x.v x.b) (hfit : 1 + 4 * P.xs.length + used (P.L.set i x.b) ≤ P.size) {g : Nat} (hg : P.v.ownBlock = some g) :
    Goes w (w.setCell ⟨g, i, none⟩ x.v) P { P with xs := P.xs.set i x } := by
  have hl : (P.xs.set i x).length = P.xs.length := List.length_set
  have hby : ∀ k, Bytes w k → (w.setCell ⟨g, i, none⟩ x.v).heap[k]? = w.heap[k]? := fun k hk => heap_set_other _ _ _ _ _ fun e => h.plain (foot_v hg) (e ▸ hk)
  refine ⟨⟨?_, ?_, fun y hy => ?_, h.sz1, h.sz2, by rw [hl]; exact h.few, ?_⟩, rfl, rfl, fun k hk => .inl ?_, Touch.one (foot_v hg)⟩
  · have := (heap_set_other w g i x.v P.p (fun e => h.vp hg e.symm)).trans h.top
    unfold pcells Pg.v at *
    simp only [hl]
    exact this
  · have := ownsRow_set h.row hg i x.v
    simp only [Pg.v, hl, bvs_set] at *
    exact this
  · rcases List.mem_or_eq_of_mem_set hy with hy | rfl
    · exact (h.held y hy).of_heap fun k hk => hby k ((h.held y hy).bytes hk)
    · exact hx.of_heap fun k hk => hby k (hx.bytes hk)
  · show 1 + 4 * (P.xs.set i x).length + used (bbs (P.xs.set i x)) ≤ P.size
    rw [hl, bbs_set]
    exact hfit
  · rcases foot_cases hk with rfl | e
    · exact foot_p
    · refine foot_v ?_
      rw [← e]
      simp only [Pg.v, hl]
theorem ownsRow_succ {w : World} {base : Nat} {e : TypeId} {z n : Nat} {v : Value} {xs : List Value} (h : w.ownsRow base e z v (n + 1) xs) : ∃ g cap, v = .slice (some ⟨g, 0, none⟩) (n + 1) cap := by
  rcases h.2 with ⟨_, h0⟩ | ⟨g, cap, cur, rfl, _⟩
  · omega
  · exact ⟨g, cap, rfl⟩
theorem infoBs : (Try.prog.info? 35).map (fun i => (i.zero, i.size, i.bytes)) = some (some (.slice none 0 0), 1, 24) := by kernel_rfl
theorem PgAt.push (h : PgAt w P) (x : Bx) (hx : Row w 0 x.v x.b) (hn : P.xs.length < 250) (hfit : 1 + 4 * (P.xs.length + 1) + used P.L + x.b.length ≤ P.size) :
    ∃ a' c' w4, Sem.run Try.prog (Builtin.append_ #[22, 22] 22 #[P.v, .slice (some ⟨w.heap.size, 0, none⟩) 1 1]) (w.alloc (.cells #[x.v] 35)) = .ok (.slice a' (P.xs.length + 1) c') w4 ∧
      w4.cell? ⟨P.p, 1, none⟩ = some P.v ∧ w4.frozen? ⟨P.p, 1, none⟩ = false ∧ P.p < w4.heap.size ∧
      Goes w (w4.setCell ⟨P.p, 1, none⟩ (.slice a' (P.xs.length + 1) c')) P { P with A := a', c := c', xs := P.xs ++ [x] } := by
  obtain ⟨i, hi, hz0, hz1, hz2⟩ := info_parts infoBs
  have hsz := h.lt
  have balW : Below w.heap.size w (w.alloc (.cells #[x.v] 35)) := (Below.refl _ _).alloc (Nat.le_refl _) _
  have hcell : (w.alloc (.cells #[x.v] 35)).cell? ⟨w.heap.size, 0, none⟩ = some x.v := cell_of_row _ w.heap.size 0 #[x.v] 35 (0, 0) (heap_alloc_new w _)
  have hW := h.below balW
  have hxW := hx.below balW
  have hszW : (w.alloc (.cells #[x.v] 35)).heap.size = w.heap.size + 1 := by simp
  generalize w.alloc (.cells #[x.v] 35) = W at *
  obtain ⟨v', w4, hr, ho, hg, _, hown⟩ := run_append_own_at (P := Try.prog) W 0 22 22 35 i (.slice none 0 0) 1 24 Try.underlying22 hi hz0 hz1 hz2 rfl (by omega) P.v P.xs.length (bvs P.xs) hW.row ⟨w.heap.size, 0, none⟩ 1 1 [x.v] rfl (by
    intro j u hu
    have hj : j = 0 := by
      have := (List.getElem?_eq_some_iff.1 hu).1
      simp at this
      exact this
    subst hj
    simp at hu
    subst hu
    exact hcell) (by
    intro u hu
    simp at hu
    subst hu
    rfl) (by simp only [maxLen]; omega) (by omega) (Nat.zero_le _)
  obtain ⟨g', cap', e'⟩ := ownsRow_succ ho
  subst e'
  have p4 : Whole w4 P.p 96 (pcells P) := (hg.block P.p (by omega) (fun e => hW.vp e.symm rfl)).trans hW.top
  have b4 : ∀ k, Bytes W k → w4.heap[k]? = W.heap[k]? := fun k hk => hg.block k hk.lt (fun e => hW.plain (foot_v e.symm) hk)
  have hg'v : (Value.slice (some ⟨g', 0, none⟩) (P.xs.length + 1) cap').ownBlock = some g' := rfl
  have hg'p : g' ≠ P.p := fun e => by
    obtain ⟨cur, hc⟩ := row_kind ho hg'v
    unfold Whole at p4
    rw [e, p4] at hc
    simp at hc
  have hbp : ∀ k, Bytes W k → k ≠ P.p := fun k hk e => hW.plain foot_p (e ▸ hk)
  refine ⟨_, cap', w4, hr, p4.cell 1, p4.frozen 1, p4.lt, ⟨?_, ?_, fun y hy => ?_, h.sz1, h.sz2, ?_, ?_⟩, rfl, rfl, fun k hk => ?_, ?_⟩
  · have := p4.set_ 1 (.slice (some ⟨g', 0, none⟩) (P.xs.length + 1) cap')
    unfold pcells Pg.v at *
    simp only [List.length_append, List.length_singleton]
    exact this
  · show World.ownsRow _ 0 35 1 (.slice (some ⟨g', 0, none⟩) (P.xs ++ [x]).length cap') (P.xs ++ [x]).length (bvs (P.xs ++ [x]))
    rw [List.length_append, List.length_singleton, show bvs (P.xs ++ [x]) = bvs P.xs ++ [x.v] by simp [bvs]]
    exact ownsRow_of_heap ho fun b hb => heap_set_other _ _ _ _ _ (by cases hb; exact hg'p)
  · have hrow : Row W 0 y.v y.b := by
      rcases List.mem_append.1 hy with hy | hy
      · exact hW.held y hy
      · have : y = x := by simpa using hy
        subst this
        exact hxW
    exact hrow.of_heap fun k hk => (heap_set_other _ _ _ _ _ (hbp k (hrow.bytes hk))).trans (b4 k (hrow.bytes hk))
  · show (P.xs ++ [x]).length ≤ 250
    rw [List.length_append, List.length_singleton]; omega
  · show 1 + 4 * (P.xs ++ [x]).length + used (bbs (P.xs ++ [x])) ≤ P.size
    rw [List.length_append, List.length_singleton, show bbs (P.xs ++ [x]) = bbs P.xs ++ [x.b] by simp [bbs], used_append, used_one]
    have : used P.L = used (bbs P.xs) := rfl
    omega
  · rcases foot_cases hk with rfl | e
    · exact .inl foot_p
    · have e : g' = k := by
        simp only [Value.ownBlock] at e
        injection e
      subst e
      rcases hown with hh | hh
      · exact .inl (foot_v (hh.symm.trans hg'v))
      · rw [hg'v] at hh
        injection hh with hh
        exact .inr (by omega)
  · refine ((Touch.of_below balW (foot P)).grown hg fun k e => .inl (foot_v e)).setCell (.inl foot_p) _
/-- the slots behind the last one that has a piece go. -/
def trimN (L : List (List UInt8)) : Nat → Nat
  | 0 => 0
  | n + 1 => if L.getD n [] = [] then trimN L n else n + 1
def trimL (L : List (List UInt8)) : List (List UInt8) := L.take (trimN L L.length)
theorem trimN_empty (L : List (List UInt8)) (n : Nat) (h : L.getD n [] = []) : trimN L (n + 1) = trimN L n := if_pos h
theorem trimN_full (L : List (List UInt8)) (n : Nat) (h : L.getD n [] ≠ []) : trimN L (n + 1) = n + 1 := if_neg h
theorem trimN_le (L : List (List UInt8)) : ∀ n, trimN L n ≤ n
  | 0 => Nat.le_refl _
  | n + 1 => by
    unfold trimN
    split
    · have := trimN_le L n; omega
    · omega
theorem used_take (L : List (List UInt8)) (k : Nat) : used (L.take k) ≤ used L := by
  have := used_append (L.take k) (L.drop k)
  rw [List.take_append_drop] at this
  omega
theorem PgAt.cut (h : PgAt w P) (k : Nat) (hk : k ≤ P.xs.length) : Goes w (w.setCell ⟨P.p, 1, none⟩ (.slice P.A k P.c)) P { P with xs := P.xs.take k } := by
  have hl : (P.xs.take k).length = k := by rw [List.length_take]; omega
  have hbp : ∀ b, Bytes w b → b ≠ P.p := fun b hb e => h.plain foot_p (e ▸ hb)
  refine ⟨⟨?_, ?_, fun y hy => ?_, h.sz1, h.sz2, by rw [hl]; have := h.few; omega, ?_⟩, rfl, rfl, fun b hb => .inl ?_, Touch.one foot_p⟩
  · have := h.top.set_ 1 (.slice P.A k P.c)
    unfold pcells Pg.v at *
    simp only [hl]
    exact this
  · have hr := h.row
    have hv : P.v.ownBlock = (Value.slice P.A k P.c).ownBlock := by unfold Pg.v; cases P.A <;> rfl
    show World.ownsRow _ 0 35 1 (.slice P.A (P.xs.take k).length P.c) (P.xs.take k).length (bvs (P.xs.take k))
    rw [hl]
    have hbt : bvs (P.xs.take k) = (bvs P.xs).take k := by simp [bvs, List.map_take]
    rw [hbt]
    refine ownsRow_of_heap (w := w) ⟨by rw [List.length_take, bvs_len]; omega, ?_⟩ fun b hb => heap_set_other _ _ _ _ _ (h.vp (hv.trans hb))
    rcases hr.2 with ⟨e, h0⟩ | ⟨g, cap, cur, e, hb, hh, hn, hm, hs, ht⟩
    · simp only [Pg.v, Value.slice.injEq] at e
      have hk0 : k = 0 := by omega
      subst hk0
      exact .inl ⟨by rw [e.1, e.2.2], rfl⟩
    · simp only [Pg.v, Value.slice.injEq] at e
      obtain ⟨e1, _, e3⟩ := e
      refine .inr ⟨g, cap, cur, by rw [e1, e3], hb, hh, by omega, hm, hs, ?_⟩
      rw [← ht, List.take_take]
      congr 1
      omega
  · have hy' := List.mem_of_mem_take hy
    exact (h.held y hy').of_heap fun b hb => heap_set_other _ _ _ _ _ (hbp b ((h.held y hy').bytes hb))
  · show 1 + 4 * (P.xs.take k).length + used (bbs (P.xs.take k)) ≤ P.size
    have hbt : bbs (P.xs.take k) = P.L.take k := by simp [Pg.L, bbs, List.map_take]
    rw [hl, hbt]
    have := h.fit
    have := used_take P.L k
    omega
  · rcases foot_cases hb with rfl | e
    · exact foot_p
    · refine foot_v ?_
      rw [← e]
      unfold Pg.v
      cases P.A <;> rfl
end
/- New, Add, Set. -/

theorem new_bad (n : Int) (h : n < 64 ∨ 1024 < n) (w : World) : Calls Try.prog 36 #[.int .i64 n] w fun e w' => e = .returned (.tuple #[.pointer none, .int .i64 1]) ∧ w = w' := by
  have F := fits_any n w
  rw [show (decide (64 ≤ n) && decide (n ≤ 1024)) = false by
    rcases h with h | h
    · rw [decide_eq_false (by omega), Bool.false_and]
    · rw [decide_eq_false (p := n ≤ 1024) (by omega), Bool.and_false]] at F
  go_enter Try.func36, Try.ntmps36
  go_wp2_with fail
  refine F.mono ?_
  rintro e w1 ⟨rfl, rfl⟩
  go_wp2_with fail
  go_ret2
  exact ⟨rfl, rfl⟩
def newP (p n : Nat) : Pg := ⟨p, n, none, 0, []⟩
theorem newP_at (w : World) (n : Nat) (h1 : 64 ≤ n) (h2 : n ≤ 1024) : PgAt (w.alloc (.cells #[.int .i64 (n : Nat), .slice none 0 0] 96)) (newP w.heap.size n) :=
  ⟨Whole.new w _ _, World.ownsRow_nil _ _ _ _, fun x hx => absurd hx (by simp [newP]), h1, h2, Nat.zero_le _, by show 1 + 4 * 0 + 0 ≤ n; omega⟩
theorem new_good (n : Nat) (h1 : 64 ≤ n) (h2 : n ≤ 1024) (w : World) : Calls Try.prog 36 #[.int .i64 (n : Nat)] w fun e w' => e = .returned (.tuple #[.pointer (some ⟨w.heap.size, 0, none⟩), .int .i64 0]) ∧ PgAt w' (newP w.heap.size n) ∧ Below w.heap.size w w' := by
  have F := fits_good n h1 h2 w
  have N := Lib.hid (newP_at w n h1 h2)
  go_enter Try.func36, Try.ntmps36
  go_wp2_with fail
  refine F.mono ?_
  rintro e w1 ⟨rfl, rfl⟩
  go_wp2_with fail
  go_ret2
  exact ⟨rfl, N.out, (Below.refl _ _).alloc (Nat.le_refl _) _⟩
theorem add_nil (A : Option Addr) (n c : Nat) (w : World) : Calls Try.prog 40 #[.pointer none, .slice A n c] w fun e w' => e = .returned (.tuple #[.int .i64 0, .int .i64 2]) ∧ w = w' := by
  have T := there_nil w
  go_enter Try.func40, Try.ntmps40
  go_wp2_with fail
  refine T.mono ?_
  rintro e w1 ⟨rfl, rfl⟩
  go_wp2_with fail
  go_ret2
  exact ⟨rfl, rfl⟩
theorem add_none {w : World} {P : Pg} (h : PgAt w P) (A : Option Addr) (c : Nat) : Calls Try.prog 40 #[P.ptr, .slice A 0 c] w fun e w' => e = .returned (.tuple #[.int .i64 0, .int .i64 1]) ∧ w = w' := by
  have T := Lib.hid h.there
  clear h
  go_enter Try.func40, Try.ntmps40
  go_wp2_with fail
  refine T.out.mono ?_
  rintro e w1 ⟨rfl, rfl⟩
  go_wp2_with fail
  go_ret2
  exact ⟨rfl, rfl⟩
set_option maxRecDepth 100000 in
theorem add_full {w : World} {P : Pg} (h : PgAt w P) (A : Option Addr) (n c : Nat) (hn : 0 < n) (hn2 : n ≤ 9223372036854775807) (hf : P.xs.length = 250 ∨ P.left < 4 + n) : Calls Try.prog 40 #[P.ptr, .slice A n c] w fun e w' => e = .returned (.tuple #[.int .i64 0, .int .i64 12]) ∧ ∃ k, w' = w.drewN k := by
  have T := Lib.hid h.there
  have LF := Lib.hid (left_at h)
  have c1 := h.c1
  have hfew := h.few
  have hl : P.left ≤ 1024 := by have := h.sz2; unfold Pg.left; omega
  have hn0 : ¬ ((n : Nat) : Int) = 0 := by omega
  clear h
  by_cases h250 : P.xs.length = 250
  · have h250i : (P.xs.length : Int) = 250 := by omega
    clear LF hf
    go_enter Try.func40, Try.ntmps40
    go_wp2_with fail
    refine T.out.mono ?_
    rintro e w1 ⟨rfl, rfl⟩
    go_wp2_with fail
    go_ret2
    exact ⟨rfl, 0, rfl⟩
  · have h250i : ¬ (P.xs.length : Int) = 250 := by omega
    have hgt : (n : Int) > (P.left : Int) - 4 := by omega
    have hl2 : (P.left : Int) ≤ 1024 := by omega
    generalize P.left = q at *
    clear hf h250
    go_enter Try.func40, Try.ntmps40
    go_wp2_with fail
    refine T.out.mono ?_
    rintro e w1 ⟨rfl, rfl⟩
    go_wp2_with fail
    refine LF.out.mono ?_
    rintro e w2 ⟨rfl, k, rfl⟩
    go_wp2_with fail
    go_ret2
    exact ⟨rfl, k, rfl⟩
set_option maxRecDepth 100000 in
set_option maxHeartbeats 1000000 in
theorem add_ok {w : World} {P : Pg} (h : PgAt w P) (A : Option Addr) (c : Nat) (b : List UInt8) (hA : Holds w A b) (hb : b ≠ []) (hn : P.xs.length < 250) (hf : 4 + b.length ≤ P.left) : Calls Try.prog 40 #[P.ptr, .slice A b.length c] w fun e w' => e = .returned (.tuple #[.int .i64 (P.xs.length : Nat), .int .i64 0]) ∧ ∃ P', Goes w w' P P' ∧ P'.L = P.L ++ [b] := by
  have T := Lib.hid h.there
  have LF := Lib.hid (left_at h)
  have c1 := h.c1
  have hl : P.left ≤ 1024 := by have := h.sz2; unfold Pg.left; omega
  have hpos : 0 < b.length := List.length_pos_iff.2 hb
  have hn0 : ¬ ((b.length : Nat) : Int) = 0 := by omega
  have h250i : ¬ (P.xs.length : Int) = 250 := by omega
  have h250b : ((P.xs.length : Int) == 250) = false := by simp; omega
  have hgt : decide ((P.left : Int) - 4 < (b.length : Int)) = false := decide_eq_false (by omega)
  have hl2 : (P.left : Int) ≤ 1024 := by omega
  have hfit : 1 + 4 * (P.xs.length + 1) + used P.L + b.length ≤ P.size := by unfold Pg.left at hf; have := h.fit; omega
  have CALL : Hid (∀ k, Calls Try.prog 31 #[.slice A b.length c] (w.drewN k).drew fun e w3 => ∃ a cc, e = .returned (.slice a b.length cc) ∧ P.p < w3.heap.size ∧ w3.cell? ⟨P.p, 1, none⟩ = some P.v ∧
      ∃ a' c' w4, Sem.run Try.prog (Builtin.append_ #[22, 22] 22 #[P.v, .slice (some ⟨w3.heap.size, 0, none⟩) 1 1]) (w3.alloc (.cells #[.slice a b.length cc] 35)) = .ok (.slice a' (P.xs.length + 1) c') w4 ∧
        w4.cell? ⟨P.p, 1, none⟩ = some P.v ∧ w4.frozen? ⟨P.p, 1, none⟩ = false ∧
        Hid (∃ P', Goes w (w4.setCell ⟨P.p, 1, none⟩ (.slice a' (P.xs.length + 1) c')) P P' ∧ P'.L = P.L ++ [b])) := Lib.hid fun k => by
    have hd : Below w.heap.size w (w.drewN k).drew := (below_drewN (Below.refl _ _) k).drew
    refine (clone_any A c b (w.drewN k).drew (hA.below hd) (by omega)).mono ?_
    rintro e w3 ⟨v, rfl, hr, hb3⟩
    have hb2 : Below w.heap.size w w3 := below_next hd hb3
    obtain ⟨a, cc, rfl, -, -, -⟩ := hr.shape
    have h3 := h.below hb2
    obtain ⟨a', c', w4, s1, s2, s3, s4, s5⟩ := h3.push ⟨a, cc, b⟩ (hr.le (Nat.zero_le _)) hn hfit
    exact ⟨a, cc, rfl, h3.lt, h3.c1, a', c', w4, s1, s2, s3, Lib.hid ⟨_, s5.after hb2, by simp [Pg.L, bbs]⟩⟩
  clear h hA hb hfit hf
  generalize P.left = q at *
  generalize b.length = m at *
  go_enter Try.func40, Try.ntmps40
  go_wp2_with fail
  refine T.out.mono ?_
  rintro e w1 ⟨rfl, rfl⟩
  go_wp2_with fail
  refine LF.out.mono ?_
  rintro e w2 ⟨rfl, k, rfl⟩
  have c1k : (w.drewN k).cell? ⟨P.p, 1, none⟩ = some P.v := c1
  have CALL1 := Lib.hid (CALL.out k)
  clear CALL LF T
  go_wp2_with fail
  go_region_law (first
    | (refine step_append_runI rfl _ _ 22 22 rfl _ _ ?h3 ?h4 s1 ?_; (case h3 => rfl); (case h4 => rfl))
    | (refine step_call_any rfl 31 #[.slice A m c] ?h1 CALL1.out ?_; (case h1 => kernel_rfl); rintro e w3 ⟨a, cc, rfl, q0, q1, a', c', w4, s1, s2, s3, FIN⟩; have q5 : (w3.alloc (.cells #[.slice a m cc] 35)).cell? ⟨P.p, 1, none⟩ = some P.v := (((Below.refl _ w3).alloc (Nat.le_refl _) _).cell (p := ⟨P.p, 1, none⟩) q0).trans q1; refine ⟨_, rfl, ?_⟩))
  all_goals
    clear q1 q5 s1 s2 s3
    go_wp2_with fail
    go_ret2
    exact ⟨rfl, FIN.out⟩
/- Set, Get, trim, Drop. -/

theorem PgAt.heap {w w' : World} {P : Pg} (h : PgAt w P) (e : w'.heap = w.heap) : PgAt w' P := h.of_heap (fun k _ => by rw [e]) (fun k _ => by rw [e])
theorem get_nil (i : Int) (w : World) : Calls Try.prog 56 #[.pointer none, .int .i64 i] w fun e w' => e = .returned (.tuple #[.slice none 0 0, .int .i64 2]) ∧ w = w' := by
  have T := filled_nil i w
  go_enter Try.func56, Try.ntmps56
  go_wp2_with fail
  refine T.mono ?_
  rintro e w1 ⟨rfl, rfl⟩
  go_wp2_with fail
  go_ret2
  exact ⟨rfl, rfl⟩
theorem get_no {w : World} {P : Pg} (h : PgAt w P) (i : Int) (hi : noSlot P i) : Calls Try.prog 56 #[P.ptr, .int .i64 i] w fun e w' => e = .returned (.tuple #[.slice none 0 0, .int .i64 1]) ∧ w = w' := by
  have T := filled_no h i hi
  clear h
  go_enter Try.func56, Try.ntmps56
  go_wp2_with fail
  refine T.mono ?_
  rintro e w1 ⟨rfl, rfl⟩
  go_wp2_with fail
  go_ret2
  exact ⟨rfl, rfl⟩
theorem get_empty {w : World} {P : Pg} (h : PgAt w P) (i : Nat) (hi : i < P.xs.length) (hb : P.xs[i].b = []) : Calls Try.prog 56 #[P.ptr, .int .i64 (i : Nat)] w fun e w' => e = .returned (.tuple #[.slice none 0 0, .int .i64 13]) ∧ w = w' := by
  have T := filled_yes h i hi
  rw [if_pos hb] at T
  clear h
  go_enter Try.func56, Try.ntmps56
  go_wp2_with fail
  refine T.mono ?_
  rintro e w1 ⟨rfl, rfl⟩
  go_wp2_with fail
  go_ret2
  exact ⟨rfl, rfl⟩
set_option maxRecDepth 100000 in
theorem get_ok {w : World} {P : Pg} (h : PgAt w P) (i : Nat) (hi : i < P.xs.length) (hb : P.xs[i].b ≠ []) : Calls Try.prog 56 #[P.ptr, .int .i64 (i : Nat)] w fun e w' => ∃ v, e = .returned (.tuple #[v, .int .i64 0]) ∧ Row w' w.heap.size v P.xs[i].b ∧ Below w.heap.size w w' := by
  have T := filled_yes h i hi
  rw [if_neg hb] at T
  have c1 := h.c1
  obtain ⟨g, hPA, -, -, hc, -, -⟩ := h.slot i hi
  have hil : (i : Int) < (P.xs.length : Int) := by omega
  have hxl : P.xs[i].b.length ≤ 1024 := by
    have h1 := used_at P.L i (by rw [show P.L.length = P.xs.length from bbs_len _]; exact hi)
    rw [show P.L[i]'(by rw [show P.L.length = P.xs.length from bbs_len _]; exact hi) = P.xs[i].b from bbs_at _ _ _] at h1
    have := h.fit
    have := h.sz2
    omega
  obtain ⟨B, d, hB, hh, -, -⟩ := (h.held _ (List.getElem_mem hi)).shape
  simp only [Bx.v, Value.slice.injEq] at hB
  obtain ⟨rfl, -, rfl⟩ := hB
  have CL := Lib.hid (clone_any P.xs[i].A P.xs[i].c P.xs[i].b w hh (by omega))
  unfold Pg.v at c1
  rw [hPA] at c1
  unfold Bx.v at hc
  clear h hPA hh
  generalize P.xs[i] = x at *
  generalize P.xs.length = nn at *
  clear hi hxl hb
  go_enter Try.func56, Try.ntmps56
  go_wp2_with fail
  refine T.mono ?_
  rintro e w1 ⟨rfl, rfl⟩
  go_wp2_with fail
  refine CL.out.mono ?_
  rintro e w2 ⟨v, rfl, hr, hbl⟩
  go_wp2_with fail
  go_ret2
  exact ⟨_, rfl, hr, hbl⟩
set_option maxRecDepth 100000 in
set_option maxHeartbeats 1000000 in
theorem trim_atS {w : World} {P : Pg} (h : PgAt w P) : Calls Try.prog 63 #[P.ptr] w fun e w' => e = .returned (.tuple #[]) ∧ ∃ P', Goes w w' P P' ∧ P'.L = trimL P.L ∧ ∀ x ∈ P'.xs, x ∈ P.xs := by
  have c1 := h.c1
  have f1 := h.f 1
  have hLl : P.L.length = P.xs.length := bbs_len _
  have hfew : (P.xs.length : Int) ≤ 250 := by have := h.few; omega
  have HALL : Hid (∀ i (hi : i < P.xs.length), ∃ g, P.A = some ⟨g, 0, none⟩ ∧ w.cell? ⟨g, i, none⟩ = some (P.xs[i]).v) := Lib.hid fun i hi => by
    obtain ⟨g, h1, -, -, h2, -, -⟩ := h.slot i hi
    exact ⟨g, h1, h2⟩
  have hnc : P.xs.length ≤ P.c := by
    rcases h.row.2 with ⟨e, h0⟩ | ⟨g, cap, cur, e, hb, hh, hn, hm, hs, ht⟩
    · omega
    · simp only [Pg.v, Value.slice.injEq] at e
      omega
  have hnci : (P.xs.length : Int) ≤ (P.c : Int) := by omega
  have CUT : Hid (∀ k, k ≤ P.xs.length → trimN P.L k = trimN P.L P.L.length → trimN P.L k = k → ∃ P', Goes w (w.setCell ⟨P.p, 1, none⟩ (.slice P.A k P.c)) P P' ∧ P'.L = trimL P.L ∧ ∀ x ∈ P'.xs, x ∈ P.xs) := Lib.hid fun k hk he h2 => by
    refine ⟨_, h.cut k hk, ?_, fun x hx => List.mem_of_mem_take hx⟩
    unfold trimL
    rw [← he, h2]
    simp [Pg.L, bbs, List.map_take]
  unfold Pg.v at c1
  have HT : Hid (trimN P.L P.xs.length = trimN P.L P.L.length) := Lib.hid (by rw [hLl])
  clear h
  generalize hAA : P.A = AA at *
  go_enter Try.func63, Try.ntmps63
  go_wp2_with fail
  go_loopg [2] (P.xs.length + 1) (fun j s2 wr => ∃ k : Nat, k ≤ P.xs.length ∧ k < j ∧ s2 = .int .i64 (k : Nat) ∧ trimN P.L k = trimN P.L P.L.length ∧ wr = w)
  case atStart => exact ⟨P.xs.length, Nat.le_refl _, by omega, rfl, HT.out, rfl⟩
  case round =>
    obtain ⟨k, hk, hj, rfl, ht, rfl⟩ := hrel
    have HT2 := Lib.hid ht
    clear ht HT
    by_cases hk0 : k = 0
    · subst hk0
      have hg : ¬ ((0 : Nat) : Int) > 0 := by omega
      have FIN := Lib.hid (CUT.out 0 (by omega) HT2.out rfl)
      clear CUT HALL
      go_wp2_with fail
      go_end0
      exact ⟨rfl, FIN.out⟩
    · obtain ⟨m, rfl⟩ : ∃ m, k = m + 1 := ⟨k - 1, by omega⟩
      have hm : m < P.xs.length := by omega
      obtain ⟨g, hA, hc⟩ := HALL.out m hm
      subst hA
      have hLm : P.L.getD m [] = P.xs[m].b := by
        rw [List.getD_eq_getElem?_getD, List.getElem?_eq_getElem (by omega)]
        exact bbs_at _ _ _
      have hg : ((m + 1 : Nat) : Int) > 0 := by omega
      have hsub : ((m + 1 : Nat) : Int) - 1 = (m : Nat) := by omega
      have hmi : (m : Int) < (P.xs.length : Int) := by omega
      unfold Bx.v at hc
      by_cases hb : P.xs[m].b = []
      · have hb0 : P.xs[m].b.length = 0 := by rw [hb]; rfl
        have HS : Hid (trimN P.L m = trimN P.L P.L.length) := Lib.hid (by rw [← HT2.out, trimN_empty _ _ (by rw [hLm]; exact hb)])
        rw [hb0] at hc
        clear hb hb0 hLm HT2 CUT HALL
        go_wp2_with fail
        go_roundg (m + 1)
        case measure => omega
        case rel => exact ⟨m, by omega, by omega, by first | rfl | (congr 1; omega), HS.out, rfl⟩
      · have hpos : 0 < P.xs[m].b.length := List.length_pos_iff.2 hb
        have hlen : ¬ ((P.xs[m].b.length : Nat) : Int) = 0 := by omega
        have hlenb : (((P.xs[m].b.length : Nat) : Int) == 0) = false := by simp; exact hb
        have FIN := Lib.hid (CUT.out (m + 1) hk HT2.out (trimN_full _ _ (by rw [hLm]; exact hb)))
        generalize P.xs[m] = x at *
        generalize x.b.length = xl at *
        clear hb hLm HT2 CUT HALL
        go_wp2_with fail
        go_end0
        exact ⟨rfl, FIN.out⟩
theorem trim_at {w : World} {P : Pg} (h : PgAt w P) : Calls Try.prog 63 #[P.ptr] w fun e w' => e = .returned (.tuple #[]) ∧ ∃ P', Goes w w' P P' ∧ P'.L = trimL P.L :=
  (trim_atS h).mono fun e w' ⟨h1, P', h2, h3, _⟩ => ⟨h1, P', h2, h3⟩
theorem zeros_split (a b : Nat) : zeros (a + b) = zeros a ++ zeros b := by simp [zeros]
theorem zeros_len (a : Nat) : (zeros a).length = a := by simp [zeros]
/-- a number's two bytes, the lowest first. -/
def w2 (n : Nat) : List UInt8 := [UInt8.ofNat (n % 256), UInt8.ofNat (n / 256)]
theorem w2_length (n : Nat) : (w2 n).length = 2 := rfl
theorem w2_zero : w2 0 = zeros 2 := rfl
/-- where a piece stands, and its length; so many bytes have those of the lower slots. -/
def ent (size u : Nat) (b : List UInt8) : List UInt8 := w2 (if b = [] then 0 else size - (u + b.length)) ++ w2 b.length
theorem ent_length (size u : Nat) (b : List UInt8) : (ent size u b).length = 4 := rfl
def ents (size : Nat) : Nat → List (List UInt8) → List UInt8
  | _, [] => []
  | u, b :: r => ent size u b ++ ents size (u + b.length) r
def tails : List (List UInt8) → List UInt8
  | [] => []
  | b :: r => tails r ++ b
theorem ents_append (size : Nat) : ∀ (l r : List (List UInt8)) (u : Nat), ents size u (l ++ r) = ents size u l ++ ents size (u + used l) r
  | [], r, u => by simp [ents, used]
  | b :: l, r, u => by
    simp only [List.cons_append, ents, used, ents_append size l r, List.append_assoc]
    rw [show u + b.length + used l = u + (b.length + used l) by omega]
theorem ents_length (size : Nat) : ∀ (l : List (List UInt8)) (u : Nat), (ents size u l).length = 4 * l.length
  | [], u => rfl
  | b :: l, u => by simp only [ents, List.length_append, ent_length, ents_length size l, List.length_cons]; omega
theorem tails_append : ∀ (l r : List (List UInt8)), tails (l ++ r) = tails r ++ tails l
  | [], r => by simp [tails]
  | b :: l, r => by simp only [List.cons_append, tails, tails_append l r, List.append_assoc]
theorem tails_length : ∀ l : List (List UInt8), (tails l).length = used l
  | [] => rfl
  | b :: l => by simp only [tails, used, List.length_append, tails_length l]; omega
/-- the bytes of a page of n slots when these pieces have been written. -/
def stB (size n : Nat) (pre : List (List UInt8)) : List UInt8 := UInt8.ofNat n :: (ents size 0 pre ++ (zeros (size - 1 - 4 * pre.length - used pre) ++ tails pre))
def pageB (size : Nat) (L : List (List UInt8)) : List UInt8 := stB size L.length L
theorem stB_length (size n : Nat) (pre : List (List UInt8)) (h : 1 + 4 * pre.length + used pre ≤ size) : (stB size n pre).length = size := by
  simp only [stB, List.length_cons, List.length_append, ents_length, zeros_len, tails_length]
  omega
theorem lay_nil (l : List UInt8) (o : Nat) : lay l o [] = l := by simp [lay]
theorem lay_at (a m b x : List UInt8) (o : Nat) (ho : o = a.length) (h : x.length = m.length) : lay (a ++ (m ++ b)) o x = a ++ (x ++ b) := by
  subst ho
  rw [← List.append_assoc, lay_mid _ _ _ _ h, List.append_assoc]
theorem stB_nil (size n : Nat) (h : 1 ≤ size) : (zeros size).set 0 (UInt8.ofNat n) = stB size n [] := by
  obtain ⟨k, rfl⟩ : ∃ k, size = k + 1 := ⟨size - 1, by omega⟩
  simp [stB, ents, tails, used, zeros, List.replicate_succ]
theorem stB_split (size n : Nat) (pre : List (List UInt8)) (m : Nat) (h : 1 + 4 * (pre.length + 1) + used pre + m ≤ size) :
    stB size n pre = (UInt8.ofNat n :: ents size 0 pre) ++ (zeros 2 ++ (zeros 2 ++ (zeros (size - 1 - 4 * (pre.length + 1) - (used pre + m)) ++ (zeros m ++ tails pre)))) := by
  unfold stB
  rw [show size - 1 - 4 * pre.length - used pre = 2 + (2 + (size - 1 - 4 * (pre.length + 1) - (used pre + m) + m)) by omega, zeros_split, zeros_split, zeros_split]
  simp
theorem stB_snoc (size n : Nat) (pre : List (List UInt8)) (b : List UInt8) :
    stB size n (pre ++ [b]) = (UInt8.ofNat n :: ents size 0 pre) ++ (w2 (if b = [] then 0 else size - (used pre + b.length)) ++ (w2 b.length ++ (zeros (size - 1 - 4 * (pre.length + 1) - (used pre + b.length)) ++ (b ++ tails pre)))) := by
  unfold stB
  rw [ents_append, tails_append, used_append, used_one, List.length_append, List.length_singleton]
  simp [ents, ent, tails]
theorem stB_step (size n : Nat) (pre : List (List UInt8)) (b : List UInt8) (h : 1 + 4 * (pre.length + 1) + used pre + b.length ≤ size) (p : Nat) (hp : p = if b = [] then 0 else size - (used pre + b.length)) :
    lay (lay (lay (stB size n pre) (1 + 4 * pre.length) (w2 p)) (1 + 4 * pre.length + 2) (w2 b.length)) p b = stB size n (pre ++ [b]) := by
  rw [stB_split size n pre b.length h, stB_snoc, ← hp]
  rw [lay_at _ (zeros 2) _ (w2 p) _ (by simp [ents_length]; omega) rfl]
  rw [← List.append_assoc _ (w2 p), lay_at _ (zeros 2) _ (w2 b.length) _ (by simp [ents_length, w2_length]; omega) rfl]
  by_cases hb : b = []
  · subst hb
    rw [lay_nil]
    simp [zeros]
  · rw [if_neg hb] at hp
    rw [← List.append_assoc _ (w2 b.length), ← List.append_assoc _ (zeros (size - 1 - 4 * (pre.length + 1) - (used pre + b.length)))]
    rw [lay_at _ (zeros b.length) _ b _ (by simp [ents_length, w2_length, zeros_len]; omega) (by rw [zeros_len])]
    simp
theorem stB_skip (size n : Nat) (pre : List (List UInt8)) (h : 1 + 4 * (pre.length + 1) + used pre ≤ size) : stB size n (pre ++ [[]]) = stB size n pre := by
  rw [stB_split size n pre 0 h, stB_snoc]
  simp [w2_zero, zeros]
theorem set_lay1 (S : List UInt8) (k : Nat) (x : UInt8) (h : k < S.length) : S.set k x = lay S k [x] := by
  simp only [lay, List.length_singleton]
  rw [List.set_eq_take_append_cons_drop, if_pos h]
  simp
theorem lay_length2 (S : List UInt8) (k : Nat) (x : List UInt8) (h : k + x.length ≤ S.length) : (lay S k x).length = S.length := lay_length S k x h
theorem split3 (S : List UInt8) (k p q : Nat) (h : k + p + q ≤ S.length) : ∃ a m m2 r, S = a ++ (m ++ (m2 ++ r)) ∧ a.length = k ∧ m.length = p ∧ m2.length = q :=
  ⟨S.take k, (S.drop k).take p, ((S.drop k).drop p).take q, ((S.drop k).drop p).drop q, by rw [List.take_append_drop, List.take_append_drop, List.take_append_drop], by simp; omega, by simp; omega, by simp; omega⟩
theorem lay_more (S : List UInt8) (k : Nat) (x y : List UInt8) (h : k + x.length + y.length ≤ S.length) : lay (lay S k x) (k + x.length) y = lay S k (x ++ y) := by
  obtain ⟨a, m, m2, r, rfl, h1, h2, h3⟩ := split3 S k x.length y.length h
  rw [lay_at a m _ x k h1.symm h2.symm, ← List.append_assoc a x, lay_at (a ++ x) m2 _ y _ (by simp; omega) h3.symm]
  rw [← List.append_assoc m, lay_at a (m ++ m2) _ (x ++ y) k h1.symm (by simp; omega)]
  simp
theorem set_lay2 (S : List UInt8) (k : Nat) (x y : UInt8) (h : k + 2 ≤ S.length) : (S.set k x).set (k + 1) y = lay S k [x, y] := by
  rw [set_lay1 _ _ _ (by rw [List.length_set]; omega), set_lay1 _ _ _ (by omega), show k + 1 = k + [x].length from rfl, lay_more S k [x] [y] (by simpa using h)]
  rfl
/- A range over a function whose things come with a fact on memory. -/
/-- an iterator that tells things, each with a fact on the world in which it is told. -/
def SeqF {α : Type} (F : Fence) (n : Nat) (P : Program) (g : Nat) (lb : Array Value) (encs : α → Array Value) (Fx : List α → α → World → Prop) (Kp : World → World → Prop) (S : List α → Prop) (N : Nat) (w : World) : Prop :=
  ∀ (l : Nat) (J : List α → World → Prop) (W : World), Below w.heap.size w W → AbidesFrom W.heap.size J →
    (∀ pre x W1, J pre W1 → Fx pre x W1 → pre.length < N → YieldAt F (n - 1) P l (encs x) W1 fun e W' => e = .returned (.bool true) ∧ J (pre ++ [x]) W' ∧ Kp W1 W') →
    J [] W →
    CallsIn F n P g (#[.func (.yield l) #[] #[]] ++ lb) W fun e W' => (∃ v, e = .returned v) ∧ ∃ xs, S xs ∧ J xs W'
section
variable {F : Fence} {n : Nat} {P : Program}
theorem wpIn_rangeFunc_F {α : Type} {g : Operand} {ps : Array Tmp} {assign body : Code} {Q : Exit → Act → World → Prop} {a : Act} {w : World}
    (hro : F.round = none) (h1 : 1 ≤ n) {gf : Nat} {lb : Array Value} (hg : a.eval g = .func (.func gf) #[] lb) (hFg : F.fn gf) (eg : ∀ args w, (callFunc gf args).run P w = .ok (.enter gf args) w)
    {encs : α → Array Value} {Fx : List α → α → World → Prop} {Kp : World → World → Prop} {S : List α → Prop} {N : Nat} {w0 : World} (hseq : SeqF F (n - 1) P gf lb encs Fx Kp S N w0)
    (hFx : ∀ (pre : List α) (x : α) (W : World) (l : Nat) (o o' : Obj), Fx pre x W → W.heap[l]? = some o → o.isCells = false → Fx pre x (W.putObj l o'))
    (hKt : ∀ {A B C : World}, Kp A B → Kp B C → Kp A C) (hKb : ∀ (W : World) (l : Nat) (o o' : Obj), w.heap.size ≤ l → W.heap[l]? = some o → o.isCells = false → Kp W (W.putObj l o')) (hb0 : Below w0.heap.size w0 w) (hps : ∀ x, (encs x).size = ps.size)
    (I : List α → World → Prop) (hI : OwnFrom w.heap.size I) (h0 : I [] w) (a₁ : α → Act)
    (hassign : ∀ (l : Nat) (x : α) (W : World) (K : Act → World → Prop), K (a₁ x) W →
      assign.wpIn (F.inRound l) (n - 1 - 1) P (Exit.then K (fun _ _ _ => False)) { tmps := (ps.zip (encs x)).foldl (fun t (p, v) => t.setIfInBounds p v) a.tmps, defers := [] } W)
    (hbody : ∀ (l : Nat) (pre : List α) (x : α) (W : World), I pre W → Fx pre x W → pre.length < N → body.wpIn (F.inRound l) (n - 1 - 1) P (fun e _ W' => e = .normal ∧ KeepsFrom w.heap.size W W' ∧ Kp W W' ∧ I (pre ++ [x]) W') (a₁ x) W)
    (hdone : ∀ (D : Nat) (xs : List α) (W : World), S xs → I xs W → W.heap[D]? = some (.deferred (some [])) → w.heap.size ≤ D → Q .normal { a with defers := { target := .collected D, args := #[] } :: a.defers } W) :
    (Code.rangeFunc g ps assign body).wpIn F n P Q a w := by
  refine wpIn_rangeFunc ?_
  intro fn hfn
  rw [hro]
  obtain ⟨rec, hrec⟩ : ∃ rec : LoopState → Option Code → Loop, rec = fun st pe => { state := st, pending := pe, fn, tmps := a.tmps, params := ps, assign, body, defers := w.heap.size } := ⟨_, rfl⟩
  obtain ⟨W1, hW1⟩ : ∃ W1, (w.alloc (.deferred (some []))).alloc (.loop (rec .ready none)) = W1 := ⟨_, rfl⟩
  have hL1 : W1.heap[w.heap.size + 1]? = some (.loop (rec .ready none)) := by
    rw [← hW1]; have := World.alloc_heap_new (w.alloc (.deferred (some []))) (.loop (rec .ready none)); rwa [World.size_alloc] at this
  have hK1 : W1.heap[w.heap.size]? = some (.deferred (some [])) := by
    rw [← hW1]; exact (Below.heap_alloc _ _ _ (by simp)).trans (World.alloc_heap_new w _)
  have hI1 : I [] W1 := by rw [← hW1]; exact hI.alloc _ (hI.alloc _ h0)
  have hb1 : Below w0.heap.size w0 W1 := by
    rw [← hW1]; exact hb0.trans ((((Below.refl _ w).alloc (Nat.le_refl _) _).alloc (by simp) _).mono hb0.size)
  refine ⟨w.heap.size + 1, [{ target := .collected w.heap.size, args := #[] }], W1, { target := .fn (.func gf) lb, args := #[.func (.yield (w.heap.size + 1)) #[] #[]] }, W1, gf,
    #[.func (.yield (w.heap.size + 1)) #[] #[]] ++ lb, W1, ?_, ?_, ?_, ?_, fun _ => h1, ?_⟩
  · rw [← hW1, hrec]; exact run_enterLoop_outer _ _ _ _ _
  · simp only [resolve, hg]
    simp [go_sem]
  · intro f' hf'; simp [Target.leads] at hf'; subst hf'; exact hFg
  · simp [invoke, go_sem, eg]
  · have hnw : ∀ {A B : World} {row : Option Nat}, (∀ r, row = some r → W1.heap.size ≤ r ∧ ∃ o : Obj, A.heap[r]? = some o ∧ o.isWalk = true) → (∀ r, row = some r → w.heap.size ≤ r ∧ ∃ o : Obj, A.heap[r]? = some o ∧ o.isCells = false) :=
      fun hr r e => by obtain ⟨hB, o, ho, hw⟩ := hr r e; exact ⟨by rw [← hW1] at hB; simp at hB; omega, o, ho, Obj.not_cells_of_walk hw⟩
    refine (hseq (w.heap.size + 1)
      (fun pre W => I pre W ∧ W.heap[w.heap.size + 1]? = some (.loop (rec .ready none)) ∧ W.heap[w.heap.size]? = some (.deferred (some [])))
      W1 hb1
      (fun s A B row hs hg' hr => ⟨hI s A B row hs.1 hg' (hnw (B := B) hr), (grownBy_keeps hg' (fun r e => (hr r e).2) hs.2.1 rfl).trans hs.2.1, (grownBy_keeps hg' (fun r e => (hr r e).2) hs.2.2 rfl).trans hs.2.2⟩)
      ?_ ⟨hI1, hL1, hK1⟩).mono ?_
    · rintro pre x W ⟨hi, hl, hk⟩ hfx hlen
      have hlt : w.heap.size + 1 < W.heap.size := (Array.getElem?_eq_some_iff.1 hl).1
      have hy := run_yield (P := P) (args := encs x) hl (by rw [hrec]; exact hps x)
      rw [hrec] at hy
      refine ⟨fn, _, assign, body, hy, roundIn_of_wpIn hfn (hassign _ x W _ ⟨_, run_beginRound hl (by rw [hrec]), ?_⟩)⟩
      have hl2 : (W.putObj (w.heap.size + 1) (.loop { rec .ready none with state := .busy })).heap[w.heap.size + 1]? = some (.loop { rec .ready none with state := .busy }) := World.putObj_heap_same hlt
      have hk2 : (W.putObj (w.heap.size + 1) (.loop { rec .ready none with state := .busy })).heap[w.heap.size]? = some (.deferred (some [])) := (World.putObj_heap_other (by omega)).trans hk
      have hw2 : Kp W (W.putObj (w.heap.size + 1) (.loop { rec .ready none with state := .busy })) := hKb _ _ _ _ (by omega) hl rfl
      refine wpIn_mono (hbody _ pre x _ (hI.putObj _ hi (by omega) hl rfl) (hFx pre x W _ _ _ hfx hl rfl) hlen) ?_
      rintro e a3 W3 ⟨rfl, hk3, hkp3, hi3⟩
      have hl3 := hk3.same _ _ (by omega) hl2 rfl
      have hr := run_endRound (P := P) none hl3
      rw [hrec] at hr
      have hl4 : (W3.putObj (w.heap.size + 1) (.loop (rec .ready none))).heap[w.heap.size + 1]? = some (.loop (rec .ready none)) := World.putObj_heap_same (Array.getElem?_eq_some_iff.1 hl3).1
      have hk4 : (W3.putObj (w.heap.size + 1) (.loop (rec .ready none))).heap[w.heap.size]? = some (.deferred (some [])) := (World.putObj_heap_other (by omega)).trans (hk3.same _ _ (Nat.le_refl _) hk2 rfl)
      rw [hrec] at hl4 hk4
      refine ⟨_, _, hr, rfl, ⟨hI.putObj _ hi3 (by omega) hl3 rfl, ?_, ?_⟩, hKt (hKt hw2 hkp3) (hKb _ _ _ _ (by omega) hl3 rfl)⟩
      · rw [hrec]; exact hl4
      · exact hk4
    · rintro e W2 ⟨⟨v, rfl⟩, xs, hS, hi, hl, hk⟩
      exact ⟨none, _, by have := run_endLoop (P := P) hl (by rw [hrec]; simp); rw [hrec] at this; exact this, hdone _ xs _ hS (hI.putObj _ hi (by omega) hl rfl) ((World.putObj_heap_other (by omega)).trans hk) (Nat.le_refl _)⟩
end
end Go.Proofs.Ytlkkfnimealbkaa.Pag
