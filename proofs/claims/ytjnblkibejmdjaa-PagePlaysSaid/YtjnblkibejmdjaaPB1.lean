/- The page in memory; fits, there, has, filled, Slots, head, left, Room. -/
import Derived.Test.YtjnblkibejmdjaaPB0
namespace Go.Proofs.Ytjnblkibejmdjaa
open Go.RowKit
set_option linter.unusedVariables false

/-- a piece, as a slice tells it. -/
structure Bx where
  A : Option Addr
  c : Nat
  b : List UInt8
abbrev Bx.v (x : Bx) : Value := .slice x.A x.b.length x.c
def bvs (l : List Bx) : List Value := l.map Bx.v
def bbs (l : List Bx) : List (List UInt8) := l.map fun x => x.b
theorem bbs_len (xs : List Bx) : (bbs xs).length = xs.length := by simp [bbs]
theorem bvs_len (xs : List Bx) : (bvs xs).length = xs.length := by simp [bvs]
theorem bbs_at (xs : List Bx) (i : Nat) (h : i < (bbs xs).length) : (bbs xs)[i] = (xs[i]'(by rw [bbs_len] at h; exact h)).b := by simp [bbs]
/-- how many bytes the pieces have. -/
def used : List (List UInt8) → Nat
  | [] => 0
  | b :: r => b.length + used r
theorem used_append : ∀ (l r : List (List UInt8)), used (l ++ r) = used l + used r
  | [], r => by simp [used]
  | b :: l, r => by simp only [List.cons_append, used, used_append l r]; omega
theorem used_one (b : List UInt8) : used [b] = b.length := by simp [used]
theorem used_at : ∀ (l : List (List UInt8)) (i : Nat) (h : i < l.length), used (l.take i) + l[i].length ≤ used l
  | [], i, h => absurd h (by simp)
  | b :: l, 0, h => by simp [used]
  | b :: l, i + 1, h => by
    have := used_at l i (by simpa using h)
    simp only [List.take_succ_cons, used, List.getElem_cons_succ]
    omega
theorem used_set : ∀ (l : List (List UInt8)) (i : Nat) (h : i < l.length) (b : List UInt8), used (l.set i b) + l[i].length = used l + b.length
  | [], i, h, _ => absurd h (by simp)
  | a :: l, 0, h, b => by simp [used]; omega
  | a :: l, i + 1, h, b => by
    have := used_set l i (by simpa using h) b
    simp only [List.set_cons_succ, used, List.getElem_cons_succ]
    omega
theorem used_take_succ (l : List (List UInt8)) (i : Nat) (h : i < l.length) : used (l.take (i + 1)) = used (l.take i) + l[i].length := by
  rw [List.take_add_one, List.getElem?_eq_getElem h, used_append]
  simp [used]
structure Pg where
  p : Nat
  size : Nat
  A : Option Addr
  c : Nat
  xs : List Bx
abbrev Pg.v (P : Pg) : Value := .slice P.A P.xs.length P.c
abbrev Pg.ptr (P : Pg) : Value := .pointer (some ⟨P.p, 0, none⟩)
def Pg.L (P : Pg) : List (List UInt8) := bbs P.xs
def pcells (P : Pg) : Array Value := #[.int .i64 (P.size : Nat), P.v]
structure PgAt (w : World) (P : Pg) : Prop where
  top : Whole w P.p 48 (pcells P)
  row : w.ownsRow 0 29 1 P.v P.xs.length (bvs P.xs)
  held : ∀ x ∈ P.xs, Row w 0 x.v x.b
  sz1 : 64 ≤ P.size
  sz2 : P.size ≤ 1024
  few : P.xs.length ≤ 250
  fit : 1 + 4 * P.xs.length + used P.L ≤ P.size
def foot (P : Pg) : List Nat := P.p :: P.v.ownBlock.toList
theorem foot_p {P : Pg} : P.p ∈ foot P := by simp [foot]
theorem foot_v {P : Pg} {k : Nat} (h : P.v.ownBlock = some k) : k ∈ foot P := by simp [foot, h]
theorem foot_cases {P : Pg} {k : Nat} (h : k ∈ foot P) : k = P.p ∨ P.v.ownBlock = some k := by simpa [foot] using h
/-- blocks of other kinds than the page's own stand as they stood. -/
structure Still (w w' : World) : Prop where
  size : w.heap.size ≤ w'.heap.size
  block : ∀ (k : Nat) (cs : Array Value) (t : TypeId) (z : Nat × Nat), w.heap[k]? = some (.cells cs t z) → t ≠ 48 → t ≠ 29 → w'.heap[k]? = w.heap[k]?
theorem Still.refl (w : World) : Still w w := ⟨Nat.le_refl _, fun _ _ _ _ _ _ _ => rfl⟩
theorem Still.trans {a b c : World} (h : Still a b) (k : Still b c) : Still a c :=
  ⟨Nat.le_trans h.size k.size, fun x cs t z e h1 h2 => (k.block x cs t z ((h.block x cs t z e h1 h2).trans e) h1 h2).trans (h.block x cs t z e h1 h2)⟩
theorem Still.of_below {w w' : World} (h : Below w.heap.size w w') : Still w w' := ⟨h.size, fun k _ _ _ e _ _ => h.block k (Array.getElem?_eq_some_iff.1 e).1⟩
section
variable {w w' w0 : World} {P : Pg}
theorem PgAt.c0 (h : PgAt w P) : w.cell? ⟨P.p, 0, none⟩ = some (.int .i64 (P.size : Nat)) := Whole.cell h.top 0
theorem PgAt.c1 (h : PgAt w P) : w.cell? ⟨P.p, 1, none⟩ = some P.v := Whole.cell h.top 1
theorem PgAt.f (h : PgAt w P) (i : Nat) : w.frozen? ⟨P.p, i, none⟩ = false := Whole.frozen h.top i
theorem PgAt.lt (h : PgAt w P) : P.p < w.heap.size := h.top.lt
theorem PgAt.kinds (h : PgAt w P) {k : Nat} (hk : k ∈ foot P) : ∃ cs t, w.heap[k]? = some (.cells cs t (0, 0)) ∧ (t = 48 ∨ t = 29) := by
  rcases foot_cases hk with rfl | e
  · exact ⟨_, _, h.top, .inl rfl⟩
  · obtain ⟨cur, hc⟩ := row_kind h.row e
    exact ⟨_, _, hc, .inr rfl⟩
theorem PgAt.of_heap (h : PgAt w P) (hf : ∀ k ∈ foot P, w'.heap[k]? = w.heap[k]?) (hb : ∀ k, Bytes w k → w'.heap[k]? = w.heap[k]?) : PgAt w' P :=
  ⟨(hf _ foot_p).trans h.top, ownsRow_of_heap h.row fun b e => hf b (foot_v e), fun x hx => (h.held x hx).of_heap fun k hk => hb k ((h.held x hx).bytes hk), h.sz1, h.sz2, h.few, h.fit⟩
theorem PgAt.footlt (h : PgAt w P) {k : Nat} (hk : k ∈ foot P) : k < w.heap.size := by
  obtain ⟨cs, t, e, _⟩ := h.kinds hk
  exact (Array.getElem?_eq_some_iff.1 e).1
theorem PgAt.below (h : PgAt w P) (hb : Below w.heap.size w w') : PgAt w' P :=
  h.of_heap (fun k hk => hb.block k (h.footlt hk)) (fun k hk => hb.block k hk.lt)
/-- a slot's cell. -/
theorem PgAt.slot (h : PgAt w P) (i : Nat) (hi : i < P.xs.length) : ∃ g, P.A = some ⟨g, 0, none⟩ ∧ P.v.ownBlock = some g ∧ g < w.heap.size ∧ w.cell? ⟨g, i, none⟩ = some (P.xs[i]).v ∧ w.frozen? ⟨g, i, none⟩ = false ∧ P.xs.length ≤ P.c := by
  have hr := h.row
  obtain ⟨_, h2⟩ := hr
  rcases h2 with ⟨e, h0⟩ | ⟨g, cap, cur, e, hb, hh, hn, hm, hs, ht⟩
  · omega
  · simp only [Pg.v, Value.slice.injEq] at e
    obtain ⟨e1, _, e3⟩ := e
    subst e3
    have hg := (Array.getElem?_eq_some_iff.1 hh).1
    refine ⟨g, e1, by unfold Pg.v; rw [e1]; rfl, hg, ?_, ?_, hn⟩
    · have hu : (bvs P.xs)[i]? = some (P.xs[i]).v := by simp [bvs, hi]
      rw [cell_of_row w g i cur 29 (0, 0) hh, ← hu, ← ht, List.getElem?_take, if_pos (by omega)]
      simp
    · simp [World.frozen?, hh]
end
/-! the calls that only read -/
theorem fits_any (n : Int) (w : World) : Calls Try.prog 17 #[.int .i64 n] w fun e w' => e = .returned (.bool (decide (64 ≤ n) && decide (n ≤ 1024))) ∧ w = w' := by
  by_cases h1 : 64 ≤ n
  · have h1' : n ≥ 64 := h1
    rw [decide_eq_true h1, Bool.true_and]
    go_enter Try.func17, Try.ntmps17
    go_wp2_with fail
    go_ret
    exact ⟨rfl, rfl⟩
  · have h1' : ¬ n ≥ 64 := h1
    rw [decide_eq_false h1, Bool.false_and]
    go_enter Try.func17, Try.ntmps17
    go_wp2_with fail
    go_ret
    exact ⟨rfl, rfl⟩
theorem fits_good (n : Nat) (h1 : 64 ≤ n) (h2 : n ≤ 1024) (w : World) : Calls Try.prog 17 #[.int .i64 (n : Nat)] w fun e w' => e = .returned (.bool true) ∧ w = w' := by
  have := fits_any (n : Int) w
  rw [decide_eq_true (show (64 : Int) ≤ n by omega), decide_eq_true (show (n : Int) ≤ 1024 by omega)] at this
  exact this
theorem there_nil (w : World) : Calls Try.prog 18 #[.pointer none] w fun e w' => e = .returned (.bool false) ∧ w = w' := by
  go_enter Try.func18, Try.ntmps18
  go_wp2_with fail
  go_ret
  exact ⟨rfl, rfl⟩
theorem there_any (p n : Nat) (h1 : 64 ≤ n) (h2 : n ≤ 1024) (w : World) (c0 : w.cell? ⟨p, 0, none⟩ = some (.int .i64 (n : Nat))) : Calls Try.prog 18 #[.pointer (some ⟨p, 0, none⟩)] w fun e w' => e = .returned (.bool true) ∧ w = w' := by
  have F := Lib.hid (fits_good n h1 h2 w)
  go_enter Try.func18, Try.ntmps18
  go_wp2_with fail
  refine F.out.mono ?_
  rintro e w1 ⟨rfl, rfl⟩
  go_wp2_with fail
  go_ret
  exact ⟨rfl, rfl⟩
theorem head_any (n : Nat) (hn : n ≤ 1000000) (w : World) : Calls Try.prog 27 #[.int .i64 (n : Nat)] w fun e w' => e = .returned (.int .i64 (1 + (n : Int) * 4)) ∧ w = w' := by
  have h1 : (n : Int) ≤ 1000000 := by omega
  go_enter Try.func27, Try.ntmps27
  go_wp2_with fail
  go_ret
  exact ⟨rfl, rfl⟩
theorem has_nil (i : Int) (w : World) : Calls Try.prog 21 #[.pointer none, .int .i64 i] w fun e w' => e = .returned (.int .i64 2) ∧ w = w' := by
  have T := there_nil w
  go_enter Try.func21, Try.ntmps21
  go_wp2_with fail
  refine T.mono ?_
  rintro e w1 ⟨rfl, rfl⟩
  go_wp2_with fail
  go_ret
  exact ⟨rfl, rfl⟩
theorem PgAt.there {w : World} {P : Pg} (h : PgAt w P) : Calls Try.prog 18 #[P.ptr] w fun e w' => e = .returned (.bool true) ∧ w = w' := there_any P.p P.size h.sz1 h.sz2 w h.c0
/-- is there no such slot? -/
def noSlot (P : Pg) (i : Int) : Prop := i < 0 ∨ (P.xs.length : Int) ≤ i
instance (P : Pg) (i : Int) : Decidable (noSlot P i) := inferInstanceAs (Decidable (_ ∨ _))
theorem has_no {w : World} {P : Pg} (h : PgAt w P) (i : Int) (hi : noSlot P i) : Calls Try.prog 21 #[P.ptr, .int .i64 i] w fun e w' => e = .returned (.int .i64 1) ∧ w = w' := by
  have T := Lib.hid h.there
  have c1 := h.c1
  clear h
  unfold noSlot at hi
  by_cases h0 : i < 0
  · go_enter Try.func21, Try.ntmps21
    go_wp2_with fail
    refine T.out.mono ?_
    rintro e w1 ⟨rfl, rfl⟩
    go_wp2_with fail
    go_ret
    exact ⟨rfl, rfl⟩
  · have hge : i ≥ (P.xs.length : Int) := by omega
    go_enter Try.func21, Try.ntmps21
    go_wp2_with fail
    refine T.out.mono ?_
    rintro e w1 ⟨rfl, rfl⟩
    go_wp2_with fail
    go_ret
    exact ⟨rfl, rfl⟩
theorem has_yes {w : World} {P : Pg} (h : PgAt w P) (i : Nat) (hi : i < P.xs.length) : Calls Try.prog 21 #[P.ptr, .int .i64 (i : Nat)] w fun e w' => e = .returned (.int .i64 0) ∧ w = w' := by
  have T := Lib.hid h.there
  have c1 := h.c1
  have h0 : ¬ (i : Int) < 0 := by omega
  have hge : ¬ (i : Int) ≥ (P.xs.length : Int) := by omega
  clear h hi
  go_enter Try.func21, Try.ntmps21
  go_wp2_with fail
  refine T.out.mono ?_
  rintro e w1 ⟨rfl, rfl⟩
  go_wp2_with fail
  go_ret
  exact ⟨rfl, rfl⟩
theorem filled_nil (i : Int) (w : World) : Calls Try.prog 22 #[.pointer none, .int .i64 i] w fun e w' => e = .returned (.int .i64 2) ∧ w = w' := by
  have T := has_nil i w
  go_enter Try.func22, Try.ntmps22
  go_wp2_with fail
  refine T.mono ?_
  rintro e w1 ⟨rfl, rfl⟩
  go_wp2_with fail
  go_ret
  exact ⟨rfl, rfl⟩
theorem filled_no {w : World} {P : Pg} (h : PgAt w P) (i : Int) (hi : noSlot P i) : Calls Try.prog 22 #[P.ptr, .int .i64 i] w fun e w' => e = .returned (.int .i64 1) ∧ w = w' := by
  have T := has_no h i hi
  clear h
  go_enter Try.func22, Try.ntmps22
  go_wp2_with fail
  refine T.mono ?_
  rintro e w1 ⟨rfl, rfl⟩
  go_wp2_with fail
  go_ret
  exact ⟨rfl, rfl⟩
theorem filled_yes {w : World} {P : Pg} (h : PgAt w P) (i : Nat) (hi : i < P.xs.length) : Calls Try.prog 22 #[P.ptr, .int .i64 (i : Nat)] w fun e w' => e = .returned (.int .i64 (if P.xs[i].b = [] then 13 else 0)) ∧ w = w' := by
  have T := Lib.hid (has_yes h i hi)
  have c1 := h.c1
  obtain ⟨g, hA, -, -, hc, -, -⟩ := h.slot i hi
  have hil : (i : Int) < (P.xs.length : Int) := by omega
  unfold Pg.v at c1
  rw [hA] at c1
  unfold Pg.ptr at *
  unfold Bx.v at hc
  clear h
  generalize P.xs[i] = x at *
  generalize P.xs.length = n at *
  by_cases hb : x.b = []
  · rw [if_pos hb]
    rw [hb] at hc
    simp only [List.length_nil] at hc
    clear hb
    go_enter Try.func22, Try.ntmps22
    go_wp2_with fail
    refine T.out.mono ?_
    rintro e w1 ⟨rfl, rfl⟩
    go_wp2_with fail
    go_ret
    exact ⟨rfl, rfl⟩
  · rw [if_neg hb]
    have hlen : ¬ ((x.b.length : Nat) : Int) = 0 := by
      have := List.length_pos_iff.2 hb
      omega
    generalize x.b.length = m at *
    clear hb
    go_enter Try.func22, Try.ntmps22
    go_wp2_with fail
    refine T.out.mono ?_
    rintro e w1 ⟨rfl, rfl⟩
    go_wp2_with fail
    go_ret
    exact ⟨rfl, rfl⟩
theorem slots_nil (w : World) : Calls Try.prog 15 #[.pointer none] w fun e w' => e = .returned (.int .i64 0) ∧ w = w' := by
  have T := there_nil w
  go_enter Try.func15, Try.ntmps15
  go_wp2_with fail
  refine T.mono ?_
  rintro e w1 ⟨rfl, rfl⟩
  go_wp2_with fail
  go_ret
  exact ⟨rfl, rfl⟩
theorem slots_at {w : World} {P : Pg} (h : PgAt w P) : Calls Try.prog 15 #[P.ptr] w fun e w' => e = .returned (.int .i64 (P.xs.length : Nat)) ∧ w = w' := by
  have T := Lib.hid h.there
  have c1 := h.c1
  clear h
  go_enter Try.func15, Try.ntmps15
  go_wp2_with fail
  refine T.out.mono ?_
  rintro e w1 ⟨rfl, rfl⟩
  go_wp2_with fail
  go_ret
  exact ⟨rfl, rfl⟩
theorem room_nil (w : World) : Calls Try.prog 16 #[.pointer none] w fun e w' => e = .returned (.int .i64 0) ∧ w = w' := by
  have T := there_nil w
  go_enter Try.func16, Try.ntmps16
  go_wp2_with fail
  refine T.mono ?_
  rintro e w1 ⟨rfl, rfl⟩
  go_wp2_with fail
  go_ret
  exact ⟨rfl, rfl⟩
/-- how many bytes neither slots nor pieces have. -/
def Pg.left (P : Pg) : Nat := P.size - 1 - 4 * P.xs.length - used P.L
set_option maxRecDepth 100000 in
set_option maxHeartbeats 1000000 in
theorem left_at {w : World} {P : Pg} (h : PgAt w P) : Calls Try.prog 19 #[P.ptr] w fun e w' => e = .returned (.int .i64 (P.left : Nat)) ∧ ∃ k, w' = w.drewN k := by
  have c0 := h.c0
  have c1 := h.c1
  have hfew := h.few
  have hfit := h.fit
  have hsz := h.sz2
  have HD := Lib.hid fun W => head_any P.xs.length (by omega) W
  have H := Lib.hid h
  have hfewi : (P.xs.length : Int) ≤ 250 := by omega
  have hszi : (P.size : Int) ≤ 1024 := by omega
  clear h
  go_enter Try.func19, Try.ntmps19
  go_wp2_with fail
  go_quiet ((go_at_call 27; exact Calls.quiet_of ((HD.out _).mono fun _ _ hh => ⟨hh.1, 0, hh.2.symm⟩)))
  have hb1 : Below w.heap.size w (w.drewN nq) := below_drewN (Below.refl _ _) nq
  have H1 := Lib.hid (H.out.below hb1)
  have HW : Hid (∃ k, w.drewN nq = w.drewN k) := Lib.hid ⟨_, rfl⟩
  generalize w.drewN nq = W at *
  have c1 := H1.out.c1
  have HALL : Hid (∀ i (hi : i < P.xs.length), ∃ g, P.A = some ⟨g, 0, none⟩ ∧ W.cell? ⟨g, i, none⟩ = some (P.xs[i]).v) := Lib.hid fun i hi => by
    obtain ⟨g, h1, -, -, h2, -, -⟩ := H1.out.slot i hi
    exact ⟨g, h1, h2⟩
  unfold Pg.v at c1
  clear c0 hb1 HD H H1
  generalize P.A = AA at *
  go_wp2_with fail
  go_loopg [3, 22] (P.xs.length + 1) (fun j s3 s22 wr => ∃ i : Nat, i ≤ P.xs.length ∧ P.xs.length < i + j ∧ s22 = .int .i64 (i : Nat) ∧ s3 = .int .i64 ((P.size : Int) - (1 + (P.xs.length : Int) * 4) - (used (P.L.take i) : Nat)) ∧ wr = W)
  case atStart => exact ⟨0, by omega, by omega, rfl, by simp [used], rfl⟩
  case round =>
    obtain ⟨i, hi, hj, rfl, rfl, rfl⟩ := hrel
    have hLlen : P.L.length = P.xs.length := bbs_len _
    by_cases hlt : i < P.xs.length
    · have hlti : (i : Int) < (P.xs.length : Int) := by omega
      obtain ⟨g, rfl, hc⟩ := HALL.out i hlt
      have hu := used_take_succ P.L i (by omega)
      have hu2 := used_at P.L i (by omega)
      have hLi : P.L[i] = P.xs[i].b := bbs_at _ _ _
      rw [hLi] at hu hu2
      have HU := Lib.hid hu
      unfold Bx.v at hc
      clear HALL
      generalize P.xs[i] = x at *
      have hxi : ((x.b.length : Nat) : Int) ≤ 1024 := by omega
      have hui : ((used (P.L.take i) : Nat) : Int) ≤ 1024 := by omega
      generalize used (P.L.take i) = u at *
      clear hLi hu hu2 c1 HW
      go_wp2_with fail
      go_roundg (P.xs.length - i)
      case measure => omega
      case rel => exact ⟨i + 1, by omega, by omega, rfl, by rw [HU.out, Int.natCast_add]; congr 1; omega, rfl⟩
    · have hge : ¬ (i : Int) < (P.xs.length : Int) := by omega
      have hin : i = P.xs.length := by omega
      have hu : P.L.take i = P.L := List.take_of_length_le (by omega)
      rw [hu]
      have hfin : Hid ((P.size : Int) - (1 + (P.xs.length : Int) * 4) - (used P.L : Nat) = (P.left : Nat)) := Lib.hid (by unfold Pg.left; omega)
      clear hu c1 HALL
      go_wp2_with fail
      go_ret
      exact ⟨by show Ending.returned (.int .i64 _) = _; rw [hfin.out], HW.out⟩
theorem room_at {w : World} {P : Pg} (h : PgAt w P) : Calls Try.prog 16 #[P.ptr] w fun e w' => e = .returned (.int .i64 (P.left : Nat)) ∧ ∃ k, w' = w.drewN k := by
  have T := Lib.hid h.there
  have L := Lib.hid (left_at h)
  clear h
  go_enter Try.func16, Try.ntmps16
  go_wp2_with fail
  refine T.out.mono ?_
  rintro e w1 ⟨rfl, rfl⟩
  go_wp2_with fail
  refine L.out.mono ?_
  rintro e w2 ⟨rfl, k, rfl⟩
  go_wp2_with fail
  go_ret
  exact ⟨rfl, _, rfl⟩
end Go.Proofs.Ytjnblkibejmdjaa
