/- parts: the iterator over the parts of records. -/
import Derived.Test.YtlkkfnimealbkaaND
namespace Go.Proofs.Ytlkkfnimealbkaa
open Go.RowKit Go.Shelf
set_option linter.unusedVariables false
attribute [local go_sem] Oper.semAt_some
/-- records, as they stand. -/
def Recs (w : World) (A : Option Addr) (l : List (List UInt8)) : Prop :=
  ∀ i (h : i < l.length), ∃ g o B c, A = some ⟨g, o, none⟩ ∧ g < w.heap.size ∧ w.cell? ⟨g, o + i, none⟩ = some (.slice B l[i].length c) ∧ Holds w B l[i] ∧ l[i].length ≤ c
theorem Recs.below {w w' : World} {A : Option Addr} {l : List (List UInt8)} (h : Recs w A l) (hb : Below w.heap.size w w') : Recs w' A l := fun i hi => by
  obtain ⟨g, o, B, c, e, hlt, hc, hh, hl⟩ := h i hi
  exact ⟨g, o, B, c, e, Nat.lt_of_lt_of_le hlt hb.size, (hb.cell (p := ⟨g, o + i, none⟩) hlt).trans hc, hh.below hb, hl⟩
/-- a part, as it is told. -/
structure Pt where
  A : Option Addr
  c : Nat
  p : Pb
abbrev Pt.v (x : Pt) : Value := .agg #[.slice x.A x.p.b.length x.c, .bool x.p.last]
abbrev encP (x : Pt) : Array Value := #[.int .i64 (x.p.n : Nat), x.v]
def pbs (l : List Pt) : List Pb := l.map Pt.p
theorem pbs_snoc (l : List Pt) (x : Pt) : pbs (l ++ [x]) = pbs l ++ [x.p] := by simp [pbs]
/-- the next part that is told behind those of pre. -/
def PtIn (w0 : World) (size : Nat) (rs : List (List UInt8)) (pre : List Pt) (x : Pt) (_ : World) : Prop := pbs pre ++ [x.p] <+: partsL size rs ∧ Holds w0 x.A x.p.b
/-- blocks of a type lie as they lay. -/
def KeepsT (t : TypeId) (W W' : World) : Prop := ∀ (k : Nat) (cs : Array Value) (z : Nat × Nat), W.heap[k]? = some (Obj.cells cs t z) → W'.heap[k]? = W.heap[k]?
theorem KeepsT.trans {t : TypeId} {A B C : World} (h : KeepsT t A B) (k : KeepsT t B C) : KeepsT t A C := fun i cs z e => (k i cs z ((h i cs z e).trans e)).trans (h i cs z e)
theorem KeepsT.below {t : TypeId} {A B : World} (h : Below A.heap.size A B) : KeepsT t A B := fun i cs z e => h.block i (Array.getElem?_eq_some_iff.1 e).1
/-- what a round keeps: what lay below n₀, and all spaces. -/
def KpS (n₀ : Nat) (W W' : World) : Prop := Below n₀ W W' ∧ KeepsT 85 W W'
theorem KpS.trans {n₀ : Nat} {A B C : World} (h : KpS n₀ A B) (k : KpS n₀ B C) : KpS n₀ A C := ⟨h.1.trans k.1, h.2.trans k.2⟩
theorem kpS_b {n₀ : Nat} {w : World} (hn : n₀ ≤ w.heap.size) (W : World) (l : Nat) (o o' : Obj) (hl : w.heap.size ≤ l) (h : W.heap[l]? = some o) (hc : o.isCells = false) : KpS n₀ W (W.putObj l o') :=
  ⟨⟨rfl, rfl, rfl, by simp [World.putObj], fun k hk => World.putObj_heap_other (by omega)⟩, fun k cs z e => World.putObj_heap_other (fun e' => by subst e'; rw [h] at e; cases e; simp [Obj.isCells] at hc)⟩
theorem parts_in (F : Fence) (n : Nat) (h5 : F.fn 21) (hro : F.round = none) (size : Int) (A : Option Addr) (m c : Nat) (w : World) :
    CallsIn F n Try.prog 21 #[.int .i64 size, .slice A m c] w fun e w' => e = .returned (.func (.func 35) #[] #[.pointer (some ⟨w.heap.size, 0, none⟩), .pointer (some ⟨w.heap.size + 1, 0, none⟩)]) ∧ w' = (w.alloc (.cells #[.int .i64 size] 3)).alloc (.cells #[.slice A m c] 22) := by
  refine callsIn_of_wp Try.func21 rfl h5 ?_ hro
  simp only [Try.ntmps21, List.size_toArray, List.length_cons, List.length_nil, Nat.reduceAdd, Nat.reduceSub, Array.replicate_succ, Array.replicate_zero, List.push_toArray, List.append_toArray, List.nil_append, List.cons_append]
  gi_wp2
  go_ret
  exact ⟨rfl, rfl⟩
def lenOf : Value → Nat
  | .slice _ n _ => n
  | _ => 0
def notYet : Value → Nat
  | .bool false => 1
  | _ => 0
theorem run_min2 (ts : Array TypeId) (t : TypeId) (x y z : Int) (h : min x y = z) (W : World) : Sem.run Try.prog (Builtin.min_ ts t #[.int .i64 x, .int .i64 y]) W = .ok (.int .i64 z) W := by
  subst h
  have e : (if y < x then y else x) = min x y := by split <;> omega
  simp [Builtin.min_, Builtin.min2, e]
/-- where the telling stands, ahead of the records that are left. -/
structure CutO (w0 : World) (size : Nat) (rs : List (List UInt8)) (i B1 B2 : Nat) (pre : List Pt) (a rm sl : Nat) (wr : World) : Prop where
  left : partsL size rs = pbs pre ++ cutA (size - 1) (a, rm) (rs.drop i)
  few : rm ≤ size - 1
  slots : 227 + rm ≤ 5 * sl
  slots2 : sl ≤ 250
  num : a ≤ pre.length
  b1 : Whole wr B1 85 #[.int .i64 250, .int .i64 ((size - 1 : Nat) : Int)]
  b2 : Whole wr B2 85 #[.int .i64 (sl : Nat), .int .i64 (rm : Nat)]
  below : Below w0.heap.size w0 wr
/-- where the telling stands within a record. -/
structure CutI (w0 : World) (size : Nat) (rs : List (List UInt8)) (i B1 B2 : Nat) (pre : List Pt) (a rm sl f : Nat) (A : Option Addr) (c : Nat) (rest : List UInt8) (wr : World) : Prop where
  left : partsL size rs = pbs pre ++ (cutF (size - 1) f (a, rm) rest ++ cutA (size - 1) (stA (size - 1) (a, rm) (cutF (size - 1) f (a, rm) rest)) (rs.drop (i + 1)))
  fuel : rest.length < f
  held : Holds w0 A rest
  cap : rest.length ≤ c
  long : rest.length ≤ 1000000
  few : rm ≤ size - 1
  slots : 227 + rm ≤ 5 * sl
  slots2 : sl ≤ 250
  num : a ≤ pre.length
  b1 : Whole wr B1 85 #[.int .i64 250, .int .i64 ((size - 1 : Nat) : Int)]
  b2 : Whole wr B2 85 #[.int .i64 (sl : Nat), .int .i64 (rm : Nat)]
  below : Below w0.heap.size w0 wr
theorem Whole.touch1 {w w' : World} {k g : Nat} {t : TypeId} {cs : Array Value} (h : Whole w k t cs) (ht : Touch [g] w w') (hk : k ≠ g) : Whole w' k t cs := (ht.block k h.lt (by simp [hk])).trans h
theorem Touch.below1 {w w' : World} {g B : Nat} (ht : Touch [g] w w') (hB : B ≤ g) (hw : B ≤ w.heap.size) : Below B w w' :=
  ⟨ht.os, ht.tape, ht.output, ht.size, fun k hk => ht.block k (by omega) (by simp; omega)⟩
/-- a space set anew. -/
theorem space_set {W : World} {B : Nat} {x y : Value} (h : Whole W B 85 #[x, y]) (u v : Value) :
    Whole (((W.setCell ⟨B, 0, none⟩ u).setCell ⟨B, 1, none⟩ v).drew) B 85 #[u, v] ∧ Touch [B] W (((W.setCell ⟨B, 0, none⟩ u).setCell ⟨B, 1, none⟩ v).drew) :=
  ⟨(h.set_ 0 u).set_ 1 v, ((((Touch.refl _ _).setCell (.inl (by simp)) _).setCell (.inl (by simp)) _)).drew⟩
theorem CutO.into {w0 : World} {size : Nat} {rs : List (List UInt8)} {i B1 B2 : Nat} {pre : List Pt} {a rm sl : Nat} {wr : World} (h : CutO w0 size rs i B1 B2 pre a rm sl wr) (hi : i < rs.length) {A : Option Addr} {c : Nat} (hA : Holds w0 A rs[i]) (hc : rs[i].length ≤ c) (hl : rs[i].length ≤ 1000000) :
    CutI w0 size rs i B1 B2 pre a rm sl (rs[i].length + 1) A c rs[i] wr := by
  refine ⟨?_, Nat.lt_succ_self _, hA, hc, hl, h.few, h.slots, h.slots2, h.num, h.b1, h.b2, h.below⟩
  rw [h.left, List.drop_eq_getElem_cons hi]
  rfl
theorem CutO.moved {w0 : World} {size : Nat} {rs : List (List UInt8)} {i B1 B2 : Nat} {pre : List Pt} {a rm sl : Nat} {wr w' : World} (h : CutO w0 size rs i B1 B2 pre a rm sl wr) (hk : KpS w0.heap.size wr w') : CutO w0 size rs i B1 B2 pre a rm sl w' :=
  ⟨h.left, h.few, h.slots, h.slots2, h.num, (hk.2 _ _ _ h.b1).trans h.b1, (hk.2 _ _ _ h.b2).trans h.b2, h.below.trans hk.1⟩
theorem CutI.moved {w0 : World} {size : Nat} {rs : List (List UInt8)} {i B1 B2 : Nat} {pre : List Pt} {a rm sl f : Nat} {A : Option Addr} {c : Nat} {rest : List UInt8} {wr w' : World} (h : CutI w0 size rs i B1 B2 pre a rm sl f A c rest wr) (hk : KpS w0.heap.size wr w') : CutI w0 size rs i B1 B2 pre a rm sl f A c rest w' :=
  ⟨h.left, h.fuel, h.held, h.cap, h.long, h.few, h.slots, h.slots2, h.num, (hk.2 _ _ _ h.b1).trans h.b1, (hk.2 _ _ _ h.b2).trans h.b2, h.below.trans hk.1⟩
theorem CutI.last {w0 : World} {size : Nat} {rs : List (List UInt8)} {i B1 B2 : Nat} {pre : List Pt} {a rm sl f : Nat} {A : Option Addr} {c : Nat} {rest : List UInt8} {wr : World} (h64 : 64 ≤ size) (h : CutI w0 size rs i B1 B2 pre a rm sl f A c rest wr)
    {s : Nat × Nat} (hs : spot (size - 1) rest.length (a, rm) = s) (hl : rest.length ≤ s.2 - 5) :
    PtIn w0 size rs pre ⟨A, c, ⟨s.1, rest, true⟩⟩ wr ∧ ∀ sl' wr', 227 + s.2 ≤ 5 * sl' → sl' ≤ 250 → Whole wr' B1 85 #[.int .i64 250, .int .i64 ((size - 1 : Nat) : Int)] → Whole wr' B2 85 #[.int .i64 ((sl' - 1 : Nat) : Int), .int .i64 ((s.2 - 5 - rest.length : Nat) : Int)] → Below w0.heap.size w0 wr' →
      CutO w0 size rs (i + 1) B1 B2 (pre ++ [⟨A, c, ⟨s.1, rest, true⟩⟩]) s.1 (s.2 - 5 - rest.length) (sl' - 1) wr' := by
  obtain ⟨f, rfl⟩ : ∃ k, f = k + 1 := ⟨f - 1, by have := h.fuel; omega⟩
  have hw : 6 ≤ size - 1 := by omega
  have h5 := spot_room (m := rest.length) (s := (a, rm)) hw
  have hsl := spot_le (m := rest.length) (s := (a, rm)) h.few
  rw [hs] at h5 hsl
  have hcut : cutF (size - 1) (f + 1) (a, rm) rest = [⟨s.1, rest, true⟩] := by
    show (if rest.length ≤ (spot (size - 1) rest.length (a, rm)).2 - 5 then _ else _) = _
    rw [hs, if_pos hl]
  have hst : stA (size - 1) (a, rm) [⟨s.1, rest, true⟩] = (s.1, s.2 - 5 - rest.length) := by
    subst hs
    show (_, _) = _
    unfold spot
    split <;> simp
  have hleft := h.left
  rw [hcut, hst] at hleft
  refine ⟨⟨⟨_, by rw [hleft, List.append_assoc]⟩, h.held⟩, fun sl' wr' k1 k2 k3 k4 k5 => ⟨?_, ?_, ?_, by omega, ?_, k3, k4, k5⟩⟩
  · rw [hleft, pbs_snoc, List.append_assoc]
  · omega
  · omega
  · have := h.num
    rw [List.length_append, List.length_singleton]
    subst hs
    unfold spot
    split <;> simp <;> omega
theorem CutI.more {w0 : World} {size : Nat} {rs : List (List UInt8)} {i B1 B2 : Nat} {pre : List Pt} {a rm sl f : Nat} {A : Option Addr} {c : Nat} {rest : List UInt8} {wr : World} (h64 : 64 ≤ size) (h : CutI w0 size rs i B1 B2 pre a rm sl f A c rest wr)
    {s : Nat × Nat} (hs : spot (size - 1) rest.length (a, rm) = s) {q : Nat} (hq : s.2 - 5 = q) (hl : q < rest.length) :
    0 < q ∧ (rest.take q).length = q ∧ PtIn w0 size rs pre ⟨A, c, ⟨s.1, rest.take q, false⟩⟩ wr ∧ ∀ sl' wr', 227 + s.2 ≤ 5 * sl' → sl' ≤ 250 → Whole wr' B1 85 #[.int .i64 250, .int .i64 ((size - 1 : Nat) : Int)] → Whole wr' B2 85 #[.int .i64 ((sl' - 1 : Nat) : Int), .int .i64 ((s.2 - 5 - q : Nat) : Int)] → Below w0.heap.size w0 wr' →
      ∃ f', CutI w0 size rs i B1 B2 (pre ++ [⟨A, c, ⟨s.1, rest.take q, false⟩⟩]) s.1 (s.2 - 5 - q) (sl' - 1) f' (if c = q then A else A.map (·.add q)) (c - q) (rest.drop q) wr' := by
  obtain ⟨f, rfl⟩ : ∃ k, f = k + 1 := ⟨f - 1, by have := h.fuel; omega⟩
  have hw : 6 ≤ size - 1 := by omega
  have h5 := spot_room (m := rest.length) (s := (a, rm)) hw
  have hsl := spot_le (m := rest.length) (s := (a, rm)) h.few
  rw [hs] at h5 hsl
  have hcut : cutF (size - 1) (f + 1) (a, rm) rest = ⟨s.1, rest.take q, false⟩ :: cutF (size - 1) f (s.1, 0) (rest.drop q) := by
    show (if rest.length ≤ (spot (size - 1) rest.length (a, rm)).2 - 5 then _ else _) = _
    rw [hs, hq, if_neg (by omega)]
  have htl : (rest.take q).length = q := by rw [List.length_take]; omega
  have hst : st1 (size - 1) (a, rm) ⟨s.1, rest.take q, false⟩ = (s.1, 0) := by
    subst hs
    unfold st1
    show (_, _) = _
    simp only [htl]
    rw [← hq]
    unfold spot
    split <;> simp
  have hleft := h.left
  rw [hcut] at hleft
  have e0 : s.2 - 5 - q = 0 := by omega
  have hlong := h.long
  have hcap := h.cap
  have hfuel := h.fuel
  refine ⟨by omega, htl, ⟨⟨_, by rw [hleft, List.append_assoc]; rfl⟩, h.held.take q⟩, fun sl' wr' k1 k2 k3 k4 k5 => ⟨f, ?_, ?_, h.held.drop q c hcap, ?_, ?_, ?_, ?_, by omega, ?_, k3, ?_, k5⟩⟩
  · rw [e0, hleft, pbs_snoc, List.append_assoc]
    simp only [stA, List.foldl_cons, hst]
    rfl
  · rw [List.length_drop]; omega
  · rw [List.length_drop]; omega
  · rw [List.length_drop]; omega
  · omega
  · omega
  · have := h.num
    rw [List.length_append, List.length_singleton]
    subst hs
    unfold spot
    split <;> simp <;> omega
  · exact k4
set_option maxRecDepth 100000 in
set_option maxHeartbeats 2000000 in
theorem parts1_in (n : Nat) (hn : 1 ≤ n) (l Bn : Nat) (w0 : World) (size : Nat) (h1 : 64 ≤ size) (h2 : size ≤ 1024) (A : Option Addr) (c : Nat) (rs : List (List UInt8)) (hR : Recs w0 A rs) (hrs : rs.length ≤ 1000000) (hrl : ∀ r ∈ rs, r.length ≤ 1000000) (hT : (partsL size rs).length ≤ 1000000000)
    (J Jx : List Pt → World → Prop)
    (hY : ∀ pre x W, J pre W → PtIn w0 size rs pre x W → YieldAt Fence.wide (n - 1) Try.prog l (encP x) W fun r W' => (r = .returned (.bool true) ∧ J (pre ++ [x]) W' ∧ KpS w0.heap.size W W') ∨ (r = .returned (.bool false) ∧ Jx (pre ++ [x]) W'))
    (W : World) (hJ : ∀ s W1 W2, J s W1 → Below W1.heap.size W1 W2 → J s W2) (hJT : ∀ s W1 W2 r, J s W1 → W.heap.size ≤ r → (∃ (cs : Array Value) (z : Nat × Nat), W1.heap[r]? = some (Obj.cells cs 85 z)) → Touch [r] W1 W2 → J s W2)
    (hW : Below w0.heap.size w0 W) (hb0 : Whole W Bn 3 #[.int .i64 (size : Nat)]) (hb1 : Whole W (Bn + 1) 22 #[.slice A rs.length c]) (h0 : J [] W) :
    CallsIn Fence.wide n Try.prog 35 #[.func (.yield l) #[] #[], .pointer (some ⟨Bn, 0, none⟩), .pointer (some ⟨Bn + 1, 0, none⟩)] W fun r W' => (∃ v, r = .returned v) ∧ ((∃ ys : List Pt, pbs ys = partsL size rs ∧ J ys W') ∨ ∃ pre, Jx pre W') := by
  have c0 := hb0.cell 0
  have c1 := hb1.cell 0
  simp only [List.getElem?_toArray, List.getElem?_cons_zero] at c0 c1
  have NEW := Lib.hid (Pag.new_good size h1 h2 W)
  have HB1 := Lib.hid hb1
  have HW := Lib.hid hW
  have HJ := Lib.hid hJ
  have HJT := Lib.hid hJT
  have hW0 := hW.size
  have H0 := Lib.hid h0
  have HY := Lib.hid hY
  have HR := Lib.hid (And.intro hR hrl)
  have h2i : (size : Int) ≤ 1024 := by omega
  have h1i : (64 : Int) ≤ size := by omega
  clear hb0 hb1 hW hJ hJT h0 hY hR hrl
  refine callsIn_of_wp Try.func35 rfl trivial ?_ rfl
  simp only [Try.ntmps35, List.size_toArray, List.length_cons, List.length_nil, Nat.reduceAdd, Nat.reduceSub, Array.replicate_succ, Array.replicate_zero, List.push_toArray, List.append_toArray, List.nil_append, List.cons_append]
  gi_wp2
  refine ⟨trivial, ?_⟩
  refine (callsIn_wide.2 NEW.out).mono ?_
  rintro e w1 ⟨rfl, hP, hb1⟩
  have ROOM := Lib.hid (Pag.room_at hP)
  have c1' := (hb1.cell (p := ⟨Bn + 1, 0, none⟩) HB1.out.lt).trans c1
  have HP := Lib.hid hb1
  clear NEW hP hb1 c0 c1
  gi_wp2
  refine ⟨trivial, ?_⟩
  refine (callsIn_wide.2 ROOM.out).mono ?_
  rintro e w2 ⟨rfl, k, rfl⟩
  rw [show (Pag.newP W.heap.size size).left = size - 1 by simp [Pag.newP, Pag.Pg.left, Pag.Pg.L, Pag.bbs, Pag.used]]
  have HQ : Hid (Below W.heap.size W (w1.drewN k)) := Lib.hid (below_drewN HP.out k)
  have c1q : (w1.drewN k).cell? ⟨Bn + 1, 0, none⟩ = some (.slice A rs.length c) := c1'
  generalize w1.drewN k = w2 at *
  clear ROOM HP c1'
  gi_wp2
  refine wpIn_wide.2 ?_
  refine Code.wp_mono (Q := fun ex a1 w1 => match ex with | .normal => a1 = { tmps := #[.func (.yield l) #[] #[], .pointer (some ⟨Bn, 0, none⟩), .pointer (some ⟨Bn + 1, 0, none⟩), undef, .pointer (some ⟨W.heap.size, 0, none⟩), .int .i64 0, .pointer (some ⟨w2.heap.size, 0, none⟩), .int .i64 0, .pointer (some ⟨w2.heap.size + 1, 0, none⟩), undef, undef, undef, undef, .tuple #[.pointer (some ⟨W.heap.size, 0, none⟩), .int .i64 0], .int .i64 (size : Nat), .tuple #[.pointer (some ⟨W.heap.size, 0, none⟩), .int .i64 0], .pointer (some ⟨W.heap.size, 0, none⟩), .int .i64 0, .int .i64 0, .bool false, .pointer (some ⟨W.heap.size, 0, none⟩), .int .i64 ((size - 1 : Nat) : Int), .agg #[.int .i64 250, .int .i64 ((size - 1 : Nat) : Int)], .agg #[.int .i64 250, .int .i64 ((size - 1 : Nat) : Int)], undef, undef, undef, undef, undef, undef, undef, undef, undef, undef, undef, undef, undef, undef, undef, undef, undef, undef, undef, undef, undef, undef, undef, undef, undef, undef, undef, undef, undef, undef, undef, undef, undef, undef, undef, undef, undef, undef, undef, undef, undef, undef], defers := [] } ∧ w1 = ((w2.alloc (.cells #[.int .i64 250, .int .i64 ((size - 1 : Nat) : Int)] 85)).alloc (.cells #[.int .i64 250, .int .i64 ((size - 1 : Nat) : Int)] 85)).drew | _ => False) ?_ ?_
  case refine_2 =>
    go_region_with (fail)
    all_goals exact ⟨rfl, rfl⟩
  intro ex a1 w1 hq
  cases ex with
  | normal =>
    obtain ⟨rfl, rfl⟩ := hq
    dsimp only
    have n1 := ((Whole.new w2 85 #[.int .i64 250, .int .i64 ((size - 1 : Nat) : Int)]).alloc (.cells #[.int .i64 250, .int .i64 ((size - 1 : Nat) : Int)] 85)).drew
    have n2 := (Whole.new (w2.alloc (.cells #[.int .i64 250, .int .i64 ((size - 1 : Nat) : Int)] 85)) 85 #[.int .i64 250, .int .i64 ((size - 1 : Nat) : Int)]).drew
    rw [World.size_alloc] at n2
    have hbV : Below W.heap.size W ((w2.alloc (.cells #[.int .i64 250, .int .i64 ((size - 1 : Nat) : Int)] 85)).alloc (.cells #[.int .i64 250, .int .i64 ((size - 1 : Nat) : Int)] 85)).drew := ((HQ.out.alloc HQ.out.size _).alloc (by have := HQ.out.size; simp; omega) _).drew
    have hcV : World.cell? ((w2.alloc (.cells #[.int .i64 250, .int .i64 ((size - 1 : Nat) : Int)] 85)).alloc (.cells #[.int .i64 250, .int .i64 ((size - 1 : Nat) : Int)] 85)).drew ⟨Bn + 1, 0, none⟩ = some (.slice A rs.length c) := (hbV.cell (p := ⟨Bn + 1, 0, none⟩) HB1.out.lt).trans (by have := HB1.out.cell 0; simpa using this)
    generalize ((w2.alloc (.cells #[.int .i64 250, .int .i64 ((size - 1 : Nat) : Int)] 85)).alloc (.cells #[.int .i64 250, .int .i64 ((size - 1 : Nat) : Int)] 85)).drew = V at *
    have CUT : Hid (CutO w0 size rs 0 w2.heap.size (w2.heap.size + 1) [] 0 (size - 1) 250 V) := Lib.hid ⟨by simp [pbs, partsL], Nat.le_refl _, by omega, by omega, Nat.zero_le _, n1, n2, HW.out.trans (hbV.mono HW.out.size)⟩
    have HJ0 := Lib.hid (HJ.out _ _ _ H0.out hbV)
    have hBV : W.heap.size ≤ w2.heap.size := HQ.out.size
    clear H0 HQ c1q n1 n2 HB1 HW hbV
    generalize w2.heap.size = B1 at *
    gi_wp2
    gi_loopw [7, 26] (fun s7 s26 wr => ∃ (i : Nat) (pre : List Pt) (a rm sl : Nat), i ≤ rs.length ∧ s26 = .int .i64 (i : Nat) ∧ s7 = .int .i64 (a : Nat) ∧ CutO w0 size rs i B1 (B1 + 1) pre a rm sl wr ∧ J pre wr)
      (fun s7 s26 _ => (rs.length - intOf s26).toNat)
    case atStart => exact ⟨0, [], 0, size - 1, 250, Nat.zero_le _, rfl, rfl, CUT.out, HJ0.out⟩
    case round =>
      obtain ⟨i, pre, a, rm, sl, hi, rfl, rfl, hcut, hj⟩ := hrel
      by_cases hlt : i < rs.length
      · have hlti : (i : Int) < (rs.length : Int) := by omega
        obtain ⟨g, o, B, cr, rfl, hg, hcell, hheld, hcap⟩ := HR.out.1 i hlt
        have hcr := (hcut.below.cell (p := ⟨g, o + i, none⟩) hg).trans hcell
        have CI := Lib.hid (hcut.into hlt hheld hcap (HR.out.2 _ (List.getElem_mem hlt)))
        have HJ1 := Lib.hid hj
        clear hcell hheld hcap hcut hj CUT HJ0
        generalize hre : rs[i] = rec at *
        gi_wp2
        gi_loopw [7, 10, 11] (fun s7 s10 s11 wr => ∃ (pre : List Pt) (a rm sl : Nat) (A' : Option Addr) (c' : Nat) (rest : List UInt8), s7 = .int .i64 (a : Nat) ∧ s10 = .slice A' rest.length c' ∧ J pre wr ∧ ((s11 = .bool false ∧ ∃ f, CutI w0 size rs i B1 (B1 + 1) pre a rm sl f A' c' rest wr) ∨ (s11 = .bool true ∧ CutO w0 size rs (i + 1) B1 (B1 + 1) pre a rm sl wr)))
          (fun s7 s10 s11 _ => lenOf s10 + notYet s11)
        case atStart => exact ⟨pre, a, rm, sl, B, cr, rec, rfl, rfl, HJ1.out, .inl ⟨rfl, _, CI.out⟩⟩
        case round =>
          clear CI HJ1
          obtain ⟨pre, a, rm, sl, A', c', rest, rfl, rfl, hj, ⟨rfl, f, CI⟩ | ⟨rfl, CO⟩⟩ := hrel
          · have hc2 := CI.b2.cell 0
            have hc3 := CI.b2.cell 1
            simp only [List.getElem?_toArray, List.getElem?_cons_zero, List.getElem?_cons_succ] at hc2 hc3
            have hsl1 := CI.slots
            have hsl2 := CI.slots2
            have hfew := CI.few
            have hnum := CI.num
            have hlong := CI.long
            have hcap := CI.cap
            obtain ⟨m, hm⟩ : ∃ m, min rest.length 1 = m := ⟨_, rfl⟩
            have hmi := run_min2 #[3, 3] 3 (rest.length : Nat) 1 (m : Nat) (by omega)
            have TK := Lib.hid (takes_any sl rm m (by omega) hsl2 (by omega) (by omega) wr)
            have hb1 := CI.b1
            have hb2 := CI.b2
            have hbw := CI.below
            have CI1 := Lib.hid CI
            have hs5 : 5 + m ≤ (spot (size - 1) rest.length (a, rm)).2 := by rw [← hm]; exact spot_room (by omega)
            have hsl' := spot_le (whole := size - 1) (m := rest.length) (s := (a, rm)) hfew
            have hnumT : pre.length ≤ 1000000000 := by
              have := congrArg List.length CI.left
              simp only [List.length_append, pbs, List.length_map] at this
              omega
            clear CI
            gi_wp2
            refine ⟨trivial, ?_⟩
            refine (callsIn_wide.2 TK.out).mono ?_
            rintro e w3 ⟨rfl, hb3⟩
            have k1 := hb1.below hb3 hb1.lt
            have k2 := hb2.below hb3 hb2.lt
            have kw := hbw.trans (hb3.mono hbw.size)
            have kj := HJ.out _ _ _ hj hb3
            obtain ⟨s, hs⟩ : ∃ s, spot (size - 1) rest.length (a, rm) = s := ⟨_, rfl⟩
            rw [hs] at hs5 hsl'
            clear hb1 hb2 hbw hj TK hc2 hc3
            by_cases ht : 5 + m ≤ rm
            · have hd : decide (5 + m ≤ rm) = true := decide_eq_true ht
              rw [hd]
              have hsa : s = (a, rm) := by rw [← hs]; unfold spot; rw [if_pos (by rw [hm]; exact ht)]
              subst hsa
              have d3 := k2.cell 1
              simp only [List.getElem?_toArray, List.getElem?_cons_zero, List.getElem?_cons_succ] at d3
              have K := Lib.hid (And.intro k1 (And.intro k2 (And.intro kw kj)))
              clear k1 k2 kw kj hb3 hd ht
              simp only at hs5 hsl'
              by_cases hl : rest.length ≤ rm - 5
              · have hmi2 := run_min2 #[3, 3] 3 (rest.length : Nat) ((rm : Nat) - 5 : Int) (rest.length : Nat) (by omega)
                obtain ⟨hpt, hnx⟩ := CI1.out.last h1 hs hl
                have TAKE := Lib.hid (take_any (B1 + 1) sl (rm) rest.length (by omega) (by omega) (by omega) (by omega) _ K.out.2.1)
                have HP := Lib.hid hpt
                have HN := Lib.hid hnx
                clear hpt hnx
                gi_wp2
                refine ⟨trivial, ?_⟩
                refine (callsIn_wide.2 TAKE.out).mono ?_
                rintro e w5 ⟨⟨v, rfl⟩, hb5⟩
                have q1 := K.out.1.touch1 hb5.2 (by omega)
                have qw := K.out.2.2.1.trans (hb5.2.below1 (B := w0.heap.size) (by omega) K.out.2.2.1.size)
                have qj := HJT.out _ _ _ _ K.out.2.2.2 (by omega) ⟨_, _, K.out.2.1⟩ hb5.2
                obtain ⟨fn, tmps, assign, body, hy, hR⟩ := HY.out pre ⟨A', c', ⟨a, rest, true⟩⟩ w5 qj HP.out
                unfold encP Pt.v at hy
                dsimp only at hy
                have N5 := Lib.hid (HN.out sl w5 (by omega) (by omega) q1 hb5.1 qw)
                clear q1 qw qj hb5 HN HP TAKE K hs
                by_cases hcl : c' = rest.length
                · subst hcl
                  gi_wp2
                  refine hR.mono ?_
                  rintro r W6 (⟨rfl, hJ6, hk6⟩ | ⟨rfl, hx6⟩)
                  · gi_wp2
                    have NO := N5.out
                    exact ⟨⟨pre ++ [_], a, _, _, _, _, [], rfl, rfl, hJ6, .inr ⟨rfl, NO.moved hk6⟩⟩, by simp [lenOf, notYet]⟩
                  · gi_wp2
                    refine bodyPost_ret (results_none rfl _ _ _) rfl ?_
                    exact ⟨⟨_, rfl⟩, .inr ⟨_, hx6⟩⟩
                · have hceq : (c' = rest.length) = False := eq_false hcl
                  gi_wp2
                  refine hR.mono ?_
                  rintro r W6 (⟨rfl, hJ6, hk6⟩ | ⟨rfl, hx6⟩)
                  · gi_wp2
                    have NO := N5.out
                    exact ⟨⟨pre ++ [_], a, _, _, _, _, [], rfl, rfl, hJ6, .inr ⟨rfl, NO.moved hk6⟩⟩, by simp [lenOf, notYet]⟩
                  · gi_wp2
                    refine bodyPost_ret (results_none rfl _ _ _) rfl ?_
                    exact ⟨⟨_, rfl⟩, .inr ⟨_, hx6⟩⟩
              · obtain ⟨q, hq⟩ : ∃ q, rm - 5 = q := ⟨_, rfl⟩
                have hqi : ((rm : Nat) - 5 : Int) = (q : Int) := by omega
                have hmi2 := run_min2 #[3, 3] 3 (rest.length : Nat) ((rm : Nat) - 5 : Int) (q : Nat) (by omega)
                obtain ⟨hq0, htl, hpt, hnx⟩ := CI1.out.more h1 hs hq (by omega)
                have TAKE := Lib.hid (take_any (B1 + 1) sl (rm) q (by omega) (by omega) (by omega) (by omega) _ K.out.2.1)
                have HP := Lib.hid hpt
                have HN := Lib.hid hnx
                have hqle : (q : Int) ≤ (rest.length : Nat) := by omega
                have hqc : (q : Int) ≤ (c' : Nat) := by omega
                have hqne : ((q : Int) == (rest.length : Nat)) = false := by simp; omega
                have hqne2 : (c' = q) = False := eq_false (by omega)
                clear hpt hnx
                gi_wp2
                refine ⟨trivial, ?_⟩
                refine (callsIn_wide.2 TAKE.out).mono ?_
                rintro e w5 ⟨⟨v, rfl⟩, hb5⟩
                have q1 := K.out.1.touch1 hb5.2 (by omega)
                have qw := K.out.2.2.1.trans (hb5.2.below1 (B := w0.heap.size) (by omega) K.out.2.2.1.size)
                have qj := HJT.out _ _ _ _ K.out.2.2.2 (by omega) ⟨_, _, K.out.2.1⟩ hb5.2
                obtain ⟨fn, tmps, assign, body, hy, hR⟩ := HY.out pre ⟨A', c', ⟨a, rest.take q, false⟩⟩ w5 qj HP.out
                unfold encP Pt.v at hy
                dsimp only at hy
                rw [htl] at hy
                have N5 := Lib.hid (HN.out sl w5 (by omega) (by omega) q1 hb5.1 qw)
                have hdl : (rest.drop q).length = rest.length - q := List.length_drop
                clear q1 qw qj hb5 HN HP TAKE K hs
                gi_wp2
                refine hR.mono ?_
                rintro r W6 (⟨rfl, hJ6, hk6⟩ | ⟨rfl, hx6⟩)
                · gi_wp2
                  obtain ⟨f', NO⟩ := N5.out
                  rw [if_neg (by omega)] at NO
                  exact ⟨⟨pre ++ [_], a, _, _, _, _, rest.drop q, rfl, by rw [hdl], hJ6, .inl ⟨rfl, f', NO.moved hk6⟩⟩, by simp [lenOf, notYet]; omega⟩
                · gi_wp2
                  refine bodyPost_ret (results_none rfl _ _ _) rfl ?_
                  exact ⟨⟨_, rfl⟩, .inr ⟨_, hx6⟩⟩
            · have hd : decide (5 + m ≤ rm) = false := decide_eq_false ht
              rw [hd]
              have hsa : s = (a + 1, size - 1) := by rw [← hs]; unfold spot; rw [if_neg (by rw [hm]; exact ht)]
              subst hsa
              simp only at hs5 hsl'
              have d0 := k1.cell 0
              have d1 := k1.cell 1
              have f0 := k2.frozen 0
              have f1 := k2.frozen 1
              simp only [List.getElem?_toArray, List.getElem?_cons_zero, List.getElem?_cons_succ] at d0 d1
              have hai : (a : Int) ≤ 1000000000 := by omega
              obtain ⟨S2, ST⟩ := space_set k2 (.int .i64 250) (.int .i64 ((size - 1 : Nat) : Int))
              have S1 := k1.touch1 ST (by omega)
              have SB := kw.trans (ST.below1 (B := w0.heap.size) (by omega) kw.size)
              have SJ := HJT.out _ _ _ _ kj (by omega) ⟨_, _, k2⟩ ST
              have K := Lib.hid (And.intro S1 (And.intro S2 (And.intro SB SJ)))
              have c0' := k2.cell 0
              have c1' := k2.cell 1
              simp only [List.getElem?_toArray, List.getElem?_cons_zero, List.getElem?_cons_succ] at c0' c1'
              clear k1 k2 kw kj hb3 hd ht S1 S2 SB SJ ST
              gi_wp2
              refine wpIn_wide.2 ?_
              have hwr : IntKind.i64.wrap ((a : Int) + 1) = (a : Int) + 1 := by rw [IntKind.wrap_i64]; omega
              go_region_with (fail)
              clear hwr
              generalize (((w3.setCell ⟨B1 + 1, 0, none⟩ (.int .i64 250)).setCell ⟨B1 + 1, 1, none⟩ (.int .i64 ((size - 1 : Nat) : Int))).drew) = w4 at *
              have d3 := K.out.2.1.cell 1
              simp only [List.getElem?_toArray, List.getElem?_cons_zero, List.getElem?_cons_succ] at d3
              clear d0 d1 f0 f1 c0' c1'
              by_cases hl : rest.length ≤ (size - 1) - 5
              · have hmi2 := run_min2 #[3, 3] 3 (rest.length : Nat) (((size - 1) : Nat) - 5 : Int) (rest.length : Nat) (by omega)
                obtain ⟨hpt, hnx⟩ := CI1.out.last h1 hs hl
                have TAKE := Lib.hid (take_any (B1 + 1) 250 ((size - 1)) rest.length (by omega) (by omega) (by omega) (by omega) _ K.out.2.1)
                have HP := Lib.hid hpt
                have HN := Lib.hid hnx
                clear hpt hnx
                gi_wp2
                refine ⟨trivial, ?_⟩
                refine (callsIn_wide.2 TAKE.out).mono ?_
                rintro e w5 ⟨⟨v, rfl⟩, hb5⟩
                have q1 := K.out.1.touch1 hb5.2 (by omega)
                have qw := K.out.2.2.1.trans (hb5.2.below1 (B := w0.heap.size) (by omega) K.out.2.2.1.size)
                have qj := HJT.out _ _ _ _ K.out.2.2.2 (by omega) ⟨_, _, K.out.2.1⟩ hb5.2
                obtain ⟨fn, tmps, assign, body, hy, hR⟩ := HY.out pre ⟨A', c', ⟨(a + 1), rest, true⟩⟩ w5 qj HP.out
                unfold encP Pt.v at hy
                dsimp only at hy
                rw [show ((a + 1 : Nat) : Int) = (a : Int) + 1 from rfl] at hy
                have N5 := Lib.hid (HN.out 250 w5 (by omega) (by omega) q1 hb5.1 qw)
                clear q1 qw qj hb5 HN HP TAKE K hs
                by_cases hcl : c' = rest.length
                · subst hcl
                  gi_wp2
                  refine hR.mono ?_
                  rintro r W6 (⟨rfl, hJ6, hk6⟩ | ⟨rfl, hx6⟩)
                  · gi_wp2
                    have NO := N5.out
                    exact ⟨⟨pre ++ [_], (a + 1), _, _, _, _, [], rfl, rfl, hJ6, .inr ⟨rfl, NO.moved hk6⟩⟩, by simp [lenOf, notYet]⟩
                  · gi_wp2
                    refine bodyPost_ret (results_none rfl _ _ _) rfl ?_
                    exact ⟨⟨_, rfl⟩, .inr ⟨_, hx6⟩⟩
                · have hceq : (c' = rest.length) = False := eq_false hcl
                  gi_wp2
                  refine hR.mono ?_
                  rintro r W6 (⟨rfl, hJ6, hk6⟩ | ⟨rfl, hx6⟩)
                  · gi_wp2
                    have NO := N5.out
                    exact ⟨⟨pre ++ [_], (a + 1), _, _, _, _, [], rfl, rfl, hJ6, .inr ⟨rfl, NO.moved hk6⟩⟩, by simp [lenOf, notYet]⟩
                  · gi_wp2
                    refine bodyPost_ret (results_none rfl _ _ _) rfl ?_
                    exact ⟨⟨_, rfl⟩, .inr ⟨_, hx6⟩⟩
              · obtain ⟨q, hq⟩ : ∃ q, (size - 1) - 5 = q := ⟨_, rfl⟩
                have hqi : (((size - 1) : Nat) - 5 : Int) = (q : Int) := by omega
                have hmi2 := run_min2 #[3, 3] 3 (rest.length : Nat) (((size - 1) : Nat) - 5 : Int) (q : Nat) (by omega)
                obtain ⟨hq0, htl, hpt, hnx⟩ := CI1.out.more h1 hs hq (by omega)
                have TAKE := Lib.hid (take_any (B1 + 1) 250 ((size - 1)) q (by omega) (by omega) (by omega) (by omega) _ K.out.2.1)
                have HP := Lib.hid hpt
                have HN := Lib.hid hnx
                have hqle : (q : Int) ≤ (rest.length : Nat) := by omega
                have hqc : (q : Int) ≤ (c' : Nat) := by omega
                have hqne : ((q : Int) == (rest.length : Nat)) = false := by simp; omega
                have hqne2 : (c' = q) = False := eq_false (by omega)
                clear hpt hnx
                gi_wp2
                refine ⟨trivial, ?_⟩
                refine (callsIn_wide.2 TAKE.out).mono ?_
                rintro e w5 ⟨⟨v, rfl⟩, hb5⟩
                have q1 := K.out.1.touch1 hb5.2 (by omega)
                have qw := K.out.2.2.1.trans (hb5.2.below1 (B := w0.heap.size) (by omega) K.out.2.2.1.size)
                have qj := HJT.out _ _ _ _ K.out.2.2.2 (by omega) ⟨_, _, K.out.2.1⟩ hb5.2
                obtain ⟨fn, tmps, assign, body, hy, hR⟩ := HY.out pre ⟨A', c', ⟨(a + 1), rest.take q, false⟩⟩ w5 qj HP.out
                unfold encP Pt.v at hy
                dsimp only at hy
                rw [show ((a + 1 : Nat) : Int) = (a : Int) + 1 from rfl] at hy
                rw [htl] at hy
                have N5 := Lib.hid (HN.out 250 w5 (by omega) (by omega) q1 hb5.1 qw)
                have hdl : (rest.drop q).length = rest.length - q := List.length_drop
                clear q1 qw qj hb5 HN HP TAKE K hs
                gi_wp2
                refine hR.mono ?_
                rintro r W6 (⟨rfl, hJ6, hk6⟩ | ⟨rfl, hx6⟩)
                · gi_wp2
                  obtain ⟨f', NO⟩ := N5.out
                  rw [if_neg (by omega)] at NO
                  exact ⟨⟨pre ++ [_], (a + 1), _, _, _, _, rest.drop q, rfl, by rw [hdl], hJ6, .inl ⟨rfl, f', NO.moved hk6⟩⟩, by simp [lenOf, notYet]; omega⟩
                · gi_wp2
                  refine bodyPost_ret (results_none rfl _ _ _) rfl ?_
                  exact ⟨⟨_, rfl⟩, .inr ⟨_, hx6⟩⟩
          · gi_wp2
            exact ⟨⟨i + 1, pre, a, rm, sl, by omega, rfl, rfl, CO, hj⟩, by simp [intOf]; omega⟩
      · have hge : ¬ (i : Int) < (rs.length : Int) := by omega
        gi_wp2
        go_end0
        refine ⟨⟨_, rfl⟩, .inl ⟨pre, ?_, hj⟩⟩
        have := hcut.left
        rw [List.drop_eq_nil_of_le (by omega)] at this
        rw [this]
        simp [cutA]
  | _ => exact hq.elim
end Go.Proofs.Ytlkkfnimealbkaa
