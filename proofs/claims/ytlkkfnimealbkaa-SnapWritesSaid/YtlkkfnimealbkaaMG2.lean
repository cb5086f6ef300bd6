import Derived.Test.YtlkkfnimealbkaaMG1
import Derived.LoopNIn
import Derived.LoopIn
import Derived.OrdersIn
import Derived.TacticsIn
import Derived.OwnWalkIn
import Derived.Laws.CopyRow
import Derived.Laws.IdiomCopy
import Derived.RangeFuncCalls
/- Pages: the layer page, in a namespace of its own (made by mkpag.py out of PB7, PB8, PBC, PB9, PBA, PBD, PBF, PBH, PBG). -/
namespace Go.Proofs.Ytlkkfnimealbkaa.Pag
open Go.RowKit Go.Shelf Go.Proofs.Ytlkkfnimealbkaa
set_option linter.unusedVariables false
attribute [local go_sem] Oper.semAt_some
/- putNumber, number; the iterator over the pieces with their places. -/
theorem _root_.Go.Proofs.Ytlkkfnimealbkaa.BB.set_ {w : World} {g : Nat} {l : List UInt8} (h : BB w g l) (k : Nat) (x : UInt8) : BB (w.setCell ⟨g, k, none⟩ (.int .u8 (x.toNat : Nat))) g (l.set k x) := by
  have := Whole.set_ h k (.int .u8 (x.toNat : Nat))
  unfold BB
  rw [show (encB (l.set k x)).toArray = (encB l).toArray.setIfInBounds k (.int .u8 (x.toNat : Nat)) by simp [encB, List.map_set]]
  exact this
theorem w2_cells (n : Nat) (hn : n < 65536) : ((UInt8.ofNat (n % 256)).toNat : Int) = (n : Int) % 256 ∧ ((UInt8.ofNat (n / 256)).toNat : Int) = (n : Int) / 256 := by
  rw [UInt8.toNat_ofNat', UInt8.toNat_ofNat']
  omega
set_option maxRecDepth 100000 in
theorem putNumber_any (g o m c n : Nat) (l : List UInt8) (w : World) (hn : n < 65536) (h : BB w g l) (ho : o + 2 ≤ l.length) (hm : 2 ≤ m) :
    Calls Try.prog 53 #[.slice (some ⟨g, o, none⟩) m c, .int .i64 (n : Nat)] w fun e w' => e = .returned (.tuple #[]) ∧ BB w' g (lay l o (w2 n)) ∧ Touch [g] w w' := by
  obtain ⟨z0, c0⟩ : ∃ z, w.cell? ⟨g, o, none⟩ = some (.int .u8 z) := ⟨_, h.cell o (by omega)⟩
  have f0 := h.frozen o
  have h1 := h.set_ o (UInt8.ofNat (n % 256))
  obtain ⟨z1, c1⟩ : ∃ z, (w.setCell ⟨g, o, none⟩ (.int .u8 ((UInt8.ofNat (n % 256)).toNat : Nat))).cell? ⟨g, o + 1, none⟩ = some (.int .u8 z) := ⟨_, h1.cell (o + 1) (by rw [List.length_set]; omega)⟩
  have f1 := h1.frozen (o + 1)
  have h2 := h1.set_ (o + 1) (UInt8.ofNat (n / 256))
  have t2 : Touch [g] w ((w.setCell ⟨g, o, none⟩ (.int .u8 ((UInt8.ofNat (n % 256)).toNat : Nat))).setCell ⟨g, o + 1, none⟩ (.int .u8 ((UInt8.ofNat (n / 256)).toNat : Nat))) := (Touch.one (by simp)).setCell (by simp) _
  rw [set_lay2 _ _ _ _ ho] at h2
  obtain ⟨e0, e1⟩ := w2_cells n hn
  rw [e0] at h1 c1 f1 h2 t2
  rw [e1] at h2 t2
  have H2 := Lib.hid h2
  have T2 := Lib.hid t2
  have hm0 : (0 : Int) < (m : Int) := by omega
  have hm1 : (1 : Int) < (m : Int) := by omega
  have hni : (n : Int) < 65536 := by omega
  clear h h1 h2 t2 e0 e1 ho
  go_enter Try.func53, Try.ntmps53
  go_wp2_with fail
  go_end0
  exact ⟨rfl, H2.out, T2.out⟩
theorem ret_i64 {a b : Int} (h : a = b) : Ending.returned (.int .i64 a) = .returned (.int .i64 b) := by rw [h]
theorem i64_or8 (a b : Nat) (ha : a < 256) (hb : b < 256) : bits .or .i64 (a : Int) ((b : Int) * 256) = ((a + 256 * b : Nat) : Int) := by
  show IntKind.i64.wrap ((BitVec.ofInt 64 (a : Int) ||| BitVec.ofInt 64 ((b : Int) * 256)).toNat : Int) = _
  have h2 := Nat.two_pow_add_eq_or_of_lt (i := 8) (b := a) (by omega) b
  rw [BitVec.toNat_or, BitVec.toNat_ofInt, BitVec.toNat_ofInt]
  rw [show ((a : Int) % ((2 ^ 64 : Nat) : Int)).toNat = a by omega, show ((b : Int) * 256 % ((2 ^ 64 : Nat) : Int)).toNat = 2 ^ 8 * b by omega]
  rw [Nat.or_comm, ← h2]
  simp [IntKind.wrap, IntKind.bits, IntKind.signed]
  omega
/-- the number that stands at the front. -/
def num2 (l : List UInt8) : Nat := (l.getD 0 0).toNat + 256 * (l.getD 1 0).toNat
theorem num2_w2 (n : Nat) (hn : n < 65536) (r : List UInt8) : num2 (w2 n ++ r) = n := by
  simp [num2, w2, UInt8.toNat_ofNat']; omega
set_option maxRecDepth 100000 in
theorem number_q (A : Option Addr) (c : Nat) (l : List UInt8) (w : World) (h : Holds w A l) (hl : 2 ≤ l.length) (hn : l.length ≤ 1000000) :
    Calls Try.prog 62 #[.slice A l.length c] w fun e w' => e = .returned (.int .i64 (num2 l : Nat)) ∧ ∃ k, w' = w.drewN k := by
  obtain ⟨x0, x1, r, rfl⟩ : ∃ x0 x1 r, l = x0 :: x1 :: r := by
    match l, hl with
    | a :: b :: r, _ => exact ⟨a, b, r, rfl⟩
  obtain ⟨b, o, rfl, hb, c0⟩ := h 0 (by simp)
  obtain ⟨_, _, e, _, c1⟩ := h 1 (by simp)
  cases e
  simp only [List.getElem_cons_zero, List.getElem_cons_succ, Nat.add_zero] at c0 c1
  have HE : Hid (num2 (x0 :: x1 :: r) = x0.toNat + 256 * x1.toNat) := Lib.hid rfl
  have l0 : (0 : Int) < ((x0 :: x1 :: r).length : Int) := by omega
  have l1 : (1 : Int) < ((x0 :: x1 :: r).length : Int) := by omega
  have b0 : x0.toNat < 256 := x0.toNat_lt
  have b1 : x1.toNat < 256 := x1.toNat_lt
  generalize num2 (x0 :: x1 :: r) = m at *
  generalize (x0 :: x1 :: r).length = L at *
  clear h hl
  generalize x0.toNat = y0 at *
  generalize x1.toNat = y1 at *
  go_enter Try.func62, Try.ntmps62
  go_wp2_with fail
  go_quiet (fail)
  go_wp2_with fail
  go_ret
  refine ⟨ret_i64 ?_, _, rfl⟩
  rw [i64_or8 y0 y1 b0 b1, HE.out]
/- placed: the iterator over the pieces, each with its place. -/
/-- a piece that is told, and where it begins. -/
structure Rc where
  A : Option Addr
  c : Nat
  b : List UInt8
  n : Nat
abbrev Rc.v (x : Rc) : Value := .slice x.A x.b.length x.c
abbrev encR (x : Rc) : Array Value := #[.int .i64 (x.n : Nat), x.v]
def rcOf (size u : Nat) (x : Bx) : Rc := ⟨x.A, x.c, x.b, if x.b = [] then 0 else size - (u + x.b.length)⟩
def placedA (size : Nat) : Nat → List Bx → List Rc
  | _, [] => []
  | u, x :: r => rcOf size u x :: placedA size (u + x.b.length) r
theorem placedA_append (size : Nat) : ∀ (l r : List Bx) (u : Nat), placedA size u (l ++ r) = placedA size u l ++ placedA size (u + used (bbs l)) r
  | [], r, u => by simp [placedA, bbs, used]
  | x :: l, r, u => by
    simp only [List.cons_append, placedA, placedA_append size l r]
    rw [show u + x.b.length + used (bbs l) = u + used (bbs (x :: l)) by simp [bbs, used]; omega]
theorem placedA_length (size : Nat) : ∀ (l : List Bx) (u : Nat), (placedA size u l).length = l.length
  | [], u => rfl
  | x :: l, u => by simp [placedA, placedA_length size l]
theorem placedA_b (size : Nat) : ∀ (l : List Bx) (u : Nat), (placedA size u l).map (fun x => x.b) = bbs l
  | [], u => rfl
  | x :: l, u => by simp [placedA, placedA_b size l, bbs, rcOf]
theorem placedA_snoc (size : Nat) (xs : List Bx) (i : Nat) (h : i < xs.length) : placedA size 0 (xs.take (i + 1)) = placedA size 0 (xs.take i) ++ [rcOf size (used (bbs (xs.take i))) xs[i]] := by
  rw [List.take_add_one, List.getElem?_eq_getElem h, placedA_append]
  simp [placedA]
/-- the next piece that is told behind those of pre. -/
def PcIn (P : Pg) (pre : List Rc) (x : Rc) (_ : World) : Prop := ∃ (i : Nat) (h : i < P.xs.length), pre = placedA P.size 0 (P.xs.take i) ∧ x = rcOf P.size (used (bbs (P.xs.take i))) P.xs[i]
theorem placed_in (F : Fence) (n : Nat) (h5 : F.fn 52) (hro : F.round = none) (p0 : Option Addr) (w : World) :
    CallsIn F n Try.prog 52 #[.pointer p0] w fun e w' => e = .returned (.func (.func 59) #[] #[.pointer (some ⟨w.heap.size, 0, none⟩)]) ∧ w' = w.alloc (.cells #[.pointer p0] 60) := by
  refine callsIn_of_wp Try.func52 rfl h5 ?_ hro
  simp only [Try.ntmps52, List.size_toArray, List.length_cons, List.length_nil, Nat.reduceAdd, Nat.reduceSub, Array.replicate_succ, Array.replicate_zero, List.push_toArray, List.append_toArray, List.nil_append, List.cons_append]
  gi_wp2
  go_ret
  exact ⟨rfl, rfl⟩
/-- what a round keeps: what lay below n₀, and a box. -/
def KpB (n₀ Bn : Nat) (W W' : World) : Prop := Below n₀ W W' ∧ W'.heap[Bn]? = W.heap[Bn]?
theorem KpB.trans {n₀ Bn : Nat} {A B C : World} (h : KpB n₀ Bn A B) (k : KpB n₀ Bn B C) : KpB n₀ Bn A C := ⟨h.1.trans k.1, k.2.trans h.2⟩
theorem abides_below {β : Type} {B : Nat} {J : β → World → Prop} (h : AbidesFrom B J) (s : β) (W W' : World) (hs : J s W) (hb : Below W.heap.size W W') : J s W' :=
  h s W W' none hs ⟨hb.os, hb.tape, hb.output, hb.size, fun k hk _ => hb.block k hk⟩ (fun r e => by cases e)
set_option maxRecDepth 100000 in
set_option maxHeartbeats 2000000 in
theorem placed1_in (n : Nat) (hn : 1 ≤ n) (l Bn : Nat) (w0 : World) (P : Pg) (h : PgAt w0 P)
    (J : List Rc → World → Prop) (hJ : ∀ s W W', J s W → Below W.heap.size W W' → J s W')
    (hY : ∀ pre x W, J pre W → PcIn P pre x W → pre.length < P.xs.length → YieldAt Fence.wide (n - 1) Try.prog l (encR x) W fun r W' => r = .returned (.bool true) ∧ J (pre ++ [x]) W' ∧ KpB w0.heap.size Bn W W')
    (W : World) (hW : Below w0.heap.size w0 W) (hb0 : Whole W Bn 60 #[P.ptr]) (h0 : J [] W) :
    CallsIn Fence.wide n Try.prog 59 #[.func (.yield l) #[] #[], .pointer (some ⟨Bn, 0, none⟩)] W fun r W' => (∃ v, r = .returned v) ∧ ∃ ys : List Rc, ys = placedA P.size 0 P.xs ∧ J ys W' := by
  have hp := h.lt
  have a0 : W.cell? ⟨P.p, 0, none⟩ = some (.int .i64 (P.size : Nat)) := (hW.cell (p := ⟨P.p, 0, none⟩) hp).trans h.c0
  have a1 : W.cell? ⟨P.p, 1, none⟩ = some (.slice P.A P.xs.length P.c) := (hW.cell (p := ⟨P.p, 1, none⟩) hp).trans h.c1
  have d0 := hb0.cell 0
  simp only [List.getElem?_toArray, List.getElem?_cons_zero] at d0
  have hfew := h.few
  have hfit := h.fit
  have hsz := h.sz2
  have hszi : (P.size : Int) ≤ 1024 := by omega
  have hfewi : (P.xs.length : Int) ≤ 250 := by omega
  have HALL : Hid (∀ i (hi : i < P.xs.length), ∃ g, P.A = some ⟨g, 0, none⟩ ∧ g < w0.heap.size ∧ w0.cell? ⟨g, i, none⟩ = some (P.xs[i]).v) := Lib.hid fun i hi => by
    obtain ⟨g, h1, -, h3, h2, -, -⟩ := h.slot i hi
    exact ⟨g, h1, h3, h2⟩
  clear h
  generalize hAA : P.A = AA at *
  clear hAA
  refine callsIn_of_wp Try.func59 rfl trivial ?_ rfl
  simp only [Try.ntmps59, List.size_toArray, List.length_cons, List.length_nil, Nat.reduceAdd, Nat.reduceSub, Array.replicate_succ, Array.replicate_zero, List.push_toArray, List.append_toArray, List.nil_append, List.cons_append]
  gi_wp2
  gi_loopw [3, 16] (fun s3 s16 wr => ∃ (i : Nat) (pre : List Rc), i ≤ P.xs.length ∧ s16 = .int .i64 (i : Nat) ∧ s3 = .int .i64 ((P.size : Int) - (used (bbs (P.xs.take i)) : Nat)) ∧ Below w0.heap.size w0 wr ∧ Whole wr Bn 60 #[P.ptr] ∧ J pre wr ∧ pre = placedA P.size 0 (P.xs.take i))
    (fun s3 s16 _ => (P.xs.length - intOf s16).toNat)
  case atStart => exact ⟨0, [], by omega, rfl, by simp [used, bbs], hW, hb0, h0, by simp [placedA]⟩
  case round =>
    obtain ⟨i, pre, hi, rfl, rfl, hB, hx0, hj, hpre⟩ := hrel
    by_cases hlt : i < P.xs.length
    · have hlti : (i : Int) < (P.xs.length : Int) := by omega
      obtain ⟨g, rfl, hg, hc⟩ := HALL.out i hlt
      have hcw := (hB.cell (p := ⟨g, i, none⟩) hg).trans hc
      have hLlen : P.L.length = P.xs.length := bbs_len _
      have htk : bbs (P.xs.take i) = P.L.take i := by simp [Pg.L, bbs, List.map_take]
      have hu2 := used_at P.L i (by omega)
      have hus := used_take_succ P.L i (by omega)
      have hLi : P.L[i] = P.xs[i].b := bbs_at _ _ _
      have htk1 : bbs (P.xs.take (i + 1)) = P.L.take (i + 1) := by simp [Pg.L, bbs, List.map_take]
      rw [hLi] at hu2 hus
      have HU : Hid (used (bbs (P.xs.take (i + 1))) = used (bbs (P.xs.take i)) + P.xs[i].b.length) := Lib.hid (by rw [htk, htk1]; exact hus)
      rw [← htk] at hu2
      have HSN := Lib.hid (placedA_snoc P.size P.xs i hlt)
      have HY := hY pre (rcOf P.size (used (bbs (P.xs.take i))) P.xs[i]) wr hj ⟨i, hlt, hpre, rfl⟩ (by rw [hpre, placedA_length, List.length_take]; omega)
      have HPRE := Lib.hid hpre
      unfold Bx.v at hcw
      clear hc hus hLi hpre hLlen htk htk1 HALL hY
      obtain ⟨fn, tmps, assign, body, hy, hR⟩ := HY
      have HHJ := Lib.hid hJ
      have HX := Lib.hid hx0
      have HB := Lib.hid hB
      clear hJ hx0 hB hj hW hb0 h0 a0 a1 d0
      by_cases hb : P.xs[i].b = []
      · have hb0 : P.xs[i].b.length = 0 := by rw [hb]; rfl
        have hat : (rcOf P.size (used (bbs (P.xs.take i))) P.xs[i]).n = 0 := if_pos hb
        have hlen0 : ((P.xs[i].b.length : Nat) : Int) = 0 := by omega
        have hrv : (rcOf P.size (used (bbs (P.xs.take i))) P.xs[i]).v = .slice P.xs[i].A P.xs[i].b.length P.xs[i].c := rfl
        unfold encR at hy
        rw [hat, hrv, show ((0 : Nat) : Int) = 0 from rfl] at hy
        rw [hb0] at HU hy hcw
        generalize rcOf P.size (used (bbs (P.xs.take i))) P.xs[i] = rx at *
        generalize P.xs[i] = x at *
        generalize used (bbs (P.xs.take i)) = u at *
        have hui : (u : Int) ≤ 1024 := by omega
        clear hb hb0 hat hlen0 hrv
        gi_wp2
        refine hR.mono ?_
        rintro r W3 ⟨rfl, hJ3, hk3⟩
        have HJ3 := Lib.hid hJ3
        have HB3 := Lib.hid (HB.out.trans hk3.1)
        have HX3 := Lib.hid (show Whole W3 Bn 60 #[P.ptr] from hk3.2.trans HX.out)
        clear hJ3 hk3 HX HB hR hy
        gi_wp2
        refine ⟨⟨i + 1, pre ++ [rx], by omega, rfl, by rw [HU.out]; rfl, HB3.out, HX3.out, HJ3.out, by rw [HPRE.out]; exact HSN.out.symm⟩, by simp [intOf]; omega⟩
      · have hpos : 0 < P.xs[i].b.length := List.length_pos_iff.2 hb
        have hat : (rcOf P.size (used (bbs (P.xs.take i))) P.xs[i]).n = P.size - (used (bbs (P.xs.take i)) + P.xs[i].b.length) := if_neg hb
        have hrv : (rcOf P.size (used (bbs (P.xs.take i))) P.xs[i]).v = .slice P.xs[i].A P.xs[i].b.length P.xs[i].c := rfl
        have hcast : ((P.size - (used (bbs (P.xs.take i)) + P.xs[i].b.length) : Nat) : Int) = (P.size : Int) - (used (bbs (P.xs.take i)) : Nat) - (P.xs[i].b.length : Nat) := by omega
        unfold encR at hy
        rw [hat, hrv, hcast] at hy
        clear hat hrv hcast hb
        generalize rcOf P.size (used (bbs (P.xs.take i))) P.xs[i] = rx at *
        generalize P.xs[i] = x at *
        generalize used (bbs (P.xs.take i)) = u at *
        generalize x.b.length = m at *
        have hui : (u : Int) ≤ 1024 := by omega
        have hmi : (m : Int) ≤ 1024 := by omega
        have hm0 : ¬ (m : Int) = 0 := by omega
        have hmb : ((m : Int) == 0) = false := by simp; omega
        gi_wp2
        refine hR.mono ?_
        rintro r W3 ⟨rfl, hJ3, hk3⟩
        have HJ3 := Lib.hid hJ3
        have HB3 := Lib.hid (HB.out.trans hk3.1)
        have HX3 := Lib.hid (show Whole W3 Bn 60 #[P.ptr] from hk3.2.trans HX.out)
        clear hJ3 hk3 HX HB hR hy
        gi_wp2
        refine ⟨⟨i + 1, pre ++ [rx], by omega, rfl, by rw [HU.out, Int.natCast_add]; congr 1; omega, HB3.out, HX3.out, HJ3.out, by rw [HPRE.out]; exact HSN.out.symm⟩, by simp [intOf]; omega⟩
    · have hge : ¬ (i : Int) < (P.xs.length : Int) := by omega
      have hfin : Hid (pre = placedA P.size 0 P.xs) := Lib.hid (by rw [hpre, List.take_of_length_le (by omega)])
      have HJ1 := Lib.hid hj
      clear hpre hj hY hJ HALL
      gi_wp2
      go_end0
      have := HJ1.out
      rw [hfin.out] at this
      exact ⟨⟨_, rfl⟩, this⟩
theorem placed_seq (n : Nat) (hn : 1 ≤ n) (Bn : Nat) (w0 W0 : World) (P : Pg) (h : PgAt w0 P) (hB : Below w0.heap.size w0 W0) (hb0 : Whole W0 Bn 60 #[P.ptr]) :
    SeqF Fence.wide n Try.prog 59 #[.pointer (some ⟨Bn, 0, none⟩)] encR (PcIn P) (KpB w0.heap.size Bn) (fun ys => ys = placedA P.size 0 P.xs) P.xs.length W0 := fun l J W hW hJ hY h0 =>
  placed1_in n hn l Bn w0 P h J (fun s W W' hs hb => abides_below hJ s W W' hs hb) hY W (hB.trans (hW.mono hB.size)) (hb0.below hW hb0.lt) h0
/- copy of bytes, as a step of a walk inside a fence. -/
theorem run_copy_bytes {w : World} (ty : TypeId) (dp A : Option Addr) (dLen dCap c g off : Nat) (l b : List UInt8) (hb : BB w g l) (hA : Holds w A b) (hd : b ≠ [] → dp = some ⟨g, off, none⟩) (hle : b.length ≤ dLen) (hfit : off + b.length ≤ l.length) :
    ∃ w', (Builtin.copy_ #[35, 35] ty #[.slice dp dLen dCap, .slice A b.length c]).run Try.prog w = .ok (goInt b.length) w' ∧ BB w' g (lay l off b) ∧ Touch [g] w w' := by
  by_cases h0 : b = []
  · subst h0
    have hrun := run_copy_none (P := Try.prog) w 35 35 ty 5 dp A dLen dCap 0 c Try.underlying35 sizeB (by simp)
    exact ⟨w, hrun, by rw [lay_nil]; exact hb, Touch.refl _ _⟩
  · rw [hd h0]
    obtain ⟨b0, o0, rfl, -, -⟩ := hA 0 (List.length_pos_iff.2 h0)
    have hrun := run_copy_row (P := Try.prog) w 35 35 ty 5 g off dLen dCap ⟨b0, o0, none⟩ b.length c (encB l).toArray 5 (encB b) Try.underlying35 sizeB hb (by rw [encB_length]; exact (Nat.min_eq_left hle).symm) (holds_cells hA) (by simp [encB]; exact hfit) (encB_one b)
    rw [encB_length] at hrun
    refine ⟨_, hrun, ?_, ⟨rfl, rfl, rfl, by simp [World.setRow], fun k hk hn => setRow_other w g k _ (by simpa using hn)⟩⟩
    have h1 := setRow_heap w g (encB l).toArray ((encB l).toArray.toList.take off ++ encB b ++ (encB l).toArray.toList.drop (off + b.length)).toArray 5 (0, 0) hb
    unfold BB Whole
    rw [show encB (lay l off b) = (encB l).toArray.toList.take off ++ encB b ++ (encB l).toArray.toList.drop (off + b.length) by simp [encB, lay, List.map_take, List.map_drop]]
    exact h1
theorem wpListIn_copy_bytes {F : Fence} {n : Nat} {w : World} {ops : Array Oper} {rest : List Oper} {o : Oper} {a : Act} {Q : Exit → Act → World → Prop} (hgd : o.guard = none) (d s : Operand)
    (ho : o.op = .call { callee := .builtin .copy, args := #[d, s], argTypes := #[35, 35] }) (dp A : Option Addr) (dLen dCap c g off : Nat) (l b : List UInt8) (hed : a.eval d = .slice dp dLen dCap) (hes : a.eval s = .slice A b.length c)
    (hb : BB w g l) (hA : Holds w A b) (hd : b ≠ [] → dp = some ⟨g, off, none⟩) (hle : b.length ≤ dLen) (hfit : off + b.length ≤ l.length)
    (h : ∀ w', Hid (BB w' g (lay l off b)) → Hid (Touch [g] w w') → wpListIn F n Try.prog ops Q rest (a.put o.dst (goInt b.length)) w') : wpListIn F n Try.prog ops Q (o :: rest) a w := by
  refine wpListIn_plain hgd fun K hK' => ?_
  obtain ⟨w', hrun, r1, r2⟩ := run_copy_bytes o.type dp A dLen dCap c g off l b hb hA hd hle hfit
  unfold Oper.wpIn
  refine ⟨?_, ?_⟩
  · simp [Oper.about, ho, resolve, Target.leads, Sem.run_pure]
  · rw [Oper.semAt_plain F _ _ (by rw [ho]; intro c hc'; cases hc')]
    simp [execOp, ho, resolve, invoke, builtin, hed, hes, hrun, Result.andThen]
    exact hK' _ _ (h w' (Lib.hid r1) (Lib.hid r2))
/- written: the bytes of a page. -/
/-- what the rounds keep. -/
structure WrI (w : World) (P : Pg) (pre : List Rc) (W : World) : Prop where
  bytes : BB W w.heap.size (stB P.size P.xs.length (pre.map fun x => x.b))
  box : Whole W (w.heap.size + 1) 35 #[.slice (some ⟨w.heap.size, 0, none⟩) P.size P.size]
  slot : ∃ o, Whole W (w.heap.size + 2) 35 #[.slice (some ⟨w.heap.size, o, none⟩) (P.size - 1 - 4 * pre.length) (P.size - 1 - 4 * pre.length)] ∧ (pre.length < P.xs.length → o = 1 + 4 * pre.length)
  below : Below w.heap.size w W
  size : w.heap.size + 4 ≤ W.heap.size
theorem wrI_own (w : World) (P : Pg) (B : Nat) (hB : w.heap.size ≤ B) : OwnFrom B (WrI w P) := by
  rintro pre W W' row ⟨h1, h2, ⟨o, h3, h4⟩, h5, h6⟩ hg hr
  have hne : ∀ b cs ty, W.heap[b]? = some (.cells cs ty (0, 0)) → some b ≠ row := fun b cs ty hb e => by
    obtain ⟨_, o, ho, h⟩ := hr b e.symm
    rw [hb] at ho
    cases ho
    simp [Obj.isCells] at h
  exact ⟨(hg.block _ (Whole.lt h1) (hne _ _ _ h1)).trans h1, (hg.block _ h2.lt (hne _ _ _ h2)).trans h2, ⟨o, (hg.block _ h3.lt (hne _ _ _ h3)).trans h3, h4⟩, h5.grown hg h5.size (fun k e => Nat.le_trans hB (hr k e).1), Nat.le_trans h6 hg.size⟩
theorem kpB_b {n₀ Bn : Nat} {w : World} (hn : n₀ ≤ w.heap.size) (hBn : Bn < w.heap.size) (W : World) (l : Nat) (o o' : Obj) (hl : w.heap.size ≤ l) (_ : W.heap[l]? = some o) (_ : o.isCells = false) : KpB n₀ Bn W (W.putObj l o') :=
  ⟨⟨rfl, rfl, rfl, by simp [World.putObj], fun k hk => World.putObj_heap_other (by omega)⟩, World.putObj_heap_other (by omega)⟩
theorem _root_.Go.Proofs.Ytlkkfnimealbkaa.Whole.touch {w w' : World} {k g : Nat} {t : TypeId} {cs : Array Value} (h : Whole w k t cs) (ht : Touch [g] w w') (hk : k ≠ g) : Whole w' k t cs := (ht.block k h.lt (by simp [hk])).trans h
theorem _root_.Go.Proofs.Ytlkkfnimealbkaa.Touch.belowAt {w w' : World} {g B : Nat} (ht : Touch [g] w w') (hB : B ≤ g) (hw : B ≤ w.heap.size) : Below B w w' :=
  ⟨ht.os, ht.tape, ht.output, ht.size, fun k hk => ht.block k (by omega) (by simp; omega)⟩
theorem _root_.Go.Proofs.Ytlkkfnimealbkaa.Touch.keeps {w w' : World} {g B : Nat} (ht : Touch [g] w w') (hg : g < B) : KeepsFrom B w w' :=
  ⟨ht.size, fun k o hk ho _ => (ht.block k (Array.getElem?_eq_some_iff.1 ho).1 (by simp; omega)).trans ho⟩
theorem wr_finish {w W V : World} {P : Pg} {pre : List Rc} {x : Rc} {m o : Nat} {y : Value} (h6 : w.heap.size + 4 ≤ W.heap.size) (h2 : Whole W (w.heap.size + 1) 35 #[.slice (some ⟨w.heap.size, 0, none⟩) P.size P.size]) (h3 : Whole W (w.heap.size + 2) 35 #[y]) (h5 : Below w.heap.size w W)
    (hB : BB V w.heap.size (stB P.size P.xs.length ((pre ++ [x]).map fun x => x.b))) (hT : Touch [w.heap.size] W V) (hm : P.size - 1 - 4 * (pre ++ [x]).length = m) (ho : (pre ++ [x]).length < P.xs.length → o = 1 + 4 * (pre ++ [x]).length) :
    KeepsFrom (w.heap.size + 4) W (V.setCell ⟨w.heap.size + 2, 0, none⟩ (.slice (some ⟨w.heap.size, o, none⟩) m m)) ∧ KpB w.heap.size (w.heap.size + 3) W (V.setCell ⟨w.heap.size + 2, 0, none⟩ (.slice (some ⟨w.heap.size, o, none⟩) m m)) ∧ WrI w P (pre ++ [x]) (V.setCell ⟨w.heap.size + 2, 0, none⟩ (.slice (some ⟨w.heap.size, o, none⟩) m m)) := by
  have hb : Below w.heap.size W (V.setCell ⟨w.heap.size + 2, 0, none⟩ (.slice (some ⟨w.heap.size, o, none⟩) m m)) := (hT.belowAt (Nat.le_refl _) h5.size).setCell (by simp) _
  have hs : V.heap.size = (V.setCell ⟨w.heap.size + 2, 0, none⟩ (.slice (some ⟨w.heap.size, o, none⟩) m m)).heap.size := by simp
  have h3V := h3.touch hT (by omega)
  refine ⟨⟨hb.size, fun k ob hk ho _ => ?_⟩, ⟨hb, ?_⟩, ?_, ?_, ⟨o, ?_, ho⟩, h5.trans hb, Nat.le_trans h6 hb.size⟩
  · rw [heap_set_other _ _ _ _ _ (by omega)]
    exact (hT.block k (Array.getElem?_eq_some_iff.1 ho).1 (by simp; omega)).trans ho
  · rw [heap_set_other _ _ _ _ _ (by omega)]
    exact hT.block _ (by omega) (by simp)
  · exact Whole.far hB (by simp) _
  · exact (h2.touch hT (by omega)).far (by simp) _
  · rw [hm]
    exact h3V.set_ 0 _
theorem rcOf_n (size u : Nat) (x : Bx) (h : 0 < size) (hf : u + x.b.length < size) : (rcOf size u x).n = (if x.b = [] then 0 else size - (u + x.b.length)) ∧ (rcOf size u x).n < size ∧ (rcOf size u x).n + x.b.length ≤ size := by
  refine ⟨rfl, ?_, ?_⟩
  · show (if x.b = [] then 0 else size - (u + x.b.length)) < size
    split
    · exact h
    · rename_i hb
      have := List.length_pos_iff.2 hb
      omega
  · show (if x.b = [] then 0 else size - (u + x.b.length)) + x.b.length ≤ size
    split
    · rename_i hb
      rw [hb]; simp
    · omega
set_option maxRecDepth 100000 in
set_option maxHeartbeats 2000000 in
theorem written_in {w : World} {P : Pg} (h : PgAt w P) :
    CallsIn Fence.wide 5 Try.prog 43 #[P.ptr] w fun e w' => ∃ g, e = .returned (.slice (some ⟨g, 0, none⟩) P.size P.size) ∧ w.heap.size ≤ g ∧ BB w' g (pageB P.size P.L) ∧ Below w.heap.size w w' := by
  have c0 := h.c0
  have c1 := h.c1
  unfold Pg.v at c1
  have hp := h.lt
  have MK := fun W => make_bytes P.size P.size rfl (by have := h.sz2; omega) W
  have H := Lib.hid h
  refine callsIn_of_wp_marks Try.func43 rfl trivial ?_ rfl
  simp only [Try.ntmps43, List.size_toArray, List.length_cons, List.length_nil, Nat.reduceAdd, Nat.reduceSub, Array.replicate_succ, Array.replicate_zero, List.push_toArray, List.append_toArray, List.nil_append, List.cons_append]
  gi_wp2
  have n0 : BB _ w.heap.size (zeros P.size) := (Whole.new w 5 (encB (zeros P.size)).toArray).alloc (.cells #[.slice (some ⟨w.heap.size, 0, none⟩) P.size P.size] 35)
  have n1 := Whole.new (w.alloc (.cells (encB (zeros P.size)).toArray 5)) 35 #[.slice (some ⟨w.heap.size, 0, none⟩) P.size P.size]
  have nb : Below w.heap.size w ((w.alloc (.cells (encB (zeros P.size)).toArray 5)).alloc (.cells #[.slice (some ⟨w.heap.size, 0, none⟩) P.size P.size] 35)) := ((Below.refl _ w).alloc (Nat.le_refl _) _).alloc (by simp) _
  simp only [World.size_alloc] at n1
  have ns : ((w.alloc (.cells (encB (zeros P.size)).toArray 5)).alloc (.cells #[.slice (some ⟨w.heap.size, 0, none⟩) P.size P.size] 35)).heap.size = w.heap.size + 2 := by simp
  generalize (w.alloc (.cells (encB (zeros P.size)).toArray 5)).alloc (.cells #[.slice (some ⟨w.heap.size, 0, none⟩) P.size P.size] 35) = W1 at *
  have hsz1 := h.sz1
  have hsz2 := h.sz2
  have hfew := h.few
  have e1 : W1.cell? ⟨P.p, 1, none⟩ = some (.slice P.A P.xs.length P.c) := (nb.cell (p := ⟨P.p, 1, none⟩) hp).trans c1
  have x0 := n1.cell 0
  simp only [List.getElem?_toArray, List.getElem?_cons_zero] at x0
  obtain ⟨z0, y0⟩ : ∃ z, W1.cell? ⟨w.heap.size, 0, none⟩ = some (.int .u8 z) := ⟨_, n0.cell 0 (by rw [zeros_len]; omega)⟩
  have yf := n0.frozen 0
  have hsi : (0 : Int) < (P.size : Int) := by omega
  have hni : (P.xs.length : Int) ≤ 250 := by omega
  have S0 : BB (W1.setCell ⟨w.heap.size, 0, none⟩ (.int .u8 (P.xs.length : Nat))) w.heap.size (stB P.size P.xs.length []) := by
    have := n0.set_ 0 (UInt8.ofNat P.xs.length)
    rw [stB_nil _ _ (by omega), show ((UInt8.ofNat P.xs.length).toNat : Int) = (P.xs.length : Int) by rw [UInt8.toNat_ofNat']; omega] at this
    exact this
  have S1 : Whole (W1.setCell ⟨w.heap.size, 0, none⟩ (.int .u8 (P.xs.length : Nat))) (w.heap.size + 1) 35 #[.slice (some ⟨w.heap.size, 0, none⟩) P.size P.size] := n1.far (by simp) _
  have S2 : Below w.heap.size w (W1.setCell ⟨w.heap.size, 0, none⟩ (.int .u8 (P.xs.length : Nat))) := nb.setCell (Nat.le_refl _) _
  have S3 : (W1.setCell ⟨w.heap.size, 0, none⟩ (.int .u8 (P.xs.length : Nat))).heap.size = w.heap.size + 2 := by simpa using ns
  have HS := Lib.hid (And.intro S0 (And.intro S1 (And.intro S2 S3)))
  have x2 := S1.cell 0
  simp only [List.getElem?_toArray, List.getElem?_cons_zero] at x2
  clear S0 S1 S2 S3 n0 n1 ns nb c0 c1 MK h
  refine wpIn_wide.2 ?_
  refine Code.wp_mono (Q := fun ex a1 w1 => match ex with | .normal => a1 = { tmps := #[P.ptr, undef, .slice none 0 0, .pointer (some ⟨w.heap.size + 1, 0, none⟩), undef, undef, undef, P.ptr, .pointer (some ⟨P.p, 0, none⟩), .pointer (some ⟨P.p, 0, none⟩), .int .i64 (P.size : Nat), .slice (some ⟨w.heap.size, 0, none⟩) P.size P.size, .slice (some ⟨w.heap.size, 0, none⟩) P.size P.size, P.ptr, .pointer (some ⟨P.p, 0, none⟩), .pointer (some ⟨P.p, 1, none⟩), .slice P.A P.xs.length P.c, .int .i64 (P.xs.length : Nat), .int .u8 (P.xs.length : Nat), .pointer (some ⟨w.heap.size, 0, none⟩), undef, undef, undef, undef, undef, undef, undef, undef, undef, undef, undef, undef, undef, undef, undef, undef, undef, undef, undef, undef, undef, undef], defers := [] } ∧ w1 = (W1.setCell ⟨w.heap.size, 0, none⟩ (.int .u8 (P.xs.length : Nat))).drew | _ => False) ?_ ?_
  case refine_2 =>
    go_region_with (fail)
    all_goals exact ⟨rfl, rfl⟩
  intro ex a1 w1 hq
  cases ex with
  | normal =>
    obtain ⟨rfl, rfl⟩ := hq
    dsimp only
    clear e1 x0 y0 yf
    have HS2 : Hid (BB (W1.setCell ⟨w.heap.size, 0, none⟩ (.int .u8 (P.xs.length : Nat))).drew w.heap.size (stB P.size P.xs.length []) ∧ Whole (W1.setCell ⟨w.heap.size, 0, none⟩ (.int .u8 (P.xs.length : Nat))).drew (w.heap.size + 1) 35 #[.slice (some ⟨w.heap.size, 0, none⟩) P.size P.size] ∧ Below w.heap.size w (W1.setCell ⟨w.heap.size, 0, none⟩ (.int .u8 (P.xs.length : Nat))).drew ∧ (W1.setCell ⟨w.heap.size, 0, none⟩ (.int .u8 (P.xs.length : Nat))).drew.heap.size = w.heap.size + 2) := Lib.hid ⟨HS.out.1.drew, HS.out.2.1.drew, HS.out.2.2.1.drew, HS.out.2.2.2⟩
    clear HS
    have x3 : (W1.setCell ⟨w.heap.size, 0, none⟩ (.int .u8 (P.xs.length : Nat))).drew.cell? ⟨w.heap.size + 1, 0, none⟩ = _ := x2
    generalize (W1.setCell ⟨w.heap.size, 0, none⟩ (.int .u8 (P.xs.length : Nat))).drew = W2 at *
    clear x2
    have W2s : W2.heap.size = w.heap.size + 2 := HS2.out.2.2.2
    gi_wp2_with ((try refine ⟨trivial, ?_⟩); gi_at_call 52; refine (placed_in Fence.wide _ trivial rfl _ _).mono ?_; rintro e w' ⟨rfl, rfl⟩)
    obtain ⟨W0, hW0⟩ : ∃ W0, W0 = (W2.alloc (.cells #[.slice (some ⟨w.heap.size, 1, none⟩) (P.size - 1) (P.size - 1)] 35)).alloc (.cells #[P.ptr] 60) := ⟨_, rfl⟩
    rw [← hW0]
    have b0 : Below w.heap.size w W0 := by rw [hW0]; exact (HS2.out.2.2.1.alloc (by omega) _).alloc (by simp; omega) _
    have k1 : Whole W0 (w.heap.size + 2) 35 #[.slice (some ⟨w.heap.size, 1, none⟩) (P.size - 1) (P.size - 1)] := by
      rw [hW0]
      refine Whole.alloc ?_ _
      have := Whole.new W2 35 #[.slice (some ⟨w.heap.size, 1, none⟩) (P.size - 1) (P.size - 1)]
      rwa [W2s] at this
    have k2 : Whole W0 (w.heap.size + 3) 60 #[P.ptr] := by
      rw [hW0]
      have := Whole.new (W2.alloc (.cells #[.slice (some ⟨w.heap.size, 1, none⟩) (P.size - 1) (P.size - 1)] 35)) 60 #[P.ptr]
      rwa [World.size_alloc, W2s] at this
    have k3 : BB W0 w.heap.size (stB P.size P.xs.length []) := by rw [hW0]; exact (HS2.out.1.alloc _).alloc _
    have k4 : Whole W0 (w.heap.size + 1) 35 #[.slice (some ⟨w.heap.size, 0, none⟩) P.size P.size] := by rw [hW0]; exact (HS2.out.2.1.alloc _).alloc _
    have k5 : W0.heap.size = w.heap.size + 4 := by rw [hW0]; simp; omega
    have hfit := H.out.fit
    clear hW0 HS2 x3 W2s
    refine wpIn_rangeFunc_F rfl (by omega) (gf := 59) rfl trivial (enters_of Try.func59 (by kernel_rfl) rfl)
      (placed_seq 4 (by omega) (w.heap.size + 3) w W0 P H.out b0 k2) (fun pre x W l o o' h _ _ => h) KpB.trans (kpB_b (by omega) (by omega)) (Below.refl _ _) (fun _ => rfl)
      (WrI w P) (wrI_own w P _ (by omega)) ⟨k3, k4, ⟨1, k1, fun _ => rfl⟩, b0, by omega⟩
      (fun x => { tmps := #[P.ptr, undef, .slice none 0 0, .pointer (some ⟨w.heap.size + 1, 0, none⟩), .pointer (some ⟨w.heap.size + 2, 0, none⟩), .int .i64 (x.n : Nat), x.v, P.ptr, .pointer (some ⟨P.p, 0, none⟩), .pointer (some ⟨P.p, 0, none⟩), .int .i64 (P.size : Nat), .slice (some ⟨w.heap.size, 0, none⟩) P.size P.size, .slice (some ⟨w.heap.size, 0, none⟩) P.size P.size, P.ptr, .pointer (some ⟨P.p, 0, none⟩), .pointer (some ⟨P.p, 1, none⟩), .slice P.A P.xs.length P.c, .int .i64 (P.xs.length : Nat), .int .u8 (P.xs.length : Nat), .pointer (some ⟨w.heap.size, 0, none⟩), .slice (some ⟨w.heap.size, 0, none⟩) P.size P.size, .slice (some ⟨w.heap.size, 1, none⟩) (P.size - 1) (P.size - 1), P.ptr, .func (.func 59) #[] #[.pointer (some ⟨w.heap.size + 2 + 1, 0, none⟩)], .int .i64 (x.n : Nat), x.v, undef, undef, undef, undef, undef, undef, undef, undef, undef, undef, undef, undef, undef, undef, undef, undef], defers := [] }) ?assign ?body ?done
    case assign =>
      intro l x W K hK
      gi_wp2
      exact hK
    case body =>
      rintro l pre x W ⟨h1, h2, ⟨o, h3, h4⟩, h5, h6⟩ ⟨i, hi, hpre, hx⟩ hlen
      have hki : pre.length = i := by rw [hpre, placedA_length, List.length_take]; omega
      have hmap : (pre.map fun x => x.b) = P.L.take i := by rw [hpre, placedA_b]; simp [Pg.L, bbs, List.map_take]
      have hLl : P.L.length = P.xs.length := bbs_len _
      have htk : bbs (P.xs.take i) = P.L.take i := by simp [Pg.L, bbs, List.map_take]
      have hLi : P.L[i]'(by omega) = P.xs[i].b := bbs_at _ _ _
      have hu := used_at P.L i (by omega)
      rw [hLi] at hu
      have ho := h4 hlen
      rw [hki] at h3 ho
      subst ho
      rw [htk] at hx
      obtain ⟨hn1, hn2, hn3⟩ := rcOf_n P.size (used (P.L.take i)) P.xs[i] (by omega) (by omega)
      rw [← hx] at hn1 hn2 hn3
      have hxb : x.b = P.xs[i].b := by rw [hx]; rfl
      rw [← hxb] at hn1 hn3 hu
      have hxA : Holds W x.A x.b := by
        have : x.A = P.xs[i].A := by rw [hx]; rfl
        rw [hxb, this]
        obtain ⟨B, d, hB, hh, -, -⟩ := (H.out.held _ (List.getElem_mem hi)).shape
        simp only [Bx.v, Value.slice.injEq] at hB
        obtain ⟨rfl, -, -⟩ := hB
        exact hh.below h5
      have hxlt : x.b ≠ [] → ∀ a, x.A = some a → a.block < w.heap.size := fun hne a ha => by
        have : x.A = P.xs[i].A := by rw [hx]; rfl
        obtain ⟨B, d, hB, hh, -, -⟩ := (H.out.held _ (List.getElem_mem hi)).shape
        simp only [Bx.v, Value.slice.injEq] at hB
        obtain ⟨rfl, -, -⟩ := hB
        rw [← this, ← hxb] at hh
        obtain ⟨b', o', e', hlt, -⟩ := hh 0 (List.length_pos_iff.2 hne)
        rw [ha] at e'
        cases e'
        exact hlt
      have hstep := stB_step P.size P.xs.length (P.L.take i) x.b (by rw [List.length_take]; omega) x.n hn1
      have hlS : (stB P.size P.xs.length (P.L.take i)).length = P.size := stB_length _ _ _ (by rw [List.length_take]; omega)
      rw [hmap] at h1
      have hti : (P.L.take i).length = i := by rw [List.length_take]; omega
      rw [hti] at hstep
      have hnext : (pre ++ [x]).map (fun x => x.b) = P.L.take i ++ [x.b] := by rw [List.map_append, hmap]; rfl
      obtain ⟨m, hm⟩ : ∃ m, P.size - 1 - 4 * i = m := ⟨_, rfl⟩
      rw [hm] at h3
      have hm4 : 4 ≤ m := by omega
      have hm2 : (2 : Int) ≤ (m : Int) := by omega
      have hm4i : (4 : Int) ≤ (m : Int) := by omega
      have hm2e : (m = 2) = False := by simp; omega
      have hnsz : (x.n : Int) ≤ (P.size : Int) := by omega
      have hnse : (P.size = x.n) = False := by simp; omega
      have l1 : (lay (stB P.size P.xs.length (P.L.take i)) (1 + 4 * i) (w2 x.n)).length = P.size := by rw [lay_length _ _ _ (by rw [w2_length]; omega)]; exact hlS
      have l2 : (lay (lay (stB P.size P.xs.length (P.L.take i)) (1 + 4 * i) (w2 x.n)) (1 + 4 * i + 2) (w2 x.b.length)).length = P.size := by rw [lay_length _ _ _ (by rw [w2_length]; omega)]; exact l1
      have PUT1 := Lib.hid (putNumber_any w.heap.size (1 + 4 * i) m m x.n _ W (by omega) h1 (by omega) (by omega))
      have PUT2 := Lib.hid fun W1 (h : BB W1 w.heap.size (lay (stB P.size P.xs.length (P.L.take i)) (1 + 4 * i) (w2 x.n))) => putNumber_any w.heap.size (1 + 4 * i + 2) (m - 2) (m - 2) x.b.length _ W1 (by omega) h (by omega) (by omega)
      have HST := Lib.hid hstep
      have HNX := Lib.hid hnext
      have HPC := Lib.hid (And.intro hxA hxlt)
      have H2 := Lib.hid h2
      have H3 := Lib.hid h3
      have H5 := Lib.hid h5
      have H2O := Lib.hid h2
      have H3O := Lib.hid h3
      have hlen1 : (pre ++ [x]).length = i + 1 := by simp; omega
      have c3 := h3.cell 0
      simp only [List.getElem?_toArray, List.getElem?_cons_zero] at c3
      generalize lay (stB P.size P.xs.length (P.L.take i)) (1 + 4 * i) (w2 x.n) = S1 at *
      generalize lay S1 (1 + 4 * i + 2) (w2 x.b.length) = S2 at *
      generalize hxn : x.n = xn at *
      generalize hxl : x.b.length = xl at *
      clear h1 h2 h3 h4 h5 hstep hnext hxA hxlt hx hn1 hxb hmap hpre htk hLi hlS hti H
      gi_wp2
      refine ⟨trivial, ?_⟩
      refine (CallsIn.inRound l (callsIn_wide.2 PUT1.out)).mono ?_
      rintro r V1 ⟨rfl, hB1, hT1⟩
      have PUT2' := Lib.hid (PUT2.out V1 hB1)
      have G2 := Lib.hid (H2.out.touch hT1 (by omega))
      have G3 := Lib.hid (H3.out.touch hT1 (by omega))
      have c3' := G3.out.cell 0
      simp only [List.getElem?_toArray, List.getElem?_cons_zero] at c3'
      have HT1 := Lib.hid hT1
      clear PUT1 PUT2 H2 H3 c3 hB1 hT1
      gi_wp2
      refine ⟨trivial, ?_⟩
      refine (CallsIn.inRound l (callsIn_wide.2 PUT2'.out)).mono ?_
      rintro r V2 ⟨rfl, hB2, hT2⟩
      have hT12 : Touch [w.heap.size] W V2 := HT1.out.trans hT2 (fun x hx => .inl hx)
      have F2 := Lib.hid (G2.out.touch hT2 (by omega))
      have F3 := Lib.hid (G3.out.touch hT2 (by omega))
      have d2 := F2.out.cell 0
      simp only [List.getElem?_toArray, List.getElem?_cons_zero] at d2
      have hA2 : Holds V2 x.A x.b := fun j hj => by
        obtain ⟨b', o', e', hlt, hc⟩ := HPC.out.1 j hj
        have hb' : b' < w.heap.size := HPC.out.2 (fun e => by rw [e] at hj; simp at hj) _ e'
        refine ⟨b', o', e', Nat.lt_of_lt_of_le hlt hT12.size, ?_⟩
        rw [← hc]
        simp only [World.cell?, hT12.block b' hlt (by simp; omega)]
      have HA2 := Lib.hid (And.intro hA2 hB2)
      have HT12 := Lib.hid hT12
      have hfit2 : xn + x.b.length ≤ S2.length := by omega
      have hle2 : x.b.length ≤ P.size - xn := by omega
      clear PUT2' G2 G3 c3' hA2 hB2 hT2 hT12 HT1 HPC
      have hne2 : w.heap.size + 2 ≠ w.heap.size := by omega
      by_cases hm4e : m = 4
      · subst hm4e
        gi_wp2_with (refine wpListIn_copy_bytes rfl (.tmp 36) (.tmp 37) rfl (some ⟨w.heap.size, xn, none⟩) x.A (P.size - xn) (P.size - xn) x.c w.heap.size xn S2 x.b rfl rfl HA2.out.2 HA2.out.1 (fun _ => rfl) hle2 hfit2 ?_; intro V3 hB3 hT3; have E3 := Lib.hid (F3.out.touch hT3.out hne2); have e3 : V3.cell? ⟨w.heap.size + 2, 0, none⟩ = some (.slice (some ⟨w.heap.size, 1 + 4 * i, none⟩) 4 4) := E3.out.cell 0; have ef3 : V3.frozen? ⟨w.heap.size + 2, 0, none⟩ = false := E3.out.frozen 0)
        exact wr_finish h6 H2O.out H3O.out H5.out (by rw [HNX.out, ← HST.out]; exact hB3.out) (HT12.out.trans hT3.out (fun x hx => .inl hx)) (by rw [hlen1]; omega) (fun hh => by rw [hlen1] at hh ⊢; omega)
      · have hm4f : (m = 4) = False := by simp; omega
        gi_wp2_with (refine wpListIn_copy_bytes rfl (.tmp 36) (.tmp 37) rfl (some ⟨w.heap.size, xn, none⟩) x.A (P.size - xn) (P.size - xn) x.c w.heap.size xn S2 x.b rfl rfl HA2.out.2 HA2.out.1 (fun _ => rfl) hle2 hfit2 ?_; intro V3 hB3 hT3; have E3 := Lib.hid (F3.out.touch hT3.out hne2); have e3 : V3.cell? ⟨w.heap.size + 2, 0, none⟩ = some (.slice (some ⟨w.heap.size, 1 + 4 * i, none⟩) m m) := E3.out.cell 0; have ef3 : V3.frozen? ⟨w.heap.size + 2, 0, none⟩ = false := E3.out.frozen 0)
        exact wr_finish h6 H2O.out H3O.out H5.out (by rw [HNX.out, ← HST.out]; exact hB3.out) (HT12.out.trans hT3.out (fun x hx => .inl hx)) (by rw [hlen1]; omega) (fun hh => by rw [hlen1]; omega)
    case done =>
      rintro D ys W hys ⟨h1, h2, h3, h5, h6⟩ hD hle
      have lc := h2.cell 0
      simp only [List.getElem?_toArray, List.getElem?_cons_zero] at lc
      rw [hys, placedA_b] at h1
      have hL : stB P.size P.xs.length (bbs P.xs) = pageB P.size P.L := by unfold pageB Pg.L; rw [bbs_len]
      rw [hL] at h1
      have H1 := Lib.hid h1
      have H4 := Lib.hid h5
      have HD := Lib.hid hD
      clear h1 h2 h3 hD hys
      gi_wp2
      refine ⟨by simp, .inl ⟨_, _, rfl, run_takeDeferred HD.out, ?_⟩⟩
      refine ⟨_, results_tmp rfl _ _ _, w.heap.size, rfl, Nat.le_refl _, ?_, ?_⟩
      · exact (World.putObj_heap_other (by omega)).trans H1.out
      · exact H4.out.trans ⟨rfl, rfl, rfl, by simp [World.putObj], fun k hk => World.putObj_heap_other (by omega)⟩
  | _ => exact hq.elim
/- Bytes; plain: what stands where in the bytes of a page. -/
theorem pageB_length (size : Nat) (L : List (List UInt8)) (h : 1 + 4 * L.length + used L ≤ size) : (pageB size L).length = size := stB_length _ _ _ h
theorem list_at (L : List (List UInt8)) (i : Nat) (h : i < L.length) : L = L.take i ++ (L[i] :: L.drop (i + 1)) := by
  rw [List.getElem_cons_drop, List.take_append_drop]
theorem pageB_num (size : Nat) (L : List (List UInt8)) (i : Nat) (h : i < L.length) : ∃ R, (pageB size L).drop (1 + 4 * i + 2) = w2 L[i].length ++ R := by
  have e : ∃ R, pageB size L = (UInt8.ofNat L.length :: ents size 0 (L.take i) ++ w2 (if L[i] = [] then 0 else size - (used (L.take i) + L[i].length))) ++ (w2 L[i].length ++ R) := by
    unfold pageB stB
    conv => enter [1, R, 1, 2, 1]; rw [list_at L i h]
    rw [ents_append]
    simp only [ents, ent, Nat.zero_add]
    exact ⟨_, by simp only [List.cons_append, List.append_assoc]; rfl⟩
  obtain ⟨R, e⟩ := e
  refine ⟨R, ?_⟩
  rw [e]
  have hl : (UInt8.ofNat L.length :: ents size 0 (L.take i) ++ w2 (if L[i] = [] then 0 else size - (used (L.take i) + L[i].length))).length = 1 + 4 * i + 2 := by
    simp only [List.length_append, List.length_cons, ents_length, w2_length, List.length_take]
    omega
  rw [← hl, List.drop_left]
theorem pageB_piece (size : Nat) (L : List (List UInt8)) (i : Nat) (h : i < L.length) (hf : 1 + 4 * L.length + used L ≤ size) : ((pageB size L).drop (size - (used (L.take i) + L[i].length))).take L[i].length = L[i] := by
  have e : ∃ X, pageB size L = X ++ (L[i] ++ tails (L.take i)) := by
    unfold pageB stB
    conv => enter [1, X, 1, 2, 2, 2]; rw [list_at L i h]
    rw [tails_append]
    simp only [tails]
    exact ⟨UInt8.ofNat L.length :: (ents size 0 L ++ (zeros (size - 1 - 4 * L.length - used L) ++ tails (L.drop (i + 1)))), by simp only [List.cons_append, List.append_assoc]⟩
  obtain ⟨X, e⟩ := e
  have hl := pageB_length size L hf
  rw [e, List.length_append, List.length_append, tails_length] at hl
  have hX : X.length = size - (used (L.take i) + L[i].length) := by omega
  rw [e, ← hX, List.drop_left, List.take_left]
theorem bytes_nil (w : World) : Calls Try.prog 25 #[.pointer none] w fun e w' => e = .returned (.slice none 0 0) ∧ w = w' := by
  have T := there_nil w
  go_enter Try.func25, Try.ntmps25
  go_wp2_with fail
  refine T.mono ?_
  rintro e w1 ⟨rfl, rfl⟩
  go_wp2_with fail
  go_ret
  exact ⟨rfl, rfl⟩
theorem written_at {w : World} {P : Pg} (h : PgAt w P) : Calls Try.prog 43 #[P.ptr] w fun e w' => ∃ g, e = .returned (.slice (some ⟨g, 0, none⟩) P.size P.size) ∧ w.heap.size ≤ g ∧ BB w' g (pageB P.size P.L) ∧ Below w.heap.size w w' :=
  callsIn_wide.1 (written_in h)
theorem bytes_at {w : World} {P : Pg} (h : PgAt w P) : Calls Try.prog 25 #[P.ptr] w fun e w' => ∃ g, e = .returned (.slice (some ⟨g, 0, none⟩) P.size P.size) ∧ w.heap.size ≤ g ∧ BB w' g (pageB P.size P.L) ∧ Below w.heap.size w w' := by
  have T := Lib.hid h.there
  have WR := Lib.hid (written_at h)
  clear h
  go_enter Try.func25, Try.ntmps25
  go_wp2_with fail
  refine T.out.mono ?_
  rintro e w1 ⟨rfl, rfl⟩
  go_wp2_with fail
  refine WR.out.mono ?_
  rintro e w2 ⟨g, rfl, h1, h2, h3⟩
  go_wp2_with fail
  go_ret
  exact ⟨g, rfl, h1, h2, h3⟩
/- take, Read: the page whose bytes these are. -/
theorem Goes.bb {w w' : World} {P P' : Pg} {g : Nat} {l : List UInt8} (h : PgAt w P) (hg : Goes w w' P P') (hb : BB w g l) : BB w' g l :=
  (hg.2.2.2.2.block g hb.lt (fun hk => h.plain hk ⟨_, _, hb⟩)).trans hb
set_option maxRecDepth 100000 in
set_option maxHeartbeats 2000000 in
theorem take_ok {w : World} {P : Pg} (h : PgAt w P) (h0 : P.xs = []) {L : List (List UInt8)} (hf : 1 + 4 * L.length + used L ≤ P.size) (hn : L.length ≤ 250) (ht : trimL L = L) (g : Nat) (hB : BB w g (pageB P.size L)) :
    Calls Try.prog 60 #[P.ptr, .slice (some ⟨g, 0, none⟩) P.size P.size] w fun e w' => e = .returned (.bool true) ∧ ∃ P', Goes w w' P P' ∧ P'.L = L := by
  have hsz1 := h.sz1
  have hsz2 := h.sz2
  have hl := pageB_length P.size L hf
  have b0 : w.cell? ⟨g, 0, none⟩ = some (.int .u8 (L.length : Nat)) := by
    rw [hB.cell 0 (by rw [hl]; omega)]
    show some (Value.int .u8 (((UInt8.ofNat L.length).toNat : Nat) : Int)) = _
    rw [UInt8.toNat_ofNat', Nat.mod_eq_of_lt (by omega)]
  have hsi : (0 : Int) < (P.size : Int) := by omega
  have hni : ¬ (L.length : Int) > 250 := by omega
  have hni2 : (L.length : Int) ≤ 250 := by omega
  have hszi : (P.size : Int) ≤ 1024 := by omega
  have H := Lib.hid h
  have G0 := Lib.hid (Goes.refl h)
  have HB := Lib.hid hB
  have HT := Lib.hid ht
  have HL0 : Hid (P.L = []) := Lib.hid (by unfold Pg.L; rw [h0]; rfl)
  clear h hB ht h0
  go_enter Try.func60, Try.ntmps60
  go_wp2_with fail
  go_loopg [6, 18] (L.length + 1) (fun j s6 s18 wr => ∃ (i : Nat) (Pi : Pg), i ≤ L.length ∧ L.length < i + j ∧ s18 = .int .i64 (i : Nat) ∧ s6 = .int .i64 ((P.size - used (L.take i) : Nat) : Int) ∧ Goes w wr P Pi ∧ Pi.L = L.take i ∧ BB wr g (pageB P.size L))
  case atStart => exact ⟨0, P, by omega, by omega, rfl, by simp [used], G0.out, by rw [HL0.out]; simp, HB.out⟩
  case round =>
    obtain ⟨i, Pi, hi, hj, rfl, rfl, hg, hL, hb⟩ := hrel
    have HG := Lib.hid hg
    have HLI := Lib.hid hL
    have HBB := Lib.hid hb
    clear b0 HB G0
    by_cases hlt : i < L.length
    · have hlti : (i : Int) < (L.length : Int) := by omega
      have hu := used_at L i hlt
      have hus := used_take_succ L i hlt
      have hPp : Pi.p = P.p := hg.2.1
      have hPs : Pi.size = P.size := hg.2.2.1
      have hPl : Pi.xs.length = i := by
        have := congrArg List.length hL
        rw [show Pi.L.length = Pi.xs.length from bbs_len _, List.length_take] at this
        omega
      obtain ⟨R, hR⟩ := pageB_num P.size L i hlt
      have hpc := pageB_piece P.size L i hlt hf
      obtain ⟨k2, hk2⟩ : ∃ k2, 1 + 4 * i + 2 = k2 := ⟨_, rfl⟩
      rw [hk2] at hR
      have hk2i : (1 + (i : Int) * 4) + 2 = (k2 : Nat) := by omega
      have hdl : ((pageB P.size L).drop k2).length = P.size - k2 := by rw [List.length_drop, hl]
      have HD1 := Lib.hid (head_any i (by omega) wr)
      have HD2 := Lib.hid fun W => head_any L.length (by omega) W
      have NM := number_q (some ⟨g, k2, none⟩) (P.size - k2) ((pageB P.size L).drop k2) wr (hb.holds k2) (by rw [hdl]; omega) (by rw [hdl]; omega)
      rw [hdl, hR, num2_w2 _ (by omega)] at NM
      replace NM := Lib.hid NM
      have hk2a : (k2 : Int) ≤ (P.size : Int) := by omega
      have hk2b : (P.size = k2) = False := by simp; omega
      obtain ⟨en, hen⟩ : ∃ en, P.size - used (L.take i) = en := ⟨_, rfl⟩
      obtain ⟨lo, hlo⟩ : ∃ lo, en - L[i].length = lo := ⟨_, rfl⟩
      have hpc2 : P.size - (used (L.take i) + L[i].length) = lo := by omega
      have hnx : Hid (P.size - used (L.take (i + 1)) = lo) := Lib.hid (by rw [hus]; omega)
      rw [hpc2] at hpc
      have hpiece : ∀ W, BB W g (pageB P.size L) → Holds W (some ⟨g, lo, none⟩) L[i] := fun W hW => by
        have := (hW.holds lo).take L[i].length
        rwa [hpc] at this
      have hm0 : Hid (P.size = lo → L[i] = []) := Lib.hid fun e => List.eq_nil_of_length_eq_zero (by omega)
      have hloi : (en : Int) - (L[i].length : Nat) = (lo : Nat) := by omega
      have hml : Hid (en - lo = L[i].length) := Lib.hid (by omega)
      have hgt : ¬ ((L[i].length : Nat) : Int) > (en : Int) - (1 + (L.length : Int) * 4) := by omega
      have hle1 : (lo : Int) ≤ (en : Int) := by omega
      have hle2 : (en : Int) ≤ (P.size : Int) := by omega
      have hfit : 1 + 4 * (Pi.xs.length + 1) + used Pi.L + L[i].length ≤ Pi.size := by rw [hPl, hPs, hL]; omega
      have hlen1 : L[i].length ≤ 1024 := by omega
      have CALL : Hid (∀ (k : Nat) (A' : Option Addr) (cA : Nat), (∀ W, BB W g (pageB P.size L) → Holds W A' L[i]) → Calls Try.prog 31 #[.slice A' (en - lo) cA] (wr.drewN k).drew fun e w3 => ∃ a cc, e = .returned (.slice a L[i].length cc) ∧ P.p < w3.heap.size ∧ w3.cell? ⟨P.p, 1, none⟩ = some (.slice Pi.A i Pi.c) ∧
          ∃ a' c' w4, Sem.run Try.prog (Builtin.append_ #[22, 22] 22 #[.slice Pi.A i Pi.c, .slice (some ⟨w3.heap.size, 0, none⟩) 1 1]) (w3.alloc (.cells #[.slice a L[i].length cc] 35)) = .ok (.slice a' (i + 1) c') w4 ∧
            w4.cell? ⟨P.p, 1, none⟩ = some (.slice Pi.A i Pi.c) ∧ w4.frozen? ⟨P.p, 1, none⟩ = false ∧
            Hid (∃ P', Goes w (w4.setCell ⟨P.p, 1, none⟩ (.slice a' (i + 1) c')) P P' ∧ P'.L = L.take (i + 1) ∧ BB (w4.setCell ⟨P.p, 1, none⟩ (.slice a' (i + 1) c')) g (pageB P.size L))) := Lib.hid fun k A' cA hA' => by
        have hd : Below wr.heap.size wr (wr.drewN k).drew := (below_drewN (Below.refl _ _) k).drew
        have CL := clone_any A' cA L[i] (wr.drewN k).drew (hA' _ (HBB.out.below hd)) (by omega)
        rw [← hml.out] at CL ⊢
        refine CL.mono ?_
        rintro e w3 ⟨v, rfl, hr, hb3⟩
        have hb2 : Below wr.heap.size wr w3 := below_next hd hb3
        obtain ⟨a, cc, rfl, -, -, -⟩ := hr.shape
        have h3 := HG.out.1.below hb2
        obtain ⟨a', c', w4, s1, s2, s3, s4, s5⟩ := h3.push ⟨a, cc, L[i]⟩ (hr.le (Nat.zero_le _)) (by omega) hfit
        have hbb4 := Goes.bb h3 s5 (HBB.out.below hb2)
        have c1' := h3.c1
        unfold Pg.v at s1 s2 c1'
        simp only [hPp, hPl] at s1 s2 s3 s4 s5 hbb4 c1'
        rw [hml.out]
        refine ⟨a, cc, rfl, ?_, c1', a', c', w4, s1, s2, s3, Lib.hid ⟨_, HG.out.trans (s5.after hb2), ?_, hbb4⟩⟩
        · rw [← hPp]; exact h3.lt
        · show bbs (Pi.xs ++ [⟨a, cc, L[i]⟩]) = _
          rw [show bbs (Pi.xs ++ [⟨a, cc, L[i]⟩]) = Pi.L ++ [L[i]] by simp [Pg.L, bbs], hL, List.take_add_one, List.getElem?_eq_getElem hlt]
          rfl
      have c1 := HG.out.1.c1
      unfold Pg.v at c1
      rw [hPp, hPl] at c1
      have HNX := hnx
      clear hnx hus hu hR hpc hpc2 hdl hl hfit hf HT HL0 H HG HBB hg hL hb hPp hPs hPl hk2 HLI
      have hpA := Lib.hid hpiece
      clear hpiece
      generalize L[i] = b at *
      generalize hbm : b.length = m at *
      rw [hen]
      clear hen
      generalize used (L.take i) = u at *
      have hmi : (m : Int) ≤ 1024 := by omega
      go_wp2_with fail
      refine HD1.out.mono ?_
      rintro e w1 ⟨rfl, rfl⟩
      go_wp2_with fail
      refine NM.out.mono ?_
      rintro e w2 ⟨rfl, k, rfl⟩
      have HD2' := Lib.hid (HD2.out (wr.drewN k))
      have CALL1 := Lib.hid (CALL.out k)
      have c1k : (wr.drewN k).cell? ⟨P.p, 1, none⟩ = some (.slice Pi.A i Pi.c) := c1
      clear HD1 HD2 NM CALL c1 hk2i hk2a hk2b
      generalize wr.drewN k = W at *
      go_wp2_with fail
      refine HD2'.out.mono ?_
      rintro e w1 ⟨rfl, rfl⟩
      clear HD2'
      go_wp2_with fail
      have hwl : IntKind.i64.wrap ((lo : Nat) : Int) = (lo : Nat) := by simp [IntKind.wrap, IntKind.bits, IntKind.signed]; omega
      by_cases hse : P.size = lo
      · have hb0 := hm0.out hse
        have CALL2 := Lib.hid (CALL1.out (some ⟨g, 0, none⟩) (P.size - lo) (fun W hW => by rw [hb0]; exact Holds.nil _ _))
        have hse' : (P.size = lo) = True := by simp [hse]
        clear CALL1 hpA hm0 hse hbm hb0
        go_region_law (first
          | (refine step_append_runI rfl _ _ 22 22 rfl _ _ ?h3 ?h4 s1 ?_; (case h3 => rfl); (case h4 => rfl))
          | (refine step_call_any rfl 31 #[.slice (some ⟨g, 0, none⟩) (en - lo) (P.size - lo)] ?h1 CALL2.out ?_; (case h1 => kernel_rfl); rintro e w3 ⟨a, cc, rfl, q0, q1, a', c', w4, s1, s2, s3, FIN⟩; have q5 : (w3.alloc (.cells #[.slice a m cc] 35)).cell? ⟨P.p, 1, none⟩ = some (.slice Pi.A i Pi.c) := (((Below.refl _ w3).alloc (Nat.le_refl _) _).cell (p := ⟨P.p, 1, none⟩) q0).trans q1; refine ⟨_, rfl, ?_⟩))
        all_goals
          clear q1 q5 s1 s2 s3 CALL2 c1k hwl
          go_wp2_with fail
          obtain ⟨P', f1, f2, f3⟩ := FIN.out
          go_roundg (L.length - i)
          case measure => omega
          case rel => exact ⟨i + 1, P', by omega, by omega, rfl, by rw [HNX.out], f1, f2, f3⟩
      · have CALL2 := Lib.hid (CALL1.out (some ⟨g, lo, none⟩) (P.size - lo) hpA.out)
        have hse' : (P.size = lo) = False := by simp [hse]
        clear CALL1 hpA hm0 hse hbm
        go_region_law (first
          | (refine step_append_runI rfl _ _ 22 22 rfl _ _ ?h3 ?h4 s1 ?_; (case h3 => rfl); (case h4 => rfl))
          | (refine step_call_any rfl 31 #[.slice (some ⟨g, lo, none⟩) (en - lo) (P.size - lo)] ?h1 CALL2.out ?_; (case h1 => kernel_rfl); rintro e w3 ⟨a, cc, rfl, q0, q1, a', c', w4, s1, s2, s3, FIN⟩; have q5 : (w3.alloc (.cells #[.slice a m cc] 35)).cell? ⟨P.p, 1, none⟩ = some (.slice Pi.A i Pi.c) := (((Below.refl _ w3).alloc (Nat.le_refl _) _).cell (p := ⟨P.p, 1, none⟩) q0).trans q1; refine ⟨_, rfl, ?_⟩))
        all_goals
          clear q1 q5 s1 s2 s3 CALL2 c1k hwl
          go_wp2_with fail
          obtain ⟨P', f1, f2, f3⟩ := FIN.out
          go_roundg (L.length - i)
          case measure => omega
          case rel => exact ⟨i + 1, P', by omega, by omega, rfl, by rw [HNX.out], f1, f2, f3⟩
    · have hge : ¬ (i : Int) < (L.length : Int) := by omega
      have hPp : Pi.p = P.p := hg.2.1
      have hPs : Pi.size = P.size := hg.2.2.1
      have hLL : Pi.L = L := by rw [hL, List.take_of_length_le (by omega)]
      have TR : Hid (Calls Try.prog 63 #[P.ptr] wr fun e w' => e = .returned (.tuple #[]) ∧ ∃ P', P'.p = P.p ∧ P'.size = P.size ∧ Goes w w' P P' ∧ P'.L = L ∧ BB w' g (pageB P.size L)) := Lib.hid (by
        have := trim_at HG.out.1
        unfold Pg.ptr at *
        rw [hPp] at this
        refine this.mono ?_
        rintro e w' ⟨he, P', g1, g2⟩
        have g3 := HG.out.trans g1
        exact ⟨he, P', g3.2.1, g3.2.2.1, g3, by rw [g2, hLL, HT.out], Goes.bb HG.out.1 g1 HBB.out⟩)
      clear hg hL hb HG HBB HLI hPp hPs hLL H HL0
      go_wp2_with fail
      refine TR.out.mono ?_
      rintro e w1 ⟨rfl, P', p1, p2, g1, g2, g3⟩
      have WR := written_at g1.1
      unfold Pg.ptr at *
      rw [p1, p2, g2] at WR
      have WR := Lib.hid WR
      have G1 := Lib.hid g1
      have G2 := Lib.hid g2
      have G3 := Lib.hid g3
      clear TR g1 g2 g3
      go_wp2_with fail
      refine WR.out.mono ?_
      rintro e w2 ⟨g2, rfl, h1, h2, h3⟩
      have EQ := equal_any (some ⟨g2, 0, none⟩) (some ⟨g, 0, none⟩) P.size P.size (pageB P.size L) (pageB P.size L) w2 h2.holds0 ((G3.out.below h3).holds0)
      rw [hl, show (pageB P.size L == pageB P.size L) = true by simp] at EQ
      have EQ := Lib.hid EQ
      have FIN : Hid (∃ P', Goes w w2 P P' ∧ P'.L = L) := Lib.hid ⟨P', G1.out.trans ⟨G1.out.1.below h3, rfl, rfl, fun k hk => .inl hk, Touch.of_below h3 _⟩, G2.out⟩
      clear WR h1 h2 h3 G1 G2 G3
      go_wp2_with fail
      refine EQ.out.mono ?_
      rintro e w3 ⟨rfl, rfl⟩
      go_wp2_with fail
      go_ret
      exact ⟨rfl, FIN.out⟩
set_option maxRecDepth 100000 in
theorem read_ok (w : World) (size : Nat) {L : List (List UInt8)} (h1 : 64 ≤ size) (h2 : size ≤ 1024) (hf : 1 + 4 * L.length + used L ≤ size) (hn : L.length ≤ 250) (ht : trimL L = L) (g : Nat) (hB : BB w g (pageB size L)) :
    Calls Try.prog 55 #[.slice (some ⟨g, 0, none⟩) size size] w fun e w' => ∃ P', e = .returned (.tuple #[P'.ptr, .int .i64 0]) ∧ PgAt w' P' ∧ P'.size = size ∧ P'.L = L ∧ (∀ k ∈ foot P', w.heap.size ≤ k) ∧ Below w.heap.size w w' := by
  have F := fits_good size h1 h2 w
  have hb : Below w.heap.size w (w.alloc (.cells #[.int .i64 (size : Nat), .slice none 0 0] 96)) := (Below.refl _ _).alloc (Nat.le_refl _) _
  have N := newP_at w size h1 h2
  have TK : Hid (Calls Try.prog 60 #[.pointer (some ⟨w.heap.size, 0, none⟩), .slice (some ⟨g, 0, none⟩) size size] (w.alloc (.cells #[.int .i64 (size : Nat), .slice none 0 0] 96)) fun e w' => e = .returned (.bool true) ∧ ∃ P', P'.ptr = .pointer (some ⟨w.heap.size, 0, none⟩) ∧ PgAt w' P' ∧ P'.size = size ∧ P'.L = L ∧ (∀ k ∈ foot P', w.heap.size ≤ k) ∧ Below w.heap.size w w') := Lib.hid ((take_ok N rfl hf hn ht g (hB.below hb)).mono (by
    rintro e w' ⟨he, P', g1, g2⟩
    have hF : ∀ k ∈ foot (newP w.heap.size size), w.heap.size ≤ k := fun k hk => by
      rcases foot_cases hk with rfl | e
      · exact Nat.le_refl _
      · simp [newP, Pg.v, Value.ownBlock] at e
    refine ⟨he, P', ?_, g1.1, g1.2.2.1, g2, fun k hk => ?_, Touch.fresh hb g1.2.2.2.2 hF⟩
    · unfold Pg.ptr
      rw [g1.2.1]
      rfl
    · rcases g1.2.2.2.1 k hk with hh | hh
      · exact hF k hh
      · exact Nat.le_trans hb.size hh))
  clear hB N hb
  go_enter Try.func55, Try.ntmps55
  go_wp2_with fail
  refine F.mono ?_
  rintro e w1 ⟨rfl, rfl⟩
  go_wp2_with fail
  refine TK.out.mono ?_
  rintro e w2 ⟨rfl, P', p1, FIN⟩
  go_wp2_with fail
  go_ret2
  exact ⟨P', by rw [p1]; rfl, FIN⟩
/- take, Read of any bytes: the page whose bytes these are, or none (plain: what is read). -/
theorem trimL_ofT {L : List (List UInt8)} (h : trimN L L.length = L.length) : trimL L = L := by
  unfold trimL
  rw [h, List.take_length]
theorem trimN_stopT (L : List (List UInt8)) : ∀ n, trimN L n = 0 ∨ ∃ m, trimN L n = m + 1 ∧ L.getD m [] ≠ []
  | 0 => .inl rfl
  | n + 1 => by
    by_cases h : L.getD n [] = []
    · rw [trimN_empty _ _ h]; exact trimN_stopT L n
    · rw [trimN_full _ _ h]; exact .inr ⟨n, rfl, h⟩
theorem trimT (L : List (List UInt8)) : trimL (trimL L) = trimL L := by
  refine trimL_ofT ?_
  have hle := trimN_le L L.length
  have hl : (trimL L).length = trimN L L.length := by unfold trimL; rw [List.length_take]; omega
  rw [hl]
  rcases trimN_stopT L L.length with h | ⟨m, h, hm⟩
  · rw [h]; rfl
  · rw [h]
    refine trimN_full _ _ ?_
    unfold trimL
    rw [h, List.getD_eq_getElem?_getD, List.getElem?_take, if_pos (by omega), ← List.getD_eq_getElem?_getD]
    exact hm
/-- bytes of a page with these pieces. -/
structure IsPage (b : List UInt8) (L : List (List UInt8)) : Prop where
  few : L.length ≤ 250
  fit : 1 + 4 * L.length + used L ≤ b.length
  trim : trimL L = L
  same : pageB b.length L = b
/-- the pieces whose lengths stand in the bytes, from the end on. -/
def takeA (b : List UInt8) (n : Nat) : Nat → Option (List (List UInt8))
  | 0 => some []
  | i + 1 => match takeA b n i with
    | none => none
    | some L => if ((b.length : Int) - (used L : Nat) - (1 + (n : Int) * 4)) < (num2 (b.drop (1 + 4 * i + 2)) : Nat) then none
        else some (L ++ [(b.drop (b.length - (used L + num2 (b.drop (1 + 4 * i + 2))))).take (num2 (b.drop (1 + 4 * i + 2)))])
theorem takeA_none {b : List UInt8} {n : Nat} : ∀ (i k : Nat), takeA b n i = none → takeA b n (i + k) = none
  | i, 0, h => h
  | i, k + 1, h => by
    have := takeA_none i k h
    rw [← Nat.add_assoc]
    unfold takeA
    rw [this]
theorem takeA_fits {b : List UInt8} {n : Nat} : ∀ (i : Nat) (L : List (List UInt8)), takeA b n i = some L → L.length = i ∧ (i = 0 → L = []) ∧ (0 < i → 1 + 4 * n + used L ≤ b.length)
  | 0, L, h => by
    unfold takeA at h
    cases h
    exact ⟨rfl, fun _ => rfl, fun h => absurd h (by omega)⟩
  | i + 1, L, h => by
    unfold takeA at h
    cases hq : takeA b n i with
    | none => rw [hq] at h; cases h
    | some Q =>
      rw [hq] at h
      simp only at h
      split at h
      · cases h
      · rename_i hlt
        cases h
        obtain ⟨q1, q2, q3⟩ := takeA_fits i Q hq
        have hu : used Q ≤ b.length := by
          rcases Nat.eq_zero_or_pos i with h0 | h0
          · rw [q2 h0]; simp [used]
          · have := q3 h0; omega
        have hp : ((b.drop (b.length - (used Q + num2 (b.drop (1 + 4 * i + 2))))).take (num2 (b.drop (1 + 4 * i + 2)))).length = num2 (b.drop (1 + 4 * i + 2)) := by
          rw [List.length_take, List.length_drop]; omega
        refine ⟨by rw [List.length_append, List.length_singleton, q1], fun h => absurd h (by omega), fun _ => ?_⟩
        rw [used_append, used_one, hp]
        omega
theorem isPage_first {b : List UInt8} {L : List (List UInt8)} (h : IsPage b L) : b.head? = some (UInt8.ofNat L.length) := by
  have := h.same
  unfold pageB stB at this
  rw [← this]
  rfl
/-- of a page's bytes just its pieces are taken. -/
theorem takeA_page {b : List UInt8} {L : List (List UInt8)} (h : IsPage b L) (hb : b.length ≤ 1024) : ∀ i, i ≤ L.length → takeA b L.length i = some (L.take i)
  | 0, _ => by simp [takeA]
  | i + 1, hi => by
    have hq := takeA_page h hb i (by omega)
    have hlt : i < L.length := by omega
    have hu := used_at L i hlt
    have hf := h.fit
    unfold takeA
    rw [hq]
    simp only
    obtain ⟨R, hR⟩ := pageB_num b.length L i hlt
    have hpc := pageB_piece b.length L i hlt hf
    rw [h.same] at hR hpc
    rw [hR, num2_w2 _ (by omega), if_neg (by omega), hpc, List.take_add_one, List.getElem?_eq_getElem hlt]
    rfl
theorem isPage_unique {b : List UInt8} {L L' : List (List UInt8)} (h : IsPage b L) (h' : IsPage b L') (hb : b.length ≤ 1024) : L = L' := by
  have e : L.length = L'.length := by
    have h1 := isPage_first h
    rw [isPage_first h'] at h1
    have h2 := congrArg (fun o : Option UInt8 => o.map UInt8.toNat) h1
    simp only [Option.map_some, Option.some.injEq, UInt8.toNat_ofNat'] at h2
    have := h.few
    have := h'.few
    omega
  have h1 := takeA_page h hb L.length (Nat.le_refl _)
  have h2 := takeA_page h' hb L'.length (Nat.le_refl _)
  rw [← e, h1] at h2
  simp only [Option.some.injEq] at h2
  rw [List.take_length] at h2
  rw [h2, e, List.take_length]
/-- what is taken is a page, or none is. -/
theorem takeA_done {b : List UInt8} {n : Nat} (hn : n ≤ 250) (hb0 : 1 ≤ b.length) (hb : b.length ≤ 1024) (h0 : b.head? = some (UInt8.ofNat n)) {L : List (List UInt8)} (h : takeA b n n = some L) :
    (pageB b.length (trimL L) = b → IsPage b (trimL L)) ∧ (pageB b.length (trimL L) ≠ b → ∀ M, ¬ IsPage b M) := by
  obtain ⟨q1, q2, q3⟩ := takeA_fits n L h
  have hle := trimN_le L L.length
  have hl : (trimL L).length ≤ L.length := by unfold trimL; rw [List.length_take]; omega
  have hu : used (trimL L) ≤ used L := used_take _ _
  refine ⟨fun he => ⟨by omega, ?_, ?_, he⟩, fun hne M hM => hne ?_⟩
  · rcases Nat.eq_zero_or_pos n with h1 | h1
    · have : L = [] := List.eq_nil_of_length_eq_zero (by omega)
      subst this
      have : trimL ([] : List (List UInt8)) = [] := rfl
      rw [this]
      simp [used]
      omega
    · have := q3 h1
      omega
  · refine trimT L
  · have e : M.length = n := by
      have h1 := isPage_first hM
      rw [h0] at h1
      have h2 := congrArg (fun o : Option UInt8 => o.map UInt8.toNat) h1
      simp only [Option.map_some, Option.some.injEq, UInt8.toNat_ofNat'] at h2
      have := hM.few
      omega
    have h1 := takeA_page hM hb M.length (Nat.le_refl _)
    rw [e, h] at h1
    simp only [Option.some.injEq] at h1
    rw [← e, List.take_length] at h1
    rw [h1, hM.trim]
    exact hM.same
theorem takeA_bad {b : List UInt8} {n : Nat} (hn : n ≤ 255) (hb : b.length ≤ 1024) (h0 : b.head? = some (UInt8.ofNat n)) (h : 250 < n ∨ takeA b n n = none) : ∀ M, ¬ IsPage b M := fun M hM => by
  have e : M.length = n := by
    have h1 := isPage_first hM
    rw [h0] at h1
    have h2 := congrArg (fun o : Option UInt8 => o.map UInt8.toNat) h1
    simp only [Option.map_some, Option.some.injEq, UInt8.toNat_ofNat'] at h2
    have := hM.few
    omega
  rcases h with h | h
  · have := hM.few; omega
  · have h1 := takeA_page hM hb M.length (Nat.le_refl _)
    rw [e, h] at h1
    cases h1
/- take, Read of any bytes, walked. -/
theorem Goes.more {w w1 w2 : World} {P P1 : Pg} (h : Goes w w1 P P1) (hb : Below w1.heap.size w1 w2) : Goes w w2 P P1 :=
  h.trans ⟨h.1.below hb, rfl, rfl, fun k hk => .inl hk, Touch.of_below hb _⟩
/-- the pieces' bytes stand above n. -/
def HF (n : Nat) (P : Pg) : Prop := ∀ x ∈ P.xs, ∀ k, x.v.ownBlock = some k → n ≤ k
set_option maxRecDepth 100000 in
set_option maxHeartbeats 4000000 in
theorem take_any {w : World} {P : Pg} (h : PgAt w P) (h0 : P.xs = []) (g : Nat) (b : List UInt8) (hbl : b.length = P.size) (hB : BB w g b) :
    Calls Try.prog 60 #[P.ptr, .slice (some ⟨g, 0, none⟩) P.size P.size] w fun e w' => ∃ r, e = .returned (.bool r) ∧ ∃ P', Goes w w' P P' ∧ HF w.heap.size P' ∧ ((r = true ∧ IsPage b P'.L) ∨ (r = false ∧ ∀ M, ¬ IsPage b M)) := by
  have hsz1 := h.sz1
  have hsz2 := h.sz2
  have hb0 : 0 < b.length := by omega
  obtain ⟨n, hn⟩ : ∃ n, b[0].toNat = n := ⟨_, rfl⟩
  have hn255 : n ≤ 255 := by have := b[0].toNat_lt; omega
  have hhead : b.head? = some (UInt8.ofNat n) := by
    rw [List.head?_eq_getElem?, List.getElem?_eq_getElem hb0, ← hn]
    simp
  have c0 : w.cell? ⟨g, 0, none⟩ = some (.int .u8 (n : Nat)) := by
    rw [hB.cell 0 hb0, hn]
  have hsi : (0 : Int) < (P.size : Int) := by omega
  have hszi : (P.size : Int) ≤ 1024 := by omega
  have hni2 : (n : Int) ≤ 255 := by omega
  have H := Lib.hid h
  have G0 := Lib.hid (Goes.refl h)
  have HB := Lib.hid hB
  have HH := Lib.hid hhead
  have HF0 : Hid (HF w.heap.size P) := Lib.hid (by intro x hx; rw [h0] at hx; cases hx)
  have HL0 : Hid (P.L = []) := Lib.hid (by unfold Pg.L; rw [h0]; rfl)
  have hb1024 : b.length ≤ 1024 := by omega
  by_cases hbig : 250 < n
  · have hni : (n : Int) > 250 := by omega
    have BAD := Lib.hid (takeA_bad hn255 hb1024 hhead (.inl hbig))
    clear h hB hhead h0 hn HL0 HB H
    go_enter Try.func60, Try.ntmps60
    go_wp2_with fail
    go_ret
    exact ⟨false, rfl, P, G0.out, HF0.out, .inr ⟨rfl, BAD.out⟩⟩
  · have hni : ¬ (n : Int) > 250 := by omega
    clear h hB hhead h0 hn
    go_enter Try.func60, Try.ntmps60
    go_wp2_with fail
    go_loopg [6, 18] (n + 1) (fun j s6 s18 wr => ∃ (i : Nat) (Li : List (List UInt8)) (Pi : Pg), i ≤ n ∧ n < i + j ∧ s18 = .int .i64 (i : Nat) ∧ s6 = .int .i64 ((P.size - used Li : Nat) : Int) ∧ Goes w wr P Pi ∧ Pi.L = Li ∧ takeA b n i = some Li ∧ BB wr g b ∧ HF w.heap.size Pi)
    case atStart => exact ⟨0, [], P, by omega, by omega, rfl, by simp [used], G0.out, HL0.out, rfl, HB.out, HF0.out⟩
    case round =>
      obtain ⟨i, Li, Pi, hi, hj, rfl, rfl, hg, hL, htk, hb, hhf⟩ := hrel
      have HHF := Lib.hid hhf
      clear hhf
      have HG := Lib.hid hg
      have HLI := Lib.hid hL
      have HBB := Lib.hid hb
      have HTK := Lib.hid htk
      clear c0 HB G0 HL0
      obtain ⟨q1, q2, q3⟩ := takeA_fits i Li htk
      have huL : used Li ≤ P.size := by
        rcases Nat.eq_zero_or_pos i with h0 | h0
        · rw [q2 h0]; simp [used]
        · have := q3 h0; omega
      by_cases hlt : i < n
      · have hlti : (i : Int) < (n : Int) := by omega
        have hPp : Pi.p = P.p := hg.2.1
        have hPs : Pi.size = P.size := hg.2.2.1
        have hPl : Pi.xs.length = i := by
          have := congrArg List.length hL
          rw [show Pi.L.length = Pi.xs.length from bbs_len _, q1] at this
          exact this
        obtain ⟨k2, hk2⟩ : ∃ k2, 1 + 4 * i + 2 = k2 := ⟨_, rfl⟩
        have hk2i : (1 + (i : Int) * 4) + 2 = (k2 : Nat) := by omega
        have hk2s : k2 + 2 ≤ P.size := by
          rcases Nat.eq_zero_or_pos i with h0 | h0
          · omega
          · have := q3 h0; omega
        have hdl : (b.drop k2).length = P.size - k2 := by rw [List.length_drop, hbl]
        have HD1 := Lib.hid (head_any i (by omega) wr)
        have HD2 := Lib.hid fun W => head_any n (by omega) W
        have NM := number_q (some ⟨g, k2, none⟩) (P.size - k2) (b.drop k2) wr (hb.holds k2) (by rw [hdl]; omega) (by rw [hdl]; omega)
        rw [hdl] at NM
        replace NM := Lib.hid NM
        have hk2a : (k2 : Int) ≤ (P.size : Int) := by omega
        have hk2b : (P.size = k2) = False := by simp; omega
        obtain ⟨m, hm⟩ : ∃ m, num2 (b.drop k2) = m := ⟨_, rfl⟩
        have hmb : m < 65536 := by
          rw [← hm]
          have h1 := ((b.drop k2).getD 0 0).toNat_lt
          have h2 := ((b.drop k2).getD 1 0).toNat_lt
          unfold num2; omega
        have hmi : (m : Int) < 65536 := by omega
        rw [hm] at NM
        obtain ⟨en, hen⟩ : ∃ en, P.size - used Li = en := ⟨_, rfl⟩
        have hle2 : (en : Int) ≤ (P.size : Int) := by omega
        by_cases hgt : (m : Int) > (en : Int) - (1 + (n : Int) * 4)
        · have BAD : Hid (∀ M, ¬ IsPage b M) := Lib.hid (takeA_bad hn255 hb1024 HH.out (.inr (by
            have h1 : takeA b n (i + 1) = none := by
              unfold takeA
              rw [htk]
              simp only
              rw [hk2, hm, if_pos (by omega)]
            have := takeA_none (i + 1) (n - (i + 1)) h1
            rwa [show i + 1 + (n - (i + 1)) = n by omega] at this)))
          have FIN : Hid (∀ k, Goes w (wr.drewN k) P Pi) := Lib.hid fun k => hg.more (below_drewN (Below.refl _ _) k)
          clear hg hL hb HG HBB HLI hPp hPs hPl H HTK htk hdl hm q2 q3 hbl
          rw [hen]
          clear hen hk2 hk2s huL q1
          go_wp2_with fail
          refine HD1.out.mono ?_
          rintro e w1 ⟨rfl, rfl⟩
          go_wp2_with fail
          refine NM.out.mono ?_
          rintro e w2 ⟨rfl, k, rfl⟩
          have HD2' := Lib.hid (HD2.out (wr.drewN k))
          have F1 := Lib.hid (FIN.out k)
          clear HD1 HD2 NM FIN
          generalize wr.drewN k = W at *
          go_wp2_with fail
          refine HD2'.out.mono ?_
          rintro e w1 ⟨rfl, rfl⟩
          go_wp2_with fail
          go_ret
          exact ⟨false, rfl, Pi, F1.out, HHF.out, .inr ⟨rfl, BAD.out⟩⟩
        · obtain ⟨lo, hlo⟩ : ∃ lo, en - m = lo := ⟨_, rfl⟩
          obtain ⟨pc, hpc⟩ : ∃ pc, (b.drop lo).take m = pc := ⟨_, rfl⟩
          have hlo2 : b.length - (used Li + m) = lo := by omega
          have hpl : pc.length = m := by rw [← hpc, List.length_take, List.length_drop]; omega
          have htn : Hid (takeA b n (i + 1) = some (Li ++ [pc])) := Lib.hid (by
            unfold takeA
            rw [htk]
            simp only
            rw [hk2, hm, if_neg (by omega), hlo2, hpc])
          have hnx : Hid (P.size - used (Li ++ [pc]) = lo) := Lib.hid (by rw [used_append, used_one, hpl]; omega)
          have hpiece : ∀ W, BB W g b → Holds W (some ⟨g, lo, none⟩) pc := fun W hW => by
            have := (hW.holds lo).take m
            rwa [hpc] at this
          have hm0 : Hid (P.size = lo → pc = []) := Lib.hid fun e => List.eq_nil_of_length_eq_zero (by omega)
          have hloi : (en : Int) - (m : Nat) = (lo : Nat) := by omega
          have hml : Hid (en - lo = pc.length) := Lib.hid (by omega)
          have hle1 : (lo : Int) ≤ (en : Int) := by omega
          have hfit : 1 + 4 * (Pi.xs.length + 1) + used Pi.L + pc.length ≤ Pi.size := by rw [hPl, hPs, hL]; omega
          have CALL : Hid (∀ (k : Nat) (A' : Option Addr) (cA : Nat), (∀ W, BB W g b → Holds W A' pc) → Calls Try.prog 31 #[.slice A' (en - lo) cA] (wr.drewN k).drew fun e w3 => ∃ a cc, e = .returned (.slice a pc.length cc) ∧ P.p < w3.heap.size ∧ w3.cell? ⟨P.p, 1, none⟩ = some (.slice Pi.A i Pi.c) ∧
              ∃ a' c' w4, Sem.run Try.prog (Builtin.append_ #[22, 22] 22 #[.slice Pi.A i Pi.c, .slice (some ⟨w3.heap.size, 0, none⟩) 1 1]) (w3.alloc (.cells #[.slice a pc.length cc] 35)) = .ok (.slice a' (i + 1) c') w4 ∧
                w4.cell? ⟨P.p, 1, none⟩ = some (.slice Pi.A i Pi.c) ∧ w4.frozen? ⟨P.p, 1, none⟩ = false ∧
                Hid (∃ P', Goes w (w4.setCell ⟨P.p, 1, none⟩ (.slice a' (i + 1) c')) P P' ∧ P'.L = Li ++ [pc] ∧ BB (w4.setCell ⟨P.p, 1, none⟩ (.slice a' (i + 1) c')) g b ∧ HF w.heap.size P')) := Lib.hid fun k A' cA hA' => by
            have hd : Below wr.heap.size wr (wr.drewN k).drew := (below_drewN (Below.refl _ _) k).drew
            have CL := clone_any A' cA pc (wr.drewN k).drew (hA' _ (HBB.out.below hd)) (by omega)
            rw [← hml.out] at CL ⊢
            refine CL.mono ?_
            rintro e w3 ⟨v, rfl, hr, hb3⟩
            have hb2 : Below wr.heap.size wr w3 := below_next hd hb3
            obtain ⟨a, cc, rfl, -, -, -⟩ := hr.shape
            have h3 := HG.out.1.below hb2
            obtain ⟨a', c', w4, s1, s2, s3, s4, s5⟩ := h3.push ⟨a, cc, pc⟩ (hr.le (Nat.zero_le _)) (by omega) hfit
            have hbb4 := Goes.bb h3 s5 (HBB.out.below hb2)
            have c1' := h3.c1
            unfold Pg.v at s1 s2 c1'
            simp only [hPp, hPl] at s1 s2 s3 s4 s5 hbb4 c1'
            rw [hml.out]
            refine ⟨a, cc, rfl, ?_, c1', a', c', w4, s1, s2, s3, Lib.hid ⟨_, HG.out.trans (s5.after hb2), ?_, hbb4, fun x hx k hk => ?_⟩⟩
            · rw [← hPp]; exact h3.lt
            · show bbs (Pi.xs ++ [⟨a, cc, pc⟩]) = _
              rw [show bbs (Pi.xs ++ [⟨a, cc, pc⟩]) = Pi.L ++ [pc] by simp [Pg.L, bbs], hL]
            · rcases List.mem_append.1 hx with hx | hx
              · exact HHF.out x hx k hk
              · have hxx : x = ⟨a, cc, pc⟩ := by simpa using hx
                subst hxx
                have h9 := hr.block k hk
                have h8 := HG.out.2.2.2.2.size
                have h7 := hd.size
                omega
          rw [hpl] at CALL
          have c1 := HG.out.1.c1
          unfold Pg.v at c1
          rw [hPp, hPl] at c1
          have hpA := Lib.hid hpiece
          have hmi2 : (m : Int) ≤ 1024 := by omega
          have hlmm : m ≤ 1024 := by omega
          clear hpiece hg hL hb HG HBB HLI hPs H HTK htk hdl hm q2 q3 hfit hpc hlo2 hPp hPl hmb hmi hbl hb0 hb1024 HH
          rw [hen]
          clear hen hk2 hk2s huL q1
          go_wp2_with fail
          refine HD1.out.mono ?_
          rintro e w1 ⟨rfl, rfl⟩
          go_wp2_with fail
          refine NM.out.mono ?_
          rintro e w2 ⟨rfl, k, rfl⟩
          have HD2' := Lib.hid (HD2.out (wr.drewN k))
          have CALL1 := Lib.hid (CALL.out k)
          have c1k : (wr.drewN k).cell? ⟨P.p, 1, none⟩ = some (.slice Pi.A i Pi.c) := c1
          clear HD1 HD2 NM CALL c1 hk2i hk2a hk2b
          generalize wr.drewN k = W at *
          go_wp2_with fail
          refine HD2'.out.mono ?_
          rintro e w1 ⟨rfl, rfl⟩
          clear HD2'
          go_wp2_with fail
          have hwl : IntKind.i64.wrap ((lo : Nat) : Int) = (lo : Nat) := by simp [IntKind.wrap, IntKind.bits, IntKind.signed]; omega
          by_cases hse : P.size = lo
          · have hb0 := hm0.out hse
            have CALL2 := Lib.hid (CALL1.out (some ⟨g, 0, none⟩) (P.size - lo) (fun W hW => by rw [hb0]; exact Holds.nil _ _))
            have hse' : (P.size = lo) = True := by simp [hse]
            clear CALL1 hpA hm0 hse hb0
            go_region_law (first
              | (refine step_append_runI rfl _ _ 22 22 rfl _ _ ?h3 ?h4 s1 ?_; (case h3 => rfl); (case h4 => rfl))
              | (refine step_call_any rfl 31 #[.slice (some ⟨g, 0, none⟩) (en - lo) (P.size - lo)] ?h1 CALL2.out ?_; (case h1 => kernel_rfl); rintro e w3 ⟨a, cc, rfl, q0, q1, a', c', w4, s1, s2, s3, FIN⟩; have q5 : (w3.alloc (.cells #[.slice a m cc] 35)).cell? ⟨P.p, 1, none⟩ = some (.slice Pi.A i Pi.c) := (((Below.refl _ w3).alloc (Nat.le_refl _) _).cell (p := ⟨P.p, 1, none⟩) q0).trans q1; refine ⟨_, rfl, ?_⟩))
            all_goals
              clear q1 q5 s1 s2 s3 CALL2 c1k hwl
              go_wp2_with fail
              obtain ⟨P', f1, f2, f3, f4⟩ := FIN.out
              go_roundg (n - i)
              case measure => omega
              case rel => exact ⟨i + 1, _, P', by omega, by omega, rfl, by rw [hnx.out], f1, f2, htn.out, f3, f4⟩
          · have CALL2 := Lib.hid (CALL1.out (some ⟨g, lo, none⟩) (P.size - lo) hpA.out)
            have hse' : (P.size = lo) = False := by simp [hse]
            clear CALL1 hpA hm0 hse
            go_region_law (first
              | (refine step_append_runI rfl _ _ 22 22 rfl _ _ ?h3 ?h4 s1 ?_; (case h3 => rfl); (case h4 => rfl))
              | (refine step_call_any rfl 31 #[.slice (some ⟨g, lo, none⟩) (en - lo) (P.size - lo)] ?h1 CALL2.out ?_; (case h1 => kernel_rfl); rintro e w3 ⟨a, cc, rfl, q0, q1, a', c', w4, s1, s2, s3, FIN⟩; have q5 : (w3.alloc (.cells #[.slice a m cc] 35)).cell? ⟨P.p, 1, none⟩ = some (.slice Pi.A i Pi.c) := (((Below.refl _ w3).alloc (Nat.le_refl _) _).cell (p := ⟨P.p, 1, none⟩) q0).trans q1; refine ⟨_, rfl, ?_⟩))
            all_goals
              clear q1 q5 s1 s2 s3 CALL2 c1k hwl
              go_wp2_with fail
              obtain ⟨P', f1, f2, f3, f4⟩ := FIN.out
              go_roundg (n - i)
              case measure => omega
              case rel => exact ⟨i + 1, _, P', by omega, by omega, rfl, by rw [hnx.out], f1, f2, htn.out, f3, f4⟩
      · have hge : ¬ (i : Int) < (n : Int) := by omega
        have hin : i = n := by omega
        subst hin
        have hPp : Pi.p = P.p := hg.2.1
        have hPs : Pi.size = P.size := hg.2.2.1
        have DN := takeA_done (by omega) hb0 hb1024 HH.out htk
        rw [hbl] at DN
        replace DN := Lib.hid DN
        have hl : (pageB P.size (trimL Li)).length = P.size := by
          have h1 : (trimL Li).length ≤ Li.length := by unfold trimL; rw [List.length_take]; omega
          have h2 : used (trimL Li) ≤ used Li := used_take _ _
          refine pageB_length _ _ ?_
          rcases Nat.eq_zero_or_pos i with h3 | h3
          · have : Li = [] := q2 h3
            subst this
            simp [trimL, used]
            omega
          · have := q3 h3; omega
        have TR : Hid (Calls Try.prog 63 #[P.ptr] wr fun e w' => e = .returned (.tuple #[]) ∧ ∃ P', P'.p = P.p ∧ P'.size = P.size ∧ Goes w w' P P' ∧ P'.L = trimL Li ∧ BB w' g b ∧ HF w.heap.size P') := Lib.hid (by
          have := trim_atS HG.out.1
          unfold Pg.ptr at *
          rw [hPp] at this
          refine this.mono ?_
          rintro e w' ⟨he, P', g1, g2, g4⟩
          have g3 := HG.out.trans g1
          exact ⟨he, P', g3.2.1, g3.2.2.1, g3, by rw [g2, hL], Goes.bb HG.out.1 g1 HBB.out, fun x hx => HHF.out x (g4 x hx)⟩)
        clear hg hL hb HG HBB HLI hPp hPs H HTK htk q1 q2 q3
        go_wp2_with fail
        refine TR.out.mono ?_
        rintro e w1 ⟨rfl, P', p1, p2, g1, g2, g3, g4⟩
        have GHF := Lib.hid g4
        have WR := written_at g1.1
        unfold Pg.ptr at *
        rw [p1, p2, g2] at WR
        have WR := Lib.hid WR
        have G1 := Lib.hid g1
        have G2 := Lib.hid g2
        have G3 := Lib.hid g3
        clear TR g1 g2 g3 g4
        go_wp2_with fail
        refine WR.out.mono ?_
        rintro e w2 ⟨g2, rfl, h1, h2, h3⟩
        have EQ := equal_any (some ⟨g2, 0, none⟩) (some ⟨g, 0, none⟩) P.size P.size (pageB P.size (trimL Li)) b w2 h2.holds0 ((G3.out.below h3).holds0)
        rw [hl, hbl] at EQ
        have EQ := Lib.hid EQ
        have G4 := Lib.hid (G1.out.more h3)
        clear WR h1 h2 h3 G1 G3
        go_wp2_with fail
        refine EQ.out.mono ?_
        rintro e w3 ⟨rfl, rfl⟩
        go_wp2_with fail
        go_ret
        refine ⟨_, rfl, P', G4.out, GHF.out, ?_⟩
        rw [G2.out]
        by_cases hsame : pageB P.size (trimL Li) = b
        · exact .inl ⟨by rw [hsame]; simp, DN.out.1 hsame⟩
        · exact .inr ⟨by simpa using hsame, DN.out.2 hsame⟩
set_option maxRecDepth 100000 in
theorem read_any (w : World) (b : List UInt8) (h1 : 64 ≤ b.length) (h2 : b.length ≤ 1024) (g : Nat) (hB : BB w g b) :
    Calls Try.prog 55 #[.slice (some ⟨g, 0, none⟩) b.length b.length] w fun e w' => Below w.heap.size w w' ∧ ((∃ P', e = .returned (.tuple #[P'.ptr, .int .i64 0]) ∧ PgAt w' P' ∧ P'.size = b.length ∧ IsPage b P'.L ∧ (∀ k ∈ foot P', w.heap.size ≤ k) ∧ HF w.heap.size P') ∨ (e = .returned (.tuple #[.pointer none, .int .i64 7]) ∧ ∀ M, ¬ IsPage b M)) := by
  have F := fits_good b.length h1 h2 w
  have hb : Below w.heap.size w (w.alloc (.cells #[.int .i64 (b.length : Nat), .slice none 0 0] 96)) := (Below.refl _ _).alloc (Nat.le_refl _) _
  have N := newP_at w b.length h1 h2
  have TK : Hid (Calls Try.prog 60 #[.pointer (some ⟨w.heap.size, 0, none⟩), .slice (some ⟨g, 0, none⟩) b.length b.length] (w.alloc (.cells #[.int .i64 (b.length : Nat), .slice none 0 0] 96)) fun e w' => ∃ r, e = .returned (.bool r) ∧ Below w.heap.size w w' ∧ ∃ P', P'.ptr = .pointer (some ⟨w.heap.size, 0, none⟩) ∧ PgAt w' P' ∧ P'.size = b.length ∧ (∀ k ∈ foot P', w.heap.size ≤ k) ∧ HF w.heap.size P' ∧ ((r = true ∧ IsPage b P'.L) ∨ (r = false ∧ ∀ M, ¬ IsPage b M))) := Lib.hid ((take_any N rfl g b rfl (hB.below hb)).mono (by
    rintro e w' ⟨r, he, P', g1, g5, g2⟩
    have hF : ∀ k ∈ foot (newP w.heap.size b.length), w.heap.size ≤ k := fun k hk => by
      rcases foot_cases hk with rfl | e
      · exact Nat.le_refl _
      · simp [newP, Pg.v, Value.ownBlock] at e
    refine ⟨r, he, Touch.fresh hb g1.2.2.2.2 hF, P', ?_, g1.1, g1.2.2.1, fun k hk => ?_, fun x hx k hk => Nat.le_trans hb.size (g5 x hx k hk), g2⟩
    · unfold Pg.ptr
      rw [g1.2.1]
      rfl
    · rcases g1.2.2.2.1 k hk with hh | hh
      · exact hF k hh
      · exact Nat.le_trans hb.size hh))
  clear hB N hb
  generalize hbn : b.length = n at *
  go_enter Try.func55, Try.ntmps55
  go_wp2_with fail
  refine F.mono ?_
  rintro e w1 ⟨rfl, rfl⟩
  go_wp2_with fail
  refine TK.out.mono ?_
  rintro e w2 ⟨r, rfl, hbl, P', p1, p2, p3, p4, p6, ⟨rfl, p5⟩ | ⟨rfl, p5⟩⟩
  · go_wp2_with fail
    go_ret2
    exact ⟨hbl, .inl ⟨P', by rw [p1]; rfl, p2, p3, p5, p4, p6⟩⟩
  · go_wp2_with fail
    go_ret2
    exact ⟨hbl, .inr ⟨rfl, p5⟩⟩
/- Plain: a page read by the places and the lengths that stand in its bytes (as the reference reads it). -/
theorem pageB_at (size : Nat) (L : List (List UInt8)) (i : Nat) (h : i < L.length) : ∃ R, (pageB size L).drop (1 + 4 * i) = w2 (if L[i] = [] then 0 else size - (used (L.take i) + L[i].length)) ++ R := by
  have e : ∃ R, pageB size L = (UInt8.ofNat L.length :: ents size 0 (L.take i)) ++ (w2 (if L[i] = [] then 0 else size - (used (L.take i) + L[i].length)) ++ R) := by
    unfold pageB stB
    conv => enter [1, R, 1, 2, 1]; rw [list_at L i h]
    rw [ents_append]
    simp only [ents, ent, Nat.zero_add]
    exact ⟨_, by simp only [List.cons_append, List.append_assoc]; rfl⟩
  obtain ⟨R, e⟩ := e
  refine ⟨R, ?_⟩
  rw [e]
  have hl : (UInt8.ofNat L.length :: ents size 0 (L.take i)).length = 1 + 4 * i := by
    simp only [List.length_cons, ents_length, List.length_take]
    omega
  rw [← hl, List.drop_left]
/-- the pieces that stand at the places, with the lengths, that the bytes say. -/
def refA (b : List UInt8) : Nat → Option (List (List UInt8))
  | 0 => some []
  | i + 1 => match refA b i with
    | none => none
    | some L => if b.length < num2 (b.drop (1 + 4 * i)) ∨ b.length - num2 (b.drop (1 + 4 * i)) < num2 (b.drop (1 + 4 * i + 2)) then none
        else some (L ++ [(b.drop (num2 (b.drop (1 + 4 * i)))).take (num2 (b.drop (1 + 4 * i + 2)))])
theorem refA_none {b : List UInt8} : ∀ (i k : Nat), refA b i = none → refA b (i + k) = none
  | i, 0, h => h
  | i, k + 1, h => by
    have := refA_none i k h
    rw [← Nat.add_assoc]
    unfold refA
    rw [this]
theorem refA_len {b : List UInt8} : ∀ (i : Nat) (L : List (List UInt8)), refA b i = some L → L.length = i
  | 0, L, h => by unfold refA at h; cases h; rfl
  | i + 1, L, h => by
    unfold refA at h
    cases hq : refA b i with
    | none => rw [hq] at h; cases h
    | some Q =>
      rw [hq] at h
      simp only at h
      split at h
      · cases h
      · cases h
        rw [List.length_append, List.length_singleton, refA_len i Q hq]
theorem refA_page {b : List UInt8} {L : List (List UInt8)} (h : IsPage b L) (hb : b.length ≤ 1024) : ∀ i, i ≤ L.length → refA b i = some (L.take i)
  | 0, _ => by simp [refA]
  | i + 1, hi => by
    have hq := refA_page h hb i (by omega)
    have hlt : i < L.length := by omega
    have hu := used_at L i hlt
    have hf := h.fit
    obtain ⟨R, hR⟩ := pageB_num b.length L i hlt
    obtain ⟨R2, hR2⟩ := pageB_at b.length L i hlt
    have hpc := pageB_piece b.length L i hlt hf
    rw [h.same] at hR hR2 hpc
    have e1 : num2 (b.drop (1 + 4 * i + 2)) = L[i].length := by rw [hR]; exact num2_w2 _ (by omega) R
    have e2 : num2 (b.drop (1 + 4 * i)) = if L[i] = [] then 0 else b.length - (used (L.take i) + L[i].length) := by
      rw [hR2]
      exact num2_w2 _ (by split <;> omega) R2
    unfold refA
    rw [hq]
    simp only
    rw [e1, e2, List.take_add_one, List.getElem?_eq_getElem hlt]
    by_cases h0 : L[i] = []
    · rw [if_pos h0, h0]
      simp
    · rw [if_neg h0, if_neg (by omega), hpc]
      rfl
/-- what the reference reads is the page, or none is. -/
theorem refA_done {b : List UInt8} {n : Nat} (hn : n ≤ 250) (hb : b.length ≤ 1024) (h0 : b.head? = some (UInt8.ofNat n)) {L : List (List UInt8)} (h : refA b n = some L) :
    (1 + 4 * L.length + used L ≤ b.length → trimL L = L → pageB b.length L = b → IsPage b L) ∧ (∀ M, IsPage b M → 1 + 4 * L.length + used L ≤ b.length ∧ trimL L = L ∧ pageB b.length L = b) := by
  have hl := refA_len n L h
  refine ⟨fun h1 h2 h3 => ⟨by omega, h1, h2, h3⟩, fun M hM => ?_⟩
  have e : M.length = n := by
    have h1 := isPage_first hM
    rw [h0] at h1
    have h2 := congrArg (fun o : Option UInt8 => o.map UInt8.toNat) h1
    simp only [Option.map_some, Option.some.injEq, UInt8.toNat_ofNat'] at h2
    have := hM.few
    omega
  have h1 := refA_page hM hb M.length (Nat.le_refl _)
  rw [e, h] at h1
  simp only [Option.some.injEq] at h1
  rw [← e, List.take_length] at h1
  subst h1
  exact ⟨hM.fit, hM.trim, hM.same⟩
theorem refA_bad {b : List UInt8} {n : Nat} (hn : n ≤ 255) (hb : b.length ≤ 1024) (h0 : b.head? = some (UInt8.ofNat n)) (h : 250 < n ∨ b.length < 1 + 4 * n ∨ refA b n = none) : ∀ M, ¬ IsPage b M := fun M hM => by
  have e : M.length = n := by
    have h1 := isPage_first hM
    rw [h0] at h1
    have h2 := congrArg (fun o : Option UInt8 => o.map UInt8.toNat) h1
    simp only [Option.map_some, Option.some.injEq, UInt8.toNat_ofNat'] at h2
    have := hM.few
    omega
  have hf := hM.few
  have hf2 := hM.fit
  rcases h with h | h | h
  · omega
  · omega
  · have h1 := refA_page hM hb M.length (Nat.le_refl _)
    rw [e, h] at h1
    cases h1
end Go.Proofs.Ytlkkfnimealbkaa.Pag
