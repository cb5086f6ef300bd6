/- placed: the iterator over the pieces, each with its place. -/
import Derived.Test.YtjnblkibejmdjaaPB7
namespace Go.Proofs.Ytjnblkibejmdjaa
open Go.RowKit Go.Shelf
set_option linter.unusedVariables false
attribute [local go_sem] Oper.semAt_some
/-- a piece that is told, and where it begins. -/
structure Rc where
  A : Option Addr
  c : Nat
  b : List UInt8
  n : Nat
abbrev Rc.v (x : Rc) : Value := .slice x.A x.b.length x.c
abbrev encR (x : Rc) : Array Value := #[.int .i64 (x.n : Nat), x.v]
def rcOf (size u : Nat) (x : Bx) : Rc := ⟨x.A, x.c, x.b, if x.b = [] then 0 else size - (u + x.b.length)⟩
def placedA (size : Nat) : Nat → List Bx → List Rc
  | _, [] => []
  | u, x :: r => rcOf size u x :: placedA size (u + x.b.length) r
theorem placedA_append (size : Nat) : ∀ (l r : List Bx) (u : Nat), placedA size u (l ++ r) = placedA size u l ++ placedA size (u + used (bbs l)) r
  | [], r, u => by simp [placedA, bbs, used]
  | x :: l, r, u => by
    simp only [List.cons_append, placedA, placedA_append size l r]
    rw [show u + x.b.length + used (bbs l) = u + used (bbs (x :: l)) by simp [bbs, used]; omega]
theorem placedA_length (size : Nat) : ∀ (l : List Bx) (u : Nat), (placedA size u l).length = l.length
  | [], u => rfl
  | x :: l, u => by simp [placedA, placedA_length size l]
theorem placedA_b (size : Nat) : ∀ (l : List Bx) (u : Nat), (placedA size u l).map (fun x => x.b) = bbs l
  | [], u => rfl
  | x :: l, u => by simp [placedA, placedA_b size l, bbs, rcOf]
theorem placedA_snoc (size : Nat) (xs : List Bx) (i : Nat) (h : i < xs.length) : placedA size 0 (xs.take (i + 1)) = placedA size 0 (xs.take i) ++ [rcOf size (used (bbs (xs.take i))) xs[i]] := by
  rw [List.take_add_one, List.getElem?_eq_getElem h, placedA_append]
  simp [placedA]
/-- the next piece that is told behind those of pre. -/
def PcIn (P : Pg) (pre : List Rc) (x : Rc) (_ : World) : Prop := ∃ (i : Nat) (h : i < P.xs.length), pre = placedA P.size 0 (P.xs.take i) ∧ x = rcOf P.size (used (bbs (P.xs.take i))) P.xs[i]
theorem placed_in (F : Fence) (n : Nat) (h5 : F.fn 30) (hro : F.round = none) (p0 : Option Addr) (w : World) :
    CallsIn F n Try.prog 30 #[.pointer p0] w fun e w' => e = .returned (.func (.func 32) #[] #[.pointer (some ⟨w.heap.size, 0, none⟩)]) ∧ w' = w.alloc (.cells #[.pointer p0] 24) := by
  refine callsIn_of_wp Try.func30 rfl h5 ?_ hro
  simp only [Try.ntmps30, List.size_toArray, List.length_cons, List.length_nil, Nat.reduceAdd, Nat.reduceSub, Array.replicate_succ, Array.replicate_zero, List.push_toArray, List.append_toArray, List.nil_append, List.cons_append]
  gi_wp2
  go_ret
  exact ⟨rfl, rfl⟩
/-- what a round keeps: what lay below n₀, and a box. -/
def KpB (n₀ Bn : Nat) (W W' : World) : Prop := Below n₀ W W' ∧ W'.heap[Bn]? = W.heap[Bn]?
theorem KpB.trans {n₀ Bn : Nat} {A B C : World} (h : KpB n₀ Bn A B) (k : KpB n₀ Bn B C) : KpB n₀ Bn A C := ⟨h.1.trans k.1, k.2.trans h.2⟩
theorem abides_below {β : Type} {B : Nat} {J : β → World → Prop} (h : AbidesFrom B J) (s : β) (W W' : World) (hs : J s W) (hb : Below W.heap.size W W') : J s W' :=
  h s W W' none hs ⟨hb.os, hb.tape, hb.output, hb.size, fun k hk _ => hb.block k hk⟩ (fun r e => by cases e)
set_option maxRecDepth 100000 in
set_option maxHeartbeats 2000000 in
theorem placed1_in (n : Nat) (hn : 1 ≤ n) (l Bn : Nat) (w0 : World) (P : Pg) (h : PgAt w0 P)
    (J : List Rc → World → Prop) (hJ : ∀ s W W', J s W → Below W.heap.size W W' → J s W')
    (hY : ∀ pre x W, J pre W → PcIn P pre x W → pre.length < P.xs.length → YieldAt Fence.wide (n - 1) Try.prog l (encR x) W fun r W' => r = .returned (.bool true) ∧ J (pre ++ [x]) W' ∧ KpB w0.heap.size Bn W W')
    (W : World) (hW : Below w0.heap.size w0 W) (hb0 : Whole W Bn 24 #[P.ptr]) (h0 : J [] W) :
    CallsIn Fence.wide n Try.prog 32 #[.func (.yield l) #[] #[], .pointer (some ⟨Bn, 0, none⟩)] W fun r W' => (∃ v, r = .returned v) ∧ ∃ ys : List Rc, ys = placedA P.size 0 P.xs ∧ J ys W' := by
  have hp := h.lt
  have a0 : W.cell? ⟨P.p, 0, none⟩ = some (.int .i64 (P.size : Nat)) := (hW.cell (p := ⟨P.p, 0, none⟩) hp).trans h.c0
  have a1 : W.cell? ⟨P.p, 1, none⟩ = some (.slice P.A P.xs.length P.c) := (hW.cell (p := ⟨P.p, 1, none⟩) hp).trans h.c1
  have d0 := hb0.cell 0
  simp only [List.getElem?_toArray, List.getElem?_cons_zero] at d0
  have hfew := h.few
  have hfit := h.fit
  have hsz := h.sz2
  have hszi : (P.size : Int) ≤ 1024 := by omega
  have hfewi : (P.xs.length : Int) ≤ 250 := by omega
  have HALL : Hid (∀ i (hi : i < P.xs.length), ∃ g, P.A = some ⟨g, 0, none⟩ ∧ g < w0.heap.size ∧ w0.cell? ⟨g, i, none⟩ = some (P.xs[i]).v) := Lib.hid fun i hi => by
    obtain ⟨g, h1, -, h3, h2, -, -⟩ := h.slot i hi
    exact ⟨g, h1, h3, h2⟩
  clear h
  generalize hAA : P.A = AA at *
  clear hAA
  refine callsIn_of_wp Try.func32 rfl trivial ?_ rfl
  simp only [Try.ntmps32, List.size_toArray, List.length_cons, List.length_nil, Nat.reduceAdd, Nat.reduceSub, Array.replicate_succ, Array.replicate_zero, List.push_toArray, List.append_toArray, List.nil_append, List.cons_append]
  gi_wp2
  gi_loopw [3, 16] (fun s3 s16 wr => ∃ (i : Nat) (pre : List Rc), i ≤ P.xs.length ∧ s16 = .int .i64 (i : Nat) ∧ s3 = .int .i64 ((P.size : Int) - (used (bbs (P.xs.take i)) : Nat)) ∧ Below w0.heap.size w0 wr ∧ Whole wr Bn 24 #[P.ptr] ∧ J pre wr ∧ pre = placedA P.size 0 (P.xs.take i))
    (fun s3 s16 _ => (P.xs.length - intOf s16).toNat)
  case atStart => exact ⟨0, [], by omega, rfl, by simp [used, bbs], hW, hb0, h0, by simp [placedA]⟩
  case round =>
    obtain ⟨i, pre, hi, rfl, rfl, hB, hx0, hj, hpre⟩ := hrel
    by_cases hlt : i < P.xs.length
    · have hlti : (i : Int) < (P.xs.length : Int) := by omega
      obtain ⟨g, rfl, hg, hc⟩ := HALL.out i hlt
      have hcw := (hB.cell (p := ⟨g, i, none⟩) hg).trans hc
      have hLlen : P.L.length = P.xs.length := bbs_len _
      have htk : bbs (P.xs.take i) = P.L.take i := by simp [Pg.L, bbs, List.map_take]
      have hu2 := used_at P.L i (by omega)
      have hus := used_take_succ P.L i (by omega)
      have hLi : P.L[i] = P.xs[i].b := bbs_at _ _ _
      have htk1 : bbs (P.xs.take (i + 1)) = P.L.take (i + 1) := by simp [Pg.L, bbs, List.map_take]
      rw [hLi] at hu2 hus
      have HU : Hid (used (bbs (P.xs.take (i + 1))) = used (bbs (P.xs.take i)) + P.xs[i].b.length) := Lib.hid (by rw [htk, htk1]; exact hus)
      rw [← htk] at hu2
      have HSN := Lib.hid (placedA_snoc P.size P.xs i hlt)
      have HY := hY pre (rcOf P.size (used (bbs (P.xs.take i))) P.xs[i]) wr hj ⟨i, hlt, hpre, rfl⟩ (by rw [hpre, placedA_length, List.length_take]; omega)
      have HPRE := Lib.hid hpre
      unfold Bx.v at hcw
      clear hc hus hLi hpre hLlen htk htk1 HALL hY
      obtain ⟨fn, tmps, assign, body, hy, hR⟩ := HY
      have HHJ := Lib.hid hJ
      have HX := Lib.hid hx0
      have HB := Lib.hid hB
      clear hJ hx0 hB hj hW hb0 h0 a0 a1 d0
      by_cases hb : P.xs[i].b = []
      · have hb0 : P.xs[i].b.length = 0 := by rw [hb]; rfl
        have hat : (rcOf P.size (used (bbs (P.xs.take i))) P.xs[i]).n = 0 := if_pos hb
        have hlen0 : ((P.xs[i].b.length : Nat) : Int) = 0 := by omega
        have hrv : (rcOf P.size (used (bbs (P.xs.take i))) P.xs[i]).v = .slice P.xs[i].A P.xs[i].b.length P.xs[i].c := rfl
        unfold encR at hy
        rw [hat, hrv, show ((0 : Nat) : Int) = 0 from rfl] at hy
        rw [hb0] at HU hy hcw
        generalize rcOf P.size (used (bbs (P.xs.take i))) P.xs[i] = rx at *
        generalize P.xs[i] = x at *
        generalize used (bbs (P.xs.take i)) = u at *
        have hui : (u : Int) ≤ 1024 := by omega
        clear hb hb0 hat hlen0 hrv
        gi_wp2
        refine hR.mono ?_
        rintro r W3 ⟨rfl, hJ3, hk3⟩
        have HJ3 := Lib.hid hJ3
        have HB3 := Lib.hid (HB.out.trans hk3.1)
        have HX3 := Lib.hid (show Whole W3 Bn 24 #[P.ptr] from hk3.2.trans HX.out)
        clear hJ3 hk3 HX HB hR hy
        gi_wp2
        refine ⟨⟨i + 1, pre ++ [rx], by omega, rfl, by rw [HU.out]; rfl, HB3.out, HX3.out, HJ3.out, by rw [HPRE.out]; exact HSN.out.symm⟩, by simp [intOf]; omega⟩
      · have hpos : 0 < P.xs[i].b.length := List.length_pos_iff.2 hb
        have hat : (rcOf P.size (used (bbs (P.xs.take i))) P.xs[i]).n = P.size - (used (bbs (P.xs.take i)) + P.xs[i].b.length) := if_neg hb
        have hrv : (rcOf P.size (used (bbs (P.xs.take i))) P.xs[i]).v = .slice P.xs[i].A P.xs[i].b.length P.xs[i].c := rfl
        have hcast : ((P.size - (used (bbs (P.xs.take i)) + P.xs[i].b.length) : Nat) : Int) = (P.size : Int) - (used (bbs (P.xs.take i)) : Nat) - (P.xs[i].b.length : Nat) := by omega
        unfold encR at hy
        rw [hat, hrv, hcast] at hy
        clear hat hrv hcast hb
        generalize rcOf P.size (used (bbs (P.xs.take i))) P.xs[i] = rx at *
        generalize P.xs[i] = x at *
        generalize used (bbs (P.xs.take i)) = u at *
        generalize x.b.length = m at *
        have hui : (u : Int) ≤ 1024 := by omega
        have hmi : (m : Int) ≤ 1024 := by omega
        have hm0 : ¬ (m : Int) = 0 := by omega
        have hmb : ((m : Int) == 0) = false := by simp; omega
        gi_wp2
        refine hR.mono ?_
        rintro r W3 ⟨rfl, hJ3, hk3⟩
        have HJ3 := Lib.hid hJ3
        have HB3 := Lib.hid (HB.out.trans hk3.1)
        have HX3 := Lib.hid (show Whole W3 Bn 24 #[P.ptr] from hk3.2.trans HX.out)
        clear hJ3 hk3 HX HB hR hy
        gi_wp2
        refine ⟨⟨i + 1, pre ++ [rx], by omega, rfl, by rw [HU.out, Int.natCast_add]; congr 1; omega, HB3.out, HX3.out, HJ3.out, by rw [HPRE.out]; exact HSN.out.symm⟩, by simp [intOf]; omega⟩
    · have hge : ¬ (i : Int) < (P.xs.length : Int) := by omega
      have hfin : Hid (pre = placedA P.size 0 P.xs) := Lib.hid (by rw [hpre, List.take_of_length_le (by omega)])
      have HJ1 := Lib.hid hj
      clear hpre hj hY hJ HALL
      gi_wp2
      go_end0
      have := HJ1.out
      rw [hfin.out] at this
      exact ⟨⟨_, rfl⟩, this⟩
theorem placed_seq (n : Nat) (hn : 1 ≤ n) (Bn : Nat) (w0 W0 : World) (P : Pg) (h : PgAt w0 P) (hB : Below w0.heap.size w0 W0) (hb0 : Whole W0 Bn 24 #[P.ptr]) :
    SeqF Fence.wide n Try.prog 32 #[.pointer (some ⟨Bn, 0, none⟩)] encR (PcIn P) (KpB w0.heap.size Bn) (fun ys => ys = placedA P.size 0 P.xs) P.xs.length W0 := fun l J W hW hJ hY h0 =>
  placed1_in n hn l Bn w0 P h J (fun s W W' hs hb => abides_below hJ s W W' hs hb) hY W (hB.trans (hW.mono hB.size)) (hb0.below hW hb0.lt) h0
end Go.Proofs.Ytjnblkibejmdjaa
