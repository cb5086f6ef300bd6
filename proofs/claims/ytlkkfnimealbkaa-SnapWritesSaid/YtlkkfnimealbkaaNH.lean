/- filled: the pages of a snapshot. -/
import Derived.Test.YtlkkfnimealbkaaNG
namespace Go.Proofs.Ytlkkfnimealbkaa
open Go.RowKit Go.Shelf
open Pag (Pg PgAt)
set_option linter.unusedVariables false
attribute [local go_sem] Oper.semAt_some
/-- the boxes of filled. -/
structure FilBox (w : World) (size most : Nat) (W : World) : Prop where
  b0 : Whole W w.heap.size 3 #[.int .i64 (size : Nat)]
  b1 : Whole W (w.heap.size + 1) 3 #[.int .i64 (most : Nat)]
  b2 : Whole W (w.heap.size + 1 + 1) 57 #[.slice none 0 0]
  b3 : Whole W (w.heap.size + 1 + 1 + 1) 4 #[.bool false]
  below : Below w.heap.size w W
theorem FilBox.ownT {β : Type} (w : World) (size most B : Nat) (hB : w.heap.size ≤ B) : OwnT 85 B (fun (_ : β) W => FilBox w size most W) := fun s W W' row h hg hr =>
  ⟨whole_ownT 85 _ (by decide) B _ (fun _ => _) s W W' row h.b0 hg hr, whole_ownT 85 _ (by decide) B _ (fun _ => _) s W W' row h.b1 hg hr, whole_ownT 85 _ (by decide) B _ (fun _ => _) s W W' row h.b2 hg hr, whole_ownT 85 _ (by decide) B _ (fun _ => _) s W W' row h.b3 hg hr, below_ownT 85 w B hB s W W' row h.below hg hr⟩
theorem FilBox.below_ {w W W' : World} {size most : Nat} (h : FilBox w size most W) (hb : Below W.heap.size W W') : FilBox w size most W' :=
  ⟨h.b0.below hb h.b0.lt, h.b1.below hb h.b1.lt, h.b2.below hb h.b2.lt, h.b3.below hb h.b3.lt, h.below.trans (hb.mono h.below.size)⟩
theorem filI_own (w : World) (size most B : Nat) (hB : w.heap.size ≤ B) : OwnT 85 B (fun (pre : List Pt) W => FilBox w size most W ∧ ∃ v Ps, PgsAt w.heap.size size W v Ps ∧ Whole W (w.heap.size + 1 + 1 + 1 + 1) 57 #[v] ∧ pgLs Ps = pagesOf (pbs pre) ∧ Ps.length ≤ most) := by
  rintro pre W W' row ⟨h1, v, Ps, h2, h3, h4⟩ hg hr
  refine ⟨FilBox.ownT w size most B hB () W W' row h1 hg hr, ?_⟩
  obtain ⟨v', Ps', q1, rfl, rfl⟩ := PgsAt.ownT (β := Unit) w.heap.size size B (fun _ v' Ps' => v' = v ∧ Ps' = Ps) () W W' row ⟨v, Ps, h2, rfl, rfl⟩ hg hr
  exact ⟨v', Ps', q1, whole_ownT 85 _ (by decide) B _ (fun (_ : Unit) => _) () W W' row h3 hg hr, h4⟩
theorem filX_own (w : World) (size most : Nat) (rs : List (List UInt8)) (B : Nat) (hB : w.heap.size ≤ B) : ∀ cd : Code, OwnT 85 B (fun (_ : List Pt) W => cd = .ret ∧ Below w.heap.size w W ∧ Whole W (w.heap.size + 1 + 1) 57 #[.slice none 0 0] ∧ Whole W (w.heap.size + 1 + 1 + 1) 4 #[.bool false] ∧ most < nPages size rs) := by
  rintro cd pre W W' row ⟨h1, h2, h3, h4, h5⟩ hg hr
  exact ⟨h1, below_ownT 85 w B hB () W W' row h2 hg hr, whole_ownT 85 _ (by decide) B _ (fun (_ : Unit) => _) () W W' row h3 hg hr, whole_ownT 85 _ (by decide) B _ (fun (_ : Unit) => _) () W W' row h4 hg hr, h5⟩
theorem filA_own (w : World) (size : Nat) (rs : List (List UInt8)) (B : Nat) {F : Pt → Nat → Act} (pre : List Pt) (x : Pt) (a' : Act) : OwnFrom B (fun (_ : Unit) W => PtIn w size rs pre x W ∧ ∃ Bx, Whole W Bx 73 #[.slice x.A x.p.b.length x.c, .bool x.p.last] ∧ a' = F x Bx) := by
  rintro s W W' row ⟨h1, Bx, h2, h3⟩ hg hr
  exact ⟨h1, Bx, whole_ownT 85 _ (by decide) B _ (fun (_ : Unit) => _) () W W' row h2 hg (fun r e => let ⟨a, o, b, c⟩ := hr r e; ⟨a, o, b, .inl c⟩), h3⟩
theorem ownsRow_cap {w : World} {base : Nat} {e : TypeId} {g n m cap : Nat} {xs : List Value} (h : w.ownsRow base e 1 (.slice (some ⟨g, 0, none⟩) n cap) m xs) : n ≤ cap := by
  rcases h.2 with ⟨h0, -⟩ | ⟨g', cap', cur, e', -, -, h1, -⟩
  · simp at h0
  · simp at e'
    omega
theorem results_pb {fn : Func} {p q : Tmp} (h : fn.results = #[.cell p 57, .cell q 4]) (tmps : Array Value) (w : World) (g g' : Nat) (v u : Value)
    (hp : tmps.getD p undef = .pointer (some ⟨g, 0, none⟩)) (hq : tmps.getD q undef = .pointer (some ⟨g', 0, none⟩)) (hg : Whole w g 57 #[v]) (hg' : Whole w g' 4 #[u]) :
    (results fn tmps).run Try.prog w = .ok (.tuple #[v, u]) w := by
  have hp' : tmps[p]?.getD undef = .pointer (some ⟨g, 0, none⟩) := by simpa using hp
  have hq' : tmps[q]?.getD undef = .pointer (some ⟨g', 0, none⟩) := by simpa using hq
  have hc := hg'.cell 0
  have h0 := hg.cell 0
  simp only [List.getElem?_toArray, List.getElem?_cons_zero] at hc h0
  simp [results, h, hp', hq', asAddr, go_sem, h0, hc]
theorem infoPp : (Try.prog.info? 60).map (fun i => (i.zero, i.size, i.bytes)) = some (some (.pointer none), 1, 8) := by kernel_rfl
theorem keepsFrom_goes {B : Nat} {W W' : World} {P P' : Pg} (h : PgAt W P) (hg : Pag.Goes W W' P P') : KeepsFrom B W W' :=
  ⟨hg.2.2.2.2.size, fun k o _ ho hc => (hg.2.2.2.2.block k (Array.getElem?_eq_some_iff.1 ho).1 (fun hf => by
    obtain ⟨cs, t, hc', _⟩ := h.kinds hf
    rw [ho] at hc'
    cases hc'
    simp [Obj.isCells] at hc)).trans ho⟩
theorem keepsFrom_below {B : Nat} {W W' : World} (hb : Below W.heap.size W W') : KeepsFrom B W W' :=
  ⟨hb.size, fun k o _ ho _ => (hb.block k (Array.getElem?_eq_some_iff.1 ho).1).trans ho⟩
/-- behind an append to the list of pages, and its store, all else stands. -/
theorem appended_same {w1 w2 : World} {n₀ B k : Nat} {v u : Value} {xs : List Value} {tmp : Obj} (hrow : w1.ownsRow n₀ 60 1 v k xs) (hg : (w1.alloc tmp).grownBy w2 v.ownBlock) (j : Nat) (cs : Array Value) (t : TypeId) (z : Nat × Nat) (hj : w1.heap[j]? = some (Obj.cells cs t z)) (ht : t ≠ 60) (hB : j ≠ B) :
    (w2.setCell ⟨B, 0, none⟩ u).heap[j]? = w1.heap[j]? := by
  have hlt := (Array.getElem?_eq_some_iff.1 hj).1
  refine (heap_set_other _ _ _ _ _ hB).trans ((hg.block j (by simp; omega) (fun e => ?_)).trans (Below.heap_alloc _ _ _ hlt))
  obtain ⟨cs', hc⟩ := row_kind hrow e.symm
  rw [hj] at hc
  simp at hc
  exact ht hc.2.1
theorem fil_add {w W3 : World} {size most : Nat} {v3 : Value} {Ps3 : List Pg} {x : Pt} {i : Nat} (hi : i < Ps3.length) (hP : PgsAt w.heap.size size W3 v3 Ps3) (hbx : FilBox w size most W3) (hv : Whole W3 (w.heap.size + 1 + 1 + 1 + 1) 57 #[v3])
    (hheld : Holds W3 x.A x.p.b) (hbl : x.p.b.length ≤ 100000) (hfew : Ps3[i].xs.length < 250) (hleft : 4 + x.p.piece.length ≤ Ps3[i].left) {L : List (List (List UInt8))} (hL : (pgLs Ps3).set i (Ps3[i].L ++ [x.p.piece]) = L) (hmost : Ps3.length ≤ most) (B0 : Nat) :
    Calls Try.prog 41 #[.agg #[.slice x.A x.p.b.length x.c, .bool x.p.last]] W3.drew fun e wq => ∃ A' c', e = .returned (.slice A' x.p.piece.length c') ∧ wq.cell? ⟨w.heap.size + 1 + 1 + 1 + 1, 0, none⟩ = some v3 ∧ (∀ g c, v3 = .slice (some ⟨g, 0, none⟩) Ps3.length c → wq.cell? ⟨g, i, none⟩ = some Ps3[i].ptr) ∧
      Hid (Calls Try.prog 40 #[Ps3[i].ptr, .slice A' x.p.piece.length c'] wq fun e wz => (∃ r, e = .returned r) ∧ Hid (KeepsFrom B0 W3 wz ∧ KpS w.heap.size W3 wz ∧ FilBox w size most wz ∧ ∃ v Ps, PgsAt w.heap.size size wz v Ps ∧ Whole wz (w.heap.size + 1 + 1 + 1 + 1) 57 #[v] ∧ pgLs Ps = L ∧ Ps.length ≤ most)) := by
  have hd : Below W3.heap.size W3 W3.drew := (Below.refl _ _).drew
  refine (piece_any x.A x.c x.p W3.drew (hheld.below hd) hbl).mono ?_
  rintro e wq ⟨v, rfl, hrow, hb⟩
  obtain ⟨A', c', rfl, hh, -, -⟩ := hrow.shape
  have hbq : Below W3.heap.size W3 wq := hd.trans hb
  have hvq := hv.below hbq hv.lt
  have hPq := hP.below hbq
  have hbxq := hbx.below_ hbq
  have cq := hvq.cell 0
  simp only [List.getElem?_toArray, List.getElem?_cons_zero] at cq
  refine ⟨A', c', rfl, cq, fun g c e => ?_, Lib.hid ?_⟩
  · obtain ⟨g', cc, e', _, _, hc⟩ := hPq.at_ i hi
    rw [e] at e'
    cases e'
    exact hc
  have hE := hPq.each _ (List.getElem_mem hi)
  have hp0 : x.p.piece ≠ [] := by simp [Pb.piece]
  refine (Pag.add_ok hE.1 A' c' x.p.piece hh hp0 hfew hleft).mono ?_
  rintro e wz ⟨rfl, P', hg, hPL⟩
  have hst := Pag.Goes.still hE.1 hg
  have hsz : w.heap.size ≤ wq.heap.size := Nat.le_trans hbx.below.size hbq.size
  have hbz : Below w.heap.size wq wz := ⟨hg.2.2.2.2.os, hg.2.2.2.2.tape, hg.2.2.2.2.output, hg.2.2.2.2.size, fun k hk => hg.2.2.2.2.block k (by omega) (fun hf => by have := hE.2.2 k hf; omega)⟩
  refine ⟨⟨_, rfl⟩, Lib.hid ⟨(keepsFrom_below hbq).trans (keepsFrom_goes hE.1 hg), ⟨(hbq.mono hbx.below.size).trans hbz, (KeepsT.below hbq).trans fun k cs z e => hst.block k cs _ z e (by decide) (by decide)⟩, ?_, v3, Ps3.set i P', hPq.goes hsz i hi hg, ?_, ?_, by simpa using hmost⟩⟩
  · exact ⟨(hst.block _ _ _ _ hbxq.b0 (by decide) (by decide)).trans hbxq.b0, (hst.block _ _ _ _ hbxq.b1 (by decide) (by decide)).trans hbxq.b1, (hst.block _ _ _ _ hbxq.b2 (by decide) (by decide)).trans hbxq.b2, (hst.block _ _ _ _ hbxq.b3 (by decide) (by decide)).trans hbxq.b3, hbxq.below.trans hbz⟩
  · exact (hst.block _ _ _ _ hvq (by decide) (by decide)).trans hvq
  · rw [pgLs_set, hPL, hL]
set_option maxRecDepth 100000 in
set_option maxHeartbeats 2000000 in
theorem filled_in {w : World} (size most : Nat) (h1 : 64 ≤ size) (h2 : size ≤ 1024) (A : Option Addr) (c : Nat) (rs : List (List UInt8)) (hR : Recs w A rs) (hrs : rs.length ≤ 1000000) (hrl : ∀ r ∈ rs, r.length ≤ 1000000) (hT : (partsL size rs).length ≤ 1000000000) (hm : most ≤ 1000000) :
    CallsIn Fence.wide 5 Try.prog 23 #[.int .i64 (size : Nat), .int .i64 (most : Nat), .slice A rs.length c] w fun e w' => Below w.heap.size w w' ∧
      ((∃ v Ps, e = .returned (.tuple #[v, .bool true]) ∧ nPages size rs ≤ most ∧ PgsAt w.heap.size size w' v Ps ∧ pgLs Ps = pagesOf (partsL size rs)) ∨ (e = .returned (.tuple #[.slice none 0 0, .bool false]) ∧ most < nPages size rs)) := by
  refine callsIn_of_wp_marks Try.func23 rfl trivial ?_ rfl
  simp only [Try.ntmps23, List.size_toArray, List.length_cons, List.length_nil, Nat.reduceAdd, Nat.reduceSub, Array.replicate_succ, Array.replicate_zero, List.push_toArray, List.append_toArray, List.nil_append, List.cons_append]
  gi_wp2_with ((try refine ⟨trivial, ?_⟩); gi_at_call 21; refine (parts_in Fence.wide _ trivial rfl _ _ _ _ _).mono ?_; rintro e w' ⟨rfl, rfl⟩)
  have b0 : Below w.heap.size w (((((((w.alloc (.cells #[.int .i64 (size : Nat)] 3)).alloc (.cells #[.int .i64 (most : Nat)] 3)).alloc (.cells #[.slice none 0 0] 57)).alloc (.cells #[.bool false] 4)).alloc (.cells #[.slice none 0 0] 57)).alloc (.cells #[.int .i64 (size : Nat)] 3)).alloc (.cells #[.slice A rs.length c] 22)) := ((((((((Below.refl _ w).alloc (by simp <;> omega) (.cells #[.int .i64 (size : Nat)] 3)).alloc (by simp <;> omega) (.cells #[.int .i64 (most : Nat)] 3)).alloc (by simp <;> omega) (.cells #[.slice none 0 0] 57)).alloc (by simp <;> omega) (.cells #[.bool false] 4)).alloc (by simp <;> omega) (.cells #[.slice none 0 0] 57)).alloc (by simp <;> omega) (.cells #[.int .i64 (size : Nat)] 3)).alloc (by simp <;> omega) (.cells #[.slice A rs.length c] 22))
  have k0 := (((((((Whole.new w 3 #[.int .i64 (size : Nat)]).alloc (.cells #[.int .i64 (most : Nat)] 3)).alloc (.cells #[.slice none 0 0] 57)).alloc (.cells #[.bool false] 4)).alloc (.cells #[.slice none 0 0] 57)).alloc (.cells #[.int .i64 (size : Nat)] 3)).alloc (.cells #[.slice A rs.length c] 22))
  have k1 := ((((((Whole.new (w.alloc (.cells #[.int .i64 (size : Nat)] 3)) 3 #[.int .i64 (most : Nat)]).alloc (.cells #[.slice none 0 0] 57)).alloc (.cells #[.bool false] 4)).alloc (.cells #[.slice none 0 0] 57)).alloc (.cells #[.int .i64 (size : Nat)] 3)).alloc (.cells #[.slice A rs.length c] 22))
  have k2 := (((((Whole.new ((w.alloc (.cells #[.int .i64 (size : Nat)] 3)).alloc (.cells #[.int .i64 (most : Nat)] 3)) 57 #[.slice none 0 0]).alloc (.cells #[.bool false] 4)).alloc (.cells #[.slice none 0 0] 57)).alloc (.cells #[.int .i64 (size : Nat)] 3)).alloc (.cells #[.slice A rs.length c] 22))
  have k3 := ((((Whole.new (((w.alloc (.cells #[.int .i64 (size : Nat)] 3)).alloc (.cells #[.int .i64 (most : Nat)] 3)).alloc (.cells #[.slice none 0 0] 57)) 4 #[.bool false]).alloc (.cells #[.slice none 0 0] 57)).alloc (.cells #[.int .i64 (size : Nat)] 3)).alloc (.cells #[.slice A rs.length c] 22))
  have k4 := (((Whole.new ((((w.alloc (.cells #[.int .i64 (size : Nat)] 3)).alloc (.cells #[.int .i64 (most : Nat)] 3)).alloc (.cells #[.slice none 0 0] 57)).alloc (.cells #[.bool false] 4)) 57 #[.slice none 0 0]).alloc (.cells #[.int .i64 (size : Nat)] 3)).alloc (.cells #[.slice A rs.length c] 22))
  have k5 := ((Whole.new (((((w.alloc (.cells #[.int .i64 (size : Nat)] 3)).alloc (.cells #[.int .i64 (most : Nat)] 3)).alloc (.cells #[.slice none 0 0] 57)).alloc (.cells #[.bool false] 4)).alloc (.cells #[.slice none 0 0] 57)) 3 #[.int .i64 (size : Nat)]).alloc (.cells #[.slice A rs.length c] 22))
  have k6 := (Whole.new ((((((w.alloc (.cells #[.int .i64 (size : Nat)] 3)).alloc (.cells #[.int .i64 (most : Nat)] 3)).alloc (.cells #[.slice none 0 0] 57)).alloc (.cells #[.bool false] 4)).alloc (.cells #[.slice none 0 0] 57)).alloc (.cells #[.int .i64 (size : Nat)] 3)) 22 #[.slice A rs.length c])
  simp only [World.size_alloc] at k0 k1 k2 k3 k4 k5 k6
  generalize (((((((w.alloc (.cells #[.int .i64 (size : Nat)] 3)).alloc (.cells #[.int .i64 (most : Nat)] 3)).alloc (.cells #[.slice none 0 0] 57)).alloc (.cells #[.bool false] 4)).alloc (.cells #[.slice none 0 0] 57)).alloc (.cells #[.int .i64 (size : Nat)] 3)).alloc (.cells #[.slice A rs.length c] 22)) = W0 at *
  refine wpIn_rangeFunc_X rfl (by omega) (gf := 35) rfl trivial (enters_of Try.func35 (by kernel_rfl) rfl)
    (parts_seq 4 (by omega) (w.heap.size + 1 + 1 + 1 + 1 + 1) w W0 size h1 h2 A c rs hR hrs hrl hT b0 k5 k6) KpS.trans (kpS_b b0.size) (Below.refl _ _) (fun _ => rfl)
    (fun pre W => FilBox w size most W ∧ ∃ v Ps, PgsAt w.heap.size size W v Ps ∧ Whole W (w.heap.size + 1 + 1 + 1 + 1) 57 #[v] ∧ pgLs Ps = pagesOf (pbs pre) ∧ Ps.length ≤ most)
    (fun cd _ W => cd = .ret ∧ Below w.heap.size w W ∧ Whole W (w.heap.size + 1 + 1) 57 #[.slice none 0 0] ∧ Whole W (w.heap.size + 1 + 1 + 1) 4 #[.bool false] ∧ most < nPages size rs)
    (filI_own w size most _ b0.size) (filX_own w size most rs _ b0.size) ⟨⟨k0, k1, k2, k3, b0⟩, _, [], PgsAt.nil _ _ _, k4, rfl, Nat.zero_le _⟩
    (fun pre x a' W => PtIn w size rs pre x W ∧ ∃ Bx, Whole W Bx 73 #[.slice x.A x.p.b.length x.c, .bool x.p.last] ∧ a' = { tmps := #[.int .i64 (size : Nat), .int .i64 (most : Nat), .slice A rs.length c, .pointer (some ⟨w.heap.size, 0, none⟩), .pointer (some ⟨w.heap.size + 1, 0, none⟩), undef, .pointer (some ⟨w.heap.size + 1 + 1, 0, none⟩), .pointer (some ⟨w.heap.size + 1 + 1 + 1, 0, none⟩), .pointer (some ⟨w.heap.size + 1 + 1 + 1 + 1, 0, none⟩), .int .i64 (x.p.n : Nat), .pointer (some ⟨Bx, 0, none⟩), undef, undef, .int .i64 (size : Nat), .slice A rs.length c, .func (.func 35) #[] #[.pointer (some ⟨w.heap.size + 1 + 1 + 1 + 1 + 1, 0, none⟩), .pointer (some ⟨w.heap.size + 1 + 1 + 1 + 1 + 1 + 1, 0, none⟩)], .int .i64 (x.p.n : Nat), x.v, undef, undef, undef, undef, undef, undef, undef, undef, undef, undef, undef, undef, undef, undef, undef, undef, undef, undef, undef, undef, undef, undef, undef, undef], defers := [] })
    (filA_own w size rs _)
    ?assign ?body ?done ?stop
  case assign =>
    rintro l pre x W K ⟨hbx, v, Ps, hp, hv, hl, hf⟩ hx hK
    gi_wp2
    have al : Below W.heap.size W (W.alloc (.cells #[.slice x.A x.p.b.length x.c, .bool x.p.last] 73)) := (Below.refl _ _).alloc (Nat.le_refl _) _
    exact hK _ _ ((KeepsOthers.alloc _ _).from _) ⟨al.mono hbx.below.size, KeepsT.below al⟩ ⟨hbx.below_ al, v, Ps, hp.below al, hv.below al hv.lt, hl, hf⟩ ⟨hx, W.heap.size, Whole.new W _ _, rfl⟩
  case body =>
    rintro l pre x a' W ⟨hbx, v, Ps, hp, hv, hl, hf⟩ ⟨⟨hpre, hheld⟩, Bx, hB, rfl⟩
    have c4 := hv.cell 0
    have c1 := hbx.b1.cell 0
    have c0 := hbx.b0.cell 0
    simp only [List.getElem?_toArray, List.getElem?_cons_zero] at c4 c1 c0
    obtain ⟨A4, cap4, rfl, hcap4⟩ := hp.shape
    have hnum := parts_num h1 hpre
    have hOK := pgs_pre (whole := size - 1) (by omega) (partsL_ok h1 rs) (pbs pre) ((List.prefix_append _ _).trans hpre)
    obtain ⟨hOK2, hstep⟩ := pgs_step (whole := size - 1) (by omega) hOK (ok_next (partsL_ok h1 rs) hpre)
    have hlen : Ps.length = (pagesOf (pbs pre)).length := by rw [← hl, pgLs_len]
    have hsome := pages_some h1 hpre
    have HH := Lib.hid (And.intro hbx (And.intro hp (And.intro hv (And.intro hl (And.intro hB hheld)))))
    have HPRE := Lib.hid hpre
    have HST := Lib.hid hstep
    have hn1 : x.p.n ≤ Ps.length := by rcases hstep with ⟨a, -⟩ | ⟨-, a, -⟩ <;> omega
    have hn1i : (x.p.n : Int) ≤ 1000000 := by omega
    have hmi : (most : Int) ≤ 1000000 := by omega
    have hl4 : (Ps.length : Int) ≤ 1000000 := by omega
    clear hbx hp hv hl hB hheld hpre hstep hOK2 hR k0 k1 k2 k3 k4 k5 k6
    by_cases hmost : x.p.n = most
    · have hmb : ((x.p.n : Int) == (most : Nat)) = true := by simp [hmost]
      have f2 := HH.out.1.b2.frozen 0
      have f3 := HH.out.1.b3.frozen 0
      have g2 := HH.out.1.b2.cell 0
      have g3 := HH.out.1.b3.cell 0
      simp only [List.getElem?_toArray, List.getElem?_cons_zero] at g2 g3
      gi_wp2
      have Hb := HH.out.1
      refine ⟨((KeepsOthers.setCell _ _ _).trans (KeepsOthers.setCell _ _ _)).from _, rfl, ((Hb.below.setCell (p := ⟨w.heap.size + 1 + 1, 0, none⟩) (by simp; omega) _).setCell (p := ⟨w.heap.size + 1 + 1 + 1, 0, none⟩) (by simp; omega) _), (Hb.b2.set_ 0 _).far (p := ⟨w.heap.size + 1 + 1 + 1, 0, none⟩) (by simp) _, (Hb.b3.far (p := ⟨w.heap.size + 1 + 1, 0, none⟩) (by simp) _).set_ 0 _, by omega⟩
    · have hmb : ((x.p.n : Int) == (most : Nat)) = false := by simp; omega
      have hmx : Try.prog.follows .mixedOrders = true := by kernel_rfl
      rcases HST.out with ⟨hn2, hpg, hfit⟩ | ⟨hne, hn2, hpg, hfit⟩
      · have hlb : ((x.p.n : Int) == (Ps.length : Nat)) = true := by simp; omega
        have NEW := Lib.hid (Pag.new_good size h1 h2 W)
        have HEQ := Lib.hid (And.intro hn2 (And.intro hlen hpg))
        have hltm : Ps.length < most := by omega
        have hxe : Hid (x.p.n = Ps.length) := Lib.hid (by omega)
        clear HST hn2 hlen hpg
        gi_wp2
        refine ⟨trivial, ?_⟩
        refine (CallsIn.inRound l (callsIn_wide.2 NEW.out)).mono ?_
        rintro e w1 ⟨rfl, hNP, hb1⟩
        obtain ⟨hbx, hp, hv, hl, hB, hheld⟩ := HH.out
        have hbx1 := hbx.below_ hb1
        have hp1 := hp.below hb1
        have hv1 := hv.below hb1 hv.lt
        have hB1 := hB.below hb1 hB.lt
        have d4 := hv1.cell 0
        have d0 := hbx1.b0.cell 0
        simp only [List.getElem?_toArray, List.getElem?_cons_zero] at d4 d0
        obtain ⟨i0, hi, hz0, hz1, hz2⟩ := info_parts infoPp
        have hrow := hp1.row
        have HF0 := Lib.hid hp
        have hsz1 := hb1.size
        have hbs := hbx.below.size
        have HF := Lib.hid (And.intro hbx1 (And.intro hp1 (And.intro hv1 (And.intro hB1 (And.intro hNP (And.intro hb1 (And.intro hl hheld)))))))
        clear hbx hp hv hl hB hheld hbx1 hp1 hv1 hB1 hNP hb1 NEW HH c4 c1 c0
        gi_wp2_with (gi_at_builtin; refine wpListIn_append_own _ rfl _ _ 57 rfl w.heap.size 60 i0 (.pointer none) 1 8 Try.underlying57 hi hz0 hz1 hz2 rfl (by decide) (.slice A4 Ps.length cap4) Ps.length (ptrs Ps) rfl (hrow.alloc _) ⟨w1.heap.size, 0, none⟩ 1 1 [.pointer (some ⟨W.heap.size, 0, none⟩)] rfl rfl (cell_one_new _ _ _) (by simp [Value.oneCell']) (by unfold maxLen; omega) (by omega) (by simp; omega) ?_; intro v' w2 hown' hgrow _; obtain ⟨g', cap', rfl⟩ := Go.ownsRow_succ hown'; obtain ⟨hv1, hv2, hr2, hk2, hb2⟩ := Boxed.appended (B := w.heap.size + 1 + 1 + 1 + 1) (t := 57) (n₀ := w.heap.size) HF.out.2.2.1 (by decide) hrow (by omega) (by omega) hown' hgrow; have hc1 := hv1.cell; have hf1 := hv1.frozen)
        have same := fun j cs t z hj ht hB => appended_same (B := w.heap.size + 1 + 1 + 1 + 1) (u := .slice (some ⟨g', 0, none⟩) (Ps.length + 1) cap') hrow hgrow j cs t z hj ht hB
        have hcap' : Ps.length + 1 ≤ cap' := ownsRow_cap hr2
        generalize w2.setCell ⟨w.heap.size + 1 + 1 + 1 + 1, 0, none⟩ (.slice (some ⟨g', 0, none⟩) (Ps.length + 1) cap') = W3 at *
        obtain ⟨hbx1, hp1, hv1', hB1, hNP, hb1, hl, hheld⟩ := HF.out
        have hbx3 : FilBox w size most W3 := ⟨(same _ _ _ _ hbx1.b0 (by decide) (by omega)).trans hbx1.b0, (same _ _ _ _ hbx1.b1 (by decide) (by omega)).trans hbx1.b1, (same _ _ _ _ hbx1.b2 (by decide) (by omega)).trans hbx1.b2, (same _ _ _ _ hbx1.b3 (by decide) (by omega)).trans hbx1.b3, hbx1.below.trans hb2⟩
        have hp3 : PgsAt w.heap.size size W3 (.slice (some ⟨g', 0, none⟩) (Ps.length + 1) cap') (Ps ++ [Pag.newP W.heap.size size]) :=
          (show PgsAt w.heap.size size W _ Ps from HF0.out).more hNP rfl (by simp [Pag.foot, Pag.newP, Value.ownBlock]) hbs hb1 (fun k cs t z e ht => same k cs t z e (by rcases ht with rfl | rfl | rfl <;> decide) (fun ek => by
            subst ek
            have h9 := hv1'
            unfold Whole at h9
            rw [e] at h9
            simp at h9
            rcases ht with rfl | rfl | rfl <;> simp at h9)) hr2
        have hB3 : Whole W3 Bx 73 #[.slice x.A x.p.b.length x.c, .bool x.p.last] := (same _ _ _ _ hB1 (by decide) (fun ek => by subst ek; have h9 := hv1'; unfold Whole at h9 hB1; rw [hB1] at h9; simp at h9)).trans hB1
        have hKF : KeepsFrom W0.heap.size W W3 := (keepsFrom_below hb1).trans (hk2.from _)
        have hKS : KpS w.heap.size W W3 := ⟨(hb1.mono hbs).trans hb2, (KeepsT.below hb1).trans fun k cs z e => same k cs _ z e (by decide) (fun ek => by subst ek; have h9 := hv1'; unfold Whole at h9; rw [e] at h9; simp at h9)⟩
        have hil : x.p.n < (Ps ++ [Pag.newP W.heap.size size]).length := by rw [List.length_append, List.length_singleton]; omega
        have hxe2 := hxe.out
        have hget : (Ps ++ [Pag.newP W.heap.size size])[x.p.n] = Pag.newP W.heap.size size := by
          rw [List.getElem_append_right (by omega)]
          simp
        clear hxe2
        have ADD := fil_add (x := x) hil hp3 hbx3 hv2 (hheld.below hbx3.below) (by omega) (by rw [hget]; simp [Pag.newP]) (by rw [hget, piece_length]; simp [Pag.newP, Pag.Pg.left, Pag.Pg.L, Pag.bbs, Pag.used]; omega) (L := pagesOf (pbs (pre ++ [x]))) (by
          rw [pbs_snoc, hget, HEQ.out.2.2, pgLs_snoc, hl]
          have e1 : x.p.n = (pagesOf (pbs pre)).length := HEQ.out.1
          rw [e1]
          simp [Pag.newP, Pag.Pg.L, Pag.bbs]) (by rw [List.length_append, List.length_singleton]; omega) W0.heap.size
        rw [hget] at ADD
        have d5 := hv2.cell
        have x0 := hB3.cell 0
        have x1 := hB3.cell 1
        simp only [List.getElem?_toArray, List.getElem?_cons_zero, List.getElem?_cons_succ] at x0 x1
        obtain ⟨g3, cc3, e3, hg3, hcc3, cg3⟩ := hp3.at_ _ hil
        rw [hget] at cg3
        have e4 : (Ps ++ [Pag.newP W.heap.size size]).length = Ps.length + 1 := by simp
        rw [e4] at e3
        obtain ⟨-, -, -⟩ : g3 = g' ∧ True ∧ cc3 = cap' := by simp at e3; exact ⟨e3.1.symm, trivial, e3.2.symm⟩
        have e5 : g3 = g' := by simp at e3; exact e3.1.symm
        subst e5
        have ADDH := Lib.hid ADD
        have FX := Lib.hid (And.intro hKF (And.intro hKS HPRE.out))
        have hil2 : (x.p.n : Int) < ((Ps.length : Int) + 1) := by omega
        clear hp3 hbx3 hB3 hKF hKS ADD hv2 same hg3 e3 hr2 hk2 hb2 hown' hgrow hv1 hc1 hf1 hbx1 hp1 hv1' hB1 hNP hb1 hl hheld hrow HF HF0 d4 d0
        rw [show (Pag.newP W.heap.size size).ptr = .pointer (some ⟨W.heap.size, 0, none⟩) from rfl] at cg3 ADDH
        have hxe3 := hxe
        clear hxe
        gi_wp2
        gi_region_with_o (first | ((try refine ⟨trivial, ?_⟩); gi_at_call 41; refine (CallsIn.inRound l (callsIn_wide.2 ADDH.out)).mono ?_; rintro e wq ⟨A', c', rfl, q4, qg, QA⟩; have qg' := qg _ _ (by rw [e4]); clear qg) | ((try refine ⟨trivial, ?_⟩); gi_at_call 40; refine (CallsIn.inRound l (callsIn_wide.2 QA.out)).mono ?_; rintro e wz ⟨⟨r, rfl⟩, FIN⟩))
        all_goals exact ⟨FX.out.1.trans FIN.out.1, FX.out.2.1.trans FIN.out.2.1, FIN.out.2.2.1, FIN.out.2.2.2⟩
      · have hlb : ((x.p.n : Int) == (Ps.length : Nat)) = false := by simp; omega
        obtain ⟨hbx, hp, hv, hl, hB, hheld⟩ := HH.out
        have hil : x.p.n < Ps.length := by omega
        have hE := hp.each _ (List.getElem_mem hil)
        have hLi : (pagesOf (pbs pre)).getD x.p.n [] = Ps[x.p.n].L := by
          rw [← hl]
          simp [pgLs, hil]
        have h5 := hOK.five ((pagesOf (pbs pre)).getD x.p.n []) (by
          have hlt : x.p.n < (pagesOf (pbs pre)).length := by omega
          simp only [List.getD, List.getElem?_eq_getElem hlt, Option.getD_some]
          exact List.getElem_mem hlt)
        rw [hLi] at h5 hfit hpg
        have hxl : Ps[x.p.n].L.length = Ps[x.p.n].xs.length := Pag.bbs_len _
        have hEs := hE.2.1
        have ADD := fil_add (x := x) hil hp hbx hv (hheld.below hbx.below) (by omega) (by omega) (by rw [piece_length]; unfold Pag.Pg.left; rw [← hxl, hEs]; omega) (L := pagesOf (pbs (pre ++ [x]))) (by rw [pbs_snoc, hpg, hl]) hf W0.heap.size
        have x0 := hB.cell 0
        have x1 := hB.cell 1
        simp only [List.getElem?_toArray, List.getElem?_cons_zero, List.getElem?_cons_succ] at x0 x1
        obtain ⟨g3, cc3, e3, hg3, hcc3, cg3⟩ := hp.at_ _ hil
        cases e3
        have ADDH := Lib.hid ADD
        have hil2 : (x.p.n : Int) < (Ps.length : Int) := by omega
        clear hp hbx hB ADD hv hg3 hl hheld HH hE hLi h5 hxl hEs hn2 hpg hfit hlen HST
        rw [show Ps[x.p.n].ptr = .pointer (some ⟨Ps[x.p.n].p, 0, none⟩) from rfl] at cg3 ADDH
        gi_wp2
        gi_region_with_o (first | ((try refine ⟨trivial, ?_⟩); gi_at_call 41; refine (CallsIn.inRound l (callsIn_wide.2 ADDH.out)).mono ?_; rintro e wq ⟨A', c', rfl, q4, qg, QA⟩; have qg' := qg _ _ rfl; clear qg) | ((try refine ⟨trivial, ?_⟩); gi_at_call 40; refine (CallsIn.inRound l (callsIn_wide.2 QA.out)).mono ?_; rintro e wz ⟨⟨r, rfl⟩, FIN⟩))
        all_goals exact ⟨FIN.out.1, FIN.out.2.1, FIN.out.2.2.1, FIN.out.2.2.2⟩
  case done =>
    rintro D ys W hD hys ⟨hbx, v, Ps, hp, hv, hl, hf⟩ hK
    rw [hys] at hl
    obtain ⟨A4, cap4, rfl, hcap4⟩ := hp.shape
    have hnm : nPages size rs ≤ most := by unfold nPages; rw [← hl, pgLs_len]; exact hf
    have c4 := hv.cell 0
    have f2 := hbx.b2.frozen 0
    have f3 := hbx.b3.frozen 0
    have g2 := hbx.b2.cell 0
    have g3 := hbx.b3.cell 0
    simp only [List.getElem?_toArray, List.getElem?_cons_zero] at c4 g2 g3
    have HH := Lib.hid (And.intro hbx (And.intro hp (And.intro hl hK)))
    clear hbx hp hv hl hK
    gi_wp2
    obtain ⟨hbx, hp, hl, hK⟩ := HH.out
    have hne2 : D ≠ w.heap.size + 1 + 1 := fun e => by have h9 := hbx.b2; unfold Whole at h9; rw [e, h9] at hK; cases hK
    have hne3 : D ≠ w.heap.size + 1 + 1 + 1 := fun e => by have h9 := hbx.b3; unfold Whole at h9; rw [e, h9] at hK; cases hK
    have hK2 : ((W.setCell ⟨w.heap.size + 1 + 1, 0, none⟩ (.slice A4 Ps.length cap4)).setCell ⟨w.heap.size + 1 + 1 + 1, 0, none⟩ (.bool true)).heap[D]? = some (.deferred (some [])) :=
      (heap_set_other _ _ _ _ _ hne3).trans ((heap_set_other _ _ _ _ _ hne2).trans hK)
    have F2 : Whole ((W.setCell ⟨w.heap.size + 1 + 1, 0, none⟩ (.slice A4 Ps.length cap4)).setCell ⟨w.heap.size + 1 + 1 + 1, 0, none⟩ (.bool true)) (w.heap.size + 1 + 1) 57 #[.slice A4 Ps.length cap4] := (hbx.b2.set_ 0 _).far (p := ⟨w.heap.size + 1 + 1 + 1, 0, none⟩) (by simp) _
    have F3 : Whole ((W.setCell ⟨w.heap.size + 1 + 1, 0, none⟩ (.slice A4 Ps.length cap4)).setCell ⟨w.heap.size + 1 + 1 + 1, 0, none⟩ (.bool true)) (w.heap.size + 1 + 1 + 1) 4 #[.bool true] := (hbx.b3.far (p := ⟨w.heap.size + 1 + 1, 0, none⟩) (by simp) _).set_ 0 _
    have FB := (hbx.below.setCell (p := ⟨w.heap.size + 1 + 1, 0, none⟩) (by simp; omega) (.slice A4 Ps.length cap4)).setCell (p := ⟨w.heap.size + 1 + 1 + 1, 0, none⟩) (by simp; omega) (.bool true)
    have FP : PgsAt w.heap.size size ((W.setCell ⟨w.heap.size + 1 + 1, 0, none⟩ (.slice A4 Ps.length cap4)).setCell ⟨w.heap.size + 1 + 1 + 1, 0, none⟩ (.bool true)) (.slice A4 Ps.length cap4) Ps := hp.other fun k cs t z e ht => by
      refine (heap_set_other _ _ _ _ _ (fun ek => ?_)).trans (heap_set_other _ _ _ _ _ (fun ek => ?_))
      · subst ek; have h9 := hbx.b3; unfold Whole at h9; rw [e] at h9; simp at h9; rcases ht with rfl | rfl | rfl | rfl <;> simp at h9
      · subst ek; have h9 := hbx.b2; unfold Whole at h9; rw [e] at h9; simp at h9; rcases ht with rfl | rfl | rfl | rfl <;> simp at h9
    generalize ((W.setCell ⟨w.heap.size + 1 + 1, 0, none⟩ (.slice A4 Ps.length cap4)).setCell ⟨w.heap.size + 1 + 1 + 1, 0, none⟩ (.bool true)) = Wf at *
    refine ⟨by simp, .inl ⟨_, _, rfl, run_takeDeferred hK2, ?_⟩⟩
    have e2 : (Wf.putObj D (.deferred none)).heap[w.heap.size + 1 + 1]? = Wf.heap[w.heap.size + 1 + 1]? := World.putObj_heap_other (by omega)
    have e3 : (Wf.putObj D (.deferred none)).heap[w.heap.size + 1 + 1 + 1]? = Wf.heap[w.heap.size + 1 + 1 + 1]? := World.putObj_heap_other (by omega)
    refine ⟨_, results_pb rfl _ _ (w.heap.size + 1 + 1) (w.heap.size + 1 + 1 + 1) _ _ rfl rfl (e2.trans F2) (e3.trans F3), FB.trans (belowK_b (w := W0) b0.size _ D _ _ hD hK2 rfl rfl), .inl ⟨_, Ps, rfl, hnm, FP.other fun k cs t z e _ => World.putObj_heap_other (fun ek => ?_), hl⟩⟩
    subst ek
    rw [hK2] at e
    cases e
  case stop =>
    rintro D cd pre W hD ⟨rfl, hB, h2, h3, hn⟩ hK
    gi_wp2
    refine ⟨by simp, .inl ⟨_, _, rfl, run_takeDeferred hK, ?_⟩⟩
    have hne2 : w.heap.size + 1 + 1 ≠ D := fun e => by unfold Whole at h2; rw [e, hK] at h2; cases h2
    have hne3 : w.heap.size + 1 + 1 + 1 ≠ D := fun e => by unfold Whole at h3; rw [e, hK] at h3; cases h3
    have e2 : (W.putObj D (.deferred none)).heap[w.heap.size + 1 + 1]? = W.heap[w.heap.size + 1 + 1]? := World.putObj_heap_other hne2
    have e3 : (W.putObj D (.deferred none)).heap[w.heap.size + 1 + 1 + 1]? = W.heap[w.heap.size + 1 + 1 + 1]? := World.putObj_heap_other hne3
    exact ⟨_, results_pb rfl _ _ (w.heap.size + 1 + 1) (w.heap.size + 1 + 1 + 1) _ _ rfl rfl (e2.trans h2) (e3.trans h3), hB.trans (belowK_b (w := W0) b0.size _ D _ _ hD hK rfl rfl), .inr ⟨rfl, hn⟩⟩
theorem filled_any {w : World} (size most : Nat) (h1 : 64 ≤ size) (h2 : size ≤ 1024) (A : Option Addr) (c : Nat) (rs : List (List UInt8)) (hR : Recs w A rs) (hrs : rs.length ≤ 1000000) (hrl : ∀ r ∈ rs, r.length ≤ 1000000) (hT : (partsL size rs).length ≤ 1000000000) (hm : most ≤ 1000000) :
    Calls Try.prog 23 #[.int .i64 (size : Nat), .int .i64 (most : Nat), .slice A rs.length c] w fun e w' => Below w.heap.size w w' ∧
      ((∃ v Ps, e = .returned (.tuple #[v, .bool true]) ∧ nPages size rs ≤ most ∧ PgsAt w.heap.size size w' v Ps ∧ pgLs Ps = pagesOf (partsL size rs)) ∨ (e = .returned (.tuple #[.slice none 0 0, .bool false]) ∧ most < nPages size rs)) := callsIn_wide.1 (filled_in size most h1 h2 A c rs hR hrs hrl hT hm)
end Go.Proofs.Ytlkkfnimealbkaa
