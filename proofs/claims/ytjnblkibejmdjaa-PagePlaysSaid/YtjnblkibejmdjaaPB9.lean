/- written: the bytes of a page. -/
import Derived.Test.YtjnblkibejmdjaaPB8
import Derived.Test.YtjnblkibejmdjaaPBC
import Derived.RangeFuncCalls
namespace Go.Proofs.Ytjnblkibejmdjaa
open Go.RowKit Go.Shelf
set_option linter.unusedVariables false
attribute [local go_sem] Oper.semAt_some
/-- what the rounds keep. -/
structure WrI (w : World) (P : Pg) (pre : List Rc) (W : World) : Prop where
  bytes : BB W w.heap.size (stB P.size P.xs.length (pre.map fun x => x.b))
  box : Whole W (w.heap.size + 1) 29 #[.slice (some ⟨w.heap.size, 0, none⟩) P.size P.size]
  slot : ∃ o, Whole W (w.heap.size + 2) 29 #[.slice (some ⟨w.heap.size, o, none⟩) (P.size - 1 - 4 * pre.length) (P.size - 1 - 4 * pre.length)] ∧ (pre.length < P.xs.length → o = 1 + 4 * pre.length)
  below : Below w.heap.size w W
  size : w.heap.size + 4 ≤ W.heap.size
theorem wrI_own (w : World) (P : Pg) (B : Nat) (hB : w.heap.size ≤ B) : OwnFrom B (WrI w P) := by
  rintro pre W W' row ⟨h1, h2, ⟨o, h3, h4⟩, h5, h6⟩ hg hr
  have hne : ∀ b cs ty, W.heap[b]? = some (.cells cs ty (0, 0)) → some b ≠ row := fun b cs ty hb e => by
    obtain ⟨_, o, ho, h⟩ := hr b e.symm
    rw [hb] at ho
    cases ho
    simp [Obj.isCells] at h
  exact ⟨(hg.block _ (Whole.lt h1) (hne _ _ _ h1)).trans h1, (hg.block _ h2.lt (hne _ _ _ h2)).trans h2, ⟨o, (hg.block _ h3.lt (hne _ _ _ h3)).trans h3, h4⟩, h5.grown hg h5.size (fun k e => Nat.le_trans hB (hr k e).1), Nat.le_trans h6 hg.size⟩
theorem kpB_b {n₀ Bn : Nat} {w : World} (hn : n₀ ≤ w.heap.size) (hBn : Bn < w.heap.size) (W : World) (l : Nat) (o o' : Obj) (hl : w.heap.size ≤ l) (_ : W.heap[l]? = some o) (_ : o.isCells = false) : KpB n₀ Bn W (W.putObj l o') :=
  ⟨⟨rfl, rfl, rfl, by simp [World.putObj], fun k hk => World.putObj_heap_other (by omega)⟩, World.putObj_heap_other (by omega)⟩
theorem Whole.touch {w w' : World} {k g : Nat} {t : TypeId} {cs : Array Value} (h : Whole w k t cs) (ht : Touch [g] w w') (hk : k ≠ g) : Whole w' k t cs := (ht.block k h.lt (by simp [hk])).trans h
theorem Touch.belowAt {w w' : World} {g B : Nat} (ht : Touch [g] w w') (hB : B ≤ g) (hw : B ≤ w.heap.size) : Below B w w' :=
  ⟨ht.os, ht.tape, ht.output, ht.size, fun k hk => ht.block k (by omega) (by simp; omega)⟩
theorem Touch.keeps {w w' : World} {g B : Nat} (ht : Touch [g] w w') (hg : g < B) : KeepsFrom B w w' :=
  ⟨ht.size, fun k o hk ho _ => (ht.block k (Array.getElem?_eq_some_iff.1 ho).1 (by simp; omega)).trans ho⟩
theorem wr_finish {w W V : World} {P : Pg} {pre : List Rc} {x : Rc} {m o : Nat} {y : Value} (h6 : w.heap.size + 4 ≤ W.heap.size) (h2 : Whole W (w.heap.size + 1) 29 #[.slice (some ⟨w.heap.size, 0, none⟩) P.size P.size]) (h3 : Whole W (w.heap.size + 2) 29 #[y]) (h5 : Below w.heap.size w W)
    (hB : BB V w.heap.size (stB P.size P.xs.length ((pre ++ [x]).map fun x => x.b))) (hT : Touch [w.heap.size] W V) (hm : P.size - 1 - 4 * (pre ++ [x]).length = m) (ho : (pre ++ [x]).length < P.xs.length → o = 1 + 4 * (pre ++ [x]).length) :
    KeepsFrom (w.heap.size + 4) W (V.setCell ⟨w.heap.size + 2, 0, none⟩ (.slice (some ⟨w.heap.size, o, none⟩) m m)) ∧ KpB w.heap.size (w.heap.size + 3) W (V.setCell ⟨w.heap.size + 2, 0, none⟩ (.slice (some ⟨w.heap.size, o, none⟩) m m)) ∧ WrI w P (pre ++ [x]) (V.setCell ⟨w.heap.size + 2, 0, none⟩ (.slice (some ⟨w.heap.size, o, none⟩) m m)) := by
  have hb : Below w.heap.size W (V.setCell ⟨w.heap.size + 2, 0, none⟩ (.slice (some ⟨w.heap.size, o, none⟩) m m)) := (hT.belowAt (Nat.le_refl _) h5.size).setCell (by simp) _
  have hs : V.heap.size = (V.setCell ⟨w.heap.size + 2, 0, none⟩ (.slice (some ⟨w.heap.size, o, none⟩) m m)).heap.size := by simp
  have h3V := h3.touch hT (by omega)
  refine ⟨⟨hb.size, fun k ob hk ho _ => ?_⟩, ⟨hb, ?_⟩, ?_, ?_, ⟨o, ?_, ho⟩, h5.trans hb, Nat.le_trans h6 hb.size⟩
  · rw [heap_set_other _ _ _ _ _ (by omega)]
    exact (hT.block k (Array.getElem?_eq_some_iff.1 ho).1 (by simp; omega)).trans ho
  · rw [heap_set_other _ _ _ _ _ (by omega)]
    exact hT.block _ (by omega) (by simp)
  · exact Whole.far hB (by simp) _
  · exact (h2.touch hT (by omega)).far (by simp) _
  · rw [hm]
    exact h3V.set_ 0 _
theorem rcOf_n (size u : Nat) (x : Bx) (h : 0 < size) (hf : u + x.b.length < size) : (rcOf size u x).n = (if x.b = [] then 0 else size - (u + x.b.length)) ∧ (rcOf size u x).n < size ∧ (rcOf size u x).n + x.b.length ≤ size := by
  refine ⟨rfl, ?_, ?_⟩
  · show (if x.b = [] then 0 else size - (u + x.b.length)) < size
    split
    · exact h
    · rename_i hb
      have := List.length_pos_iff.2 hb
      omega
  · show (if x.b = [] then 0 else size - (u + x.b.length)) + x.b.length ≤ size
    split
    · rename_i hb
      rw [hb]; simp
    · omega
set_option maxRecDepth 100000 in
set_option maxHeartbeats 2000000 in
theorem written_in {w : World} {P : Pg} (h : PgAt w P) :
    CallsIn Fence.wide 5 Try.prog 26 #[P.ptr] w fun e w' => ∃ g, e = .returned (.slice (some ⟨g, 0, none⟩) P.size P.size) ∧ w.heap.size ≤ g ∧ BB w' g (pageB P.size P.L) ∧ Below w.heap.size w w' := by
  have c0 := h.c0
  have c1 := h.c1
  unfold Pg.v at c1
  have hp := h.lt
  have MK := fun W => make_bytes P.size P.size rfl (by have := h.sz2; omega) W
  have H := Lib.hid h
  refine callsIn_of_wp_marks Try.func26 rfl trivial ?_ rfl
  simp only [Try.ntmps26, List.size_toArray, List.length_cons, List.length_nil, Nat.reduceAdd, Nat.reduceSub, Array.replicate_succ, Array.replicate_zero, List.push_toArray, List.append_toArray, List.nil_append, List.cons_append]
  gi_wp2
  have n0 : BB _ w.heap.size (zeros P.size) := (Whole.new w 5 (encB (zeros P.size)).toArray).alloc (.cells #[.slice (some ⟨w.heap.size, 0, none⟩) P.size P.size] 29)
  have n1 := Whole.new (w.alloc (.cells (encB (zeros P.size)).toArray 5)) 29 #[.slice (some ⟨w.heap.size, 0, none⟩) P.size P.size]
  have nb : Below w.heap.size w ((w.alloc (.cells (encB (zeros P.size)).toArray 5)).alloc (.cells #[.slice (some ⟨w.heap.size, 0, none⟩) P.size P.size] 29)) := ((Below.refl _ w).alloc (Nat.le_refl _) _).alloc (by simp) _
  simp only [World.size_alloc] at n1
  have ns : ((w.alloc (.cells (encB (zeros P.size)).toArray 5)).alloc (.cells #[.slice (some ⟨w.heap.size, 0, none⟩) P.size P.size] 29)).heap.size = w.heap.size + 2 := by simp
  generalize (w.alloc (.cells (encB (zeros P.size)).toArray 5)).alloc (.cells #[.slice (some ⟨w.heap.size, 0, none⟩) P.size P.size] 29) = W1 at *
  have hsz1 := h.sz1
  have hsz2 := h.sz2
  have hfew := h.few
  have e1 : W1.cell? ⟨P.p, 1, none⟩ = some (.slice P.A P.xs.length P.c) := (nb.cell (p := ⟨P.p, 1, none⟩) hp).trans c1
  have x0 := n1.cell 0
  simp only [List.getElem?_toArray, List.getElem?_cons_zero] at x0
  obtain ⟨z0, y0⟩ : ∃ z, W1.cell? ⟨w.heap.size, 0, none⟩ = some (.int .u8 z) := ⟨_, n0.cell 0 (by rw [zeros_len]; omega)⟩
  have yf := n0.frozen 0
  have hsi : (0 : Int) < (P.size : Int) := by omega
  have hni : (P.xs.length : Int) ≤ 250 := by omega
  have S0 : BB (W1.setCell ⟨w.heap.size, 0, none⟩ (.int .u8 (P.xs.length : Nat))) w.heap.size (stB P.size P.xs.length []) := by
    have := n0.set_ 0 (UInt8.ofNat P.xs.length)
    rw [stB_nil _ _ (by omega), show ((UInt8.ofNat P.xs.length).toNat : Int) = (P.xs.length : Int) by rw [UInt8.toNat_ofNat']; omega] at this
    exact this
  have S1 : Whole (W1.setCell ⟨w.heap.size, 0, none⟩ (.int .u8 (P.xs.length : Nat))) (w.heap.size + 1) 29 #[.slice (some ⟨w.heap.size, 0, none⟩) P.size P.size] := n1.far (by simp) _
  have S2 : Below w.heap.size w (W1.setCell ⟨w.heap.size, 0, none⟩ (.int .u8 (P.xs.length : Nat))) := nb.setCell (Nat.le_refl _) _
  have S3 : (W1.setCell ⟨w.heap.size, 0, none⟩ (.int .u8 (P.xs.length : Nat))).heap.size = w.heap.size + 2 := by simpa using ns
  have HS := Lib.hid (And.intro S0 (And.intro S1 (And.intro S2 S3)))
  have x2 := S1.cell 0
  simp only [List.getElem?_toArray, List.getElem?_cons_zero] at x2
  clear S0 S1 S2 S3 n0 n1 ns nb c0 c1 MK h
  refine wpIn_wide.2 ?_
  refine Code.wp_mono (Q := fun ex a1 w1 => match ex with | .normal => a1 = { tmps := #[P.ptr, undef, .slice none 0 0, .pointer (some ⟨w.heap.size + 1, 0, none⟩), undef, undef, undef, P.ptr, .pointer (some ⟨P.p, 0, none⟩), .pointer (some ⟨P.p, 0, none⟩), .int .i64 (P.size : Nat), .slice (some ⟨w.heap.size, 0, none⟩) P.size P.size, .slice (some ⟨w.heap.size, 0, none⟩) P.size P.size, P.ptr, .pointer (some ⟨P.p, 0, none⟩), .pointer (some ⟨P.p, 1, none⟩), .slice P.A P.xs.length P.c, .int .i64 (P.xs.length : Nat), .int .u8 (P.xs.length : Nat), .pointer (some ⟨w.heap.size, 0, none⟩), undef, undef, undef, undef, undef, undef, undef, undef, undef, undef, undef, undef, undef, undef, undef, undef, undef, undef, undef, undef, undef, undef], defers := [] } ∧ w1 = (W1.setCell ⟨w.heap.size, 0, none⟩ (.int .u8 (P.xs.length : Nat))).drew | _ => False) ?_ ?_
  case refine_2 =>
    go_region_with (fail)
    all_goals exact ⟨rfl, rfl⟩
  intro ex a1 w1 hq
  cases ex with
  | normal =>
    obtain ⟨rfl, rfl⟩ := hq
    dsimp only
    clear e1 x0 y0 yf
    have HS2 : Hid (BB (W1.setCell ⟨w.heap.size, 0, none⟩ (.int .u8 (P.xs.length : Nat))).drew w.heap.size (stB P.size P.xs.length []) ∧ Whole (W1.setCell ⟨w.heap.size, 0, none⟩ (.int .u8 (P.xs.length : Nat))).drew (w.heap.size + 1) 29 #[.slice (some ⟨w.heap.size, 0, none⟩) P.size P.size] ∧ Below w.heap.size w (W1.setCell ⟨w.heap.size, 0, none⟩ (.int .u8 (P.xs.length : Nat))).drew ∧ (W1.setCell ⟨w.heap.size, 0, none⟩ (.int .u8 (P.xs.length : Nat))).drew.heap.size = w.heap.size + 2) := Lib.hid ⟨HS.out.1.drew, HS.out.2.1.drew, HS.out.2.2.1.drew, HS.out.2.2.2⟩
    clear HS
    have x3 : (W1.setCell ⟨w.heap.size, 0, none⟩ (.int .u8 (P.xs.length : Nat))).drew.cell? ⟨w.heap.size + 1, 0, none⟩ = _ := x2
    generalize (W1.setCell ⟨w.heap.size, 0, none⟩ (.int .u8 (P.xs.length : Nat))).drew = W2 at *
    clear x2
    have W2s : W2.heap.size = w.heap.size + 2 := HS2.out.2.2.2
    gi_wp2_with ((try refine ⟨trivial, ?_⟩); gi_at_call 30; refine (placed_in Fence.wide _ trivial rfl _ _).mono ?_; rintro e w' ⟨rfl, rfl⟩)
    obtain ⟨W0, hW0⟩ : ∃ W0, W0 = (W2.alloc (.cells #[.slice (some ⟨w.heap.size, 1, none⟩) (P.size - 1) (P.size - 1)] 29)).alloc (.cells #[P.ptr] 24) := ⟨_, rfl⟩
    rw [← hW0]
    have b0 : Below w.heap.size w W0 := by rw [hW0]; exact (HS2.out.2.2.1.alloc (by omega) _).alloc (by simp; omega) _
    have k1 : Whole W0 (w.heap.size + 2) 29 #[.slice (some ⟨w.heap.size, 1, none⟩) (P.size - 1) (P.size - 1)] := by
      rw [hW0]
      refine Whole.alloc ?_ _
      have := Whole.new W2 29 #[.slice (some ⟨w.heap.size, 1, none⟩) (P.size - 1) (P.size - 1)]
      rwa [W2s] at this
    have k2 : Whole W0 (w.heap.size + 3) 24 #[P.ptr] := by
      rw [hW0]
      have := Whole.new (W2.alloc (.cells #[.slice (some ⟨w.heap.size, 1, none⟩) (P.size - 1) (P.size - 1)] 29)) 24 #[P.ptr]
      rwa [World.size_alloc, W2s] at this
    have k3 : BB W0 w.heap.size (stB P.size P.xs.length []) := by rw [hW0]; exact (HS2.out.1.alloc _).alloc _
    have k4 : Whole W0 (w.heap.size + 1) 29 #[.slice (some ⟨w.heap.size, 0, none⟩) P.size P.size] := by rw [hW0]; exact (HS2.out.2.1.alloc _).alloc _
    have k5 : W0.heap.size = w.heap.size + 4 := by rw [hW0]; simp; omega
    have hfit := H.out.fit
    clear hW0 HS2 x3 W2s
    refine wpIn_rangeFunc_F rfl (by omega) (gf := 32) rfl trivial (enters_of Try.func32 (by kernel_rfl) rfl)
      (placed_seq 4 (by omega) (w.heap.size + 3) w W0 P H.out b0 k2) (fun pre x W l o o' h _ _ => h) KpB.trans (kpB_b (by omega) (by omega)) (Below.refl _ _) (fun _ => rfl)
      (WrI w P) (wrI_own w P _ (by omega)) ⟨k3, k4, ⟨1, k1, fun _ => rfl⟩, b0, by omega⟩
      (fun x => { tmps := #[P.ptr, undef, .slice none 0 0, .pointer (some ⟨w.heap.size + 1, 0, none⟩), .pointer (some ⟨w.heap.size + 2, 0, none⟩), .int .i64 (x.n : Nat), x.v, P.ptr, .pointer (some ⟨P.p, 0, none⟩), .pointer (some ⟨P.p, 0, none⟩), .int .i64 (P.size : Nat), .slice (some ⟨w.heap.size, 0, none⟩) P.size P.size, .slice (some ⟨w.heap.size, 0, none⟩) P.size P.size, P.ptr, .pointer (some ⟨P.p, 0, none⟩), .pointer (some ⟨P.p, 1, none⟩), .slice P.A P.xs.length P.c, .int .i64 (P.xs.length : Nat), .int .u8 (P.xs.length : Nat), .pointer (some ⟨w.heap.size, 0, none⟩), .slice (some ⟨w.heap.size, 0, none⟩) P.size P.size, .slice (some ⟨w.heap.size, 1, none⟩) (P.size - 1) (P.size - 1), P.ptr, .func (.func 32) #[] #[.pointer (some ⟨w.heap.size + 2 + 1, 0, none⟩)], .int .i64 (x.n : Nat), x.v, undef, undef, undef, undef, undef, undef, undef, undef, undef, undef, undef, undef, undef, undef, undef, undef], defers := [] }) ?assign ?body ?done
    case assign =>
      intro l x W K hK
      gi_wp2
      exact hK
    case body =>
      rintro l pre x W ⟨h1, h2, ⟨o, h3, h4⟩, h5, h6⟩ ⟨i, hi, hpre, hx⟩ hlen
      have hki : pre.length = i := by rw [hpre, placedA_length, List.length_take]; omega
      have hmap : (pre.map fun x => x.b) = P.L.take i := by rw [hpre, placedA_b]; simp [Pg.L, bbs, List.map_take]
      have hLl : P.L.length = P.xs.length := bbs_len _
      have htk : bbs (P.xs.take i) = P.L.take i := by simp [Pg.L, bbs, List.map_take]
      have hLi : P.L[i]'(by omega) = P.xs[i].b := bbs_at _ _ _
      have hu := used_at P.L i (by omega)
      rw [hLi] at hu
      have ho := h4 hlen
      rw [hki] at h3 ho
      subst ho
      rw [htk] at hx
      obtain ⟨hn1, hn2, hn3⟩ := rcOf_n P.size (used (P.L.take i)) P.xs[i] (by omega) (by omega)
      rw [← hx] at hn1 hn2 hn3
      have hxb : x.b = P.xs[i].b := by rw [hx]; rfl
      rw [← hxb] at hn1 hn3 hu
      have hxA : Holds W x.A x.b := by
        have : x.A = P.xs[i].A := by rw [hx]; rfl
        rw [hxb, this]
        obtain ⟨B, d, hB, hh, -, -⟩ := (H.out.held _ (List.getElem_mem hi)).shape
        simp only [Bx.v, Value.slice.injEq] at hB
        obtain ⟨rfl, -, -⟩ := hB
        exact hh.below h5
      have hxlt : x.b ≠ [] → ∀ a, x.A = some a → a.block < w.heap.size := fun hne a ha => by
        have : x.A = P.xs[i].A := by rw [hx]; rfl
        obtain ⟨B, d, hB, hh, -, -⟩ := (H.out.held _ (List.getElem_mem hi)).shape
        simp only [Bx.v, Value.slice.injEq] at hB
        obtain ⟨rfl, -, -⟩ := hB
        rw [← this, ← hxb] at hh
        obtain ⟨b', o', e', hlt, -⟩ := hh 0 (List.length_pos_iff.2 hne)
        rw [ha] at e'
        cases e'
        exact hlt
      have hstep := stB_step P.size P.xs.length (P.L.take i) x.b (by rw [List.length_take]; omega) x.n hn1
      have hlS : (stB P.size P.xs.length (P.L.take i)).length = P.size := stB_length _ _ _ (by rw [List.length_take]; omega)
      rw [hmap] at h1
      have hti : (P.L.take i).length = i := by rw [List.length_take]; omega
      rw [hti] at hstep
      have hnext : (pre ++ [x]).map (fun x => x.b) = P.L.take i ++ [x.b] := by rw [List.map_append, hmap]; rfl
      obtain ⟨m, hm⟩ : ∃ m, P.size - 1 - 4 * i = m := ⟨_, rfl⟩
      rw [hm] at h3
      have hm4 : 4 ≤ m := by omega
      have hm2 : (2 : Int) ≤ (m : Int) := by omega
      have hm4i : (4 : Int) ≤ (m : Int) := by omega
      have hm2e : (m = 2) = False := by simp; omega
      have hnsz : (x.n : Int) ≤ (P.size : Int) := by omega
      have hnse : (P.size = x.n) = False := by simp; omega
      have l1 : (lay (stB P.size P.xs.length (P.L.take i)) (1 + 4 * i) (w2 x.n)).length = P.size := by rw [lay_length _ _ _ (by rw [w2_length]; omega)]; exact hlS
      have l2 : (lay (lay (stB P.size P.xs.length (P.L.take i)) (1 + 4 * i) (w2 x.n)) (1 + 4 * i + 2) (w2 x.b.length)).length = P.size := by rw [lay_length _ _ _ (by rw [w2_length]; omega)]; exact l1
      have PUT1 := Lib.hid (putNumber_any w.heap.size (1 + 4 * i) m m x.n _ W (by omega) h1 (by omega) (by omega))
      have PUT2 := Lib.hid fun W1 (h : BB W1 w.heap.size (lay (stB P.size P.xs.length (P.L.take i)) (1 + 4 * i) (w2 x.n))) => putNumber_any w.heap.size (1 + 4 * i + 2) (m - 2) (m - 2) x.b.length _ W1 (by omega) h (by omega) (by omega)
      have HST := Lib.hid hstep
      have HNX := Lib.hid hnext
      have HPC := Lib.hid (And.intro hxA hxlt)
      have H2 := Lib.hid h2
      have H3 := Lib.hid h3
      have H5 := Lib.hid h5
      have H2O := Lib.hid h2
      have H3O := Lib.hid h3
      have hlen1 : (pre ++ [x]).length = i + 1 := by simp; omega
      have c3 := h3.cell 0
      simp only [List.getElem?_toArray, List.getElem?_cons_zero] at c3
      generalize lay (stB P.size P.xs.length (P.L.take i)) (1 + 4 * i) (w2 x.n) = S1 at *
      generalize lay S1 (1 + 4 * i + 2) (w2 x.b.length) = S2 at *
      generalize hxn : x.n = xn at *
      generalize hxl : x.b.length = xl at *
      clear h1 h2 h3 h4 h5 hstep hnext hxA hxlt hx hn1 hxb hmap hpre htk hLi hlS hti H
      gi_wp2
      refine ⟨trivial, ?_⟩
      refine (CallsIn.inRound l (callsIn_wide.2 PUT1.out)).mono ?_
      rintro r V1 ⟨rfl, hB1, hT1⟩
      have PUT2' := Lib.hid (PUT2.out V1 hB1)
      have G2 := Lib.hid (H2.out.touch hT1 (by omega))
      have G3 := Lib.hid (H3.out.touch hT1 (by omega))
      have c3' := G3.out.cell 0
      simp only [List.getElem?_toArray, List.getElem?_cons_zero] at c3'
      have HT1 := Lib.hid hT1
      clear PUT1 PUT2 H2 H3 c3 hB1 hT1
      gi_wp2
      refine ⟨trivial, ?_⟩
      refine (CallsIn.inRound l (callsIn_wide.2 PUT2'.out)).mono ?_
      rintro r V2 ⟨rfl, hB2, hT2⟩
      have hT12 : Touch [w.heap.size] W V2 := HT1.out.trans hT2 (fun x hx => .inl hx)
      have F2 := Lib.hid (G2.out.touch hT2 (by omega))
      have F3 := Lib.hid (G3.out.touch hT2 (by omega))
      have d2 := F2.out.cell 0
      simp only [List.getElem?_toArray, List.getElem?_cons_zero] at d2
      have hA2 : Holds V2 x.A x.b := fun j hj => by
        obtain ⟨b', o', e', hlt, hc⟩ := HPC.out.1 j hj
        have hb' : b' < w.heap.size := HPC.out.2 (fun e => by rw [e] at hj; simp at hj) _ e'
        refine ⟨b', o', e', Nat.lt_of_lt_of_le hlt hT12.size, ?_⟩
        rw [← hc]
        simp only [World.cell?, hT12.block b' hlt (by simp; omega)]
      have HA2 := Lib.hid (And.intro hA2 hB2)
      have HT12 := Lib.hid hT12
      have hfit2 : xn + x.b.length ≤ S2.length := by omega
      have hle2 : x.b.length ≤ P.size - xn := by omega
      clear PUT2' G2 G3 c3' hA2 hB2 hT2 hT12 HT1 HPC
      have hne2 : w.heap.size + 2 ≠ w.heap.size := by omega
      by_cases hm4e : m = 4
      · subst hm4e
        gi_wp2_with (refine wpListIn_copy_bytes rfl (.tmp 36) (.tmp 37) rfl (some ⟨w.heap.size, xn, none⟩) x.A (P.size - xn) (P.size - xn) x.c w.heap.size xn S2 x.b rfl rfl HA2.out.2 HA2.out.1 (fun _ => rfl) hle2 hfit2 ?_; intro V3 hB3 hT3; have E3 := Lib.hid (F3.out.touch hT3.out hne2); have e3 : V3.cell? ⟨w.heap.size + 2, 0, none⟩ = some (.slice (some ⟨w.heap.size, 1 + 4 * i, none⟩) 4 4) := E3.out.cell 0; have ef3 : V3.frozen? ⟨w.heap.size + 2, 0, none⟩ = false := E3.out.frozen 0)
        exact wr_finish h6 H2O.out H3O.out H5.out (by rw [HNX.out, ← HST.out]; exact hB3.out) (HT12.out.trans hT3.out (fun x hx => .inl hx)) (by rw [hlen1]; omega) (fun hh => by rw [hlen1] at hh ⊢; omega)
      · have hm4f : (m = 4) = False := by simp; omega
        gi_wp2_with (refine wpListIn_copy_bytes rfl (.tmp 36) (.tmp 37) rfl (some ⟨w.heap.size, xn, none⟩) x.A (P.size - xn) (P.size - xn) x.c w.heap.size xn S2 x.b rfl rfl HA2.out.2 HA2.out.1 (fun _ => rfl) hle2 hfit2 ?_; intro V3 hB3 hT3; have E3 := Lib.hid (F3.out.touch hT3.out hne2); have e3 : V3.cell? ⟨w.heap.size + 2, 0, none⟩ = some (.slice (some ⟨w.heap.size, 1 + 4 * i, none⟩) m m) := E3.out.cell 0; have ef3 : V3.frozen? ⟨w.heap.size + 2, 0, none⟩ = false := E3.out.frozen 0)
        exact wr_finish h6 H2O.out H3O.out H5.out (by rw [HNX.out, ← HST.out]; exact hB3.out) (HT12.out.trans hT3.out (fun x hx => .inl hx)) (by rw [hlen1]; omega) (fun hh => by rw [hlen1]; omega)
    case done =>
      rintro D ys W hys ⟨h1, h2, h3, h5, h6⟩ hD hle
      have lc := h2.cell 0
      simp only [List.getElem?_toArray, List.getElem?_cons_zero] at lc
      rw [hys, placedA_b] at h1
      have hL : stB P.size P.xs.length (bbs P.xs) = pageB P.size P.L := by unfold pageB Pg.L; rw [bbs_len]
      rw [hL] at h1
      have H1 := Lib.hid h1
      have H4 := Lib.hid h5
      have HD := Lib.hid hD
      clear h1 h2 h3 hD hys
      gi_wp2
      refine ⟨by simp, .inl ⟨_, _, rfl, run_takeDeferred HD.out, ?_⟩⟩
      refine ⟨_, results_tmp rfl _ _ _, w.heap.size, rfl, Nat.le_refl _, ?_, ?_⟩
      · exact (World.putObj_heap_other (by omega)).trans H1.out
      · exact H4.out.trans ⟨rfl, rfl, rfl, by simp [World.putObj], fun k hk => World.putObj_heap_other (by omega)⟩
  | _ => exact hq.elim
end Go.Proofs.Ytjnblkibejmdjaa
