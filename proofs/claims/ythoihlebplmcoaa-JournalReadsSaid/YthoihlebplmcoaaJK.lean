/- Records. -/
import Derived.Test.YthoihlebplmcoaaJJ
import Derived.Maps.AppendAt
namespace Go.Proofs.Ythoihlebplmcoaa
open Go.RowKit Go.Shelf
set_option linter.unusedVariables false
attribute [local go_sem] Oper.semAt_some
theorem infoBs : (Try.prog.info? 35).map (fun i => (i.zero, i.size, i.bytes)) = some (some (.slice none 0 0), 1, 24) := by kernel_rfl
def vsOf (l : List Rc) : List Value := l.map Rc.v
theorem vsOf_snoc (l : List Rc) (x : Rc) : vsOf (l ++ [x]) = vsOf l ++ [x.v] := by simp [vsOf]
/-- a list of records of the call's own. -/
structure BRow (w : World) (base : Nat) (v : Value) (l : List Rc) : Prop where
  row : w.ownsRow base 35 1 v l.length (vsOf l)
  each : ∀ x ∈ l, Row w base x.v x.b
theorem rebase3 {w : World} {b b' : Nat} {v : Value} {n : Nat} {xs : List Value} {e : TypeId} {z : Nat} (h : w.ownsRow b e z v n xs) (hb : b' ≤ b) : w.ownsRow b' e z v n xs := by
  refine ⟨h.1, ?_⟩
  rcases h.2 with hn | ⟨g, cap, cur, h1, hb, h2⟩
  · exact .inl hn
  · exact .inr ⟨g, cap, cur, h1, by omega, h2⟩
/-- what the rounds keep. -/
def RecI (w : World) (pre : List Rc) (W : World) : Prop :=
  ∃ v, W.heap[w.heap.size]? = some (.cells #[v] 23 (0, 0)) ∧ W.ownsRow (w.heap.size + 3) 35 1 v pre.length (vsOf pre) ∧ (∀ x ∈ pre, Row W w.heap.size x.v x.b) ∧ Below w.heap.size w W ∧ w.heap.size + 3 ≤ W.heap.size
theorem recI_own (w : World) (B : Nat) (hB : w.heap.size ≤ B) : OwnFrom B (RecI w) := by
  rintro pre W W' row ⟨v, h1, h2, h3, h4, h5⟩ hg hr
  have hne : ∀ b cs ty, W.heap[b]? = some (.cells cs ty (0, 0)) → some b ≠ row := fun b cs ty hb e => by
    obtain ⟨_, o, ho, h⟩ := hr b e.symm
    rw [hb] at ho
    cases ho
    simp [Obj.isCells] at h
  refine ⟨v, (hg.block _ (Array.getElem?_eq_some_iff.1 h1).1 (hne _ _ _ h1)).trans h1, ownsRow_of_heap h2 fun b hb => ?_, fun x hx => (h3 x hx).of_heap fun k hk => ?_, h4.grown hg h4.size (fun k e => Nat.le_trans hB (hr k e).1), Nat.le_trans h5 hg.size⟩
  · obtain ⟨cs, hc⟩ := row_kind h2 hb
    exact hg.block b (Array.getElem?_eq_some_iff.1 hc).1 (hne b cs _ hc)
  · obtain ⟨cs, hc⟩ := row_kind (h3 x hx) hk
    exact hg.block k (Array.getElem?_eq_some_iff.1 hc).1 (hne k cs _ hc)
theorem rcIn_put (base : Nat) (x : Rc) (W : World) (l : Nat) (o o' : Obj) (h : RcIn base x W) (hl : W.heap[l]? = some o) (ho : o.isCells = false) : RcIn base x (W.putObj l o') := by
  refine Row.of_heap h fun k hk => ?_
  obtain ⟨cs, hc⟩ := row_kind h hk
  exact World.putObj_heap_other (fun e => by subst e; rw [hc] at hl; cases hl; simp [Obj.isCells] at ho)
theorem kpC_b {n₀ Bn : Nat} {w : World} (hn : n₀ ≤ w.heap.size) (hBn : Bn + 1 < w.heap.size) (W : World) (l : Nat) (o o' : Obj) (hl : w.heap.size ≤ l) (_ : W.heap[l]? = some o) (_ : o.isCells = false) : KpC n₀ Bn W (W.putObj l o') :=
  ⟨⟨rfl, rfl, rfl, by simp [World.putObj], fun k hk => World.putObj_heap_other (by omega)⟩, World.putObj_heap_other (by omega), World.putObj_heap_other (by omega)⟩
theorem own_ge {w : World} {b : Nat} {v : Value} {n : Nat} {xs : List Value} {e : TypeId} {z : Nat} (h : w.ownsRow b e z v n xs) {k : Nat} (hk : v.ownBlock = some k) : b ≤ k := by
  rcases h.2 with ⟨rfl, _⟩ | ⟨g, cap, cur, rfl, hb, _⟩
  · cases hk
  · have : g = k := by simpa [Value.ownBlock] using hk
    omega
theorem standing_seq (n : Nat) (hn : 1 ≤ n) (Bn : Nat) (w W0 : World) (p e f : Nat) (A : Option Addr) (c : Nat) (row : List UInt8) (he : e < 4294967296) (hf1 : 60 ≤ f) (hf2 : f ≤ 1020) (hlen : row.length ≤ 100000) (hc : row.length ≤ c)
    (hp : p < w.heap.size) (c3 : w.cell? ⟨p, 3, none⟩ = some (.int .i64 (f : Nat))) (c4 : w.cell? ⟨p, 4, none⟩ = some (.int .u32 (e : Nat))) (hr : Holds w A row)
    (hB : Below w.heap.size w W0) (hb0 : Whole W0 Bn 30 #[.pointer (some ⟨p, 0, none⟩)]) (hb1 : Whole W0 (Bn + 1) 35 #[.slice A row.length c]) :
    SeqF Fence.wide n Try.prog 57 #[.pointer (some ⟨Bn + 1, 0, none⟩), .pointer (some ⟨Bn, 0, none⟩)] encR (RcIn w.heap.size) (KpC w.heap.size Bn) (fun ys => ys.map (fun x => (x.b, x.n)) = standR e f row) (row.length + 1) W0 := fun l J W hW hJ hY h0 =>
  (standing1_in n hn l Bn w p e f A c row he hf1 hf2 hlen hc hp c3 c4 hr J (fun s W W' hs hb => abides_below hJ s W W' hs hb) hY W (hB.trans (hW.mono hB.size)) (hb0.below hW hb0.lt) (hb1.below hW hb1.lt) h0).mono fun _ _ hh => hh
set_option maxRecDepth 100000 in
set_option maxHeartbeats 2000000 in
theorem records_in {w0 w : World} {J : Jd} {m : Mod} (h : JP w0 w J m) (hlen : J.row.length ≤ 100000) :
    CallsIn Fence.wide 5 Try.prog 15 #[J.ptr] w fun e w' => ∃ v ys, e = .returned v ∧ ys.map (fun x => (x.b, x.n)) = standR J.e J.f J.row ∧ BRow w' w.heap.size v ys ∧ Below w.heap.size w w' := by
  have T := Lib.hid h.there
  have c5 := h.is.c5
  have HC := Lib.hid (And.intro h.is.c3 h.is.c4)
  have hp := h.is.lt
  have hok := h.ok
  have HR := Lib.hid (And.intro h.row.held h.row.le)
  clear h
  refine callsIn_of_wp_marks Try.func15 rfl trivial ?_ rfl
  simp only [Try.ntmps15, List.size_toArray, List.length_cons, List.length_nil, Nat.reduceAdd, Nat.reduceSub, Array.replicate_succ, Array.replicate_zero, List.push_toArray, List.append_toArray, List.nil_append, List.cons_append]
  gi_wp2
  refine ⟨trivial, ?_⟩
  refine (callsIn_wide.2 T.out).mono ?_
  rintro r w1 ⟨rfl, rfl⟩
  gi_wp2_with ((try refine ⟨trivial, ?_⟩); gi_at_call 41; refine (standing_in Fence.wide _ trivial rfl _ _ _ _ _).mono ?_; rintro e w' ⟨rfl, rfl⟩)
  obtain ⟨W0, hW0⟩ : ∃ W0, W0 = ((w.alloc (.cells #[.slice none 0 0] 23)).alloc (.cells #[.pointer (some ⟨J.p, 0, none⟩)] 30)).alloc (.cells #[.slice J.A J.row.length J.c] 35) := ⟨_, rfl⟩
  rw [← hW0]
  have b0 : Below w.heap.size w W0 := by rw [hW0]; exact (((Below.refl _ w).alloc (Nat.le_refl _) _).alloc (by simp) _).alloc (by simp; omega) _
  have sz0 : W0.heap.size = w.heap.size + 3 := by rw [hW0]; simp
  have l0 : W0.heap[w.heap.size]? = some (.cells #[.slice none 0 0] 23 (0, 0)) := by
    rw [hW0, Below.heap_alloc _ _ _ (by simp; omega), Below.heap_alloc _ _ _ (by simp)]; exact heap_alloc_new w _
  have m0 : W0.heap[w.heap.size + 1]? = some (.cells #[.pointer (some ⟨J.p, 0, none⟩)] 30 (0, 0)) := by
    rw [hW0, Below.heap_alloc _ _ _ (by simp)]
    have := heap_alloc_new (w.alloc (.cells #[.slice none 0 0] 23)) (.cells #[.pointer (some ⟨J.p, 0, none⟩)] 30)
    rwa [World.size_alloc] at this
  have k0 : W0.heap[w.heap.size + 1 + 1]? = some (.cells #[.slice J.A J.row.length J.c] 35 (0, 0)) := by
    rw [hW0]
    have := heap_alloc_new ((w.alloc (.cells #[.slice none 0 0] 23)).alloc (.cells #[.pointer (some ⟨J.p, 0, none⟩)] 30)) (.cells #[.slice J.A J.row.length J.c] 35)
    rwa [World.size_alloc, World.size_alloc] at this
  clear hW0
  refine wpIn_rangeFunc_F rfl (by omega) (gf := 57) rfl trivial (enters_of Try.func57 (by kernel_rfl) rfl)
    (standing_seq 4 (by omega) (w.heap.size + 1) w W0 J.p J.e J.f J.A J.c J.row hok.e hok.f1 hok.f2 hlen HR.out.2 hp HC.out.1 HC.out.2 HR.out.1 b0 m0 k0) (rcIn_put w.heap.size) KpC.trans (kpC_b (by omega) (by omega)) (Below.refl _ _) (fun _ => rfl)
    (RecI w) (recI_own w _ (by omega)) ⟨_, l0, World.ownsRow_nil _ _ _ _, fun _ hx => absurd hx (by simp), b0, by omega⟩
    (fun x => { tmps := #[J.ptr, undef, .slice none 0 0, .pointer (some ⟨w.heap.size, 0, none⟩), x.v, J.ptr, .bool true, .bool false, J.ptr, J.ptr, .pointer (some ⟨J.p, 0, none⟩), .pointer (some ⟨J.p, 5, none⟩), J.v, .func (.func 57) #[] #[.pointer (some ⟨w.heap.size + 1 + 1, 0, none⟩), .pointer (some ⟨w.heap.size + 1, 0, none⟩)], x.v, .int .i64 (x.n : Nat), undef, undef, undef, undef, undef], defers := [] }) ?assign ?body ?done
  case assign =>
    intro l x W K hK
    gi_wp2
    exact hK
  case body =>
    rintro l pre x W ⟨v, h1, h2, h3, h4, h5⟩ hx hlen3
    have lc : W.cell? ⟨w.heap.size, 0, none⟩ = some v := cell_of_row W _ 0 _ _ _ h1
    have lf : W.frozen? ⟨w.heap.size, 0, none⟩ = false := by simp [World.frozen?, h1]
    have hrow := h2
    obtain ⟨i0, hi, hz0, hz1, hz2⟩ := info_parts infoBs
    have hlen2 : pre.length ≤ 1000000 := by omega
    have H1 := Lib.hid h1
    have H2 := Lib.hid h2
    have H3 := Lib.hid (And.intro h3 hx)
    have H4 := Lib.hid h4
    have hsz := h4.size
    have hlt : w.heap.size < W.heap.size := (Array.getElem?_eq_some_iff.1 h1).1
    clear h1 h2 h3 h4 hx
    gi_wp2_with (gi_at_builtin; refine wpListIn_append_own _ rfl _ _ 23 rfl (w.heap.size + 3) 35 i0 (.slice none 0 0) 1 24 Try.underlying23 hi hz0 hz1 hz2 rfl (by decide) v pre.length (vsOf pre) rfl (hrow.alloc _) ⟨W.heap.size, 0, none⟩ 1 1 [x.v] rfl rfl (cell_one_new _ _ _) (by simp [Value.oneCell']) (by unfold maxLen; omega) (by omega) (by simp; omega) ?_; intro v' w1 hown' hgrow _; obtain ⟨g', cap', rfl⟩ := ownsRow_succ hown'; obtain ⟨hv1, hv2, hr2, hk2, hb2⟩ := Boxed.appended (B := w.heap.size) (t := 23) (n₀ := w.heap.size) H1.out (by decide) (rebase3 hrow (by omega)) hsz (Nat.le_refl _) (rebase3 hown' (by omega)) hgrow; have hc1 := hv1.cell; have hf1 := hv1.frozen)
    have same : ∀ k, k < W.heap.size → k ≠ w.heap.size → v.ownBlock ≠ some k → (w1.setCell ⟨w.heap.size, 0, none⟩ (.slice (some ⟨g', 0, none⟩) (pre.length + 1) cap')).heap[k]? = W.heap[k]? := fun k k1 k2 k3 =>
      (Below.heap_setCell w1 ⟨w.heap.size, 0, none⟩ _ k k2).trans ((hgrow.block k (by simp; omega) (fun e => k3 e.symm)).trans (Below.heap_alloc W _ k k1))
    have hbytes : ∀ k, Bytes W k → (w1.setCell ⟨w.heap.size, 0, none⟩ (.slice (some ⟨g', 0, none⟩) (pre.length + 1) cap')).heap[k]? = W.heap[k]? := fun k hk => same k hk.lt (fun e => by
      subst e
      exact not_bytes H1.out (by decide) hk) (fun e => by
      obtain ⟨cs, hc⟩ := row_kind hrow e
      exact not_bytes hc (by decide) hk)
    refine ⟨hk2.from _, ⟨hb2, same _ (by omega) (by omega) (fun e => ?_), same _ (by omega) (by omega) (fun e => ?_)⟩, _, hv2, ?_, fun y hy => ?_, H4.out.trans hb2, Nat.le_trans h5 hb2.size⟩
    · have := own_ge hrow e
      omega
    · have := own_ge hrow e
      omega
    · have e1 : (pre ++ [x]).length = pre.length + 1 := by simp
      rw [e1, vsOf_snoc]
      exact ownsRow_of_heap hown' fun b hb => Below.heap_setCell w1 ⟨w.heap.size, 0, none⟩ _ b (fun e => by
        have := own_ge hown' hb
        have e2 : b = w.heap.size := e
        omega)
    · rcases List.mem_append.1 hy with hy | hy
      · exact (H3.out.1 y hy).of_heap fun k hk => hbytes k ((H3.out.1 y hy).bytes hk)
      · have : y = x := by simpa using hy
        subst this
        exact H3.out.2.of_heap fun k hk => hbytes k (H3.out.2.bytes hk)
  case done =>
    rintro D ys W hys ⟨v, h1, h2, h3, h4, h5⟩ hD hle
    have lc : W.cell? ⟨w.heap.size, 0, none⟩ = some v := cell_of_row W _ 0 _ _ _ h1
    have HY := Lib.hid hys
    have H2 := Lib.hid h2
    have H3 := Lib.hid h3
    have H4 := Lib.hid h4
    have HD := Lib.hid hD
    clear h1 h2 h3 h4 hD hys
    gi_wp2
    refine ⟨by simp, .inl ⟨_, _, rfl, run_takeDeferred HD.out, ?_⟩⟩
    refine ⟨_, results_tmp rfl _ _ _, v, ys, rfl, HY.out, ⟨ownsRow_putObj (rebase3 H2.out (by omega)) _ HD.out rfl, fun x hx => ?_⟩, ?_⟩
    · exact rcIn_put w.heap.size x W D _ _ (H3.out x hx) HD.out rfl
    · exact H4.out.trans (belowK_b (w := w) (Nat.le_refl _) W D _ _ (by omega) HD.out rfl rfl)
theorem records_nil (w : World) : CallsIn Fence.wide 5 Try.prog 15 #[.pointer none] w fun e w' => e = .returned (.slice none 0 0) ∧ w = w' := by
  have T := there_none w
  refine callsIn_of_wp Try.func15 rfl trivial ?_ rfl
  simp only [Try.ntmps15, List.size_toArray, List.length_cons, List.length_nil, Nat.reduceAdd, Nat.reduceSub, Array.replicate_succ, Array.replicate_zero, List.push_toArray, List.append_toArray, List.nil_append, List.cons_append]
  gi_wp2
  refine ⟨trivial, ?_⟩
  refine (callsIn_wide.2 T).mono ?_
  rintro r w1 ⟨rfl, rfl⟩
  gi_wp2
  go_ret
  exact ⟨rfl, rfl⟩
end Go.Proofs.Ythoihlebplmcoaa
