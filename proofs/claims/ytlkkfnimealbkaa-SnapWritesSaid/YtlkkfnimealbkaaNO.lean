/- Read: what the rounds keep. -/
import Derived.Test.YtlkkfnimealbkaaNN
namespace Go.Proofs.Ytlkkfnimealbkaa
open Go.RowKit Go.Shelf
open Pag (Pg PgAt IsPage HF Bx bvs bbs bbs_len bvs_len)
set_option linter.unusedVariables false
attribute [local go_sem] Oper.semAt_some
theorem standing_seq (n : Nat) (hn : 1 ≤ n) (Bn : Nat) (w0 W0 : World) (p : Nat) (F : List Nat) (m : Mod) (hd : IsD w0 p F m) (hw : m.waits ≤ 1000000) (hs1 : 64 ≤ m.size) (hs2 : m.size ≤ 1024) (fr nn : Nat) (hfr : fr ≤ 600) (hnn : nn ≤ 600) (Os : List (Int × List (List UInt8))) (hOs : SecsAre m fr Os) (hOl : Os.length = nn)
    (hB : StB w0 Bn fr nn p W0) :
    SeqG w0.heap.size [Bn, Bn + 1, Bn + 2] Fence.wide n Try.prog 45 #[.pointer (some ⟨Bn + 2, 0, none⟩), .pointer (some ⟨Bn, 0, none⟩), .pointer (some ⟨Bn + 1, 0, none⟩)] encT (RtIn Os) (fun xs => tbs xs = tellS Os) W0 := fun l J Jx W hW hJ hJG h1 h2 h3 hY h0 =>
  standing1_in n hn l Bn w0 p F m hd hw hs1 hs2 fr nn hfr hnn Os hOs hOl J Jx W hJ hJG h1 h2 h3 hY (hB.bel hW) h0
/-- append, as a step of a walk inside a fence, by how it runs. -/
theorem wpListIn_run_append {F : Fence} {n : Nat} {w w' : World} {ops : Array Oper} {rest : List Oper} {o : Oper} {a : Act} {Q : Exit → Act → World → Prop} (hgd : o.guard = none) (s x : Operand) (t : TypeId)
    (ho : o.op = .call { callee := .builtin .append, args := #[s, x], argTypes := #[t, t] }) {v u v' : Value} (hs : a.eval s = v) (hx : a.eval x = u)
    (hrun : Sem.run Try.prog (Builtin.append_ #[t, t] o.type #[v, u]) w = .ok v' w') (h : wpListIn F n Try.prog ops Q rest (a.put o.dst v') w') : wpListIn F n Try.prog ops Q (o :: rest) a w := by
  refine wpListIn_plain hgd fun K hK' => ?_
  unfold Oper.wpIn
  refine ⟨?_, ?_⟩
  · simp [Oper.about, ho, resolve, Target.leads, Sem.run_pure]
  · rw [Oper.semAt_plain F _ _ (by rw [ho]; intro c hc'; cases hc')]
    simp [execOp, ho, resolve, invoke, builtin, hs, hx, hrun, Result.andThen]
    exact hK' _ _ h
/-- the records read so far, in boxes at b and behind. -/
structure Acc (b B : Nat) (L : List (List UInt8)) (R : List UInt8) (wh : Bool) (lv rv : Value) (ys : List Bx) (W : World) : Prop where
  b0 : Whole W b 22 #[.slice none 0 0]
  b1 : Whole W (b + 1) 25 #[.int .i64 0]
  b2 : Whole W (b + 1 + 1) 22 #[lv]
  b3 : Whole W (b + 1 + 1 + 1) 35 #[rv]
  b4 : Whole W (b + 1 + 1 + 1 + 1) 4 #[.bool wh]
  row : W.ownsRow B 35 1 lv ys.length (bvs ys)
  ls : bbs ys = L
  each : ∀ y ∈ ys, Row W B y.v y.b
  cur : Row W B rv R
  free : ∀ y ∈ ys, ∀ k, y.v.ownBlock = some k → rv.ownBlock ≠ some k
def accG (b : Nat) (lv rv : Value) (ys : List Bx) : List Nat := [b, b + 1, b + 1 + 1, b + 1 + 1 + 1, b + 1 + 1 + 1 + 1] ++ (lv.ownBlock.toList ++ (rv.ownBlock.toList ++ ys.flatMap fun y => y.v.ownBlock.toList))
section
variable {b B : Nat} {L : List (List UInt8)} {R : List UInt8} {wh : Bool} {lv rv : Value} {ys : List Bx} {W W' : World}
theorem accG_b {k : Nat} (h : k ∈ [b, b + 1, b + 1 + 1, b + 1 + 1 + 1, b + 1 + 1 + 1 + 1]) : k ∈ accG b lv rv ys := List.mem_append_left _ h
theorem accG_l {k : Nat} (h : lv.ownBlock = some k) : k ∈ accG b lv rv ys := by simp [accG, h]
theorem accG_r {k : Nat} (h : rv.ownBlock = some k) : k ∈ accG b lv rv ys := by simp [accG, h]
theorem accG_y {k : Nat} {y : Bx} (hy : y ∈ ys) (h : y.v.ownBlock = some k) : k ∈ accG b lv rv ys := by
  unfold accG
  refine List.mem_append_right _ (List.mem_append_right _ (List.mem_append_right _ (List.mem_flatMap.2 ⟨y, hy, by simp [h]⟩)))
theorem accG_cases {k : Nat} (h : k ∈ accG b lv rv ys) : k ∈ [b, b + 1, b + 1 + 1, b + 1 + 1 + 1, b + 1 + 1 + 1 + 1] ∨ lv.ownBlock = some k ∨ rv.ownBlock = some k ∨ ∃ y ∈ ys, y.v.ownBlock = some k := by
  unfold accG at h
  rcases List.mem_append.1 h with h | h
  · exact .inl h
  rcases List.mem_append.1 h with h | h
  · exact .inr (.inl (by simpa using h))
  rcases List.mem_append.1 h with h | h
  · exact .inr (.inr (.inl (by simpa using h)))
  · obtain ⟨y, hy, hk⟩ := List.mem_flatMap.1 h
    exact .inr (.inr (.inr ⟨y, hy, by simpa using hk⟩))
theorem Acc.kinds (hB5 : b + 5 ≤ B) (h : Acc b B L R wh lv rv ys W) : ∀ k ∈ accG b lv rv ys, b ≤ k ∧ k < W.heap.size ∧ ∃ (cs : Array Value) (t : TypeId) (z : Nat × Nat), W.heap[k]? = some (Obj.cells cs t z) := by
  have wh : ∀ {k : Nat} {cs : Array Value} {t : TypeId}, Whole W k t cs → k < W.heap.size ∧ ∃ (cs : Array Value) (t : TypeId) (z : Nat × Nat), W.heap[k]? = some (Obj.cells cs t z) := fun hw => ⟨hw.lt, _, _, _, hw⟩
  intro k hk
  rcases accG_cases hk with hk | hk | hk | ⟨y, hy, hk⟩
  · simp at hk
    rcases hk with rfl | rfl | rfl | rfl | rfl
    · exact ⟨Nat.le_refl _, wh h.b0⟩
    · exact ⟨by omega, wh h.b1⟩
    · exact ⟨by omega, wh h.b2⟩
    · exact ⟨by omega, wh h.b3⟩
    · exact ⟨by omega, wh h.b4⟩
  · obtain ⟨cs, hc⟩ := row_kind h.row hk
    exact ⟨by have := own_ge h.row hk; omega, (Array.getElem?_eq_some_iff.1 hc).1, _, _, _, hc⟩
  · obtain ⟨cs, hc⟩ := row_kind h.cur hk
    exact ⟨by have := own_ge h.cur hk; omega, (Array.getElem?_eq_some_iff.1 hc).1, _, _, _, hc⟩
  · obtain ⟨cs, hc⟩ := row_kind (h.each y hy) hk
    exact ⟨by have := own_ge (h.each y hy) hk; omega, (Array.getElem?_eq_some_iff.1 hc).1, _, _, _, hc⟩
theorem Acc.keep (h : Acc b B L R wh lv rv ys W) (hk : ∀ k ∈ accG b lv rv ys, W'.heap[k]? = W.heap[k]?) : Acc b B L R wh lv rv ys W' :=
  ⟨(hk _ (accG_b (by simp))).trans h.b0, (hk _ (accG_b (by simp))).trans h.b1, (hk _ (accG_b (by simp))).trans h.b2, (hk _ (accG_b (by simp))).trans h.b3, (hk _ (accG_b (by simp))).trans h.b4,
    ownsRow_of_heap h.row fun k e => hk k (accG_l e), h.ls, fun y hy => (h.each y hy).of_heap fun k e => hk k (accG_y hy e), h.cur.of_heap fun k e => hk k (accG_r e), h.free⟩
theorem Acc.touch (hB5 : b + 5 ≤ B) (h : Acc b B L R wh lv rv ys W) {H : List Nat} (ht : Touch H W W') (hH : ∀ k ∈ H, k ∉ accG b lv rv ys) : Acc b B L R wh lv rv ys W' :=
  h.keep fun k hk => ht.block k (Acc.kinds hB5 h k hk).2.1 (fun hh => hH k hh hk)
theorem Acc.below (hB5 : b + 5 ≤ B) (h : Acc b B L R wh lv rv ys W) (hb : Below W.heap.size W W') : Acc b B L R wh lv rv ys W' := Acc.touch hB5 h (Touch.of_below hb []) (by simp)
/-- bytes more of the record. -/
theorem Acc.more (hB5 : b + 5 ≤ B) (h : Acc b B L R wh lv rv ys W) {x : List UInt8} {rv' : Value} {w2 : World} (hr : Row w2 B rv' (R ++ x)) (hg : W.grownBy w2 rv.ownBlock) (ho : rv'.ownBlock = rv.ownBlock ∨ rv'.ownBlock = some W.heap.size) (t : Bool) :
    Acc b B L (R ++ x) t lv rv' ys ((w2.setCell ⟨b + 1 + 1 + 1, 0, none⟩ rv').setCell ⟨b + 1 + 1 + 1 + 1, 0, none⟩ (.bool t)) ∧ Touch (accG b lv rv ys) W ((w2.setCell ⟨b + 1 + 1 + 1, 0, none⟩ rv').setCell ⟨b + 1 + 1 + 1 + 1, 0, none⟩ (.bool t)) ∧ ∀ k ∈ accG b lv rv' ys, k ∈ accG b lv rv ys ∨ W.heap.size ≤ k := by
  have hrb : ∀ {k : Nat} {cs : Array Value} {ty : TypeId}, W.heap[k]? = some (.cells cs ty (0, 0)) → ty ≠ 5 → rv.ownBlock ≠ some k := fun {k cs ty} hk hty e => by
    obtain ⟨c', hc⟩ := row_kind h.cur e
    rw [hk] at hc
    simp at hc
    exact hty hc.2
  have k2 : ∀ k, k < W.heap.size → rv.ownBlock ≠ some k → w2.heap[k]? = W.heap[k]? := fun k hk hn => hg.block k hk (fun e => hn e.symm)
  have o1 : ∀ (X : World) (u : Value) (k : Nat), k ≠ b + 1 + 1 + 1 → (X.setCell ⟨b + 1 + 1 + 1, 0, none⟩ u).heap[k]? = X.heap[k]? := fun X u k hk => heap_set_other _ _ _ _ _ hk
  have o2 : ∀ (X : World) (u : Value) (k : Nat), k ≠ b + 1 + 1 + 1 + 1 → (X.setCell ⟨b + 1 + 1 + 1 + 1, 0, none⟩ u).heap[k]? = X.heap[k]? := fun X u k hk => heap_set_other _ _ _ _ _ hk
  have w2b3 : Whole w2 (b + 1 + 1 + 1) 35 #[rv] := (k2 _ h.b3.lt (hrb h.b3 (by decide))).trans h.b3
  have w2b4 : Whole w2 (b + 1 + 1 + 1 + 1) 4 #[.bool wh] := (k2 _ h.b4.lt (hrb h.b4 (by decide))).trans h.b4
  have hnr3 : rv'.ownBlock ≠ some (b + 1 + 1 + 1) := fun e => by
    obtain ⟨c', hc⟩ := row_kind hr e
    unfold Whole at w2b3
    rw [w2b3] at hc
    simp at hc
  have hnr4 : rv'.ownBlock ≠ some (b + 1 + 1 + 1 + 1) := fun e => by
    obtain ⟨c', hc⟩ := row_kind hr e
    unfold Whole at w2b4
    rw [w2b4] at hc
    simp at hc
  refine ⟨⟨?_, ?_, ?_, ?_, ?_, ?_, h.ls, fun y hy => ?_, ?_, fun y hy k hk => ?_⟩, ?_, fun k hk => ?_⟩
  · exact (o2 _ _ _ (by omega)).trans ((o1 _ _ _ (by omega)).trans ((k2 _ h.b0.lt (hrb h.b0 (by decide))).trans h.b0))
  · exact (o2 _ _ _ (by omega)).trans ((o1 _ _ _ (by omega)).trans ((k2 _ h.b1.lt (hrb h.b1 (by decide))).trans h.b1))
  · exact (o2 _ _ _ (by omega)).trans ((o1 _ _ _ (by omega)).trans ((k2 _ h.b2.lt (hrb h.b2 (by decide))).trans h.b2))
  · exact (o2 _ _ _ (by omega)).trans (w2b3.set_ 0 _)
  · exact (Whole.far w2b4 (p := ⟨b + 1 + 1 + 1, 0, none⟩) (by simp) _).set_ 0 _
  · refine ownsRow_of_heap h.row fun k e => ?_
    have hk5 := own_ge h.row e
    obtain ⟨c', hc⟩ := row_kind h.row e
    exact (o2 _ _ _ (by omega)).trans ((o1 _ _ _ (by omega)).trans (k2 _ (Array.getElem?_eq_some_iff.1 hc).1 (hrb hc (by decide))))
  · refine (h.each y hy).of_heap fun k e => ?_
    obtain ⟨c', hc⟩ := row_kind (h.each y hy) e
    refine (o2 _ _ _ (fun e' => ?_)).trans ((o1 _ _ _ (fun e' => ?_)).trans (k2 _ (Array.getElem?_eq_some_iff.1 hc).1 (h.free y hy k e)))
    · subst e'
      have := h.b4
      unfold Whole at this
      rw [this] at hc
      simp at hc
    · subst e'
      have := h.b3
      unfold Whole at this
      rw [this] at hc
      simp at hc
  · exact hr.of_heap fun k e => (o2 _ _ _ (fun e' => hnr4 (by rw [e, e']))).trans (o1 _ _ _ (fun e' => hnr3 (by rw [e, e'])))
  · rcases ho with ho | ho
    · rw [ho]; exact h.free y hy k hk
    · rw [ho]
      intro e
      cases e
      obtain ⟨c', hc⟩ := row_kind (h.each y hy) hk
      have := (Array.getElem?_eq_some_iff.1 hc).1
      omega
  · refine ⟨hg.os, hg.tape, hg.output, by simpa using hg.size, fun k hk hn => ?_⟩
    exact (o2 _ _ _ (fun e => hn (accG_b (by simp [e])))).trans ((o1 _ _ _ (fun e => hn (accG_b (by simp [e])))).trans (k2 k hk (fun e => hn (accG_r e))))
  · rcases accG_cases hk with hk | hk | hk | ⟨y, hy, hk⟩
    · exact .inl (accG_b hk)
    · exact .inl (accG_l hk)
    · rcases ho with ho | ho
      · exact .inl (accG_r (ho.symm.trans hk))
      · rw [hk] at ho
        cases ho
        exact .inr (Nat.le_refl _)
    · exact .inl (accG_y hy hk)
/-- the record is whole: it is put to the list. -/
theorem Acc.push {A : Option Addr} {c : Nat} (hB5 : b + 5 ≤ B) (h : Acc b B L R true lv (.slice A R.length c) ys W) {lv' : Value} {w2 : World} {tmp : Obj} (hr : w2.ownsRow B 35 1 lv' (ys.length + 1) (bvs ys ++ [.slice A R.length c])) (hg : (W.alloc tmp).grownBy w2 lv.ownBlock) (ho : lv'.ownBlock = lv.ownBlock ∨ lv'.ownBlock = some (W.alloc tmp).heap.size) :
    Acc b B (L ++ [R]) [] true lv' (.slice none 0 0) (ys ++ [⟨A, c, R⟩]) ((w2.setCell ⟨b + 1 + 1, 0, none⟩ lv').setCell ⟨b + 1 + 1 + 1, 0, none⟩ (.slice none 0 0)) ∧ Touch (accG b lv (.slice A R.length c) ys) W ((w2.setCell ⟨b + 1 + 1, 0, none⟩ lv').setCell ⟨b + 1 + 1 + 1, 0, none⟩ (.slice none 0 0)) ∧
      ∀ k ∈ accG b lv' (.slice none 0 0) (ys ++ [⟨A, c, R⟩]), k ∈ accG b lv (.slice A R.length c) ys ∨ W.heap.size ≤ k := by
  have hrb : ∀ {k : Nat} {cs : Array Value} {ty : TypeId}, W.heap[k]? = some (.cells cs ty (0, 0)) → (ty ≠ 35 ∨ k < b + 5) → lv.ownBlock ≠ some k := fun {k cs ty} hk hty e => by
    obtain ⟨c', hc⟩ := row_kind h.row e
    have h5 := own_ge h.row e
    rw [hk] at hc
    simp at hc
    rcases hty with hty | hty
    · exact hty hc.2
    · omega
  have k2 : ∀ k, k < W.heap.size → lv.ownBlock ≠ some k → w2.heap[k]? = W.heap[k]? := fun k hk hn => (hg.block k (by simp; omega) (fun e => hn e.symm)).trans (Below.heap_alloc _ _ _ hk)
  have o1 : ∀ (X : World) (u : Value) (k : Nat), k ≠ b + 1 + 1 → (X.setCell ⟨b + 1 + 1, 0, none⟩ u).heap[k]? = X.heap[k]? := fun X u k hk => heap_set_other _ _ _ _ _ hk
  have o2 : ∀ (X : World) (u : Value) (k : Nat), k ≠ b + 1 + 1 + 1 → (X.setCell ⟨b + 1 + 1 + 1, 0, none⟩ u).heap[k]? = X.heap[k]? := fun X u k hk => heap_set_other _ _ _ _ _ hk
  have w2b2 : Whole w2 (b + 1 + 1) 22 #[lv] := (k2 _ h.b2.lt (hrb h.b2 (.inr (by omega)))).trans h.b2
  have w2b3 : Whole w2 (b + 1 + 1 + 1) 35 #[.slice A R.length c] := (k2 _ h.b3.lt (hrb h.b3 (.inr (by omega)))).trans h.b3
  have far : ∀ {k : Nat} {cs : Array Value}, W.heap[k]? = some (.cells cs 5 (0, 0)) → k ≠ b + 1 + 1 ∧ k ≠ b + 1 + 1 + 1 := fun {k cs} hk => ⟨fun e => by
      subst e
      have := h.b2
      unfold Whole at this
      rw [this] at hk
      simp at hk, fun e => by
      subst e
      have := h.b3
      unfold Whole at this
      rw [this] at hk
      simp at hk⟩
  have bytes : ∀ {v : Value} {l : List UInt8}, Row W B v l → Row ((w2.setCell ⟨b + 1 + 1, 0, none⟩ lv').setCell ⟨b + 1 + 1 + 1, 0, none⟩ (.slice none 0 0)) B v l := fun {v l} hv => hv.of_heap fun k e => by
    obtain ⟨c', hc⟩ := row_kind hv e
    obtain ⟨f1, f2⟩ := far hc
    exact (o2 _ _ _ f2).trans ((o1 _ _ _ f1).trans (k2 _ (Array.getElem?_eq_some_iff.1 hc).1 (hrb hc (.inl (by decide)))))
  refine ⟨⟨?_, ?_, ?_, ?_, ?_, ?_, ?_, fun y hy => ?_, Row.nil _ _, fun y hy k hk => by simp [Value.ownBlock]⟩, ?_, fun k hk => ?_⟩
  · exact (o2 _ _ _ (by omega)).trans ((o1 _ _ _ (by omega)).trans ((k2 _ h.b0.lt (hrb h.b0 (.inr (by omega)))).trans h.b0))
  · exact (o2 _ _ _ (by omega)).trans ((o1 _ _ _ (by omega)).trans ((k2 _ h.b1.lt (hrb h.b1 (.inr (by omega)))).trans h.b1))
  · exact (o2 _ _ _ (by omega)).trans (w2b2.set_ 0 _)
  · exact (Whole.far w2b3 (p := ⟨b + 1 + 1, 0, none⟩) (by simp) _).set_ 0 _
  · exact (o2 _ _ _ (by omega)).trans ((o1 _ _ _ (by omega)).trans ((k2 _ h.b4.lt (hrb h.b4 (.inr (by omega)))).trans h.b4))
  · rw [List.length_append, List.length_singleton, show bvs (ys ++ [⟨A, c, R⟩]) = bvs ys ++ [.slice A R.length c] by simp [bvs]]
    refine ownsRow_of_heap hr fun k e => ?_
    have := own_ge hr e
    exact (o2 _ _ _ (by omega)).trans (o1 _ _ _ (by omega))
  · rw [show bbs (ys ++ [⟨A, c, R⟩]) = bbs ys ++ [R] by simp [bbs], h.ls]
  · rcases List.mem_append.1 hy with hy | hy
    · exact bytes (h.each y hy)
    · have : y = ⟨A, c, R⟩ := by simpa using hy
      subst this
      exact bytes h.cur
  · refine ⟨hg.os, hg.tape, hg.output, by have := hg.size; simp at this ⊢; omega, fun k hk hn => ?_⟩
    exact (o2 _ _ _ (fun e => hn (accG_b (by simp [e])))).trans ((o1 _ _ _ (fun e => hn (accG_b (by simp [e])))).trans (k2 k hk (fun e => hn (accG_l e))))
  · rcases accG_cases hk with hk | hk | hk | ⟨y, hy, hk⟩
    · exact .inl (accG_b hk)
    · rcases ho with ho | ho
      · exact .inl (accG_l (ho.symm.trans hk))
      · rw [hk] at ho
        cases ho
        exact .inr (by simp)
    · cases hk
    · rcases List.mem_append.1 hy with hy | hy
      · exact .inl (accG_y hy hk)
      · have : y = ⟨A, c, R⟩ := by simpa using hy
        subst this
        exact .inl (accG_r hk)
end
end Go.Proofs.Ytlkkfnimealbkaa
