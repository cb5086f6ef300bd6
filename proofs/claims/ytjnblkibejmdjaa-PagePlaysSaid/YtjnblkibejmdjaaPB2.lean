/- What a call that turns the page leaves: a store into a slot, an append, fewer slots (plain). -/
import Derived.Test.YtjnblkibejmdjaaPB1
namespace Go.Proofs.Ytjnblkibejmdjaa
open Go.RowKit
set_option linter.unusedVariables false

theorem step_append_runI {P : Program} {ops : Array Oper} {o : Oper} {a : Act} {w : World} {K : Act → World → Prop} {Q : Exit → Act → World → Prop} {E : Prop}
    (hg : o.guard = none) (d x : Operand) (dT sT : TypeId) (hop : o.op = Op.call { callee := Callee.builtin Builtin.append, args := #[d, x], argTypes := #[dT, sT] })
    (v u : Value) (hd : a.eval d = v) (hx : a.eval x = u) {v' : Value} {w' : World} (hr : (Builtin.append_ #[dT, sT] o.type #[v, u]).run P w = .ok v' w') (hK : K (a.put o.dst v') w') :
    if Region.wanted o (yielded ops a.tmps) = true then Oper.wp P o a w K Q else E := by
  have hw : Region.wanted o (yielded ops a.tmps) = true := by simp [Region.wanted, hg]
  rw [if_pos hw]
  unfold Oper.wp
  simp [execOp, hop, resolve, invoke, builtin, hd, hx, hr, Result.andThen]
  exact hK
theorem step_call_any {P : Program} {ops : Array Oper} {o : Oper} {a : Act} {w : World} {K : Act → World → Prop} {Q : Exit → Act → World → Prop} {E : Prop}
    (hg : o.guard = none) (f : FuncId) (args : Array Value) (hrun : (execOp a.eval o).run P w = .ok (.enter f args) w) {R : Ending → World → Prop} (hc : Calls P f args w R) (hK : ∀ e w', R e w' → ∃ v, e = .returned v ∧ K (a.put o.dst v) w') :
    if Region.wanted o (yielded ops a.tmps) = true then Oper.wp P o a w K Q else E := by
  have hw : Region.wanted o (yielded ops a.tmps) = true := by simp [Region.wanted, hg]
  rw [if_pos hw]
  unfold Oper.wp
  rw [hrun, Oper.upon_enter]
  refine hc.mono fun e w' hh => ?_
  obtain ⟨v, rfl, hk⟩ := hK e w' hh
  exact hk

/-- how the page stands behind a call. -/
def Goes (w w' : World) (P P' : Pg) : Prop := PgAt w' P' ∧ P'.p = P.p ∧ P'.size = P.size ∧ (∀ k ∈ foot P', k ∈ foot P ∨ w.heap.size ≤ k) ∧ Touch (foot P) w w'
theorem Goes.refl {w : World} {P : Pg} (h : PgAt w P) : Goes w w P P := ⟨h, rfl, rfl, fun _ hk => .inl hk, Touch.refl _ _⟩
theorem Goes.trans {w w1 w2 : World} {P P1 P2 : Pg} (h : Goes w w1 P P1) (k : Goes w1 w2 P1 P2) : Goes w w2 P P2 :=
  ⟨k.1, k.2.1.trans h.2.1, k.2.2.1.trans h.2.2.1, fun x hx => by
    rcases k.2.2.2.1 x hx with h1 | h1
    · exact h.2.2.2.1 x h1
    · exact .inr (Nat.le_trans h.2.2.2.2.size h1), h.2.2.2.2.trans k.2.2.2.2 (fun x hx => h.2.2.2.1 x hx)⟩
theorem Goes.after {w w1 w2 : World} {P P2 : Pg} (hb : Below w.heap.size w w1) (k : Goes w1 w2 P P2) : Goes w w2 P P2 :=
  ⟨k.1, k.2.1, k.2.2.1, fun x hx => (k.2.2.2.1 x hx).imp id (fun h => Nat.le_trans hb.size h), (Touch.of_below hb (foot P)).trans k.2.2.2.2 (fun x hx => .inl hx)⟩
theorem Goes.still {w w' : World} {P P' : Pg} (h : PgAt w P) (g : Goes w w' P P') : Still w w' :=
  ⟨g.2.2.2.2.size, fun k cs t z e h1 h2 => g.2.2.2.2.block k (Array.getElem?_eq_some_iff.1 e).1 fun hk => by
    obtain ⟨cs', t', e', ht⟩ := h.kinds hk
    rw [e] at e'
    simp at e'
    rcases ht with ht | ht
    · exact h1 (e'.2.1.trans ht)
    · exact h2 (e'.2.1.trans ht)⟩
section
variable {w w' w0 : World} {P : Pg}
theorem PgAt.vp (h : PgAt w P) {k : Nat} (e : P.v.ownBlock = some k) : k ≠ P.p := fun e' => by
  obtain ⟨cur, hc⟩ := row_kind h.row e
  have := h.top
  unfold Whole at this
  rw [e', this] at hc
  simp at hc
theorem PgAt.plain (h : PgAt w P) {k : Nat} (hk : k ∈ foot P) : ¬ Bytes w k := fun hb => by
  obtain ⟨cs, t, e, ht⟩ := h.kinds hk
  obtain ⟨cs', z, e'⟩ := hb
  rw [e] at e'
  simp at e'
  rcases ht with ht | ht
  · exact absurd (e'.2.1.symm.trans ht) (by decide)
  · exact absurd (e'.2.1.symm.trans ht) (by decide)
theorem bvs_set (xs : List Bx) (i : Nat) (x : Bx) : bvs (xs.set i x) = (bvs xs).set i x.v := by simp [bvs, List.map_set]
theorem bbs_set (xs : List Bx) (i : Nat) (x : Bx) : bbs (xs.set i x) = (bbs xs).set i x.b := by simp [bbs, List.map_set]
theorem ownsRow_set {base : Nat} {e : TypeId} {v : Value} {n : Nat} {xs : List Value} {g : Nat} (h : w.ownsRow base e 1 v n xs) (hg : v.ownBlock = some g) (i : Nat) (u : Value) : (w.setCell ⟨g, i, none⟩ u).ownsRow base e 1 v n (xs.set i u) := by
  refine ⟨by rw [List.length_set]; exact h.1, ?_⟩
  rcases h.2 with ⟨rfl, _⟩ | ⟨g', cap, cur, rfl, hb, hh, hn, hm, hs, ht⟩
  · cases hg
  · cases hg
    refine .inr ⟨g', cap, cur.setIfInBounds i u, rfl, hb, Whole.set_ (show Whole w g' e cur from hh) i u, hn, hm, by simpa using hs, ?_⟩
    rw [Array.toList_setIfInBounds, List.take_set, ht]
theorem PgAt.store (h : PgAt w P) (i : Nat) (hi : i < P.xs.length) (x : Bx) (hx : Row w 0 x.v x.b) (hfit : 1 + 4 * P.xs.length + used (P.L.set i x.b) ≤ P.size) {g : Nat} (hg : P.v.ownBlock = some g) :
    Goes w (w.setCell ⟨g, i, none⟩ x.v) P { P with xs := P.xs.set i x } := by
  have hl : (P.xs.set i x).length = P.xs.length := List.length_set
  have hby : ∀ k, Bytes w k → (w.setCell ⟨g, i, none⟩ x.v).heap[k]? = w.heap[k]? := fun k hk => heap_set_other _ _ _ _ _ fun e => h.plain (foot_v hg) (e ▸ hk)
  refine ⟨⟨?_, ?_, fun y hy => ?_, h.sz1, h.sz2, by rw [hl]; exact h.few, ?_⟩, rfl, rfl, fun k hk => .inl ?_, Touch.one (foot_v hg)⟩
  · have := (heap_set_other w g i x.v P.p (fun e => h.vp hg e.symm)).trans h.top
    unfold pcells Pg.v at *
    simp only [hl]
    exact this
  · have := ownsRow_set h.row hg i x.v
    simp only [Pg.v, hl, bvs_set] at *
    exact this
  · rcases List.mem_or_eq_of_mem_set hy with hy | rfl
    · exact (h.held y hy).of_heap fun k hk => hby k ((h.held y hy).bytes hk)
    · exact hx.of_heap fun k hk => hby k (hx.bytes hk)
  · show 1 + 4 * (P.xs.set i x).length + used (bbs (P.xs.set i x)) ≤ P.size
    rw [hl, bbs_set]
    exact hfit
  · rcases foot_cases hk with rfl | e
    · exact foot_p
    · refine foot_v ?_
      rw [← e]
      simp only [Pg.v, hl]
theorem ownsRow_succ {w : World} {base : Nat} {e : TypeId} {z n : Nat} {v : Value} {xs : List Value} (h : w.ownsRow base e z v (n + 1) xs) : ∃ g cap, v = .slice (some ⟨g, 0, none⟩) (n + 1) cap := by
  rcases h.2 with ⟨_, h0⟩ | ⟨g, cap, cur, rfl, _⟩
  · omega
  · exact ⟨g, cap, rfl⟩
theorem infoBs : (Try.prog.info? 29).map (fun i => (i.zero, i.size, i.bytes)) = some (some (.slice none 0 0), 1, 24) := by kernel_rfl
theorem PgAt.push (h : PgAt w P) (x : Bx) (hx : Row w 0 x.v x.b) (hn : P.xs.length < 250) (hfit : 1 + 4 * (P.xs.length + 1) + used P.L + x.b.length ≤ P.size) :
    ∃ a' c' w4, Sem.run Try.prog (Builtin.append_ #[46, 46] 46 #[P.v, .slice (some ⟨w.heap.size, 0, none⟩) 1 1]) (w.alloc (.cells #[x.v] 29)) = .ok (.slice a' (P.xs.length + 1) c') w4 ∧
      w4.cell? ⟨P.p, 1, none⟩ = some P.v ∧ w4.frozen? ⟨P.p, 1, none⟩ = false ∧ P.p < w4.heap.size ∧
      Goes w (w4.setCell ⟨P.p, 1, none⟩ (.slice a' (P.xs.length + 1) c')) P { P with A := a', c := c', xs := P.xs ++ [x] } := by
  obtain ⟨i, hi, hz0, hz1, hz2⟩ := info_parts infoBs
  have hsz := h.lt
  have balW : Below w.heap.size w (w.alloc (.cells #[x.v] 29)) := (Below.refl _ _).alloc (Nat.le_refl _) _
  have hcell : (w.alloc (.cells #[x.v] 29)).cell? ⟨w.heap.size, 0, none⟩ = some x.v := cell_of_row _ w.heap.size 0 #[x.v] 29 (0, 0) (heap_alloc_new w _)
  have hW := h.below balW
  have hxW := hx.below balW
  have hszW : (w.alloc (.cells #[x.v] 29)).heap.size = w.heap.size + 1 := by simp
  generalize w.alloc (.cells #[x.v] 29) = W at *
  obtain ⟨v', w4, hr, ho, hg, _, hown⟩ := run_append_own_at (P := Try.prog) W 0 46 46 29 i (.slice none 0 0) 1 24 Try.underlying46 hi hz0 hz1 hz2 rfl (by omega) P.v P.xs.length (bvs P.xs) hW.row ⟨w.heap.size, 0, none⟩ 1 1 [x.v] rfl (by
    intro j u hu
    have hj : j = 0 := by
      have := (List.getElem?_eq_some_iff.1 hu).1
      simp at this
      exact this
    subst hj
    simp at hu
    subst hu
    exact hcell) (by
    intro u hu
    simp at hu
    subst hu
    rfl) (by simp only [maxLen]; omega) (by omega) (Nat.zero_le _)
  obtain ⟨g', cap', e'⟩ := ownsRow_succ ho
  subst e'
  have p4 : Whole w4 P.p 48 (pcells P) := (hg.block P.p (by omega) (fun e => hW.vp e.symm rfl)).trans hW.top
  have b4 : ∀ k, Bytes W k → w4.heap[k]? = W.heap[k]? := fun k hk => hg.block k hk.lt (fun e => hW.plain (foot_v e.symm) hk)
  have hg'v : (Value.slice (some ⟨g', 0, none⟩) (P.xs.length + 1) cap').ownBlock = some g' := rfl
  have hg'p : g' ≠ P.p := fun e => by
    obtain ⟨cur, hc⟩ := row_kind ho hg'v
    unfold Whole at p4
    rw [e, p4] at hc
    simp at hc
  have hbp : ∀ k, Bytes W k → k ≠ P.p := fun k hk e => hW.plain foot_p (e ▸ hk)
  refine ⟨_, cap', w4, hr, p4.cell 1, p4.frozen 1, p4.lt, ⟨?_, ?_, fun y hy => ?_, h.sz1, h.sz2, ?_, ?_⟩, rfl, rfl, fun k hk => ?_, ?_⟩
  · have := p4.set_ 1 (.slice (some ⟨g', 0, none⟩) (P.xs.length + 1) cap')
    unfold pcells Pg.v at *
    simp only [List.length_append, List.length_singleton]
    exact this
  · show World.ownsRow _ 0 29 1 (.slice (some ⟨g', 0, none⟩) (P.xs ++ [x]).length cap') (P.xs ++ [x]).length (bvs (P.xs ++ [x]))
    rw [List.length_append, List.length_singleton, show bvs (P.xs ++ [x]) = bvs P.xs ++ [x.v] by simp [bvs]]
    exact ownsRow_of_heap ho fun b hb => heap_set_other _ _ _ _ _ (by cases hb; exact hg'p)
  · have hrow : Row W 0 y.v y.b := by
      rcases List.mem_append.1 hy with hy | hy
      · exact hW.held y hy
      · have : y = x := by simpa using hy
        subst this
        exact hxW
    exact hrow.of_heap fun k hk => (heap_set_other _ _ _ _ _ (hbp k (hrow.bytes hk))).trans (b4 k (hrow.bytes hk))
  · show (P.xs ++ [x]).length ≤ 250
    rw [List.length_append, List.length_singleton]; omega
  · show 1 + 4 * (P.xs ++ [x]).length + used (bbs (P.xs ++ [x])) ≤ P.size
    rw [List.length_append, List.length_singleton, show bbs (P.xs ++ [x]) = bbs P.xs ++ [x.b] by simp [bbs], used_append, used_one]
    have : used P.L = used (bbs P.xs) := rfl
    omega
  · rcases foot_cases hk with rfl | e
    · exact .inl foot_p
    · have e : g' = k := by
        simp only [Value.ownBlock] at e
        injection e
      subst e
      rcases hown with hh | hh
      · exact .inl (foot_v (hh.symm.trans hg'v))
      · rw [hg'v] at hh
        injection hh with hh
        exact .inr (by omega)
  · refine ((Touch.of_below balW (foot P)).grown hg fun k e => .inl (foot_v e)).setCell (.inl foot_p) _
/-- the slots behind the last one that has a piece go. -/
def trimN (L : List (List UInt8)) : Nat → Nat
  | 0 => 0
  | n + 1 => if L.getD n [] = [] then trimN L n else n + 1
def trimL (L : List (List UInt8)) : List (List UInt8) := L.take (trimN L L.length)
theorem trimN_empty (L : List (List UInt8)) (n : Nat) (h : L.getD n [] = []) : trimN L (n + 1) = trimN L n := if_pos h
theorem trimN_full (L : List (List UInt8)) (n : Nat) (h : L.getD n [] ≠ []) : trimN L (n + 1) = n + 1 := if_neg h
theorem trimN_le (L : List (List UInt8)) : ∀ n, trimN L n ≤ n
  | 0 => Nat.le_refl _
  | n + 1 => by
    unfold trimN
    split
    · have := trimN_le L n; omega
    · omega
theorem used_take (L : List (List UInt8)) (k : Nat) : used (L.take k) ≤ used L := by
  have := used_append (L.take k) (L.drop k)
  rw [List.take_append_drop] at this
  omega
theorem PgAt.cut (h : PgAt w P) (k : Nat) (hk : k ≤ P.xs.length) : Goes w (w.setCell ⟨P.p, 1, none⟩ (.slice P.A k P.c)) P { P with xs := P.xs.take k } := by
  have hl : (P.xs.take k).length = k := by rw [List.length_take]; omega
  have hbp : ∀ b, Bytes w b → b ≠ P.p := fun b hb e => h.plain foot_p (e ▸ hb)
  refine ⟨⟨?_, ?_, fun y hy => ?_, h.sz1, h.sz2, by rw [hl]; have := h.few; omega, ?_⟩, rfl, rfl, fun b hb => .inl ?_, Touch.one foot_p⟩
  · have := h.top.set_ 1 (.slice P.A k P.c)
    unfold pcells Pg.v at *
    simp only [hl]
    exact this
  · have hr := h.row
    have hv : P.v.ownBlock = (Value.slice P.A k P.c).ownBlock := by unfold Pg.v; cases P.A <;> rfl
    show World.ownsRow _ 0 29 1 (.slice P.A (P.xs.take k).length P.c) (P.xs.take k).length (bvs (P.xs.take k))
    rw [hl]
    have hbt : bvs (P.xs.take k) = (bvs P.xs).take k := by simp [bvs, List.map_take]
    rw [hbt]
    refine ownsRow_of_heap (w := w) ⟨by rw [List.length_take, bvs_len]; omega, ?_⟩ fun b hb => heap_set_other _ _ _ _ _ (h.vp (hv.trans hb))
    rcases hr.2 with ⟨e, h0⟩ | ⟨g, cap, cur, e, hb, hh, hn, hm, hs, ht⟩
    · simp only [Pg.v, Value.slice.injEq] at e
      have hk0 : k = 0 := by omega
      subst hk0
      exact .inl ⟨by rw [e.1, e.2.2], rfl⟩
    · simp only [Pg.v, Value.slice.injEq] at e
      obtain ⟨e1, _, e3⟩ := e
      refine .inr ⟨g, cap, cur, by rw [e1, e3], hb, hh, by omega, hm, hs, ?_⟩
      rw [← ht, List.take_take]
      congr 1
      omega
  · have hy' := List.mem_of_mem_take hy
    exact (h.held y hy').of_heap fun b hb => heap_set_other _ _ _ _ _ (hbp b ((h.held y hy').bytes hb))
  · show 1 + 4 * (P.xs.take k).length + used (bbs (P.xs.take k)) ≤ P.size
    have hbt : bbs (P.xs.take k) = P.L.take k := by simp [Pg.L, bbs, List.map_take]
    rw [hl, hbt]
    have := h.fit
    have := used_take P.L k
    omega
  · rcases foot_cases hb with rfl | e
    · exact foot_p
    · refine foot_v ?_
      rw [← e]
      unfold Pg.v
      cases P.A <;> rfl
end
end Go.Proofs.Ytjnblkibejmdjaa
