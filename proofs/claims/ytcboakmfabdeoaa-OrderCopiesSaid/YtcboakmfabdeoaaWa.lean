/- slices.Delete and slices.Clone at pairs. -/
import Derived.Test.YtcboakmfabdeoaaW9
namespace Go.Proofs.Ytcboakmfabdeoaa
open Go.RowKit

/-- clear, at elements of k cells. -/
theorem run_clear_rowk {P : Program} (w : World) (t e ty : TypeId) (z : Value) (ht : P.underlying t = some (.slice e)) (hv : ∀ w, (zeroValue e).run P w = .ok z w) (hz1 : ∀ v ∈ z.cells, v.oneCell' = true) (hzs : 0 < z.cells.size)
    (g o n c : Nat) (cur : Array Value) (te : TypeId) (hg : w.heap[g]? = some (.cells cur te (0, 0))) (hfit : o + n * z.cells.size ≤ cur.size) (hn : n ≠ 0) :
    (Builtin.clear_ #[t] ty #[.slice (some ⟨g, o, none⟩) n c]).run P w = .ok (.tuple #[]) (w.setRow g (cur.toList.take o ++ (Builtin.zeroCells z.cells n).toList ++ cur.toList.drop (o + n * z.cells.size)).toArray) := by
  have hlen : (Builtin.zeroCells z.cells n).toList.length = n * z.cells.size := by simp [Builtin.zeroCells]
  have hst := run_storeCells_at P g o te (Builtin.zeroCells z.cells n).toList 0 cur w hg (by rw [hlen]; simpa using hfit) (fun v hv => by
    simp only [Builtin.zeroCells, Array.toList_map, List.mem_map] at hv
    obtain ⟨i, _, rfl⟩ := hv
    have hlt : i % z.cells.size < z.cells.size := Nat.mod_lt _ hzs
    rw [getElem!_pos z.cells _ hlt]
    exact hz1 _ (Array.getElem_mem hlt))
  rw [hlen] at hst
  simp only [Nat.add_zero] at hst
  cases n with
  | zero => exact absurd rfl hn
  | succ n =>
    unfold Builtin.clear_
    simp [run_underlying ht, hv, hst]

theorem wpList_clear_runI {P : Program} (w : World) {ops : Array Oper} {rest : List Oper} {o : Oper} {a : Act} {Q : Exit → Act → World → Prop} (hgd : o.guard = none) (s : Operand) (t : TypeId)
    (ho : o.op = .call { callee := .builtin .clear, args := #[s], argTypes := #[t] }) (v : Value) (hs : a.eval s = v) {v' : Value} {w' : World}
    (hr : (Builtin.clear_ #[t] o.type #[v]).run P w = .ok v' w') (h : wpList P ops Q rest (a.put o.dst v') w') : wpList P ops Q (o :: rest) a w :=
  wpList_plain hgd fun _ hK => by
    unfold Oper.wp execOp
    simp only [ho, resolve, invoke, builtin, Sem.run_bind, Sem.run_pure, Result.andThen_ok, List.map_toArray, List.map_cons, List.map_nil, hs, hr]
    exact hK _ _ h

theorem step_append_runI {P : Program} {ops : Array Oper} {o : Oper} {a : Act} {w : World} {K : Act → World → Prop} {Q : Exit → Act → World → Prop} {E : Prop}
    (hg : o.guard = none) (d x : Operand) (dT sT : TypeId) (hop : o.op = Op.call { callee := Callee.builtin Builtin.append, args := #[d, x], argTypes := #[dT, sT] })
    (v u : Value) (hd : a.eval d = v) (hx : a.eval x = u) {v' : Value} {w' : World} (hr : (Builtin.append_ #[dT, sT] o.type #[v, u]).run P w = .ok v' w') (hK : K (a.put o.dst v') w') :
    if Region.wanted o (yielded ops a.tmps) = true then Oper.wp P o a w K Q else E := by
  have hw : Region.wanted o (yielded ops a.tmps) = true := by simp [Region.wanted, hg]
  rw [if_pos hw]
  unfold Oper.wp
  simp [execOp, hop, resolve, invoke, builtin, hd, hx, hr, Result.andThen]
  exact hK

theorem zeroV61 : ∀ w, (zeroValue 61).run Try.prog w = .ok (.agg #[.int .i64 0, .string ByteArray.empty]) w := Try.zeroValue61

theorem PRow.open {w : World} {g n cap : Nat} {l : List Pr} (hr : PRow w (.slice (some ⟨g, 0, none⟩) n cap) l) :
    n = l.length ∧ n ≤ cap ∧ ∃ cur, w.heap[g]? = some (.cells cur 61 (0, 0)) ∧ cap ≤ maxLen ∧ cur.size = cap * 2 ∧ cur.toList.take (n * 2) = encP l := by
  rcases hr.2 with ⟨h, _⟩ | ⟨g', cap', cur, h, _, h2, h3, h4, h5, h6⟩
  · cases h
  · simp only [Value.slice.injEq, Option.some.injEq, Addr.mk.injEq] at h
    obtain ⟨⟨rfl, _⟩, rfl, rfl⟩ := h
    exact ⟨rfl, h3, cur, h2, h4, h5, h6⟩

theorem PRow.mk {w : World} {g n cap : Nat} {l : List Pr} (hn : n = l.length) (hc : n ≤ cap) (cur : Array Value) (h2 : w.heap[g]? = some (.cells cur 61 (0, 0))) (h4 : cap ≤ maxLen) (h5 : cur.size = cap * 2) (h6 : cur.toList.take (n * 2) = encP l) :
    PRow w (.slice (some ⟨g, 0, none⟩) n cap) l := by
  subst hn
  exact ⟨encP_length l, .inr ⟨g, cap, cur, rfl, Nat.zero_le _, h2, hc, h4, h5, h6⟩⟩

set_option maxHeartbeats 4000000 in
set_option maxRecDepth 100000 in
theorem deleteP_any (g n cap i j : Nat) (l : List Pr) (w : World) (hij : i < j) (hjn : j ≤ n) (hn : n ≤ 1000000) (hr : PRow w (.slice (some ⟨g, 0, none⟩) n cap) l) :
    Calls Try.prog 49 #[.slice (some ⟨g, 0, none⟩) n cap, .int .i64 i, .int .i64 j] w fun e w' =>
      e = .returned (.slice (some ⟨g, 0, none⟩) (i + (n - j)) cap) ∧ PRow w' (.slice (some ⟨g, 0, none⟩) (i + (n - j)) cap) (l.take i ++ l.drop j) ∧ w.grownBy w' (some g) := by
  obtain ⟨hl, hnc, cur, hg, hcm, hcs, htk⟩ := hr.open
  have hcl := hr.cells (g := g) rfl
  obtain ⟨i0, hi0, hz0, hzs, hzb⟩ := info_parts Try.info61
  have hld : (l.drop j).length = n - j := by simp; omega
  -- the append
  have ap : ∀ (a : Addr) c, (a = ⟨g, j * 2, none⟩ ∨ j = n) → (Builtin.append_ #[65, 65] 65 #[.slice (some ⟨g, 0, none⟩) i cap, .slice (some a) (n - j) c]).run Try.prog w.drew =
      .ok (.slice (some ⟨g, 0, none⟩) (i + (n - j)) cap) (w.drew.setRow g (cur.toList.take (i * 2) ++ encP (l.drop j) ++ cur.toList.drop (i * 2 + (encP (l.drop j)).length)).toArray) := by
    intro a c ha
    have := run_append_room (P := Try.prog) w.drew 65 65 61 i0 Try.underlying65 hi0 g i cap cur hg a (n - j) c (encP (l.drop j)) (by rw [encP_length, hld, hzs]) (fun k u hk => by
      rcases ha with rfl | rfl
      · rw [World.cell?_drew, Addr.add_lit]
        have := hcl (j * 2 + k) u (by rw [← encP_drop, List.getElem?_drop] at hk; exact hk)
        rw [Addr.add_lit, Nat.zero_add] at this
        exact this
      · rw [List.drop_eq_nil_of_le (by omega)] at hk; simp [encP] at hk) (encP_one _) (by omega) (by rw [encP_length, hld, hzs, hcs]; omega)
    rw [hzs] at this
    exact this
  obtain ⟨cur1, hcur1⟩ : ∃ cur1, cur1 = (cur.toList.take (i * 2) ++ encP (l.drop j) ++ cur.toList.drop (i * 2 + (encP (l.drop j)).length)).toArray := ⟨_, rfl⟩
  rw [← hcur1] at ap
  have s1 : cur1.size = cap * 2 := by rw [hcur1]; simp [encP_length, hcs, hld]; omega
  have t1 : cur1.toList.take ((i + (n - j)) * 2) = encP (l.take i ++ l.drop j) := by
    rw [hcur1, encP_append, ← encP_take, ← htk, List.take_take, Nat.min_eq_left (by omega)]
    show List.take _ (List.toArray _).toList = _
    exact List.take_left' (by simp [encP_length, hcs, hld]; omega)
  obtain ⟨W1, hW1⟩ : ∃ W1, W1 = w.drew.setRow g cur1 := ⟨_, rfl⟩
  rw [← hW1] at ap
  have g1 : W1.heap[g]? = some (.cells cur1 61 (0, 0)) := by rw [hW1]; exact setRow_heap w.drew _ cur _ _ _ hg
  have b1 : w.grownBy W1 (some g) := by rw [hW1]; exact ⟨rfl, rfl, rfl, by simp, fun k _ hk => setRow_other _ _ _ _ (fun e => hk (by rw [e]))⟩
  -- the clear
  have cl := fun ty c => run_clear_rowk W1 65 61 ty (.agg #[.int .i64 0, .string ByteArray.empty]) Try.underlying65 zeroV61 (by intro v hv; simp [Value.cells] at hv; rcases hv with rfl | rfl <;> rfl) (by decide) g ((i + (n - j)) * 2) (n - (i + (n - j))) c cur1 61 g1
    (by rw [s1]; show (i + (n - j)) * 2 + (n - (i + (n - j))) * 2 ≤ _; omega) (by omega)
  obtain ⟨cur2, hcur2⟩ : ∃ cur2, cur2 = (cur1.toList.take ((i + (n - j)) * 2) ++ (Builtin.zeroCells (Value.agg #[.int .i64 0, .string ByteArray.empty]).cells (n - (i + (n - j)))).toList ++ cur1.toList.drop ((i + (n - j)) * 2 + (n - (i + (n - j))) * (Value.agg #[.int .i64 0, .string ByteArray.empty]).cells.size)).toArray := ⟨_, rfl⟩
  rw [← hcur2] at cl
  have s2 : cur2.size = cap * 2 := by
    have hk : (Value.agg #[Value.int IntKind.i64 0, Value.string ByteArray.empty]).cells.size = 2 := rfl
    rw [hcur2, hk]; simp [Builtin.zeroCells, s1, hk]; omega
  have t2 : cur2.toList.take ((i + (n - j)) * 2) = encP (l.take i ++ l.drop j) := by
    rw [hcur2, ← t1]
    show List.take _ (List.toArray _).toList = _
    rw [List.append_assoc]
    exact List.take_left' (by simp [s1]; omega)
  obtain ⟨W2, hW2⟩ : ∃ W2, W2 = W1.setRow g cur2 := ⟨_, rfl⟩
  rw [← hW2] at cl
  have g2 : W2.heap[g]? = some (.cells cur2 61 (0, 0)) := by rw [hW2]; exact setRow_heap W1 _ cur1 _ _ _ g1
  have b2 : w.grownBy W2 (some g) := by
    rw [hW2]
    exact ⟨b1.os, b1.tape, b1.output, Nat.le_trans b1.size (by simp), fun k hk hne => (setRow_other _ _ _ _ (fun e => hne (by rw [e]))).trans (b1.block k hk hne)⟩
  have own : PRow W2 (.slice (some ⟨g, 0, none⟩) (i + (n - j)) cap) (l.take i ++ l.drop j) :=
    PRow.mk (by simp; omega) (by omega) cur2 g2 hcm s2 t2
  have FIN : Hid (PRow W2 (.slice (some ⟨g, 0, none⟩) (i + (n - j)) cap) (l.take i ++ l.drop j) ∧ w.grownBy W2 (some g)) := ⟨own, b2⟩
  have AP := Lib.hid ap
  have CL := Lib.hid cl
  clear own b2 g2 hW2 t2 s2 hcur2 b1 g1 hW1 t1 s1 hcur1 hcl hg hcs htk hcm hl ap cl hld hi0 hz0 hzs hzb hr
  have q2 : ((i : Int) == (j : Int)) = false := by rw [beq_eq_false_iff_ne]; omega
  have q3 : ¬ (cap = i) := by omega
  have q4 : (i : Int) ≤ (j : Int) := by omega
  have q5 : (j : Int) ≤ (n : Int) := by omega
  have q6 : ((i : Int) + ((n - j : Nat) : Int)) ≤ (n : Int) := by omega
  have q7 : ¬ (cap = i + (n - j)) := by omega
  have q8 : (i : Int) ≤ (cap : Int) := by omega
  by_cases hjn' : j = n
  · subst hjn'
    simp only [Nat.sub_self, Nat.add_zero] at AP CL FIN q6 q7 ⊢
    by_cases hcj : cap = j
    · subst hcj
      have AP2 := Lib.hid (AP.out ⟨g, 0, none⟩ 0 (.inr trivial))
      clear AP
      go_enter Try.func49, Try.ntmps49
      go_wp2_with fail
      go_region_law (go_loud (refine step_append_runI rfl _ _ 65 65 rfl _ _ ?h1 ?h2 AP2.out ?_; (case h1 => rfl); (case h2 => rfl)))
      go_wp2_with (with_reducible refine wpList_clear_runI _ rfl _ 65 rfl _ rfl (CL.out _ _) ?_)
      go_ret
      exact ⟨rfl, FIN.out⟩
    · have AP2 := Lib.hid (AP.out ⟨g, j * 2, none⟩ (cap - j) (.inr trivial))
      clear AP
      go_enter Try.func49, Try.ntmps49
      go_wp2_with fail
      go_region_law (go_loud (refine step_append_runI rfl _ _ 65 65 rfl _ _ ?h1 ?h2 AP2.out ?_; (case h1 => rfl); (case h2 => rfl)))
      go_wp2_with (with_reducible refine wpList_clear_runI _ rfl _ 65 rfl _ rfl (CL.out _ _) ?_)
      go_ret
      exact ⟨rfl, FIN.out⟩
  · have hcj : ¬ (cap = j) := by omega
    have q9 : ¬ ((j : Int) = (n : Int)) := by omega
    clear hjn'
    have AP2 := Lib.hid (AP.out ⟨g, j * 2, none⟩ (cap - j) (.inl rfl))
    clear AP
    go_enter Try.func49, Try.ntmps49
    go_wp2_with fail
    go_region_law (go_loud (refine step_append_runI rfl _ _ 65 65 rfl _ _ ?h1 ?h2 AP2.out ?_; (case h1 => rfl); (case h2 => rfl)))
    go_wp2_with (with_reducible refine wpList_clear_runI _ rfl _ 65 rfl _ rfl (CL.out _ _) ?_)
    go_ret
    exact ⟨rfl, FIN.out⟩
end Go.Proofs.Ytcboakmfabdeoaa
