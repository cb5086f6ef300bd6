/- Since and Cut. -/
import Derived.Test.YtekbfjdjgpgmpaaS3
namespace Go.Proofs.Ytekbfjdjgpgmpaa
open Go.RowKit

theorem since_no {w : World} {p : Nat} {F : List Nat} {ts : List ByteArray} {ms : List Nat} (h : IsTrail w p F ts ms) (m : Int) (hm : m < 0 ∨ (ms.length : Int) ≤ m) : Calls Try.prog 18 #[.pointer (some ⟨p, 0, none⟩), .int .i64 m] w fun e w' => e = .returned (.tuple #[.slice none 0 0, .int .i64 1]) ∧ w' = w := by
  go_enter Try.func18, Try.ntmps18
  go_wp2_with (go_at_call 23; refine (stands_no h m hm).mono ?_; rintro e w' ⟨rfl, rfl⟩)
  go_ret2
  exact ⟨rfl, rfl⟩
theorem cut_no {w : World} {p : Nat} {F : List Nat} {ts : List ByteArray} {ms : List Nat} (h : IsTrail w p F ts ms) (m : Int) (hm : m < 0 ∨ (ms.length : Int) ≤ m) : Calls Try.prog 13 #[.pointer (some ⟨p, 0, none⟩), .int .i64 m] w fun e w' => e = .returned (.tuple #[.slice none 0 0, .int .i64 1]) ∧ w' = w := by
  go_enter Try.func13, Try.ntmps13
  go_wp2_with (go_at_call 18; refine (since_no h m hm).mono ?_; rintro e w' ⟨rfl, rfl⟩)
  go_ret2
  exact ⟨rfl, rfl⟩

theorem row_cells {w : World} {b g n cap : Nat} {e : TypeId} {xs : List Value} (h : w.ownsRow b e 1 (.slice (some ⟨g, 0, none⟩) n cap) n xs) (j : Nat) (u : Value) (hj : xs[j]? = some u) : w.cell? ⟨g, j, none⟩ = some u := by
  have := h.cells (g := g) rfl j u hj
  rwa [Addr.add_lit, Nat.zero_add] at this

set_option maxRecDepth 100000 in
set_option maxHeartbeats 1000000 in
theorem since_yes {w : World} {p : Nat} {F : List Nat} {ts : List ByteArray} {ms : List Nat} (h : IsTrail w p F ts ms) (m : Int) (k l : Nat) (hm : m = k) (hk : ms[k]? = some l) (hl : l ≤ ts.length) (hn : ts.length ≤ 1000000) :
    Calls Try.prog 18 #[.pointer (some ⟨p, 0, none⟩), .int .i64 m] w fun e w' => ∃ v, e = .returned (.tuple #[v, .int .i64 0]) ∧ w'.ownsRow w.heap.size 9 1 v (ts.length - l) (texts (ts.drop l)) ∧ Below w.heap.size w w' := by
  have hkl : k < ms.length := (List.getElem?_eq_some_iff.1 hk).1
  have HS := Lib.hid (stands_yes h m k hm hkl)
  obtain ⟨vt, vm, h, rfl⟩ := h
  obtain ⟨g, c, rfl, hc⟩ := row_pos h.marks (by omega)
  have c1 : w.cell? ⟨p, 1, none⟩ = some (.slice (some ⟨g, 0, none⟩) ms.length c) := cell_of_row w p 1 _ _ _ h.cellp
  have ck : w.cell? ⟨g, k, none⟩ = some (.int .i64 l) := row_cells h.marks k _ (by simp [nums, hk])
  subst hm
  have q1 : (k : Int) < (ms.length : Int) := by omega
  by_cases hv : vt = .slice none 0 0
  · subst hv
    have ht0 : ts.length = 0 := by rcases h.things.2 with ⟨_, e⟩ | ⟨_, _, _, e, _⟩; exact e; cases e
    have hl0 : l = 0 := by omega
    subst hl0
    have : ts = [] := List.eq_nil_of_length_eq_zero ht0
    subst this
    have c0 : w.cell? ⟨p, 0, none⟩ = some (.slice none 0 0) := cell_of_row w p 0 _ _ _ h.cellp
    clear h hk hc hl hn ht0
    go_enter Try.func18, Try.ntmps18
    go_wp2_with (go_at_call 23; refine HS.out.mono ?_; rintro e w' ⟨rfl, rfl⟩)
    go_still_tail 12, (by kernel_rfl)
    change wpList _ _ _ _ _ w'.drew
    go_wp2_with (go_at_call 24; refine (clone_nil _).mono ?_; rintro e w2 ⟨rfl, rfl⟩)
    go_ret2
    exact ⟨_, rfl, World.ownsRow_nil _ _ _ _, (Touch.refl [] w').drew.below⟩
  · obtain ⟨g0, c0', rfl, hg0⟩ : ∃ g0 c0, vt = .slice (some ⟨g0, 0, none⟩) ts.length c0 ∧ ts.length ≤ c0 := by
      rcases h.things.2 with ⟨e, _⟩ | ⟨g0, cap, cur, e, _, _, h4, _⟩
      · exact absurd e hv
      · exact ⟨g0, cap, e, h4⟩
    have c0 : w.cell? ⟨p, 0, none⟩ = some (.slice (some ⟨g0, 0, none⟩) ts.length c0') := cell_of_row w p 0 _ _ _ h.cellp
    have CL : Hid (Calls Try.prog 24 #[.slice (if c0' = l then some ⟨g0, 0, none⟩ else some ⟨g0, l, none⟩) (ts.length - l) (c0' - l)] w.drew fun e w' => ∃ v', e = .returned v' ∧ w'.ownsRow w.heap.size 9 1 v' (ts.length - l) (texts (ts.drop l)) ∧ Below w.heap.size w w') := by
      have base : ∀ o, (ts.length ≠ l → o = l) → Calls Try.prog 24 #[.slice (some ⟨g0, o, none⟩) (ts.length - l) (c0' - l)] w.drew fun e w' => ∃ v', e = .returned v' ∧ w'.ownsRow w.heap.size 9 1 v' (ts.length - l) (texts (ts.drop l)) ∧ Below w.heap.size w w' := fun o ho => by
        refine (clone_part g0 o (ts.length - l) (c0' - l) (ts.drop l) w.drew (by simp) (by omega) (fun j hj => ?_)).mono ?_
        · show w.cell? _ = _
          rw [List.length_drop] at hj
          rw [ho (by omega)]
          refine row_cells h.things _ _ ?_
          simp [texts, List.getD]
          rw [List.getElem?_eq_getElem (by omega)]
          simp
        · rintro e w' ⟨v', rfl, h1, h2⟩
          exact ⟨v', rfl, h1, ⟨h2.os, h2.tape, h2.output, h2.size, h2.block⟩⟩
      split
      · exact base 0 (fun hne => by omega)
      · exact base l (fun _ => rfl)
    have q2 : (l : Int) ≤ (ts.length : Int) := by omega
    have q3 : (ts.length : Int) ≤ (c0' : Int) := by omega
    clear h hk hc hl hn hv hg0
    go_enter Try.func18, Try.ntmps18
    go_wp2_with (go_at_call 23; refine HS.out.mono ?_; rintro e w' ⟨rfl, rfl⟩)
    go_still_tail 12, (by kernel_rfl)
    change wpList _ _ _ _ _ w'.drew
    go_wp2_with (go_at_call 24; refine CL.out.mono ?_; rintro e w2 ⟨v', rfl, h1, h2⟩)
    all_goals go_ret2
    all_goals exact ⟨_, rfl, h1, h2⟩

/-- clear, at elements of one cell. -/
theorem run_clear_row1 {P : Program} (w : World) (t e : TypeId) (z : Value) (ht : P.underlying t = some (.slice e)) (hv : ∀ w, (zeroValue e).run P w = .ok z w) (hz1 : ∀ v ∈ z.cells, v.oneCell' = true) (hzs : z.cells.size = 1)
    (g o n c : Nat) (cur : Array Value) (te : TypeId) (hg : w.heap[g]? = some (.cells cur te (0, 0))) (hfit : o + n ≤ cur.size) (hn : n ≠ 0) :
    ∃ xs : List Value, xs.length = n ∧ ∀ ty, (Builtin.clear_ #[t] ty #[.slice (some ⟨g, o, none⟩) n c]).run P w = .ok (.tuple #[]) (w.setRow g (cur.toList.take o ++ xs ++ cur.toList.drop (o + n)).toArray) := by
  have hlen : (Builtin.zeroCells z.cells n).toList.length = n := by simp [Builtin.zeroCells, hzs]
  refine ⟨(Builtin.zeroCells z.cells n).toList, hlen, fun ty => ?_⟩
  have hst := run_storeCells_at P g o te (Builtin.zeroCells z.cells n).toList 0 cur w hg (by rw [hlen]; simpa using hfit) (fun v hv => by
    simp only [Builtin.zeroCells, Array.toList_map, List.mem_map] at hv
    obtain ⟨i, _, rfl⟩ := hv
    have hlt : i % z.cells.size < z.cells.size := Nat.mod_lt _ (by omega)
    rw [getElem!_pos z.cells _ hlt]
    exact hz1 _ (Array.getElem_mem hlt))
  rw [hlen] at hst
  simp only [Nat.add_zero] at hst
  cases n with
  | zero => exact absurd rfl hn
  | succ n =>
    unfold Builtin.clear_
    simp [run_underlying ht, hv, hst]

theorem wpList_clear_runI {P : Program} (w : World) {ops : Array Oper} {rest : List Oper} {o : Oper} {a : Act} {Q : Exit → Act → World → Prop} (hgd : o.guard = none) (s : Operand) (t : TypeId)
    (ho : o.op = .call { callee := .builtin .clear, args := #[s], argTypes := #[t] }) (v : Value) (hs : a.eval s = v) {v' : Value} {w' : World}
    (hr : (Builtin.clear_ #[t] o.type #[v]).run P w = .ok v' w') (h : wpList P ops Q rest (a.put o.dst v') w') : wpList P ops Q (o :: rest) a w :=
  wpList_plain hgd fun _ hK => by
    unfold Oper.wp execOp
    simp only [ho, resolve, invoke, builtin, Sem.run_bind, Sem.run_pure, Result.andThen_ok, List.map_toArray, List.map_cons, List.map_nil, hs, hr]
    exact hK _ _ h

/-- the things behind a place are cleared. -/
theorem clear_part {w : World} {g n cap l : Nat} {ts : List ByteArray} (h : w.ownsRow 0 9 1 (.slice (some ⟨g, 0, none⟩) n cap) n (texts ts)) (hl : l ≤ n) :
    ∃ W, (∀ ty, (Builtin.clear_ #[39] ty #[.slice (if cap = l then some ⟨g, 0, none⟩ else some ⟨g, l, none⟩) (n - l) (cap - l)]).run Try.prog w = .ok (.tuple #[]) W) ∧ W.ownsRow 0 9 1 (.slice (some ⟨g, 0, none⟩) l cap) l (texts (ts.take l)) ∧ Touch [g] w W := by
  have hcut := cut_row h hl
  rw [texts_take] at hcut
  by_cases hnl : n = l
  · subst hnl
    refine ⟨w, fun ty => ?_, hcut, Touch.refl _ _⟩
    rw [Nat.sub_self]
    by_cases hc : cap = n
    · rw [if_pos hc]
      unfold Builtin.clear_
      simp [run_underlying Try.underlying39]
    · rw [if_neg hc]
      unfold Builtin.clear_
      simp [run_underlying Try.underlying39]
  · rcases h.2 with ⟨h1, _⟩ | ⟨g', cap', cur, h1, h2, h3, h4, h5, h6, h7⟩
    · cases h1
    · cases h1
      have hcl : ¬ cap = l := by omega
      rw [if_neg hcl]
      obtain ⟨xs, hx, hr⟩ := run_clear_row1 (P := Try.prog) w 39 9 (.string ByteArray.empty) Try.underlying39 Try.zeroValue9 (by intro v hv; simp [Value.cells] at hv; subst hv; rfl) rfl g l (n - l) (cap - l) cur 9 h3 (by omega) (by omega)
      refine ⟨_, hr, ⟨hcut.1, .inr ⟨g, cap, _, rfl, Nat.zero_le _, setRow_heap w g cur _ 9 _ h3, by omega, h5, ?_, ?_⟩⟩, ⟨rfl, rfl, rfl, by simp, fun k hk hne => setRow_other _ _ _ _ (fun e => hne (by simp [e]))⟩⟩
      · simp [hx]; omega
      · have hl2 : (cur.toList.take l).length = l := by simp; omega
        rw [Nat.mul_one, List.append_assoc, List.take_left' hl2, ← texts_take, ← h7, List.take_take]
        congr 1
        omega
end Go.Proofs.Ytekbfjdjgpgmpaa
