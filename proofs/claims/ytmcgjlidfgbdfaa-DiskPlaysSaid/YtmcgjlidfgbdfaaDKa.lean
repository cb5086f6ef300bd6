/- A write more (plain). -/
import Derived.Test.YtmcgjlidfgbdfaaDK10
namespace Go.Proofs.Ytmcgjlidfgbdfaa
open Go.RowKit

theorem step_append_runI {P : Program} {ops : Array Oper} {o : Oper} {a : Act} {w : World} {K : Act → World → Prop} {Q : Exit → Act → World → Prop} {E : Prop}
    (hg : o.guard = none) (d x : Operand) (dT sT : TypeId) (hop : o.op = Op.call { callee := Callee.builtin Builtin.append, args := #[d, x], argTypes := #[dT, sT] })
    (v u : Value) (hd : a.eval d = v) (hx : a.eval x = u) {v' : Value} {w' : World} (hr : (Builtin.append_ #[dT, sT] o.type #[v, u]).run P w = .ok v' w') (hK : K (a.put o.dst v') w') :
    if Region.wanted o (yielded ops a.tmps) = true then Oper.wp P o a w K Q else E := by
  have hw : Region.wanted o (yielded ops a.tmps) = true := by simp [Region.wanted, hg]
  rw [if_pos hw]
  unfold Oper.wp
  simp [execOp, hop, resolve, invoke, builtin, hd, hx, hr, Result.andThen]
  exact hK

theorem step_call_any {P : Program} {ops : Array Oper} {o : Oper} {a : Act} {w : World} {K : Act → World → Prop} {Q : Exit → Act → World → Prop} {E : Prop}
    (hg : o.guard = none) (f : FuncId) (args : Array Value) (hrun : (execOp a.eval o).run P w = .ok (.enter f args) w) {R : Ending → World → Prop} (hc : Calls P f args w R) (hK : ∀ e w', R e w' → ∃ v, e = .returned v ∧ K (a.put o.dst v) w') :
    if Region.wanted o (yielded ops a.tmps) = true then Oper.wp P o a w K Q else E := by
  have hw : Region.wanted o (yielded ops a.tmps) = true := by simp [Region.wanted, hg]
  rw [if_pos hw]
  unfold Oper.wp
  rw [hrun, Oper.upon_enter]
  refine hc.mono fun e w' hh => ?_
  obtain ⟨v, rfl, hk⟩ := hK e w' hh
  exact hk


/-- the disk with one write more. -/
def writeD (d : Dsk) (k : Nat) (h : k < d.secs.length) (wv : Value) (x : Wt) : Dsk := { d with secs := d.secs.set k { d.secs[k] with wv := wv, ws := d.secs[k].ws ++ [x] }, waits := d.waits + 1 }
theorem encS_wv (xs : List Sec) (i : Nat) (h : i < xs.length) (s : Sec) (hl : s.lv = xs[i].lv) : (encS xs).set (i * 2 + 1) s.wv = encS (xs.set i s) := by
  rw [← encS_set xs i s h]
  congr 1
  have hlen : i * 2 < (encS xs).length := by rw [encS_length]; omega
  have e : (encS xs)[i * 2] = s.lv := by
    have := (encS_at xs i h).1
    rw [List.getElem?_eq_getElem hlen] at this
    injection this with this
    rw [this, hl]
  rw [← e, List.set_getElem_self]
theorem write_step {w2 w3 : World} {d : Dsk} (h : DiskAt w2 d) (k : Nat) (hk : k < d.secs.length) (hb : Below w2.heap.size w2 w3) (x : Wt) (hx : Row w3 0 x.v x.b) (hfit : x.b.length ≤ d.size) (hn : x.n = d.waits) (hfew : d.waits ≤ 1000000) :
    ∃ a' c' w4, Sem.run Try.prog (Builtin.append_ #[61, 61] 61 #[d.secs[k].wv, .slice (some ⟨w3.heap.size, 0, none⟩) 1 1]) (w3.alloc (.cells #[.int .i64 x.n, x.v] 68)) = .ok (.slice a' (d.secs[k].ws.length + 1) c') w4 ∧
      w4.cell? ⟨d.q, k * 2 + 1, none⟩ = some d.secs[k].wv ∧ w4.frozen? ⟨d.q, k * 2 + 1, none⟩ = false ∧
      (w4.setCell ⟨d.q, k * 2 + 1, none⟩ (.slice a' (d.secs[k].ws.length + 1) c')).cell? ⟨d.p, 2, none⟩ = some (.int .i64 d.waits) ∧ (w4.setCell ⟨d.q, k * 2 + 1, none⟩ (.slice a' (d.secs[k].ws.length + 1) c')).frozen? ⟨d.p, 2, none⟩ = false ∧
      Goes w2 ((w4.setCell ⟨d.q, k * 2 + 1, none⟩ (.slice a' (d.secs[k].ws.length + 1) c')).setCell ⟨d.p, 2, none⟩ (.int .i64 (d.waits + 1 : Nat))) d (writeD d k hk (.slice a' (d.secs[k].ws.length + 1) c') x) := by
  have h3 := h.below hb
  have hm := List.getElem_mem hk
  have hok := h3.ok _ hm
  obtain ⟨v', w4, hr, hw4, hg, hown⟩ := append_wt hok.wrow x rfl (Nat.le_trans hok.few hfew)
  obtain ⟨a', c', ev, -, -⟩ := hw4.shape
  rw [List.length_append, List.length_singleton] at ev
  have balW : Below w3.heap.size w3 (w3.alloc (.cells #[.int .i64 x.n, x.v] 68)) := (Below.refl _ _).alloc (Nat.le_refl _) _
  have hW := h3.below balW
  have hxW := hx.below balW
  have hszW : (w3.alloc (.cells #[.int .i64 x.n, x.v] 68)).heap.size = w3.heap.size + 1 := by simp
  generalize hWe : w3.alloc (.cells #[.int .i64 x.n, x.v] 68) = W at *
  have hokW := hW.ok _ hm
  have nq := fun g (e : d.secs[k].wv.ownBlock = some g) => hW.not_q hm e
  have keep : ∀ g, g < W.heap.size → d.secs[k].wv.ownBlock ≠ some g → w4.heap[g]? = W.heap[g]? := fun g h1 h2 => hg.block g h1 (fun e => h2 e.symm)
  have p4 : Whole w4 d.p 56 (dcells d) := (keep d.p hW.top.lt (fun e => (nq _ e).2 rfl)).trans hW.top
  have q4 : Whole w4 d.q 63 (encS d.secs).toArray := (keep d.q hW.sec.lt (fun e => (nq _ e).1 rfl)).trans hW.sec
  have b4 : ∀ g, Bytes W g → w4.heap[g]? = W.heap[g]? := fun g hbg => keep g hbg.lt (fun e => (hW.plain (foot_wv hm e)).2 hbg)
  have hbq : ∀ g, Bytes W g → g ≠ d.q := fun g hg e => (hW.plain foot_q).2 (e ▸ hg)
  have hbp : ∀ g, Bytes W g → g ≠ d.p := fun g hg e => (hW.plain foot_p).2 (e ▸ hg)
  have vq : ∀ g, v'.ownBlock = some g → g ≠ d.q ∧ g ≠ d.p := fun g e => by
    obtain ⟨cur, hc⟩ := row_kind hw4 e
    refine ⟨fun e' => ?_, fun e' => ?_⟩
    · subst e'
      unfold Whole at q4
      rw [q4] at hc
      simp at hc
    · subst e'
      unfold Whole at p4
      rw [p4] at hc
      simp at hc
  have hpq := h.pq
  refine ⟨a', c', w4, by rw [hr, ev], ?_, q4.frozen _, ?_, ?_, ?_⟩
  · rw [q4.cell]
    simpa using (encS_at d.secs k hk).2
  · rw [(p4.far (p := ⟨d.q, k * 2 + 1, none⟩) hpq _).cell]
    rfl
  · exact (p4.far (p := ⟨d.q, k * 2 + 1, none⟩) hpq _).frozen _
  rw [← ev]
  have other : ∀ g, g ≠ d.p → g ≠ d.q → ((w4.setCell ⟨d.q, k * 2 + 1, none⟩ v').setCell ⟨d.p, 2, none⟩ (.int .i64 (d.waits + 1 : Nat))).heap[g]? = w4.heap[g]? := fun g h1 h2 => (heap_set_other _ _ _ _ _ h1).trans (heap_set_other _ _ _ _ _ h2)
  refine ⟨?_, ?_, ?_⟩
  · unfold writeD
    refine hW.put { d.secs[k] with wv := v', ws := d.secs[k].ws ++ [x] } (d.waits + 1) (Nat.le_succ _) ?_ ?_ (fun g hbg => (other g (hbp g hbg) (hbq g hbg)).trans (b4 g hbg)) (fun j hj hjk g e => ?_) ?_ (fun j hj hjk g e e' => ?_)
    · have := (p4.far (p := ⟨d.q, k * 2 + 1, none⟩) hpq v').set_ 2 (.int .i64 (d.waits + 1 : Nat))
      rw [show dcells { d with secs := d.secs.set k { d.secs[k] with wv := v', ws := d.secs[k].ws ++ [x] }, waits := d.waits + 1 } = (dcells d).setIfInBounds 2 (.int .i64 (d.waits + 1 : Nat)) by simp [dcells]]
      exact this
    · have := (q4.set_ (k * 2 + 1) v').far (p := ⟨d.p, 2, none⟩) (fun e => hpq e.symm) (.int .i64 (d.waits + 1 : Nat))
      rw [← encS_wv d.secs k hk { d.secs[k] with wv := v', ws := d.secs[k].ws ++ [x] } rfl]
      simpa using this
    · have nj := hW.not_q (List.getElem_mem hj) e
      refine (other g nj.2 nj.1).trans (keep g ((hW.ok _ (List.getElem_mem hj)).wrow.lt e) (fun e2 => hjk (hW.apart j k hj hk g e e2)))
    · have ob : ∀ g, Bytes W g → ((w4.setCell ⟨d.q, k * 2 + 1, none⟩ v').setCell ⟨d.p, 2, none⟩ (.int .i64 (d.waits + 1 : Nat))).heap[g]? = W.heap[g]? := fun g hbg => (other g (hbp g hbg) (hbq g hbg)).trans (b4 g hbg)
      refine ⟨hokW.lrow.of_heap fun g e => ob g (hokW.lrow.bytes e), hokW.lfit, hw4.of_heap fun g e => other g (vq g e).2 (vq g e).1, ?_, ?_⟩
      · have := hokW.few
        simp only [List.length_append, List.length_singleton]
        omega
      · intro y hy
        rcases List.mem_append.1 hy with hy | hy
        · have := hokW.wt y hy
          exact ⟨this.1.of_heap fun g e => ob g (this.1.bytes e), this.2.1, by omega⟩
        · have : y = x := by simpa using hy
          subst this
          exact ⟨hxW.of_heap fun g e => ob g (hxW.bytes e), hfit, by omega⟩
    · rcases hown g e with h1 | h1
      · exact hjk (hW.apart j k hj hk g e' h1)
      · have := (h3.ok _ (List.getElem_mem hj)).wrow.lt e'
        omega
  · unfold writeD
    refine foot_set (F := fun g => g ∈ foot d ∨ w2.heap.size ≤ g) (fun g hg => .inl hg) (fun g e => ?_)
    rcases hown g e with h1 | h1
    · exact .inl (foot_wv hm h1)
    · exact .inr (Nat.le_trans hb.size h1)
  · have t1 : Touch (foot d) w2 W := (Touch.of_below hb (foot d)).belowTo balW
    exact ((t1.grown hg (fun g e => .inl (foot_wv hm e))).setCell (.inl foot_q) _).setCell (.inl foot_p) _
end Go.Proofs.Ytmcgjlidfgbdfaa
