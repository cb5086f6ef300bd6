/- The reference's deed, Flush, Crash. -/
import Derived.Test.YtmcgjlidfgbdfaaDRb
namespace Go.Proofs.Ytmcgjlidfgbdfaa
open Go.RowKit

def footR (r : Rf) : List Nat := r.p :: r.vw.ownBlock.toList
theorem footR_p {r : Rf} : r.p ∈ footR r := by simp [footR]
theorem footR_cases {r : Rf} {k : Nat} (h : k ∈ footR r) : k = r.p ∨ r.vw.ownBlock = some k := by simpa [footR] using h
theorem RefAt.kinds {w : World} {r : Rf} (h : RefAt w r) {k : Nat} (hk : k ∈ footR r) : ∃ cs t, w.heap[k]? = some (.cells cs t (0, 0)) ∧ (t = 38 ∨ t = 59) := by
  rcases footR_cases hk with rfl | e
  · exact ⟨_, _, h.top, .inl rfl⟩
  · obtain ⟨cur, hc⟩ := row_kind h.waits e
    exact ⟨_, _, hc, .inr rfl⟩
theorem RefAt.plt {w : World} {r : Rf} (h : RefAt w r) : r.p < w.heap.size := h.top.lt
theorem RefAt.vp {w : World} {r : Rf} (h : RefAt w r) {k : Nat} (e : r.vw.ownBlock = some k) : k ≠ r.p := fun e' => by
  obtain ⟨cur, hc⟩ := row_kind h.waits e
  have := h.top
  unfold Whole at this
  rw [e', this] at hc
  simp at hc
theorem RefAt.lp {w : World} {r : Rf} (h : RefAt w r) {k : Nat} (e : r.lv.ownBlock = some k) : k ≠ r.p := fun e' => by
  obtain ⟨cur, hc⟩ := row_kind h.last e
  have := h.top
  unfold Whole at this
  rw [e', this] at hc
  simp at hc
/-- how the reference stands behind a call. -/
def RGoes (w w' : World) (r r' : Rf) : Prop := RefAt w' r' ∧ r'.p = r.p ∧ (∀ k ∈ footR r', k ∈ footR r ∨ w.heap.size ≤ k) ∧ Touch (footR r) w w'
theorem RGoes.refl {w : World} {r : Rf} (h : RefAt w r) : RGoes w w r r := ⟨h, rfl, fun _ hk => .inl hk, Touch.refl _ _⟩
theorem RGoes.trans {w w1 w2 : World} {r r1 r2 : Rf} (h : RGoes w w1 r r1) (k : RGoes w1 w2 r1 r2) : RGoes w w2 r r2 :=
  ⟨k.1, k.2.1.trans h.2.1, fun x hx => by
    rcases k.2.2.1 x hx with h1 | h1
    · exact h.2.2.1 x h1
    · exact .inr (Nat.le_trans h.2.2.2.size h1), h.2.2.2.trans k.2.2.2 (fun x hx => h.2.2.1 x hx)⟩
/-- its own cells turn, and nothing else of it. -/
theorem RefAt.turn {w w' : World} {r r' : Rf} (h : RefAt w r) (hp : Whole w' r.p 38 (rcells r')) (hk : ∀ k, k ≠ r.p → w'.heap[k]? = w.heap[k]?) (e : r'.p = r.p ∧ r'.lv = r.lv ∧ r'.last = r.last ∧ r'.vw = r.vw ∧ r'.ws = r.ws) : RefAt w' r' ∧ footR r' = footR r := by
  obtain ⟨e1, e2, e3, e4, e5⟩ := e
  obtain ⟨p, lv, last, size, vw, ws, fuse, dark, deeds⟩ := r'
  simp only at e1 e2 e3 e4 e5
  subst e1 e2 e3 e4 e5
  exact ⟨⟨hp, h.last.of_heap fun b e => hk b (h.lp e), h.waits.of_heap fun b e => hk b (h.vp e), h.fit, h.few, h.many⟩, rfl⟩
def deedR (r : Rf) : Rf := if r.fuse = 0 then { r with dark := true } else { r with deeds := r.deeds + 1, fuse := if 0 < r.fuse then r.fuse - 1 else r.fuse }
set_option maxRecDepth 100000 in
theorem rdeed_at {w : World} {r : Rf} (h : RefAt w r) (hd : r.deeds ≤ 4611686018427387904) (hf : r.fuse ≤ 9223372036854775807) : Calls Try.prog 34 #[.pointer (some ⟨r.p, 0, none⟩)] w fun e w' => e = .returned (.bool (!decide (r.fuse = 0))) ∧ RGoes w w' r (deedR r) := by
  have c3 := Whole.cell h.top 3
  have c4 := Whole.cell h.top 4
  have c5 := Whole.cell h.top 5
  have f3 := Whole.frozen h.top 3
  have f4 := Whole.frozen h.top 4
  have f5 := Whole.frozen h.top 5
  simp only [rcells, List.getElem?_toArray, List.getElem?_cons_zero, List.getElem?_cons_succ] at c3 c4 c5
  have H := Lib.hid h
  clear h
  by_cases h0 : r.fuse = 0
  · have e1 : (!decide (r.fuse = 0)) = false := by simp [h0]
    have e2 : deedR r = { r with dark := true } := if_pos h0
    simp only [e1, e2]
    rw [h0] at c3
    clear e1 e2 h0 hf
    go_enter Try.func34, Try.ntmps34
    go_wp2_with fail
    go_ret
    obtain ⟨t1, t2⟩ := H.out.turn (w' := w.setCell ⟨r.p, 4, none⟩ (.bool true)) (r' := { r with dark := true }) (H.out.top.set_ 4 _) (fun k hk => heap_set_other _ _ _ _ _ hk) ⟨rfl, rfl, rfl, rfl, rfl⟩
    exact ⟨rfl, t1, rfl, fun k hk => .inl (t2 ▸ hk), Touch.one footR_p⟩
  · have e1 : (!decide (r.fuse = 0)) = true := by simp [h0]
    by_cases h1 : 0 < r.fuse
    · have e2 : deedR r = { r with deeds := r.deeds + 1, fuse := r.fuse - 1 } := by unfold deedR; rw [if_neg h0, if_pos h1]
      simp only [e1, e2]
      clear e1 e2
      have k3 := H.out.top.set_ 3 (.int .i64 (r.fuse - 1))
      have k5 := Whole.cell k3 5
      have g5 := Whole.frozen k3 5
      rw [show ((rcells r).setIfInBounds 3 (.int .i64 (r.fuse - 1)))[5]? = some (.int .i64 r.deeds) from rfl] at k5
      have K3 := Lib.hid k3
      clear k3
      go_enter Try.func34, Try.ntmps34
      go_wp2_with fail
      go_ret
      obtain ⟨t1, t2⟩ := H.out.turn (w' := (w.setCell ⟨r.p, 3, none⟩ (.int .i64 (r.fuse - 1))).setCell ⟨r.p, 5, none⟩ (.int .i64 (r.deeds + 1))) (r' := { r with deeds := r.deeds + 1, fuse := r.fuse - 1 }) (K3.out.set_ 5 _) (fun k hk => (heap_set_other _ _ _ _ _ hk).trans (heap_set_other _ _ _ _ _ hk)) ⟨rfl, rfl, rfl, rfl, rfl⟩
      exact ⟨rfl, t1, rfl, fun k hk => .inl (t2 ▸ hk), (Touch.one footR_p).setCell (.inl footR_p) _⟩
    · have e2 : deedR r = { r with deeds := r.deeds + 1 } := by unfold deedR; rw [if_neg h0, if_neg h1]
      simp only [e1, e2]
      clear e1 e2
      go_enter Try.func34, Try.ntmps34
      go_wp2_with fail
      go_ret
      obtain ⟨t1, t2⟩ := H.out.turn (w' := w.setCell ⟨r.p, 5, none⟩ (.int .i64 (r.deeds + 1))) (r' := { r with deeds := r.deeds + 1 }) (H.out.top.set_ 5 _) (fun k hk => heap_set_other _ _ _ _ _ hk) ⟨rfl, rfl, rfl, rfl, rfl⟩
      exact ⟨rfl, t1, rfl, fun k hk => .inl (t2 ▸ hk), Touch.one footR_p⟩
theorem deedR_p (r : Rf) : (deedR r).p = r.p := by unfold deedR; split <;> rfl
theorem deedR_last (r : Rf) : (deedR r).last = r.last := by unfold deedR; split <;> rfl
theorem deedR_ws (r : Rf) : (deedR r).ws = r.ws := by unfold deedR; split <;> rfl
theorem deedR_size (r : Rf) : (deedR r).size = r.size := by unfold deedR; split <;> rfl
/-- what Seen tells lasts, nothing waits. -/
def lastR (r : Rf) (p : Nat) (lv : Value) : Rf := { r with lv := lv, last := seenR r.last r.ws p, vw := .slice none 0 0, ws := [] }
theorem RefAt.lasts {w w1 : World} {r : Rf} (h : RefAt w r) (hb : Below w.heap.size w w1) (p : Nat) (lv : Value) (hs : SRow w1 w.heap.size lv (seenR r.last r.ws p)) :
    RGoes w ((w1.setCell ⟨r.p, 0, none⟩ lv).setCell ⟨r.p, 2, none⟩ (.slice none 0 0)) r (lastR r p lv) := by
  have h1 := h.below hb
  have hne : ∀ b, lv.ownBlock = some b → b ≠ r.p := fun b e e' => by
    have := (hs.block b e).1
    have := h.plt
    omega
  have hk : ∀ k, k ≠ r.p → ((w1.setCell ⟨r.p, 0, none⟩ lv).setCell ⟨r.p, 2, none⟩ (.slice none 0 0)).heap[k]? = w1.heap[k]? := fun k hk => (heap_set_other _ _ _ _ _ hk).trans (heap_set_other _ _ _ _ _ hk)
  refine ⟨⟨?_, (hs.le (Nat.zero_le _)).of_heap fun b e => hk b (hne b e), RRow.nil _, (fun x hx => by cases hx), ?_, Nat.zero_le _⟩, rfl, fun k hk => ?_, ((Touch.of_below hb (footR r)).setCell (.inl footR_p) _).setCell (.inl footR_p) _⟩
  · exact (h1.top.set_ 0 lv).set_ 2 (.slice none 0 0)
  · show (seenR r.last r.ws p).length ≤ 1000
    unfold seenR
    rw [seenFrom_length]
    exact h.few
  · rcases footR_cases hk with rfl | e
    · exact .inl footR_p
    · simp [lastR, Value.ownBlock] at e
def rflushR (r : Rf) : Int := if r.dark then 17 else if r.fuse = 0 then 17 else 0
set_option maxRecDepth 100000 in
set_option maxHeartbeats 1000000 in
theorem rflush_at {w : World} {r : Rf} (h : RefAt w r) (h0 : 0 < r.last.length) (hd : r.deeds ≤ 4611686018427387904) (hf : r.fuse ≤ 9223372036854775807) : Calls Try.prog 26 #[.pointer (some ⟨r.p, 0, none⟩)] w fun e w' => e = .returned (.int .i64 (rflushR r)) ∧
    ((r.dark = true ∧ RGoes w w' r r) ∨ (r.dark = false ∧ r.fuse = 0 ∧ RGoes w w' r (deedR r)) ∨ (r.dark = false ∧ ¬ r.fuse = 0 ∧ ∃ lv, RGoes w w' r (lastR (deedR r) ones lv))) := by
  have c4 := Whole.cell h.top 4
  simp only [rcells, List.getElem?_toArray, List.getElem?_cons_zero, List.getElem?_cons_succ] at c4
  have DD := Lib.hid (rdeed_at h hd hf)
  have H := Lib.hid h
  clear h
  cases hdk : r.dark with
  | true =>
    rw [hdk] at c4
    have e1 : rflushR r = 17 := by simp [rflushR, hdk]
    simp only [e1, true_and]
    clear e1 hdk DD
    go_enter Try.func26, Try.ntmps26
    go_wp2_with fail
    go_ret
    exact ⟨rfl, .inl (RGoes.refl H.out)⟩
  | false =>
    rw [hdk] at c4
    by_cases hz : r.fuse = 0
    · have e1 : rflushR r = 17 := by simp [rflushR, hdk, hz]
      have e2 : (!decide (r.fuse = 0)) = false := by simp [hz]
      simp only [e1]
      rw [e2] at DD
      have HZ := Lib.hid hz
      clear e1 e2 hdk hz
      go_enter Try.func26, Try.ntmps26
      go_wp2_with fail
      refine DD.out.mono ?_
      rintro e w1 ⟨rfl, hg⟩
      have G := Lib.hid hg
      clear hg
      go_wp2_with fail
      go_ret
      exact ⟨rfl, .inr (.inl ⟨trivial, HZ.out, G.out⟩)⟩
    · have e1 : rflushR r = 0 := by simp [rflushR, hdk, hz]
      have e2 : (!decide (r.fuse = 0)) = true := by simp [hz]
      simp only [e1]
      rw [e2] at DD
      have HZ := Lib.hid hz
      clear e1 e2 hdk hz
      go_enter Try.func26, Try.ntmps26
      go_wp2_with fail
      refine DD.out.mono ?_
      rintro e w1 ⟨rfl, hg⟩
      have SE := seen_at hg.1 (by rw [deedR_last]; exact h0) ones (by decide)
      rw [deedR_p, show ((ones : Nat) : Int) = 18446744073709551615 from rfl] at SE
      have G := Lib.hid hg
      replace SE := Lib.hid SE
      clear hg
      go_wp2_with fail
      refine SE.out.mono ?_
      rintro e w2 ⟨v, rfl, hs, hb⟩
      have G2 := (G.out.1.lasts hb ones v hs)
      rw [deedR_p] at G2
      obtain ⟨A, n, eA, -, -⟩ := hs.shape
      have hpl : r.p < w1.heap.size := deedR_p r ▸ G.out.1.plt
      have top2 := (G.out.1.below hb).top
      rw [deedR_p] at top2
      have c0 := Whole.cell top2 0
      have f0 := Whole.frozen top2 0
      rw [show (rcells (deedR r))[0]? = some (deedR r).lv from rfl] at c0
      have k2 := top2.set_ 0 v
      have c2 := Whole.cell k2 2
      have f2 := Whole.frozen k2 2
      rw [show ((rcells (deedR r)).setIfInBounds 0 v)[2]? = some (deedR r).vw from rfl] at c2
      generalize (seenR (deedR r).last (deedR r).ws ones).length = nn at *
      subst eA
      have G2' := Lib.hid G2
      clear G2 hs hb SE top2 k2
      go_wp2_with fail
      go_ret
      exact ⟨rfl, .inr (.inr ⟨trivial, HZ.out, _, G.out.trans G2'.out⟩)⟩
def crashR (r : Rf) (p : Nat) (lv : Value) : Rf := { lastR r p lv with dark := false, fuse := -1 }
set_option maxRecDepth 100000 in
set_option maxHeartbeats 1000000 in
theorem rcrash_at {w : World} {r : Rf} (h : RefAt w r) (h0 : 0 < r.last.length) (p : Nat) (hp : p < 18446744073709551616) : Calls Try.prog 27 #[.pointer (some ⟨r.p, 0, none⟩), .int .u64 (p : Nat)] w fun e w' => (∃ v, e = .returned v) ∧ ∃ lv, RGoes w w' r (crashR r p lv) := by
  have SE := Lib.hid (seen_at h h0 p hp)
  have H := Lib.hid h
  clear h hp
  go_enter Try.func27, Try.ntmps27
  go_wp2_with fail
  refine SE.out.mono ?_
  rintro e w2 ⟨v, rfl, hs, hb⟩
  have G2 := (H.out.lasts hb p v hs)
  obtain ⟨A, n, eA, -, -⟩ := hs.shape
  have top2 := (H.out.below hb).top
  have c0 := Whole.cell top2 0
  have f0 := Whole.frozen top2 0
  rw [show (rcells r)[0]? = some r.lv from rfl] at c0
  have k2 := top2.set_ 0 v
  have c2 := Whole.cell k2 2
  have f2 := Whole.frozen k2 2
  rw [show ((rcells r).setIfInBounds 0 v)[2]? = some r.vw from rfl] at c2
  have k4 := k2.set_ 2 (.slice none 0 0)
  have c4 := Whole.cell k4 4
  have f4 := Whole.frozen k4 4
  rw [show (((rcells r).setIfInBounds 0 v).setIfInBounds 2 (.slice none 0 0))[4]? = some (.bool r.dark) from rfl] at c4
  have k3 := k4.set_ 4 (.bool false)
  have c3 := Whole.cell k3 3
  have f3 := Whole.frozen k3 3
  rw [show ((((rcells r).setIfInBounds 0 v).setIfInBounds 2 (.slice none 0 0)).setIfInBounds 4 (.bool false))[3]? = some (.int .i64 r.fuse) from rfl] at c3
  obtain ⟨t1, t2⟩ := G2.1.turn (w' := (((w2.setCell ⟨r.p, 0, none⟩ v).setCell ⟨r.p, 2, none⟩ (.slice none 0 0)).setCell ⟨r.p, 4, none⟩ (.bool false)).setCell ⟨r.p, 3, none⟩ (.int .i64 (-1))) (r' := crashR r p v) (k3.set_ 3 _) (fun k hk => (heap_set_other _ _ _ _ _ hk).trans (heap_set_other _ _ _ _ _ hk)) ⟨rfl, rfl, rfl, rfl, rfl⟩
  have G4 : RGoes w ((((w2.setCell ⟨r.p, 0, none⟩ v).setCell ⟨r.p, 2, none⟩ (.slice none 0 0)).setCell ⟨r.p, 4, none⟩ (.bool false)).setCell ⟨r.p, 3, none⟩ (.int .i64 (-1))) r (crashR r p v) := ⟨t1, rfl, fun k hk => G2.2.2.1 k (t2 ▸ hk), (G2.2.2.2.setCell (.inl footR_p) _).setCell (.inl footR_p) _⟩
  generalize (seenR r.last r.ws p).length = nn at *
  subst eA
  have G := Lib.hid G4
  clear G2 G4 t1 t2 hs hb SE top2 k2 k4 k3
  go_wp2_with fail
  go_end0
  exact ⟨⟨_, rfl⟩, _, G.out⟩
end Go.Proofs.Ytmcgjlidfgbdfaa
