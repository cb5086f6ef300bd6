/- Maps with a tree of any height: Len, Get, At. -/
import Derived.Test.YtcboakmfabdeoaaX1
import Derived.Test.YtcboakmfabdeoaaWg
namespace Go.Proofs.Ytcboakmfabdeoaa
open Go.RowKit

/-- A map, whatever its tree's height. -/
structure TreeM (t m : Nat) (w : World) (l : List Pr) (rp : Option Addr) (fp : List Nat) : Prop where
  cell : w.heap[m]? = some (.cells #[.int .i64 t, .pointer rp] 54 (0, 0))
  root : (rp = none ∧ l = [] ∧ fp = []) ∨ ∃ (h : Nat) (x : Kid), rp = some ⟨x.p, 0, none⟩ ∧ IsT t w h x ∧ x.l = l ∧ x.fp = fp
  nodup : (m :: fp).Nodup
  rising : Rising l
  low : ∀ (h : Nat) (x : Kid), rp = some ⟨x.p, 0, none⟩ → IsT t w (h + 1) x → 1 ≤ x.c

theorem prow_len {w : World} {v : Value} {l l' : List Pr} (h : PRow w v l) (h' : PRow w v l') : l.length = l'.length := by
  rcases h.cases with ⟨e, rfl⟩ | ⟨g, cap, _, e, _⟩
  · rcases h'.cases with ⟨_, rfl⟩ | ⟨g', cap', _, e', _⟩
    · rfl
    · rw [e] at e'; cases e'
  · rcases h'.cases with ⟨e', _⟩ | ⟨g', cap', _, e', _⟩
    · rw [e] at e'; cases e'
    · rw [e] at e'; simp only [Value.slice.injEq] at e'; exact e'.2.1

/-- where a tree's node lies says how many pairs it has, and whether it has kids. -/
theorem IsT.same {t : Nat} {w : World} : ∀ {h h' : Nat} {x y : Kid}, IsT t w h x → IsT t w h' y → x.p = y.p → x.c = y.c ∧ (h = 0 → h' = 0)
  | 0, 0, x, y, ⟨vp, h1, h2, _, h4⟩, ⟨vp', k1, k2, _, k4⟩, e => by
    unfold Rec at h1 k1
    rw [← e, h1] at k1
    simp at k1
    exact ⟨by rw [h4, k4]; omega, fun _ => rfl⟩
  | 0, h + 1, x, y, ⟨vp, h1, h2, _, h4⟩, ⟨vp', vk', ps', ks', k1, k2, k3, k4, k5, k6, k7, k8⟩, e => by
    unfold Rec at h1 k1
    rw [← e, h1] at k1
    simp at k1
    obtain ⟨_, e2, _⟩ := k1
    rcases k3.cases with ⟨_, q⟩ | ⟨g, cap, cur, q, _⟩
    · rw [q] at k4; simp at k4
    · rw [← e2] at q; cases q
  | h + 1, 0, x, y, ⟨vp', vk', ps', ks', k1, k2, k3, k4, k5, k6, k7, k8⟩, ⟨vp, h1, h2, _, h4⟩, e => by
    unfold Rec at h1 k1
    rw [e, h1] at k1
    simp at k1
    obtain ⟨_, e2, _⟩ := k1
    rcases k3.cases with ⟨_, q⟩ | ⟨g, cap, cur, q, _⟩
    · rw [q] at k4; simp at k4
    · rw [← e2] at q; cases q
  | h + 1, h' + 1, x, y, ⟨vp, vk, ps, ks, h1, h2, h3, h4, h5, h6, h7, h8⟩, ⟨vp', vk', ps', ks', k1, k2, k3, k4, k5, k6, k7, k8⟩, e => by
    unfold Rec at h1 k1
    rw [← e, h1] at k1
    simp at k1
    obtain ⟨e1, _, _⟩ := k1
    subst e1
    exact ⟨by rw [h7, k7]; exact prow_len h2 k2, fun hh => by omega⟩

theorem low_of {t : Nat} {w : World} {rp : Option Addr} {h : Nat} {x : Kid} (hp : rp = some ⟨x.p, 0, none⟩) (hx : IsT t w h x) (hc : h = 0 ∨ 1 ≤ x.c) : ∀ (h' : Nat) (y : Kid), rp = some ⟨y.p, 0, none⟩ → IsT t w (h' + 1) y → 1 ≤ y.c := fun h' y e hy => by
  have e2 : x.p = y.p := by rw [hp] at e; simpa using e
  have q := hx.same hy e2
  rcases hc with e3 | e3
  · have := q.2 e3; omega
  · rw [← q.1]; exact e3

theorem TreeM.lowRoot {t m : Nat} {w : World} {l : List Pr} {rp : Option Addr} {fp : List Nat} (hm : TreeM t m w l rp fp) {h : Nat} {x : Kid} (hp : rp = some ⟨x.p, 0, none⟩) (hx : IsT t w h x) : h = 0 ∨ 1 ≤ x.c := by
  cases h with
  | zero => exact .inl rfl
  | succ h => exact .inr (hm.low h x hp hx)

theorem TreeM.below {t m : Nat} {w w' : World} {l : List Pr} {rp : Option Addr} {fp : List Nat} (h : TreeM t m w l rp fp) (hb : Below w.heap.size w w') : TreeM t m w' l rp fp := by
  refine ⟨(hb.block m (Array.getElem?_eq_some_iff.1 h.cell).1).trans h.cell, ?_, h.nodup, h.rising, ?_⟩
  · rcases h.root with h1 | ⟨hh, x, h1, h2, h3, h4⟩
    · exact .inl h1
    · exact .inr ⟨hh, x, h1, h2.touch (Touch.of_below hb []) (by simp), h3, h4⟩
  · rcases h.root with ⟨h1, _⟩ | ⟨hh, x, h1, h2, h3, h4⟩
    · intro _ _ e _; rw [h1] at e; cases e
    · exact low_of h1 (h2.touch (Touch.of_below hb []) (by simp)) (h.lowRoot h1 h2)

theorem count_nil (w : World) : Calls Try.prog 29 #[.pointer none] w fun e w' => e = .returned (.int .i64 0) ∧ w = w' := by
  go_enter Try.func29, Try.ntmps29
  go_wp2
  go_ret
  exact ⟨rfl, rfl⟩

theorem count_any (p n : Nat) (w : World) (h : w.cell? ⟨p, 2, none⟩ = some (.int .i64 n)) : Calls Try.prog 29 #[.pointer (some ⟨p, 0, none⟩)] w fun e w' => e = .returned (.int .i64 n) ∧ w = w' := by
  go_enter Try.func29, Try.ntmps29
  go_wp2
  go_ret
  exact ⟨rfl, rfl⟩

theorem TreeM.count {t m : Nat} {w : World} {l : List Pr} {rp : Option Addr} {fp : List Nat} (h : TreeM t m w l rp fp) : Calls Try.prog 29 #[.pointer rp] w fun e w' => e = .returned (.int .i64 l.length) ∧ w = w' := by
  rcases h.root with ⟨rfl, rfl, _⟩ | ⟨hh, x, rfl, hx, rfl, _⟩
  · exact count_nil w
  · exact count_any x.p _ w hx.size

theorem TreeM.len {t m : Nat} {w : World} {l : List Pr} {rp : Option Addr} {fp : List Nat} (h : TreeM t m w l rp fp) : Calls Try.prog 12 #[.pointer (some ⟨m, 0, none⟩)] w fun e w' => e = .returned (.int .i64 l.length) ∧ w = w' := by
  have c1 : w.cell? ⟨m, 1, none⟩ = some (.pointer rp) := cell_of_row w m 1 _ _ _ h.cell
  have HC := Lib.hid h.count
  clear h
  go_enter Try.func12, Try.ntmps12
  go_wp2_with (first | (go_at_call 28; refine (top_any m _ _ c1).mono ?_; rintro e w' ⟨rfl, rfl⟩) | (go_at_call 29; refine HC.out.mono ?_; rintro e w' ⟨rfl, rfl⟩))
  go_ret
  exact ⟨rfl, rfl⟩

/-- what Get tells of a key. -/
def gotten (l : List Pr) (k : Int) : Value := if hasB l k then .tuple #[.string (valOf l k), .bool true] else .tuple #[.string ⟨#[]⟩, .bool false]

def FoundAt (w : World) (l : List Pr) (k : Int) (e : Ending) : Prop :=
  (hasB l k = false ∧ e = .returned (.pointer none)) ∨ ∃ g i, e = .returned (.pointer (some ⟨g, i * 2, none⟩)) ∧ hasB l k = true ∧ w.cell? ⟨g, i * 2 + 1, none⟩ = some (.string (valOf l k))

theorem TreeM.find {t m : Nat} {w : World} {l : List Pr} {rp : Option Addr} {fp : List Nat} (h : TreeM t m w l rp fp) (k : Int) (hn : l.length ≤ 1000000) :
    Calls Try.prog 31 #[.pointer rp, .int .i64 k] w fun e w' => FoundAt w l k e ∧ Below w.heap.size w w' := by
  rcases h.root with ⟨rfl, rfl, _⟩ | ⟨hh, x, rfl, hx, rfl, rfl⟩
  · refine (find_nil k w).mono ?_
    rintro e w' ⟨rfl, rfl⟩
    exact ⟨.inl ⟨rfl, rfl⟩, Below.refl _ _⟩
  · refine (find_any t hh x k w hx h.rising (List.nodup_cons.1 h.nodup).2 hn).mono ?_
    rintro e w' ⟨h1, h2⟩
    refine ⟨?_, h2⟩
    rcases h1 with h1 | ⟨g, i, rfl, h3, _, h4, _⟩
    · exact .inl h1
    · exact .inr ⟨g, i, rfl, h3, h4⟩

set_option maxHeartbeats 400000 in
theorem TreeM.get {t m : Nat} {w : World} {l : List Pr} {rp : Option Addr} {fp : List Nat} (h : TreeM t m w l rp fp) (k : Int) (hn : l.length ≤ 1000000) :
    Calls Try.prog 14 #[.pointer (some ⟨m, 0, none⟩), .int .i64 k] w fun e w' => e = .returned (gotten l k) ∧ Below w.heap.size w w' := by
  have c1 : w.cell? ⟨m, 1, none⟩ = some (.pointer rp) := cell_of_row w m 1 _ _ _ h.cell
  have HF := Lib.hid (h.find k hn)
  clear h
  go_enter Try.func14, Try.ntmps14
  go_wp2_with fail
  refine (top_any m _ _ c1).mono ?_
  rintro e w' ⟨rfl, rfl⟩
  go_wp2_with fail
  refine HF.out.mono ?_
  rintro e w' ⟨hf, hw⟩
  rcases hf with ⟨h1, rfl⟩ | ⟨g, i, rfl, h1, h2⟩
  · have H1 := Lib.hid h1
    have HW := Lib.hid hw
    clear h1 hw
    go_wp2
    go_ret2
    exact ⟨by simp [gotten, H1.out], HW.out⟩
  · have c2 := (hw.cell (p := ⟨g, i * 2 + 1, none⟩) (World.block_lt_of_cell? w _ h2)).trans h2
    have H1 := Lib.hid h1
    have HW := Lib.hid hw
    clear h1 hw h2 c1
    go_wp2
    go_ret2
    exact ⟨by simp [gotten, H1.out], HW.out⟩
end Go.Proofs.Ytcboakmfabdeoaa
