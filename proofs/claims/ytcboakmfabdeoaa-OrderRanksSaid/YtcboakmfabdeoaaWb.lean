/- slices.Delete at the kids of a node. (Made out of the text for pairs.) -/
import Derived.Test.YtcboakmfabdeoaaWa
namespace Go.Proofs.Ytcboakmfabdeoaa
open Go.RowKit

theorem KRow.open {w : World} {g n cap : Nat} {l : List Kid} (hr : KRow w (.slice (some ⟨g, 0, none⟩) n cap) l) :
    n = l.length ∧ n ≤ cap ∧ ∃ cur, w.heap[g]? = some (.cells cur 52 (0, 0)) ∧ cap ≤ maxLen ∧ cur.size = cap ∧ cur.toList.take n = ptrs l := by
  rcases hr.2 with ⟨h, _⟩ | ⟨g', cap', cur, h, _, h2, h3, h4, h5, h6⟩
  · cases h
  · simp only [Value.slice.injEq, Option.some.injEq, Addr.mk.injEq] at h
    obtain ⟨⟨rfl, _⟩, rfl, rfl⟩ := h
    exact ⟨rfl, h3, cur, h2, h4, by simpa using h5, by simpa using h6⟩

theorem KRow.mk {w : World} {g n cap : Nat} {l : List Kid} (hn : n = l.length) (hc : n ≤ cap) (cur : Array Value) (h2 : w.heap[g]? = some (.cells cur 52 (0, 0))) (h4 : cap ≤ maxLen) (h5 : cur.size = cap) (h6 : cur.toList.take n = ptrs l) :
    KRow w (.slice (some ⟨g, 0, none⟩) n cap) l := by
  subst hn
  exact ⟨by simp [ptrs], .inr ⟨g, cap, cur, rfl, Nat.zero_le _, h2, hc, h4, by simpa using h5, by simpa using h6⟩⟩

set_option maxHeartbeats 4000000 in
set_option maxRecDepth 100000 in
theorem deleteK_any (g n cap i j : Nat) (l : List Kid) (w : World) (hij : i < j) (hjn : j ≤ n) (hn : n ≤ 1000000) (hr : KRow w (.slice (some ⟨g, 0, none⟩) n cap) l) :
    Calls Try.prog 60 #[.slice (some ⟨g, 0, none⟩) n cap, .int .i64 i, .int .i64 j] w fun e w' =>
      e = .returned (.slice (some ⟨g, 0, none⟩) (i + (n - j)) cap) ∧ KRow w' (.slice (some ⟨g, 0, none⟩) (i + (n - j)) cap) (l.take i ++ l.drop j) ∧ w.grownBy w' (some g) := by
  obtain ⟨hl, hnc, cur, hg, hcm, hcs, htk⟩ := hr.open
  have hcl := hr.cells (g := g) rfl
  obtain ⟨i0, hi0, hz0, hzs, hzb⟩ := info_parts Try.info52
  have hld : (l.drop j).length = n - j := by simp; omega
  -- the append
  have ap : ∀ (a : Addr) c, (a = ⟨g, j, none⟩ ∨ j = n) → (Builtin.append_ #[66, 66] 66 #[.slice (some ⟨g, 0, none⟩) i cap, .slice (some a) (n - j) c]).run Try.prog w.drew =
      .ok (.slice (some ⟨g, 0, none⟩) (i + (n - j)) cap) (w.drew.setRow g (cur.toList.take i ++ ptrs (l.drop j) ++ cur.toList.drop (i + (ptrs (l.drop j)).length)).toArray) := by
    intro a c ha
    have := run_append_room (P := Try.prog) w.drew 66 66 52 i0 Try.underlying66 hi0 g i cap cur hg a (n - j) c (ptrs (l.drop j)) (by rw [ptrs_length, hld, hzs, Nat.mul_one]) (fun k u hk => by
      rcases ha with rfl | rfl
      · rw [World.cell?_drew, Addr.add_lit]
        have := hcl (j + k) u (by rw [← ptrs_drop, List.getElem?_drop] at hk; exact hk)
        rw [Addr.add_lit, Nat.zero_add] at this
        exact this
      · rw [List.drop_eq_nil_of_le (by omega)] at hk; simp [ptrs] at hk) (ptrs_one _) (by omega) (by rw [ptrs_length, hld, hzs, hcs]; omega)
    rw [hzs, Nat.mul_one] at this
    exact this
  obtain ⟨cur1, hcur1⟩ : ∃ cur1, cur1 = (cur.toList.take i ++ ptrs (l.drop j) ++ cur.toList.drop (i + (ptrs (l.drop j)).length)).toArray := ⟨_, rfl⟩
  rw [← hcur1] at ap
  have s1 : cur1.size = cap := by rw [hcur1]; simp [ptrs_length, hcs, hld]; omega
  have t1 : cur1.toList.take (i + (n - j)) = ptrs (l.take i ++ l.drop j) := by
    rw [hcur1, ptrs_append, ← ptrs_take, ← htk, List.take_take, Nat.min_eq_left (by omega)]
    show List.take _ (List.toArray _).toList = _
    exact List.take_left' (by simp [ptrs_length, hcs, hld]; omega)
  obtain ⟨W1, hW1⟩ : ∃ W1, W1 = w.drew.setRow g cur1 := ⟨_, rfl⟩
  rw [← hW1] at ap
  have g1 : W1.heap[g]? = some (.cells cur1 52 (0, 0)) := by rw [hW1]; exact setRow_heap w.drew _ cur _ _ _ hg
  have b1 : w.grownBy W1 (some g) := by rw [hW1]; exact ⟨rfl, rfl, rfl, by simp, fun k _ hk => setRow_other _ _ _ _ (fun e => hk (by rw [e]))⟩
  -- the clear
  have cl := fun ty c => run_clear_rowk W1 66 52 ty (.pointer none) Try.underlying66 Try.zeroValue52 (by intro v hv; simp [Value.cells] at hv; subst hv; rfl) (by decide) g (i + (n - j)) (n - (i + (n - j))) c cur1 52 g1
    (by rw [s1]; show (i + (n - j)) + (n - (i + (n - j))) * 1 ≤ _; omega) (by omega)
  obtain ⟨cur2, hcur2⟩ : ∃ cur2, cur2 = (cur1.toList.take (i + (n - j)) ++ (Builtin.zeroCells (Value.pointer none).cells (n - (i + (n - j)))).toList ++ cur1.toList.drop (i + (n - j) + (n - (i + (n - j))) * (Value.pointer none).cells.size)).toArray := ⟨_, rfl⟩
  rw [← hcur2] at cl
  have s2 : cur2.size = cap := by
    have hk : (Value.pointer none).cells.size = 1 := rfl
    rw [hcur2, hk]; simp [Builtin.zeroCells, s1, hk]; omega
  have t2 : cur2.toList.take (i + (n - j)) = ptrs (l.take i ++ l.drop j) := by
    rw [hcur2, ← t1]
    show List.take _ (List.toArray _).toList = _
    rw [List.append_assoc]
    exact List.take_left' (by simp [s1]; omega)
  obtain ⟨W2, hW2⟩ : ∃ W2, W2 = W1.setRow g cur2 := ⟨_, rfl⟩
  rw [← hW2] at cl
  have g2 : W2.heap[g]? = some (.cells cur2 52 (0, 0)) := by rw [hW2]; exact setRow_heap W1 _ cur1 _ _ _ g1
  have b2 : w.grownBy W2 (some g) := by
    rw [hW2]
    exact ⟨b1.os, b1.tape, b1.output, Nat.le_trans b1.size (by simp), fun k hk hne => (setRow_other _ _ _ _ (fun e => hne (by rw [e]))).trans (b1.block k hk hne)⟩
  have own : KRow W2 (.slice (some ⟨g, 0, none⟩) (i + (n - j)) cap) (l.take i ++ l.drop j) :=
    KRow.mk (by simp; omega) (by omega) cur2 g2 hcm s2 t2
  have FIN : Hid (KRow W2 (.slice (some ⟨g, 0, none⟩) (i + (n - j)) cap) (l.take i ++ l.drop j) ∧ w.grownBy W2 (some g)) := ⟨own, b2⟩
  have AP := Lib.hid ap
  have CL := Lib.hid cl
  clear own b2 g2 hW2 t2 s2 hcur2 b1 g1 hW1 t1 s1 hcur1 hcl hg hcs htk hcm hl ap cl hld hi0 hz0 hzs hzb hr
  have q2 : ((i : Int) == (j : Int)) = false := by rw [beq_eq_false_iff_ne]; omega
  have q3 : ¬ (cap = i) := by omega
  have q4 : (i : Int) ≤ (j : Int) := by omega
  have q5 : (j : Int) ≤ (n : Int) := by omega
  have q6 : ((i : Int) + ((n - j : Nat) : Int)) ≤ (n : Int) := by omega
  have q7 : ¬ (cap = i + (n - j)) := by omega
  have q8 : (i : Int) ≤ (cap : Int) := by omega
  by_cases hjn' : j = n
  · subst hjn'
    simp only [Nat.sub_self, Nat.add_zero] at AP CL FIN q6 q7 ⊢
    by_cases hcj : cap = j
    · subst hcj
      have AP2 := Lib.hid (AP.out ⟨g, 0, none⟩ 0 (.inr trivial))
      clear AP
      go_enter Try.func60, Try.ntmps60
      go_wp2_with fail
      go_region_law (go_loud (refine step_append_runI rfl _ _ 66 66 rfl _ _ ?h1 ?h2 AP2.out ?_; (case h1 => rfl); (case h2 => rfl)))
      go_wp2_with (with_reducible refine wpList_clear_runI _ rfl _ 66 rfl _ rfl (CL.out _ _) ?_)
      go_ret
      exact ⟨rfl, FIN.out⟩
    · have AP2 := Lib.hid (AP.out ⟨g, j, none⟩ (cap - j) (.inr trivial))
      clear AP
      go_enter Try.func60, Try.ntmps60
      go_wp2_with fail
      go_region_law (go_loud (refine step_append_runI rfl _ _ 66 66 rfl _ _ ?h1 ?h2 AP2.out ?_; (case h1 => rfl); (case h2 => rfl)))
      go_wp2_with (with_reducible refine wpList_clear_runI _ rfl _ 66 rfl _ rfl (CL.out _ _) ?_)
      go_ret
      exact ⟨rfl, FIN.out⟩
  · have hcj : ¬ (cap = j) := by omega
    have q9 : ¬ ((j : Int) = (n : Int)) := by omega
    clear hjn'
    have AP2 := Lib.hid (AP.out ⟨g, j, none⟩ (cap - j) (.inl rfl))
    clear AP
    go_enter Try.func60, Try.ntmps60
    go_wp2_with fail
    go_region_law (go_loud (refine step_append_runI rfl _ _ 66 66 rfl _ _ ?h1 ?h2 AP2.out ?_; (case h1 => rfl); (case h2 => rfl)))
    go_wp2_with (with_reducible refine wpList_clear_runI _ rfl _ 66 rfl _ rfl (CL.out _ _) ?_)
    go_ret
    exact ⟨rfl, FIN.out⟩
end Go.Proofs.Ytcboakmfabdeoaa
