/- slices.Clone at pairs and at kids; recount. -/
import Derived.Test.YtcboakmfabdeoaaWb
import Derived.Lib.SliceRun
namespace Go.Proofs.Ytcboakmfabdeoaa
open Go.RowKit

theorem PRow.rebase {w : World} {b : Nat} {v : Value} {n : Nat} {xs : List Value} {e : TypeId} {z : Nat} (h : w.ownsRow b e z v n xs) : w.ownsRow 0 e z v n xs := by
  refine ⟨h.1, ?_⟩
  rcases h.2 with hn | ⟨g, cap, cur, h1, _, h2⟩
  · exact .inl hn
  · exact .inr ⟨g, cap, cur, h1, Nat.zero_le _, h2⟩

set_option maxHeartbeats 400000 in
theorem cloneP_nil (w : World) : Calls Try.prog 42 #[.slice none 0 0] w fun e w' => e = .returned (.slice none 0 0) ∧ w = w' := by
  have e0 := fun w => Lib.run_eql_slice_nil (P := Try.prog) w 65 61 none 0 0 0 0 Try.underlying65
  go_enter Try.func42, Try.ntmps42
  go_wp2
  go_ret
  exact ⟨rfl, rfl⟩

set_option maxHeartbeats 400000 in
set_option maxRecDepth 100000 in
theorem cloneP_any (a : Addr) (m c : Nat) (l : List Pr) (w : World) (hl : l.length = m) (hm : m ≤ 1000000) (hc : ∀ j u, (encP l)[j]? = some u → w.cell? (a.add j) = some u) :
    Calls Try.prog 42 #[.slice (some a) m c] w fun e w' => ∃ v', e = .returned v' ∧ PRow w' v' l ∧ Below w.heap.size w w' ∧ ∀ b, v'.ownBlock = some b → w.heap.size ≤ b := by
  obtain ⟨i0, hi0, hz0, hzs, hzb⟩ := info_parts Try.info61
  have hb := (Below.refl w.heap.size w).alloc (Nat.le_refl _) (.cells #[] 61)
  have hc2 : ∀ j u, (encP l)[j]? = some u → (w.alloc (.cells #[] 61)).cell? (a.add j) = some u := fun j u h => by
    have h1 := hc j u h
    exact (hb.cell (World.block_lt_of_cell? w _ h1)).trans h1
  have own : (w.alloc (.cells #[] 61)).ownsRow w.heap.size 61 2 (.slice (some ⟨w.heap.size, 0, none⟩) 0 0) 0 [] := World.ownsRow_made w #[] 0 (Nat.le_refl _) (by unfold maxLen; omega) rfl
  have OWN := Lib.hid own
  have HN := Lib.hid hc2
  have HL := Lib.hid hl
  have HB := Lib.hid hb
  have e0 := fun w => Lib.run_eql_slice_nil (P := Try.prog) w 65 61 (some a) m c 0 0 Try.underlying65
  clear hc hl hc2 own hb
  go_enter Try.func42, Try.ntmps42
  go_wp2_with (at_builtin; refine wpList_append_own _ rfl _ _ 65 rfl w.heap.size 61 i0 (.agg #[.int .i64 0, .string ByteArray.empty]) 2 24 Try.underlying65 hi0 hz0 hzs hzb rfl (by decide) _ _ _ rfl OWN.out a m c (encP l) rfl (by rw [encP_length, HL.out]) HN.out (encP_one _) (by unfold maxLen; omega) (by omega) (by simp) ?_; intro v' w' hown hgrow hnil)
  go_ret
  have hbl := HB.out.grown hgrow (by simp) (fun k hk => by have hk2 : some w.heap.size = some k := hk; simp at hk2; omega)
  refine ⟨v', rfl, ?_, hbl, fun b hb => (hown.lt b hb).1⟩
  have h2 := PRow.rebase hown
  unfold PRow
  rw [HL.out]
  simpa using h2
set_option maxHeartbeats 400000 in
theorem cloneK_nil (w : World) : Calls Try.prog 59 #[.slice none 0 0] w fun e w' => e = .returned (.slice none 0 0) ∧ w = w' := by
  have e0 := fun w => Lib.run_eql_slice_nil (P := Try.prog) w 66 52 none 0 0 0 0 Try.underlying66
  go_enter Try.func59, Try.ntmps59
  go_wp2
  go_ret
  exact ⟨rfl, rfl⟩

set_option maxHeartbeats 400000 in
set_option maxRecDepth 100000 in
theorem cloneK_any (a : Addr) (m c : Nat) (l : List Kid) (w : World) (hl : l.length = m) (hm : m ≤ 1000000) (hc : ∀ j u, (ptrs l)[j]? = some u → w.cell? (a.add j) = some u) :
    Calls Try.prog 59 #[.slice (some a) m c] w fun e w' => ∃ v', e = .returned v' ∧ KRow w' v' l ∧ Below w.heap.size w w' ∧ ∀ b, v'.ownBlock = some b → w.heap.size ≤ b := by
  obtain ⟨i0, hi0, hz0, hzs, hzb⟩ := info_parts Try.info52
  have hb := (Below.refl w.heap.size w).alloc (Nat.le_refl _) (.cells #[] 52)
  have hc2 : ∀ j u, (ptrs l)[j]? = some u → (w.alloc (.cells #[] 52)).cell? (a.add j) = some u := fun j u h => by
    have h1 := hc j u h
    exact (hb.cell (World.block_lt_of_cell? w _ h1)).trans h1
  have own : (w.alloc (.cells #[] 52)).ownsRow w.heap.size 52 1 (.slice (some ⟨w.heap.size, 0, none⟩) 0 0) 0 [] := World.ownsRow_made w #[] 0 (Nat.le_refl _) (by unfold maxLen; omega) rfl
  have OWN := Lib.hid own
  have HN := Lib.hid hc2
  have HL := Lib.hid hl
  have HB := Lib.hid hb
  have e0 := fun w => Lib.run_eql_slice_nil (P := Try.prog) w 66 52 (some a) m c 0 0 Try.underlying66
  clear hc hl hc2 own hb
  go_enter Try.func59, Try.ntmps59
  go_wp2_with (at_builtin; refine wpList_append_own _ rfl _ _ 66 rfl w.heap.size 52 i0 (.pointer none) 1 8 Try.underlying66 hi0 hz0 hzs hzb rfl (by decide) _ _ _ rfl OWN.out a m c (ptrs l) rfl (by rw [ptrs_length, HL.out, Nat.mul_one]) HN.out (ptrs_one _) (by unfold maxLen; omega) (by omega) (by simp) ?_; intro v' w' hown hgrow hnil)
  go_ret
  have hbl := HB.out.grown hgrow (by simp) (fun k hk => by have hk2 : some w.heap.size = some k := hk; simp at hk2; omega)
  refine ⟨v', rfl, ?_, hbl, fun b hb => (hown.lt b hb).1⟩
  have h2 := PRow.rebase hown
  unfold KRow
  rw [HL.out]
  simpa using h2
end Go.Proofs.Ytcboakmfabdeoaa
