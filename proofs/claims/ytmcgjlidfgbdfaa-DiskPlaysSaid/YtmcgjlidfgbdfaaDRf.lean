/- The reference's New. -/
import Derived.Test.YtmcgjlidfgbdfaaDRc
namespace Go.Proofs.Ytmcgjlidfgbdfaa
open Go.RowKit

/-- the reference's disk of zeros. -/
def newR (p : Nat) (lv : Value) (n size : Nat) : Rf := ⟨p, lv, List.replicate n ⟨(zeros size).toArray⟩, size, .slice none 0 0, [], -1, false, 0⟩
structure NewAt (w0 W : World) (size i : Nat) (lv : Value) : Prop where
  top : Whole W w0.heap.size 38 (rcells (newR w0.heap.size lv i size))
  row : SRow W w0.heap.size lv (List.replicate i ⟨(zeros size).toArray⟩)
  bel : Below w0.heap.size w0 W
set_option maxRecDepth 100000 in
set_option maxHeartbeats 4000000 in
theorem rnew_at (n size : Nat) (hn : n ≤ 1000) (hs : size ≤ 1024) (w : World) : Calls Try.prog 10 #[.int .i64 (n : Nat), .int .i64 (size : Nat)] w fun e w' => e = .returned (.pointer (some ⟨w.heap.size, 0, none⟩)) ∧ ∃ lv, RefAt w' (newR w.heap.size lv n size) ∧ Below w.heap.size w w' := by
  have N0 := Lib.hid (show NewAt w (w.alloc (.cells #[.slice none 0 0, .int .i64 size, .slice none 0 0, .int .i64 (-1), .bool false, .int .i64 0] 38)) size 0 (.slice none 0 0) from
    ⟨Whole.new _ _ _, SRow.nil _ _, (Below.refl _ _).alloc (Nat.le_refl _) _⟩)
  go_enter Try.func10, Try.ntmps10
  go_wp2_with fail
  go_loopg [6] (n + 1) (fun j s6 wr => ∃ (i : Nat) (lv : Value), i ≤ n ∧ n < i + j ∧ s6 = .int .i64 (i : Nat) ∧ NewAt w wr size i lv)
  case atStart => exact ⟨0, _, by omega, by omega, rfl, N0.out⟩
  case round =>
    obtain ⟨i, lv, hi, hj, rfl, hN⟩ := hrel
    clear N0
    have HN := Lib.hid hN
    by_cases hend : i = n
    · subst hend
      have hno : ¬ (i : Int) < (i : Int) := by omega
      clear hN
      go_wp2_with fail
      go_ret
      refine ⟨rfl, ⟨lv, ⟨HN.out.top, HN.out.row.le (Nat.zero_le _), RRow.nil _, (fun x hx => by cases hx), by simp [newR]; omega, Nat.zero_le _⟩⟩, HN.out.bel⟩
    · have hlt : (i : Int) < (n : Int) := by omega
      have hn' : (n : Int) ≤ 1000 := by omega
      obtain ⟨A, c, ev, -, -⟩ := hN.row.shape
      have t0 := Whole.cell hN.top 0
      rw [show (rcells (newR w.heap.size lv i size))[0]? = some lv from rfl] at t0
      rw [ev, List.length_replicate] at t0
      have hpl := hN.top.lt
      have call : Calls Try.prog 24 #[.int .i64 (size : Nat)] wr.drew fun e w3 => e = .returned (.string ⟨(zeros size).toArray⟩) ∧ w3.cell? ⟨w.heap.size, 0, none⟩ = some (.slice A i c) ∧
          ∃ a' c' w4, Sem.run Try.prog (Builtin.append_ #[35, 35] 35 #[.slice A i c, .slice (some ⟨w3.heap.size, 0, none⟩) 1 1]) (w3.alloc (.cells #[.string ⟨(zeros size).toArray⟩] 9)) = .ok (.slice a' (i + 1) c') w4 ∧
          w4.cell? ⟨w.heap.size, 0, none⟩ = some (.slice A i c) ∧ w4.frozen? ⟨w.heap.size, 0, none⟩ = false ∧ Hid (NewAt w (w4.setCell ⟨w.heap.size, 0, none⟩ (.slice a' (i + 1) c')) size (i + 1) (.slice a' (i + 1) c')) := by
        have b0 : Below wr.heap.size wr wr.drew := (Below.refl _ _).drew
        refine (zeros_run size _ rfl (by omega) wr.drew).mono ?_
        rintro e w3 ⟨rfl, hb⟩
        have hb2 : Below wr.heap.size wr w3 := below_next b0 hb
        have hB3 := below_next hN.bel hb2
        have hr3 := hN.row.below hb2
        obtain ⟨v', w4, hr, hw4, hg⟩ := append_str hr3 ⟨(zeros size).toArray⟩ (by simp; omega) hB3.size
        obtain ⟨a', c', ev', -, -⟩ := hw4.shape
        simp only [List.length_append, List.length_replicate, List.length_singleton] at ev'
        rw [ev, List.length_replicate] at hr
        have own_ne : lv.ownBlock ≠ some w.heap.size := fun e => by
          obtain ⟨cur, hc⟩ := row_kind hN.row e
          have := hN.top
          unfold Whole at this
          rw [this] at hc
          simp at hc
        have t3 : Whole w3 w.heap.size 38 (rcells (newR w.heap.size lv i size)) := hN.top.below hb2 hpl
        have t3a := t3.alloc (.cells #[.string ⟨(zeros size).toArray⟩] 9)
        have p4 : Whole w4 w.heap.size 38 (rcells (newR w.heap.size lv i size)) := (hg.block _ t3a.lt (fun e => own_ne e.symm)).trans t3a
        have c4 := p4.cell 0
        rw [show (rcells (newR w.heap.size lv i size))[0]? = some lv from rfl, ev, List.length_replicate] at c4
        have hB4 : Below w.heap.size w w4 := below_grown (hB3.alloc hB3.size _) hg (fun k e => (hr3.block k e).1)
        have vne : ∀ b, v'.ownBlock = some b → b ≠ w.heap.size := fun b e e' => by
          obtain ⟨cur, hc⟩ := row_kind hw4 e
          unfold Whole at p4
          rw [e', p4] at hc
          simp at hc
        refine ⟨rfl, (hb2.cell (p := ⟨w.heap.size, 0, none⟩) hpl).trans t0, a', c', w4, by rw [hr, ev'], c4, p4.frozen 0, Lib.hid ?_⟩
        rw [← ev']
        refine ⟨p4.set_ 0 v', ?_, hB4.setCell (p := ⟨w.heap.size, 0, none⟩) (Nat.le_refl _) _⟩
        rw [List.replicate_succ']
        exact hw4.of_heap fun b e => heap_set_other _ _ _ _ _ (vne b e)
      have CALL := Lib.hid call
      generalize (⟨(zeros size).toArray⟩ : ByteArray) = zs at *
      clear call hN ev hend
      go_wp2_with fail
      go_region_law (first
        | (refine step_append_runI rfl _ _ 35 35 rfl _ _ ?h3 ?h4 s1 ?_; (case h3 => rfl); (case h4 => rfl))
        | (refine step_call_any rfl 24 #[.int .i64 (size : Nat)] ?h1 CALL.out ?_; (case h1 => kernel_rfl); rintro e w3 ⟨rfl, q1, a', c', w4, s1, s2, s3, FIN⟩; have q5 : (w3.alloc (.cells #[.string zs] 9)).cell? ⟨w.heap.size, 0, none⟩ = some (.slice A i c) := (((Below.refl _ w3).alloc (Nat.le_refl _) _).cell (p := ⟨w.heap.size, 0, none⟩) (World.block_lt_of_cell? w3 _ q1)).trans q1; refine ⟨_, rfl, ?_⟩))
      all_goals
        clear q1 q5 s1 s2 s3
        go_wp2_with fail
        go_roundg (n - i)
        case measure => omega
        case rel => exact ⟨i + 1, _, by omega, by omega, rfl, FIN.out⟩
end Go.Proofs.Ytmcgjlidfgbdfaa
