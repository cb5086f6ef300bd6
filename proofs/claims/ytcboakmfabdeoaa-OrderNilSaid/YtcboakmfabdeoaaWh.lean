/- Rank in a leaf; what a nil map tells. -/
import Derived.Test.YtcboakmfabdeoaaWg
namespace Go.Proofs.Ytcboakmfabdeoaa
open Go.RowKit

set_option maxHeartbeats 400000 in
theorem rank_nil (k : Int) (w : World) : Calls Try.prog 32 #[.pointer none, .int .i64 k] w fun e w' => e = .returned (.int .i64 0) ∧ w = w' := by
  go_enter Try.func32, Try.ntmps32
  go_wp2
  go_loopw [0, 5] (fun s0 s5 wr => s0 = .pointer none ∧ s5 = .int .i64 0 ∧ wr = w) (fun _ _ _ => 0)
  case atStart => exact ⟨rfl, rfl, rfl⟩
  case round =>
    obtain ⟨rfl, rfl, rfl⟩ := hrel
    go_wp2
    go_ret
    exact ⟨rfl, rfl⟩

set_option maxHeartbeats 1000000 in
set_option maxRecDepth 100000 in
theorem rank_leaf (t : Nat) (x : Kid) (k : Int) (w : World) (hx : IsT t w 0 x) (hs : Rising x.l) (hn : x.l.length ≤ 1000) :
    Calls Try.prog 32 #[.pointer (some ⟨x.p, 0, none⟩), .int .i64 k] w fun e w' => e = .returned (.int .i64 (pos x.l k)) ∧ Below w.heap.size w w' := by
  obtain ⟨vl, r1, r2, r3, r4⟩ := hx
  have c1 := r1.c1
  have R1 := Lib.hid r1
  have R2 := Lib.hid r2
  have HS := Lib.hid hs
  have hp := pos_le x.l k
  clear r1 r2 r3 r4 hs
  go_enter Try.func32, Try.ntmps32
  go_wp2
  go_loopg [0, 5] 0 (fun gk s0 s5 wr => s0 = .pointer (some ⟨x.p, 0, none⟩) ∧ s5 = .int .i64 0 ∧ wr = w)
  case atStart => exact ⟨rfl, rfl, rfl⟩
  case round =>
    obtain ⟨rfl, rfl, rfl⟩ := hrel
    have hpb : ((pos x.l k : Nat) : Int) ≤ 1000 := by omega
    obtain ⟨hb, hhb⟩ : ∃ hb, hasB x.l k = hb := ⟨_, rfl⟩
    have HH := Lib.hid hhb
    clear hhb
    go_wp2_with fail
    refine (place_at x.p vl _ _ x.l k hb _ R1.out R2.out HS.out (by omega) HH.out).mono ?_
    rintro e w' ⟨rfl, hw⟩
    have c1' := (hw.cell (p := ⟨x.p, 1, none⟩) (World.block_lt_of_cell? wr _ c1)).trans c1
    have HW := Lib.hid hw
    have HP : Hid (pos x.l k = pos x.l k) := rfl
    clear hw c1
    generalize hpp : pos x.l k = i at *
    have HPP := Lib.hid hpp
    clear hpp HP
    go_wp2_with fail
    refine (leaf_yes x.p 0 none _ c1').mono ?_
    rintro e w2 ⟨rfl, rfl⟩
    go_wp2
    go_ret
    exact ⟨ret_int (by rw [HPP.out]), HW.out⟩

theorem LeafM.rank {t m : Nat} {w : World} {l : List Pr} {rp : Option Addr} {fp : List Nat} (h : LeafM t m w l rp fp) (k : Int) (hn : l.length ≤ 1000) :
    Calls Try.prog 15 #[.pointer (some ⟨m, 0, none⟩), .int .i64 k] w fun e w' => e = .returned (.int .i64 (pos l k)) ∧ Below w.heap.size w w' := by
  have c1 : w.cell? ⟨m, 1, none⟩ = some (.pointer rp) := cell_of_row w m 1 _ _ _ h.cell
  have HM := Lib.hid h
  clear h
  have hr : Calls Try.prog 32 #[.pointer rp, .int .i64 k] w fun e w' => e = .returned (.int .i64 (pos l k)) ∧ Below w.heap.size w w' := by
    rcases HM.out.root with ⟨rfl, rfl, _⟩ | ⟨x, rfl, hx, rfl, rfl⟩
    · refine (rank_nil k w).mono ?_
      rintro e w' ⟨rfl, rfl⟩
      exact ⟨rfl, Below.refl _ _⟩
    · exact rank_leaf t x k w hx HM.out.rising hn
  have HR := Lib.hid hr
  clear hr
  go_enter Try.func15, Try.ntmps15
  go_wp2_with (first | (go_at_call 28; refine (top_any m _ _ c1).mono ?_; rintro e w' ⟨rfl, rfl⟩) | (go_at_call 32; refine HR.out.mono ?_; rintro e w' ⟨rfl, hw⟩))
  go_ret
  exact ⟨rfl, hw⟩
end Go.Proofs.Ytcboakmfabdeoaa
