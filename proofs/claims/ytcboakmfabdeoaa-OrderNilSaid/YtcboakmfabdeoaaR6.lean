/- The chapter's example. -/
import Derived.Test.YtcboakmfabdeoaaR5
namespace Go.Proofs.Ytcboakmfabdeoaa
open Go.RowKit Go.Shelf

/-- what the example knows of its map. -/
def AwakeAt (w0 : World) (m : Nat) (l : List Pr) (w : World) : Prop := ∃ rp fp, LeafM 2 m w l rp fp ∧ Below w0.heap.size w0 w ∧ w0.heap.size ≤ m ∧ ∀ b ∈ fp, w0.heap.size ≤ b

theorem awake_put {w0 w : World} {m : Nat} {l : List Pr} (h : AwakeAt w0 m l w) (k : Int) (s : ByteArray) (hl : l.length + 1 < 4) (hk : hasB l k = false) :
    Calls Try.prog 16 #[.pointer (some ⟨m, 0, none⟩), .int .i64 k, .string s] w fun e w' => e = .returned (.tuple #[.string ⟨#[]⟩, .bool false]) ∧ AwakeAt w0 m (ins l k s) w' := by
  obtain ⟨rp, fp, h1, h2, h3, h4⟩ := h
  refine (put_leaf 2 m l rp fp k s w h1 (by omega) (by omega) hl hk).mono ?_
  rintro e w' ⟨rfl, rp', fp', i1, i2, i3⟩
  refine ⟨rfl, rp', fp', i1, h2.trans ⟨i2.os, i2.tape, i2.output, i2.size, fun b hb => i2.block b (Nat.lt_of_lt_of_le hb h2.size) (fun hm => ?_)⟩, h3, fun b hb => ?_⟩
  · rcases List.mem_cons.1 hm with rfl | hm
    · omega
    · have := h4 b hm; omega
  · rcases i3 b hb with h | h
    · exact h4 b h
    · have := h2.size; omega

set_option maxHeartbeats 1000000 in
set_option maxRecDepth 100000 in
theorem awake_any (w : World) : Calls Try.prog 7 #[] w fun e w' => e = .returned (.bool true) ∧ Below w.heap.size w w' := by
  have a0 : AwakeAt w w.heap.size [] (w.alloc (.cells #[.int .i64 (2 : Nat), .pointer none] 54)) :=
    ⟨none, [], ⟨heap_alloc_new w _, .inl ⟨rfl, rfl, rfl⟩, by simp, List.Pairwise.nil⟩, (Below.refl _ w).alloc (Nat.le_refl _) _, Nat.le_refl _, by simp⟩
  have A0 := Lib.hid a0
  clear a0
  go_enter Try.func7, Try.ntmps7
  go_wp2_with fail
  refine (new_ok 2 _ (by omega) (by omega)).mono ?_
  rintro e w1 ⟨rfl, hw1⟩
  have A1 : Hid (AwakeAt w w.heap.size [] w1) := by rw [hw1]; exact A0.out
  clear A0 hw1
  go_wp2_with fail
  refine (awake_put A1.out 3 _ (by simp) rfl).mono ?_
  rintro e w2 ⟨rfl, h2⟩
  have e2 : ∀ s, ins [] 3 s = [(3, s)] := fun s => rfl
  rw [e2] at h2
  clear e2
  go_wp2_with fail
  refine (awake_put h2 1 _ (by simp) (by simp [hasB])).mono ?_
  rintro e w3 ⟨rfl, h3⟩
  have e3 : ∀ s t : ByteArray, ins [(3, s)] 1 t = [(1, t), (3, s)] := fun s t => by simp [ins]
  rw [e3] at h3
  clear e3 h2
  go_wp2_with fail
  refine (awake_put h3 2 _ (by simp) (by simp [hasB])).mono ?_
  rintro e w4 ⟨rfl, h4⟩
  have e4 : ∀ s t u : ByteArray, ins [(1, t), (3, s)] 2 u = [(1, t), (2, u), (3, s)] := fun s t u => by simp [ins]
  rw [e4] at h4
  clear e4 h3
  obtain ⟨rp, fp, l4, b4, m4, f4⟩ := h4
  have L4 := Lib.hid l4
  have B4 := Lib.hid b4
  clear l4 b4 m4 f4
  go_wp2_with fail
  refine (keys_leaf L4.out 2 9 (by omega) (by simp)).mono ?_
  rintro e w5 ⟨v, rfl, o5, b5⟩
  have o6 : w5.ownsRow w4.heap.size 2 1 v 2 [.int .i64 2, .int .i64 3] := by simpa [pos, keysOf] using o5
  clear o5
  obtain ⟨g, cap, rfl⟩ := ownsRow_succ (k := 1) o6
  have cl := o6.cells (g := g) rfl
  have k0 : w5.cell? ⟨g, 0, none⟩ = some (.int .i64 2) := by have := cl 0 (.int .i64 2) (by simp); rwa [Addr.add_lit] at this
  have k1 : w5.cell? ⟨g, 1, none⟩ = some (.int .i64 3) := by have := cl 1 (.int .i64 3) (by simp); rwa [Addr.add_lit] at this
  have L5 := Lib.hid (L4.out.below b5)
  have B5 := Lib.hid (B4.out.trans (b5.mono B4.out.size))
  have rk := LeafM.rank L5.out 3 (by simp)
  rw [show pos [((1 : Int), (⟨#[97]⟩ : ByteArray)), (2, ⟨#[98]⟩), (3, ⟨#[99]⟩)] 3 = 2 by simp [pos]] at rk
  have RK := Lib.hid rk
  clear cl o6 b5 rk
  go_wp2_with (go_at_call 15; refine RK.out.mono ?_; rintro e w6 ⟨rfl, b6⟩)
  go_ret
  exact ⟨rfl, B5.out.trans (b6.mono B5.out.size)⟩
end Go.Proofs.Ytcboakmfabdeoaa
