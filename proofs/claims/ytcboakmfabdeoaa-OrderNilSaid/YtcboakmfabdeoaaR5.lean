/- Keys of a leaf map, and of no map. -/
import Derived.Test.YtcboakmfabdeoaaR4
namespace Go.Proofs.Ytcboakmfabdeoaa
open Go.RowKit Go.Shelf

theorem LeafM.walks {t m : Nat} {w : World} {l : List Pr} {rp : Option Addr} {fp : List Nat} (h : LeafM t m w l rp fp) (k : Int) (hn : l.length ≤ 1000) : Walks (.pointer rp) k (l.drop (pos l k)) 1000 w := by
  rcases h.root with ⟨rfl, rfl, _⟩ | ⟨x, rfl, hx, rfl, rfl⟩
  · exact walks_nil k 1000 w
  · exact walks_leaf t x k w hx h.rising hn

theorem keys_leaf {t m : Nat} {w : World} {l : List Pr} {rp : Option Addr} {fp : List Nat} (h : LeafM t m w l rp fp) (k : Int) (most : Nat) (hm : most ≤ 1000000000) (hn : l.length ≤ 1000) :
    Calls Try.prog 20 #[.pointer (some ⟨m, 0, none⟩), .int .i64 k, .int .i64 most] w fun e w' => ∃ v, e = .returned v ∧ w'.ownsRow w.heap.size 2 1 v ((l.drop (pos l k)).take most).length (keysOf ((l.drop (pos l k)).take most)) ∧ Below w.heap.size w w' := by
  refine callsIn_wide.1 (keys_in (some ⟨m, 0, none⟩) k most ((l.drop (pos l k)).take most) w (by simp; omega) ?_)
  intro W hb A B C hA hB hC n l' J W2 hb2 hJa hY h0
  have h2 := h.below hb
  refine callsIn_wide.2 ((from1_some (.pointer (some ⟨m, 0, none⟩)) (.pointer rp) k most (l.drop (pos l k)) W A B C hm hA hB hC ?_ 1000 (h2.walks k hn) ⟨_, rfl⟩ ⟨_, rfl⟩ l' J W2 hb2 hJa (fun m' pre x W1 hj hl => YieldAt.anyDepth rfl m' (hY pre x W1 hj hl)) h0).mono ?_)
  · intro W3 hb3
    exact top_any m _ W3 (cell_of_row W3 m 1 _ _ _ (h2.below hb3).cell)
  · rintro e W' ⟨h1, h2⟩
    exact ⟨h1, _, rfl, h2⟩

set_option maxHeartbeats 1000000 in
set_option maxRecDepth 100000 in
theorem from1_nil (k most : Int) (w0 : World) (A B C : Nat)
    (hA : w0.cell? ⟨A, 0, none⟩ = some (.int .i64 most)) (hB : w0.cell? ⟨B, 0, none⟩ = some (.pointer none)) (hC : w0.cell? ⟨C, 0, none⟩ = some (.int .i64 k))
    (l : Nat) (J : List Pr → World → Prop) (W : World) (hb : Below w0.heap.size w0 W) (hJa : AbidesB W.heap.size J) (h0 : J [] W) :
    Calls Try.prog 53 #[.func (.yield l) #[] #[], .pointer (some ⟨A, 0, none⟩), .pointer (some ⟨B, 0, none⟩), .pointer (some ⟨C, 0, none⟩)] W fun e W' => (∃ v, e = .returned v) ∧ J [] W' := by
  have a1 : W.cell? ⟨A, 0, none⟩ = some (.int .i64 most) := (hb.cell (World.block_lt_of_cell? w0 _ hA)).trans hA
  have b1 : W.cell? ⟨B, 0, none⟩ = some (.pointer none) := (hb.cell (World.block_lt_of_cell? w0 _ hB)).trans hB
  have c1 : W.cell? ⟨C, 0, none⟩ = some (.int .i64 k) := (hb.cell (World.block_lt_of_cell? w0 _ hC)).trans hC
  have alt : A < W.heap.size := World.block_lt_of_cell? W _ a1
  have blt : B < W.heap.size := World.block_lt_of_cell? W _ b1
  have clt : C < W.heap.size := World.block_lt_of_cell? W _ c1
  obtain ⟨W2, hW2⟩ : ∃ W2, W2 = (W.alloc (.cells #[.func (.yield l) #[] #[]] 86)).alloc (.cells #[.int .i64 most] 3) := ⟨_, rfl⟩
  have hJ2 : J [] W2 := by
    rw [hW2]
    exact hJa _ _ _ none (hJa _ _ _ none h0 (World.grownBy_alloc W _ none) (fun r e => by cases e)) (World.grownBy_alloc _ _ none) (fun r e => by cases e)
  have hJ3 : J [] W2.drew := hJa _ _ _ none hJ2 ⟨rfl, rfl, rfl, Nat.le_refl _, fun k _ _ => rfl⟩ (fun r e => by cases e)
  have bW : Below W.heap.size W W2 := by rw [hW2]; exact ((Below.refl _ W).alloc (Nat.le_refl _) _).alloc (by simp) _
  have b2 : W2.cell? ⟨B, 0, none⟩ = some (.pointer none) := (bW.cell (p := ⟨B, 0, none⟩) blt).trans b1
  have c2 : W2.cell? ⟨C, 0, none⟩ = some (.int .i64 k) := (bW.cell (p := ⟨C, 0, none⟩) clt).trans c1
  have J2 := Lib.hid hJ2
  have J3 := Lib.hid hJ3
  clear hb hJa h0 hA hB hC hJ2 hJ3 bW
  by_cases h1 : most < 1
  · have HW := Lib.hid hW2
    clear hW2 b2 c2
    go_enter Try.func53, Try.ntmps53
    go_wp2_with fail
    refine bodyPost_ret (results_none rfl _ _ _) rfl ⟨⟨_, rfl⟩, ?_⟩
    have h := J2.out
    rw [HW.out] at h
    exact h
  · go_enter Try.func53, Try.ntmps53
    go_wp2_with fail
    rw [← hW2]
    clear hW2 a1 b1 c1
    go_region_with (first | (go_at_call 28; refine (top_nil _).mono ?_; rintro e w' ⟨rfl, rfl⟩) | (go_at_call 54; refine (walk_nil k _ rfl _ _ 55 rfl).mono ?_; rintro e W3 ⟨rfl, rfl⟩))
    all_goals
      go_wp2
      go_end0
      exact ⟨⟨_, rfl⟩, J3.out⟩

theorem keys_nil (k most : Int) (w : World) : Calls Try.prog 20 #[.pointer none, .int .i64 k, .int .i64 most] w fun e w' => ∃ v, e = .returned v ∧ w'.ownsRow w.heap.size 2 1 v 0 [] ∧ Below w.heap.size w w' := by
  refine callsIn_wide.1 ((keys_in none k most [] w (by simp) ?_).mono fun e w' h => h)
  intro W hb A B C hA hB hC n l' J W2 hb2 hJa hY h0
  refine callsIn_wide.2 ((from1_nil k most W A B C hA hB hC l' J W2 hb2 hJa h0).mono ?_)
  rintro e W' ⟨h1, h2⟩
  exact ⟨h1, _, rfl, h2⟩
end Go.Proofs.Ytcboakmfabdeoaa
