/- The iterator that from gives. -/
import Derived.Test.YtcboakmfabdeoaaR2
namespace Go.Proofs.Ytcboakmfabdeoaa
open Go.RowKit Go.Shelf

/-- What the walk from a root gives, whatever body it is handed. -/
def Walks (rv : Value) (k : Int) (res : List Pr) (N : Nat) (w0 : World) : Prop :=
  ∀ (l L Y : Nat) (J : List Pr → World → Prop) (B : Nat), AbidesB B J → B ≤ L →
    (∀ m pre x W, J pre W → pre.length < N → YieldAt Fence.wide m Try.prog l (encs2 x) W fun e W' => e = .returned (.bool true) ∧ J (pre ++ [x]) W' ∧ KeepT W W') →
    ∀ (c : Nat), 1 ≤ c → c ≤ 1000000000 → ∀ (W : World), Below w0.heap.size w0 W → W.heap[L]? = some (.cells #[.int .i64 c] 3 (0, 0)) → W.heap[Y]? = some (.cells #[.func (.yield l) #[] #[]] 86 (0, 0)) → J [] W →
    Calls Try.prog 54 #[rv, .int .i64 k, .func (.func 55) #[] #[.pointer (some ⟨L, 0, none⟩), .pointer (some ⟨Y, 0, none⟩)]] W fun e W' => (∃ b, e = .returned (.bool b)) ∧ J (res.take c) W'

set_option maxHeartbeats 1000000 in
set_option maxRecDepth 100000 in
theorem from1_some (mv rv : Value) (k : Int) (most : Nat) (res : List Pr) (w0 : World) (A B C : Nat) (hm : most ≤ 1000000000)
    (hA : w0.cell? ⟨A, 0, none⟩ = some (.int .i64 most)) (hB : w0.cell? ⟨B, 0, none⟩ = some mv) (hC : w0.cell? ⟨C, 0, none⟩ = some (.int .i64 k))
    (htop : ∀ W, Below w0.heap.size w0 W → Calls Try.prog 28 #[mv] W fun e w' => e = .returned rv ∧ W = w') (N : Nat) (hwalk : Walks rv k res N w0) (hmp : ∃ a, mv = .pointer a) (hrp : ∃ a, rv = .pointer a)
    (l : Nat) (J : List Pr → World → Prop) (W : World) (hb : Below w0.heap.size w0 W) (hJa : AbidesB W.heap.size J)
    (hY : ∀ m pre x W1, J pre W1 → pre.length < N → YieldAt Fence.wide m Try.prog l (encs2 x) W1 fun e W' => e = .returned (.bool true) ∧ J (pre ++ [x]) W' ∧ KeepT W1 W') (h0 : J [] W) :
    Calls Try.prog 53 #[.func (.yield l) #[] #[], .pointer (some ⟨A, 0, none⟩), .pointer (some ⟨B, 0, none⟩), .pointer (some ⟨C, 0, none⟩)] W fun e W' => (∃ v, e = .returned v) ∧ J (res.take most) W' := by
  obtain ⟨ma, rfl⟩ := hmp
  obtain ⟨ra, rfl⟩ := hrp
  have a1 : W.cell? ⟨A, 0, none⟩ = some (.int .i64 most) := (hb.cell (World.block_lt_of_cell? w0 _ hA)).trans hA
  have b1 : W.cell? ⟨B, 0, none⟩ = some (.pointer ma) := (hb.cell (World.block_lt_of_cell? w0 _ hB)).trans hB
  have c1 : W.cell? ⟨C, 0, none⟩ = some (.int .i64 k) := (hb.cell (World.block_lt_of_cell? w0 _ hC)).trans hC
  have alt : A < W.heap.size := World.block_lt_of_cell? W _ a1
  have blt : B < W.heap.size := World.block_lt_of_cell? W _ b1
  have clt : C < W.heap.size := World.block_lt_of_cell? W _ c1
  have HB := Lib.hid hb
  have HJA := Lib.hid hJa
  have HY := Lib.hid hY
  have H0 := Lib.hid h0
  have HT := Lib.hid htop
  have HW := Lib.hid hwalk
  clear hb hJa hY h0 htop hwalk hA hB hC
  by_cases h1 : most < 1
  · have e : most = 0 := by omega
    have E := Lib.hid e
    clear e
    have hJ2 : J [] ((W.alloc (.cells #[.func (.yield l) #[] #[]] 86)).alloc (.cells #[.int .i64 most] 3)) :=
      HJA.out _ _ _ none (HJA.out _ _ _ none H0.out (World.grownBy_alloc W _ none) (fun r e => by cases e)) (World.grownBy_alloc _ _ none) (fun r e => by cases e)
    have HJ2 := Lib.hid hJ2
    clear hJ2
    go_enter Try.func53, Try.ntmps53
    go_wp2_with fail
    refine bodyPost_ret (results_none rfl _ _ _) rfl ⟨⟨_, rfl⟩, ?_⟩
    rw [E.out, List.take_zero]
    have h := HJ2.out
    rw [E.out] at h
    exact h
  · obtain ⟨W2, hW2⟩ : ∃ W2, W2 = (W.alloc (.cells #[.func (.yield l) #[] #[]] 86)).alloc (.cells #[.int .i64 most] 3) := ⟨_, rfl⟩
    have hJ2 : J [] W2.drew := by
      rw [hW2]
      exact HJA.out _ _ _ none (HJA.out _ _ _ none (HJA.out _ _ _ none H0.out (World.grownBy_alloc W _ none) (fun r e => by cases e)) (World.grownBy_alloc _ _ none) (fun r e => by cases e)) ⟨rfl, rfl, rfl, Nat.le_refl _, fun k _ _ => rfl⟩ (fun r e => by cases e)
    have hb2 : Below w0.heap.size w0 W2.drew := by
      rw [hW2]
      exact ((HB.out.alloc HB.out.size _).alloc (by have := HB.out.size; simp; omega) _).drew
    have hY2 : W2.drew.heap[W.heap.size]? = some (.cells #[.func (.yield l) #[] #[]] 86 (0, 0)) := by
      rw [hW2]
      exact (Below.heap_alloc _ _ _ (by simp)).trans (heap_alloc_new W _)
    have hL2 : W2.drew.heap[W.heap.size + 1]? = some (.cells #[.int .i64 most] 3 (0, 0)) := by
      rw [hW2]
      have := heap_alloc_new (W.alloc (.cells #[.func (.yield l) #[] #[]] 86)) (.cells #[.int .i64 most] 3)
      rwa [World.size_alloc] at this
    have B2 := Lib.hid hb2
    have CALL := Lib.hid (HW.out l (W.heap.size + 1) W.heap.size J W.heap.size HJA.out (by omega) HY.out most (by omega) hm W2.drew hb2 hL2 hY2 hJ2)
    have bW : Below W.heap.size W W2 := by rw [hW2]; exact ((Below.refl _ W).alloc (Nat.le_refl _) _).alloc (by simp) _
    have b2 : W2.cell? ⟨B, 0, none⟩ = some (.pointer ma) := (bW.cell (p := ⟨B, 0, none⟩) blt).trans b1
    have c2 : W2.cell? ⟨C, 0, none⟩ = some (.int .i64 k) := (bW.cell (p := ⟨C, 0, none⟩) clt).trans c1
    clear bW
    clear hJ2 hb2 hY2 hL2
    go_enter Try.func53, Try.ntmps53
    go_wp2_with fail
    rw [← hW2]
    clear hW2 a1 b1 c1
    go_region_with (first | (go_at_call 28; refine (HT.out _ ?_).mono ?_; exact B2.out; rintro e w' ⟨rfl, rfl⟩) | (go_at_call 54; refine CALL.out.mono ?_; rintro e W3 ⟨⟨b, rfl⟩, h3⟩))
    all_goals
      go_wp2
      go_end0
      exact ⟨⟨_, rfl⟩, h3⟩
set_option maxHeartbeats 400000 in
theorem walk_nil (k : Int) (f : Value) (hf : f.cells.size = 1) (W : World) (c : Array Value) (g : Nat) (hfc : f = .func (.func g) #[] c) : Calls Try.prog 54 #[.pointer none, .int .i64 k, f] W fun e W' => e = .returned (.bool true) ∧ W = W' := by
  subst hfc
  go_enter Try.func54, Try.ntmps54
  go_wp2
  go_ret
  exact ⟨rfl, rfl⟩

theorem walks_nil (k : Int) (N : Nat) (w0 : World) : Walks (.pointer none) k [] N w0 := by
  intro l L Y J B hJa hBL hY c hc hc2 W hb hL hYb h0
  refine (walk_nil k _ rfl W _ 55 rfl).mono ?_
  rintro e W' ⟨rfl, rfl⟩
  exact ⟨⟨_, rfl⟩, by simpa using h0⟩

theorem walks_leaf (t : Nat) (x : Kid) (k : Int) (w0 : World) (hx : IsT t w0 0 x) (hs : Rising x.l) (hn : x.l.length ≤ 1000) : Walks (.pointer (some ⟨x.p, 0, none⟩)) k (x.l.drop (pos x.l k)) 1000 w0 := by
  intro l L Y J B hJa hBL hY c hc hc2 W hb hL hYb h0
  have hxW : IsT t W 0 x := hx.frame fun b hbx => hb.block b (hx.lt b hbx)
  refine (walk_leaf t l L Y J B hJa hBL 1000 hY x k c hc hc2 [] W hxW hs hn hL hYb h0 (by simpa using hn)).mono ?_
  rintro e W' ⟨h1, h2⟩
  exact ⟨h1, by simpa using h2⟩
end Go.Proofs.Ytcboakmfabdeoaa
