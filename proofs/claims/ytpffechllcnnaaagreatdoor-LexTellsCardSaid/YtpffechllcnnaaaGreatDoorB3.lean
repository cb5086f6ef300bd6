/- Wide numbers: Add. -/
import Derived.Test.YtpffechllcnnaaaGreatDoorB1
namespace Go.Proofs.YtpffechllcnnaaaGreatDoor
open Go.RowKit

/-- what is added in a place: what stays there, and what is carried. -/
theorem carry (n m : Int) (h0 : 0 ≤ n) (h1 : n ≤ m) : ∃ q c : Int, n % 4294967296 = q ∧ n / 4294967296 = c ∧ Part q ∧ 0 ≤ c ∧ c ≤ m / 4294967296 ∧ n = q + 4294967296 * c :=
  ⟨_, _, rfl, rfl, ⟨Int.emod_nonneg _ (by decide), by omega⟩, by omega, by omega, by omega⟩

theorem alloc_at (w : World) (o : Obj) (k : Nat) (h : w.heap.size = k) : (w.alloc o).heap[k]? = some o := by subst h; exact heap_alloc_new w o
/-- six cells stored one by one. -/
theorem six (W : World) (b : Nat) (cs : Array Value) (t : TypeId) (h : W.heap[b]? = some (.cells cs t (0, 0))) (hs : cs.size = 6) (v0 v1 v2 v3 v4 v5 : Value) :
    ((((((W.setCell ⟨b, 0, none⟩ v0).setCell ⟨b, 1, none⟩ v1).setCell ⟨b, 2, none⟩ v2).setCell ⟨b, 3, none⟩ v3).setCell ⟨b, 4, none⟩ v4).setCell ⟨b, 5, none⟩ v5).heap[b]? = some (.cells #[v0, v1, v2, v3, v4, v5] t (0, 0)) := by
  obtain ⟨l⟩ := cs
  match l, hs with
  | [a0, a1, a2, a3, a4, a5], _ =>
    have h0 := heap_setCell_same W b 0 _ t v0 h
    have h1 := heap_setCell_same _ b 1 _ t v1 h0
    have h2 := heap_setCell_same _ b 2 _ t v2 h1
    have h3 := heap_setCell_same _ b 3 _ t v3 h2
    have h4 := heap_setCell_same _ b 4 _ t v4 h3
    have h5 := heap_setCell_same _ b 5 _ t v5 h4
    simpa using h5
/-- a wide number that is given back. -/
theorem gives {fn : Func} {p : Tmp} (h : fn.results = #[.cell p 59]) (tmps : Array Value) (w : World) (g : Nat) (s : Bool) (q0 q1 q2 q3 q4 : Int)
    (hp : tmps.getD p undef = .pointer (some ⟨g, 0, none⟩)) (hg : w.heap[g]? = some (.cells #[.bool s, .int .u64 q0, .int .u64 q1, .int .u64 q2, .int .u64 q3, .int .u64 q4] 59 (0, 0))) :
    (results fn tmps).run Tryz.prog w = .ok (wide s q0 q1 q2 q3 q4) w :=
  results_cell_row h tmps w g 59 _ (0, 0) _ hp hg Tryz.underlying59 rfl (by kernel_rfl)

theorem world_gen {F : World → Prop} {W : World} (P : World → Prop) (hP : P W) (h : ∀ W', P W' → F W') : F W := h W hP
theorem draw_same (W : World) (n b i : Nat) (cs : Array Value) (t : TypeId) (v : Value) (h : W.heap[b]? = some (.cells cs t (0, 0))) :
    ((W.drewN n).setCell ⟨b, i, none⟩ v).heap[b]? = some (.cells (cs.setIfInBounds i v) t (0, 0)) := heap_setCell_same (W.drewN n) b i cs t v h
/-- five parts stored one by one, with draws between. -/
theorem five (W : World) (b : Nat) (u : Value) (t : TypeId) (z1 z2 z3 z4 z5 : Value) (h : W.heap[b]? = some (.cells #[u, z1, z2, z3, z4, z5] t (0, 0))) (n1 n2 n3 n4 n5 : Nat) (v1 v2 v3 v4 v5 : Value) :
    ((((((((((W.drewN n1).setCell ⟨b, 1, none⟩ v1).drewN n2).setCell ⟨b, 2, none⟩ v2).drewN n3).setCell ⟨b, 3, none⟩ v3).drewN n4).setCell ⟨b, 4, none⟩ v4).drewN n5).setCell ⟨b, 5, none⟩ v5).heap[b]? = some (.cells #[u, v1, v2, v3, v4, v5] t (0, 0)) := by
  have h1 := draw_same W n1 b 1 _ t v1 h
  have h2 := draw_same _ n2 b 2 _ t v2 h1
  have h3 := draw_same _ n3 b 3 _ t v3 h2
  have h4 := draw_same _ n4 b 4 _ t v4 h3
  have h5 := draw_same _ n5 b 5 _ t v5 h4
  simpa using h5
/-- what is known of the world ahead of the result's store: the row that is read, the row that is written. -/
structure Two (w W : World) (g r : Nat) (s t : Bool) (q0 q1 q2 q3 q4 : Int) : Prop where
  from' : W.heap[r]? = some (.cells #[.bool s, .int .u64 q0, .int .u64 q1, .int .u64 q2, .int .u64 q3, .int .u64 q4] 59 (0, 0))
  to : W.heap[g]? = some (.cells #[.bool t, .int .u64 0, .int .u64 0, .int .u64 0, .int .u64 0, .int .u64 0] 59 (0, 0))
  le : w.heap.size ≤ g
  below : Below w.heap.size w W
theorem Two.end' {w W : World} {g r : Nat} {s t : Bool} {q0 q1 q2 q3 q4 : Int} (h : Two w W g r s t q0 q1 q2 q3 q4) (v0 v1 v2 v3 v4 v5 : Value) :
    Below w.heap.size w ((((((W.setCell ⟨g, 0, none⟩ v0).setCell ⟨g, 1, none⟩ v1).setCell ⟨g, 2, none⟩ v2).setCell ⟨g, 3, none⟩ v3).setCell ⟨g, 4, none⟩ v4).setCell ⟨g, 5, none⟩ v5) :=
  (((((h.below.setCell h.le _).setCell h.le _).setCell h.le _).setCell h.le _).setCell h.le _).setCell h.le _

set_option maxRecDepth 100000 in
set_option maxHeartbeats 1000000 in
theorem wadd_more (x0 x1 x2 y0 : Int) (w : World) (hx0 : Part x0) (hx1 : Part x1) (hx2 : 0 ≤ x2 ∧ x2 ≤ 1000) (hy0 : Part y0) :
    Calls Tryz.prog 32 #[wide false x0 x1 x2 0 0, wide false y0 0 0 0 0] w fun e w' => ∃ q0 q1 q2 : Int, (Part q0 ∧ Part q1 ∧ Part q2 ∧ size q0 q1 q2 0 0 = size x0 x1 x2 0 0 + y0) ∧ e = .returned (wide false q0 q1 q2 0 0) ∧ Below w.heap.size w w' := by
  obtain ⟨a0, b0⟩ := hx0
  obtain ⟨a1, b1⟩ := hx1
  obtain ⟨c0, d0⟩ := hy0
  obtain ⟨c1, d1⟩ := hx2
  obtain ⟨q0, k0, e1, e2, f1, f2, f3, f4⟩ := carry (x0 + y0) 8589934590 (by omega) (by omega)
  obtain ⟨q1, k1, e3, e4, f5, f6, f7, f8⟩ := carry (x1 + k0) 4294967296 (by omega) (by omega)
  have F : Hid ((Part q0 ∧ Part q1 ∧ Part (x2 + k1) ∧ size q0 q1 (x2 + k1) 0 0 = size x0 x1 x2 0 0 + y0)) :=
    Lib.hid ⟨f1, f5, ⟨by omega, by omega⟩, by unfold size; omega⟩
  have B : Below w.heap.size w ((((w.alloc (.cells #[.bool false, .int .u64 x0, .int .u64 x1, .int .u64 x2, .int .u64 0, .int .u64 0] 59)).alloc (.cells #[.bool false, .int .u64 y0, .int .u64 0, .int .u64 0, .int .u64 0, .int .u64 0] 59)).alloc (.cells #[.bool false, .int .u64 0, .int .u64 0, .int .u64 0, .int .u64 0, .int .u64 0] 59)).alloc (.cells #[.bool false, .int .u64 0, .int .u64 0, .int .u64 0, .int .u64 0, .int .u64 0] 59)) :=
    ((((Below.refl _ _).alloc (Nat.le_refl _) _).alloc (by simp) _).alloc (by simp; omega) _).alloc (by simp; omega) _
  have BB := Lib.hid B
  have E1 := Lib.hid e1
  have E2 := Lib.hid e2
  have E3 := Lib.hid e3
  have E4 := Lib.hid e4
  have g1 : k0 ≤ 1 := by omega
  have g2 : k1 ≤ 1 := by omega
  clear e1 e2 e3 e4 f1 f3 f4 f5 f7 f8 B
  go_enter Tryz.func32, Tryz.ntmps32
  go_wp2
  refine wp_loop_rounds 6 ?_
  rw [rounds_succ]
  go_wp2
  go_quiet (fail)
  go_wp2
  rw [E1.out, E2.out]
  rw [rounds_succ]
  go_wp2
  go_quiet (fail)
  go_wp2
  rw [E3.out, E4.out]
  rw [rounds_succ]
  go_wp2
  go_quiet (fail)
  go_wp2
  rw [Int.emod_eq_of_lt (show 0 ≤ x2 + k1 by omega) (show x2 + k1 < 4294967296 by omega), Int.ediv_eq_zero_of_lt (show 0 ≤ x2 + k1 by omega) (show x2 + k1 < 4294967296 by omega)]
  rw [rounds_succ]
  go_wp2
  go_quiet (fail)
  go_wp2
  rw [rounds_succ]
  go_wp2
  go_quiet (fail)
  go_wp2
  rw [rounds_succ]
  go_wp2
  refine bodyPost_ret (v := wide false q0 q1 (x2 + k1) 0 0) (gives Tryz.results32 _ _ (w.heap.size + 1 + 1) false q0 q1 (x2 + k1) 0 0 rfl (six _ _ #[.bool false, .int .u64 0, .int .u64 0, .int .u64 0, .int .u64 0, .int .u64 0] 59 ?_ rfl _ _ _ _ _ _)) rfl ⟨_, _, _, F.out, rfl, ?_⟩
  · repeat (first | rw [World.heap_drewN] | rw [heap_setCell_other _ _ _ _ (by simp)])
    rw [heap_alloc_old _ _ (by simp)]
    exact alloc_at _ _ _ (by simp)
  repeat (first | with_reducible exact BB.out | with_reducible refine below_drewN ?_ _ | with_reducible refine Below.setCell ?_ (by simp; omega) _)
end Go.Proofs.YtpffechllcnnaaaGreatDoor
