import Derived.Test.YteghhmomhlnccaaGreatDoorZIQA
import Derived.Test.YteghhmomhlnccaaGreatDoorZHMC
import Derived.Test.YteghhmomhlnccaaGreatDoorZIQB
import Derived.Test.YteghhmomhlnccaaGreatDoorZHMB

/- shapeOf: what a node gives and asks (gen_if.py). -/
namespace Go.Proofs.YteghhmomhlnccaaGreatDoor
open Go.RowKit Go.Lib
set_option linter.unusedVariables false
set_option linter.unusedSimpArgs false
set_option maxRecDepth 100000
attribute [local go_sem ↓] eqVal neqVal

/-- a shape that a call tells. -/
def ShapeR (w : World) (g : Int) (l : List Int) (e : Ending) (w' : World) : Prop := ∃ A, e = .returned (.agg #[.int .i64 g, .slice A l.length l.length]) ∧ IntsAt w' A l ∧ Below w.heap.size w w'
theorem ShapeR.of {w w' : World} {g : Int} {l : List Int} {B : Nat} (h : Whole w' B 3 ((l.map (Value.int .i64)).toArray)) (hb : Below w.heap.size w w') : ShapeR w g l (.returned (.agg #[.int .i64 g, .slice (some ⟨B, 0, none⟩) l.length l.length])) w' := ⟨_, rfl, IntsAt.whole h, hb⟩
theorem shape_fin {w : World} {X : Array Value} {g : Int} {l : List Int} {cs : Array Value} (hcs : cs = (l.map (Value.int .i64)).toArray) {n : Nat} (hn : n = l.length) {a : Act} (ha : a.tmps.getD 2 undef = .pointer (some ⟨w.heap.size + 1, 0, none⟩)) (hd : a.defers = []) :
    bodyPost Tryz.prog Tryz.f75 (ShapeR w g l) .ret a (((w.alloc (.cells X 26)).alloc (.cells #[.int .i64 g, .slice (some ⟨w.heap.size + 1 + 1, 0, none⟩) n n] 114)).alloc (.cells cs 3)) := by
  subst hcs
  subst hn
  have k0 := (Whole.new (w.alloc (.cells X 26)) 114 #[.int .i64 g, .slice (some ⟨w.heap.size + 1 + 1, 0, none⟩) l.length l.length]).alloc (.cells ((l.map (Value.int .i64)).toArray) 3)
  have k2 := Whole.new ((w.alloc (.cells X 26)).alloc (.cells #[.int .i64 g, .slice (some ⟨w.heap.size + 1 + 1, 0, none⟩) l.length l.length] 114)) 3 ((l.map (Value.int .i64)).toArray)
  simp only [World.size_alloc] at k0 k2
  exact bodyPost_ret (results_cell_row Tryz.results75 _ _ (w.heap.size + 1) _ _ _ _ ha k0 Tryz.underlying114 rfl (by kernel_rfl)) hd (ShapeR.of k2 ((((Below.refl _ _).alloc (Nat.le_refl _) _).alloc (by simp) _).alloc (by simp; omega) _))
set_option maxHeartbeats 1000000 in
theorem shape_neg (op : Int) (t : List UInt8) (vk vn : Int) (vs : List UInt8) (A : Option Addr) (n c : Nat) (w : World) (ho : op = 3) :
    Calls Tryz.prog 75 #[.agg (ncells op t vk vn vs A n c)] w (ShapeR w (1) [1]) := by
  have x0 := (Whole.new w 26 (ncells op t vk vn vs A n c)).alloc (.cells #[.int .i64 0, .slice none 0 0] 114)
  unfold ncells at *
  obtain ⟨c0, c1, c2, c3, c4, c5⟩ := six_of x0
  clear x0
  subst ho
  skip
  go_enter Tryz.func75, Tryz.ntmps75
  go_wp2_with fail
  exact shape_fin rfl rfl rfl rfl
set_option maxHeartbeats 1000000 in
theorem shape_not (op : Int) (t : List UInt8) (vk vn : Int) (vs : List UInt8) (A : Option Addr) (n c : Nat) (w : World) (ho : op = 4) :
    Calls Tryz.prog 75 #[.agg (ncells op t vk vn vs A n c)] w (ShapeR w (3) [3]) := by
  have x0 := (Whole.new w 26 (ncells op t vk vn vs A n c)).alloc (.cells #[.int .i64 0, .slice none 0 0] 114)
  unfold ncells at *
  obtain ⟨c0, c1, c2, c3, c4, c5⟩ := six_of x0
  clear x0
  subst ho
  skip
  go_enter Tryz.func75, Tryz.ntmps75
  go_wp2_with fail
  exact shape_fin rfl rfl rfl rfl
set_option maxHeartbeats 1000000 in
theorem shape_0 (op : Int) (t : List UInt8) (vk vn : Int) (vs : List UInt8) (A : Option Addr) (n c : Nat) (w : World) (h3 : (op == 3) = false) (h4 : (op == 4) = false) (t0 : (t == [111, 114]) = true) :
    Calls Tryz.prog 75 #[.agg (ncells op t vk vn vs A n c)] w (ShapeR w (3) [3, 3]) := by
  have x0 := (Whole.new w 26 (ncells op t vk vn vs A n c)).alloc (.cells #[.int .i64 0, .slice none 0 0] 114)
  unfold ncells at *
  obtain ⟨c0, c1, c2, c3, c4, c5⟩ := six_of x0
  clear x0
  skip
  go_enter Tryz.func75, Tryz.ntmps75
  go_wp2_with fail
  exact shape_fin rfl rfl rfl rfl
set_option maxHeartbeats 1000000 in
theorem shape_1 (op : Int) (t : List UInt8) (vk vn : Int) (vs : List UInt8) (A : Option Addr) (n c : Nat) (w : World) (h3 : (op == 3) = false) (h4 : (op == 4) = false) (t0 : (t == [111, 114]) = false) (t1 : (t == [97, 110, 100]) = true) :
    Calls Tryz.prog 75 #[.agg (ncells op t vk vn vs A n c)] w (ShapeR w (3) [3, 3]) := by
  have x0 := (Whole.new w 26 (ncells op t vk vn vs A n c)).alloc (.cells #[.int .i64 0, .slice none 0 0] 114)
  unfold ncells at *
  obtain ⟨c0, c1, c2, c3, c4, c5⟩ := six_of x0
  clear x0
  skip
  go_enter Tryz.func75, Tryz.ntmps75
  go_wp2_with fail
  exact shape_fin rfl rfl rfl rfl
set_option maxHeartbeats 1000000 in
theorem shape_2 (op : Int) (t : List UInt8) (vk vn : Int) (vs : List UInt8) (A : Option Addr) (n c : Nat) (w : World) (h3 : (op == 3) = false) (h4 : (op == 4) = false) (t0 : (t == [111, 114]) = false) (t1 : (t == [97, 110, 100]) = false) (t2 : (t == [61]) = true) :
    Calls Tryz.prog 75 #[.agg (ncells op t vk vn vs A n c)] w (ShapeR w (3) [-1, -1]) := by
  have x0 := (Whole.new w 26 (ncells op t vk vn vs A n c)).alloc (.cells #[.int .i64 0, .slice none 0 0] 114)
  unfold ncells at *
  obtain ⟨c0, c1, c2, c3, c4, c5⟩ := six_of x0
  clear x0
  skip
  go_enter Tryz.func75, Tryz.ntmps75
  go_wp2_with fail
  exact shape_fin rfl rfl rfl rfl
set_option maxHeartbeats 1000000 in
theorem shape_3 (op : Int) (t : List UInt8) (vk vn : Int) (vs : List UInt8) (A : Option Addr) (n c : Nat) (w : World) (h3 : (op == 3) = false) (h4 : (op == 4) = false) (t0 : (t == [111, 114]) = false) (t1 : (t == [97, 110, 100]) = false) (t2 : (t == [61]) = false) (t3 : (t == [33, 61]) = true) :
    Calls Tryz.prog 75 #[.agg (ncells op t vk vn vs A n c)] w (ShapeR w (3) [-1, -1]) := by
  have x0 := (Whole.new w 26 (ncells op t vk vn vs A n c)).alloc (.cells #[.int .i64 0, .slice none 0 0] 114)
  unfold ncells at *
  obtain ⟨c0, c1, c2, c3, c4, c5⟩ := six_of x0
  clear x0
  skip
  go_enter Tryz.func75, Tryz.ntmps75
  go_wp2_with fail
  exact shape_fin rfl rfl rfl rfl
set_option maxHeartbeats 1000000 in
theorem shape_4 (op : Int) (t : List UInt8) (vk vn : Int) (vs : List UInt8) (A : Option Addr) (n c : Nat) (w : World) (h3 : (op == 3) = false) (h4 : (op == 4) = false) (t0 : (t == [111, 114]) = false) (t1 : (t == [97, 110, 100]) = false) (t2 : (t == [61]) = false) (t3 : (t == [33, 61]) = false) (t4 : (t == [60]) = true) :
    Calls Tryz.prog 75 #[.agg (ncells op t vk vn vs A n c)] w (ShapeR w (3) [-1, -1]) := by
  have x0 := (Whole.new w 26 (ncells op t vk vn vs A n c)).alloc (.cells #[.int .i64 0, .slice none 0 0] 114)
  unfold ncells at *
  obtain ⟨c0, c1, c2, c3, c4, c5⟩ := six_of x0
  clear x0
  skip
  go_enter Tryz.func75, Tryz.ntmps75
  go_wp2_with fail
  exact shape_fin rfl rfl rfl rfl
set_option maxHeartbeats 1000000 in
theorem shape_5 (op : Int) (t : List UInt8) (vk vn : Int) (vs : List UInt8) (A : Option Addr) (n c : Nat) (w : World) (h3 : (op == 3) = false) (h4 : (op == 4) = false) (t0 : (t == [111, 114]) = false) (t1 : (t == [97, 110, 100]) = false) (t2 : (t == [61]) = false) (t3 : (t == [33, 61]) = false) (t4 : (t == [60]) = false) (t5 : (t == [60, 61]) = true) :
    Calls Tryz.prog 75 #[.agg (ncells op t vk vn vs A n c)] w (ShapeR w (3) [-1, -1]) := by
  have x0 := (Whole.new w 26 (ncells op t vk vn vs A n c)).alloc (.cells #[.int .i64 0, .slice none 0 0] 114)
  unfold ncells at *
  obtain ⟨c0, c1, c2, c3, c4, c5⟩ := six_of x0
  clear x0
  skip
  go_enter Tryz.func75, Tryz.ntmps75
  go_wp2_with fail
  exact shape_fin rfl rfl rfl rfl
set_option maxHeartbeats 1000000 in
theorem shape_6 (op : Int) (t : List UInt8) (vk vn : Int) (vs : List UInt8) (A : Option Addr) (n c : Nat) (w : World) (h3 : (op == 3) = false) (h4 : (op == 4) = false) (t0 : (t == [111, 114]) = false) (t1 : (t == [97, 110, 100]) = false) (t2 : (t == [61]) = false) (t3 : (t == [33, 61]) = false) (t4 : (t == [60]) = false) (t5 : (t == [60, 61]) = false) (t6 : (t == [62]) = true) :
    Calls Tryz.prog 75 #[.agg (ncells op t vk vn vs A n c)] w (ShapeR w (3) [-1, -1]) := by
  have x0 := (Whole.new w 26 (ncells op t vk vn vs A n c)).alloc (.cells #[.int .i64 0, .slice none 0 0] 114)
  unfold ncells at *
  obtain ⟨c0, c1, c2, c3, c4, c5⟩ := six_of x0
  clear x0
  skip
  go_enter Tryz.func75, Tryz.ntmps75
  go_wp2_with fail
  exact shape_fin rfl rfl rfl rfl
set_option maxHeartbeats 1000000 in
theorem shape_7 (op : Int) (t : List UInt8) (vk vn : Int) (vs : List UInt8) (A : Option Addr) (n c : Nat) (w : World) (h3 : (op == 3) = false) (h4 : (op == 4) = false) (t0 : (t == [111, 114]) = false) (t1 : (t == [97, 110, 100]) = false) (t2 : (t == [61]) = false) (t3 : (t == [33, 61]) = false) (t4 : (t == [60]) = false) (t5 : (t == [60, 61]) = false) (t6 : (t == [62]) = false) (t7 : (t == [62, 61]) = true) :
    Calls Tryz.prog 75 #[.agg (ncells op t vk vn vs A n c)] w (ShapeR w (3) [-1, -1]) := by
  have x0 := (Whole.new w 26 (ncells op t vk vn vs A n c)).alloc (.cells #[.int .i64 0, .slice none 0 0] 114)
  unfold ncells at *
  obtain ⟨c0, c1, c2, c3, c4, c5⟩ := six_of x0
  clear x0
  skip
  go_enter Tryz.func75, Tryz.ntmps75
  go_wp2_with fail
  exact shape_fin rfl rfl rfl rfl
set_option maxHeartbeats 1000000 in
theorem shape_8 (op : Int) (t : List UInt8) (vk vn : Int) (vs : List UInt8) (A : Option Addr) (n c : Nat) (w : World) (h3 : (op == 3) = false) (h4 : (op == 4) = false) (t0 : (t == [111, 114]) = false) (t1 : (t == [97, 110, 100]) = false) (t2 : (t == [61]) = false) (t3 : (t == [33, 61]) = false) (t4 : (t == [60]) = false) (t5 : (t == [60, 61]) = false) (t6 : (t == [62]) = false) (t7 : (t == [62, 61]) = false) (t8 : (t == [43]) = true) :
    Calls Tryz.prog 75 #[.agg (ncells op t vk vn vs A n c)] w (ShapeR w (1) [1, 1]) := by
  have x0 := (Whole.new w 26 (ncells op t vk vn vs A n c)).alloc (.cells #[.int .i64 0, .slice none 0 0] 114)
  unfold ncells at *
  obtain ⟨c0, c1, c2, c3, c4, c5⟩ := six_of x0
  clear x0
  skip
  go_enter Tryz.func75, Tryz.ntmps75
  go_wp2_with fail
  exact shape_fin rfl rfl rfl rfl
set_option maxHeartbeats 1000000 in
theorem shape_9 (op : Int) (t : List UInt8) (vk vn : Int) (vs : List UInt8) (A : Option Addr) (n c : Nat) (w : World) (h3 : (op == 3) = false) (h4 : (op == 4) = false) (t0 : (t == [111, 114]) = false) (t1 : (t == [97, 110, 100]) = false) (t2 : (t == [61]) = false) (t3 : (t == [33, 61]) = false) (t4 : (t == [60]) = false) (t5 : (t == [60, 61]) = false) (t6 : (t == [62]) = false) (t7 : (t == [62, 61]) = false) (t8 : (t == [43]) = false) (t9 : (t == [45]) = true) :
    Calls Tryz.prog 75 #[.agg (ncells op t vk vn vs A n c)] w (ShapeR w (1) [1, 1]) := by
  have x0 := (Whole.new w 26 (ncells op t vk vn vs A n c)).alloc (.cells #[.int .i64 0, .slice none 0 0] 114)
  unfold ncells at *
  obtain ⟨c0, c1, c2, c3, c4, c5⟩ := six_of x0
  clear x0
  skip
  go_enter Tryz.func75, Tryz.ntmps75
  go_wp2_with fail
  exact shape_fin rfl rfl rfl rfl
set_option maxHeartbeats 1000000 in
theorem shape_10 (op : Int) (t : List UInt8) (vk vn : Int) (vs : List UInt8) (A : Option Addr) (n c : Nat) (w : World) (h3 : (op == 3) = false) (h4 : (op == 4) = false) (t0 : (t == [111, 114]) = false) (t1 : (t == [97, 110, 100]) = false) (t2 : (t == [61]) = false) (t3 : (t == [33, 61]) = false) (t4 : (t == [60]) = false) (t5 : (t == [60, 61]) = false) (t6 : (t == [62]) = false) (t7 : (t == [62, 61]) = false) (t8 : (t == [43]) = false) (t9 : (t == [45]) = false) (t10 : (t == [42]) = true) :
    Calls Tryz.prog 75 #[.agg (ncells op t vk vn vs A n c)] w (ShapeR w (1) [1, 1]) := by
  have x0 := (Whole.new w 26 (ncells op t vk vn vs A n c)).alloc (.cells #[.int .i64 0, .slice none 0 0] 114)
  unfold ncells at *
  obtain ⟨c0, c1, c2, c3, c4, c5⟩ := six_of x0
  clear x0
  skip
  go_enter Tryz.func75, Tryz.ntmps75
  go_wp2_with fail
  exact shape_fin rfl rfl rfl rfl
set_option maxHeartbeats 1000000 in
theorem shape_11 (op : Int) (t : List UInt8) (vk vn : Int) (vs : List UInt8) (A : Option Addr) (n c : Nat) (w : World) (h3 : (op == 3) = false) (h4 : (op == 4) = false) (t0 : (t == [111, 114]) = false) (t1 : (t == [97, 110, 100]) = false) (t2 : (t == [61]) = false) (t3 : (t == [33, 61]) = false) (t4 : (t == [60]) = false) (t5 : (t == [60, 61]) = false) (t6 : (t == [62]) = false) (t7 : (t == [62, 61]) = false) (t8 : (t == [43]) = false) (t9 : (t == [45]) = false) (t10 : (t == [42]) = false) (t11 : (t == [47]) = true) :
    Calls Tryz.prog 75 #[.agg (ncells op t vk vn vs A n c)] w (ShapeR w (1) [1, 1]) := by
  have x0 := (Whole.new w 26 (ncells op t vk vn vs A n c)).alloc (.cells #[.int .i64 0, .slice none 0 0] 114)
  unfold ncells at *
  obtain ⟨c0, c1, c2, c3, c4, c5⟩ := six_of x0
  clear x0
  skip
  go_enter Tryz.func75, Tryz.ntmps75
  go_wp2_with fail
  exact shape_fin rfl rfl rfl rfl
set_option maxHeartbeats 1000000 in
theorem shape_12 (op : Int) (t : List UInt8) (vk vn : Int) (vs : List UInt8) (A : Option Addr) (n c : Nat) (w : World) (h3 : (op == 3) = false) (h4 : (op == 4) = false) (t0 : (t == [111, 114]) = false) (t1 : (t == [97, 110, 100]) = false) (t2 : (t == [61]) = false) (t3 : (t == [33, 61]) = false) (t4 : (t == [60]) = false) (t5 : (t == [60, 61]) = false) (t6 : (t == [62]) = false) (t7 : (t == [62, 61]) = false) (t8 : (t == [43]) = false) (t9 : (t == [45]) = false) (t10 : (t == [42]) = false) (t11 : (t == [47]) = false) (t12 : (t == [37]) = true) :
    Calls Tryz.prog 75 #[.agg (ncells op t vk vn vs A n c)] w (ShapeR w (1) [1, 1]) := by
  have x0 := (Whole.new w 26 (ncells op t vk vn vs A n c)).alloc (.cells #[.int .i64 0, .slice none 0 0] 114)
  unfold ncells at *
  obtain ⟨c0, c1, c2, c3, c4, c5⟩ := six_of x0
  clear x0
  skip
  go_enter Tryz.func75, Tryz.ntmps75
  go_wp2_with fail
  exact shape_fin rfl rfl rfl rfl
set_option maxHeartbeats 1000000 in
theorem shape_13 (op : Int) (t : List UInt8) (vk vn : Int) (vs : List UInt8) (A : Option Addr) (n c : Nat) (w : World) (h3 : (op == 3) = false) (h4 : (op == 4) = false) (t0 : (t == [111, 114]) = false) (t1 : (t == [97, 110, 100]) = false) (t2 : (t == [61]) = false) (t3 : (t == [33, 61]) = false) (t4 : (t == [60]) = false) (t5 : (t == [60, 61]) = false) (t6 : (t == [62]) = false) (t7 : (t == [62, 61]) = false) (t8 : (t == [43]) = false) (t9 : (t == [45]) = false) (t10 : (t == [42]) = false) (t11 : (t == [47]) = false) (t12 : (t == [37]) = false) (t13 : (t == [38]) = true) :
    Calls Tryz.prog 75 #[.agg (ncells op t vk vn vs A n c)] w (ShapeR w (2) [2, 2]) := by
  have x0 := (Whole.new w 26 (ncells op t vk vn vs A n c)).alloc (.cells #[.int .i64 0, .slice none 0 0] 114)
  unfold ncells at *
  obtain ⟨c0, c1, c2, c3, c4, c5⟩ := six_of x0
  clear x0
  skip
  go_enter Tryz.func75, Tryz.ntmps75
  go_wp2_with fail
  exact shape_fin rfl rfl rfl rfl
set_option maxHeartbeats 1000000 in
theorem shape_14 (op : Int) (t : List UInt8) (vk vn : Int) (vs : List UInt8) (A : Option Addr) (n c : Nat) (w : World) (h3 : (op == 3) = false) (h4 : (op == 4) = false) (t0 : (t == [111, 114]) = false) (t1 : (t == [97, 110, 100]) = false) (t2 : (t == [61]) = false) (t3 : (t == [33, 61]) = false) (t4 : (t == [60]) = false) (t5 : (t == [60, 61]) = false) (t6 : (t == [62]) = false) (t7 : (t == [62, 61]) = false) (t8 : (t == [43]) = false) (t9 : (t == [45]) = false) (t10 : (t == [42]) = false) (t11 : (t == [47]) = false) (t12 : (t == [37]) = false) (t13 : (t == [38]) = false) (t14 : (t == [108, 101, 110]) = true) :
    Calls Tryz.prog 75 #[.agg (ncells op t vk vn vs A n c)] w (ShapeR w (1) [2]) := by
  have x0 := (Whole.new w 26 (ncells op t vk vn vs A n c)).alloc (.cells #[.int .i64 0, .slice none 0 0] 114)
  unfold ncells at *
  obtain ⟨c0, c1, c2, c3, c4, c5⟩ := six_of x0
  clear x0
  skip
  go_enter Tryz.func75, Tryz.ntmps75
  go_wp2_with fail
  exact shape_fin rfl rfl rfl rfl
set_option maxHeartbeats 1000000 in
theorem shape_15 (op : Int) (t : List UInt8) (vk vn : Int) (vs : List UInt8) (A : Option Addr) (n c : Nat) (w : World) (h3 : (op == 3) = false) (h4 : (op == 4) = false) (t0 : (t == [111, 114]) = false) (t1 : (t == [97, 110, 100]) = false) (t2 : (t == [61]) = false) (t3 : (t == [33, 61]) = false) (t4 : (t == [60]) = false) (t5 : (t == [60, 61]) = false) (t6 : (t == [62]) = false) (t7 : (t == [62, 61]) = false) (t8 : (t == [43]) = false) (t9 : (t == [45]) = false) (t10 : (t == [42]) = false) (t11 : (t == [47]) = false) (t12 : (t == [37]) = false) (t13 : (t == [38]) = false) (t14 : (t == [108, 101, 110]) = false) (t15 : (t == [110, 117, 109]) = true) :
    Calls Tryz.prog 75 #[.agg (ncells op t vk vn vs A n c)] w (ShapeR w (1) [2]) := by
  have x0 := (Whole.new w 26 (ncells op t vk vn vs A n c)).alloc (.cells #[.int .i64 0, .slice none 0 0] 114)
  unfold ncells at *
  obtain ⟨c0, c1, c2, c3, c4, c5⟩ := six_of x0
  clear x0
  skip
  go_enter Tryz.func75, Tryz.ntmps75
  go_wp2_with fail
  exact shape_fin rfl rfl rfl rfl
set_option maxHeartbeats 1000000 in
theorem shape_16 (op : Int) (t : List UInt8) (vk vn : Int) (vs : List UInt8) (A : Option Addr) (n c : Nat) (w : World) (h3 : (op == 3) = false) (h4 : (op == 4) = false) (t0 : (t == [111, 114]) = false) (t1 : (t == [97, 110, 100]) = false) (t2 : (t == [61]) = false) (t3 : (t == [33, 61]) = false) (t4 : (t == [60]) = false) (t5 : (t == [60, 61]) = false) (t6 : (t == [62]) = false) (t7 : (t == [62, 61]) = false) (t8 : (t == [43]) = false) (t9 : (t == [45]) = false) (t10 : (t == [42]) = false) (t11 : (t == [47]) = false) (t12 : (t == [37]) = false) (t13 : (t == [38]) = false) (t14 : (t == [108, 101, 110]) = false) (t15 : (t == [110, 117, 109]) = false) (t16 : (t == [115, 116, 114]) = true) :
    Calls Tryz.prog 75 #[.agg (ncells op t vk vn vs A n c)] w (ShapeR w (2) [1]) := by
  have x0 := (Whole.new w 26 (ncells op t vk vn vs A n c)).alloc (.cells #[.int .i64 0, .slice none 0 0] 114)
  unfold ncells at *
  obtain ⟨c0, c1, c2, c3, c4, c5⟩ := six_of x0
  clear x0
  skip
  go_enter Tryz.func75, Tryz.ntmps75
  go_wp2_with fail
  exact shape_fin rfl rfl rfl rfl
set_option maxHeartbeats 1000000 in
theorem shape_17 (op : Int) (t : List UInt8) (vk vn : Int) (vs : List UInt8) (A : Option Addr) (n c : Nat) (w : World) (h3 : (op == 3) = false) (h4 : (op == 4) = false) (t0 : (t == [111, 114]) = false) (t1 : (t == [97, 110, 100]) = false) (t2 : (t == [61]) = false) (t3 : (t == [33, 61]) = false) (t4 : (t == [60]) = false) (t5 : (t == [60, 61]) = false) (t6 : (t == [62]) = false) (t7 : (t == [62, 61]) = false) (t8 : (t == [43]) = false) (t9 : (t == [45]) = false) (t10 : (t == [42]) = false) (t11 : (t == [47]) = false) (t12 : (t == [37]) = false) (t13 : (t == [38]) = false) (t14 : (t == [108, 101, 110]) = false) (t15 : (t == [110, 117, 109]) = false) (t16 : (t == [115, 116, 114]) = false) (t17 : (t == [108, 101, 102, 116]) = true) :
    Calls Tryz.prog 75 #[.agg (ncells op t vk vn vs A n c)] w (ShapeR w (2) [2, 1]) := by
  have x0 := (Whole.new w 26 (ncells op t vk vn vs A n c)).alloc (.cells #[.int .i64 0, .slice none 0 0] 114)
  unfold ncells at *
  obtain ⟨c0, c1, c2, c3, c4, c5⟩ := six_of x0
  clear x0
  skip
  go_enter Tryz.func75, Tryz.ntmps75
  go_wp2_with fail
  exact shape_fin rfl rfl rfl rfl
set_option maxHeartbeats 1000000 in
theorem shape_18 (op : Int) (t : List UInt8) (vk vn : Int) (vs : List UInt8) (A : Option Addr) (n c : Nat) (w : World) (h3 : (op == 3) = false) (h4 : (op == 4) = false) (t0 : (t == [111, 114]) = false) (t1 : (t == [97, 110, 100]) = false) (t2 : (t == [61]) = false) (t3 : (t == [33, 61]) = false) (t4 : (t == [60]) = false) (t5 : (t == [60, 61]) = false) (t6 : (t == [62]) = false) (t7 : (t == [62, 61]) = false) (t8 : (t == [43]) = false) (t9 : (t == [45]) = false) (t10 : (t == [42]) = false) (t11 : (t == [47]) = false) (t12 : (t == [37]) = false) (t13 : (t == [38]) = false) (t14 : (t == [108, 101, 110]) = false) (t15 : (t == [110, 117, 109]) = false) (t16 : (t == [115, 116, 114]) = false) (t17 : (t == [108, 101, 102, 116]) = false) (t18 : (t == [114, 105, 103, 104, 116]) = true) :
    Calls Tryz.prog 75 #[.agg (ncells op t vk vn vs A n c)] w (ShapeR w (2) [2, 1]) := by
  have x0 := (Whole.new w 26 (ncells op t vk vn vs A n c)).alloc (.cells #[.int .i64 0, .slice none 0 0] 114)
  unfold ncells at *
  obtain ⟨c0, c1, c2, c3, c4, c5⟩ := six_of x0
  clear x0
  skip
  go_enter Tryz.func75, Tryz.ntmps75
  go_wp2_with fail
  exact shape_fin rfl rfl rfl rfl
set_option maxHeartbeats 1000000 in
theorem shape_19 (op : Int) (t : List UInt8) (vk vn : Int) (vs : List UInt8) (A : Option Addr) (n c : Nat) (w : World) (h3 : (op == 3) = false) (h4 : (op == 4) = false) (t0 : (t == [111, 114]) = false) (t1 : (t == [97, 110, 100]) = false) (t2 : (t == [61]) = false) (t3 : (t == [33, 61]) = false) (t4 : (t == [60]) = false) (t5 : (t == [60, 61]) = false) (t6 : (t == [62]) = false) (t7 : (t == [62, 61]) = false) (t8 : (t == [43]) = false) (t9 : (t == [45]) = false) (t10 : (t == [42]) = false) (t11 : (t == [47]) = false) (t12 : (t == [37]) = false) (t13 : (t == [38]) = false) (t14 : (t == [108, 101, 110]) = false) (t15 : (t == [110, 117, 109]) = false) (t16 : (t == [115, 116, 114]) = false) (t17 : (t == [108, 101, 102, 116]) = false) (t18 : (t == [114, 105, 103, 104, 116]) = false) (t19 : (t == [105, 115, 110, 117, 108, 108]) = true) :
    Calls Tryz.prog 75 #[.agg (ncells op t vk vn vs A n c)] w (ShapeR w (3) [-1]) := by
  have x0 := (Whole.new w 26 (ncells op t vk vn vs A n c)).alloc (.cells #[.int .i64 0, .slice none 0 0] 114)
  unfold ncells at *
  obtain ⟨c0, c1, c2, c3, c4, c5⟩ := six_of x0
  clear x0
  skip
  go_enter Tryz.func75, Tryz.ntmps75
  go_wp2_with fail
  exact shape_fin rfl rfl rfl rfl
set_option maxHeartbeats 1000000 in
theorem shape_20 (op : Int) (t : List UInt8) (vk vn : Int) (vs : List UInt8) (A : Option Addr) (n c : Nat) (w : World) (h3 : (op == 3) = false) (h4 : (op == 4) = false) (t0 : (t == [111, 114]) = false) (t1 : (t == [97, 110, 100]) = false) (t2 : (t == [61]) = false) (t3 : (t == [33, 61]) = false) (t4 : (t == [60]) = false) (t5 : (t == [60, 61]) = false) (t6 : (t == [62]) = false) (t7 : (t == [62, 61]) = false) (t8 : (t == [43]) = false) (t9 : (t == [45]) = false) (t10 : (t == [42]) = false) (t11 : (t == [47]) = false) (t12 : (t == [37]) = false) (t13 : (t == [38]) = false) (t14 : (t == [108, 101, 110]) = false) (t15 : (t == [110, 117, 109]) = false) (t16 : (t == [115, 116, 114]) = false) (t17 : (t == [108, 101, 102, 116]) = false) (t18 : (t == [114, 105, 103, 104, 116]) = false) (t19 : (t == [105, 115, 110, 117, 108, 108]) = false) (t20 : (t == [110, 118, 108]) = true) :
    Calls Tryz.prog 75 #[.agg (ncells op t vk vn vs A n c)] w (ShapeR w (-1) [-1, -1]) := by
  have x0 := (Whole.new w 26 (ncells op t vk vn vs A n c)).alloc (.cells #[.int .i64 0, .slice none 0 0] 114)
  unfold ncells at *
  obtain ⟨c0, c1, c2, c3, c4, c5⟩ := six_of x0
  clear x0
  skip
  go_enter Tryz.func75, Tryz.ntmps75
  go_wp2_with fail
  exact shape_fin rfl rfl rfl rfl
set_option maxHeartbeats 1000000 in
theorem shape_if (op : Int) (t : List UInt8) (vk vn : Int) (vs : List UInt8) (A : Option Addr) (n c : Nat) (w : World) (h3 : (op == 3) = false) (h4 : (op == 4) = false) (t0 : (t == [111, 114]) = false) (t1 : (t == [97, 110, 100]) = false) (t2 : (t == [61]) = false) (t3 : (t == [33, 61]) = false) (t4 : (t == [60]) = false) (t5 : (t == [60, 61]) = false) (t6 : (t == [62]) = false) (t7 : (t == [62, 61]) = false) (t8 : (t == [43]) = false) (t9 : (t == [45]) = false) (t10 : (t == [42]) = false) (t11 : (t == [47]) = false) (t12 : (t == [37]) = false) (t13 : (t == [38]) = false) (t14 : (t == [108, 101, 110]) = false) (t15 : (t == [110, 117, 109]) = false) (t16 : (t == [115, 116, 114]) = false) (t17 : (t == [108, 101, 102, 116]) = false) (t18 : (t == [114, 105, 103, 104, 116]) = false) (t19 : (t == [105, 115, 110, 117, 108, 108]) = false) (t20 : (t == [110, 118, 108]) = false) :
    Calls Tryz.prog 75 #[.agg (ncells op t vk vn vs A n c)] w (ShapeR w (-1) [3, -1, -1]) := by
  have x0 := (Whole.new w 26 (ncells op t vk vn vs A n c)).alloc (.cells #[.int .i64 0, .slice none 0 0] 114)
  unfold ncells at *
  obtain ⟨c0, c1, c2, c3, c4, c5⟩ := six_of x0
  clear x0
  skip
  go_enter Tryz.func75, Tryz.ntmps75
  go_wp2_with fail
  exact shape_fin rfl rfl rfl rfl
theorem shapeOf_any (op : Int) (t : List UInt8) (vk vn : Int) (vs : List UInt8) (A : Option Addr) (n c : Nat) (w : World) :
    Calls Tryz.prog 75 #[.agg (ncells op t vk vn vs A n c)] w (ShapeR w (Kd.sh op t).1 (Kd.sh op t).2) := by
  rw [Kd.sh]
  by_cases h3 : op = 3
  · rw [if_pos h3]; exact shape_neg op t vk vn vs A n c w h3
  rw [if_neg h3]
  by_cases h4 : op = 4
  · rw [if_pos h4]; exact shape_not op t vk vn vs A n c w h4
  rw [if_neg h4]
  have h3' : (op == 3) = false := by simpa using h3
  have h4' : (op == 4) = false := by simpa using h4
  rw [Kd.shT]
  cases t0 : t == [111, 114]
  case true => exact shape_0 op t vk vn vs A n c w h3' h4' t0
  rw [cond_false]
  cases t1 : t == [97, 110, 100]
  case true => exact shape_1 op t vk vn vs A n c w h3' h4' t0 t1
  rw [cond_false]
  cases t2 : t == [61]
  case true => exact shape_2 op t vk vn vs A n c w h3' h4' t0 t1 t2
  rw [cond_false]
  cases t3 : t == [33, 61]
  case true => exact shape_3 op t vk vn vs A n c w h3' h4' t0 t1 t2 t3
  rw [cond_false]
  cases t4 : t == [60]
  case true => exact shape_4 op t vk vn vs A n c w h3' h4' t0 t1 t2 t3 t4
  rw [cond_false]
  cases t5 : t == [60, 61]
  case true => exact shape_5 op t vk vn vs A n c w h3' h4' t0 t1 t2 t3 t4 t5
  rw [cond_false]
  cases t6 : t == [62]
  case true => exact shape_6 op t vk vn vs A n c w h3' h4' t0 t1 t2 t3 t4 t5 t6
  rw [cond_false]
  cases t7 : t == [62, 61]
  case true => exact shape_7 op t vk vn vs A n c w h3' h4' t0 t1 t2 t3 t4 t5 t6 t7
  rw [cond_false]
  cases t8 : t == [43]
  case true => exact shape_8 op t vk vn vs A n c w h3' h4' t0 t1 t2 t3 t4 t5 t6 t7 t8
  rw [cond_false]
  cases t9 : t == [45]
  case true => exact shape_9 op t vk vn vs A n c w h3' h4' t0 t1 t2 t3 t4 t5 t6 t7 t8 t9
  rw [cond_false]
  cases t10 : t == [42]
  case true => exact shape_10 op t vk vn vs A n c w h3' h4' t0 t1 t2 t3 t4 t5 t6 t7 t8 t9 t10
  rw [cond_false]
  cases t11 : t == [47]
  case true => exact shape_11 op t vk vn vs A n c w h3' h4' t0 t1 t2 t3 t4 t5 t6 t7 t8 t9 t10 t11
  rw [cond_false]
  cases t12 : t == [37]
  case true => exact shape_12 op t vk vn vs A n c w h3' h4' t0 t1 t2 t3 t4 t5 t6 t7 t8 t9 t10 t11 t12
  rw [cond_false]
  cases t13 : t == [38]
  case true => exact shape_13 op t vk vn vs A n c w h3' h4' t0 t1 t2 t3 t4 t5 t6 t7 t8 t9 t10 t11 t12 t13
  rw [cond_false]
  cases t14 : t == [108, 101, 110]
  case true => exact shape_14 op t vk vn vs A n c w h3' h4' t0 t1 t2 t3 t4 t5 t6 t7 t8 t9 t10 t11 t12 t13 t14
  rw [cond_false]
  cases t15 : t == [110, 117, 109]
  case true => exact shape_15 op t vk vn vs A n c w h3' h4' t0 t1 t2 t3 t4 t5 t6 t7 t8 t9 t10 t11 t12 t13 t14 t15
  rw [cond_false]
  cases t16 : t == [115, 116, 114]
  case true => exact shape_16 op t vk vn vs A n c w h3' h4' t0 t1 t2 t3 t4 t5 t6 t7 t8 t9 t10 t11 t12 t13 t14 t15 t16
  rw [cond_false]
  cases t17 : t == [108, 101, 102, 116]
  case true => exact shape_17 op t vk vn vs A n c w h3' h4' t0 t1 t2 t3 t4 t5 t6 t7 t8 t9 t10 t11 t12 t13 t14 t15 t16 t17
  rw [cond_false]
  cases t18 : t == [114, 105, 103, 104, 116]
  case true => exact shape_18 op t vk vn vs A n c w h3' h4' t0 t1 t2 t3 t4 t5 t6 t7 t8 t9 t10 t11 t12 t13 t14 t15 t16 t17 t18
  rw [cond_false]
  cases t19 : t == [105, 115, 110, 117, 108, 108]
  case true => exact shape_19 op t vk vn vs A n c w h3' h4' t0 t1 t2 t3 t4 t5 t6 t7 t8 t9 t10 t11 t12 t13 t14 t15 t16 t17 t18 t19
  rw [cond_false]
  cases t20 : t == [110, 118, 108]
  case true => exact shape_20 op t vk vn vs A n c w h3' h4' t0 t1 t2 t3 t4 t5 t6 t7 t8 t9 t10 t11 t12 t13 t14 t15 t16 t17 t18 t19 t20
  rw [cond_false]
  exact shape_if op t vk vn vs A n c w h3' h4' t0 t1 t2 t3 t4 t5 t6 t7 t8 t9 t10 t11 t12 t13 t14 t15 t16 t17 t18 t19 t20
end Go.Proofs.YteghhmomhlnccaaGreatDoor

/- over: the kind that a shape has over kids' kinds. -/
namespace Go.Proofs.YteghhmomhlnccaaGreatDoor
open Go.RowKit Go.Lib
set_option linter.unusedVariables false
set_option linter.unusedSimpArgs false
set_option maxRecDepth 100000
attribute [local go_sem ↓] eqVal neqVal
theorem Kd.over_none {g : Int} {l K : List Int} {i : Nat} (hi : i < K.length) (h : Kd.ovr l K (i + 1) = none) : Kd.over g l K = (0, 10) := by
  have := Kd.ovr_none h (K.length - (i + 1))
  rw [show i + 1 + (K.length - (i + 1)) = K.length by omega] at this
  rw [Kd.over, this]
theorem Kd.over_some {g : Int} {l K : List Int} {one : Int} (h : Kd.ovr l K K.length = some one) : Kd.over g l K = if g = -1 then (one, 0) else (g, 0) := by
  rw [Kd.over, h]
set_option maxHeartbeats 1000000 in
theorem over_any (g : Int) (l K : List Int) (hl : K.length ≤ l.length) (AS A : Option Addr) (c1 c2 : Nat) (w : World) (hA : IntsAt w AS l) (hK : IntsAt w A K) (hn : l.length ≤ 1000000) :
    Calls Tryz.prog 76 #[.agg #[.int .i64 g, .slice AS l.length c1], .slice A K.length c2] w fun e w' => e = .returned (.tuple #[.int .i64 (Kd.over g l K).1, .int .i64 (Kd.over g l K).2]) ∧ Below w.heap.size w w' := by
  have b0 : Below w.heap.size w (w.alloc (.cells #[.int .i64 g, .slice AS l.length c1] 114)) := (Below.refl _ _).alloc (Nat.le_refl _) _
  have k0 := Whole.new w 114 #[.int .i64 g, .slice AS l.length c1]
  have x0 := k0.cell 0
  have x1 := k0.cell 1
  simp only [List.getElem?_toArray, List.getElem?_cons_zero, List.getElem?_cons_succ] at x0 x1
  have HA := Lib.hid (hA.below b0)
  have HK := Lib.hid (hK.below b0)
  have B0 := Lib.hid b0
  obtain ⟨m, hm⟩ : ∃ m, K.length = m := ⟨_, rfl⟩
  obtain ⟨q, hq⟩ : ∃ q, l.length = q := ⟨_, rfl⟩
  have HM := Lib.hid hm
  have HQ := Lib.hid hq
  rw [hm] at hl ⊢
  rw [hq] at hl hn x1 ⊢
  rw [hq] at HA HK B0 x0
  have hm9 : (m : Int) ≤ 1000000 := by omega
  have hq9 : (q : Int) ≤ 1000000 := by omega
  clear hA hK b0 k0 hm hq
  go_enter Tryz.func76, Tryz.ntmps76
  go_wp2_with fail
  generalize w.alloc (.cells #[.int .i64 g, .slice AS q c1] 114) = W0 at *
  go_loopg [6, 7, 8, 9, 12] (m + 1) (fun j s6 s7 s8 s9 s12 wr => ∃ (i : Nat) (one : Int), i ≤ m ∧ m < i + j ∧ s12 = .int .i64 (i : Nat) ∧ s6 = .int .i64 one ∧ Hid (Kd.ovr l K i = some one) ∧ wr = W0)
  case atStart => exact ⟨0, 0, by omega, by omega, rfl, rfl, Lib.hid rfl, rfl⟩
  case round =>
    obtain ⟨i, one, hi, hj, rfl, rfl, HE, hwr⟩ := hrel
    subst hwr
    by_cases hlt : i < m
    · have hlt' : (i : Int) < (m : Int) := by omega
      have hlq' : (i : Int) < (q : Int) := by omega
      have hik : i < K.length := by rw [HM.out]; exact hlt
      have hil : i < l.length := by rw [HQ.out]; omega
      obtain ⟨b, o, rfl, hb, d0⟩ := HK.out i hik
      obtain ⟨b2, o2, rfl, hb2, d1⟩ := HA.out i hil
      obtain ⟨k, hk⟩ : ∃ k, K[i] = k := ⟨_, rfl⟩
      obtain ⟨ask, hask⟩ : ∃ k, l[i] = k := ⟨_, rfl⟩
      have HST : Hid (Kd.ovr l K (i + 1) = Kd.stepK ask k one) := Lib.hid (by
        rw [Kd.ovr, HE.out, ← hk, ← hask]
        simp [List.getD, List.getElem?_eq_getElem hik, List.getElem?_eq_getElem hil])
      have HIK := Lib.hid hik
      rw [hk] at d0
      rw [hask] at d1
      clear hk hask hik hil HE
      have FIN : ∀ (z asked : Int), Hid (Kd.stepK ask k one = if k = asked ∨ k = 0 then some z else none) → Hid ((decide (k = asked ∨ k = 0) = true → Kd.ovr l K (i + 1) = some z) ∧ (decide (k = asked ∨ k = 0) = false → Kd.over g l K = (0, 10))) := fun z asked h => Lib.hid ⟨fun hd => by
          rw [HST.out, h.out, if_pos (of_decide_eq_true hd)], fun hd => Kd.over_none HIK.out (by rw [HST.out, h.out, if_neg (of_decide_eq_false hd)])⟩
      by_cases hq : ask = -1
      · subst hq
        by_cases ho : one = 0
        · subst ho
          have F := FIN k k (Lib.hid (by rw [Kd.stepK, if_pos rfl, if_pos rfl]))
          have GO := Lib.hid (goes_any k k wr)
          generalize decide (k = k ∨ k = 0) = bd at *
          clear FIN HST
          cases bd
          · have HR := Lib.hid (F.out.2 rfl)
            clear F
            go_wp2_with fail
            refine GO.out.mono ?_
            rintro e w2 ⟨rfl, rfl⟩
            go_wp2_with fail
            refine bodyPost_ret (results_tmp2 Tryz.results76 _ _ _) rfl ⟨?_, B0.out⟩
            rw [HR.out]; rfl
          · have HR := Lib.hid (F.out.1 rfl)
            clear F
            go_wp2_with fail
            refine GO.out.mono ?_
            rintro e w2 ⟨rfl, rfl⟩
            go_wp2_with fail
            go_roundg (m - i)
            case measure => omega
            case rel => exact ⟨i + 1, k, by omega, by omega, by go_num, rfl, HR, rfl⟩
        · have ho' : (one == 0) = false := by simpa using ho
          have F := FIN one one (Lib.hid (by rw [Kd.stepK, if_pos rfl, if_neg ho]))
          have GO := Lib.hid (goes_any k one wr)
          generalize decide (k = one ∨ k = 0) = bd at *
          clear FIN HST ho
          cases bd
          · have HR := Lib.hid (F.out.2 rfl)
            clear F
            go_wp2_with fail
            refine GO.out.mono ?_
            rintro e w2 ⟨rfl, rfl⟩
            go_wp2_with fail
            refine bodyPost_ret (results_tmp2 Tryz.results76 _ _ _) rfl ⟨?_, B0.out⟩
            rw [HR.out]; rfl
          · have HR := Lib.hid (F.out.1 rfl)
            clear F
            go_wp2_with fail
            refine GO.out.mono ?_
            rintro e w2 ⟨rfl, rfl⟩
            go_wp2_with fail
            go_roundg (m - i)
            case measure => omega
            case rel => exact ⟨i + 1, one, by omega, by omega, by go_num, rfl, HR, rfl⟩
      · have hq' : (ask == -1) = false := by simpa using hq
        have F := FIN one ask (Lib.hid (by rw [Kd.stepK, if_neg hq]))
        have GO := Lib.hid (goes_any k ask wr)
        generalize decide (k = ask ∨ k = 0) = bd at *
        clear FIN HST hq
        cases bd
        · have HR := Lib.hid (F.out.2 rfl)
          clear F
          go_wp2_with fail
          refine GO.out.mono ?_
          rintro e w2 ⟨rfl, rfl⟩
          go_wp2_with fail
          refine bodyPost_ret (results_tmp2 Tryz.results76 _ _ _) rfl ⟨?_, B0.out⟩
          rw [HR.out]; rfl
        · have HR := Lib.hid (F.out.1 rfl)
          clear F
          go_wp2_with fail
          refine GO.out.mono ?_
          rintro e w2 ⟨rfl, rfl⟩
          go_wp2_with fail
          go_roundg (m - i)
          case measure => omega
          case rel => exact ⟨i + 1, one, by omega, by omega, by go_num, rfl, HR, rfl⟩
    · have hlt' : ¬ (i : Int) < (m : Int) := by omega
      have HS : Hid (Kd.over g l K = if g = -1 then (one, 0) else (g, 0)) := Lib.hid (Kd.over_some (by rw [HM.out, show m = i by omega]; exact HE.out))
      by_cases hg : g = -1
      · have HR : Hid (Kd.over g l K = (one, 0)) := Lib.hid (by rw [HS.out, if_pos hg])
        have hg' : (g == -1) = true := by simpa using hg
        clear HS hg HE
        go_wp2_with fail
        refine bodyPost_ret (results_tmp2 Tryz.results76 _ _ _) rfl ⟨?_, B0.out⟩
        rw [HR.out]; rfl
      · have HR : Hid (Kd.over g l K = (g, 0)) := Lib.hid (by rw [HS.out, if_neg hg])
        have hg' : (g == -1) = false := by simpa using hg
        clear HS hg HE
        go_wp2_with fail
        refine bodyPost_ret (results_tmp2 Tryz.results76 _ _ _) rfl ⟨?_, B0.out⟩
        rw [HR.out]; rfl
end Go.Proofs.YteghhmomhlnccaaGreatDoor

/- kindOf: the kind of a tree that is right; Kind. -/
namespace Go.Proofs.YteghhmomhlnccaaGreatDoor
open Go.RowKit Go.Lib
set_option linter.unusedVariables false
set_option linter.unusedSimpArgs false
set_option maxRecDepth 100000
attribute [local go_sem ↓] eqVal neqVal
open Ex (Tree)

theorem Kd.oness_get {p : Int → List UInt8 → Int → Int → List UInt8 → Nat → Bool} : ∀ {l : List Tree}, Ex.oness p l = true → ∀ i (h : i < l.length), Ex.ones p l[i] = true
  | [], h, i, hi => absurd hi (Nat.not_lt_zero _)
  | x :: l, h, 0, hi => by
    rw [Ex.oness, Bool.and_eq_true] at h
    exact h.1
  | x :: l, h, i + 1, hi => by
    rw [Ex.oness, Bool.and_eq_true] at h
    exact Kd.oness_get h.2 i (by simpa using hi)
theorem Kd.kds_take {C : List Col} {ks : List Tree} {i : Nat} (hi : i < ks.length) (h : (Kd.kds C (ks.take i)).1 = 0) (hk : (Kd.kd C ks[i]).2 = 0) : Kd.kds C (ks.take (i + 1)) = (0, (Kd.kds C (ks.take i)).2 ++ [(Kd.kd C ks[i]).1]) := by
  rw [List.take_succ_eq_append_getElem hi, Kd.kds_snoc C _ _ h, if_pos hk]
theorem Kd.kds_stop {C : List Col} {ks : List Tree} {i : Nat} (hi : i < ks.length) (h : (Kd.kds C (ks.take i)).1 = 0) (hk : (Kd.kd C ks[i]).2 ≠ 0) : (Kd.kds C ks).1 = (Kd.kd C ks[i]).2 := by
  have e : ks = ks.take i ++ ks[i] :: ks.drop (i + 1) := by rw [← List.drop_eq_getElem_cons hi, List.take_append_drop]
  have := Kd.kds_bad C ks[i] (ks.drop (i + 1)) (ks.take i) h hk
  rwa [← e] at this
set_option maxHeartbeats 2000000 in
theorem kindOf_all (C : List Col) (Ac : Option Addr) (cc : Nat) (hC : C.length ≤ 1000000) (N : Nat) : ∀ (T : Tree), Ex.count T ≤ N → Ex.count T ≤ 1000000 → Ex.ones nodeB T = true → ∀ (v : Value) (w : World), NodeV w v T → ColsAt w Ac C →
    Calls Tryz.prog 45 #[v, .slice Ac C.length cc] w fun e w' => e = .returned (.tuple #[.int .i64 (Kd.kd C T).1, .int .i64 (Kd.kd C T).2]) ∧ Below w.heap.size w w' := by
  induction N with
  | zero => intro T h; have := Ex.count_pos T; omega
  | succ N ih =>
    intro T hN hM hO v w h hA
    cases T with
    | node op t vk vn vs ks =>
    obtain ⟨A, c, rfl, hcc, hk⟩ := h
    rw [Ex.ones, Bool.and_eq_true] at hO
    have IH := fun i (hi : i < ks.length) => ih ks[i] (by have := count_lt (op := op) (t := t) (vk := vk) (vn := vn) (vs := vs) (List.getElem_mem hi); omega) (by have := count_lt (op := op) (t := t) (vk := vk) (vn := vn) (vs := vs) (List.getElem_mem hi); omega) (Kd.oness_get hO.2 i hi)
    have hks0 : Ex.counts ks + 1 = Ex.count (.node op t vk vn vs ks) := by rw [Ex.count]
    have hlen := Ex.length_counts ks
    have b0 : Below w.heap.size w (w.alloc (.cells (ncells op t vk vn vs A ks.length c) 26)) := (Below.refl _ _).alloc (Nat.le_refl _) _
    have x0 := Whole.new w 26 (ncells op t vk vn vs A ks.length c)
    have HNB := Lib.hid hO.1
    have HK0 := Lib.hid (hk.below b0)
    have HA0 := Lib.hid (hA.below b0)
    have HI := Lib.hid IH
    have B0 := Lib.hid b0
    have X0 := Lib.hid x0
    have hn9 : ks.length ≤ 1000000 := by omega
    clear ih IH hks0 hlen b0 hk hN hM hO hA
    obtain ⟨n, hn⟩ : ∃ n, ks.length = n := ⟨_, rfl⟩
    have HN := Lib.hid hn
    obtain ⟨m, hm⟩ : ∃ m, C.length = m := ⟨_, rfl⟩
    have HM := Lib.hid hm
    rw [hn] at HNB hn9 x0 X0 B0 HK0 HA0 ⊢
    rw [hm] at HI ⊢
    clear hn hm
    obtain ⟨c0, c1, c2, c3, c4, c5⟩ := six_of x0
    clear x0
    unfold ncells at *
    go_enter Tryz.func45, Tryz.ntmps45
    by_cases h1 : op = 1
    · have HR : Hid (Kd.kd C (.node op t vk vn vs ks) = (vk, 0)) := Lib.hid (by rw [Kd.kd, if_pos h1])
      have h1' : (op == 1) = true := by simpa using h1
      clear h1
      go_wp2_with fail
      refine bodyPost_ret (results_tmp2 Tryz.results45 _ _ _) rfl ⟨?_, B0.out⟩
      rw [HR.out]; rfl
    have h1' : (op == 1) = false := by simpa using h1
    by_cases h2 : op = 2
    · have HR : Hid (Kd.kd C (.node op t vk vn vs ks) = Kd.kn C t) := Lib.hid (by rw [Kd.kd, if_neg h1, if_pos h2]; rfl)
      have h2' : (op == 2) = true := by simpa using h2
      have KN := Lib.hid (kindOfName_any C t Ac cc _ HA0.out hC)
      rw [HM.out] at KN
      clear h1 h2
      go_wp2_with fail
      refine KN.out.mono ?_
      rintro e w2 ⟨rfl, hb⟩
      have B2 := Lib.hid (bstep B0.out hb)
      clear hb KN
      go_wp2_with fail
      refine bodyPost_ret (results_tmp2 Tryz.results45 _ _ _) rfl ⟨?_, B2.out⟩
      rw [HR.out]; rfl
    have h2' : (op == 2) = false := by simpa using h2
    have HR : Hid (Kd.kd C (.node op t vk vn vs ks) = if (Kd.kds C ks).1 = 0 then Kd.over (Kd.sh op t).1 (Kd.sh op t).2 (Kd.kds C ks).2 else (0, (Kd.kds C ks).1)) := Lib.hid (by rw [Kd.kd, if_neg h1, if_neg h2])
    have HSL : Hid ((Kd.sh op t).2.length = n) := Lib.hid (Kd.sh_len HNB.out h1 h2)
    clear h1 h2 HNB
    go_wp2_with fail
    obtain ⟨W0, hW0⟩ : ∃ W0, w.alloc (.cells #[.int .i64 op, .string (tx t), .int .i64 vk, .int .i64 vn, .string (tx vs), .slice A n c] 26) = W0 := ⟨_, rfl⟩
    rw [hW0] at HK0 HA0 B0 X0 c0 c1 c2 c3 c4 c5 ⊢
    clear hW0
    go_loopg [6, 8, 9, 10, 29] (n + 1) (fun j s6 s8 s9 s10 s29 wr => ∃ (i : Nat), i ≤ n ∧ n < i + j ∧ s29 = .int .i64 (i : Nat) ∧ Hid ((Kd.kds C (ks.take i)).1 = 0) ∧ Hid (RowI wr W0.heap.size s6 (Kd.kds C (ks.take i)).2) ∧ Hid (Below W0.heap.size W0 wr))
    case atStart => exact ⟨0, by omega, by omega, rfl, Lib.hid rfl, Lib.hid (RowI.nil _ _), Lib.hid (Below.refl _ _)⟩
    case round =>
      obtain ⟨i, hi, hj, rfl, HE, HRow, HB⟩ := hrel
      by_cases hlt : i < n
      · have hlt' : (i : Int) < (n : Int) := by omega
        have hik : i < ks.length := by rw [HN.out]; exact hlt
        clear c0 c1 c2 c3 c4 c5
        obtain ⟨b, o, op', t', vk', vn', vs', l', A', c', rfl, hx, d0, d1, d2, d3, d4, d5, hv⟩ := (HK0.out.below HB.out).kid i hik
        have b1 : Below wr.heap.size wr (wr.alloc (.cells (ncells op' t' vk' vn' vs' A' l'.length c') 26)) := (Below.refl _ _).alloc (Nat.le_refl _) _
        have HCC := Lib.hid (HI.out i hik _ _ (hv.below b1) (HA0.out.below (bstep HB.out b1)))
        have B1 := Lib.hid (bstep HB.out b1)
        have R1 := Lib.hid (HRow.out.below b1)
        have x1 := six_of (Whole.new wr 26 (ncells op' t' vk' vn' vs' A' l'.length c'))
        have hx1 : wr.heap.size < (wr.alloc (.cells (ncells op' t' vk' vn' vs' A' l'.length c') 26)).heap.size := by simp
        obtain ⟨y, hy⟩ : ∃ y, ks[i] = y := ⟨_, rfl⟩
        have HIK := Lib.hid hik
        have HTK : Hid ((Kd.kd C y).2 = 0 → Kd.kds C (ks.take (i + 1)) = (0, (Kd.kds C (ks.take i)).2 ++ [(Kd.kd C y).1])) := Lib.hid (fun h => by
          rw [← hy] at h ⊢; exact Kd.kds_take hik HE.out h)
        have HST : Hid ((Kd.kd C y).2 ≠ 0 → (Kd.kds C ks).1 = (Kd.kd C y).2) := Lib.hid (fun h => by
          rw [← hy] at h ⊢; exact Kd.kds_stop hik HE.out h)
        have HKL : Hid ((Kd.kds C (ks.take i)).2.length = i) := Lib.hid (by rw [Kd.kds_len C _ HE.out, List.length_take]; omega)
        rw [hy] at HCC
        obtain ⟨nl, hnl⟩ : ∃ nl, l'.length = nl := ⟨_, rfl⟩
        rw [hnl] at d5 b1 HCC B1 R1 x1 hx1
        unfold ncells at *
        obtain ⟨e0, e1, e2, e3, e4, e5⟩ := x1
        clear hv hy hnl b1 HI HK0
        go_wp2_with fail
        refine HCC.out.mono ?_
        rintro e w2 ⟨rfl, hb⟩
        have B2 := Lib.hid (bstep B1.out hb)
        have R2 := Lib.hid (R1.out.below hb)
        clear hb HCC B1 R1 d0 d1 d2 d3 d4 d5 e0 e1 e2 e3 e4 e5 HRow
        obtain ⟨k1, hk1⟩ : ∃ k, (Kd.kd C y).1 = k := ⟨_, rfl⟩
        obtain ⟨k2, hk2⟩ : ∃ k, (Kd.kd C y).2 = k := ⟨_, rfl⟩
        rw [hk1, hk2] at HTK
        rw [hk2] at HST
        rw [hk1, hk2]
        clear hk1 hk2
        by_cases hk : k2 = 0
        · subst hk
          have HT := Lib.hid (HTK.out rfl)
          obtain ⟨v5, w5, hrun, r5, T5, o5⟩ := append_int R2.out k1 (by have := HKL.out; omega) B2.out.size
          have HE5 : Hid ((Kd.kds C (ks.take (i + 1))).1 = 0) := Lib.hid (by rw [HT.out])
          have HR5 : Hid (RowI w5 W0.heap.size v5 (Kd.kds C (ks.take (i + 1))).2) := Lib.hid (by rw [HT.out]; exact r5)
          have B5 : Hid (Below W0.heap.size W0 w5) := Lib.hid (T5.fresh B2.out (fun k hk => (R2.out.block k (by simpa using hk)).1))
          have HRUN := Lib.hid hrun
          clear hrun r5 T5 o5 HT HTK HST
          go_wp2_with (at_builtin; refine Lib.wpList_append_run _ rfl (.tmp 42) (.tmp 44) 65 65 rfl _ _ rfl rfl _ _ HRUN.out ?_)
          go_roundg (n - i)
          case measure => omega
          case rel => exact ⟨i + 1, by omega, by omega, by go_num, HE5, HR5, B5⟩
        · have hk' : (k2 != 0) = true := by simpa using hk
          have HF : Hid (Kd.kd C (.node op t vk vn vs ks) = (0, k2)) := Lib.hid (by
            have h0 := HST.out hk
            rw [HR.out, if_neg (by rw [h0]; exact hk), h0])
          have BF := Lib.hid (B0.out.trans (B2.out.mono B0.out.size))
          clear HST HTK hk
          go_wp2_with fail
          refine bodyPost_ret (results_tmp2 Tryz.results45 _ _ _) rfl ⟨?_, BF.out⟩
          rw [HF.out]; rfl
      · have hlt' : ¬ (i : Int) < (n : Int) := by omega
        have hin : ks.take i = ks := List.take_of_length_le (by have := HN.out; omega)
        have HE2 : Hid ((Kd.kds C ks).1 = 0) := Lib.hid (by rw [← hin]; exact HE.out)
        have HR2 := HRow.out
        rw [hin] at HR2
        have HKL : Hid ((Kd.kds C ks).2.length = n) := Lib.hid (by rw [Kd.kds_len C _ HE2.out, HN.out])
        obtain ⟨A6, c6, rfl, -, -, hI6⟩ := HR2.shape
        have x2 := six_of (X0.out.below HB.out X0.out.lt)
        have HF : Hid (Kd.kd C (.node op t vk vn vs ks) = Kd.over (Kd.sh op t).1 (Kd.sh op t).2 (Kd.kds C ks).2) := Lib.hid (by
          rw [HR.out, if_pos HE2.out])
        have SH := Lib.hid (shapeOf_any op t vk vn vs A n c wr)
        have HI6 := Lib.hid hI6
        unfold ncells at *
        clear c0 c1 c2 c3 c4 c5 hin HE HRow HI hI6 HK0 HR HR2
        obtain ⟨c0, c1, c2, c3, c4, c5⟩ := x2
        obtain ⟨kl, hkl⟩ : ∃ kl, (Kd.kds C ks).2.length = kl := ⟨_, rfl⟩
        have HKK := Lib.hid hkl
        rw [hkl]
        clear hkl
        go_wp2_with fail
        refine SH.out.mono ?_
        rintro e w3 ⟨A7, rfl, hI7, hb3⟩
        have OV := Lib.hid (over_any (Kd.sh op t).1 (Kd.sh op t).2 (Kd.kds C ks).2 (by rw [HKL.out, HSL.out]; exact Nat.le_refl _) A7 A6 (Kd.sh op t).2.length c6 w3 hI7 (HI6.out.below hb3) (by rw [HSL.out]; exact hn9))
        have B3 := Lib.hid (bstep HB.out hb3)
        rw [HKK.out] at OV
        generalize (Kd.sh op t).2.length = sl at *
        clear hI7 hb3 SH c0 c1 c2 c3 c4 c5
        go_wp2_with fail
        refine OV.out.mono ?_
        rintro e w4 ⟨rfl, hb4⟩
        have BF := Lib.hid (B0.out.trans ((bstep B3.out hb4).mono B0.out.size))
        clear hb4 OV
        go_wp2_with fail
        refine bodyPost_ret (results_tmp2 Tryz.results45 _ _ _) rfl ⟨?_, BF.out⟩
        rw [HF.out]; rfl
end Go.Proofs.YteghhmomhlnccaaGreatDoor

/- Kind. -/
namespace Go.Proofs.YteghhmomhlnccaaGreatDoor
open Go.RowKit Go.Lib
set_option linter.unusedVariables false
set_option linter.unusedSimpArgs false
set_option maxRecDepth 100000
open Ex (Tree)
/-- what Kind tells. -/
def Kd.kK (C : List Col) (T : Tree) : Int × Int := if Ex.rightB nodeB T = true ∧ Kd.goodB C = true then Kd.kd C T else (0, 1)
theorem Kd.kK_ok {C : List Col} {T : Tree} (h : (Kd.kK C T).2 = 0) : Ex.rightB nodeB T = true ∧ Kd.goodB C = true ∧ Kd.kK C T = Kd.kd C T ∧ (Kd.kd C T).2 = 0 := by
  rw [Kd.kK] at h ⊢
  split at h
  · rename_i h1; rw [if_pos h1]; exact ⟨h1.1, h1.2, rfl, h⟩
  · exact absurd h (by decide)
set_option maxHeartbeats 1000000 in
theorem kind_any (C : List Col) (Ac : Option Addr) (cc : Nat) (hC : C.length ≤ 1000000) (hFC : fitC C) (T : Tree) (hM : Ex.count T ≤ 1000000) (hf : fitT T) (v : Value) (w : World) (h : NodeV w v T) (hA : ColsAt w Ac C) (a : Addr) (mx : Int) (hv : Env w a mx) :
    Calls Tryz.prog 18 #[v, .slice Ac C.length cc] w fun e w' => e = .returned (.tuple #[.int .i64 (Kd.kK C T).1, .int .i64 (Kd.kK C T).2]) ∧ Below w.heap.size w w' := by
  obtain ⟨op, t, vk, vn, vs, n, A, c, rfl⟩ : ∃ op t vk vn vs n A c, v = .agg (ncells op t vk vn vs A n c) := by
    cases T with
    | node op t vk vn vs ks => obtain ⟨A, c, h1, -⟩ := h; exact ⟨_, _, _, _, _, _, _, _, h1⟩
  have b0 : Below w.heap.size w (w.alloc (.cells (ncells op t vk vn vs A n c) 26)) := (Below.refl _ _).alloc (Nat.le_refl _) _
  have x0 := Whole.new w 26 (ncells op t vk vn vs A n c)
  have X0 := Lib.hid x0
  obtain ⟨c0, c1, c2, c3, c4, c5⟩ := six_of x0
  have H0 := Lib.hid (h.below b0)
  have HA0 := Lib.hid (hA.below b0)
  have B0 := Lib.hid b0
  have HV0 := Lib.hid (hv.below b0)
  have RT := Lib.hid (callsIn_wide.1 (right_in T _ _ H0.out hf (by have := depth_count T; omega) a mx HV0.out))
  have HFC := Lib.hid hFC
  have HM := Lib.hid hM
  clear b0 x0 h hA hv hFC hf hM
  unfold ncells at *
  obtain ⟨m, hm⟩ : ∃ m, C.length = m := ⟨_, rfl⟩
  have HCM := Lib.hid hm
  rw [hm] at hC ⊢
  clear hm
  go_enter Tryz.func18, Tryz.ntmps18
  go_wp2_with fail
  generalize w.alloc (.cells #[.int .i64 op, .string (tx t), .int .i64 vk, .int .i64 vn, .string (tx vs), .slice A n c] 26) = W0 at *
  refine RT.out.mono ?_
  rintro e w1 ⟨rfl, hb1⟩
  have B1 := Lib.hid (bstep B0.out hb1)
  have x1 := six_of (X0.out.below hb1 X0.out.lt)
  have N1 := Lib.hid (H0.out.below hb1)
  have A1 := Lib.hid (HA0.out.below hb1)
  have V1 := Lib.hid (HV0.out.below hb1)
  have X1 := Lib.hid (X0.out.below hb1 X0.out.lt)
  obtain ⟨bt, hbt⟩ : ∃ b, Ex.rightB nodeB T = b := ⟨_, rfl⟩
  have HBT := Lib.hid hbt
  rw [hbt]
  clear hb1 RT hbt c0 c1 c2 c3 c4 c5 H0 HA0 HV0 X0
  obtain ⟨c0, c1, c2, c3, c4, c5⟩ := x1
  cases bt
  · have HR : Hid (Kd.kK C T = (0, 1)) := Lib.hid (by rw [Kd.kK, if_neg (by rw [HBT.out]; simp)])
    go_wp2_with fail
    refine bodyPost_ret (results_tmp2 Tryz.results18 _ _ _) rfl ⟨?_, B1.out⟩
    rw [HR.out]; rfl
  · have CL := Lib.hid (columns_any C Ac cc w1 A1.out HFC.out (by rw [HCM.out]; exact hC) a mx V1.out)
    rw [HCM.out] at CL
    obtain ⟨bc, hbc⟩ : ∃ b, Kd.goodB C = b := ⟨_, rfl⟩
    have HBC := Lib.hid hbc
    rw [hbc] at CL
    clear hbc
    go_wp2_with fail
    refine CL.out.mono ?_
    rintro e w2 ⟨rfl, hb2⟩
    have B2 := Lib.hid (bstep B1.out hb2)
    have x2 := six_of (X1.out.below hb2 X1.out.lt)
    have N2 := Lib.hid (N1.out.below hb2)
    have A2 := Lib.hid (A1.out.below hb2)
    clear hb2 CL c0 c1 c2 c3 c4 c5 N1 A1 V1 X1
    obtain ⟨c0, c1, c2, c3, c4, c5⟩ := x2
    cases bc
    · have HR : Hid (Kd.kK C T = (0, 1)) := Lib.hid (by rw [Kd.kK, if_neg (by rw [HBC.out]; simp)])
      go_wp2_with fail
      refine bodyPost_ret (results_tmp2 Tryz.results18 _ _ _) rfl ⟨?_, B2.out⟩
      rw [HR.out]; rfl
    · have HR : Hid (Kd.kK C T = Kd.kd C T) := Lib.hid (by rw [Kd.kK, if_pos ⟨HBT.out, HBC.out⟩])
      have HO : Ex.ones nodeB T = true := by
        have := HBT.out
        rw [Ex.rightB, Bool.and_eq_true, Bool.and_eq_true] at this
        exact this.2.2
      have KO := Lib.hid (kindOf_all C Ac cc (by rw [HCM.out]; exact hC) _ T (Nat.le_refl _) HM.out HO _ w2 N2.out A2.out)
      rw [HCM.out] at KO
      clear HO
      go_wp2_with fail
      refine KO.out.mono ?_
      rintro e w3 ⟨rfl, hb3⟩
      have B3 := Lib.hid (bstep B2.out hb3)
      clear hb3 KO
      go_wp2_with fail
      refine bodyPost_ret (results_tmp2 Tryz.results18 _ _ _) rfl ⟨?_, B3.out⟩
      rw [HR.out]; rfl
end Go.Proofs.YteghhmomhlnccaaGreatDoor
