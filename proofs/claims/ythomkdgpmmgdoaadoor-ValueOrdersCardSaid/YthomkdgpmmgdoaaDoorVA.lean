/- ValueOrders walked. -/
import Derived.Test.YthomkdgpmmgdoaaDoorV9
namespace Go.Proofs.YthomkdgpmmgdoaaDoor
open Go.RowKit
attribute [local go_sem ↓] eqVal neqVal

/-- three values in their blocks. -/
structure Three (w W : World) (k n : Int) (s : ByteArray) (k' n' : Int) (s' : ByteArray) (l m : Int) (t : ByteArray) : Prop where
  a : Holds3 W w.heap.size k n s
  b : Holds3 W (w.heap.size + 1) k' n' s'
  c : Holds3 W (w.heap.size + 1 + 1) l m t
  bel : Below w.heap.size w W
theorem Three.start (w : World) (k n : Int) (s : ByteArray) (k' n' : Int) (s' : ByteArray) (l m : Int) (t : ByteArray) :
    Three w (((w.alloc (.cells #[.int .i64 k, .int .i64 n, .string s] 23)).alloc (.cells #[.int .i64 k', .int .i64 n', .string s'] 23)).alloc (.cells #[.int .i64 l, .int .i64 m, .string t] 23)) k n s k' n' s' l m t := by
  refine ⟨((Holds3.new w k n s _).alloc _).alloc _, ?_, ?_, (((Below.refl _ _).alloc (Nat.le_refl _) _).alloc (by simp) _).alloc (by simp; omega) _⟩
  · have := (Holds3.new (w.alloc (.cells #[.int .i64 k, .int .i64 n, .string s] 23)) k' n' s' 23).alloc (.cells #[.int .i64 l, .int .i64 m, .string t] 23)
    simpa only [alloc_size] using this
  · have := Holds3.new ((w.alloc (.cells #[.int .i64 k, .int .i64 n, .string s] 23)).alloc (.cells #[.int .i64 k', .int .i64 n', .string s'] 23)) l m t 23
    simpa only [alloc_size] using this
theorem Three.step {w W W' : World} {k n : Int} {s : ByteArray} {k' n' : Int} {s' : ByteArray} {l m : Int} {t : ByteArray} (h : Three w W k n s k' n' s' l m t) (hb : Below W.heap.size W W') : Three w W' k n s k' n' s' l m t :=
  ⟨h.a.below hb h.a.lt, h.b.below hb h.b.lt, h.c.below hb h.c.lt, bstep h.bel hb⟩
theorem hold6 {W W' : World} {g g' : Nat} {k n : Int} {s : ByteArray} {k' n' : Int} {s' : ByteArray}
    (h : W.cell? ⟨g, 0, none⟩ = some (.int .i64 k) ∧ W.cell? ⟨g, 1, none⟩ = some (.int .i64 n) ∧ W.cell? ⟨g, 2, none⟩ = some (.string s) ∧ W.cell? ⟨g', 0, none⟩ = some (.int .i64 k') ∧ W.cell? ⟨g', 1, none⟩ = some (.int .i64 n') ∧ W.cell? ⟨g', 2, none⟩ = some (.string s'))
    (hb : Below W.heap.size W W') : W'.cell? ⟨g, 0, none⟩ = some (.int .i64 k) ∧ W'.cell? ⟨g, 1, none⟩ = some (.int .i64 n) ∧ W'.cell? ⟨g, 2, none⟩ = some (.string s) ∧ W'.cell? ⟨g', 0, none⟩ = some (.int .i64 k') ∧ W'.cell? ⟨g', 1, none⟩ = some (.int .i64 n') ∧ W'.cell? ⟨g', 2, none⟩ = some (.string s') := by
  obtain ⟨h1, h2, h3, h4⟩ := h
  have a := Holds3.below (⟨h1, h2, h3⟩ : Holds3 W g k n s) hb (Holds3.lt ⟨h1, h2, h3⟩)
  have b := Holds3.below (h4 : Holds3 W g' k' n' s') hb (Holds3.lt h4)
  exact ⟨a.1, a.2.1, a.2.2, b.1, b.2.1, b.2.2⟩
theorem ord_range (k n : Int) (s : ByteArray) (k' n' : Int) (s' : ByteArray) : ord k n s k' n' s' = -1 ∨ ord k n s k' n' s' = 0 ∨ ord k n s k' n' s' = 1 := by
  have h1 : ∀ a b, cmpI a b = -1 ∨ cmpI a b = 0 ∨ cmpI a b = 1 := by intro a b; unfold cmpI; split <;> (try split) <;> simp
  have h2 : ∀ a b, cmpS a b = -1 ∨ cmpS a b = 0 ∨ cmpS a b = 1 := by intro a b; unfold cmpS; split <;> (try split) <;> simp
  unfold ord or3
  split
  · split
    · exact h2 _ _
    · exact h1 _ _
  · exact h1 _ _

set_option maxRecDepth 100000 in
set_option maxHeartbeats 1000000 in
theorem orders_big1 (k n : Int) (s : ByteArray) (k' n' : Int) (s' : ByteArray) (l m : Int) (t : ByteArray) (w : World) (hs : s.size ≤ 9223372036854775807) (hs' : s'.size ≤ 9223372036854775807) (ht : t.size ≤ 9223372036854775807) (x : Int) (hm : MaxAt w x) (h1 : (1000 : Int) < s.size) :
    Calls Tryd.prog 4 #[val k n s, val k' n' s', val l m t] w fun e w' => e = .returned (.bool true) ∧ Below w.heap.size w w' := by
  have HM := Lib.hid hm
  clear hm
  go_enter Tryd.func4, Tryd.ntmps4
  go_wp2_with fail
  have T0 := Lib.hid (Three.start w k n s k' n' s' l m t)
  refine (awake_ok _ x (HM.out.below T0.out.bel)).mono ?_
  rintro e w1 ⟨rfl, hb1⟩
  have T1 := Lib.hid (T0.out.step hb1)
  clear hb1 T0
  obtain ⟨⟨c1, c2, c3⟩, ⟨c4, c5, c6⟩, ⟨c7, c8, c9⟩, -⟩ := T1.out
  go_wp2
  go_ret
  exact ⟨rfl, T1.out.bel⟩

set_option maxRecDepth 100000 in
set_option maxHeartbeats 1000000 in
theorem orders_big2 (k n : Int) (s : ByteArray) (k' n' : Int) (s' : ByteArray) (l m : Int) (t : ByteArray) (w : World) (hs : s.size ≤ 9223372036854775807) (hs' : s'.size ≤ 9223372036854775807) (ht : t.size ≤ 9223372036854775807) (x : Int) (hm : MaxAt w x) (h1 : ¬ (1000 : Int) < s.size) (h2 : (1000 : Int) < s'.size) :
    Calls Tryd.prog 4 #[val k n s, val k' n' s', val l m t] w fun e w' => e = .returned (.bool true) ∧ Below w.heap.size w w' := by
  have d1 : decide ((1000 : Int) < s.size) = false := decide_eq_false h1
  have HM := Lib.hid hm
  clear hm
  go_enter Tryd.func4, Tryd.ntmps4
  go_wp2_with fail
  have T0 := Lib.hid (Three.start w k n s k' n' s' l m t)
  refine (awake_ok _ x (HM.out.below T0.out.bel)).mono ?_
  rintro e w1 ⟨rfl, hb1⟩
  have T1 := Lib.hid (T0.out.step hb1)
  clear hb1 T0
  obtain ⟨⟨c1, c2, c3⟩, ⟨c4, c5, c6⟩, ⟨c7, c8, c9⟩, -⟩ := T1.out
  go_wp2
  go_ret
  exact ⟨rfl, T1.out.bel⟩

set_option maxRecDepth 100000 in
set_option maxHeartbeats 1000000 in
theorem orders_big3 (k n : Int) (s : ByteArray) (k' n' : Int) (s' : ByteArray) (l m : Int) (t : ByteArray) (w : World) (hs : s.size ≤ 9223372036854775807) (hs' : s'.size ≤ 9223372036854775807) (ht : t.size ≤ 9223372036854775807) (x : Int) (hm : MaxAt w x) (h1 : ¬ (1000 : Int) < s.size) (h2 : ¬ (1000 : Int) < s'.size) (h3 : (1000 : Int) < t.size) :
    Calls Tryd.prog 4 #[val k n s, val k' n' s', val l m t] w fun e w' => e = .returned (.bool true) ∧ Below w.heap.size w w' := by
  have d1 : decide ((1000 : Int) < s.size) = false := decide_eq_false h1
  have d2 : decide ((1000 : Int) < s'.size) = false := decide_eq_false h2
  have HM := Lib.hid hm
  clear hm
  go_enter Tryd.func4, Tryd.ntmps4
  go_wp2_with fail
  have T0 := Lib.hid (Three.start w k n s k' n' s' l m t)
  refine (awake_ok _ x (HM.out.below T0.out.bel)).mono ?_
  rintro e w1 ⟨rfl, hb1⟩
  have T1 := Lib.hid (T0.out.step hb1)
  clear hb1 T0
  obtain ⟨⟨c1, c2, c3⟩, ⟨c4, c5, c6⟩, ⟨c7, c8, c9⟩, -⟩ := T1.out
  go_wp2
  go_ret
  exact ⟨rfl, T1.out.bel⟩

set_option maxRecDepth 100000 in
set_option maxHeartbeats 1000000 in
theorem orders_no1 (k n : Int) (s : ByteArray) (k' n' : Int) (s' : ByteArray) (l m : Int) (t : ByteArray) (w : World) (hs : s.size ≤ 9223372036854775807) (hs' : s'.size ≤ 9223372036854775807) (ht : t.size ≤ 9223372036854775807) (x : Int) (hm : MaxAt w x) (h1 : ¬ (1000 : Int) < s.size) (h2 : ¬ (1000 : Int) < s'.size) (h3 : ¬ (1000 : Int) < t.size) (hp : plainB k n s = false) (hc1 : cmpV k n s k' n' s' = 0) (hc2 : cmpV k' n' s' k n s = 0) :
    Calls Tryd.prog 4 #[val k n s, val k' n' s', val l m t] w fun e w' => e = .returned (.bool true) ∧ Below w.heap.size w w' := by
  have d1 : decide ((1000 : Int) < s.size) = false := decide_eq_false h1
  have d2 : decide ((1000 : Int) < s'.size) = false := decide_eq_false h2
  have d3 : decide ((1000 : Int) < t.size) = false := decide_eq_false h3
  have C1 := Lib.hid (fun w => hc1 ▸ compare_any k n s k' n' s' w hs hs')
  have C2 := Lib.hid (fun w => hc2 ▸ compare_any k' n' s' k n s w hs' hs)
  clear hc1 hc2
  have R1 := Lib.hid (fun w => hp ▸ refplain_any k n s w)
  clear hp
  have HM := Lib.hid hm
  clear hm
  go_enter Tryd.func4, Tryd.ntmps4
  go_wp2_with fail
  have T0 := Lib.hid (Three.start w k n s k' n' s' l m t)
  refine (awake_ok _ x (HM.out.below T0.out.bel)).mono ?_
  rintro e w1 ⟨rfl, hb1⟩
  have T1 := Lib.hid (T0.out.step hb1)
  clear hb1 T0
  obtain ⟨⟨c1, c2, c3⟩, ⟨c4, c5, c6⟩, ⟨c7, c8, c9⟩, -⟩ := T1.out
  go_wp2_with fail
  go_region_held3 (fun w' => w'.cell? ⟨w.heap.size, 0, none⟩ = some (.int .i64 k) ∧ w'.cell? ⟨w.heap.size, 1, none⟩ = some (.int .i64 n) ∧ w'.cell? ⟨w.heap.size, 2, none⟩ = some (.string s) ∧ w'.cell? ⟨w.heap.size + 1, 0, none⟩ = some (.int .i64 k') ∧ w'.cell? ⟨w.heap.size + 1, 1, none⟩ = some (.int .i64 n') ∧ w'.cell? ⟨w.heap.size + 1, 2, none⟩ = some (.string s')) (first | go_keep | (exact hold6 (by assumption) hb2) | (exact hold6 (by assumption) hb3))
    (first
      | (go_at_call 16; (with_reducible refine (C1.out _).mono ?_); rintro e w2 ⟨rfl, hb2⟩)
      | (go_at_call 16; (with_reducible refine (C2.out _).mono ?_); rintro e w3 ⟨rfl, hb3⟩))
  have T3 := Lib.hid ((T1.out.step (bdrew1 hb2)).step hb3)
  clear hb2 hb3 T1
  obtain ⟨⟨c1, c2, c3⟩, ⟨c4, c5, c6⟩, ⟨c7, c8, c9⟩, -⟩ := T3.out
  go_wp2_with fail
  refine (R1.out _).mono ?_
  rintro e w4 ⟨rfl, hb4⟩
  have T4 := Lib.hid (T3.out.step hb4)
  clear hb4 T3
  obtain ⟨⟨c1, c2, c3⟩, ⟨c4, c5, c6⟩, ⟨c7, c8, c9⟩, -⟩ := T4.out
  go_wp2_with fail
  go_ret
  exact ⟨rfl, T4.out.bel⟩

set_option maxRecDepth 100000 in
set_option maxHeartbeats 1000000 in
theorem orders_no2 (k n : Int) (s : ByteArray) (k' n' : Int) (s' : ByteArray) (l m : Int) (t : ByteArray) (w : World) (hs : s.size ≤ 9223372036854775807) (hs' : s'.size ≤ 9223372036854775807) (ht : t.size ≤ 9223372036854775807) (x : Int) (hm : MaxAt w x) (h1 : ¬ (1000 : Int) < s.size) (h2 : ¬ (1000 : Int) < s'.size) (h3 : ¬ (1000 : Int) < t.size) (hp : plainB k n s = true) (hp' : plainB k' n' s' = false) (hc1 : cmpV k n s k' n' s' = 0) (hc2 : cmpV k' n' s' k n s = 0) :
    Calls Tryd.prog 4 #[val k n s, val k' n' s', val l m t] w fun e w' => e = .returned (.bool true) ∧ Below w.heap.size w w' := by
  have d1 : decide ((1000 : Int) < s.size) = false := decide_eq_false h1
  have d2 : decide ((1000 : Int) < s'.size) = false := decide_eq_false h2
  have d3 : decide ((1000 : Int) < t.size) = false := decide_eq_false h3
  have C1 := Lib.hid (fun w => hc1 ▸ compare_any k n s k' n' s' w hs hs')
  have C2 := Lib.hid (fun w => hc2 ▸ compare_any k' n' s' k n s w hs' hs)
  clear hc1 hc2
  have R1 := Lib.hid (fun w => hp ▸ refplain_any k n s w)
  have R2 := Lib.hid (fun w => hp' ▸ refplain_any k' n' s' w)
  clear hp hp'
  have HM := Lib.hid hm
  clear hm
  go_enter Tryd.func4, Tryd.ntmps4
  go_wp2_with fail
  have T0 := Lib.hid (Three.start w k n s k' n' s' l m t)
  refine (awake_ok _ x (HM.out.below T0.out.bel)).mono ?_
  rintro e w1 ⟨rfl, hb1⟩
  have T1 := Lib.hid (T0.out.step hb1)
  clear hb1 T0
  obtain ⟨⟨c1, c2, c3⟩, ⟨c4, c5, c6⟩, ⟨c7, c8, c9⟩, -⟩ := T1.out
  go_wp2_with fail
  go_region_held3 (fun w' => w'.cell? ⟨w.heap.size, 0, none⟩ = some (.int .i64 k) ∧ w'.cell? ⟨w.heap.size, 1, none⟩ = some (.int .i64 n) ∧ w'.cell? ⟨w.heap.size, 2, none⟩ = some (.string s) ∧ w'.cell? ⟨w.heap.size + 1, 0, none⟩ = some (.int .i64 k') ∧ w'.cell? ⟨w.heap.size + 1, 1, none⟩ = some (.int .i64 n') ∧ w'.cell? ⟨w.heap.size + 1, 2, none⟩ = some (.string s')) (first | go_keep | (exact hold6 (by assumption) hb2) | (exact hold6 (by assumption) hb3))
    (first
      | (go_at_call 16; (with_reducible refine (C1.out _).mono ?_); rintro e w2 ⟨rfl, hb2⟩)
      | (go_at_call 16; (with_reducible refine (C2.out _).mono ?_); rintro e w3 ⟨rfl, hb3⟩))
  have T3 := Lib.hid ((T1.out.step (bdrew1 hb2)).step hb3)
  clear hb2 hb3 T1
  obtain ⟨⟨c1, c2, c3⟩, ⟨c4, c5, c6⟩, ⟨c7, c8, c9⟩, -⟩ := T3.out
  go_wp2_with fail
  refine (R1.out _).mono ?_
  rintro e w4 ⟨rfl, hb4⟩
  have T4 := Lib.hid (T3.out.step hb4)
  clear hb4 T3
  obtain ⟨⟨c1, c2, c3⟩, ⟨c4, c5, c6⟩, ⟨c7, c8, c9⟩, -⟩ := T4.out
  go_wp2_with fail
  refine (R2.out _).mono ?_
  rintro e w5 ⟨rfl, hb5⟩
  have T5 := Lib.hid (T4.out.step hb5)
  clear hb5 T4
  obtain ⟨⟨c1, c2, c3⟩, ⟨c4, c5, c6⟩, ⟨c7, c8, c9⟩, -⟩ := T5.out
  go_wp2_with fail
  go_ret
  exact ⟨rfl, T5.out.bel⟩

set_option maxRecDepth 100000 in
set_option maxHeartbeats 1000000 in
theorem orders_lt (k n : Int) (s : ByteArray) (k' n' : Int) (s' : ByteArray) (l m : Int) (t : ByteArray) (w : World) (hs : s.size ≤ 9223372036854775807) (hs' : s'.size ≤ 9223372036854775807) (ht : t.size ≤ 9223372036854775807) (x : Int) (hm : MaxAt w x) (h1 : ¬ (1000 : Int) < s.size) (h2 : ¬ (1000 : Int) < s'.size) (h3 : ¬ (1000 : Int) < t.size) (hp : plainB k n s = true) (hp' : plainB k' n' s' = true) (hc1 : cmpV k n s k' n' s' = (-1)) (hc2 : cmpV k' n' s' k n s = 1) (hb : befB k n s k' n' s' = true) (hb' : befB k' n' s' k n s = false) (hsm : same k n s k' n' s' = false) (htr : cmpV k' n' s' l m t ≤ 0 → plainB l m t = true → cmpV k n s l m t ≤ 0) :
    Calls Tryd.prog 4 #[val k n s, val k' n' s', val l m t] w fun e w' => e = .returned (.bool true) ∧ Below w.heap.size w w' := by
  have d1 : decide ((1000 : Int) < s.size) = false := decide_eq_false h1
  have d2 : decide ((1000 : Int) < s'.size) = false := decide_eq_false h2
  have d3 : decide ((1000 : Int) < t.size) = false := decide_eq_false h3
  have C1 := Lib.hid (fun w => hc1 ▸ compare_any k n s k' n' s' w hs hs')
  have C2 := Lib.hid (fun w => hc2 ▸ compare_any k' n' s' k n s w hs' hs)
  clear hc1 hc2
  have R1 := Lib.hid (fun w => hp ▸ refplain_any k n s w)
  have R2 := Lib.hid (fun w => hp' ▸ refplain_any k' n' s' w)
  have F1 := Lib.hid (fun w => hb ▸ before_any k n s k' n' s' w (by omega) (by omega))
  have F2 := Lib.hid (fun w => hb' ▸ before_any k' n' s' k n s w (by omega) (by omega))
  clear hp hp' hb hb'
  have HM := Lib.hid hm
  clear hm
  go_enter Tryd.func4, Tryd.ntmps4
  go_wp2_with fail
  have T0 := Lib.hid (Three.start w k n s k' n' s' l m t)
  refine (awake_ok _ x (HM.out.below T0.out.bel)).mono ?_
  rintro e w1 ⟨rfl, hb1⟩
  have T1 := Lib.hid (T0.out.step hb1)
  clear hb1 T0
  obtain ⟨⟨c1, c2, c3⟩, ⟨c4, c5, c6⟩, ⟨c7, c8, c9⟩, -⟩ := T1.out
  go_wp2_with fail
  go_region_held3 (fun w' => w'.cell? ⟨w.heap.size, 0, none⟩ = some (.int .i64 k) ∧ w'.cell? ⟨w.heap.size, 1, none⟩ = some (.int .i64 n) ∧ w'.cell? ⟨w.heap.size, 2, none⟩ = some (.string s) ∧ w'.cell? ⟨w.heap.size + 1, 0, none⟩ = some (.int .i64 k') ∧ w'.cell? ⟨w.heap.size + 1, 1, none⟩ = some (.int .i64 n') ∧ w'.cell? ⟨w.heap.size + 1, 2, none⟩ = some (.string s')) (first | go_keep | (exact hold6 (by assumption) hb2) | (exact hold6 (by assumption) hb3))
    (first
      | (go_at_call 16; (with_reducible refine (C1.out _).mono ?_); rintro e w2 ⟨rfl, hb2⟩)
      | (go_at_call 16; (with_reducible refine (C2.out _).mono ?_); rintro e w3 ⟨rfl, hb3⟩))
  have T3 := Lib.hid ((T1.out.step (bdrew1 hb2)).step hb3)
  clear hb2 hb3 T1
  obtain ⟨⟨c1, c2, c3⟩, ⟨c4, c5, c6⟩, ⟨c7, c8, c9⟩, -⟩ := T3.out
  go_wp2_with fail
  refine (R1.out _).mono ?_
  rintro e w4 ⟨rfl, hb4⟩
  have T4 := Lib.hid (T3.out.step hb4)
  clear hb4 T3
  obtain ⟨⟨c1, c2, c3⟩, ⟨c4, c5, c6⟩, ⟨c7, c8, c9⟩, -⟩ := T4.out
  go_wp2_with fail
  refine (R2.out _).mono ?_
  rintro e w5 ⟨rfl, hb5⟩
  have T5 := Lib.hid (T4.out.step hb5)
  clear hb5 T4
  obtain ⟨⟨c1, c2, c3⟩, ⟨c4, c5, c6⟩, ⟨c7, c8, c9⟩, -⟩ := T5.out
  go_wp2_with fail
  refine (F1.out _).mono ?_
  rintro e w6 ⟨rfl, hb6⟩
  have T6 := Lib.hid (T5.out.step hb6)
  clear hb6 T5
  obtain ⟨⟨c1, c2, c3⟩, ⟨c4, c5, c6⟩, ⟨c7, c8, c9⟩, -⟩ := T6.out
  go_wp2_with fail
  refine (F2.out _).mono ?_
  rintro e w7 ⟨rfl, hb7⟩
  have T7 := Lib.hid (T6.out.step hb7)
  clear hb7 T6
  obtain ⟨⟨c1, c2, c3⟩, ⟨c4, c5, c6⟩, ⟨c7, c8, c9⟩, -⟩ := T7.out
  go_wp2_with fail
  cases hpc : plainB l m t
  · have R3 := Lib.hid (fun w => hpc ▸ refplain_any l m t w)
    clear hpc
    refine (R3.out _).mono ?_
    rintro e w8 ⟨rfl, hb8⟩
    have T8 := Lib.hid (T7.out.step hb8)
    clear hb8
    go_wp2
    go_ret
    exact ⟨rfl, T8.out.bel⟩
  · have R3 := Lib.hid (fun w => hpc ▸ refplain_any l m t w)
    have TR := Lib.hid (fun h => htr h hpc)
    clear hpc htr
    refine (R3.out _).mono ?_
    rintro e w8 ⟨rfl, hb8⟩
    have T8 := Lib.hid (T7.out.step hb8)
    clear hb8 T7
    obtain ⟨⟨c1, c2, c3⟩, ⟨c4, c5, c6⟩, ⟨c7, c8, c9⟩, -⟩ := T8.out
    go_wp2_with fail
    refine (compare_any k' n' s' l m t _ hs' ht).mono ?_
    rintro e w9 ⟨rfl, hb9⟩
    have T9 := Lib.hid (T8.out.step hb9)
    clear hb9 T8
    obtain ⟨⟨c1, c2, c3⟩, ⟨c4, c5, c6⟩, ⟨c7, c8, c9⟩, -⟩ := T9.out
    by_cases hx : 0 < cmpV k' n' s' l m t
    · generalize cmpV k' n' s' l m t = y at *
      clear TR
      go_wp2
      go_ret
      exact ⟨rfl, T9.out.bel⟩
    · have hy := TR.out (by omega)
      have CC := Lib.hid (compare_any k n s l m t · hs ht)
      generalize cmpV k' n' s' l m t = y at *
      generalize cmpV k n s l m t = z at *
      clear TR
      go_wp2_with fail
      refine (CC.out _).mono ?_
      rintro e w10 ⟨rfl, hb10⟩
      have T10 := Lib.hid (T9.out.step hb10)
      clear hb10
      go_wp2
      go_ret
      exact ⟨rfl, T10.out.bel⟩

set_option maxRecDepth 100000 in
set_option maxHeartbeats 1000000 in
theorem orders_eq (k n : Int) (s : ByteArray) (k' n' : Int) (s' : ByteArray) (l m : Int) (t : ByteArray) (w : World) (hs : s.size ≤ 9223372036854775807) (hs' : s'.size ≤ 9223372036854775807) (ht : t.size ≤ 9223372036854775807) (x : Int) (hm : MaxAt w x) (h1 : ¬ (1000 : Int) < s.size) (h2 : ¬ (1000 : Int) < s'.size) (h3 : ¬ (1000 : Int) < t.size) (hp : plainB k n s = true) (hp' : plainB k' n' s' = true) (hc1 : cmpV k n s k' n' s' = 0) (hc2 : cmpV k' n' s' k n s = 0) (hb : befB k n s k' n' s' = false) (hb' : befB k' n' s' k n s = false) (hsm : same k n s k' n' s' = true) (htr : cmpV k' n' s' l m t ≤ 0 → plainB l m t = true → cmpV k n s l m t ≤ 0) :
    Calls Tryd.prog 4 #[val k n s, val k' n' s', val l m t] w fun e w' => e = .returned (.bool true) ∧ Below w.heap.size w w' := by
  have d1 : decide ((1000 : Int) < s.size) = false := decide_eq_false h1
  have d2 : decide ((1000 : Int) < s'.size) = false := decide_eq_false h2
  have d3 : decide ((1000 : Int) < t.size) = false := decide_eq_false h3
  have C1 := Lib.hid (fun w => hc1 ▸ compare_any k n s k' n' s' w hs hs')
  have C2 := Lib.hid (fun w => hc2 ▸ compare_any k' n' s' k n s w hs' hs)
  clear hc1 hc2
  have R1 := Lib.hid (fun w => hp ▸ refplain_any k n s w)
  have R2 := Lib.hid (fun w => hp' ▸ refplain_any k' n' s' w)
  have F1 := Lib.hid (fun w => hb ▸ before_any k n s k' n' s' w (by omega) (by omega))
  have F2 := Lib.hid (fun w => hb' ▸ before_any k' n' s' k n s w (by omega) (by omega))
  clear hp hp' hb hb'
  have HM := Lib.hid hm
  clear hm
  go_enter Tryd.func4, Tryd.ntmps4
  go_wp2_with fail
  have T0 := Lib.hid (Three.start w k n s k' n' s' l m t)
  refine (awake_ok _ x (HM.out.below T0.out.bel)).mono ?_
  rintro e w1 ⟨rfl, hb1⟩
  have T1 := Lib.hid (T0.out.step hb1)
  clear hb1 T0
  obtain ⟨⟨c1, c2, c3⟩, ⟨c4, c5, c6⟩, ⟨c7, c8, c9⟩, -⟩ := T1.out
  go_wp2_with fail
  go_region_held3 (fun w' => w'.cell? ⟨w.heap.size, 0, none⟩ = some (.int .i64 k) ∧ w'.cell? ⟨w.heap.size, 1, none⟩ = some (.int .i64 n) ∧ w'.cell? ⟨w.heap.size, 2, none⟩ = some (.string s) ∧ w'.cell? ⟨w.heap.size + 1, 0, none⟩ = some (.int .i64 k') ∧ w'.cell? ⟨w.heap.size + 1, 1, none⟩ = some (.int .i64 n') ∧ w'.cell? ⟨w.heap.size + 1, 2, none⟩ = some (.string s')) (first | go_keep | (exact hold6 (by assumption) hb2) | (exact hold6 (by assumption) hb3))
    (first
      | (go_at_call 16; (with_reducible refine (C1.out _).mono ?_); rintro e w2 ⟨rfl, hb2⟩)
      | (go_at_call 16; (with_reducible refine (C2.out _).mono ?_); rintro e w3 ⟨rfl, hb3⟩))
  have T3 := Lib.hid ((T1.out.step (bdrew1 hb2)).step hb3)
  clear hb2 hb3 T1
  obtain ⟨⟨c1, c2, c3⟩, ⟨c4, c5, c6⟩, ⟨c7, c8, c9⟩, -⟩ := T3.out
  go_wp2_with fail
  refine (R1.out _).mono ?_
  rintro e w4 ⟨rfl, hb4⟩
  have T4 := Lib.hid (T3.out.step hb4)
  clear hb4 T3
  obtain ⟨⟨c1, c2, c3⟩, ⟨c4, c5, c6⟩, ⟨c7, c8, c9⟩, -⟩ := T4.out
  go_wp2_with fail
  refine (R2.out _).mono ?_
  rintro e w5 ⟨rfl, hb5⟩
  have T5 := Lib.hid (T4.out.step hb5)
  clear hb5 T4
  obtain ⟨⟨c1, c2, c3⟩, ⟨c4, c5, c6⟩, ⟨c7, c8, c9⟩, -⟩ := T5.out
  go_wp2_with fail
  refine (F1.out _).mono ?_
  rintro e w6 ⟨rfl, hb6⟩
  have T6 := Lib.hid (T5.out.step hb6)
  clear hb6 T5
  obtain ⟨⟨c1, c2, c3⟩, ⟨c4, c5, c6⟩, ⟨c7, c8, c9⟩, -⟩ := T6.out
  go_wp2_with fail
  refine (F2.out _).mono ?_
  rintro e w7 ⟨rfl, hb7⟩
  have T7 := Lib.hid (T6.out.step hb7)
  clear hb7 T6
  obtain ⟨⟨c1, c2, c3⟩, ⟨c4, c5, c6⟩, ⟨c7, c8, c9⟩, -⟩ := T7.out
  go_wp2_with fail
  cases hpc : plainB l m t
  · have R3 := Lib.hid (fun w => hpc ▸ refplain_any l m t w)
    clear hpc
    refine (R3.out _).mono ?_
    rintro e w8 ⟨rfl, hb8⟩
    have T8 := Lib.hid (T7.out.step hb8)
    clear hb8
    go_wp2
    go_ret
    exact ⟨rfl, T8.out.bel⟩
  · have R3 := Lib.hid (fun w => hpc ▸ refplain_any l m t w)
    have TR := Lib.hid (fun h => htr h hpc)
    clear hpc htr
    refine (R3.out _).mono ?_
    rintro e w8 ⟨rfl, hb8⟩
    have T8 := Lib.hid (T7.out.step hb8)
    clear hb8 T7
    obtain ⟨⟨c1, c2, c3⟩, ⟨c4, c5, c6⟩, ⟨c7, c8, c9⟩, -⟩ := T8.out
    go_wp2_with fail
    refine (compare_any k' n' s' l m t _ hs' ht).mono ?_
    rintro e w9 ⟨rfl, hb9⟩
    have T9 := Lib.hid (T8.out.step hb9)
    clear hb9 T8
    obtain ⟨⟨c1, c2, c3⟩, ⟨c4, c5, c6⟩, ⟨c7, c8, c9⟩, -⟩ := T9.out
    by_cases hx : 0 < cmpV k' n' s' l m t
    · generalize cmpV k' n' s' l m t = y at *
      clear TR
      go_wp2
      go_ret
      exact ⟨rfl, T9.out.bel⟩
    · have hy := TR.out (by omega)
      have CC := Lib.hid (compare_any k n s l m t · hs ht)
      generalize cmpV k' n' s' l m t = y at *
      generalize cmpV k n s l m t = z at *
      clear TR
      go_wp2_with fail
      refine (CC.out _).mono ?_
      rintro e w10 ⟨rfl, hb10⟩
      have T10 := Lib.hid (T9.out.step hb10)
      clear hb10
      go_wp2
      go_ret
      exact ⟨rfl, T10.out.bel⟩

set_option maxRecDepth 100000 in
set_option maxHeartbeats 1000000 in
theorem orders_gt (k n : Int) (s : ByteArray) (k' n' : Int) (s' : ByteArray) (l m : Int) (t : ByteArray) (w : World) (hs : s.size ≤ 9223372036854775807) (hs' : s'.size ≤ 9223372036854775807) (ht : t.size ≤ 9223372036854775807) (x : Int) (hm : MaxAt w x) (h1 : ¬ (1000 : Int) < s.size) (h2 : ¬ (1000 : Int) < s'.size) (h3 : ¬ (1000 : Int) < t.size) (hp : plainB k n s = true) (hp' : plainB k' n' s' = true) (hc1 : cmpV k n s k' n' s' = 1) (hc2 : cmpV k' n' s' k n s = -1) (hb : befB k n s k' n' s' = false) (hb' : befB k' n' s' k n s = true) (hsm : same k n s k' n' s' = false) :
    Calls Tryd.prog 4 #[val k n s, val k' n' s', val l m t] w fun e w' => e = .returned (.bool true) ∧ Below w.heap.size w w' := by
  have d1 : decide ((1000 : Int) < s.size) = false := decide_eq_false h1
  have d2 : decide ((1000 : Int) < s'.size) = false := decide_eq_false h2
  have d3 : decide ((1000 : Int) < t.size) = false := decide_eq_false h3
  have C1 := Lib.hid (fun w => hc1 ▸ compare_any k n s k' n' s' w hs hs')
  have C2 := Lib.hid (fun w => hc2 ▸ compare_any k' n' s' k n s w hs' hs)
  clear hc1 hc2
  have R1 := Lib.hid (fun w => hp ▸ refplain_any k n s w)
  have R2 := Lib.hid (fun w => hp' ▸ refplain_any k' n' s' w)
  have F1 := Lib.hid (fun w => hb ▸ before_any k n s k' n' s' w (by omega) (by omega))
  have F2 := Lib.hid (fun w => hb' ▸ before_any k' n' s' k n s w (by omega) (by omega))
  clear hp hp' hb hb'
  have HM := Lib.hid hm
  clear hm
  go_enter Tryd.func4, Tryd.ntmps4
  go_wp2_with fail
  have T0 := Lib.hid (Three.start w k n s k' n' s' l m t)
  refine (awake_ok _ x (HM.out.below T0.out.bel)).mono ?_
  rintro e w1 ⟨rfl, hb1⟩
  have T1 := Lib.hid (T0.out.step hb1)
  clear hb1 T0
  obtain ⟨⟨c1, c2, c3⟩, ⟨c4, c5, c6⟩, ⟨c7, c8, c9⟩, -⟩ := T1.out
  go_wp2_with fail
  go_region_held3 (fun w' => w'.cell? ⟨w.heap.size, 0, none⟩ = some (.int .i64 k) ∧ w'.cell? ⟨w.heap.size, 1, none⟩ = some (.int .i64 n) ∧ w'.cell? ⟨w.heap.size, 2, none⟩ = some (.string s) ∧ w'.cell? ⟨w.heap.size + 1, 0, none⟩ = some (.int .i64 k') ∧ w'.cell? ⟨w.heap.size + 1, 1, none⟩ = some (.int .i64 n') ∧ w'.cell? ⟨w.heap.size + 1, 2, none⟩ = some (.string s')) (first | go_keep | (exact hold6 (by assumption) hb2) | (exact hold6 (by assumption) hb3))
    (first
      | (go_at_call 16; (with_reducible refine (C1.out _).mono ?_); rintro e w2 ⟨rfl, hb2⟩)
      | (go_at_call 16; (with_reducible refine (C2.out _).mono ?_); rintro e w3 ⟨rfl, hb3⟩))
  have T3 := Lib.hid ((T1.out.step (bdrew1 hb2)).step hb3)
  clear hb2 hb3 T1
  obtain ⟨⟨c1, c2, c3⟩, ⟨c4, c5, c6⟩, ⟨c7, c8, c9⟩, -⟩ := T3.out
  go_wp2_with fail
  refine (R1.out _).mono ?_
  rintro e w4 ⟨rfl, hb4⟩
  have T4 := Lib.hid (T3.out.step hb4)
  clear hb4 T3
  obtain ⟨⟨c1, c2, c3⟩, ⟨c4, c5, c6⟩, ⟨c7, c8, c9⟩, -⟩ := T4.out
  go_wp2_with fail
  refine (R2.out _).mono ?_
  rintro e w5 ⟨rfl, hb5⟩
  have T5 := Lib.hid (T4.out.step hb5)
  clear hb5 T4
  obtain ⟨⟨c1, c2, c3⟩, ⟨c4, c5, c6⟩, ⟨c7, c8, c9⟩, -⟩ := T5.out
  go_wp2_with fail
  refine (F1.out _).mono ?_
  rintro e w6 ⟨rfl, hb6⟩
  have T6 := Lib.hid (T5.out.step hb6)
  clear hb6 T5
  obtain ⟨⟨c1, c2, c3⟩, ⟨c4, c5, c6⟩, ⟨c7, c8, c9⟩, -⟩ := T6.out
  go_wp2_with fail
  refine (F2.out _).mono ?_
  rintro e w7 ⟨rfl, hb7⟩
  have T7 := Lib.hid (T6.out.step hb7)
  clear hb7 T6
  obtain ⟨⟨c1, c2, c3⟩, ⟨c4, c5, c6⟩, ⟨c7, c8, c9⟩, -⟩ := T7.out
  go_wp2_with fail
  cases hpc : plainB l m t
  · have R3 := Lib.hid (fun w => hpc ▸ refplain_any l m t w)
    clear hpc
    refine (R3.out _).mono ?_
    rintro e w8 ⟨rfl, hb8⟩
    have T8 := Lib.hid (T7.out.step hb8)
    clear hb8
    go_wp2
    go_ret
    exact ⟨rfl, T8.out.bel⟩
  · have R3 := Lib.hid (fun w => hpc ▸ refplain_any l m t w)
    clear hpc
    refine (R3.out _).mono ?_
    rintro e w8 ⟨rfl, hb8⟩
    have T8 := Lib.hid (T7.out.step hb8)
    clear hb8
    go_wp2
    go_ret
    exact ⟨rfl, T8.out.bel⟩
end Go.Proofs.YthomkdgpmmgdoaaDoor
