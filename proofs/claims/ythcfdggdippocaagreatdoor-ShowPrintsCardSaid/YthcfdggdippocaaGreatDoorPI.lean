/- value.Print of a number. -/
import Derived.Test.YthcfdggdippocaaGreatDoorV8
import Derived.Test.YthcfdggdippocaaGreatDoorC8
namespace Go.Proofs.YthcfdggdippocaaGreatDoor
open Go.RowKit Go.Lib
attribute [local go_sem ↓] eqVal neqVal

theorem tab_below {w w' : World} (h : Lib.TabIs Tryz.prog w powName .u64 Lib.pow10Tab) (hb : Below w.heap.size w w') : Lib.TabIs Tryz.prog w' powName .u64 Lib.pow10Tab := by
  have h2 : (Tryz.prog.globalNamed powName).isSome = true := by kernel_rfl
  obtain ⟨g, hg⟩ := Option.isSome_iff_exists.1 h2
  have c1 : w.cell? ⟨g, 0, none⟩ = some (.int .u64 1) := by
    rw [World.var?_cell hg h 0]; rfl
  exact var?_below hb hg (World.block_lt_of_cell? w _ c1) h
set_option maxRecDepth 100000 in
set_option maxHeartbeats 1000000 in
theorem print_int (n : Int) (w : World) (hn : Fits n) (ht : Lib.TabIs Tryz.prog w powName .u64 Lib.pow10Tab) :
    Calls Tryz.prog 32 #[val 1 n (⟨#[]⟩ : ByteArray)] w fun e w' => e = .returned (.string (str (itoa n))) ∧ Below w.heap.size w w' := by
  have P := fun w => plain_any 1 n (⟨#[]⟩ : ByteArray) w (by decide)
  rw [plainB_iff.2 (.inr (.inl ⟨rfl, rfl⟩))] at P
  have PP := Lib.hid P
  clear P
  have e0 : same 1 n (⟨#[]⟩ : ByteArray) 0 0 ⟨#[]⟩ = false := by simp [same]
  have e1 : same 1 n (⟨#[]⟩ : ByteArray) 3 1 ⟨#[]⟩ = false := by simp [same]
  have e2 : same 1 n (⟨#[]⟩ : ByteArray) 3 0 ⟨#[]⟩ = false := by simp [same]
  have HT := Lib.hid ht
  have HN := Lib.hid hn
  clear ht hn
  go_enter Tryz.func32, Tryz.ntmps32
  go_wp2_with fail
  refine (PP.out _).mono ?_
  rintro e w1 ⟨rfl, hb1⟩
  have H1 := Lib.hid ((Holds3.new w 1 n (⟨#[]⟩ : ByteArray) 23).below hb1 (by simp))
  have B1 := Lib.hid (bstep ((Below.refl _ _).alloc (Nat.le_refl _) _) hb1)
  clear hb1
  obtain ⟨c1, c2, c3⟩ := H1.out
  go_wp2_with fail
  go_region_held3 (fun w' => w'.cell? ⟨w.heap.size, 0, none⟩ = some (.int .i64 1) ∧ w'.cell? ⟨w.heap.size, 1, none⟩ = some (.int .i64 n) ∧ w'.cell? ⟨w.heap.size, 2, none⟩ = some (.string (⟨#[]⟩ : ByteArray))) (first | go_keep | (exact Holds3.below (by assumption) hb2 (Holds3.lt (by assumption))))
    (first
      | (go_at_call 45; (with_reducible refine (null_any _).mono ?_); rintro e w2 ⟨rfl, hb2⟩))
  have H2 := Lib.hid (H1.out.below (bdrew1 hb2) H1.out.lt)
  have B2 := Lib.hid (bstep (B1.out) (bdrew1 hb2))
  clear hb2 H1 B1
  obtain ⟨c1, c2, c3⟩ := H2.out
  go_wp2_with fail
  go_region_held3 (fun w' => w'.cell? ⟨w.heap.size, 0, none⟩ = some (.int .i64 1) ∧ w'.cell? ⟨w.heap.size, 1, none⟩ = some (.int .i64 n) ∧ w'.cell? ⟨w.heap.size, 2, none⟩ = some (.string (⟨#[]⟩ : ByteArray))) (first | go_keep | (exact Holds3.below (by assumption) hb3 (Holds3.lt (by assumption))))
    (first
      | (go_at_call 52; (with_reducible refine (bool_true _).mono ?_); rintro e w3 ⟨rfl, hb3⟩))
  have H3 := Lib.hid (H2.out.below (bdrew1 hb3) H2.out.lt)
  have B3 := Lib.hid (bstep (B2.out) (bdrew1 hb3))
  clear hb3 H2 B2
  obtain ⟨c1, c2, c3⟩ := H3.out
  go_wp2_with fail
  go_region_held3 (fun w' => w'.cell? ⟨w.heap.size, 0, none⟩ = some (.int .i64 1) ∧ w'.cell? ⟨w.heap.size, 1, none⟩ = some (.int .i64 n) ∧ w'.cell? ⟨w.heap.size, 2, none⟩ = some (.string (⟨#[]⟩ : ByteArray))) (first | go_keep | (exact Holds3.below (by assumption) hb4 (Holds3.lt (by assumption))))
    (first
      | (go_at_call 52; (with_reducible refine (bool_false _).mono ?_); rintro e w4 ⟨rfl, hb4⟩))
  have H4 := Lib.hid (H3.out.below (bdrew1 hb4) H3.out.lt)
  have B4 := Lib.hid (bstep (B3.out) (bdrew1 hb4))
  clear hb4 H3 B3
  obtain ⟨c1, c2, c3⟩ := H4.out
  go_wp2_with fail
  refine (print_any n _ HN.out (tab_below HT.out B4.out)).mono ?_
  rintro e w5 ⟨rfl, hb5⟩
  have B5 := Lib.hid (bstep B4.out hb5)
  clear hb5
  go_wp2
  go_ret
  exact ⟨rfl, B5.out⟩
end Go.Proofs.YthcfdggdippocaaGreatDoor
