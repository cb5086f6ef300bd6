import Derived.Test.YteghhmomhlnccaaGreatDoorZM4
import Derived.Test.YteghhmomhlnccaaGreatDoorZB
import Derived.Test.YteghhmomhlnccaaGreatDoorShelf

/- value.Print of a text. -/
namespace Go.Proofs.YteghhmomhlnccaaGreatDoor
open Go.RowKit
attribute [local go_sem ↓] eqVal neqVal

/-- what the library's variable holds. -/
def MaxAt (w : World) (m : Int) : Prop := w.cell? ⟨1, 0, none⟩ = some (.int .i64 m)
theorem MaxAt.lt {w : World} {m : Int} (h : MaxAt w m) : 1 < w.heap.size := World.block_lt_of_cell? w _ h
theorem MaxAt.below {w w' : World} {m : Int} (h : MaxAt w m) (hb : Below w.heap.size w w') : MaxAt w' m := (hb.cell (p := ⟨1, 0, none⟩) h.lt).trans h
theorem bdrew1 {w w' : World} (h : Below w.drew.heap.size w.drew w') : Below w.heap.size w w' := ⟨h.os, h.tape, h.output, h.size, h.block⟩
theorem retS {a b : ByteArray} (h : a = b) : Ending.returned (.string a) = .returned (.string b) := by rw [h]
/-- a list of bytes as a text. -/
abbrev str (l : List UInt8) : ByteArray := ⟨l.toArray⟩
theorem esc_any (s : ByteArray) (w : World) (m : Int) (hm : MaxAt w m) (hs : s.size ≤ 1000000) :
    Calls Tryz.prog 177 #[.string s, .string ⟨#[39]⟩, .string ⟨#[39, 39]⟩] w fun e w' => e = .returned (.string (str (esc s.data.toList))) ∧ Below w.heap.size w w' := by
  have hc := Lib.countB_le ⟨#[39]⟩ (by decide) s.size s (Nat.le_refl _)
  have := Tryz.strings_ReplaceAll s ⟨#[39]⟩ ⟨#[39, 39]⟩ m w (by omega) hm (by decide) (by
    have e : (⟨#[39, 39]⟩ : ByteArray).size = 2 := rfl
    rw [e]; omega)
  refine this.mono fun e w' ⟨he, hb⟩ => ⟨?_, hb⟩
  rw [he, show (⟨#[39]⟩ : ByteArray).data.toList = [39] from rfl, show (⟨#[39, 39]⟩ : ByteArray).data.toList = [39, 39] from rfl, ra_esc]

set_option maxRecDepth 100000 in
set_option maxHeartbeats 1000000 in
theorem print_text (s : ByteArray) (w : World) (hs : s.size ≤ 200) (m : Int) (hm : MaxAt w m) :
    Calls Tryz.prog 178 #[val 2 0 s] w fun e w' => e = .returned (.string (str (quo s.data.toList))) ∧ Below w.heap.size w w' := by
  have P := fun w => plain_any 2 0 s w (by omega)
  rw [plainB_iff.2 (.inr (.inr (.inl ⟨rfl, rfl, hs⟩)))] at P
  have PP := Lib.hid P
  clear P
  have e0 : same 2 0 s 0 0 ⟨#[]⟩ = false := by simp [same]
  have e1 : same 2 0 s 3 1 ⟨#[]⟩ = false := by simp [same]
  have e2 : same 2 0 s 3 0 ⟨#[]⟩ = false := by simp [same]
  have HM := Lib.hid hm
  clear hm
  go_enter Tryz.func178, Tryz.ntmps178
  go_wp2_with fail
  refine (PP.out _).mono ?_
  rintro e w1 ⟨rfl, hb1⟩
  have H1 := Lib.hid ((Holds3.new w 2 0 s 23).below hb1 (by simp))
  have B1 := Lib.hid (bstep ((Below.refl _ _).alloc (Nat.le_refl _) _) hb1)
  clear hb1
  obtain ⟨c1, c2, c3⟩ := H1.out
  go_wp2_with fail
  go_region_held3 (fun w' => w'.cell? ⟨w.heap.size, 0, none⟩ = some (.int .i64 2) ∧ w'.cell? ⟨w.heap.size, 1, none⟩ = some (.int .i64 0) ∧ w'.cell? ⟨w.heap.size, 2, none⟩ = some (.string s)) (first | go_keep | (exact Holds3.below (by assumption) hb2 (Holds3.lt (by assumption))))
    (first
      | (go_at_call 26; (with_reducible refine (null_any _).mono ?_); rintro e w2 ⟨rfl, hb2⟩))
  have H2 := Lib.hid (H1.out.below (bdrew1 hb2) H1.out.lt)
  have B2 := Lib.hid (bstep (B1.out) (bdrew1 hb2))
  clear hb2 H1 B1
  obtain ⟨c1, c2, c3⟩ := H2.out
  go_wp2_with fail
  go_region_held3 (fun w' => w'.cell? ⟨w.heap.size, 0, none⟩ = some (.int .i64 2) ∧ w'.cell? ⟨w.heap.size, 1, none⟩ = some (.int .i64 0) ∧ w'.cell? ⟨w.heap.size, 2, none⟩ = some (.string s)) (first | go_keep | (exact Holds3.below (by assumption) hb3 (Holds3.lt (by assumption))))
    (first
      | (go_at_call 29; (with_reducible refine (bool_true _).mono ?_); rintro e w3 ⟨rfl, hb3⟩))
  have H3 := Lib.hid (H2.out.below (bdrew1 hb3) H2.out.lt)
  have B3 := Lib.hid (bstep (B2.out) (bdrew1 hb3))
  clear hb3 H2 B2
  obtain ⟨c1, c2, c3⟩ := H3.out
  go_wp2_with fail
  go_region_held3 (fun w' => w'.cell? ⟨w.heap.size, 0, none⟩ = some (.int .i64 2) ∧ w'.cell? ⟨w.heap.size, 1, none⟩ = some (.int .i64 0) ∧ w'.cell? ⟨w.heap.size, 2, none⟩ = some (.string s)) (first | go_keep | (exact Holds3.below (by assumption) hb4 (Holds3.lt (by assumption))))
    (first
      | (go_at_call 29; (with_reducible refine (bool_false _).mono ?_); rintro e w4 ⟨rfl, hb4⟩))
  have H4 := Lib.hid (H3.out.below (bdrew1 hb4) H3.out.lt)
  have B4 := Lib.hid (bstep (B3.out) (bdrew1 hb4))
  clear hb4 H3 B3
  obtain ⟨c1, c2, c3⟩ := H4.out
  go_wp2_with fail
  refine (esc_any s _ m (HM.out.below B4.out) (by omega)).mono ?_
  rintro e w5 ⟨rfl, hb5⟩
  have B5 := Lib.hid (bstep B4.out hb5)
  clear hb5
  have hsz : (str (esc s.data.toList)).size ≤ 400 := by
    have := esc_length_le s.data.toList
    have e : s.data.toList.length = s.size := by simp
    show (esc s.data.toList).toArray.size ≤ 400
    rw [List.size_toArray]; omega
  generalize hx : str (esc s.data.toList) = x at hsz
  have HX := Lib.hid hx
  clear hx
  go_wp2
  go_ret
  exact ⟨retS (by rw [← HX.out]; apply ByteArray.ext; simp [quo]), B5.out⟩
end Go.Proofs.YteghhmomhlnccaaGreatDoor
