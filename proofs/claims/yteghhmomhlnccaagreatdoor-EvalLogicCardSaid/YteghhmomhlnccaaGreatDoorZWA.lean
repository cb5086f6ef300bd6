import Derived.Test.YteghhmomhlnccaaGreatDoorZL
import Derived.Test.YteghhmomhlnccaaGreatDoorZRD

/- Words of a source, walked: a word's block; run, between. -/
namespace Go.Proofs.YteghhmomhlnccaaGreatDoor
open Go.RowKit Go.Lib
set_option linter.unusedVariables false

abbrev wd (k : Int) (s : ByteArray) (n : Int) : Value := .agg #[.int .i64 k, .string s, .int .i64 n]
/-- a word's block, or a token's. -/
def RowW (w : World) (g : Nat) (t : TypeId) (k : Int) (s : ByteArray) (n : Int) : Prop := w.heap[g]? = some (.cells #[.int .i64 k, .string s, .int .i64 n] t (0, 0))
theorem RowW.lt {w : World} {g : Nat} {t : TypeId} {k n : Int} {s : ByteArray} (h : RowW w g t k s n) : g < w.heap.size := by
  rcases Nat.lt_or_ge g w.heap.size with hlt | hge
  · exact hlt
  · unfold RowW at h; rw [Array.getElem?_eq_none hge] at h; cases h
theorem RowW.new (w : World) (t : TypeId) (k n : Int) (s : ByteArray) : RowW (w.alloc (.cells #[.int .i64 k, .string s, .int .i64 n] t)) w.heap.size t k s n := heap_alloc_new w _
theorem RowW.below {w w' : World} {g : Nat} {t : TypeId} {k n : Int} {s : ByteArray} {B : Nat} (h : RowW w g t k s n) (hb : Below B w w') (hg : g < B) : RowW w' g t k s n := (hb.block g hg).trans h
theorem RowW.alloc {w : World} {g : Nat} {t : TypeId} {k n : Int} {s : ByteArray} (h : RowW w g t k s n) (o : Obj) : RowW (w.alloc o) g t k s n := (Below.heap_alloc w o g h.lt).trans h
theorem RowW.cells {w : World} {g : Nat} {t : TypeId} {k n : Int} {s : ByteArray} (h : RowW w g t k s n) : w.cell? ⟨g, 0, none⟩ = some (.int .i64 k) ∧ w.cell? ⟨g, 1, none⟩ = some (.string s) ∧ w.cell? ⟨g, 2, none⟩ = some (.int .i64 n) :=
  ⟨cell_of_row w g 0 _ _ _ h, cell_of_row w g 1 _ _ _ h, cell_of_row w g 2 _ _ _ h⟩
theorem RowW.frozen {w : World} {g : Nat} {t : TypeId} {k n : Int} {s : ByteArray} (h : RowW w g t k s n) (i : Nat) : w.frozen? ⟨g, i, none⟩ = false := by
  unfold RowW at h
  simp [World.frozen?, h]
theorem RowW.set3 {w : World} {g : Nat} {t : TypeId} {k n : Int} {s : ByteArray} (h : RowW w g t k s n) (k' n' : Int) (s' : ByteArray) :
    RowW (((w.setCell ⟨g, 0, none⟩ (.int .i64 k')).setCell ⟨g, 1, none⟩ (.string s')).setCell ⟨g, 2, none⟩ (.int .i64 n')) g t k' s' n' := by
  have h0 := heap_setCell_same w g 0 _ _ (.int .i64 k') h
  have h1 := heap_setCell_same _ g 1 _ _ (.string s') h0
  have h2 := heap_setCell_same _ g 2 _ _ (.int .i64 n') h1
  simpa [RowW] using h2
theorem str_size (l : List UInt8) : (str l).size = l.length := List.size_toArray
theorem retI {a b : Int} (h : a = b) : Ending.returned (.int .i64 a) = .returned (.int .i64 b) := by rw [h]
theorem list_size (s : ByteArray) : s.data.toList.length = s.size := by simp

set_option maxRecDepth 100000 in
theorem run_any (s cs : ByteArray) (p : UInt8 → Bool) (hp : (cs.data.toList.contains ·) = p) (hc : cs.size ≤ 1000) (ha : cs.data.toList.all (fun b => decide (b.toNat < 128)) = true) (w : World) (hs : s.size ≤ 6000) :
    Calls Tryz.prog 103 #[.string s, .string cs] w fun e w' => e = .returned (.int .i64 ((s.data.toList.takeWhile p).length : Nat)) ∧ Below w.heap.size w w' := by
  have T := Tryz.strings_TrimLeft_set s cs w (by omega) (ascii_of_all ha)
  rw [Lib.trimLeftS, hp, Lx.dw_drop] at T
  have hl := Lx.tw_le p s.data.toList
  have hL := list_size s
  generalize (s.data.toList.takeWhile p).length = n at *
  obtain ⟨d, hd⟩ : ∃ d : ByteArray, d = ⟨(s.data.toList.drop n).toArray⟩ := ⟨_, rfl⟩
  have hds : d.size + n = s.size := by
    have := str_size (s.data.toList.drop n)
    rw [List.length_drop] at this
    rw [hd]
    show (str (s.data.toList.drop n)).size + n = s.size
    omega
  rw [← hd] at T
  have TT := Lib.hid T
  have h1 : (d.size : Int) ≤ s.size := by omega
  have h2 : (s.size : Int) ≤ 6000 := by omega
  have HD := Lib.hid hds
  clear T hd hp hc ha hl hL hds hs
  go_enter Tryz.func103, Tryz.ntmps103
  go_wp2_with fail
  refine (TT.out).mono ?_
  rintro e w1 ⟨rfl, hb⟩
  have HB := Lib.hid hb
  clear hb
  go_wp2
  go_ret
  exact ⟨retI (by have := HD.out; omega), HB.out⟩
theorem run_small (s : ByteArray) (w : World) (hs : s.size ≤ 6000) : Calls Tryz.prog 103 #[.string s, .string ⟨#[97, 98, 99, 100, 101, 102, 103, 104, 105, 106, 107, 108, 109, 110, 111, 112, 113, 114, 115, 116, 117, 118, 119, 120, 121, 122]⟩] w fun e w' => e = .returned (.int .i64 ((s.data.toList.takeWhile Lx.low).length : Nat)) ∧ Below w.heap.size w w' :=
  run_any s _ Lx.low Lx.small_eq (by decide) (by decide) w hs
theorem run_digits (s : ByteArray) (w : World) (hs : s.size ≤ 6000) : Calls Tryz.prog 103 #[.string s, .string ⟨#[48, 49, 50, 51, 52, 53, 54, 55, 56, 57]⟩] w fun e w' => e = .returned (.int .i64 ((s.data.toList.takeWhile dig).length : Nat)) ∧ Below w.heap.size w w' :=
  run_any s _ dig Lx.digits_eq (by decide) (by decide) w hs
theorem run_inNames (s : ByteArray) (w : World) (hs : s.size ≤ 6000) : Calls Tryz.prog 103 #[.string s, .string ⟨#[97, 98, 99, 100, 101, 102, 103, 104, 105, 106, 107, 108, 109, 110, 111, 112, 113, 114, 115, 116, 117, 118, 119, 120, 121, 122, 48, 49, 50, 51, 52, 53, 54, 55, 56, 57, 95]⟩] w fun e w' => e = .returned (.int .i64 ((s.data.toList.takeWhile Lx.nm).length : Nat)) ∧ Below w.heap.size w w' :=
  run_any s _ Lx.nm Lx.inNames_eq (by decide) (by decide) w hs

/-- blanks ahead are taken off. -/
theorem trim_any (s : ByteArray) (w : World) : Calls Tryz.prog 100 #[.string s, .string ⟨#[32, 9, 10]⟩] w fun e w' => e = .returned (.string (str (trimLeftS s.data.toList Lx.blanksL))) ∧ Below w.heap.size w w' :=
  Tryz.strings_TrimLeft_set s ⟨#[32, 9, 10]⟩ w (by decide) (ascii_of_all (by decide))
theorem trimB_le (l : List UInt8) : (trimLeftS l Lx.blanksL).length ≤ l.length := by
  rw [Lx.trim_blanks, List.length_drop]; omega
theorem trimB_head (l : List UInt8) : ∀ c, (trimLeftS l Lx.blanksL).head? = some c → ¬ Lx.blank c = true := fun c hc => by
  rw [Lx.trim_blanks] at hc
  have := Lx.tw_next Lx.blank l c hc
  rw [this]; decide
theorem note_any (s : ByteArray) (w : World) : Calls Tryz.prog 101 #[.string s, .string ⟨#[35]⟩] w fun e w' => e = .returned (.bool (s.data.toList.head? == some 35)) ∧ w' = w := by
  have h := Tryz.strings_HasPrefix s ⟨#[35]⟩ w
  have e : Lib.hasPrefix s.data.toList (⟨#[35]⟩ : ByteArray).data.toList = (s.data.toList.head? == some 35) := by
    unfold Lib.hasPrefix
    show List.isPrefixOf [35] s.data.toList = _
    cases hq : s.data.toList with
    | nil => rfl
    | cons c r =>
      simp only [List.isPrefixOf, List.head?_cons, Bool.and_true]
      rw [Bool.eq_iff_iff]
      simp only [beq_iff_eq, Option.some.injEq]
      constructor <;> (intro h; exact h.symm)
  rwa [e] at h
/-- the rest behind a note. -/
theorem cutLine_any (s : ByteArray) (m : Int) (w : World) (hm : MaxAt w m) (hs : s.size ≤ 6000) : Calls Tryz.prog 102 #[.string s, .string ⟨#[10]⟩] w fun e w' => ∃ (a : ByteArray) (b : Bool), e = .returned (.tuple #[.string a, .string (str (Lib.cut s.data.toList [10]).2.1), .bool b]) ∧ ∃ n, w' = w.drewN n :=
  (Tryz.strings_Cut s ⟨#[10]⟩ m w (by omega) hm).mono fun e w' ⟨h1, h2⟩ => ⟨_, _, h1, h2⟩
end Go.Proofs.YteghhmomhlnccaaGreatDoor
