/- Words of a source, walked: a name. -/
import Derived.Test.YtbpknainmefidaaGreatDoorWD
namespace Go.Proofs.YtbpknainmefidaaGreatDoor
open Go.RowKit Go.Lib
set_option linter.unusedVariables false

/-- what is told of the word at the front. -/
def outW (x : Lx.Wd) : Value := if x.err = 0 then .tuple #[wd x.kind (str x.text) x.n, .int .i64 0] else .tuple #[wd 0 ⟨#[]⟩ 0, .int .i64 x.err]
theorem outW_ok {x : Lx.Wd} (h : x.err = 0) : outW x = .tuple #[wd x.kind (str x.text) x.n, .int .i64 0] := if_pos h
theorem outW_bad {x : Lx.Wd} (h : x.err ≠ 0) : outW x = .tuple #[wd 0 ⟨#[]⟩ 0, .int .i64 x.err] := if_neg h
theorem retV {a b : Value} (h : a = b) : Ending.returned a = .returned b := by rw [h]
theorem take_str (s : ByteArray) (n : Nat) : (s.extract 0 n).data.toList = s.data.toList.take n := by simp
theorem take_size (s : ByteArray) (n : Nat) (h : n ≤ s.size) : (s.extract 0 n).size = n := by simp; omega
theorem str_data (s : ByteArray) : str s.data.toList = s := rfl
/-- the end of a walk that stores a word into its result. -/
theorem word_end {w W : World} {g : Nat} {t : TypeId} {k n : Int} {s : ByteArray} (h : RowW W g t k s n) (hb : Below w.heap.size w W) (hg : w.heap.size ≤ g) (k' n' : Int) (s' : ByteArray) :
    ∃ W', W' = ((W.setCell ⟨g, 0, none⟩ (.int .i64 k')).setCell ⟨g, 1, none⟩ (.string s')).setCell ⟨g, 2, none⟩ (.int .i64 n') ∧ Below w.heap.size w W' ∧ RowW W' g t k' s' n' :=
  ⟨_, rfl, ((hb.setCell (p := ⟨g, 0, none⟩) hg _).setCell (p := ⟨g, 1, none⟩) hg _).setCell (p := ⟨g, 2, none⟩) hg _, h.set3 k' n' s'⟩

set_option maxRecDepth 100000 in
set_option maxHeartbeats 1000000 in
theorem firstName_long (s : ByteArray) (w : World) (hs : s.size ≤ 6000) (hn : 16 < (s.data.toList.takeWhile Lx.nm).length) :
    Calls Tryz.prog 53 #[.string s] w fun e w' => e = .returned (.tuple #[wd 0 ⟨#[]⟩ 0, .int .i64 3]) ∧ Below w.heap.size w w' := by
  have R0 := Lib.hid (RowW.new w 68 0 0 ⟨#[]⟩)
  have B0 := Lib.hid ((Below.refl w.heap.size w).alloc (Nat.le_refl _) (.cells #[.int .i64 0, .string ⟨#[]⟩, .int .i64 0] 68))
  have RN := Lib.hid (fun w => run_inNames s w hs)
  have hl := Lx.tw_le Lx.nm s.data.toList
  rw [list_size] at hl
  generalize (s.data.toList.takeWhile Lx.nm).length = n at *
  have hn2 : (16 : Int) < (n : Int) := by omega
  have hn3 : (n : Int) ≤ s.size := by omega
  have hs2 : (s.size : Int) ≤ 6000 := by omega
  go_enter Tryz.func53, Tryz.ntmps53
  go_wp2_with fail
  refine (RN.out _).mono ?_
  rintro e w1 ⟨rfl, hb1⟩
  have R1 := Lib.hid (R0.out.below hb1 R0.out.lt)
  have B1 := Lib.hid (bstep B0.out hb1)
  clear hb1 R0 B0 RN
  have R2 := Lib.hid (R1.out.alloc (.cells #[.int .i64 1, .string (s.extract 0 n), .int .i64 n] 68))
  have B2 := Lib.hid (B1.out.alloc B1.out.size (.cells #[.int .i64 1, .string (s.extract 0 n), .int .i64 n] 68))
  obtain ⟨d1, d2, d3⟩ := R2.out.cells
  have f0 := R2.out.frozen 0
  have f1 := R2.out.frozen 1
  have f2 := R2.out.frozen 2
  go_wp2
  obtain ⟨W, hW, hb, hq⟩ := word_end R2.out B2.out (Nat.le_refl _) 0 0 ⟨#[]⟩
  rw [← hW]
  obtain ⟨q1, q2, q3⟩ := hq.cells
  exact bodyPost_ret (v := .tuple #[wd 0 ⟨#[]⟩ 0, .int .i64 3]) (by simp [results, Tryz.results53, go_sem, q1, q2, q3]) rfl ⟨rfl, hb⟩
set_option maxRecDepth 100000 in
set_option maxHeartbeats 1000000 in
theorem firstName_word (s : ByteArray) (w : World) (hs : s.size ≤ 6000) (hn : (s.data.toList.takeWhile Lx.nm).length ≤ 16) (hr : Lx.res (s.data.toList.takeWhile Lx.nm) = true) :
    Calls Tryz.prog 53 #[.string s] w fun e w' => e = .returned (.tuple #[wd 2 (str (s.data.toList.takeWhile Lx.nm)) ((s.data.toList.takeWhile Lx.nm).length : Nat), .int .i64 0]) ∧ Below w.heap.size w w' := by
  have R0 := Lib.hid (RowW.new w 68 0 0 ⟨#[]⟩)
  have B0 := Lib.hid ((Below.refl w.heap.size w).alloc (Nat.le_refl _) (.cells #[.int .i64 0, .string ⟨#[]⟩, .int .i64 0] 68))
  have RN := Lib.hid (fun w => run_inNames s w hs)
  have hl := Lx.tw_le Lx.nm s.data.toList
  rw [list_size] at hl
  have ht := Lx.tw_take Lx.nm s.data.toList
  have he : (s.extract 0 (s.data.toList.takeWhile Lx.nm).length) = str (s.data.toList.takeWhile Lx.nm) := by
    apply ByteArray.ext
    apply Array.ext'
    rw [take_str, ht]
  rw [← he]
  have RS : Hid (∀ w, Calls Tryz.prog 72 #[.string (s.extract 0 (s.data.toList.takeWhile Lx.nm).length)] w fun e w' => e = .returned (.bool true) ∧ w' = w) := Lib.hid (fun w => by
    have := reserved_any (s.extract 0 (s.data.toList.takeWhile Lx.nm).length) w
    rw [take_str, ht, hr] at this
    exact this)
  clear he ht hr
  generalize (s.data.toList.takeWhile Lx.nm).length = n at *
  have hn2 : ¬ (16 : Int) < (n : Int) := by omega
  have hn3 : (n : Int) ≤ s.size := by omega
  have hs2 : (s.size : Int) ≤ 6000 := by omega
  go_enter Tryz.func53, Tryz.ntmps53
  go_wp2_with fail
  refine (RN.out _).mono ?_
  rintro e w1 ⟨rfl, hb1⟩
  have R1 := Lib.hid (R0.out.below hb1 R0.out.lt)
  have B1 := Lib.hid (bstep B0.out hb1)
  clear hb1 R0 B0 RN
  have R2 := Lib.hid (R1.out.alloc (.cells #[.int .i64 2, .string (s.extract 0 n), .int .i64 n] 68))
  have B2 := Lib.hid (B1.out.alloc B1.out.size (.cells #[.int .i64 2, .string (s.extract 0 n), .int .i64 n] 68))
  go_wp2_with fail
  refine (RS.out _).mono ?_
  rintro e w2 ⟨rfl, rfl⟩
  obtain ⟨d1, d2, d3⟩ := R2.out.cells
  have f0 := R2.out.frozen 0
  have f1 := R2.out.frozen 1
  have f2 := R2.out.frozen 2
  go_wp2
  obtain ⟨W, hW, hb, hq⟩ := word_end R2.out B2.out (Nat.le_refl _) 2 (n : Int) (s.extract 0 n)
  rw [← hW]
  obtain ⟨q1, q2, q3⟩ := hq.cells
  exact bodyPost_ret (v := .tuple #[wd 2 (s.extract 0 n) (n : Int), .int .i64 0]) (by simp [results, Tryz.results53, go_sem, q1, q2, q3]) rfl ⟨rfl, hb⟩
set_option maxRecDepth 100000 in
set_option maxHeartbeats 1000000 in
theorem firstName_name (s : ByteArray) (w : World) (hs : s.size ≤ 6000) (hn : (s.data.toList.takeWhile Lx.nm).length ≤ 16) (hr : Lx.res (s.data.toList.takeWhile Lx.nm) = false) :
    Calls Tryz.prog 53 #[.string s] w fun e w' => e = .returned (.tuple #[wd 1 (str (s.data.toList.takeWhile Lx.nm)) ((s.data.toList.takeWhile Lx.nm).length : Nat), .int .i64 0]) ∧ Below w.heap.size w w' := by
  have R0 := Lib.hid (RowW.new w 68 0 0 ⟨#[]⟩)
  have B0 := Lib.hid ((Below.refl w.heap.size w).alloc (Nat.le_refl _) (.cells #[.int .i64 0, .string ⟨#[]⟩, .int .i64 0] 68))
  have RN := Lib.hid (fun w => run_inNames s w hs)
  have hl := Lx.tw_le Lx.nm s.data.toList
  rw [list_size] at hl
  have ht := Lx.tw_take Lx.nm s.data.toList
  have he : (s.extract 0 (s.data.toList.takeWhile Lx.nm).length) = str (s.data.toList.takeWhile Lx.nm) := by
    apply ByteArray.ext
    apply Array.ext'
    rw [take_str, ht]
  rw [← he]
  have RS : Hid (∀ w, Calls Tryz.prog 72 #[.string (s.extract 0 (s.data.toList.takeWhile Lx.nm).length)] w fun e w' => e = .returned (.bool false) ∧ w' = w) := Lib.hid (fun w => by
    have := reserved_any (s.extract 0 (s.data.toList.takeWhile Lx.nm).length) w
    rw [take_str, ht, hr] at this
    exact this)
  clear he ht hr
  generalize (s.data.toList.takeWhile Lx.nm).length = n at *
  have hn2 : ¬ (16 : Int) < (n : Int) := by omega
  have hn3 : (n : Int) ≤ s.size := by omega
  have hs2 : (s.size : Int) ≤ 6000 := by omega
  go_enter Tryz.func53, Tryz.ntmps53
  go_wp2_with fail
  refine (RN.out _).mono ?_
  rintro e w1 ⟨rfl, hb1⟩
  have R1 := Lib.hid (R0.out.below hb1 R0.out.lt)
  have B1 := Lib.hid (bstep B0.out hb1)
  clear hb1 R0 B0 RN
  have R2 := Lib.hid (R1.out.alloc (.cells #[.int .i64 1, .string (s.extract 0 n), .int .i64 n] 68))
  have B2 := Lib.hid (B1.out.alloc B1.out.size (.cells #[.int .i64 1, .string (s.extract 0 n), .int .i64 n] 68))
  go_wp2_with fail
  refine (RS.out _).mono ?_
  rintro e w2 ⟨rfl, rfl⟩
  obtain ⟨d1, d2, d3⟩ := R2.out.cells
  have f0 := R2.out.frozen 0
  have f1 := R2.out.frozen 1
  have f2 := R2.out.frozen 2
  go_wp2
  obtain ⟨W, hW, hb, hq⟩ := word_end R2.out B2.out (Nat.le_refl _) 1 (n : Int) (s.extract 0 n)
  rw [← hW]
  obtain ⟨q1, q2, q3⟩ := hq.cells
  exact bodyPost_ret (v := .tuple #[wd 1 (s.extract 0 n) (n : Int), .int .i64 0]) (by simp [results, Tryz.results53, go_sem, q1, q2, q3]) rfl ⟨rfl, hb⟩
end Go.Proofs.YtbpknainmefidaaGreatDoor
