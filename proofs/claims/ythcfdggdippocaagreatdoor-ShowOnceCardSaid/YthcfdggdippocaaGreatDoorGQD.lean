import Derived.Test.YthcfdggdippocaaGreatDoorPB0
import Derived.Lib.OthersKept
import Derived.Lib.Builder
import Derived.Lib.AppendStr
import Derived.Lib.UnsafeStr
import Derived.Shelf.RegionOpenPlain
import Derived.Laws.Externs
import Derived.Test.YthcfdggdippocaaGreatDoorGQA
import Derived.Test.YthcfdggdippocaaGreatDoorHMC
import Derived.Test.YthcfdggdippocaaGreatDoorGQC
import Derived.Test.YthcfdggdippocaaGreatDoorPI
import Derived.Test.YthcfdggdippocaaGreatDoorPE
import Derived.Test.YthcfdggdippocaaGreatDoorHMB
import Derived.Lib.ItoaLen

/- strings.Builder at the head of a printer: WriteString, Len, String. -/
namespace Go.Proofs.YthcfdggdippocaaGreatDoor
open Go.RowKit
set_option linter.unusedVariables false
set_option linter.unusedSimpArgs false
set_option maxRecDepth 100000

theorem infoPrinter : (Tryz.prog.info? 49).map (·.size) = some 2 := by kernel_rfl
theorem infoBuilder : (Tryz.prog.info? 47).map (·.size) = some 2 := by kernel_rfl
theorem liesPrinter : liesAt Tryz.prog Tryz.prog.depth 49 (2 / Tryz.prog.cellsOf 49) 0 47 1 = true := by kernel_rfl
theorem infoU8 : (Tryz.prog.info? 5).map (fun i => (i.zero, i.size, i.bytes)) = some (some (.int .u8 0), 1, 1) := by kernel_rfl
theorem cellsU8 : Tryz.prog.cellsOf 5 = 1 := by kernel_rfl
/-- a printer that holds these bytes. -/
def PrB (B b : Nat) (l : List UInt8) (w : World) : Prop := Lib.IsBuilder 49 5 B b (Lib.byteCells l) w
abbrev Oth (b : Nat) (w w' : World) : Prop := Lib.OthersKept 5 (some b) w w'
theorem copyCheck_used (b : Nat) (w : World) (h0 : w.cell? ⟨b, 0, none⟩ = some (.pointer (some ⟨b, 0, none⟩))) :
    Calls Tryz.prog 50 #[.pointer (some ⟨b, 0, none⟩)] w fun e w' => e = .returned (.tuple #[]) ∧ w' = w := by
  obtain ⟨j, hj, _⟩ := Option.map_eq_some_iff.1 infoBuilder
  go_enter Tryz.func50, Tryz.ntmps50
  go_wp2
  rw [Lib.run_neq_ptr_same w _ Tryz.underlying44 hj]
  go_wp2
  go_end0
  exact ⟨rfl, rfl⟩
theorem copyCheck_fresh (b : Nat) (w : World) (h0 : w.cell? ⟨b, 0, none⟩ = some (.pointer none)) (hsh : w.shape? b = some (49, 2)) (hfz : w.frozen? ⟨b, 0, none⟩ = false) :
    Calls Tryz.prog 50 #[.pointer (some ⟨b, 0, none⟩)] w fun e w' => e = .returned (.tuple #[]) ∧ w' = w.setCell ⟨b, 0, none⟩ (.pointer (some ⟨b, 0, none⟩)) := by
  obtain ⟨j, hj, hjs⟩ := Option.map_eq_some_iff.1 infoBuilder
  go_enter Tryz.func50, Tryz.ntmps50
  go_wp2
  rw [Lib.run_to_unsafe w ⟨b, 0, none⟩ Tryz.underlying44 Tryz.underlying101 hj (by rw [hjs]; decide) hsh (Nat.zero_lt_succ 1)]
  simp only [Result.andThen]
  rw [Oper.upon_value]
  go_wp2
  rw [run_callFunc_extern Tryz.func70 (by kernel_rfl) (by kernel_rfl) (by kernel_rfl) (e := Extern.AbiNoEscape.same) (by kernel_rfl)]
  rw [Lib.run_noEscape]
  simp only [Result.andThen]
  rw [Oper.upon_value]
  go_wp2
  rw [Lib.run_from_unsafe w ⟨b, 0, none⟩ Tryz.underlying101 Tryz.underlying44 hj hsh liesPrinter]
  simp only [Result.andThen]
  rw [Oper.upon_value]
  go_wp2
  go_end0
  exact ⟨rfl, rfl⟩
theorem copyCheck_any (B b : Nat) (bs : List Value) (w : World) (h : Lib.IsBuilder 49 5 B b bs w) :
    Calls Tryz.prog 50 #[.pointer (some ⟨b, 0, none⟩)] w fun e w' => e = .returned (.tuple #[]) ∧ Lib.BuilderAt 49 5 B b (.pointer (some ⟨b, 0, none⟩)) bs w' ∧ Below B w w' ∧ Oth b w w' := by
  rcases h with h | h
  · refine (copyCheck_fresh b w h.cell0 h.shape h.frozen0).mono ?_
    rintro e w' ⟨rfl, rfl⟩
    exact ⟨rfl, h.used _, (Below.refl B w).setCell (p := ⟨b, 0, none⟩) h.1 _, Lib.OthersKept.setCell (b := b) (Lib.OthersKept.refl _ _ _) ⟨b, 0, none⟩ rfl _⟩
  · refine (copyCheck_used b w h.cell0).mono ?_
    rintro e w' ⟨rfl, rfl⟩
    exact ⟨rfl, h, Below.refl B _, Lib.OthersKept.refl _ _ _⟩
set_option maxHeartbeats 2000000 in
theorem write_any (B b : Nat) (l : List UInt8) (s : ByteArray) (w : World) (h : PrB B b l w) (hlen : l.length + s.size ≤ 140737488355328) (hBw : B ≤ w.heap.size) :
    Calls Tryz.prog 31 #[.pointer (some ⟨b, 0, none⟩), .string s] w fun e w' => e = .returned (.tuple #[.int .i64 s.size, .nilIface]) ∧ PrB B b (l ++ s.data.toList) w' ∧ Below B w w' ∧ Oth b w w' := by
  obtain ⟨i0, hi, hz0, hz1, hz2⟩ := info_parts infoU8
  have CK := copyCheck_any B b _ w h
  go_enter Tryz.func31, Tryz.ntmps31
  go_wp2_with fail
  refine CK.mono ?_
  rintro e w1 ⟨rfl, h1, hb1, ho1⟩
  obtain ⟨hB, v, hbk, hown, hne⟩ := h1
  rw [Lib.byteCells_length] at hown
  have c0 : w1.cell? ⟨b, 0, none⟩ = some (.pointer (some ⟨b, 0, none⟩)) := by rw [Lib.cell_of_heap hbk]; rfl
  have c1 : w1.cell? ⟨b, 1, none⟩ = some v := by rw [Lib.cell_of_heap hbk]; rfl
  go_wp2_with (at_builtin; refine Lib.wpList_append_own_string _ rfl _ _ 45 9 rfl B 5 i0 Tryz.underlying45 Tryz.underlying9 hi hz0 hz1 hz2 _ _ _ rfl hown s rfl ?c3 ?c4 ?c5 ?_)
  case c3 => unfold maxLen; omega
  case c4 => omega
  case c5 => have := hb1.size; omega
  intro v' w2 hown' hgrow _
  have hlt : b < w1.heap.size := by
    rcases Nat.lt_or_ge b w1.heap.size with h' | h'
    · exact h'
    · simp [Array.getElem?_eq_none h'] at hbk
  have hb2 : w2.heap[b]? = some (.cells #[.pointer (some ⟨b, 0, none⟩), v] 49 (0, 0)) := by
    rw [hgrow.block b hlt (fun e => hne e.symm)]
    exact hbk
  have d0 : w2.cell? ⟨b, 0, none⟩ = some (.pointer (some ⟨b, 0, none⟩)) := by rw [Lib.cell_of_heap hb2]; rfl
  have d1 : w2.cell? ⟨b, 1, none⟩ = some v := by rw [Lib.cell_of_heap hb2]; rfl
  have f1 : w2.frozen? ⟨b, 1, none⟩ = false := Lib.frozen_of_heap hb2 1
  obtain ⟨ao, n', cap, rfl⟩ : ∃ ao n' cap, v' = .slice ao n' cap := by
    rcases hown'.2 with ⟨hv, _⟩ | ⟨g, cap, cur, hv, _⟩
    · exact ⟨_, _, _, hv⟩
    · exact ⟨_, _, _, hv⟩
  go_wp2
  go_ret2
  refine ⟨rfl, .inr ?_, ?_, ?_⟩
  · have := Lib.BuilderAt.put (T := 49) (e := 5) hB hb2 (bs' := Lib.byteCells l ++ Lib.strCells s) (v' := .slice ao n' cap) (by simpa [Lib.strCells_length, Lib.byteCells_length] using hown') (by decide)
    rwa [Lib.strCells_eq, ← Lib.byteCells_append] at this
  · exact (hb1.grown hgrow (by have := hb1.size; omega) (fun k hk => (hown.lt k hk).1)).setCell (p := ⟨b, 1, none⟩) hB _
  · exact Lib.OthersKept.setCell (b := b) (ho1.grown hgrow (Lib.ownsRowF_kind (World.ownsRowF_of hown))) ⟨b, 1, none⟩ rfl _
theorem len_any (B b : Nat) (l : List UInt8) (w : World) (h : PrB B b l w) :
    Calls Tryz.prog 19 #[.pointer (some ⟨b, 0, none⟩)] w fun e w' => e = .returned (.int .i64 l.length) ∧ w' = w := by
  obtain ⟨p, hB, v, hbk, hown, hne⟩ : ∃ p, Lib.BuilderAt 49 5 B b p (Lib.byteCells l) w := by
    rcases h with h | h
    · exact ⟨_, h⟩
    · exact ⟨_, h⟩
  rw [Lib.byteCells_length] at hown
  obtain ⟨ao, cap, rfl⟩ : ∃ ao cap, v = .slice ao l.length cap := by
    rcases hown.2 with ⟨hv, h0⟩ | ⟨g, cap, cur, hv, _⟩
    · exact ⟨none, 0, by rw [hv, h0]⟩
    · exact ⟨_, _, hv⟩
  have c1 : w.cell? ⟨b, 1, none⟩ = some (.slice ao l.length cap) := by rw [Lib.cell_of_heap hbk]; rfl
  go_enter Tryz.func19, Tryz.ntmps19
  go_wp2
  go_ret
  exact ⟨rfl, rfl⟩
set_option maxHeartbeats 2000000 in
theorem string_any (B b : Nat) (l : List UInt8) (w : World) (h : PrB B b l w) (h0 : l ≠ []) :
    Calls Tryz.prog 20 #[.pointer (some ⟨b, 0, none⟩)] w fun e w' => e = .returned (.string ⟨l.toArray⟩) ∧ Below B w w' := by
  obtain ⟨p, hB, v, hbk, hown, hne⟩ : ∃ p, Lib.BuilderAt 49 5 B b p (Lib.byteCells l) w := by
    rcases h with h | h
    · exact ⟨_, h⟩
    · exact ⟨_, h⟩
  have hl0 : l.length ≠ 0 := by simpa using h0
  rw [Lib.byteCells_length] at hown
  obtain ⟨g, cap, cur, rfl, hbg, hg, hnc, hcm, hcs, htake⟩ : ∃ g cap cur, v = .slice (some ⟨g, 0, none⟩) l.length cap ∧ B ≤ g ∧ w.heap[g]? = some (.cells cur 5 (0, 0)) ∧ l.length ≤ cap ∧ cap ≤ maxLen ∧ cur.size = cap * 1 ∧ cur.toList.take (l.length * 1) = Lib.byteCells l := by
    rcases hown.2 with ⟨_, hz⟩ | ⟨g, cap, cur, hv, r⟩
    · exact absurd hz hl0
    · exact ⟨g, cap, cur, hv, r⟩
  have c1 : w.drew.cell? ⟨b, 1, none⟩ = some (.slice (some ⟨g, 0, none⟩) l.length cap) := by
    have : w.drew.heap[b]? = some (.cells #[p, .slice (some ⟨g, 0, none⟩) l.length cap] 49 (0, 0)) := hbk
    rw [Lib.cell_of_heap this]; rfl
  have hSD : (Builtin.unsafeSliceData_ #[45] 70 #[.slice (some ⟨g, 0, none⟩) l.length cap]).run Tryz.prog w.drew = .ok (.pointer (some ⟨g, 0, none⟩)) w.drew :=
    Lib.run_unsafeSliceData_row _ _ _ _ _ _ (by omega)
  have hUS : (Builtin.unsafeString_ #[70, 3] 9 #[.pointer (some ⟨g, 0, none⟩), .int .i64 l.length]).run Tryz.prog w.drew = .ok (.string ⟨l.toArray⟩) (w.drew.freeze ⟨g, 0, none⟩ l.length) := by
    refine Lib.run_unsafeString_row w.drew 70 3 9 5 Tryz.underlying70 cellsU8 g cur.size (by have hg' : w.drew.heap[g]? = some (.cells cur 5 (0, 0)) := hg; simp [World.shape?, hg']) l h0 (by omega) (by unfold maxLen at hcm; omega) ?_
    intro j x hx
    have := hown.cells (g := g) rfl j (.int .u8 x.toNat) (by simp [Lib.byteCells, hx])
    exact this
  go_enter Tryz.func20, Tryz.ntmps20
  go_wp2
  go_region
  all_goals (go_wp2; go_ret; exact ⟨rfl, Lib.below_freeze (Below.drew (Below.refl B w)) (p := ⟨g, 0, none⟩) hbg _⟩)
end Go.Proofs.YthcfdggdippocaaGreatDoor

/- Levels of nodes: the program's and the reference's (gen_gr.py). -/
namespace Go.Proofs.YthcfdggdippocaaGreatDoor
open Go.RowKit Go.Lib
set_option linter.unusedVariables false
set_option linter.unusedSimpArgs false
set_option maxRecDepth 100000
open Ex (Tree)
def Ex.mlvI (l : List UInt8) : Int :=
  bif l == [111, 114] then 0 else
  bif l == [97, 110, 100] then 1 else
  bif l == [61] then 3 else
  bif l == [33, 61] then 3 else
  bif l == [60] then 3 else
  bif l == [60, 61] then 3 else
  bif l == [62] then 3 else
  bif l == [62, 61] then 3 else
  bif l == [43] then 4 else
  bif l == [45] then 4 else
  bif l == [38] then 4 else
  bif l == [42] then 5 else
  bif l == [47] then 5 else
  bif l == [37] then 5 else
  7
theorem mlvI_eq (l : List UInt8) : Ex.mlvI l = (Ps.mlev l : Nat) := by
  unfold Ex.mlvI Ps.mlev Ex.lev
  repeat (first | rfl | (cases (l == _) <;> simp only [cond_true, cond_false]))
set_option maxRecDepth 100000 in
theorem markLevel_0 (s : ByteArray) (w : World)  (h0 : (s.toList == [111, 114]) = true) :
    Calls Tryz.prog 21 #[.string s] w fun e w' => e = .returned (.int .i64 0) ∧ w' = w := by
  go_enter Tryz.func21, Tryz.ntmps21
  go_wp2
  go_ret
  exact ⟨rfl, rfl⟩
set_option maxRecDepth 100000 in
theorem markLevel_1 (s : ByteArray) (w : World) (h0 : (s.toList == [111, 114]) = false) (h1 : (s.toList == [97, 110, 100]) = true) :
    Calls Tryz.prog 21 #[.string s] w fun e w' => e = .returned (.int .i64 1) ∧ w' = w := by
  go_enter Tryz.func21, Tryz.ntmps21
  go_wp2
  go_ret
  exact ⟨rfl, rfl⟩
set_option maxRecDepth 100000 in
theorem markLevel_2 (s : ByteArray) (w : World) (h0 : (s.toList == [111, 114]) = false) (h1 : (s.toList == [97, 110, 100]) = false) (h2 : (s.toList == [61]) = true) :
    Calls Tryz.prog 21 #[.string s] w fun e w' => e = .returned (.int .i64 3) ∧ w' = w := by
  go_enter Tryz.func21, Tryz.ntmps21
  go_wp2
  go_ret
  exact ⟨rfl, rfl⟩
set_option maxRecDepth 100000 in
theorem markLevel_3 (s : ByteArray) (w : World) (h0 : (s.toList == [111, 114]) = false) (h1 : (s.toList == [97, 110, 100]) = false) (h2 : (s.toList == [61]) = false) (h3 : (s.toList == [33, 61]) = true) :
    Calls Tryz.prog 21 #[.string s] w fun e w' => e = .returned (.int .i64 3) ∧ w' = w := by
  go_enter Tryz.func21, Tryz.ntmps21
  go_wp2
  go_ret
  exact ⟨rfl, rfl⟩
set_option maxRecDepth 100000 in
theorem markLevel_4 (s : ByteArray) (w : World) (h0 : (s.toList == [111, 114]) = false) (h1 : (s.toList == [97, 110, 100]) = false) (h2 : (s.toList == [61]) = false) (h3 : (s.toList == [33, 61]) = false) (h4 : (s.toList == [60]) = true) :
    Calls Tryz.prog 21 #[.string s] w fun e w' => e = .returned (.int .i64 3) ∧ w' = w := by
  go_enter Tryz.func21, Tryz.ntmps21
  go_wp2
  go_ret
  exact ⟨rfl, rfl⟩
set_option maxRecDepth 100000 in
theorem markLevel_5 (s : ByteArray) (w : World) (h0 : (s.toList == [111, 114]) = false) (h1 : (s.toList == [97, 110, 100]) = false) (h2 : (s.toList == [61]) = false) (h3 : (s.toList == [33, 61]) = false) (h4 : (s.toList == [60]) = false) (h5 : (s.toList == [60, 61]) = true) :
    Calls Tryz.prog 21 #[.string s] w fun e w' => e = .returned (.int .i64 3) ∧ w' = w := by
  go_enter Tryz.func21, Tryz.ntmps21
  go_wp2
  go_ret
  exact ⟨rfl, rfl⟩
set_option maxRecDepth 100000 in
theorem markLevel_6 (s : ByteArray) (w : World) (h0 : (s.toList == [111, 114]) = false) (h1 : (s.toList == [97, 110, 100]) = false) (h2 : (s.toList == [61]) = false) (h3 : (s.toList == [33, 61]) = false) (h4 : (s.toList == [60]) = false) (h5 : (s.toList == [60, 61]) = false) (h6 : (s.toList == [62]) = true) :
    Calls Tryz.prog 21 #[.string s] w fun e w' => e = .returned (.int .i64 3) ∧ w' = w := by
  go_enter Tryz.func21, Tryz.ntmps21
  go_wp2
  go_ret
  exact ⟨rfl, rfl⟩
set_option maxRecDepth 100000 in
theorem markLevel_7 (s : ByteArray) (w : World) (h0 : (s.toList == [111, 114]) = false) (h1 : (s.toList == [97, 110, 100]) = false) (h2 : (s.toList == [61]) = false) (h3 : (s.toList == [33, 61]) = false) (h4 : (s.toList == [60]) = false) (h5 : (s.toList == [60, 61]) = false) (h6 : (s.toList == [62]) = false) (h7 : (s.toList == [62, 61]) = true) :
    Calls Tryz.prog 21 #[.string s] w fun e w' => e = .returned (.int .i64 3) ∧ w' = w := by
  go_enter Tryz.func21, Tryz.ntmps21
  go_wp2
  go_ret
  exact ⟨rfl, rfl⟩
set_option maxRecDepth 100000 in
theorem markLevel_8 (s : ByteArray) (w : World) (h0 : (s.toList == [111, 114]) = false) (h1 : (s.toList == [97, 110, 100]) = false) (h2 : (s.toList == [61]) = false) (h3 : (s.toList == [33, 61]) = false) (h4 : (s.toList == [60]) = false) (h5 : (s.toList == [60, 61]) = false) (h6 : (s.toList == [62]) = false) (h7 : (s.toList == [62, 61]) = false) (h8 : (s.toList == [43]) = true) :
    Calls Tryz.prog 21 #[.string s] w fun e w' => e = .returned (.int .i64 4) ∧ w' = w := by
  go_enter Tryz.func21, Tryz.ntmps21
  go_wp2
  go_ret
  exact ⟨rfl, rfl⟩
set_option maxRecDepth 100000 in
theorem markLevel_9 (s : ByteArray) (w : World) (h0 : (s.toList == [111, 114]) = false) (h1 : (s.toList == [97, 110, 100]) = false) (h2 : (s.toList == [61]) = false) (h3 : (s.toList == [33, 61]) = false) (h4 : (s.toList == [60]) = false) (h5 : (s.toList == [60, 61]) = false) (h6 : (s.toList == [62]) = false) (h7 : (s.toList == [62, 61]) = false) (h8 : (s.toList == [43]) = false) (h9 : (s.toList == [45]) = true) :
    Calls Tryz.prog 21 #[.string s] w fun e w' => e = .returned (.int .i64 4) ∧ w' = w := by
  go_enter Tryz.func21, Tryz.ntmps21
  go_wp2
  go_ret
  exact ⟨rfl, rfl⟩
set_option maxRecDepth 100000 in
theorem markLevel_10 (s : ByteArray) (w : World) (h0 : (s.toList == [111, 114]) = false) (h1 : (s.toList == [97, 110, 100]) = false) (h2 : (s.toList == [61]) = false) (h3 : (s.toList == [33, 61]) = false) (h4 : (s.toList == [60]) = false) (h5 : (s.toList == [60, 61]) = false) (h6 : (s.toList == [62]) = false) (h7 : (s.toList == [62, 61]) = false) (h8 : (s.toList == [43]) = false) (h9 : (s.toList == [45]) = false) (h10 : (s.toList == [38]) = true) :
    Calls Tryz.prog 21 #[.string s] w fun e w' => e = .returned (.int .i64 4) ∧ w' = w := by
  go_enter Tryz.func21, Tryz.ntmps21
  go_wp2
  go_ret
  exact ⟨rfl, rfl⟩
set_option maxRecDepth 100000 in
theorem markLevel_11 (s : ByteArray) (w : World) (h0 : (s.toList == [111, 114]) = false) (h1 : (s.toList == [97, 110, 100]) = false) (h2 : (s.toList == [61]) = false) (h3 : (s.toList == [33, 61]) = false) (h4 : (s.toList == [60]) = false) (h5 : (s.toList == [60, 61]) = false) (h6 : (s.toList == [62]) = false) (h7 : (s.toList == [62, 61]) = false) (h8 : (s.toList == [43]) = false) (h9 : (s.toList == [45]) = false) (h10 : (s.toList == [38]) = false) (h11 : (s.toList == [42]) = true) :
    Calls Tryz.prog 21 #[.string s] w fun e w' => e = .returned (.int .i64 5) ∧ w' = w := by
  go_enter Tryz.func21, Tryz.ntmps21
  go_wp2
  go_ret
  exact ⟨rfl, rfl⟩
set_option maxRecDepth 100000 in
theorem markLevel_12 (s : ByteArray) (w : World) (h0 : (s.toList == [111, 114]) = false) (h1 : (s.toList == [97, 110, 100]) = false) (h2 : (s.toList == [61]) = false) (h3 : (s.toList == [33, 61]) = false) (h4 : (s.toList == [60]) = false) (h5 : (s.toList == [60, 61]) = false) (h6 : (s.toList == [62]) = false) (h7 : (s.toList == [62, 61]) = false) (h8 : (s.toList == [43]) = false) (h9 : (s.toList == [45]) = false) (h10 : (s.toList == [38]) = false) (h11 : (s.toList == [42]) = false) (h12 : (s.toList == [47]) = true) :
    Calls Tryz.prog 21 #[.string s] w fun e w' => e = .returned (.int .i64 5) ∧ w' = w := by
  go_enter Tryz.func21, Tryz.ntmps21
  go_wp2
  go_ret
  exact ⟨rfl, rfl⟩
set_option maxRecDepth 100000 in
theorem markLevel_13 (s : ByteArray) (w : World) (h0 : (s.toList == [111, 114]) = false) (h1 : (s.toList == [97, 110, 100]) = false) (h2 : (s.toList == [61]) = false) (h3 : (s.toList == [33, 61]) = false) (h4 : (s.toList == [60]) = false) (h5 : (s.toList == [60, 61]) = false) (h6 : (s.toList == [62]) = false) (h7 : (s.toList == [62, 61]) = false) (h8 : (s.toList == [43]) = false) (h9 : (s.toList == [45]) = false) (h10 : (s.toList == [38]) = false) (h11 : (s.toList == [42]) = false) (h12 : (s.toList == [47]) = false) (h13 : (s.toList == [37]) = true) :
    Calls Tryz.prog 21 #[.string s] w fun e w' => e = .returned (.int .i64 5) ∧ w' = w := by
  go_enter Tryz.func21, Tryz.ntmps21
  go_wp2
  go_ret
  exact ⟨rfl, rfl⟩
set_option maxRecDepth 100000 in
theorem markLevel_none (s : ByteArray) (w : World) (h0 : (s.toList == [111, 114]) = false) (h1 : (s.toList == [97, 110, 100]) = false) (h2 : (s.toList == [61]) = false) (h3 : (s.toList == [33, 61]) = false) (h4 : (s.toList == [60]) = false) (h5 : (s.toList == [60, 61]) = false) (h6 : (s.toList == [62]) = false) (h7 : (s.toList == [62, 61]) = false) (h8 : (s.toList == [43]) = false) (h9 : (s.toList == [45]) = false) (h10 : (s.toList == [38]) = false) (h11 : (s.toList == [42]) = false) (h12 : (s.toList == [47]) = false) (h13 : (s.toList == [37]) = false) :
    Calls Tryz.prog 21 #[.string s] w fun e w' => e = .returned (.int .i64 (7)) ∧ w' = w := by
  go_enter Tryz.func21, Tryz.ntmps21
  go_wp2
  go_ret
  exact ⟨rfl, rfl⟩
theorem markLevel_any (s : ByteArray) (w : World) : Calls Tryz.prog 21 #[.string s] w fun e w' => e = .returned (.int .i64 (Ex.mlvI s.data.toList)) ∧ w' = w := by
  have hl : s.data.toList = s.toList := (ByteArray.toList_eq s).symm
  rw [hl, Ex.mlvI]
  cases h0 : s.toList == [111, 114]
  case true => exact markLevel_0 s w h0
  rw [cond_false]
  cases h1 : s.toList == [97, 110, 100]
  case true => exact markLevel_1 s w h0 h1
  rw [cond_false]
  cases h2 : s.toList == [61]
  case true => exact markLevel_2 s w h0 h1 h2
  rw [cond_false]
  cases h3 : s.toList == [33, 61]
  case true => exact markLevel_3 s w h0 h1 h2 h3
  rw [cond_false]
  cases h4 : s.toList == [60]
  case true => exact markLevel_4 s w h0 h1 h2 h3 h4
  rw [cond_false]
  cases h5 : s.toList == [60, 61]
  case true => exact markLevel_5 s w h0 h1 h2 h3 h4 h5
  rw [cond_false]
  cases h6 : s.toList == [62]
  case true => exact markLevel_6 s w h0 h1 h2 h3 h4 h5 h6
  rw [cond_false]
  cases h7 : s.toList == [62, 61]
  case true => exact markLevel_7 s w h0 h1 h2 h3 h4 h5 h6 h7
  rw [cond_false]
  cases h8 : s.toList == [43]
  case true => exact markLevel_8 s w h0 h1 h2 h3 h4 h5 h6 h7 h8
  rw [cond_false]
  cases h9 : s.toList == [45]
  case true => exact markLevel_9 s w h0 h1 h2 h3 h4 h5 h6 h7 h8 h9
  rw [cond_false]
  cases h10 : s.toList == [38]
  case true => exact markLevel_10 s w h0 h1 h2 h3 h4 h5 h6 h7 h8 h9 h10
  rw [cond_false]
  cases h11 : s.toList == [42]
  case true => exact markLevel_11 s w h0 h1 h2 h3 h4 h5 h6 h7 h8 h9 h10 h11
  rw [cond_false]
  cases h12 : s.toList == [47]
  case true => exact markLevel_12 s w h0 h1 h2 h3 h4 h5 h6 h7 h8 h9 h10 h11 h12
  rw [cond_false]
  cases h13 : s.toList == [37]
  case true => exact markLevel_13 s w h0 h1 h2 h3 h4 h5 h6 h7 h8 h9 h10 h11 h12 h13
  rw [cond_false]
  exact markLevel_none s w h0 h1 h2 h3 h4 h5 h6 h7 h8 h9 h10 h11 h12 h13
theorem refLev_mlev (l : List UInt8) : (0 ≤ Ex.refLev l ∧ Ex.refLev l = (Ps.mlev l : Nat)) ∨ (Ex.refLev l = -1 ∧ Ps.mlev l = 7) := by
  have h : Ex.lev l = 0 ∨ Ex.lev l = 1 ∨ Ex.lev l = 2 ∨ Ex.lev l = 3 ∨ Ex.lev l = 4 ∨ Ex.lev l = 5 := by
    unfold Ex.lev
    repeat (first | decide | (cases (l == _) <;> simp only [cond_true, cond_false]))
  unfold Ex.refLev Ps.mlev
  rcases h with h | h | h | h | h | h <;> rw [h] <;> decide
variable {w : World} {op : Int} {t : List UInt8} {vk vn : Int} {vs : List UInt8} {A : Option Addr} {n c : Nat}
theorem slev_eq (op : Int) (t : List UInt8) (vk vn : Int) (vs : List UInt8) (ks : List Tree) : Ps.slev (.node op t vk vn vs ks) = if op = 4 then 2 else if op = 3 then 6 else if op = 5 then Ps.mlev t else 7 := rfl
set_option maxHeartbeats 1000000 in
theorem shLevel_any (ks : List Tree) : Calls Tryz.prog 9 #[.agg (ncells op t vk vn vs A n c)] w fun e w' => e = .returned (.int .i64 (Ps.slev (.node op t vk vn vs ks) : Nat)) ∧ Below w.heap.size w w' := by
  have b0 : Below w.heap.size w (w.alloc (.cells (ncells op t vk vn vs A n c) 26)) := (Below.refl _ _).alloc (Nat.le_refl _) _
  have k0 := Whole.new w 26 (ncells op t vk vn vs A n c)
  rw [slev_eq]
  unfold ncells at *
  obtain ⟨W1, hW1⟩ : ∃ W1, w.alloc (.cells #[.int .i64 op, .string (tx t), .int .i64 vk, .int .i64 vn, .string (tx vs), .slice A n c] 26) = W1 := ⟨_, rfl⟩
  rw [hW1] at b0 k0
  obtain ⟨x0, x1, x2, x3, x4, x5⟩ := six_of k0
  have ML := Lib.hid (markLevel_any (tx t) W1)
  have B0 := Lib.hid b0
  clear b0 k0
  by_cases h4 : op = 4
  · subst h4
    rw [if_pos rfl]
    go_enter Tryz.func9, Tryz.ntmps9
    go_wp2_with fail
    go_ret
    exact ⟨rfl, B0.out⟩
  · rw [if_neg h4]
    have g4 : (op == 4) = false := by simpa using h4
    by_cases h3 : op = 3
    · subst h3
      rw [if_pos rfl]
      clear h4 g4
      go_enter Tryz.func9, Tryz.ntmps9
      go_wp2_with fail
      go_ret
      exact ⟨rfl, B0.out⟩
    · rw [if_neg h3]
      have g3 : (op == 3) = false := by simpa using h3
      by_cases h5 : op = 5
      · subst h5
        rw [if_pos rfl]
        clear h3 g3 h4 g4
        have e := mlvI_eq t
        have E := Lib.hid e
        clear e
        go_enter Tryz.func9, Tryz.ntmps9
        go_wp2_with fail
        refine ML.out.mono ?_
        rintro e w' ⟨rfl, rfl⟩
        rw [E.out]
        go_wp2_with fail
        go_ret
        exact ⟨rfl, B0.out⟩
      · rw [if_neg h5]
        have g5 : (op == 5) = false := by simpa using h5
        go_enter Tryz.func9, Tryz.ntmps9
        go_wp2_with fail
        go_ret
        exact ⟨rfl, B0.out⟩
set_option maxHeartbeats 1000000 in
theorem refLevel14_any (ks : List Tree) : Calls Tryz.prog 10 #[.agg (ncells op t vk vn vs A n c)] w fun e w' => e = .returned (.int .i64 (Ps.slev (.node op t vk vn vs ks) : Nat)) ∧ Below w.heap.size w w' := by
  have b0 : Below w.heap.size w (w.alloc (.cells (ncells op t vk vn vs A n c) 26)) := (Below.refl _ _).alloc (Nat.le_refl _) _
  have k0 := Whole.new w 26 (ncells op t vk vn vs A n c)
  rw [slev_eq]
  unfold ncells at *
  obtain ⟨W1, hW1⟩ : ∃ W1, w.alloc (.cells #[.int .i64 op, .string (tx t), .int .i64 vk, .int .i64 vn, .string (tx vs), .slice A n c] 26) = W1 := ⟨_, rfl⟩
  rw [hW1] at b0 k0
  have K0 := Lib.hid k0
  obtain ⟨x0, x1, x2, x3, x4, x5⟩ := six_of k0
  have B0 := Lib.hid b0
  clear b0 k0
  by_cases h4 : op = 4
  · subst h4
    rw [if_pos rfl]
    go_enter Tryz.func10, Tryz.ntmps10
    go_wp2_with fail
    go_ret
    exact ⟨rfl, B0.out⟩
  · rw [if_neg h4]
    have g4 : (op == 4) = false := by simpa using h4
    by_cases h3 : op = 3
    · subst h3
      rw [if_pos rfl]
      clear h4 g4
      go_enter Tryz.func10, Tryz.ntmps10
      go_wp2_with fail
      go_ret
      exact ⟨rfl, B0.out⟩
    · rw [if_neg h3]
      have g3 : (op == 3) = false := by simpa using h3
      by_cases h5 : op = 5
      · subst h5
        rw [if_pos rfl]
        clear h3 g3 h4 g4
        obtain ⟨rl, hrl⟩ : ∃ rl, Ex.refLev t = rl := ⟨_, rfl⟩
        have RL : Hid (∀ W, Calls Tryz.prog 22 #[.string (tx t)] W fun e w' => e = .returned (.int .i64 rl) ∧ Below W.heap.size W w') := Lib.hid (fun W => by
          have := refLevel_any (tx t) W
          rw [show (tx t).data.toList = t from rfl, hrl] at this
          exact this)
        have RL1 := Lib.hid (RL.out W1)
        have hm := refLev_mlev t
        rw [hrl] at hm
        have HM := Lib.hid hm
        clear hrl hm
        go_enter Tryz.func10, Tryz.ntmps10
        go_wp2_with fail
        refine RL1.out.mono ?_
        rintro e W2 ⟨rfl, hb2⟩
        have k2 := K0.out.below hb2 K0.out.lt
        obtain ⟨x0, x1, x2, x3, x4, x5⟩ := six_of k2
        have B2 : Hid (Below w.heap.size w W2) := Lib.hid (bstep B0.out hb2)
        have RL2 := Lib.hid (RL.out W2)
        clear hb2 k2 RL1
        rcases HM.out with ⟨h0, hm⟩ | ⟨h0, hm⟩
        · have HMM := Lib.hid hm
          have g0 : decide (0 ≤ rl) = true := by simpa using h0
          clear hm h0
          go_wp2_with fail
          refine RL2.out.mono ?_
          rintro e W3 ⟨rfl, hb3⟩
          have B3 : Hid (Below w.heap.size w W3) := Lib.hid (bstep B2.out hb3)
          clear hb3
          go_wp2_with fail
          go_ret
          exact ⟨by rw [HMM.out]; rfl, B3.out⟩
        · subst h0
          have HMM := Lib.hid hm
          clear hm
          go_wp2_with fail
          go_ret
          exact ⟨by rw [HMM.out]; rfl, B2.out⟩
      · rw [if_neg h5]
        have g5 : (op == 5) = false := by simpa using h5
        go_enter Tryz.func10, Tryz.ntmps10
        go_wp2_with fail
        go_ret
        exact ⟨rfl, B0.out⟩
end Go.Proofs.YthcfdggdippocaaGreatDoor

/- The printer: what it holds, a text written, a value's print; kid. -/
namespace Go.Proofs.YthcfdggdippocaaGreatDoor
open Go.RowKit Go.Lib
set_option linter.unusedVariables false
set_option linter.unusedSimpArgs false
set_option maxRecDepth 100000
open Ex (Tree)

theorem PrB.lt {B b : Nat} {l : List UInt8} {w : World} (h : PrB B b l w) : b < w.heap.size := by
  rcases h with h | h
  · exact h.lt
  · exact h.lt
theorem PrB.below {B b : Nat} {l : List UInt8} {w w' : World} (h : PrB B b l w) (hb : Below w.heap.size w w') : PrB B b l w' := by
  have key : ∀ p, Lib.BuilderAt 49 5 B b p (Lib.byteCells l) w → Lib.BuilderAt 49 5 B b p (Lib.byteCells l) w' := fun p h => by
    have hlt := h.lt
    obtain ⟨hB, v, h1, h2, h3⟩ := h
    exact ⟨hB, v, (hb.block b hlt).trans h1, ownsRow_of_heap h2 fun k e => hb.block k (h2.lt k e).2, h3⟩
  exact h.imp (key _) (key _)
/-- a printer in a world behind another one. -/
structure PS (w0 : World) (b : Nat) (l : List UInt8) (w : World) : Prop where
  pr : PrB w0.heap.size b l w
  old : Below w0.heap.size w0 w
theorem PS.below {w0 w w' : World} {b : Nat} {l : List UInt8} (h : PS w0 b l w) (hb : Below w.heap.size w w') : PS w0 b l w' := ⟨h.pr.below hb, h.old.trans (hb.mono h.old.size)⟩
theorem PS.le {w0 w : World} {b : Nat} {l : List UInt8} (h : PS w0 b l w) : w0.heap.size ≤ b := by
  rcases h.pr with h | h
  · exact h.1
  · exact h.1
/-- what a writing leaves. -/
def Wrote (w0 : World) (b : Nat) (l : List UInt8) (w w' : World) : Prop := PS w0 b l w' ∧ Oth b w w' ∧ w.heap.size ≤ w'.heap.size
theorem Wrote.trans {w0 w w' w'' : World} {b : Nat} {l l' : List UInt8} (h : Wrote w0 b l w w') (k : Wrote w0 b l' w' w'') : Wrote w0 b l' w w'' := ⟨k.1, Lib.OthersKept.trans h.2.1 k.2.1, Nat.le_trans h.2.2 k.2.2⟩
theorem oth_below {w w1 w' : World} {b : Nat} (h : Oth b w w1) (hb : Below w1.heap.size w1 w') : Oth b w w' := fun k o hk hb' ho => by
  have h1 := h k o hk hb' ho
  exact (hb.block k (Array.getElem?_eq_some_iff.1 h1).1).trans h1
theorem Wrote.from {w0 w w1 w' : World} {b : Nat} {l : List UInt8} (h : Wrote w0 b l w1 w') (hb : Below w.heap.size w w1) : Wrote w0 b l w w' := ⟨h.1, Lib.OthersKept.trans (oth_below (Lib.OthersKept.refl _ _ w) hb) h.2.1, Nat.le_trans hb.size h.2.2⟩
theorem Wrote.to {w0 w w1 w' : World} {b : Nat} {l : List UInt8} (h : Wrote w0 b l w w1) (hb : Below w1.heap.size w1 w') : Wrote w0 b l w w' := ⟨h.1.below hb, oth_below h.2.1 hb, Nat.le_trans h.2.2 hb.size⟩
theorem whole_oth {w w' : World} {b g : Nat} {t : TypeId} {cs : Array Value} (h : Whole w g t cs) (ht : t ≠ 5) (hg : g ≠ b) (ho : Oth b w w') : Whole w' g t cs :=
  ho g _ h (by simpa using hg) (fun c fz e => by injection e with e1 e2 e3; exact ht e2)
theorem ws_any {w0 w1 : World} {b : Nat} {l : List UInt8} (h : PS w0 b l w1) (s : ByteArray) (hlen : l.length + s.size ≤ 140737488355328) (W : World) (hW : Below w1.heap.size w1 W) :
    Calls Tryz.prog 31 #[.pointer (some ⟨b, 0, none⟩), .string s] W fun e w' => e = .returned (.tuple #[.int .i64 s.size, .nilIface]) ∧ Wrote w0 b (l ++ s.data.toList) w1 w' := by
  have hp := h.below hW
  refine (write_any w0.heap.size b l s W hp.pr hlen hp.old.size).mono ?_
  rintro e w' ⟨rfl, h1, h2, h3⟩
  have hsz : W.heap.size ≤ w'.heap.size := by
    have := h2.size
    rcases Nat.lt_or_ge w'.heap.size W.heap.size with hlt | hge
    · exact absurd h2.size (by omega)
    · exact hge
  exact ⟨rfl, Wrote.from ⟨⟨h1, hp.old.trans h2⟩, h3, hsz⟩ hW⟩
/-- the print of a value that may stand in a tree. -/
theorem vprint_any (k n : Int) (s : List UInt8) (w : World) (a : Addr) (m : Int) (hv : Env w a m) (hb : valB k n (tx s) = true) (hn : Fits n) :
    Calls Tryz.prog 32 #[val k n (tx s)] w fun e w' => e = .returned (.string (tx (Ps.vpr k n s))) ∧ Below w.heap.size w w' := by
  have hp : plainB k n (tx s) = true := by simp only [valB, Bool.and_eq_true] at hb; exact hb.1
  have hs0 : (tx s).size = 0 → s = [] := fun h => by
    have e : (tx s).size = s.length := by simp [ByteArray.size]
    exact List.eq_nil_of_length_eq_zero (by omega)
  rcases plainB_iff.1 hp with ⟨rfl, rfl, h3⟩ | ⟨rfl, h3⟩ | ⟨rfl, rfl, h3⟩ | ⟨rfl, h3, h4, h5⟩
  · rw [hs0 h3]; exact print_null w
  · rw [hs0 h3]; exact print_int n w hn hv.tab
  · exact print_text (tx s) w h3 m hv.max
  · rw [hs0 h3]
    by_cases h1 : n = 1
    · subst h1; exact print_true w
    · have h0 : n = 0 := by omega
      subst h0; exact print_false w
def TreeC (w0 : World) (b : Nat) (T : Tree) : Prop := ∀ l w v, NodeV w0 v T → PS w0 b l w → l.length + (Ps.pr T).length ≤ 140737488355328 →
  Calls Tryz.prog 18 #[.pointer (some ⟨b, 0, none⟩), v] w fun e w' => e = .returned (.tuple #[]) ∧ Wrote w0 b (l ++ Ps.pr T) w w'
set_option maxHeartbeats 1000000 in
theorem kid_any {w0 : World} {b : Nat} {T : Tree} (HT : TreeC w0 b T) (n : Nat) (l : List UInt8) (w : World) (v : Value) (hv : NodeV w0 v T) (hp : PS w0 b l w) (hlen : l.length + (Ps.par n (Ps.slev T, Ps.pr T)).length ≤ 140737488355328) :
    Calls Tryz.prog 33 #[.pointer (some ⟨b, 0, none⟩), v, .int .i64 (n : Nat)] w fun e w' => e = .returned (.tuple #[]) ∧ Wrote w0 b (l ++ Ps.par n (Ps.slev T, Ps.pr T)) w w' := by
  cases T with
  | node op t vk vn vs ks =>
  have hv' := hv
  obtain ⟨A, c, rfl, hcc, hk⟩ := hv
  obtain ⟨T, hT⟩ : ∃ T, (.node op t vk vn vs ks : Tree) = T := ⟨_, rfl⟩
  have b0 : Below w.heap.size w (w.alloc (.cells (ncells op t vk vn vs A ks.length c) 26)) := (Below.refl _ _).alloc (Nat.le_refl _) _
  have k0 := Whole.new w 26 (ncells op t vk vn vs A ks.length c)
  have LV := shLevel_any (w := w.alloc (.cells (ncells op t vk vn vs A ks.length c) 26)) (op := op) (t := t) (vk := vk) (vn := vn) (vs := vs) (A := A) (n := ks.length) (c := c) ks
  rw [hT] at LV hv' HT hlen ⊢
  unfold ncells at *
  obtain ⟨W1, hW1⟩ : ∃ W1, w.alloc (.cells #[.int .i64 op, .string (tx t), .int .i64 vk, .int .i64 vn, .string (tx vs), .slice A ks.length c] 26) = W1 := ⟨_, rfl⟩
  rw [hW1] at b0 k0 LV
  have HV := Lib.hid hv'
  have HP1 := Lib.hid (hp.below b0)
  have B0 := Lib.hid b0
  have K0 := Lib.hid k0
  have LVH := Lib.hid LV
  have hbw : w.heap.size ≠ b := by have := hp.pr.lt; omega
  have HBW := Lib.hid hbw
  have HLEN := Lib.hid hlen
  obtain ⟨x0, x1, x2, x3, x4, x5⟩ := six_of k0
  obtain ⟨lv, hlv⟩ : ∃ lv, Ps.slev T = lv := ⟨_, rfl⟩
  rw [hlv] at LVH HLEN ⊢
  have HTT := Lib.hid hT
  obtain ⟨kn, hkn⟩ : ∃ kn, ks.length = kn := ⟨_, rfl⟩
  rw [hkn] at HV K0 hW1 x5 LVH ⊢
  clear b0 k0 hv' hp hlen LV hk hcc hT hlv hbw hkn
  go_enter Tryz.func33, Tryz.ntmps33
  go_wp2_with fail
  refine LVH.out.mono ?_
  rintro e W2 ⟨rfl, hb2⟩
  have K2 := Lib.hid (K0.out.below hb2 K0.out.lt)
  have HP2 := Lib.hid (HP1.out.below hb2)
  have B2 : Hid (Below w.heap.size w W2) := Lib.hid (bstep B0.out hb2)
  obtain ⟨x0, x1, x2, x3, x4, x5⟩ := six_of K2.out
  clear hb2 LVH K0 HP1
  by_cases hle : n ≤ lv
  · have hle' : (n : Int) ≤ (lv : Int) := by omega
    have hle2 : decide ((n : Int) ≤ (lv : Int)) = true := by simpa using hle
    have TC := Lib.hid (HT l W2 _ HV.out HP2.out (by have := HLEN.out; rw [Ps.par, if_pos hle] at this; exact this))
    have E : Hid (Ps.par n (lv, Ps.pr T) = Ps.pr T) := Lib.hid (by rw [Ps.par, if_pos hle])
    clear hle
    go_wp2_with fail
    refine TC.out.mono ?_
    rintro e W3 ⟨rfl, hw3⟩
    go_wp2_with fail
    refine bodyPost_ret (results_none rfl _ _ _) rfl ⟨rfl, ?_⟩
    rw [E.out]
    exact hw3.from B2.out
  · have hle' : ¬ (n : Int) ≤ (lv : Int) := by omega
    have hle2 : decide ((n : Int) ≤ (lv : Int)) = false := by simpa using hle
    have E : Hid (Ps.par n (lv, Ps.pr T) = [40] ++ Ps.pr T ++ [41]) := Lib.hid (by rw [Ps.par, if_neg hle]; simp)
    have hlen2 : l.length + ((Ps.pr T).length + 2) ≤ 140737488355328 := by have := HLEN.out; rw [E.out] at this; simp at this; omega
    have W1C := Lib.hid (ws_any HP2.out ⟨#[40]⟩ (by show l.length + 1 ≤ _; omega) W2 (Below.refl _ _))
    have HL2 := Lib.hid hlen2
    clear hle hlen2
    go_wp2_with fail
    refine W1C.out.mono ?_
    rintro e W3 ⟨rfl, hw3⟩
    have K3 := Lib.hid (whole_oth K2.out (by decide) HBW.out hw3.2.1)
    have HW3 := Lib.hid hw3
    have TC := Lib.hid (HT _ W3 _ HV.out hw3.1 (by have := HL2.out; simp; omega))
    obtain ⟨x0, x1, x2, x3, x4, x5⟩ := six_of K3.out
    clear hw3 W1C
    go_wp2_with fail
    refine TC.out.mono ?_
    rintro e W4 ⟨rfl, hw4⟩
    have HW4 := Lib.hid hw4
    have W2C := Lib.hid (ws_any hw4.1 ⟨#[41]⟩ (by have := HL2.out; show (_ : List UInt8).length + 1 ≤ _; simp; omega) W4 (Below.refl _ _))
    clear hw4 TC x0 x1 x2 x3 x4 x5
    go_wp2_with fail
    refine W2C.out.mono ?_
    rintro e W5 ⟨rfl, hw5⟩
    have HW5 := Lib.hid hw5
    clear hw5 W2C
    go_wp2_with fail
    go_end0
    refine ⟨rfl, ?_⟩
    have := (HW3.out.trans (HW4.out.trans HW5.out)).from B2.out
    rw [E.out]
    simpa using this
end Go.Proofs.YthcfdggdippocaaGreatDoor

/- The printer: a node with two sides. -/
namespace Go.Proofs.YthcfdggdippocaaGreatDoor
open Go.RowKit Go.Lib
set_option linter.unusedVariables false
set_option linter.unusedSimpArgs false
set_option maxRecDepth 100000
open Ex (Tree)

theorem ws_all {w0 w1 : World} {b : Nat} {l : List UInt8} (h : PS w0 b l w1) : ∀ (s : ByteArray), l.length + s.size ≤ 140737488355328 → ∀ W, Below w1.heap.size w1 W →
    Calls Tryz.prog 31 #[.pointer (some ⟨b, 0, none⟩), .string s] W fun e w' => e = .returned (.tuple #[.int .i64 s.size, .nilIface]) ∧ Wrote w0 b (l ++ s.data.toList) w1 w' := fun s hs W hW => ws_any h s hs W hW
/-- a kid that lies in memory, as a value. -/
theorem kid_node {w0 : World} {A : Option Addr} {ks : List Tree} (h : TreesAt w0 A 0 ks) (i : Nat) (hi : i < ks.length) :
    ∃ kb ko op t vk vn vs l B n, A = some ⟨kb, ko, none⟩ ∧ ks[i] = .node op t vk vn vs l ∧ kb < w0.heap.size ∧ NodeV w0 (.agg (ncells op t vk vn vs B l.length n)) (.node op t vk vn vs l) ∧
      ∀ W, Below w0.heap.size w0 W → W.cell? ⟨kb, ko + i * 6, none⟩ = some (.int .i64 op) ∧ W.cell? ⟨kb, ko + i * 6 + 1, none⟩ = some (.string (tx t)) ∧ W.cell? ⟨kb, ko + i * 6 + 2, none⟩ = some (.int .i64 vk) ∧ W.cell? ⟨kb, ko + i * 6 + 3, none⟩ = some (.int .i64 vn) ∧ W.cell? ⟨kb, ko + i * 6 + 4, none⟩ = some (.string (tx vs)) ∧ W.cell? ⟨kb, ko + i * 6 + 5, none⟩ = some (.slice B l.length n) := by
  obtain ⟨kb, ko, e, hk⟩ := h.get i hi
  obtain ⟨op, t, vk, vn, vs, l, he⟩ : ∃ op t vk vn vs l, ks[i] = .node op t vk vn vs l := by
    cases hh : ks[i] with
    | node op t vk vn vs l => exact ⟨op, t, vk, vn, vs, l, rfl⟩
  rw [he] at hk
  obtain ⟨h0, h1, h2, h3, h4, h5, B, n, h6, h7, h8⟩ := hk.node
  exact ⟨kb, ko, op, t, vk, vn, vs, l, B, n, e, he, h0, ⟨B, n, rfl, h7, h8⟩, fun W hW => ⟨(hW.cell (p := ⟨kb, ko + i * 6, none⟩) h0).trans h1, (hW.cell (p := ⟨kb, ko + i * 6 + 1, none⟩) h0).trans h2, (hW.cell (p := ⟨kb, ko + i * 6 + 2, none⟩) h0).trans h3, (hW.cell (p := ⟨kb, ko + i * 6 + 3, none⟩) h0).trans h4, (hW.cell (p := ⟨kb, ko + i * 6 + 4, none⟩) h0).trans h5, (hW.cell (p := ⟨kb, ko + i * 6 + 5, none⟩) h0).trans h6⟩⟩
set_option maxHeartbeats 2000000 in
theorem binary_pr {w0 : World} {b : Nat} {X Y : Tree} (HX : TreeC w0 b X) (HY : TreeC w0 b Y) {t : List UInt8} {vk vn : Int} {vs : List UInt8} (htl : t.length ≤ 100) (l : List UInt8) (w : World) (v : Value) (hv : NodeV w0 v (.node 5 t vk vn vs [X, Y])) (hp : PS w0 b l w) (hlen : l.length + (Ps.pr (.node 5 t vk vn vs [X, Y])).length ≤ 140737488355328) :
    Calls Tryz.prog 34 #[.pointer (some ⟨b, 0, none⟩), v] w fun e w' => e = .returned (.tuple #[]) ∧ Wrote w0 b (l ++ Ps.pr (.node 5 t vk vn vs [X, Y])) w w' := by
  obtain ⟨A, c, rfl, hcc, hk⟩ := hv
  obtain ⟨m, hm⟩ : ∃ m, Ps.mlev t = m := ⟨_, rfl⟩
  have HMB : Hid (m ≤ 7) := Lib.hid (by rw [← hm]; unfold Ps.mlev; repeat (first | omega | split))
  have hpr : Ps.pr (.node 5 t vk vn vs [X, Y]) = Ps.par (Ps.fl m) (Ps.slev X, Ps.pr X) ++ 32 :: (t ++ 32 :: Ps.par (m + 1) (Ps.slev Y, Ps.pr Y)) := by
    simp [Ps.pr, Ps.prs, Ps.prN, hm]
  rw [hpr] at hlen ⊢
  simp only [List.length_append, List.length_cons] at hlen
  have b0 : Below w.heap.size w (w.alloc (.cells (ncells 5 t vk vn vs A 2 c) 26)) := (Below.refl _ _).alloc (Nat.le_refl _) _
  have k0 := Whole.new w 26 (ncells 5 t vk vn vs A 2 c)
  have LV := shLevel_any (w := w.alloc (.cells (ncells 5 t vk vn vs A 2 c) 26)) (op := 5) (t := t) (vk := vk) (vn := vn) (vs := vs) (A := A) (n := 2) (c := c) [X, Y]
  rw [show Ps.slev (.node 5 t vk vn vs [X, Y]) = m from hm] at LV
  obtain ⟨kb, ko, o1, t1, k1, n1, s1, l1, B1, c1, hA1, hX1, hlt1, nv1, cl1⟩ := kid_node hk 0 (by simp)
  obtain ⟨kb', ko', o2, t2, k2, n2, s2, l2, B2, c2, hA2, hX2, hlt2, nv2, cl2⟩ := kid_node hk 1 (by simp)
  rw [hA1] at hA2
  cases hA2
  subst hA1
  simp only [List.getElem_cons_zero, List.getElem_cons_succ] at hX1 hX2
  rw [← hX1] at nv1
  rw [← hX2] at nv2
  have e1 : ko + 0 * 6 = ko := by omega
  have e2 : ko + 1 * 6 = ko + 6 := by omega
  rw [e1] at cl1
  rw [e2] at cl2
  unfold ncells at *
  dsimp only [List.length_cons, List.length_nil] at *
  obtain ⟨W1, hW1⟩ : ∃ W1, w.alloc (.cells #[.int .i64 5, .string (tx t), .int .i64 vk, .int .i64 vn, .string (tx vs), .slice (some ⟨kb, ko, none⟩) 2 c] 26) = W1 := ⟨_, rfl⟩
  rw [hW1] at b0 k0 LV
  have HP1 := Lib.hid (hp.below b0)
  have B0 := Lib.hid b0
  have K0 := Lib.hid k0
  have LVH := Lib.hid LV
  have HBW : Hid (w.heap.size ≠ b) := Lib.hid (by have := hp.pr.lt; omega)
  have HLEN := Lib.hid hlen
  have CL1 := Lib.hid cl1
  have CL2 := Lib.hid cl2
  have NV1 := Lib.hid nv1
  have NV2 := Lib.hid nv2
  obtain ⟨x0, x1, x2, x3, x4, x5⟩ := six_of k0
  clear b0 k0 hp hlen LV hk hcc hX1 hX2 nv1 nv2 cl1 cl2 e1 e2 hpr hm
  go_enter Tryz.func34, Tryz.ntmps34
  go_wp2_with fail
  refine LVH.out.mono ?_
  rintro e W2 ⟨rfl, hb2⟩
  have K2 := Lib.hid (K0.out.below hb2 K0.out.lt)
  have HP2 := Lib.hid (HP1.out.below hb2)
  have BB2 : Hid (Below w.heap.size w W2) := Lib.hid (bstep B0.out hb2)
  obtain ⟨x0, x1, x2, x3, x4, x5⟩ := six_of K2.out
  obtain ⟨y0, y1, y2, y3, y4, y5⟩ := CL1.out W2 HP2.out.old
  obtain ⟨f, hf⟩ : ∃ f, Ps.fl m = f := ⟨_, rfl⟩
  have KX := Lib.hid (kid_any HX f l W2 _ NV1.out HP2.out (by have := HLEN.out; rw [hf] at this; omega))
  have HF := Lib.hid hf
  have hcases : (m = 3 ∧ f = 4) ∨ ((m == 3) = false ∧ f = m) := by
    by_cases h3 : m = 3
    · subst h3; exact .inl ⟨rfl, hf.symm⟩
    · refine .inr ⟨by simpa using h3, ?_⟩
      rw [← hf, Ps.fl, if_neg h3]
  clear hb2 LVH K0 HP1 hf
  rcases hcases with ⟨rfl, rfl⟩ | ⟨hm3, rfl⟩
  · go_wp2_with fail
    refine KX.out.mono ?_
    rintro e W3 ⟨rfl, hw3⟩
    have HW3 := Lib.hid hw3
    have K3 := Lib.hid (whole_oth K2.out (by decide) HBW.out hw3.2.1)
    obtain ⟨x0, x1, x2, x3, x4, x5⟩ := six_of K3.out
    have WS : Hid (∀ W, Below W3.heap.size W3 W → Calls Tryz.prog 31 #[.pointer (some ⟨b, 0, none⟩), .string (⟨#[32]⟩ ++ tx t ++ ⟨#[32]⟩)] W fun e w' => e = .returned (.tuple #[.int .i64 (⟨#[32]⟩ ++ tx t ++ ⟨#[32]⟩ : ByteArray).size, .nilIface]) ∧ Wrote w0 b (l ++ Ps.par 4 (Ps.slev X, Ps.pr X) ++ 32 :: (t ++ [32])) W3 w') := Lib.hid (fun W hW => by
      have := ws_any hw3.1 (⟨#[32]⟩ ++ tx t ++ ⟨#[32]⟩) (by have := HLEN.out; rw [HF.out] at this; simp [ByteArray.size]; omega) W hW
      simpa using this)
    clear hw3 KX y0 y1 y2 y3 y4 y5
    have hts : (tx t).size = t.length := by simp [ByteArray.size]
    have HTS := Lib.hid hts
    have htl1 : ¬ 9223372036854775807 < 1 + (tx t).size := by omega
    have htl2 : ¬ 9223372036854775807 < 1 + (tx t).size + 1 := by omega
    have HTL := Lib.hid htl
    go_wp2_with fail
    go_region_with (go_at_call 31; refine (WS.out _ (by first | exact (Below.refl _ _).drew | exact below_drewN (Below.refl _ _) _ | exact Below.refl _ _)).mono ?_; rintro e W4 ⟨rfl, hw4⟩; have HW4 := Lib.hid hw4; clear hw4)
    all_goals
      have K4 := Lib.hid (whole_oth K3.out (by decide) HBW.out HW4.out.2.1)
      obtain ⟨x0, x1, x2, x3, x4, x5⟩ := six_of K4.out
      obtain ⟨y0, y1, y2, y3, y4, y5⟩ := CL2.out W4 HW4.out.1.old
      have KY0 := kid_any HY 4 _ W4 _ NV2.out HW4.out.1 (by have := HLEN.out; rw [HF.out] at this; simp at this ⊢; omega)
      have KY := Lib.hid KY0
      clear KY0
      clear htl1 htl2 hts
      go_wp2_with fail
      refine KY.out.mono ?_
      rintro e W5 ⟨rfl, hw5⟩
      have HW5 := Lib.hid hw5
      clear hw5 KY y0 y1 y2 y3 y4 y5
      go_wp2_with fail
      go_end0
      refine ⟨rfl, ?_⟩
      have := (HW3.out.trans (HW4.out.trans HW5.out)).from BB2.out
      rw [HF.out]
      simpa using this
  · have hm4 : ((f : Int) == 3) = false := by simp at hm3 ⊢; omega
    have hfb : (f : Int) ≤ 7 := by have := HMB.out; omega
    go_wp2_with fail
    refine KX.out.mono ?_
    rintro e W3 ⟨rfl, hw3⟩
    have HW3 := Lib.hid hw3
    have K3 := Lib.hid (whole_oth K2.out (by decide) HBW.out hw3.2.1)
    obtain ⟨x0, x1, x2, x3, x4, x5⟩ := six_of K3.out
    have WS : Hid (∀ W, Below W3.heap.size W3 W → Calls Tryz.prog 31 #[.pointer (some ⟨b, 0, none⟩), .string (⟨#[32]⟩ ++ tx t ++ ⟨#[32]⟩)] W fun e w' => e = .returned (.tuple #[.int .i64 (⟨#[32]⟩ ++ tx t ++ ⟨#[32]⟩ : ByteArray).size, .nilIface]) ∧ Wrote w0 b (l ++ Ps.par f (Ps.slev X, Ps.pr X) ++ 32 :: (t ++ [32])) W3 w') := Lib.hid (fun W hW => by
      have := ws_any hw3.1 (⟨#[32]⟩ ++ tx t ++ ⟨#[32]⟩) (by have := HLEN.out; rw [HF.out] at this; simp [ByteArray.size]; omega) W hW
      simpa using this)
    clear hw3 KX y0 y1 y2 y3 y4 y5
    have hts : (tx t).size = t.length := by simp [ByteArray.size]
    have HTS := Lib.hid hts
    have htl1 : ¬ 9223372036854775807 < 1 + (tx t).size := by omega
    have htl2 : ¬ 9223372036854775807 < 1 + (tx t).size + 1 := by omega
    have HTL := Lib.hid htl
    go_wp2_with fail
    go_region_with (go_at_call 31; refine (WS.out _ (by first | exact (Below.refl _ _).drew | exact below_drewN (Below.refl _ _) _ | exact Below.refl _ _)).mono ?_; rintro e W4 ⟨rfl, hw4⟩; have HW4 := Lib.hid hw4; clear hw4)
    all_goals
      have K4 := Lib.hid (whole_oth K3.out (by decide) HBW.out HW4.out.2.1)
      obtain ⟨x0, x1, x2, x3, x4, x5⟩ := six_of K4.out
      obtain ⟨y0, y1, y2, y3, y4, y5⟩ := CL2.out W4 HW4.out.1.old
      have KY0 := kid_any HY (f + 1) _ W4 _ NV2.out HW4.out.1 (by have := HLEN.out; rw [HF.out] at this; simp at this ⊢; omega)
      rw [show ((f + 1 : Nat) : Int) = (f : Int) + 1 by omega] at KY0
      have KY := Lib.hid KY0
      clear KY0
      clear htl1 htl2 hts
      go_wp2_with fail
      refine KY.out.mono ?_
      rintro e W5 ⟨rfl, hw5⟩
      have HW5 := Lib.hid hw5
      clear hw5 KY y0 y1 y2 y3 y4 y5
      go_wp2_with fail
      go_end0
      refine ⟨rfl, ?_⟩
      have := (HW3.out.trans (HW4.out.trans HW5.out)).from BB2.out
      rw [HF.out]
      simpa using this
end Go.Proofs.YthcfdggdippocaaGreatDoor

/- The printer: a call. -/
namespace Go.Proofs.YthcfdggdippocaaGreatDoor
open Go.RowKit Go.Lib
set_option linter.unusedVariables false
set_option linter.unusedSimpArgs false
set_option maxRecDepth 100000
open Ex (Tree)

theorem prs_map : ∀ ks : List Tree, Ps.prs ks = ks.map fun x => (Ps.slev x, Ps.pr x)
  | [] => by rw [Ps.prs]; rfl
  | x :: l => by rw [Ps.prs, prs_map l]; rfl
theorem commas_snoc : ∀ (l : List (Nat × List UInt8)) (x : Nat × List UInt8), l ≠ [] → Ps.commas (l ++ [x]) = Ps.commas l ++ 44 :: 32 :: x.2
  | [], x, h => absurd rfl h
  | [y], x, _ => rfl
  | y :: z :: l, x, _ => by
    have ih := commas_snoc (z :: l) x (by simp)
    simp only [List.cons_append, Ps.commas] at ih ⊢
    rw [ih]; simp
theorem commas_take (ks : List Tree) (i : Nat) (hi : i < ks.length) : Ps.commas ((Ps.prs ks).take (i + 1)) = (if i = 0 then [] else Ps.commas ((Ps.prs ks).take i) ++ [44, 32]) ++ Ps.pr ks[i] := by
  have h : (Ps.prs ks).take (i + 1) = (Ps.prs ks).take i ++ [(Ps.slev ks[i], Ps.pr ks[i])] := by
    rw [prs_map, List.take_add_one]
    simp [hi]
  rw [h]
  by_cases h0 : i = 0
  · subst h0; rw [if_pos rfl]; rfl
  · rw [if_neg h0, commas_snoc _ _ (by
      intro e
      have e2 : ((Ps.prs ks).take i).length = 0 := by rw [e]; rfl
      rw [List.length_take, prs_map, List.length_map] at e2
      omega)]
    simp
theorem commas_le : ∀ (l : List (Nat × List UInt8)) (i : Nat), (Ps.commas (l.take i)).length ≤ (Ps.commas l).length
  | [], i => by simp
  | [y], 0 => by simp [Ps.commas]
  | [y], i + 1 => by simp
  | y :: z :: l, 0 => by simp [Ps.commas]
  | y :: z :: l, 1 => by simp [Ps.commas]
  | y :: z :: l, i + 2 => by
    have := commas_le (z :: l) (i + 1)
    simp only [List.take_succ_cons, Ps.commas, List.length_append, List.length_cons] at this ⊢
    omega
set_option maxHeartbeats 2000000 in
theorem call_pr {w0 : World} {b : Nat} {ks : List Tree} (HK : ∀ x ∈ ks, TreeC w0 b x) {t : List UInt8} {vk vn : Int} {vs : List UInt8} (htl : t.length ≤ 100) (hkn : ks.length ≤ 1000000) (l : List UInt8) (w : World) (v : Value) (hv : NodeV w0 v (.node 6 t vk vn vs ks)) (hp : PS w0 b l w) (hlen : l.length + (Ps.pr (.node 6 t vk vn vs ks)).length ≤ 140737488355328) :
    Calls Tryz.prog 35 #[.pointer (some ⟨b, 0, none⟩), v] w fun e w' => e = .returned (.tuple #[]) ∧ Wrote w0 b (l ++ Ps.pr (.node 6 t vk vn vs ks)) w w' := by
  obtain ⟨A, c, rfl, hcc, hk⟩ := hv
  have hpr : Ps.pr (.node 6 t vk vn vs ks) = t ++ 40 :: (Ps.commas (Ps.prs ks) ++ [41]) := by
    simp [Ps.pr, Ps.prN]
  rw [hpr] at hlen ⊢
  simp only [List.length_append, List.length_cons, List.length_nil] at hlen
  have b0 : Below w.heap.size w (w.alloc (.cells (ncells 6 t vk vn vs A ks.length c) 26)) := (Below.refl _ _).alloc (Nat.le_refl _) _
  have k0 := Whole.new w 26 (ncells 6 t vk vn vs A ks.length c)
  unfold ncells at *
  obtain ⟨W1, hW1⟩ : ∃ W1, w.alloc (.cells #[.int .i64 6, .string (tx t), .int .i64 vk, .int .i64 vn, .string (tx vs), .slice A ks.length c] 26) = W1 := ⟨_, rfl⟩
  rw [hW1] at b0 k0
  have hp1 := hp.below b0
  have HP1 := Lib.hid hp1
  have B0 := Lib.hid b0
  have K0 := Lib.hid k0
  have HBW : Hid (w.heap.size ≠ b) := Lib.hid (by have := hp.pr.lt; omega)
  have HLEN := Lib.hid hlen
  have HKS := Lib.hid HK
  have HT := Lib.hid hk
  obtain ⟨x0, x1, x2, x3, x4, x5⟩ := six_of k0
  have hts : (tx t).size = t.length := by simp [ByteArray.size]
  have HTS := Lib.hid hts
  have htl1 : ¬ 9223372036854775807 < (tx t).size + 1 := by omega
  have WS : Hid (∀ W, Below W1.heap.size W1 W → Calls Tryz.prog 31 #[.pointer (some ⟨b, 0, none⟩), .string (tx t ++ ⟨#[40]⟩)] W fun e w' => e = .returned (.tuple #[.int .i64 (tx t ++ ⟨#[40]⟩ : ByteArray).size, .nilIface]) ∧ Wrote w0 b (l ++ (t ++ [40])) W1 w') := Lib.hid (fun W hW => by
    have := ws_any hp1 (tx t ++ ⟨#[40]⟩) (by simp [ByteArray.size]; omega) W hW
    simpa using this)
  obtain ⟨kn, hkn2⟩ : ∃ kn, ks.length = kn := ⟨_, rfl⟩
  rw [hkn2] at hkn K0 hW1 x5 ⊢
  have HKN := Lib.hid hkn2
  clear b0 k0 hp hlen hk hcc hpr hp1 HK hkn2
  go_enter Tryz.func35, Tryz.ntmps35
  go_upto_region 1 with fail
  go_region_with (go_at_call 31; refine (WS.out _ (by first | exact (Below.refl _ _).drew | exact below_drewN (Below.refl _ _) _ | exact Below.refl _ _)).mono ?_; rintro e W2 ⟨rfl, hw2⟩; have HW2 := Lib.hid hw2; clear hw2)
  all_goals
    have K2 := Lib.hid (whole_oth K0.out (by decide) HBW.out HW2.out.2.1)
    obtain ⟨x0, x1, x2, x3, x4, x5⟩ := six_of K2.out
    have HW2' : Hid (Wrote w0 b (l ++ (t ++ [40]) ++ Ps.commas ((Ps.prs ks).take 0)) W1 W2) := Lib.hid (by simpa [Ps.commas] using HW2.out)
    clear htl1 hts WS hW1
    go_wp2_with fail
    go_loopg [16] (kn + 1) (fun j s16 wr => ∃ i : Nat, i ≤ kn ∧ kn < i + j ∧ s16 = .int .i64 (i : Nat) ∧ Hid (Wrote w0 b (l ++ (t ++ [40]) ++ Ps.commas ((Ps.prs ks).take i)) W1 wr))
    case atStart => exact ⟨0, by omega, by omega, rfl, HW2'⟩
    case round =>
      obtain ⟨i, hi, hj, rfl, HWI⟩ := hrel
      clear HW2'
      have KI := Lib.hid (whole_oth K0.out (by decide) HBW.out HWI.out.2.1)
      by_cases hlt : i < kn
      · have hlt' : (i : Int) < (kn : Int) := by omega
        have hi9 : (i : Int) < 1000000 := by omega
        have hik : i < ks.length := by have := HKN.out; omega
        obtain ⟨kb, ko, o1, t1, k1, n1, s1, l1, B1, c1, hA1, hX1, hltb, nv1, cl1⟩ := kid_node HT.out i hik
        subst hA1
        obtain ⟨y0, y1, y2, y3, y4, y5⟩ := cl1 wr HWI.out.1.old
        have b3 : Below wr.heap.size wr (wr.alloc (.cells (ncells o1 t1 k1 n1 s1 B1 l1.length c1) 26)) := (Below.refl _ _).alloc (Nat.le_refl _) _
        have k3 := Whole.new wr 26 (ncells o1 t1 k1 n1 s1 B1 l1.length c1)
        have HCT := Lib.hid (commas_take ks i hik)
        have HCL := Lib.hid (commas_le (Ps.prs ks) (i + 1))
        have HTC := Lib.hid (HKS.out _ (List.getElem_mem hik))
        rw [← hX1] at nv1
        have NV1 := Lib.hid nv1
        have HB3 : Hid (wr.heap.size ≠ b) := Lib.hid (by have := HWI.out.1.pr.lt; omega)
        unfold ncells at *
        obtain ⟨W3, hW3⟩ : ∃ W3, wr.alloc (.cells #[.int .i64 o1, .string (tx t1), .int .i64 k1, .int .i64 n1, .string (tx s1), .slice B1 l1.length c1] 26) = W3 := ⟨_, rfl⟩
        rw [hW3] at b3 k3
        have HWI3 := Lib.hid (HWI.out.to b3)
        have K3 := Lib.hid k3
        obtain ⟨z0, z1, z2, z3, z4, z5⟩ := six_of k3
        clear b3 k3 nv1 cl1 hX1 hlt
        by_cases h0 : i = 0
        · have E : Hid (Ps.commas ((Ps.prs ks).take (i + 1)) = Ps.pr ks[i]) := Lib.hid (by have := HCT.out; rw [if_pos h0] at this; simpa using this)
          have E0 : Hid (Ps.commas ((Ps.prs ks).take i) = []) := Lib.hid (by rw [h0]; rfl)
          have TC := Lib.hid (HTC.out _ W3 _ NV1.out HWI3.out.1 (by have h1 := HCL.out; rw [E.out] at h1; have := HLEN.out; rw [E0.out]; simp; omega))
          have hnp : ¬ (0 : Int) < (i : Int) := by omega
          have hnp2 : ¬ 0 < i := by omega
          clear h0
          go_wp2_with fail
          refine TC.out.mono ?_
          rintro e W4 ⟨rfl, hw4⟩
          have HW4 : Hid (Wrote w0 b (l ++ (t ++ [40]) ++ Ps.commas ((Ps.prs ks).take (i + 1))) W1 W4) := Lib.hid (by
            have := HWI3.out.trans hw4
            rw [E0.out] at this
            rw [E.out]
            simpa using this)
          clear hw4 TC y0 y1 y2 y3 y4 y5 z0 z1 z2 z3 z4 z5 hW3
          go_wp2_with fail
          go_roundg (kn - i)
          case measure => omega
          case rel => exact ⟨i + 1, by omega, by omega, by simp, HW4⟩
        · have E : Hid (Ps.commas ((Ps.prs ks).take (i + 1)) = Ps.commas ((Ps.prs ks).take i) ++ [44, 32] ++ Ps.pr ks[i]) := Lib.hid (by have := HCT.out; rw [if_neg h0] at this; exact this)
          have hpos : (0 : Int) < (i : Int) := by omega
          have hpos2 : 0 < i := by omega
          have W1C := Lib.hid (ws_any HWI3.out.1 ⟨#[44, 32]⟩ (by have h1 := HCL.out; rw [E.out] at h1; have := HLEN.out; simp [ByteArray.size] at h1 ⊢; omega) W3 (Below.refl _ _))
          clear h0
          go_wp2_with fail
          refine W1C.out.mono ?_
          rintro e W4 ⟨rfl, hw4⟩
          have HW4 := Lib.hid hw4
          have K4 := Lib.hid (whole_oth K3.out (by decide) HB3.out hw4.2.1)
          have TC := Lib.hid (HTC.out _ W4 _ NV1.out hw4.1 (by have h1 := HCL.out; rw [E.out] at h1; have := HLEN.out; simp at h1 ⊢; omega))
          clear hw4 W1C z0 z1 z2 z3 z4 z5 y0 y1 y2 y3 y4 y5 hW3
          obtain ⟨z0, z1, z2, z3, z4, z5⟩ := six_of K4.out
          go_wp2_with fail
          refine TC.out.mono ?_
          rintro e W5 ⟨rfl, hw5⟩
          have HW5 : Hid (Wrote w0 b (l ++ (t ++ [40]) ++ Ps.commas ((Ps.prs ks).take (i + 1))) W1 W5) := Lib.hid (by
            have := HWI3.out.trans (HW4.out.trans hw5)
            rw [E.out]
            simpa using this)
          clear hw5 TC z0 z1 z2 z3 z4 z5
          go_wp2_with fail
          go_roundg (kn - i)
          case measure => omega
          case rel => exact ⟨i + 1, by omega, by omega, by simp, HW5⟩
      · have hik : i = kn := by omega
        subst hik
        have hlt' : ¬ (i : Int) < (i : Int) := by omega
        have EA : Hid ((Ps.prs ks).take i = Ps.prs ks) := Lib.hid (by rw [prs_map]; exact List.take_of_length_le (by simp; have := HKN.out; omega))
        have W1C := Lib.hid (ws_any HWI.out.1 ⟨#[41]⟩ (by have := HLEN.out; rw [EA.out]; simp [ByteArray.size]; omega) wr (Below.refl _ _))
        clear hlt
        go_wp2_with fail
        refine W1C.out.mono ?_
        rintro e W4 ⟨rfl, hw4⟩
        have HW4 := Lib.hid hw4
        clear hw4 W1C
        go_wp2_with fail
        go_end0
        refine ⟨rfl, ?_⟩
        have := (HWI.out.trans HW4.out).from B0.out
        rw [EA.out] at this
        simpa using this
end Go.Proofs.YthcfdggdippocaaGreatDoor

/- The printer: any tree (gen_gx.py). -/
namespace Go.Proofs.YthcfdggdippocaaGreatDoor
open Go.RowKit Go.Lib
set_option linter.unusedVariables false
set_option linter.unusedSimpArgs false
set_option maxRecDepth 100000
open Ex (Tree)

theorem node_cases {op : Int} {t : List UInt8} {vk vn : Int} {vs : List UInt8} {ks : List Tree} (h : Ex.ones nodeB (.node op t vk vn vs ks) = true) :
    Ex.oness nodeB ks = true ∧ ((op = 1 ∧ t = [] ∧ valB vk vn (tx vs) = true ∧ ks = []) ∨ (op = 2 ∧ Lx.isName t = true ∧ vk = 0 ∧ vn = 0 ∧ vs = [] ∧ ks = []) ∨ ((op = 3 ∨ op = 4) ∧ t = [] ∧ vk = 0 ∧ vn = 0 ∧ vs = [] ∧ ∃ x, ks = [x]) ∨ (op = 5 ∧ Ex.lev t ≠ 0 ∧ vk = 0 ∧ vn = 0 ∧ vs = [] ∧ ∃ x y, ks = [x, y]) ∨ (op = 6 ∧ (ks.length : Int) = Ex.arity t ∧ vk = 0 ∧ vn = 0 ∧ vs = [])) := by
  rw [Ex.ones, Bool.and_eq_true] at h
  obtain ⟨h1, h2⟩ := h
  refine ⟨h2, ?_⟩
  have z : ∀ {k n : Int} {s : List UInt8}, same k n (tx s) 0 0 ⟨#[]⟩ = true → k = 0 ∧ n = 0 ∧ s = [] := fun h => by
    obtain ⟨a, b, c⟩ := same_iff.1 h
    rw [ByteArray.toList_eq, ByteArray.toList_eq] at c
    exact ⟨a, b, c⟩
  have l0 : ((ks.length : Int) == 0) = true → ks = [] := fun h => List.eq_nil_of_length_eq_zero (by simpa using h)
  unfold nodeB at h1
  split at h1
  · simp only [Bool.and_eq_true] at h1
    exact .inl ⟨by assumption, by simpa using h1.1, h1.2.1, l0 h1.2.2⟩
  · split at h1
    · simp only [Bool.and_eq_true] at h1
      obtain ⟨a, b, c⟩ := z h1.2.1
      exact .inr (.inl ⟨by assumption, h1.1, a, b, c, l0 h1.2.2⟩)
    · split at h1
      · simp only [Bool.and_eq_true] at h1
        obtain ⟨a, b, c⟩ := z h1.2.1
        have hl : ks.length = 1 := by have := h1.2.2; simp at this; omega
        exact .inr (.inr (.inl ⟨by assumption, by simpa using h1.1, a, b, c, List.length_eq_one_iff.1 hl⟩))
      · split at h1
        · simp only [Bool.and_eq_true] at h1
          obtain ⟨a, b, c⟩ := z h1.2.1
          have hl : ks.length = 2 := by have := h1.2.2; simp at this; omega
          refine .inr (.inr (.inr (.inl ⟨by assumption, by simpa using h1.1, a, b, c, ?_⟩)))
          match ks, hl with
          | [x, y], _ => exact ⟨x, y, rfl⟩
        · split at h1
          · simp only [Bool.and_eq_true] at h1
            obtain ⟨a, b, c⟩ := z h1.2
            exact .inr (.inr (.inr (.inr ⟨by assumption, by simpa using h1.1, a, b, c⟩)))
          · cases h1
theorem name_len {t : List UInt8} (h : Lx.isName t = true) : t.length ≤ 16 := by
  cases t with
  | nil => cases h
  | cons c r =>
    simp only [Lx.isName, Bool.and_eq_true, decide_eq_true_eq] at h
    exact h.1.1.1
theorem mark_len2 {t : List UInt8} (h : Ex.lev t ≠ 0) : t.length ≤ 3 := by
  have hm := Ps.marks t h
  simp only [List.mem_cons, List.not_mem_nil, or_false] at hm
  rcases hm with rfl | rfl | rfl | rfl | rfl | rfl | rfl | rfl | rfl | rfl | rfl | rfl | rfl | rfl <;> decide
set_option maxHeartbeats 2000000 in
theorem tree_val {w0 : World} {b : Nat} {t : List UInt8} {vk vn : Int} {vs : List UInt8} {a : Addr} {m : Int} (hv0 : Env w0 a m) (hb : valB vk vn (tx vs) = true) (hr : Fits vn) : TreeC w0 b (.node 1 t vk vn vs []) := by
  intro l w v hv hp hlen
  obtain ⟨A, c, rfl, hcc, hk⟩ := hv
  have b0 : Below w.heap.size w (w.alloc (.cells (ncells 1 t vk vn vs A 0 c) 26)) := (Below.refl _ _).alloc (Nat.le_refl _) _
  have k0 := Whole.new w 26 (ncells 1 t vk vn vs A 0 c)
  have NV0 : Hid (NodeV w0 (.agg (ncells 1 t vk vn vs A 0 c)) (.node 1 t vk vn vs [])) := Lib.hid ⟨A, c, rfl, hcc, hk⟩
  unfold ncells at *
  try dsimp only [List.length_cons, List.length_nil] at *
  obtain ⟨W1, hW1⟩ : ∃ W1, w.alloc (.cells #[.int .i64 1, .string (tx t), .int .i64 vk, .int .i64 vn, .string (tx vs), .slice A 0 c] 26) = W1 := ⟨_, rfl⟩
  rw [hW1] at b0 k0
  have hp1 := hp.below b0
  have B0 := Lib.hid b0
  have K0 := Lib.hid k0
  have HBW : Hid (w.heap.size ≠ b) := Lib.hid (by have := hp.pr.lt; omega)
  have HLEN := Lib.hid hlen
  obtain ⟨x0, x1, x2, x3, x4, x5⟩ := six_of k0
  have HP1 := Lib.hid hp1
  have hpr : Ps.pr (.node 1 t vk vn vs []) = Ps.vpr vk vn vs := by simp [Ps.pr, Ps.prN]
  rw [hpr] at HLEN ⊢
  have HEV : Hid (∀ W, Below w0.heap.size w0 W → Env W a m) := Lib.hid (fun W hW => hv0.below hW)
  have VP : Hid (∀ W, Below W1.heap.size W1 W → Calls Tryz.prog 32 #[val vk vn (tx vs)] W fun e w' => e = .returned (.string (tx (Ps.vpr vk vn vs))) ∧ Below W.heap.size W w') := Lib.hid (fun W hW => vprint_any vk vn vs W a m (HEV.out W (hp1.below hW).old) hb hr)
  have WS : Hid (∀ W, Below W1.heap.size W1 W → Calls Tryz.prog 31 #[.pointer (some ⟨b, 0, none⟩), .string (tx (Ps.vpr vk vn vs))] W fun e w' => e = .returned (.tuple #[.int .i64 (tx (Ps.vpr vk vn vs)).size, .nilIface]) ∧ Wrote w0 b (l ++ Ps.vpr vk vn vs) W1 w') := Lib.hid (fun W hW => ws_any hp1 (tx (Ps.vpr vk vn vs)) (by have := HLEN.out; simp [ByteArray.size]; omega) W hW)
  generalize Ps.vpr vk vn vs = pv at *
  clear b0 k0 hp hlen hk hcc hpr hp1 hb hr hv0
  go_enter Tryz.func18, Tryz.ntmps18
  go_upto_region 3 with fail
  go_region_with (first
    | (go_at_call 32; refine (VP.out _ (by first | exact (Below.refl _ _).drew | exact below_drewN (Below.refl _ _) _ | exact Below.refl _ _)).mono ?_; rintro e W2 ⟨rfl, hb2⟩)
    | (go_at_call 31; refine (WS.out _ (by first | exact bstep ((Below.refl _ _).drew) hb2 | exact bstep (below_drewN (Below.refl _ _) _) hb2)).mono ?_; rintro e W3 ⟨rfl, hw3⟩; have HW3 := Lib.hid hw3; clear hw3))
  all_goals
    go_wp2_with fail
    go_end0
    exact ⟨rfl, HW3.out.from B0.out⟩
set_option maxHeartbeats 2000000 in
theorem tree_name {w0 : World} {b : Nat} {t : List UInt8} {vk vn : Int} {vs : List UInt8} (ht : t.length ≤ 16) : TreeC w0 b (.node 2 t vk vn vs []) := by
  intro l w v hv hp hlen
  obtain ⟨A, c, rfl, hcc, hk⟩ := hv
  have b0 : Below w.heap.size w (w.alloc (.cells (ncells 2 t vk vn vs A 0 c) 26)) := (Below.refl _ _).alloc (Nat.le_refl _) _
  have k0 := Whole.new w 26 (ncells 2 t vk vn vs A 0 c)
  have NV0 : Hid (NodeV w0 (.agg (ncells 2 t vk vn vs A 0 c)) (.node 2 t vk vn vs [])) := Lib.hid ⟨A, c, rfl, hcc, hk⟩
  unfold ncells at *
  try dsimp only [List.length_cons, List.length_nil] at *
  obtain ⟨W1, hW1⟩ : ∃ W1, w.alloc (.cells #[.int .i64 2, .string (tx t), .int .i64 vk, .int .i64 vn, .string (tx vs), .slice A 0 c] 26) = W1 := ⟨_, rfl⟩
  rw [hW1] at b0 k0
  have hp1 := hp.below b0
  have B0 := Lib.hid b0
  have K0 := Lib.hid k0
  have HBW : Hid (w.heap.size ≠ b) := Lib.hid (by have := hp.pr.lt; omega)
  have HLEN := Lib.hid hlen
  obtain ⟨x0, x1, x2, x3, x4, x5⟩ := six_of k0
  have HP1 := Lib.hid hp1
  have hpr : Ps.pr (.node 2 t vk vn vs []) = t := by simp [Ps.pr, Ps.prN]
  rw [hpr] at HLEN ⊢
  have WS : Hid (∀ W, Below W1.heap.size W1 W → Calls Tryz.prog 31 #[.pointer (some ⟨b, 0, none⟩), .string (tx t)] W fun e w' => e = .returned (.tuple #[.int .i64 (tx t).size, .nilIface]) ∧ Wrote w0 b (l ++ t) W1 w') := Lib.hid (fun W hW => ws_any hp1 (tx t) (by have := HLEN.out; simp [ByteArray.size]; omega) W hW)
  clear b0 k0 hp hlen hk hcc hpr hp1
  go_enter Tryz.func18, Tryz.ntmps18
  go_upto_region 5 with fail
  go_region_with (go_at_call 31; refine (WS.out _ (by first | exact (Below.refl _ _).drew | exact below_drewN (Below.refl _ _) _ | exact Below.refl _ _)).mono ?_; rintro e W3 ⟨rfl, hw3⟩; have HW3 := Lib.hid hw3; clear hw3)
  all_goals
    go_wp2_with fail
    go_end0
    exact ⟨rfl, HW3.out.from B0.out⟩
set_option maxHeartbeats 2000000 in
theorem tree_neg {w0 : World} {b : Nat} {t : List UInt8} {vk vn : Int} {vs : List UInt8} {X : Tree} (HX : TreeC w0 b X) : TreeC w0 b (.node 3 t vk vn vs [X]) := by
  intro l w v hv hp hlen
  obtain ⟨A, c, rfl, hcc, hk⟩ := hv
  have b0 : Below w.heap.size w (w.alloc (.cells (ncells 3 t vk vn vs A 1 c) 26)) := (Below.refl _ _).alloc (Nat.le_refl _) _
  have k0 := Whole.new w 26 (ncells 3 t vk vn vs A 1 c)
  have NV0 : Hid (NodeV w0 (.agg (ncells 3 t vk vn vs A 1 c)) (.node 3 t vk vn vs [X])) := Lib.hid ⟨A, c, rfl, hcc, hk⟩
  unfold ncells at *
  try dsimp only [List.length_cons, List.length_nil] at *
  obtain ⟨W1, hW1⟩ : ∃ W1, w.alloc (.cells #[.int .i64 3, .string (tx t), .int .i64 vk, .int .i64 vn, .string (tx vs), .slice A 1 c] 26) = W1 := ⟨_, rfl⟩
  rw [hW1] at b0 k0
  have hp1 := hp.below b0
  have B0 := Lib.hid b0
  have K0 := Lib.hid k0
  have HBW : Hid (w.heap.size ≠ b) := Lib.hid (by have := hp.pr.lt; omega)
  have HLEN := Lib.hid hlen
  obtain ⟨x0, x1, x2, x3, x4, x5⟩ := six_of k0
  have HP1 := Lib.hid hp1
  have hpr : Ps.pr (.node 3 t vk vn vs [X]) = [45] ++ Ps.par 6 (Ps.slev X, Ps.pr X) := by simp [Ps.pr, Ps.prs, Ps.prN]
  rw [hpr] at HLEN ⊢
  obtain ⟨kb, ko, o1, t1, k1, n1, s1, l1, B1, c1, hA1, hX1, hltb, nv1, cl1⟩ := kid_node hk 0 (by simp)
  subst hA1
  simp only [List.getElem_cons_zero] at hX1
  rw [← hX1] at nv1
  rw [show ko + 0 * 6 = ko by omega] at cl1
  have CL1 := Lib.hid cl1
  have NV1 := Lib.hid nv1
  have WS := Lib.hid (ws_any hp1 ⟨#[45]⟩ (by have := HLEN.out; simp [ByteArray.size] at this ⊢; omega) W1 (Below.refl _ _))
  clear b0 k0 hp hlen hk hcc hpr hp1 nv1 cl1 hX1
  go_enter Tryz.func18, Tryz.ntmps18
  go_wp2_with fail
  refine WS.out.mono ?_
  rintro e W2 ⟨rfl, hw2⟩
  have K2 := Lib.hid (whole_oth K0.out (by decide) HBW.out hw2.2.1)
  have HW2 := Lib.hid hw2
  have KX := Lib.hid (kid_any HX 6 _ W2 _ NV1.out hw2.1 (by have := HLEN.out; simp at this ⊢; omega))
  obtain ⟨y0, y1, y2, y3, y4, y5⟩ := CL1.out W2 hw2.1.old
  clear x0 x1 x2 x3 x4 x5 hw2 WS hW1
  obtain ⟨x0, x1, x2, x3, x4, x5⟩ := six_of K2.out
  unfold ncells at KX
  go_wp2_with fail
  refine KX.out.mono ?_
  rintro e W3 ⟨rfl, hw3⟩
  have HW3 := Lib.hid hw3
  clear hw3 KX y0 y1 y2 y3 y4 y5
  go_wp2_with fail
  go_end0
  refine ⟨rfl, ?_⟩
  have := (HW2.out.trans HW3.out).from B0.out
  simpa using this
set_option maxHeartbeats 2000000 in
theorem tree_not {w0 : World} {b : Nat} {t : List UInt8} {vk vn : Int} {vs : List UInt8} {X : Tree} (HX : TreeC w0 b X) : TreeC w0 b (.node 4 t vk vn vs [X]) := by
  intro l w v hv hp hlen
  obtain ⟨A, c, rfl, hcc, hk⟩ := hv
  have b0 : Below w.heap.size w (w.alloc (.cells (ncells 4 t vk vn vs A 1 c) 26)) := (Below.refl _ _).alloc (Nat.le_refl _) _
  have k0 := Whole.new w 26 (ncells 4 t vk vn vs A 1 c)
  have NV0 : Hid (NodeV w0 (.agg (ncells 4 t vk vn vs A 1 c)) (.node 4 t vk vn vs [X])) := Lib.hid ⟨A, c, rfl, hcc, hk⟩
  unfold ncells at *
  try dsimp only [List.length_cons, List.length_nil] at *
  obtain ⟨W1, hW1⟩ : ∃ W1, w.alloc (.cells #[.int .i64 4, .string (tx t), .int .i64 vk, .int .i64 vn, .string (tx vs), .slice A 1 c] 26) = W1 := ⟨_, rfl⟩
  rw [hW1] at b0 k0
  have hp1 := hp.below b0
  have B0 := Lib.hid b0
  have K0 := Lib.hid k0
  have HBW : Hid (w.heap.size ≠ b) := Lib.hid (by have := hp.pr.lt; omega)
  have HLEN := Lib.hid hlen
  obtain ⟨x0, x1, x2, x3, x4, x5⟩ := six_of k0
  have HP1 := Lib.hid hp1
  have hpr : Ps.pr (.node 4 t vk vn vs [X]) = [110, 111, 116, 32] ++ Ps.par 2 (Ps.slev X, Ps.pr X) := by simp [Ps.pr, Ps.prs, Ps.prN]
  rw [hpr] at HLEN ⊢
  obtain ⟨kb, ko, o1, t1, k1, n1, s1, l1, B1, c1, hA1, hX1, hltb, nv1, cl1⟩ := kid_node hk 0 (by simp)
  subst hA1
  simp only [List.getElem_cons_zero] at hX1
  rw [← hX1] at nv1
  rw [show ko + 0 * 6 = ko by omega] at cl1
  have CL1 := Lib.hid cl1
  have NV1 := Lib.hid nv1
  have WS := Lib.hid (ws_any hp1 ⟨#[110, 111, 116, 32]⟩ (by have := HLEN.out; simp [ByteArray.size] at this ⊢; omega) W1 (Below.refl _ _))
  clear b0 k0 hp hlen hk hcc hpr hp1 nv1 cl1 hX1
  go_enter Tryz.func18, Tryz.ntmps18
  go_wp2_with fail
  refine WS.out.mono ?_
  rintro e W2 ⟨rfl, hw2⟩
  have K2 := Lib.hid (whole_oth K0.out (by decide) HBW.out hw2.2.1)
  have HW2 := Lib.hid hw2
  have KX := Lib.hid (kid_any HX 2 _ W2 _ NV1.out hw2.1 (by have := HLEN.out; simp at this ⊢; omega))
  obtain ⟨y0, y1, y2, y3, y4, y5⟩ := CL1.out W2 hw2.1.old
  clear x0 x1 x2 x3 x4 x5 hw2 WS hW1
  obtain ⟨x0, x1, x2, x3, x4, x5⟩ := six_of K2.out
  unfold ncells at KX
  go_wp2_with fail
  refine KX.out.mono ?_
  rintro e W3 ⟨rfl, hw3⟩
  have HW3 := Lib.hid hw3
  clear hw3 KX y0 y1 y2 y3 y4 y5
  go_wp2_with fail
  go_end0
  refine ⟨rfl, ?_⟩
  have := (HW2.out.trans HW3.out).from B0.out
  simpa using this
set_option maxHeartbeats 2000000 in
theorem tree_bin {w0 : World} {b : Nat} {t : List UInt8} {vk vn : Int} {vs : List UInt8} {X Y : Tree} (HX : TreeC w0 b X) (HY : TreeC w0 b Y) (ht : t.length ≤ 3) : TreeC w0 b (.node 5 t vk vn vs [X, Y]) := by
  intro l w v hv hp hlen
  obtain ⟨A, c, rfl, hcc, hk⟩ := hv
  have b0 : Below w.heap.size w (w.alloc (.cells (ncells 5 t vk vn vs A 2 c) 26)) := (Below.refl _ _).alloc (Nat.le_refl _) _
  have k0 := Whole.new w 26 (ncells 5 t vk vn vs A 2 c)
  have NV0 : Hid (NodeV w0 (.agg (ncells 5 t vk vn vs A 2 c)) (.node 5 t vk vn vs [X, Y])) := Lib.hid ⟨A, c, rfl, hcc, hk⟩
  unfold ncells at *
  try dsimp only [List.length_cons, List.length_nil] at *
  obtain ⟨W1, hW1⟩ : ∃ W1, w.alloc (.cells #[.int .i64 5, .string (tx t), .int .i64 vk, .int .i64 vn, .string (tx vs), .slice A 2 c] 26) = W1 := ⟨_, rfl⟩
  rw [hW1] at b0 k0
  have hp1 := hp.below b0
  have B0 := Lib.hid b0
  have K0 := Lib.hid k0
  have HBW : Hid (w.heap.size ≠ b) := Lib.hid (by have := hp.pr.lt; omega)
  have HLEN := Lib.hid hlen
  obtain ⟨x0, x1, x2, x3, x4, x5⟩ := six_of k0
  have HP1 := Lib.hid hp1
  have BP := Lib.hid (binary_pr HX HY (by omega) l W1 _ NV0.out hp1 HLEN.out)
  unfold ncells at BP
  generalize Ps.pr (.node 5 t vk vn vs [X, Y]) = pv at *
  clear b0 k0 hp hlen hk hcc hp1
  go_enter Tryz.func18, Tryz.ntmps18
  go_wp2_with fail
  refine BP.out.mono ?_
  rintro e W2 ⟨rfl, hw2⟩
  have HW2 := Lib.hid hw2
  clear hw2 BP
  go_wp2_with fail
  go_end0
  exact ⟨rfl, HW2.out.from B0.out⟩
set_option maxHeartbeats 2000000 in
theorem tree_call {w0 : World} {b : Nat} {t : List UInt8} {vk vn : Int} {vs : List UInt8} {ks : List Tree} (HK : ∀ x ∈ ks, TreeC w0 b x) (ht : t.length ≤ 16) (hn : ks.length ≤ 1000000) : TreeC w0 b (.node 6 t vk vn vs ks) := by
  intro l w v hv hp hlen
  obtain ⟨A, c, rfl, hcc, hk⟩ := hv
  have b0 : Below w.heap.size w (w.alloc (.cells (ncells 6 t vk vn vs A ks.length c) 26)) := (Below.refl _ _).alloc (Nat.le_refl _) _
  have k0 := Whole.new w 26 (ncells 6 t vk vn vs A ks.length c)
  have NV0 : Hid (NodeV w0 (.agg (ncells 6 t vk vn vs A ks.length c)) (.node 6 t vk vn vs ks)) := Lib.hid ⟨A, c, rfl, hcc, hk⟩
  unfold ncells at *
  try dsimp only [List.length_cons, List.length_nil] at *
  obtain ⟨W1, hW1⟩ : ∃ W1, w.alloc (.cells #[.int .i64 6, .string (tx t), .int .i64 vk, .int .i64 vn, .string (tx vs), .slice A ks.length c] 26) = W1 := ⟨_, rfl⟩
  rw [hW1] at b0 k0
  have hp1 := hp.below b0
  have B0 := Lib.hid b0
  have K0 := Lib.hid k0
  have HBW : Hid (w.heap.size ≠ b) := Lib.hid (by have := hp.pr.lt; omega)
  have HLEN := Lib.hid hlen
  obtain ⟨x0, x1, x2, x3, x4, x5⟩ := six_of k0
  have HP1 := Lib.hid hp1
  have BP := Lib.hid (call_pr HK (by omega) hn l W1 _ NV0.out hp1 HLEN.out)
  unfold ncells at BP
  obtain ⟨kn, hkn⟩ : ∃ kn, ks.length = kn := ⟨_, rfl⟩
  rw [hkn] at BP K0 hW1 x5 ⊢
  generalize Ps.pr (.node 6 t vk vn vs ks) = pv at *
  clear b0 k0 hp hlen hk hcc hp1 hn hkn NV0
  go_enter Tryz.func18, Tryz.ntmps18
  go_wp2_with fail
  refine BP.out.mono ?_
  rintro e W2 ⟨rfl, hw2⟩
  have HW2 := Lib.hid hw2
  clear hw2 BP
  go_wp2_with fail
  go_end0
  exact ⟨rfl, HW2.out.from B0.out⟩
theorem oness_mem {p : Ps.NP} : ∀ {l : List Tree} {x : Tree}, Ex.oness p l = true → x ∈ l → Ex.ones p x = true
  | y :: l, x, h, hx => by
    rw [Ex.oness, Bool.and_eq_true] at h
    rcases List.mem_cons.1 hx with rfl | hx
    · exact h.1
    · exact oness_mem h.2 hx
theorem counts_mem : ∀ {l : List Tree} {x : Tree}, x ∈ l → Ex.count x ≤ Ex.counts l
  | y :: l, x, hx => by
    rw [Ex.counts]
    rcases List.mem_cons.1 hx with rfl | hx
    · omega
    · have := counts_mem hx; omega
theorem tree_all {w0 : World} {b : Nat} {a : Addr} {m : Int} (hv : Env w0 a m) : ∀ (k : Nat) (T : Tree), Ex.count T ≤ k → k ≤ 1000000 → Ex.ones nodeB T = true → rngT T = true → TreeC w0 b T
  | 0, T, h, _, _, _ => by have := Ex.count_pos T; omega
  | k + 1, .node op t vk vn vs ks, h, hk, h1, h2 => by
    obtain ⟨g1, g2⟩ := node_cases h1
    have hr : rngN op t vk vn vs ks.length = true ∧ Ex.oness rngN ks = true := by
      have := h2
      rw [rngT, Ex.ones, Bool.and_eq_true] at this
      exact this
    have hf : Fits vn := by have := hr.1; simpa [rngN, Fits] using this
    rw [Ex.count] at h
    have IH : ∀ x ∈ ks, TreeC w0 b x := fun x hx => tree_all hv k x (by have := counts_mem hx; omega) (by omega) (oness_mem g1 hx) (oness_mem hr.2 hx)
    rcases g2 with ⟨rfl, rfl, e1, rfl⟩ | ⟨rfl, e1, rfl, rfl, rfl, rfl⟩ | ⟨e0, rfl, rfl, rfl, rfl, x, rfl⟩ | ⟨rfl, e1, rfl, rfl, rfl, x, y, rfl⟩ | ⟨rfl, e1, rfl, rfl, rfl⟩
    · exact tree_val hv e1 hf
    · exact tree_name (name_len e1)
    · rcases e0 with rfl | rfl
      · exact tree_neg (IH x (by simp))
      · exact tree_not (IH x (by simp))
    · exact tree_bin (IH x (by simp)) (IH y (by simp)) (mark_len2 e1)
    · exact tree_call IH (name_len (Ps.fn_name t (by omega))) (by have := Ex.length_counts ks; omega)
end Go.Proofs.YthcfdggdippocaaGreatDoor

/- Print. -/
namespace Go.Proofs.YthcfdggdippocaaGreatDoor
open Go.RowKit Go.Lib
set_option linter.unusedVariables false
set_option linter.unusedSimpArgs false
set_option maxRecDepth 100000
open Ex (Tree)

theorem esc_le (u : List UInt8) : (esc u).length ≤ 2 * u.length := by
  induction u with
  | nil => simp [esc]
  | cons x u ih => simp only [esc]; split <;> simp <;> omega
theorem vpr_len {k n : Int} {s : List UInt8} (hb : valB k n (tx s) = true) (hn : Fits n) : (Ps.vpr k n s).length ≤ 700 ∧ Ps.vpr k n s ≠ [] := by
  have hp : plainB k n (tx s) = true := by simp only [valB, Bool.and_eq_true] at hb; exact hb.1
  have e : (tx s).size = s.length := by simp [ByteArray.size]
  have h1 := Lib.itoa_length_le n hn.1 hn.2
  have h2 := esc_le s
  have h3 : itoa n ≠ [] := by
    intro h
    have := (itoa_minus n).2
    have h4 := (dec_says n.natAbs).2.2.1
    rw [h] at this
    exact h4 (by rw [← this]; rfl)
  rcases plainB_iff.1 hp with ⟨rfl, rfl, h⟩ | ⟨rfl, h⟩ | ⟨rfl, rfl, h⟩ | ⟨rfl, h, h4, h5⟩
  · exact ⟨by simp [Ps.vpr], by simp [Ps.vpr]⟩
  · exact ⟨by simp only [Ps.vpr]; simp; omega, by simpa [Ps.vpr] using h3⟩
  · refine ⟨?_, by simp [Ps.vpr, quo]⟩
    simp only [Ps.vpr, quo]
    simp
    omega
  · simp only [Ps.vpr]
    simp
    split <;> simp
theorem par_len (n : Nat) (p : Nat × List UInt8) : (Ps.par n p).length ≤ p.2.length + 2 := by
  unfold Ps.par; split <;> simp
theorem commas_len : ∀ l : List (Nat × List UInt8), (Ps.commas l).length ≤ (l.map fun p => p.2.length + 2).sum
  | [] => by simp [Ps.commas]
  | [x] => by simp [Ps.commas]
  | x :: y :: l => by
    have := commas_len (y :: l)
    simp only [Ps.commas, List.length_append, List.length_cons, List.map_cons, List.sum_cons] at this ⊢
    omega
theorem pr_len : ∀ (k : Nat) (T : Tree), Ex.count T ≤ k → Ex.ones nodeB T = true → rngT T = true → (Ps.pr T).length ≤ 1000 * Ex.count T ∧ Ps.pr T ≠ []
  | 0, T, h, _, _ => by have := Ex.count_pos T; omega
  | k + 1, .node op t vk vn vs ks, h, h1, h2 => by
    obtain ⟨g1, g2⟩ := node_cases h1
    have hr : rngN op t vk vn vs ks.length = true ∧ Ex.oness rngN ks = true := by
      have := h2
      rw [rngT, Ex.ones, Bool.and_eq_true] at this
      exact this
    have hf : Fits vn := by have := hr.1; simpa [rngN, Fits] using this
    rw [Ex.count] at h
    have IH : ∀ x ∈ ks, (Ps.pr x).length ≤ 1000 * Ex.count x := fun x hx => (pr_len k x (by have := counts_mem hx; omega) (oness_mem g1 hx) (oness_mem hr.2 hx)).1
    rw [Ex.count]
    rcases g2 with ⟨rfl, rfl, e1, rfl⟩ | ⟨rfl, e1, rfl, rfl, rfl, rfl⟩ | ⟨e0, rfl, rfl, rfl, rfl, x, rfl⟩ | ⟨rfl, e1, rfl, rfl, rfl, x, y, rfl⟩ | ⟨rfl, e1, rfl, rfl, rfl⟩
    · have := vpr_len e1 hf
      rw [show Ps.pr (.node 1 [] vk vn vs []) = Ps.vpr vk vn vs by simp [Ps.pr, Ps.prN]]
      exact ⟨by omega, this.2⟩
    · have := name_len e1
      rw [show Ps.pr (.node 2 t 0 0 [] []) = t by simp [Ps.pr, Ps.prN]]
      exact ⟨by omega, by rintro rfl; cases e1⟩
    · have hx := IH x (by simp)
      have hp := par_len 6 (Ps.slev x, Ps.pr x)
      have hp2 := par_len 2 (Ps.slev x, Ps.pr x)
      rcases e0 with rfl | rfl
      · rw [show Ps.pr (.node 3 [] 0 0 [] [x]) = 45 :: Ps.par 6 (Ps.slev x, Ps.pr x) by simp [Ps.pr, Ps.prs, Ps.prN]]
        simp only [Ex.counts, List.length_cons] at hp ⊢
        exact ⟨by omega, by simp⟩
      · rw [show Ps.pr (.node 4 [] 0 0 [] [x]) = 110 :: 111 :: 116 :: 32 :: Ps.par 2 (Ps.slev x, Ps.pr x) by simp [Ps.pr, Ps.prs, Ps.prN]]
        simp only [Ex.counts, List.length_cons] at hp2 ⊢
        exact ⟨by omega, by simp⟩
    · have hx := IH x (by simp)
      have hy := IH y (by simp)
      have hp := par_len (Ps.fl (Ps.mlev t)) (Ps.slev x, Ps.pr x)
      have hp2 := par_len (Ps.mlev t + 1) (Ps.slev y, Ps.pr y)
      have := mark_len2 e1
      rw [show Ps.pr (.node 5 t 0 0 [] [x, y]) = Ps.par (Ps.fl (Ps.mlev t)) (Ps.slev x, Ps.pr x) ++ 32 :: (t ++ 32 :: Ps.par (Ps.mlev t + 1) (Ps.slev y, Ps.pr y)) by simp [Ps.pr, Ps.prs, Ps.prN]]
      simp only [Ex.counts, List.length_cons, List.length_append] at hp hp2 ⊢
      exact ⟨by omega, by simp⟩
    · have hn := name_len (Ps.fn_name t (by omega))
      have hc := commas_len (Ps.prs ks)
      have hs : ((Ps.prs ks).map fun p => p.2.length + 2).sum ≤ 1000 * Ex.counts ks + 2 * ks.length := by
        clear hc e1 hr h1 h2 g1 h hf
        induction ks with
        | nil => simp [Ps.prs]
        | cons x l ih =>
          have h1 := IH x (by simp)
          have h2 := ih fun y hy => IH y (by simp [hy])
          simp only [Ps.prs, List.map_cons, List.sum_cons, Ex.counts, List.length_cons]
          omega
      have hl : ks.length ≤ 3 := by
        have hm := Ps.fns t (by omega)
        simp only [List.mem_cons, List.not_mem_nil, or_false] at hm
        have : Ex.arity t ≤ 3 := by rcases hm with rfl | rfl | rfl | rfl | rfl | rfl | rfl | rfl <;> decide
        omega
      rw [show Ps.pr (.node 6 t 0 0 [] ks) = t ++ 40 :: (Ps.commas (Ps.prs ks) ++ [41]) by simp [Ps.pr, Ps.prN]]
      simp only [List.length_cons, List.length_append, List.length_nil]
      exact ⟨by omega, by simp⟩
/-- what Print tells. -/
def prR (T : Tree) : List UInt8 × Nat := if Ex.rightB nodeB T = true then (if 4000 < (Ps.pr T).length then ([], 3) else (Ps.pr T, 0)) else ([], 1)
set_option maxHeartbeats 2000000 in
theorem shPrint_any {a : Addr} {m : Int} (T : Tree) (v : Value) (w : World) (hnv : NodeV w v T) (hf : fitT T) (hr : rngT T = true) (hd : Ex.depth T ≤ 1000000) (hv : Env w a m) :
    Calls Tryz.prog 8 #[v] w fun e w' => e = .returned (.tuple #[.string (tx (prR T).1), .int .i64 ((prR T).2 : Nat)]) ∧ Below w.heap.size w w' := by
  cases T with
  | node op t vk vn vs ks =>
  have hnv' := hnv
  obtain ⟨A, c, rfl, hcc, hk⟩ := hnv
  obtain ⟨T, hT⟩ : ∃ T, (.node op t vk vn vs ks : Tree) = T := ⟨_, rfl⟩
  rw [hT] at hnv' hf hr hd ⊢
  have b0 : Below w.heap.size w (w.alloc (.cells (ncells op t vk vn vs A ks.length c) 26)) := (Below.refl _ _).alloc (Nat.le_refl _) _
  have k0 := Whole.new w 26 (ncells op t vk vn vs A ks.length c)
  unfold ncells at *
  obtain ⟨kn, hkn⟩ : ∃ kn, ks.length = kn := ⟨_, rfl⟩
  rw [hkn] at b0 k0 hnv' ⊢
  obtain ⟨W1, hW1⟩ : ∃ W1, w.alloc (.cells #[.int .i64 op, .string (tx t), .int .i64 vk, .int .i64 vn, .string (tx vs), .slice A kn c] 26) = W1 := ⟨_, rfl⟩
  rw [hW1] at b0 k0
  have RR := Lib.hid (callsIn_wide.1 (right_in T _ W1 (hnv'.below b0) hf hd a m (hv.below b0)))
  have B0 := Lib.hid b0
  have K0 := Lib.hid k0
  have NV := Lib.hid hnv'
  have HV := Lib.hid hv
  have HRG := Lib.hid hr
  obtain ⟨x0, x1, x2, x3, x4, x5⟩ := six_of k0
  obtain ⟨rb, hrb⟩ : ∃ rb, Ex.rightB nodeB T = rb := ⟨_, rfl⟩
  rw [hrb] at RR
  have HRB := Lib.hid hrb
  clear b0 k0 hnv' hv hf hr hd hk hcc hT hrb hkn
  go_enter Tryz.func8, Tryz.ntmps8
  go_wp2_with fail
  refine RR.out.mono ?_
  rintro e W2 ⟨rfl, hb2⟩
  have B2 : Hid (Below w.heap.size w W2) := Lib.hid (bstep B0.out hb2)
  have K2 := Lib.hid (K0.out.below hb2 K0.out.lt)
  clear hb2 RR
  cases rb with
  | false =>
    have E : Hid (prR T = ([], 1)) := Lib.hid (by rw [prR, if_neg (by rw [HRB.out]; decide)])
    go_wp2_with fail
    refine bodyPost_ret (v := .tuple #[.string (tx []), .int .i64 1]) (by simp [results, Tryz.results8, go_sem]) rfl ⟨?_, B2.out⟩
    rw [E.out]; rfl
  | true =>
    have hright := HRB.out
    simp only [Ex.rightB, Bool.and_eq_true, decide_eq_true_eq] at hright
    have hpl := pr_len _ T (Nat.le_refl _) hright.2.2 HRG.out
    have b3 : Below W2.heap.size W2 (W2.alloc (.cells #[.pointer none, .slice none 0 0] 49)) := (Below.refl _ _).alloc (Nat.le_refl _) _
    have ps : PS W2 W2.heap.size [] (W2.alloc (.cells #[.pointer none, .slice none 0 0] 49)) := ⟨Lib.fresh_isBuilder 49 5 W2, b3⟩
    have TC := tree_all (w0 := W2) (b := W2.heap.size) (HV.out.below B2.out) _ T (Nat.le_refl _) (by omega) hright.2.2 HRG.out [] _ _ (NV.out.below B2.out) ps (by simp; omega)
    rw [List.nil_append] at TC
    have TCH := Lib.hid TC
    have K3 := K2.out.below b3 K2.out.lt
    have HPL := Lib.hid hpl
    obtain ⟨W3, hW3⟩ : ∃ W3, W2.alloc (.cells #[.pointer none, .slice none 0 0] 49) = W3 := ⟨_, rfl⟩
    rw [hW3] at TCH K3
    obtain ⟨x0, x1, x2, x3, x4, x5⟩ := six_of K3
    clear TC ps b3 K3 hright hpl
    go_wp2_with fail
    refine TCH.out.mono ?_
    rintro e W4 ⟨rfl, hw4⟩
    have LC := Lib.hid (len_any _ _ _ _ hw4.1.pr)
    have SC := Lib.hid (string_any _ _ _ _ hw4.1.pr HPL.out.2)
    have B4 : Hid (Below w.heap.size w W4) := Lib.hid (B2.out.trans (hw4.1.old.mono B2.out.size))
    obtain ⟨pl, hpl⟩ : ∃ pl, (Ps.pr T).length = pl := ⟨_, rfl⟩
    rw [hpl] at LC
    have HPL2 := Lib.hid hpl
    clear hw4 TCH hW3 hpl
    go_wp2_with fail
    refine LC.out.mono ?_
    rintro e W4' ⟨rfl, rfl⟩
    by_cases hlong : 4000 < pl
    · have hl : (4000 : Int) < (pl : Int) := by omega
      have E : Hid (prR T = ([], 3)) := Lib.hid (by rw [prR, if_pos HRB.out, if_pos (by rw [HPL2.out]; exact hlong)])
      clear hlong
      go_wp2_with fail
      refine bodyPost_ret (v := .tuple #[.string (tx []), .int .i64 3]) (by simp [results, Tryz.results8, go_sem]) rfl ⟨?_, B4.out⟩
      rw [E.out]; rfl
    · have hl : ¬ (4000 : Int) < (pl : Int) := by omega
      have E : Hid (prR T = (Ps.pr T, 0)) := Lib.hid (by rw [prR, if_pos HRB.out, if_neg (by rw [HPL2.out]; exact hlong)])
      clear hlong
      go_wp2_with fail
      refine SC.out.mono ?_
      rintro e W5 ⟨rfl, hb5⟩
      have B5 : Hid (Below w.heap.size w W5) := Lib.hid (B4.out.trans (hb5.mono B2.out.size))
      clear hb5
      go_wp2_with fail
      refine bodyPost_ret (v := .tuple #[.string (tx (Ps.pr T)), .int .i64 0]) (by simp [results, Tryz.results8, go_sem]) rfl ⟨?_, B5.out⟩
      rw [E.out]; rfl
end Go.Proofs.YthcfdggdippocaaGreatDoor
