/- num's Print and Read. -/
import Derived.Test.YtfkbhlgoglmcpaaGreatDoorC7
import Derived.Test.YtfkbhlgoglmcpaaGreatDoorC1
import Derived.WalkSmall
import Derived.Lib.AppendIntMem
namespace Go.Proofs.YtfkbhlgoglmcpaaGreatDoor
open Go.RowKit Go.Lib

theorem read_no (s : ByteArray) (w : World) (hs : s.size ≤ 6000) (hl : looks s.data.toList = false) :
    Calls Tryz.prog 105 #[.string s] w fun e w' => e = .returned (.tuple #[.int .i64 0, .int .i64 6]) ∧ Below w.heap.size w w' := by
  have L := fun w => looks_any s w (by omega)
  rw [hl] at L
  have LL := Lib.hid L
  clear L hl
  go_enter Tryz.func105, Tryz.ntmps105
  go_wp2_with fail
  refine (LL.out _).mono ?_
  rintro e w' ⟨rfl, rfl⟩
  go_wp2
  go_ret2
  exact ⟨rfl, Below.refl _ _⟩
theorem read_ok (s : ByteArray) (w : World) (hs : s.size ≤ 6000) (hl : looks s.data.toList = true) (v : Int) (hv : Lib.parseIntB 64 s.data.toList = .ok v) (a : Addr) (hc : w.cell? ⟨3, 0, none⟩ = some (.iface 196 (.pointer (some a)))) :
    Calls Tryz.prog 105 #[.string s] w fun e w' => e = .returned (.tuple #[.int .i64 v, .int .i64 0]) ∧ Below w.heap.size w w' := by
  have L := fun w => looks_any s w (by omega)
  rw [hl] at L
  have LL := Lib.hid L
  have PP := Lib.hid fun w => Tryz.strconv_ParseInt_10_at64_ok s (by omega) v hv w
  have hlt := World.block_lt_of_cell? w _ hc
  have HC := Lib.hid hc
  clear L hl hv hc
  go_enter Tryz.func105, Tryz.ntmps105
  go_wp2_with fail
  refine (LL.out _).mono ?_
  rintro e w' ⟨rfl, rfl⟩
  go_wp2_with fail
  refine (PP.out _).mono ?_
  rintro e w2 ⟨rfl, hw⟩
  have hb : Below w'.heap.size w' w2 := by
    rcases hw with rfl | ⟨t, rfl⟩
    · exact Below.refl _ _
    · exact Lib.bytesWorld_below ..
  have c2 : w2.cell? ⟨3, 0, none⟩ = some (.iface 196 (.pointer (some a))) := (hb.cell hlt).trans HC.out
  have HB := Lib.hid hb
  clear hw hb
  go_wp2_with fail
  refine (is_nil a _).mono ?_
  rintro e w' ⟨rfl, rfl⟩
  go_wp2
  go_ret2
  exact ⟨rfl, HB.out⟩
theorem read_range (s : ByteArray) (w : World) (hs : s.size ≤ 6000) (hl : looks s.data.toList = true) (hv : Lib.parseIntB 64 s.data.toList = .range) (a : Addr) (hc : w.cell? ⟨3, 0, none⟩ = some (.iface 196 (.pointer (some a)))) (hvar : w.var? Tryz.prog "strconv.ErrRange" = some #[.iface 196 (.pointer (some a))]) :
    Calls Tryz.prog 105 #[.string s] w fun e w' => e = .returned (.tuple #[.int .i64 0, .int .i64 4]) ∧ Below w.heap.size w w' := by
  have L := fun w => looks_any s w (by omega)
  rw [hl] at L
  have LL := Lib.hid L
  have PP := Lib.hid (Tryz.strconv_ParseInt_10_at64_range_var s (by omega) hv 196 (.pointer (some a)) w hvar)
  have hlt := World.block_lt_of_cell? w _ hc
  have HC := Lib.hid hc
  clear L hl hv hc hvar
  go_enter Tryz.func105, Tryz.ntmps105
  go_wp2_with fail
  refine (LL.out _).mono ?_
  rintro e w' ⟨rfl, rfl⟩
  go_wp2_with fail
  refine (PP.out).mono ?_
  rintro e w2 ⟨N, rfl, hN, hrow, hb⟩
  have c2 : w2.cell? ⟨3, 0, none⟩ = some (.iface 196 (.pointer (some a))) := (hb.cell hlt).trans HC.out
  have CN : Hid (w2.cell? ⟨N, 0 + 2, none⟩ = some (.iface 196 (.pointer (some a)))) := Lib.hid (cell_of_row w2 N 2 _ _ _ hrow)
  have HB := Lib.hid hb
  clear hb hrow
  go_wp2_with fail
  refine (is_wrap_same N 0 a _ CN.out).mono ?_
  rintro e w' ⟨rfl, rfl⟩
  go_wp2
  go_ret2
  exact ⟨rfl, HB.out⟩
theorem read_any (s : ByteArray) (w : World) (hs : s.size ≤ 6000) (a : Addr) (hc : w.cell? ⟨3, 0, none⟩ = some (.iface 196 (.pointer (some a)))) (hvar : w.var? Tryz.prog "strconv.ErrRange" = some #[.iface 196 (.pointer (some a))]) :
    Calls Tryz.prog 105 #[.string s] w fun e w' => e = .returned (.tuple #[.int .i64 (rv s.data.toList), .int .i64 (re s.data.toList)]) ∧ Below w.heap.size w w' := by
  cases hl : looks s.data.toList
  · rw [show rv s.data.toList = 0 by simp [rv, hl], show re s.data.toList = 6 by simp [re, hl]]
    exact read_no s w hs hl
  · have hp := parse_looks s.data.toList hl
    by_cases hf : Fits (signed (minus s.data.toList) (dv 0 (body s.data.toList)))
    · rw [if_pos hf] at hp
      rw [show rv s.data.toList = signed (minus s.data.toList) (dv 0 (body s.data.toList)) by rw [rv, if_pos hl, sv, if_pos hf], show re s.data.toList = 0 by rw [re, if_pos hl, se, if_pos hf]]
      exact read_ok s w hs hl _ hp a hc
    · rw [if_neg hf] at hp
      rw [show rv s.data.toList = 0 by rw [rv, if_pos hl, sv, if_neg hf], show re s.data.toList = 4 by rw [re, if_pos hl, se, if_neg hf]]
      exact read_range s w hs hl hp a hc hvar

theorem print_any (n : Int) (w : World) (hn : Fits n) (htab : Lib.TabIs Tryz.prog w powName .u64 Lib.pow10Tab) :
    Calls Tryz.prog 115 #[.int .i64 n] w fun e w' => e = .returned (.string ⟨(itoa n).toArray⟩) ∧ Below w.heap.size w w' := by
  have F := Lib.hid (Tryz.strconv_FormatInt_10 n hn.1 hn.2 w htab)
  clear htab hn
  go_enter Tryz.func115, Tryz.ntmps115
  go_wp2_with fail
  refine (F.out).mono ?_
  rintro e w2 ⟨rfl, k, os, rfl⟩
  go_wp2
  go_ret
  exact ⟨rfl, Lib.below_grow _ _ (Nat.le_refl _) _ _⟩
end Go.Proofs.YtfkbhlgoglmcpaaGreatDoor
