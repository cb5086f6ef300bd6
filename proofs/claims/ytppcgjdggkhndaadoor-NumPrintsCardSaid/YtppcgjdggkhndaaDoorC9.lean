/- NumPrints walked. -/
import Derived.Test.YtppcgjdggkhndaaDoorC8
import Derived.Test.YtppcgjdggkhndaaDoorC6
import Derived.Lib.ItoaLen
namespace Go.Proofs.YtppcgjdggkhndaaDoor
open Go.RowKit Go.Lib

/-- what the library's variables hold. -/
structure Env (w : World) (a : Addr) : Prop where
  tab : Lib.TabIs Tryd.prog w powName .u64 Lib.pow10Tab
  var : w.var? Tryd.prog "strconv.ErrRange" = some #[.iface 91 (.pointer (some a))]
theorem errRange_at : Tryd.prog.globalNamed "strconv.ErrRange" = some 0 := by kernel_rfl
theorem pow10_lt : (Tryd.prog.globalNamed powName).all (fun g => decide (g < 5)) = true := by kernel_rfl
theorem pow10_at : ∃ g, Tryd.prog.globalNamed powName = some g ∧ g < 5 := by
  have h := pow10_lt
  have h2 : (Tryd.prog.globalNamed powName).isSome = true := by kernel_rfl
  obtain ⟨g, hg⟩ := Option.isSome_iff_exists.1 h2
  rw [hg] at h
  exact ⟨g, hg, by simpa using h⟩
theorem Env.cell {w : World} {a : Addr} (h : Env w a) : w.cell? ⟨0, 0, none⟩ = some (.iface 91 (.pointer (some a))) := by
  rw [World.var?_cell errRange_at h.var 0]; rfl
theorem Env.below {w w' : World} {a : Addr} (h : Env w a) (hb : Below w.heap.size w w') : Env w' a := by
  obtain ⟨g, hg, -⟩ := pow10_at
  have c0 := World.block_lt_of_cell? w _ h.cell
  have c1 : w.cell? ⟨g, 0, none⟩ = some (.int .u64 1) := by
    rw [World.var?_cell hg h.tab 0]; rfl
  have l1 := World.block_lt_of_cell? w _ c1
  exact ⟨var?_below hb hg l1 h.tab, var?_below hb errRange_at c0 h.var⟩

theorem refread_any (s : ByteArray) (w : World) (hs : s.size ≤ 200) :
    Calls Tryd.prog 7 #[.string s] w fun e w' => e = .returned (.tuple #[.int .i64 (rv s.data.toList), .int .i64 (re s.data.toList)]) ∧ Below w.heap.size w w' := by
  by_cases h0 : s.size = 0
  · have hde : s = ByteArray.empty := by
      apply ByteArray.ext
      exact Array.eq_empty_of_size_eq_zero h0
    subst hde
    exact refread_none w
  · by_cases hm : (s[0].toNat : Int) = 45
    · exact refread_minus s w hs (by omega) hm
    · exact refread_plain s w hs (by omega) hm

theorem awake_ok (w : World) : Calls Tryd.prog 4 #[] w fun e w' => e = .returned (.bool true) ∧ w = w' := by
  go_enter Tryd.func4, Tryd.ntmps4
  go_wp2
  go_ret
  exact ⟨rfl, rfl⟩

theorem fits_rv (l : List UInt8) : Fits (rv l) := by
  unfold rv sv
  split
  · split
    · assumption
    · decide
  · decide

set_option maxRecDepth 100000 in
set_option maxHeartbeats 1000000 in
theorem prints_ok (n : Int) (s : ByteArray) (w : World) (hn : Fits n) (a : Addr) (he : Env w a) :
    Calls Tryd.prog 3 #[.int .i64 n, .string s] w fun e w' => e = .returned (.bool true) ∧ Below w.heap.size w w' := by
  have HE := Lib.hid he
  have HN := Lib.hid hn
  clear he hn
  by_cases hl : (s.size : Int) > 200
  · go_enter Tryd.func3, Tryd.ntmps3
    go_wp2_with fail
    refine (awake_ok _).mono ?_
    rintro e w' ⟨rfl, rfl⟩
    go_wp2
    go_ret
    exact ⟨rfl, Below.refl _ _⟩
  · have hs : s.size ≤ 200 := by omega
    have hsz : (⟨(itoa n).toArray⟩ : ByteArray).size ≤ 200 := by
      have := Lib.itoa_length_le n HN.out.1 HN.out.2
      show (itoa n).toArray.size ≤ 200
      simp; omega
    have RI : Hid (rv (itoa n) = n ∧ re (itoa n) = 0) := Lib.hid (rv_itoa n HN.out)
    have HS := Lib.hid hsz
    clear hsz
    go_enter Tryd.func3, Tryd.ntmps3
    go_wp2_with fail
    refine (awake_ok _).mono ?_
    rintro e w' ⟨rfl, rfl⟩
    go_wp2_with fail
    refine (print_any n _ HN.out HE.out.tab).mono ?_
    rintro e w1 ⟨rfl, hb1⟩
    have B1 := Lib.hid hb1
    have E1 := Lib.hid (HE.out.below hb1)
    have s1 := hb1.size
    clear hb1
    have K1 := read_any ⟨(itoa n).toArray⟩ w1 HS.out a E1.out.cell E1.out.var
    rw [show (⟨(itoa n).toArray⟩ : ByteArray).data.toList = itoa n from rfl, RI.out.1, RI.out.2] at K1
    have KK1 := Lib.hid K1
    clear K1
    go_wp2_with fail
    refine KK1.out.mono ?_
    rintro e w2 ⟨rfl, hb2⟩
    have B2 := Lib.hid (B1.out.trans (hb2.mono s1))
    have E2 := Lib.hid (E1.out.below hb2)
    have s2 := hb2.size
    clear hb2 B1 E1 KK1
    go_wp2_with fail
    refine (read_any s w2 hs a E2.out.cell E2.out.var).mono ?_
    rintro e w3 ⟨rfl, hb3⟩
    have B3 := Lib.hid (B2.out.trans (hb3.mono (by omega)))
    have E3 := Lib.hid (E2.out.below hb3)
    have s3 := hb3.size
    clear hb3 B2 E2
    go_wp2_with fail
    refine (refread_any s w3 hs).mono ?_
    rintro e w4 ⟨rfl, hb4⟩
    have B4 := Lib.hid (B3.out.trans (hb4.mono (by omega)))
    have E4 := Lib.hid (E3.out.below hb4)
    have s4 := hb4.size
    clear hb4 B3 E3
    go_wp2_with fail
    refine (refprint_any n w4 HN.out).mono ?_
    rintro e w5 ⟨rfl, hb5⟩
    have B5 := Lib.hid (B4.out.trans (hb5.mono (by omega)))
    have E5 := Lib.hid (E4.out.below hb5)
    have s5 := hb5.size
    clear hb5 B4 E4
    by_cases hr : re s.data.toList = 0
    · have P5 := print_any (rv s.data.toList) w5 (fits_rv _) E5.out.tab
      rw [itoa_rv _ hr] at P5
      have PP := Lib.hid P5
      clear P5
      rw [hr]
      clear hr
      go_wp2_with fail
      refine PP.out.mono ?_
      rintro e w6 ⟨rfl, hb6⟩
      have B6 := Lib.hid (B5.out.trans (hb6.mono (by omega)))
      clear hb6
      go_wp2
      go_ret
      exact ⟨rfl, B6.out⟩
    · have hr' : (re s.data.toList == 0) = false := by rw [beq_eq_false_iff_ne]; exact hr
      go_wp2
      go_ret
      exact ⟨rfl, B5.out⟩
end Go.Proofs.YtppcgjdggkhndaaDoor
