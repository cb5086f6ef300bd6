/- The reference's Parse, Get. -/
import Derived.Test.YtjoenmmjpmnkfaaMU3
import Derived.Lib.ConvBytes
namespace Go.Proofs.Ytjoenmmjpmnkfaa
open Go.RowKit
theorem run_index_str (l : List UInt8) (k : Nat) (z : Int) (hz : z = k) (hk : k < l.length) (W : World) : Sem.run Try.prog (Instr.index 9 (.string ⟨l.toArray⟩) (.int .i64 z)) W = .ok (.int .u8 (l[k].toNat : Nat)) W := by
  subst hz
  have h0 : (0 : Int) ≤ (k : Int) := by omega
  have h1 : (⟨l.toArray⟩ : ByteArray)[k]? = some l[k] := by
    show (if h : k < (⟨l.toArray⟩ : ByteArray).size then some ((⟨l.toArray⟩ : ByteArray)[k]) else none) = _
    have hs : k < (⟨l.toArray⟩ : ByteArray).size := by show k < l.toArray.size; simpa using hk
    rw [dif_pos hs]
    rfl
  simp [Instr.index, run_underlying Try.underlying9, asIntOf, h1]
theorem conv_str (l : List UInt8) (W : World) : ∃ c W', Sem.run Try.prog (convert 9 33 (.string ⟨l.toArray⟩)) W = .ok (.slice (some ⟨W.heap.size, 0, none⟩) l.length c) W' ∧ Holds W' (some ⟨W.heap.size, 0, none⟩) l ∧ l.length ≤ c ∧ Below W.heap.size W W' := by
  have hs : (⟨l.toArray⟩ : ByteArray).size = l.length := by show l.toArray.size = _; simp
  refine ⟨grownCap W l.length 0 5, Lib.bytesWorld W 5 ⟨l.toArray⟩, ?_, ?_, ?_, ?_⟩
  · have := Lib.run_convert_string_bytes (P := Try.prog) W 9 33 5 ⟨l.toArray⟩ Try.underlying9 Try.underlying33 Try.underlying5
    rw [hs] at this
    exact this
  · intro i hi
    refine ⟨W.heap.size, 0, rfl, by rw [Lib.bytesWorld_size]; omega, ?_⟩
    rw [Nat.zero_add, Lib.bytesWorld_cell W 5 ⟨l.toArray⟩ i (by rw [hs]; exact hi)]
    simp [List.getD_eq_getElem?_getD, hi]
  · exact grownCap_ge W l.length 0 5
  · exact ⟨rfl, rfl, rfl, by rw [Lib.bytesWorld_size]; omega, fun k hk => Lib.bytesWorld_at_old W 5 _ k hk⟩
/-- the preamble: the epoch that stands there. -/
theorem num_at8 (l : List UInt8) (hl : 12 ≤ l.length) : num4 (l.drop 8) = l[8].toNat + 256 * l[9].toNat + 65536 * l[10].toNat + 16777216 * l[11].toNat := by
  simp only [num4, List.getD_eq_getElem?_getD, List.getElem?_drop]
  rw [List.getElem?_eq_getElem (by omega), List.getElem?_eq_getElem (by omega), List.getElem?_eq_getElem (by omega), List.getElem?_eq_getElem (by omega)]
  rfl
/-HEADEND-/
set_option maxRecDepth 100000 in
set_option maxHeartbeats 1000000 in
theorem parse_err (l : List UInt8) (w : World) (hl : 12 ≤ l.length) (hn : l.length ≤ 2000) (he : openE (num4 (l.drop 8)) l ≠ 0) : Calls Try.prog 27 #[.string ⟨l.toArray⟩] w fun e w' => e = .returned (.tuple #[sup 0 0 0, .bool false]) ∧ Below w.heap.size w w' := by
  have i8 := run_index_str l 8 8 rfl (by omega)
  have i9 := run_index_str l 9 9 rfl (by omega)
  have ia := run_index_str l 10 10 rfl (by omega)
  have ib := run_index_str l 11 11 rfl (by omega)
  have x0 := l[8].toNat_lt; have x1 := l[9].toNat_lt; have x2 := l[10].toNat_lt; have x3 := l[11].toNat_lt
  have HN := num_at8 l hl
  have OPN := fun (A : Option Addr) (c : Nat) (W : World) (h : Holds W A l) (hc : l.length ≤ c) => ropen_any (num4 (l.drop 8)) (num4_lt _) A c l W h hc (by omega)
  generalize l[8].toNat = y0 at *
  generalize l[9].toNat = y1 at *
  generalize l[10].toNat = y2 at *
  generalize l[11].toNat = y3 at *
  generalize num4 (l.drop 8) = ep at *
  have HNI : Hid (((y0 : Int) + 256 * (y1 : Int) + 65536 * (y2 : Int) + 16777216 * (y3 : Int)) = (ep : Int)) := Lib.hid (by omega)
  have HBL : Hid ((openB ep l).length ≤ l.length) := Lib.hid (openB_len ep l)
  have OP := Lib.hid OPN
  have CV := Lib.hid (conv_str l)
  clear OPN HN
  have LL := Lib.hid hn
  generalize l.length = ll at *
  go_enter Try.func27, Try.ntmps27
  go_wp2_with fail
  go_quiet (fail)
  rw [HNI.out]
  have NA := (Whole.new w 30 #[.int .u32 0, .int .i64 0, .int .i64 0]).below (below_drewN (Below.refl _ _) nq) (Whole.new w 30 #[.int .u32 0, .int .i64 0, .int .i64 0]).lt
  have BA : Below w.heap.size w ((w.alloc (.cells #[.int .u32 0, .int .i64 0, .int .i64 0] 30)).drewN nq) := below_drewN ((Below.refl _ _).alloc (Nat.le_refl _) _) nq
  generalize (w.alloc (.cells #[.int .u32 0, .int .i64 0, .int .i64 0] 30)).drewN nq = w1 at *
  obtain ⟨cc, w2, cq, h2, hc2, b2⟩ := CV.out w1
  have N2 := Lib.hid (NA.below b2 NA.lt)
  have B2 := Lib.hid (below_next BA b2)
  have OP2 := Lib.hid (OP.out _ cc w2 h2 hc2)
  clear NA BA b2 i8 i9 ia ib OP CV h2 x0 x1 x2 x3 HNI
  go_wp2_with fail
  refine OP2.out.mono ?_
  rintro r w3 ⟨A3, c3, rfl, hh3, b3⟩
  have N3 := Lib.hid (N2.out.below b3 N2.out.lt)
  have B3 := Lib.hid (below_next B2.out b3)
  have t0 := N3.out.cell 0
  have t1 := N3.out.cell 1
  have t2 := N3.out.cell 2
  have f0 := N3.out.frozen 0
  have f1 := N3.out.frozen 1
  have f2 := N3.out.frozen 2
  simp only [List.getElem?_toArray, List.getElem?_cons_zero, List.getElem?_cons_succ] at t0 t1 t2
  have hq : (((openE ep l : Nat) : Int) == 0) = false := by simpa using he
  generalize openE ep l = E at *
  generalize openN ep l = n at *
  clear hh3 b3 OP2 cq
  go_wp2_with fail
  exact bodyPost_ret (results_s2 rfl _ _ w.heap.size #[.int .u32 0, .int .i64 0, .int .i64 0] rfl (N3.out.three _ _ _) rfl) rfl ⟨rfl, below_three B3.out (by omega) _ _ _⟩
set_option maxRecDepth 100000 in
set_option maxHeartbeats 1000000 in
theorem parse_nil (l : List UInt8) (w : World) (hl : 12 ≤ l.length) (hn : l.length ≤ 2000) (he : openE (num4 (l.drop 8)) l = 0) (hx : openB (num4 (l.drop 8)) l = []) : Calls Try.prog 27 #[.string ⟨l.toArray⟩] w fun e w' => e = .returned (.tuple #[sup 0 0 0, .bool false]) ∧ Below w.heap.size w w' := by
  have i8 := run_index_str l 8 8 rfl (by omega)
  have i9 := run_index_str l 9 9 rfl (by omega)
  have ia := run_index_str l 10 10 rfl (by omega)
  have ib := run_index_str l 11 11 rfl (by omega)
  have x0 := l[8].toNat_lt; have x1 := l[9].toNat_lt; have x2 := l[10].toNat_lt; have x3 := l[11].toNat_lt
  have HN := num_at8 l hl
  have OPN := fun (A : Option Addr) (c : Nat) (W : World) (h : Holds W A l) (hc : l.length ≤ c) => ropen_any (num4 (l.drop 8)) (num4_lt _) A c l W h hc (by omega)
  generalize l[8].toNat = y0 at *
  generalize l[9].toNat = y1 at *
  generalize l[10].toNat = y2 at *
  generalize l[11].toNat = y3 at *
  generalize num4 (l.drop 8) = ep at *
  have HNI : Hid (((y0 : Int) + 256 * (y1 : Int) + 65536 * (y2 : Int) + 16777216 * (y3 : Int)) = (ep : Int)) := Lib.hid (by omega)
  have HBL : Hid ((openB ep l).length ≤ l.length) := Lib.hid (openB_len ep l)
  have OP := Lib.hid OPN
  have CV := Lib.hid (conv_str l)
  clear OPN HN
  have LL := Lib.hid hn
  generalize l.length = ll at *
  go_enter Try.func27, Try.ntmps27
  go_wp2_with fail
  go_quiet (fail)
  rw [HNI.out]
  have NA := (Whole.new w 30 #[.int .u32 0, .int .i64 0, .int .i64 0]).below (below_drewN (Below.refl _ _) nq) (Whole.new w 30 #[.int .u32 0, .int .i64 0, .int .i64 0]).lt
  have BA : Below w.heap.size w ((w.alloc (.cells #[.int .u32 0, .int .i64 0, .int .i64 0] 30)).drewN nq) := below_drewN ((Below.refl _ _).alloc (Nat.le_refl _) _) nq
  generalize (w.alloc (.cells #[.int .u32 0, .int .i64 0, .int .i64 0] 30)).drewN nq = w1 at *
  obtain ⟨cc, w2, cq, h2, hc2, b2⟩ := CV.out w1
  have N2 := Lib.hid (NA.below b2 NA.lt)
  have B2 := Lib.hid (below_next BA b2)
  have OP2 := Lib.hid (OP.out _ cc w2 h2 hc2)
  clear NA BA b2 i8 i9 ia ib OP CV h2 x0 x1 x2 x3 HNI
  go_wp2_with fail
  refine OP2.out.mono ?_
  rintro r w3 ⟨A3, c3, rfl, hh3, b3⟩
  have N3 := Lib.hid (N2.out.below b3 N2.out.lt)
  have B3 := Lib.hid (below_next B2.out b3)
  have t0 := N3.out.cell 0
  have t1 := N3.out.cell 1
  have t2 := N3.out.cell 2
  have f0 := N3.out.frozen 0
  have f1 := N3.out.frozen 1
  have f2 := N3.out.frozen 2
  simp only [List.getElem?_toArray, List.getElem?_cons_zero, List.getElem?_cons_succ] at t0 t1 t2
  rw [he]
  rw [hx] at hh3 ⊢
  generalize openN ep l = n at *
  clear hh3 b3 OP2 cq
  go_wp2_with fail
  exact bodyPost_ret (results_s2 rfl _ _ w.heap.size #[.int .u32 0, .int .i64 0, .int .i64 0] rfl (N3.out.three _ _ _) rfl) rfl ⟨rfl, below_three B3.out (by omega) _ _ _⟩
set_option maxRecDepth 100000 in
set_option maxHeartbeats 1000000 in
theorem parse_none (l : List UInt8) (w : World) (hl : 12 ≤ l.length) (hn : l.length ≤ 2000) (x : UInt8) (r : List UInt8) (he : openE (num4 (l.drop 8)) l = 0) (hx : openB (num4 (l.drop 8)) l = x :: r) (hnum : numOf r = none) : Calls Try.prog 27 #[.string ⟨l.toArray⟩] w fun e w' => e = .returned (.tuple #[sup 0 0 0, .bool false]) ∧ Below w.heap.size w w' := by
  have i8 := run_index_str l 8 8 rfl (by omega)
  have i9 := run_index_str l 9 9 rfl (by omega)
  have ia := run_index_str l 10 10 rfl (by omega)
  have ib := run_index_str l 11 11 rfl (by omega)
  have x0 := l[8].toNat_lt; have x1 := l[9].toNat_lt; have x2 := l[10].toNat_lt; have x3 := l[11].toNat_lt
  have HN := num_at8 l hl
  have OPN := fun (A : Option Addr) (c : Nat) (W : World) (h : Holds W A l) (hc : l.length ≤ c) => ropen_any (num4 (l.drop 8)) (num4_lt _) A c l W h hc (by omega)
  generalize l[8].toNat = y0 at *
  generalize l[9].toNat = y1 at *
  generalize l[10].toNat = y2 at *
  generalize l[11].toNat = y3 at *
  generalize num4 (l.drop 8) = ep at *
  have HNI : Hid (((y0 : Int) + 256 * (y1 : Int) + 65536 * (y2 : Int) + 16777216 * (y3 : Int)) = (ep : Int)) := Lib.hid (by omega)
  have HBL : Hid ((openB ep l).length ≤ l.length) := Lib.hid (openB_len ep l)
  have OP := Lib.hid OPN
  have CV := Lib.hid (conv_str l)
  clear OPN HN
  have LL := Lib.hid hn
  generalize l.length = ll at *
  go_enter Try.func27, Try.ntmps27
  go_wp2_with fail
  go_quiet (fail)
  rw [HNI.out]
  have NA := (Whole.new w 30 #[.int .u32 0, .int .i64 0, .int .i64 0]).below (below_drewN (Below.refl _ _) nq) (Whole.new w 30 #[.int .u32 0, .int .i64 0, .int .i64 0]).lt
  have BA : Below w.heap.size w ((w.alloc (.cells #[.int .u32 0, .int .i64 0, .int .i64 0] 30)).drewN nq) := below_drewN ((Below.refl _ _).alloc (Nat.le_refl _) _) nq
  generalize (w.alloc (.cells #[.int .u32 0, .int .i64 0, .int .i64 0] 30)).drewN nq = w1 at *
  obtain ⟨cc, w2, cq, h2, hc2, b2⟩ := CV.out w1
  have N2 := Lib.hid (NA.below b2 NA.lt)
  have B2 := Lib.hid (below_next BA b2)
  have OP2 := Lib.hid (OP.out _ cc w2 h2 hc2)
  clear NA BA b2 i8 i9 ia ib OP CV h2 x0 x1 x2 x3 HNI
  go_wp2_with fail
  refine OP2.out.mono ?_
  rintro r w3 ⟨A3, c3, rfl, hh3, b3⟩
  have N3 := Lib.hid (N2.out.below b3 N2.out.lt)
  have B3 := Lib.hid (below_next B2.out b3)
  have ho : openB ep l = x :: r := hx
  rw [he]
  rw [ho] at hh3 HBL ⊢
  generalize openN ep l = n0 at *
  have hrl : r.length ≤ 2000 := by
    have h5 := HBL.out
    have h6 := LL.out
    simp only [List.length_cons] at h5
    omega
  obtain ⟨bx, ox, ex, hltx, hcx⟩ := hh3 0 (by simp)
  rw [show (x :: r)[0] = x from rfl] at hcx
  subst ex
  have GU := refGetUint (some ⟨bx, ox, none⟩) c3 (x :: r) 1 w3 hh3 (by simp only [List.length_cons]; omega) (by simp)
  rw [show (x :: r).drop 1 = r from rfl, hnum] at GU
  simp only [Placed] at GU
  have GU1 := Lib.hid GU
  have hrlen : (x :: r).length = r.length + 1 := rfl
  rw [hrlen] at GU1 ⊢
  have hpos : (1 : Int) ≤ ((r.length + 1 : Nat) : Int) := by omega
  have xl := x.toNat_lt
  clear GU hh3 b3 OP2 cq HBL
  generalize r.length = rl at *
  go_wp2_with fail
  refine GU1.out.mono ?_
  rintro e w4 ⟨rfl, k4, hk4⟩
  have b4 : Below w3.heap.size w3 w4 := by rw [hk4]; exact below_drewN (Below.refl _ _) k4
  have N4 := Lib.hid (N3.out.below b4 N3.out.lt)
  have B4 := Lib.hid (below_next B3.out b4)
  have t0 := N4.out.cell 0
  have t1 := N4.out.cell 1
  have t2 := N4.out.cell 2
  have f0 := N4.out.frozen 0
  have f1 := N4.out.frozen 1
  have f2 := N4.out.frozen 2
  simp only [List.getElem?_toArray, List.getElem?_cons_zero, List.getElem?_cons_succ] at t0 t1 t2
  clear b4 GU1 hk4
  go_wp2_with fail
  exact bodyPost_ret (results_s2 rfl _ _ w.heap.size #[.int .u32 0, .int .i64 0, .int .i64 0] rfl (N4.out.three _ _ _) rfl) rfl ⟨rfl, below_three B4.out (by omega) _ _ _⟩
set_option maxRecDepth 100000 in
set_option maxHeartbeats 1000000 in
theorem parse_more (l : List UInt8) (w : World) (hl : 12 ≤ l.length) (hn : l.length ≤ 2000) (x : UInt8) (r : List UInt8) (he : openE (num4 (l.drop 8)) l = 0) (hx : openB (num4 (l.drop 8)) l = x :: r) (n : Nat) (y : UInt8) (t : List UInt8) (hnum : numOf r = some (n, y :: t)) : Calls Try.prog 27 #[.string ⟨l.toArray⟩] w fun e w' => e = .returned (.tuple #[sup 0 0 0, .bool false]) ∧ Below w.heap.size w w' := by
  have i8 := run_index_str l 8 8 rfl (by omega)
  have i9 := run_index_str l 9 9 rfl (by omega)
  have ia := run_index_str l 10 10 rfl (by omega)
  have ib := run_index_str l 11 11 rfl (by omega)
  have x0 := l[8].toNat_lt; have x1 := l[9].toNat_lt; have x2 := l[10].toNat_lt; have x3 := l[11].toNat_lt
  have HN := num_at8 l hl
  have OPN := fun (A : Option Addr) (c : Nat) (W : World) (h : Holds W A l) (hc : l.length ≤ c) => ropen_any (num4 (l.drop 8)) (num4_lt _) A c l W h hc (by omega)
  generalize l[8].toNat = y0 at *
  generalize l[9].toNat = y1 at *
  generalize l[10].toNat = y2 at *
  generalize l[11].toNat = y3 at *
  generalize num4 (l.drop 8) = ep at *
  have HNI : Hid (((y0 : Int) + 256 * (y1 : Int) + 65536 * (y2 : Int) + 16777216 * (y3 : Int)) = (ep : Int)) := Lib.hid (by omega)
  have HBL : Hid ((openB ep l).length ≤ l.length) := Lib.hid (openB_len ep l)
  have OP := Lib.hid OPN
  have CV := Lib.hid (conv_str l)
  clear OPN HN
  have LL := Lib.hid hn
  generalize l.length = ll at *
  go_enter Try.func27, Try.ntmps27
  go_wp2_with fail
  go_quiet (fail)
  rw [HNI.out]
  have NA := (Whole.new w 30 #[.int .u32 0, .int .i64 0, .int .i64 0]).below (below_drewN (Below.refl _ _) nq) (Whole.new w 30 #[.int .u32 0, .int .i64 0, .int .i64 0]).lt
  have BA : Below w.heap.size w ((w.alloc (.cells #[.int .u32 0, .int .i64 0, .int .i64 0] 30)).drewN nq) := below_drewN ((Below.refl _ _).alloc (Nat.le_refl _) _) nq
  generalize (w.alloc (.cells #[.int .u32 0, .int .i64 0, .int .i64 0] 30)).drewN nq = w1 at *
  obtain ⟨cc, w2, cq, h2, hc2, b2⟩ := CV.out w1
  have N2 := Lib.hid (NA.below b2 NA.lt)
  have B2 := Lib.hid (below_next BA b2)
  have OP2 := Lib.hid (OP.out _ cc w2 h2 hc2)
  clear NA BA b2 i8 i9 ia ib OP CV h2 x0 x1 x2 x3 HNI
  go_wp2_with fail
  refine OP2.out.mono ?_
  rintro r w3 ⟨A3, c3, rfl, hh3, b3⟩
  have N3 := Lib.hid (N2.out.below b3 N2.out.lt)
  have B3 := Lib.hid (below_next B2.out b3)
  have ho : openB ep l = x :: r := hx
  rw [he]
  rw [ho] at hh3 HBL ⊢
  generalize openN ep l = n0 at *
  have hrl : r.length ≤ 2000 := by
    have h5 := HBL.out
    have h6 := LL.out
    simp only [List.length_cons] at h5
    omega
  obtain ⟨bx, ox, ex, hltx, hcx⟩ := hh3 0 (by simp)
  rw [show (x :: r)[0] = x from rfl] at hcx
  subst ex
  have GU := refGetUint (some ⟨bx, ox, none⟩) c3 (x :: r) 1 w3 hh3 (by simp only [List.length_cons]; omega) (by simp)
  rw [show (x :: r).drop 1 = r from rfl, hnum] at GU
  simp only [Placed] at GU
  have GU1 := Lib.hid GU
  have hrlen : (x :: r).length = r.length + 1 := rfl
  rw [hrlen] at GU1 ⊢
  have hpos : (1 : Int) ≤ ((r.length + 1 : Nat) : Int) := by omega
  have xl := x.toNat_lt
  clear GU hh3 b3 OP2 cq HBL
  have hne : ((r.length + 1 - (y :: t).length : Nat) : Int) ≠ ((r.length : Nat) : Int) + 1 := by simp only [List.length_cons]; omega
  generalize ((r.length + 1 - (y :: t).length : Nat) : Int) = pz at *
  generalize r.length = rl at *
  have hneb : (pz == (rl : Int) + 1) = false := by simpa using hne
  go_wp2_with fail
  refine GU1.out.mono ?_
  rintro e w4 ⟨rfl, k4, hk4⟩
  have b4 : Below w3.heap.size w3 w4 := by rw [hk4]; exact below_drewN (Below.refl _ _) k4
  have N4 := Lib.hid (N3.out.below b4 N3.out.lt)
  have B4 := Lib.hid (below_next B3.out b4)
  have t0 := N4.out.cell 0
  have t1 := N4.out.cell 1
  have t2 := N4.out.cell 2
  have f0 := N4.out.frozen 0
  have f1 := N4.out.frozen 1
  have f2 := N4.out.frozen 2
  simp only [List.getElem?_toArray, List.getElem?_cons_zero, List.getElem?_cons_succ] at t0 t1 t2
  clear b4 GU1 hk4
  go_wp2_with fail
  exact bodyPost_ret (results_s2 rfl _ _ w.heap.size #[.int .u32 0, .int .i64 0, .int .i64 0] rfl (N4.out.three _ _ _) rfl) rfl ⟨rfl, below_three B4.out (by omega) _ _ _⟩
set_option maxRecDepth 100000 in
set_option maxHeartbeats 1000000 in
theorem parse_far (l : List UInt8) (w : World) (hl : 12 ≤ l.length) (hn : l.length ≤ 2000) (x : UInt8) (r : List UInt8) (he : openE (num4 (l.drop 8)) l = 0) (hx : openB (num4 (l.drop 8)) l = x :: r) (n : Nat) (hnum : numOf r = some (n, [])) (hf : 600 < n) : Calls Try.prog 27 #[.string ⟨l.toArray⟩] w fun e w' => e = .returned (.tuple #[sup 0 0 0, .bool false]) ∧ Below w.heap.size w w' := by
  have i8 := run_index_str l 8 8 rfl (by omega)
  have i9 := run_index_str l 9 9 rfl (by omega)
  have ia := run_index_str l 10 10 rfl (by omega)
  have ib := run_index_str l 11 11 rfl (by omega)
  have x0 := l[8].toNat_lt; have x1 := l[9].toNat_lt; have x2 := l[10].toNat_lt; have x3 := l[11].toNat_lt
  have HN := num_at8 l hl
  have OPN := fun (A : Option Addr) (c : Nat) (W : World) (h : Holds W A l) (hc : l.length ≤ c) => ropen_any (num4 (l.drop 8)) (num4_lt _) A c l W h hc (by omega)
  generalize l[8].toNat = y0 at *
  generalize l[9].toNat = y1 at *
  generalize l[10].toNat = y2 at *
  generalize l[11].toNat = y3 at *
  generalize num4 (l.drop 8) = ep at *
  have HNI : Hid (((y0 : Int) + 256 * (y1 : Int) + 65536 * (y2 : Int) + 16777216 * (y3 : Int)) = (ep : Int)) := Lib.hid (by omega)
  have HBL : Hid ((openB ep l).length ≤ l.length) := Lib.hid (openB_len ep l)
  have OP := Lib.hid OPN
  have CV := Lib.hid (conv_str l)
  clear OPN HN
  have LL := Lib.hid hn
  generalize l.length = ll at *
  go_enter Try.func27, Try.ntmps27
  go_wp2_with fail
  go_quiet (fail)
  rw [HNI.out]
  have NA := (Whole.new w 30 #[.int .u32 0, .int .i64 0, .int .i64 0]).below (below_drewN (Below.refl _ _) nq) (Whole.new w 30 #[.int .u32 0, .int .i64 0, .int .i64 0]).lt
  have BA : Below w.heap.size w ((w.alloc (.cells #[.int .u32 0, .int .i64 0, .int .i64 0] 30)).drewN nq) := below_drewN ((Below.refl _ _).alloc (Nat.le_refl _) _) nq
  generalize (w.alloc (.cells #[.int .u32 0, .int .i64 0, .int .i64 0] 30)).drewN nq = w1 at *
  obtain ⟨cc, w2, cq, h2, hc2, b2⟩ := CV.out w1
  have N2 := Lib.hid (NA.below b2 NA.lt)
  have B2 := Lib.hid (below_next BA b2)
  have OP2 := Lib.hid (OP.out _ cc w2 h2 hc2)
  clear NA BA b2 i8 i9 ia ib OP CV h2 x0 x1 x2 x3 HNI
  go_wp2_with fail
  refine OP2.out.mono ?_
  rintro r w3 ⟨A3, c3, rfl, hh3, b3⟩
  have N3 := Lib.hid (N2.out.below b3 N2.out.lt)
  have B3 := Lib.hid (below_next B2.out b3)
  have ho : openB ep l = x :: r := hx
  rw [he]
  rw [ho] at hh3 HBL ⊢
  generalize openN ep l = n0 at *
  have hrl : r.length ≤ 2000 := by
    have h5 := HBL.out
    have h6 := LL.out
    simp only [List.length_cons] at h5
    omega
  obtain ⟨bx, ox, ex, hltx, hcx⟩ := hh3 0 (by simp)
  rw [show (x :: r)[0] = x from rfl] at hcx
  subst ex
  have GU := refGetUint (some ⟨bx, ox, none⟩) c3 (x :: r) 1 w3 hh3 (by simp only [List.length_cons]; omega) (by simp)
  rw [show (x :: r).drop 1 = r from rfl, hnum] at GU
  simp only [Placed] at GU
  have GU1 := Lib.hid GU
  have hrlen : (x :: r).length = r.length + 1 := rfl
  rw [hrlen] at GU1 ⊢
  have hpos : (1 : Int) ≤ ((r.length + 1 : Nat) : Int) := by omega
  have xl := x.toNat_lt
  clear GU hh3 b3 OP2 cq HBL
  rw [show r.length + 1 - ([] : List UInt8).length = r.length + 1 by simp] at GU1
  generalize r.length = rl at *
  go_wp2_with fail
  refine GU1.out.mono ?_
  rintro e w4 ⟨rfl, k4, hk4⟩
  have b4 : Below w3.heap.size w3 w4 := by rw [hk4]; exact below_drewN (Below.refl _ _) k4
  have N4 := Lib.hid (N3.out.below b4 N3.out.lt)
  have B4 := Lib.hid (below_next B3.out b4)
  have t0 := N4.out.cell 0
  have t1 := N4.out.cell 1
  have t2 := N4.out.cell 2
  have f0 := N4.out.frozen 0
  have f1 := N4.out.frozen 1
  have f2 := N4.out.frozen 2
  simp only [List.getElem?_toArray, List.getElem?_cons_zero, List.getElem?_cons_succ] at t0 t1 t2
  have hf' : (600 : Int) < (n : Int) := by omega
  clear b4 GU1 hk4
  go_wp2_with fail
  exact bodyPost_ret (results_s2 rfl _ _ w.heap.size #[.int .u32 0, .int .i64 0, .int .i64 0] rfl (N4.out.three _ _ _) rfl) rfl ⟨rfl, below_three B4.out (by omega) _ _ _⟩
set_option maxRecDepth 100000 in
set_option maxHeartbeats 1000000 in
theorem parse_fit (l : List UInt8) (w : World) (hl : 12 ≤ l.length) (hn : l.length ≤ 2000) (x : UInt8) (r : List UInt8) (he : openE (num4 (l.drop 8)) l = 0) (hx : openB (num4 (l.drop 8)) l = x :: r) (n : Nat) (hnum : numOf r = some (n, [])) (hf : n ≤ 600) : Calls Try.prog 27 #[.string ⟨l.toArray⟩] w fun e w' => e = .returned (.tuple #[sup (num4 (l.drop 8) : Nat) (x.toNat : Nat) (n : Nat), .bool (fitsB (num4 (l.drop 8) : Nat) (x.toNat : Nat) (n : Nat))]) ∧ Below w.heap.size w w' := by
  have i8 := run_index_str l 8 8 rfl (by omega)
  have i9 := run_index_str l 9 9 rfl (by omega)
  have ia := run_index_str l 10 10 rfl (by omega)
  have ib := run_index_str l 11 11 rfl (by omega)
  have x0 := l[8].toNat_lt; have x1 := l[9].toNat_lt; have x2 := l[10].toNat_lt; have x3 := l[11].toNat_lt
  have HN := num_at8 l hl
  have OPN := fun (A : Option Addr) (c : Nat) (W : World) (h : Holds W A l) (hc : l.length ≤ c) => ropen_any (num4 (l.drop 8)) (num4_lt _) A c l W h hc (by omega)
  generalize l[8].toNat = y0 at *
  generalize l[9].toNat = y1 at *
  generalize l[10].toNat = y2 at *
  generalize l[11].toNat = y3 at *
  generalize num4 (l.drop 8) = ep at *
  have HNI : Hid (((y0 : Int) + 256 * (y1 : Int) + 65536 * (y2 : Int) + 16777216 * (y3 : Int)) = (ep : Int)) := Lib.hid (by omega)
  have HBL : Hid ((openB ep l).length ≤ l.length) := Lib.hid (openB_len ep l)
  have OP := Lib.hid OPN
  have CV := Lib.hid (conv_str l)
  clear OPN HN
  have LL := Lib.hid hn
  generalize l.length = ll at *
  go_enter Try.func27, Try.ntmps27
  go_wp2_with fail
  go_quiet (fail)
  rw [HNI.out]
  have NA := (Whole.new w 30 #[.int .u32 0, .int .i64 0, .int .i64 0]).below (below_drewN (Below.refl _ _) nq) (Whole.new w 30 #[.int .u32 0, .int .i64 0, .int .i64 0]).lt
  have BA : Below w.heap.size w ((w.alloc (.cells #[.int .u32 0, .int .i64 0, .int .i64 0] 30)).drewN nq) := below_drewN ((Below.refl _ _).alloc (Nat.le_refl _) _) nq
  generalize (w.alloc (.cells #[.int .u32 0, .int .i64 0, .int .i64 0] 30)).drewN nq = w1 at *
  obtain ⟨cc, w2, cq, h2, hc2, b2⟩ := CV.out w1
  have N2 := Lib.hid (NA.below b2 NA.lt)
  have B2 := Lib.hid (below_next BA b2)
  have OP2 := Lib.hid (OP.out _ cc w2 h2 hc2)
  clear NA BA b2 i8 i9 ia ib OP CV h2 x0 x1 x2 x3 HNI
  go_wp2_with fail
  refine OP2.out.mono ?_
  rintro r w3 ⟨A3, c3, rfl, hh3, b3⟩
  have N3 := Lib.hid (N2.out.below b3 N2.out.lt)
  have B3 := Lib.hid (below_next B2.out b3)
  have ho : openB ep l = x :: r := hx
  rw [he]
  rw [ho] at hh3 HBL ⊢
  generalize openN ep l = n0 at *
  have hrl : r.length ≤ 2000 := by
    have h5 := HBL.out
    have h6 := LL.out
    simp only [List.length_cons] at h5
    omega
  obtain ⟨bx, ox, ex, hltx, hcx⟩ := hh3 0 (by simp)
  rw [show (x :: r)[0] = x from rfl] at hcx
  subst ex
  have GU := refGetUint (some ⟨bx, ox, none⟩) c3 (x :: r) 1 w3 hh3 (by simp only [List.length_cons]; omega) (by simp)
  rw [show (x :: r).drop 1 = r from rfl, hnum] at GU
  simp only [Placed] at GU
  have GU1 := Lib.hid GU
  have hrlen : (x :: r).length = r.length + 1 := rfl
  rw [hrlen] at GU1 ⊢
  have hpos : (1 : Int) ≤ ((r.length + 1 : Nat) : Int) := by omega
  have xl := x.toNat_lt
  clear GU hh3 b3 OP2 cq HBL
  rw [show r.length + 1 - ([] : List UInt8).length = r.length + 1 by simp] at GU1
  generalize r.length = rl at *
  go_wp2_with fail
  refine GU1.out.mono ?_
  rintro e w4 ⟨rfl, k4, hk4⟩
  have b4 : Below w3.heap.size w3 w4 := by rw [hk4]; exact below_drewN (Below.refl _ _) k4
  have N4 := Lib.hid (N3.out.below b4 N3.out.lt)
  have B4 := Lib.hid (below_next B3.out b4)
  have hf' : (n : Int) ≤ (600 : Int) := by omega
  have ci := (b4.cell (p := ⟨bx, ox + 0, none⟩) hltx).trans hcx
  rw [Nat.add_zero] at ci
  clear b4 GU1 hk4
  go_wp2_with fail
  have NN := Whole.new w4 30 #[.int .u32 (ep : Nat), .int .i64 (x.toNat : Nat), .int .i64 (n : Nat)]
  have b3 : Below w4.heap.size w4 (w4.alloc (.cells #[.int .u32 (ep : Nat), .int .i64 (x.toNat : Nat), .int .i64 (n : Nat)] 30)) := (Below.refl _ _).alloc (Nat.le_refl _) _
  have N4a := N4.out.below b3 N4.out.lt
  have B5a := Lib.hid (below_next B4.out b3)
  have FT := Lib.hid (refFits_any (ep : Nat) (x.toNat : Nat) (n : Nat))
  have q4 : w4.heap.size < (w4.alloc (.cells #[.int .u32 (ep : Nat), .int .i64 (x.toNat : Nat), .int .i64 (n : Nat)] 30)).heap.size := by simp
  have q5 : w.heap.size < (w4.alloc (.cells #[.int .u32 (ep : Nat), .int .i64 (x.toNat : Nat), .int .i64 (n : Nat)] 30)).heap.size := by have := N4.out.lt; simp; omega
  clear N4 N3 N2 b3 ci hcx hnum hf
  generalize (w4.alloc (.cells #[.int .u32 (ep : Nat), .int .i64 (x.toNat : Nat), .int .i64 (n : Nat)] 30)) = wB at *
  generalize hfb : fitsB (ep : Nat) (x.toNat : Nat) (n : Nat) = fb at *
  have HFB := Lib.hid hfb
  clear hfb
  have n0 := NN.cell 0
  have n1 := NN.cell 1
  have n2 := NN.cell 2
  simp only [List.getElem?_toArray, List.getElem?_cons_zero, List.getElem?_cons_succ] at n0 n1 n2
  have NNd := Lib.hid NN.drew
  have N4d := Lib.hid N4a.drew
  clear NN N4a
  go_region_with (first
    | (go_at_call 9; refine (FT.out _).mono ?_; rintro e w5 ⟨rfl, hb5⟩; have N5 := Lib.hid (N4d.out.below hb5 q5); have B6 := Lib.hid (below_next (B5a.out.drew) hb5); have NB := NNd.out.below hb5 q4; have m0 := NB.cell 0; have m1 := NB.cell 1; have m2 := NB.cell 2; simp only [List.getElem?_toArray, List.getElem?_cons_zero, List.getElem?_cons_succ] at m0 m1 m2; have t0 := N5.out.cell 0; have t1 := N5.out.cell 1; have t2 := N5.out.cell 2; have f0 := N5.out.frozen 0; have f1 := N5.out.frozen 1; have f2 := N5.out.frozen 2; simp only [List.getElem?_toArray, List.getElem?_cons_zero, List.getElem?_cons_succ] at t0 t1 t2; clear NB hb5))
  all_goals
    clear m0 m1 m2 n0 n1 n2 t0 t1 t2 f0 f1 f2
    go_wp2_with fail
    exact bodyPost_ret (results_s2 rfl _ _ w.heap.size #[.int .u32 (ep : Nat), .int .i64 (x.toNat : Nat), .int .i64 (n : Nat)] (by first | rfl | simp [Act.put]) (N5.out.three _ _ _) rfl) rfl ⟨by simp [Act.put, HFB.out], below_three B6.out (by omega) _ _ _⟩
theorem parse_any (l : List UInt8) (w : World) (hl : 12 ≤ l.length) (hn : l.length ≤ 2000) : Calls Try.prog 27 #[.string ⟨l.toArray⟩] w fun e w' => ReadSays l e ∧ Below w.heap.size w w' := by
  by_cases he : openE (num4 (l.drop 8)) l = 0
  · cases hx : openB (num4 (l.drop 8)) l with
    | nil => exact (parse_nil l w hl hn he hx).mono fun e w' hh => ⟨.no (by unfold supOf; rw [if_pos he, hx]) hh.1, hh.2⟩
    | cons x r =>
      cases hnum : numOf r with
      | none => exact (parse_none l w hl hn x r he hx hnum).mono fun e w' hh => ⟨.no (by unfold supOf; rw [if_pos he, hx]; simp only; rw [hnum]) hh.1, hh.2⟩
      | some q =>
        obtain ⟨n, t⟩ := q
        cases t with
        | cons y t => exact (parse_more l w hl hn x r he hx n y t hnum).mono fun e w' hh => ⟨.no (by unfold supOf; rw [if_pos he, hx]; simp only; rw [hnum]) hh.1, hh.2⟩
        | nil =>
          have hs : supOf l = if fitsB (num4 (l.drop 8) : Nat) (x.toNat : Nat) (n : Nat) = true then some ⟨num4 (l.drop 8), x.toNat, n⟩ else none := by
            unfold supOf
            rw [if_pos he, hx]
            simp only
            rw [hnum]
          by_cases hf : 600 < n
          · refine (parse_far l w hl hn x r he hx n hnum hf).mono fun e w' hh => ⟨.no ?_ hh.1, hh.2⟩
            rw [hs, if_neg]
            simp only [fitsB, decide_eq_true_eq]
            omega
          · refine (parse_fit l w hl hn x r he hx n hnum (by omega)).mono fun e w' hh => ⟨?_, hh.2⟩
            cases hb : fitsB (num4 (l.drop 8) : Nat) (x.toNat : Nat) (n : Nat) with
            | true => exact .inl ⟨_, by rw [hs, if_pos hb], by rw [hh.1, hb]⟩
            | false => exact .inr ⟨by rw [hs, if_neg (by rw [hb]; simp)], _, _, _, by rw [hh.1, hb]⟩
  · exact (parse_err l w hl hn he).mono fun e w' hh => ⟨.no (by unfold supOf; rw [if_neg he]) hh.1, hh.2⟩
/-- where none stands there, what is told is the same in each world. -/
theorem parse_none_says (l : List UInt8) (hs : supOf l = none) (hl : 12 ≤ l.length) (hn : l.length ≤ 2000) : ∃ e a u : Int, ∀ W, Calls Try.prog 27 #[.string ⟨l.toArray⟩] W fun r w' => r = .returned (.tuple #[sup e a u, .bool false]) ∧ Below W.heap.size W w' := by
  by_cases he : openE (num4 (l.drop 8)) l = 0
  · cases hx : openB (num4 (l.drop 8)) l with
    | nil => exact ⟨0, 0, 0, fun W => parse_nil l W hl hn he hx⟩
    | cons x r =>
      cases hnum : numOf r with
      | none => exact ⟨0, 0, 0, fun W => parse_none l W hl hn x r he hx hnum⟩
      | some q =>
        obtain ⟨n, t⟩ := q
        cases t with
        | cons y t => exact ⟨0, 0, 0, fun W => parse_more l W hl hn x r he hx n y t hnum⟩
        | nil =>
          by_cases hf : 600 < n
          · exact ⟨0, 0, 0, fun W => parse_far l W hl hn x r he hx n hnum hf⟩
          · have hb : fitsB (num4 (l.drop 8) : Nat) (x.toNat : Nat) (n : Nat) = false := by
              unfold supOf at hs
              rw [if_pos he, hx] at hs
              simp only at hs
              rw [hnum] at hs
              simp only at hs
              cases hb : fitsB (num4 (l.drop 8) : Nat) (x.toNat : Nat) (n : Nat) with
              | false => rfl
              | true => rw [if_pos hb] at hs; cases hs
            exact ⟨_, _, _, fun W => (parse_fit l W hl hn x r he hx n hnum (by omega)).mono fun e w' hh => ⟨by rw [hh.1, hb], hh.2⟩⟩
  · exact ⟨0, 0, 0, fun W => parse_err l W hl hn he⟩
end Go.Proofs.Ytjoenmmjpmnkfaa
