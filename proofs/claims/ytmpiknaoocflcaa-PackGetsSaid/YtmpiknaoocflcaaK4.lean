/- addInt, addText; the reference's Uint, Int, Text; Uint, Int, Text. -/
import Derived.Test.YtmpiknaoocflcaaK3
import Derived.Laws.DeepNot64
namespace Go.Proofs.Ytmpiknaoocflcaa
open Go.RowKit

/-- a whole number as one from 0 on. -/
def zig (n : Int) : Nat := if n < 0 then (-2 * n - 1).toNat else (2 * n).toNat
theorem zig_lt {n : Int} (h1 : -9223372036854775808 ≤ n) (h2 : n ≤ 9223372036854775807) : zig n < 18446744073709551616 := by unfold zig; split <;> omega
/-- a text's bytes, their number ahead. -/
def txt (s : ByteArray) : List UInt8 := grp s.size ++ s.data.toList

theorem i64_not_neg (n : Int) (h1 : -9223372036854775808 ≤ n) (h2 : n < 0) : bits .xor .i64 (-1) n = -1 - n := by
  show IntKind.i64.wrap ((BitVec.ofInt 64 (-1) ^^^ BitVec.ofInt 64 n).toNat : Int) = _
  have h3 : BitVec.ofInt 64 (-1) = BitVec.allOnes 64 := by decide
  rw [h3, BitVec.allOnes_xor, BitVec.toNat_not, BitVec.toNat_ofInt]
  simp [IntKind.wrap, IntKind.bits, IntKind.signed]
  omega
theorem or_one (a : Nat) (h : 2 * a + 1 < 18446744073709551616) : bits .or .u64 ((2 * a : Nat) : Int) 1 = ((2 * a + 1 : Nat) : Int) := by
  have h1 := u64_or_nat (2 * a) 1 (by omega) (by omega)
  have h2 := Nat.two_pow_add_eq_or_of_lt (i := 1) (b := 1) (by omega) a
  rw [Nat.pow_one] at h2
  rw [← h2] at h1
  exact h1
theorem zig_neg (n : Int) (h1 : -9223372036854775808 ≤ n) (h2 : n < 0) : bits .or .u64 (IntKind.u64.wrap (IntKind.u64.wrap (bits .xor .i64 (-1) n) * 2)) 1 = (zig n : Nat) := by
  rw [i64_not_neg n h1 h2]
  have e1 : IntKind.u64.wrap (-1 - n) = -1 - n := by rw [IntKind.wrap_u64]; omega
  have e2 : IntKind.u64.wrap ((-1 - n) * 2) = ((2 * (-1 - n).toNat : Nat) : Int) := by rw [IntKind.wrap_u64]; omega
  rw [e1, e2, or_one _ (by omega)]
  unfold zig
  rw [if_pos h2]
  omega
theorem zig_pos (n : Int) (h2 : ¬ n < 0) : n * 2 = (zig n : Nat) := by
  unfold zig
  rw [if_neg h2]
  omega

set_option maxRecDepth 100000 in
set_option maxHeartbeats 1000000 in
theorem addInt_any (w0 : World) (n : Int) (h1 : -9223372036854775808 ≤ n) (h2 : n ≤ 9223372036854775807) (v0 : Value) (l : List UInt8) (w : World) (h : Ready w0 w v0 l) (hl : l.length ≤ 900000) :
    Calls Try.prog 35 #[v0, .int .i64 n] w fun r w' => ∃ v, r = .returned v ∧ Row w' w0.heap.size v (l ++ grp (zig n)) ∧ Below w0.heap.size w0 w' := by
  have HZ := Lib.hid (zig_lt h1 h2)
  have H0 := Lib.hid h
  clear h
  have AD := Lib.hid (addUint_any w0 (zig n) (zig_lt h1 h2) v0 l w H0.out hl)
  by_cases hn : n < 0
  · have HN := Lib.hid (zig_neg n h1 hn)
    go_enter Try.func35, Try.ntmps35
    go_wp2_with fail
    rw [HN.out]
    refine AD.out.mono ?_
    rintro r w' ⟨v, rfl, hr, hb⟩
    have HR := Lib.hid hr
    clear hr
    go_wp2_with fail
    go_ret
    exact ⟨_, rfl, HR.out, hb⟩
  · have HN := Lib.hid (zig_pos n hn)
    go_enter Try.func35, Try.ntmps35
    go_wp2_with fail
    rw [HN.out]
    refine AD.out.mono ?_
    rintro r w' ⟨v, rfl, hr, hb⟩
    have HR := Lib.hid hr
    clear hr
    go_wp2_with fail
    go_ret
    exact ⟨_, rfl, HR.out, hb⟩

set_option maxRecDepth 100000 in
set_option maxHeartbeats 1000000 in
theorem refUint_any : ∀ (k n : Nat), n < 128 ^ (k + 1) → n < 18446744073709551616 → k < 10 → ∀ w : World,
    Calls Try.prog 11 #[.int .u64 n] w fun r w' => ∃ v, r = .returned v ∧ Row w' w.heap.size v (grp n) ∧ Below w.heap.size w w'
  | k, n => by
    intro h hn hk w
    by_cases hs : n < 128
    · have hgm := grp_small hs
      have hx : ((UInt8.ofNat n).toNat : Int) = (n : Int) := by rw [UInt8.toNat_ofNat']; omega
      have hr : Row (w.alloc (.cells #[.int .u8 ((UInt8.ofNat n).toNat : Nat)] 5)) w.heap.size (.slice (some ⟨w.heap.size, 0, none⟩) 1 1) (grp n) := by
        rw [hgm]
        exact Row.of_block (l := [UInt8.ofNat n]) (Whole.new w 5 _) (Nat.le_refl _) (by simp [maxLen])
      rw [hx] at hr
      have HR := Lib.hid hr
      clear hr hx hgm
      go_enter Try.func11, Try.ntmps11
      go_wp2_with fail
      go_ret
      exact ⟨_, rfl, HR.out, (Below.refl _ _).alloc (Nat.le_refl _) _⟩
    · cases k with
      | zero => omega
      | succ k =>
        have hgm := grp_more hs
        have hr : Row (w.alloc (.cells #[.int .u8 ((UInt8.ofNat (n % 128 + 128)).toNat : Nat)] 5)) w.heap.size (.slice (some ⟨w.heap.size, 0, none⟩) 1 1) [UInt8.ofNat (n % 128 + 128)] :=
          Row.of_block (l := [UInt8.ofNat (n % 128 + 128)]) (Whole.new w 5 _) (Nat.le_refl _) (by simp [maxLen])
        have hx : ((UInt8.ofNat (n % 128 + 128)).toNat : Int) = (n : Int) % 128 + 128 := by rw [UInt8.toNat_ofNat']; omega
        rw [hx] at hr
        have HR := Lib.hid hr
        have ih := refUint_any k (n / 128) (by rw [Nat.pow_succ] at h; omega) (by omega) (by omega)
        have IH := Lib.hid ih
        have HG := Lib.hid hgm
        have h10 : (grp (n / 128)).length ≤ 10 := grp_ten (by omega)
        clear hr hx hgm ih
        go_enter Try.func11, Try.ntmps11
        go_wp2_with fail
        rw [show ((n : Int) / 128) = ((n / 128 : Nat) : Int) by omega]
        refine (IH.out _).mono ?_
        rintro r w' ⟨v, rfl, hr2, hb2⟩
        obtain ⟨A, c, e, hh, -, -⟩ := hr2.shape
        subst e
        obtain ⟨v3, w3, ha, ro, hg, -⟩ := append_bytes (HR.out.below hb2) A c (grp (n / 128)) hh (by simp; omega) (by have := hb2.size; simp at this; omega)
        have BO := Lib.hid (below_grown (((Below.refl w.heap.size w).alloc (Nat.le_refl _) _).trans (hb2.mono (by simp))) hg HR.out.block)
        rw [show [UInt8.ofNat (n % 128 + 128)] ++ grp (n / 128) = grp n by rw [HG.out]; rfl] at ro
        have RO := Lib.hid ro
        have HA := Lib.hid ha
        clear ha ro hg hh hr2 hb2
        go_wp2_with (at_builtin; refine Lib.wpList_append_run _ rfl (.tmp 12) (.tmp 15) 23 23 rfl _ _ rfl rfl _ _ HA.out ?_)
        go_ret
        exact ⟨_, rfl, RO.out, BO.out⟩

theorem refUint (n : Nat) (h : n < 18446744073709551616) (w : World) : Calls Try.prog 11 #[.int .u64 n] w fun r w' => ∃ v, r = .returned v ∧ Row w' w.heap.size v (grp n) ∧ Below w.heap.size w w' :=
  refUint_any 9 n (by omega) h (by omega) w

theorem ref_neg (n : Int) (h1 : -9223372036854775808 ≤ n) (h2 : n < 0) : IntKind.u64.wrap (IntKind.u64.wrap (IntKind.u64.wrap (-IntKind.u64.wrap n) * 2) - 1) = (zig n : Nat) := by
  simp only [IntKind.wrap_u64]
  unfold zig
  rw [if_pos h2]
  omega

set_option maxRecDepth 100000 in
set_option maxHeartbeats 1000000 in
theorem refInt (n : Int) (h1 : -9223372036854775808 ≤ n) (h2 : n ≤ 9223372036854775807) (w : World) :
    Calls Try.prog 12 #[.int .i64 n] w fun r w' => ∃ v, r = .returned v ∧ Row w' w.heap.size v (grp (zig n)) ∧ Below w.heap.size w w' := by
  have AD := Lib.hid (refUint (zig n) (zig_lt h1 h2) w)
  by_cases hn : n < 0
  · have HN := Lib.hid (ref_neg n h1 hn)
    have hn' : ¬ n ≥ 0 := by omega
    go_enter Try.func12, Try.ntmps12
    go_wp2_with fail
    rw [HN.out]
    refine AD.out.mono ?_
    rintro r w' ⟨v, rfl, hr, hb⟩
    have HR := Lib.hid hr
    clear hr
    go_wp2_with fail
    go_ret
    exact ⟨_, rfl, HR.out, hb⟩
  · have HN := Lib.hid (zig_pos n hn)
    have hn' : n ≥ 0 := by omega
    go_enter Try.func12, Try.ntmps12
    go_wp2_with fail
    rw [HN.out]
    refine AD.out.mono ?_
    rintro r w' ⟨v, rfl, hr, hb⟩
    have HR := Lib.hid hr
    clear hr
    go_wp2_with fail
    go_ret
    exact ⟨_, rfl, HR.out, hb⟩

set_option maxRecDepth 100000 in
set_option maxHeartbeats 1000000 in
theorem refText (s : ByteArray) (hs : s.size ≤ 900000) (w : World) :
    Calls Try.prog 13 #[.string s] w fun r w' => ∃ v, r = .returned v ∧ Row w' w.heap.size v (txt s) ∧ Below w.heap.size w w' := by
  have AD := Lib.hid (refUint s.size (by omega) w)
  have h10 : (grp s.size).length ≤ 10 := grp_ten (by omega)
  go_enter Try.func13, Try.ntmps13
  go_wp2_with fail
  refine AD.out.mono ?_
  rintro r w' ⟨v, rfl, hr, hb⟩
  obtain ⟨v3, w3, ha, ro, hg⟩ := append_string hr s (by omega) hb.size
  have BO := Lib.hid (below_grown hb hg hr.block)
  have RO := Lib.hid ro
  have HA := Lib.hid ha
  clear ha ro hg hr hb
  go_wp2_with (at_builtin; refine Lib.wpList_append_run _ rfl (.tmp 6) (.tmp 7) 23 9 rfl _ _ rfl rfl _ _ HA.out ?_)
  go_ret
  exact ⟨_, rfl, RO.out, BO.out⟩

set_option maxRecDepth 100000 in
set_option maxHeartbeats 1000000 in
theorem addText_any (w0 : World) (s : ByteArray) (hs : s.size ≤ 90000) (v0 : Value) (l : List UInt8) (w : World) (h : Ready w0 w v0 l) (hl : l.length ≤ 900000) :
    Calls Try.prog 36 #[v0, .string s] w fun r w' => ∃ v, r = .returned v ∧ Row w' w0.heap.size v (l ++ txt s) ∧ Below w0.heap.size w0 w' := by
  have AD := Lib.hid (addUint_any w0 s.size (by omega) v0 l w h hl)
  have h10 : (grp s.size).length ≤ 10 := grp_ten (by omega)
  go_enter Try.func36, Try.ntmps36
  go_wp2_with fail
  refine AD.out.mono ?_
  rintro r w' ⟨v, rfl, hr, hb⟩
  obtain ⟨v3, w3, ha, ro, hg⟩ := append_string hr s (by simp; omega) hb.size
  have BO := Lib.hid (below_grown hb hg hr.block)
  rw [List.append_assoc] at ro
  have RO := Lib.hid ro
  have HA := Lib.hid ha
  clear ha ro hg hr hb
  go_wp2_with (at_builtin; refine Lib.wpList_append_run _ rfl (.tmp 9) (.tmp 10) 23 9 rfl _ _ rfl rfl _ _ HA.out ?_)
  go_ret
  exact ⟨_, rfl, RO.out, BO.out⟩

/-- what is clipped may be added to. -/
theorem Ready.clipped {w : World} {A : Option Addr} {l : List UInt8} (h : Holds w A l) : Ready w w (.slice A l.length l.length) l := ⟨Below.refl _ _, .inr ⟨A, rfl, h⟩⟩

set_option maxRecDepth 100000 in
theorem Uint_any (A : Option Addr) (c n : Nat) (h0 : n < 18446744073709551616) (l : List UInt8) (w : World) (h : Holds w A l) (hc : l.length ≤ c) (hl : l.length ≤ 900000) :
    Calls Try.prog 8 #[.slice A l.length c, .int .u64 n] w fun r w' => ∃ v, r = .returned v ∧ Row w' w.heap.size v (l ++ grp n) ∧ Below w.heap.size w w' := by
  have AD := Lib.hid (addUint_any w n h0 _ l w (Ready.clipped h) hl)
  clear h
  go_enter Try.func8, Try.ntmps8
  go_wp2_with fail
  refine (clip_any A c l.length _ hc).mono ?_
  rintro r w' ⟨rfl, rfl⟩
  go_wp2_with fail
  refine AD.out.mono ?_
  rintro r w' ⟨v, rfl, hr, hb⟩
  have HR := Lib.hid hr
  clear hr
  go_wp2_with fail
  go_ret
  exact ⟨_, rfl, HR.out, hb⟩
set_option maxRecDepth 100000 in
theorem Int_any (A : Option Addr) (c : Nat) (n : Int) (h1 : -9223372036854775808 ≤ n) (h2 : n ≤ 9223372036854775807) (l : List UInt8) (w : World) (h : Holds w A l) (hc : l.length ≤ c) (hl : l.length ≤ 900000) :
    Calls Try.prog 9 #[.slice A l.length c, .int .i64 n] w fun r w' => ∃ v, r = .returned v ∧ Row w' w.heap.size v (l ++ grp (zig n)) ∧ Below w.heap.size w w' := by
  have AD := Lib.hid (addInt_any w n h1 h2 _ l w (Ready.clipped h) hl)
  clear h
  go_enter Try.func9, Try.ntmps9
  go_wp2_with fail
  refine (clip_any A c l.length _ hc).mono ?_
  rintro r w' ⟨rfl, rfl⟩
  go_wp2_with fail
  refine AD.out.mono ?_
  rintro r w' ⟨v, rfl, hr, hb⟩
  have HR := Lib.hid hr
  clear hr
  go_wp2_with fail
  go_ret
  exact ⟨_, rfl, HR.out, hb⟩
set_option maxRecDepth 100000 in
theorem Text_any (A : Option Addr) (c : Nat) (s : ByteArray) (hs : s.size ≤ 90000) (l : List UInt8) (w : World) (h : Holds w A l) (hc : l.length ≤ c) (hl : l.length ≤ 900000) :
    Calls Try.prog 10 #[.slice A l.length c, .string s] w fun r w' => ∃ v, r = .returned v ∧ Row w' w.heap.size v (l ++ txt s) ∧ Below w.heap.size w w' := by
  have AD := Lib.hid (addText_any w s hs _ l w (Ready.clipped h) hl)
  clear h
  go_enter Try.func10, Try.ntmps10
  go_wp2_with fail
  refine (clip_any A c l.length _ hc).mono ?_
  rintro r w' ⟨rfl, rfl⟩
  go_wp2_with fail
  refine AD.out.mono ?_
  rintro r w' ⟨v, rfl, hr, hb⟩
  have HR := Lib.hid hr
  clear hr
  go_wp2_with fail
  go_ret
  exact ⟨_, rfl, HR.out, hb⟩
end Go.Proofs.Ytmpiknaoocflcaa
