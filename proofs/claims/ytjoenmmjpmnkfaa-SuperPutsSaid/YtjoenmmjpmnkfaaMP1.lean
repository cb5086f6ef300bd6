import Derived.Test.YtjoenmmjpmnkfaaMD1
import Derived.WalkKit
import Derived.ProofKit
import Derived.OpenShut
import Derived.IntWalk
import Derived.Lib.Hide
import Derived.Below
import Derived.Laws.OwnMore
import Derived.Laws.BitsAll
import Derived.Laws.CopyOwn
import Derived.Laws.BytesArg
import Derived.Lib.AppendZeros
import Derived.Lib.AppendStr
import Derived.Lib.EndianBits
import Derived.Maps.AppendAt
import Derived.ArgAppend
import Derived.WalkLawsBesides
import Derived.Deep.AppendLies
import Derived.Deep.Draws
import Derived.Deep.DeepCutAuto
import Derived.Deep.RegionHeld3
import Derived.Deep.RegionWith
import Derived.Deep.QuietTactic
import Derived.BigQuiet
import Derived.Handy
import Derived.Laws.DeepNot64

/- Bytes in memory: blocks, slices that are read, rows of the call's own; append, bytes.Clone, Same. -/
namespace Go.Proofs.Ytjoenmmjpmnkfaa
open Go.RowKit

/-! a block that is known whole -/
section
variable {w w' : World} {g : Nat} {t : TypeId} {cs : Array Value}
end


theorem ret_u64 {a b : Int} (h : a = b) : Ending.returned (.int .u64 a) = .returned (.int .u64 b) := by rw [h]
/-- v has no room behind its bytes. -/
def Full (w : World) (v : Value) (l : List UInt8) : Prop := ∃ A, v = .slice A l.length l.length ∧ Holds w A l
/-- append of bytes to a slice without room: all is new. -/
theorem append_full {w : World} {v : Value} {l : List UInt8} (h : Full w v l) (A : Option Addr) (c : Nat) (m : List UInt8) (hm : Holds w A m) (hne : m ≠ []) (hn : l.length + m.length ≤ 1000000) :
    ∃ v' w', Sem.run Try.prog (Builtin.append_ #[33, 33] 33 #[v, .slice A m.length c]) w = .ok v' w' ∧ Row w' w.heap.size v' (l ++ m) ∧ Below w.heap.size w w' := by
  obtain ⟨B, rfl, hl⟩ := h
  cases B with
  | none =>
    have hl0 := holds_none hl
    subst hl0
    obtain ⟨v', w', hr, ho, hg, -⟩ := append_bytes (Row.nil w w.heap.size) A c m hm hn (Nat.le_refl _)
    exact ⟨v', w', hr, ho, ⟨hg.os, hg.tape, hg.output, hg.size, fun k hk => hg.block k hk (by simp [Value.ownBlock])⟩⟩
  | some b =>
    cases A with
    | none => exact absurd (holds_none hm) hne
    | some a =>
      have hinf := info5
      cases hi : Try.prog.info? 5 with
      | none => rw [hi] at hinf; simp at hinf
      | some i =>
        rw [hi] at hinf
        simp at hinf
        obtain ⟨i1, i2, i3⟩ := hinf
        have hpos : 0 < m.length := List.length_pos_iff.2 hne
        obtain ⟨v', w', hr, ho, hg⟩ := run_append_arg_grows (P := Try.prog) w 33 33 5 i _ 1 1 Try.underlying33 hi i1 i2 i3 rfl (by omega) b l.length l.length (encB l) (by simp [encB]) (holds_cells hl) a m.length c (encB m) (by simp [encB]) (holds_cells hm) (by omega) (by simp only [maxLen]; omega) (by omega)
        refine ⟨v', w', hr, ?_, ⟨hg.os, hg.tape, hg.output, hg.size, fun k hk => hg.block k hk (by simp)⟩⟩
        unfold Row
        rw [List.length_append, encB_append]
        exact ho
/-- append of a string's bytes to a row of the call's own. -/
theorem append_string {w : World} {base : Nat} {v : Value} {l : List UInt8} (h : Row w base v l) (s : ByteArray) (hn : l.length + s.size ≤ 1000000) (hbase : base ≤ w.heap.size) :
    ∃ v' w', Sem.run Try.prog (Builtin.append_ #[33, 9] 33 #[v, .string s]) w = .ok v' w' ∧ Row w' base v' (l ++ s.data.toList) ∧ w.grownBy w' v.ownBlock := by
  have hinf := info5
  cases hi : Try.prog.info? 5 with
  | none => rw [hi] at hinf; simp at hinf
  | some i =>
    rw [hi] at hinf
    simp at hinf
    obtain ⟨i1, i2, i3⟩ := hinf
    obtain ⟨v', w', hr, ho, hg, -⟩ := Lib.run_append_own_string (P := Try.prog) w base 33 9 33 5 i Try.underlying33 Try.underlying9 hi i1 i2 i3 v l.length (encB l) h s (by simp only [maxLen]; omega) (by omega) hbase
    refine ⟨v', w', hr, ?_, hg⟩
    unfold Row
    rw [List.length_append, encB_append]
    exact ho

/-- a slice that may be added to: a row of the call's own (since w0), or one without room. -/
def Ready (w0 w : World) (v : Value) (l : List UInt8) : Prop := Below w0.heap.size w0 w ∧ (Row w w0.heap.size v l ∨ Full w v l)
theorem append_ready {w0 w : World} {v : Value} {l : List UInt8} (h : Ready w0 w v l) (A : Option Addr) (c : Nat) (m : List UInt8) (hm : Holds w A m) (hne : m ≠ []) (hn : l.length + m.length ≤ 1000000) :
    ∃ v' w', Sem.run Try.prog (Builtin.append_ #[33, 33] 33 #[v, .slice A m.length c]) w = .ok v' w' ∧ Row w' w0.heap.size v' (l ++ m) ∧ Below w0.heap.size w0 w' := by
  obtain ⟨hb, h | h⟩ := h
  · obtain ⟨v', w', hr, ho, hg, -⟩ := append_bytes h A c m hm hn hb.size
    exact ⟨v', w', hr, ho, below_grown hb hg h.block⟩
  · obtain ⟨v', w', hr, ho, hbl⟩ := append_full h A c m hm hne hn
    exact ⟨v', w', hr, ho.le hb.size, below_next hb hbl⟩
theorem Ready.of_row {w0 w : World} {v : Value} {l : List UInt8} (h : Row w w0.heap.size v l) (hb : Below w0.heap.size w0 w) : Ready w0 w v l := ⟨hb, .inl h⟩
/-- one byte that was built. -/
theorem pk_one_byte (w : World) (x : UInt8) : Holds (w.alloc (.cells #[.int .u8 (x.toNat : Nat)] 5)) (some ⟨w.heap.size, 0, none⟩) [x] := by
  intro i hi
  have h0 : i = 0 := by simp at hi; omega
  subst h0
  refine ⟨w.heap.size, 0, rfl, by simp, ?_⟩
  rw [World.cell?_alloc_mark]
  rfl
theorem Ready.alloc {w0 w : World} {v : Value} {l : List UInt8} (h : Ready w0 w v l) (o : Obj) : Ready w0 (w.alloc o) v l := by
  refine ⟨h.1.alloc h.1.size _, h.2.imp (fun r => r.alloc o) ?_⟩
  rintro ⟨A, e, hh⟩
  exact ⟨A, e, hh.below ((Below.refl _ _).alloc (Nat.le_refl _) _)⟩
end Go.Proofs.Ytjoenmmjpmnkfaa

/- Plain: groups of 7 bits. -/
namespace Go.Proofs.Ytjoenmmjpmnkfaa

/-- a number's groups. -/
def grp (n : Nat) : List UInt8 := if n < 128 then [UInt8.ofNat n] else UInt8.ofNat (n % 128 + 128) :: grp (n / 128)
termination_by n
decreasing_by omega
theorem grp_small {n : Nat} (h : n < 128) : grp n = [UInt8.ofNat n] := by rw [grp, if_pos h]
theorem grp_more {n : Nat} (h : ¬ n < 128) : grp n = UInt8.ofNat (n % 128 + 128) :: grp (n / 128) := by rw [grp, if_neg h]
theorem grp_length (k : Nat) : ∀ n, n < 128 ^ (k + 1) → (grp n).length ≤ k + 1 := by
  induction k with
  | zero => intro n h; rw [grp_small (by omega)]; simp
  | succ k ih =>
    intro n h
    by_cases hs : n < 128
    · rw [grp_small hs]; simp
    · rw [grp_more hs, List.length_cons]
      have := ih (n / 128) (by rw [Nat.pow_succ] at h; omega)
      omega
theorem grp_ten {n : Nat} (h : n < 18446744073709551616) : (grp n).length ≤ 10 := grp_length 9 n (by omega)
theorem grp_pos (n : Nat) : 0 < (grp n).length := by
  by_cases hs : n < 128
  · rw [grp_small hs]; simp
  · rw [grp_more hs]; simp
end Go.Proofs.Ytjoenmmjpmnkfaa

/- Clip, addUint, addInt, addText; the reference's Uint, Int, Text. -/
namespace Go.Proofs.Ytjoenmmjpmnkfaa
open Go.RowKit

set_option maxRecDepth 100000 in
theorem clip_any (A : Option Addr) (c n : Nat) (w : World) (hc : n ≤ c) :
    Calls Try.prog 54 #[.slice A n c] w fun r w' => r = .returned (.slice A n n) ∧ w' = w := by
  have h1 : (n : Int) ≤ (c : Int) := by omega
  go_enter Try.func54, Try.ntmps54
  go_wp2_with fail
  go_ret
  exact ⟨rfl, rfl⟩

theorem or128 : ∀ x : Fin 128, x.val ||| 128 = x.val + 128 := by decide +kernel
theorem low7 (m : Nat) (hm : m < 18446744073709551616) : ((UInt8.ofNat (m % 128 + 128)).toNat : Int) = bits .or .u8 (bits .and .u64 (m : Int) 127 % 256) 128 := by
  have h0 : bits .and .u64 (m : Int) 127 = ((m % 128 : Nat) : Int) := by
    have := u64_and_nat m 127 hm (by omega)
    rw [show m &&& 127 = m % 128 from Nat.and_two_pow_sub_one_eq_mod m 7] at this
    exact this
  have h1 := or128 ⟨m % 128, by omega⟩
  simp only at h1
  have h2 := u8_or_nat (m % 128) 128 (by omega) (by omega)
  rw [h1] at h2
  rw [UInt8.toNat_ofNat', h0, show (((m % 128 : Nat) : Int) % 256) = ((m % 128 : Nat) : Int) by omega]
  rw [show (bits .or .u8 ((m % 128 : Nat) : Int) 128) = ((m % 128 + 128 : Nat) : Int) from h2]
  omega

set_option maxRecDepth 100000 in
set_option maxHeartbeats 1000000 in
theorem addUint_any (w0 : World) (n0 : Nat) (h0 : n0 < 18446744073709551616) (v0 : Value) (l : List UInt8) (w : World) (h : Ready w0 w v0 l) (hl : l.length ≤ 900000) :
    Calls Try.prog 53 #[v0, .int .u64 n0] w fun r w' => ∃ v, r = .returned v ∧ Row w' w0.heap.size v (l ++ grp n0) ∧ Below w0.heap.size w0 w' := by
  have H0 := Lib.hid h
  have h10 := grp_ten h0
  clear h
  go_enter Try.func53, Try.ntmps53
  go_wp2_with fail
  go_loopg [0, 1] (n0 + 1) (fun j s0 s1 wr => ∃ (m : Nat) (l' : List UInt8), m < j ∧ m < 18446744073709551616 ∧ s1 = .int .u64 (m : Nat) ∧ l ++ grp n0 = l' ++ grp m ∧ Ready w0 wr s0 l')
  case atStart => exact ⟨n0, l, by omega, h0, rfl, rfl, H0.out⟩
  case round =>
    obtain ⟨m, l', hj, hm, rfl, he, hr⟩ := hrel
    have HE := Lib.hid he
    have HR := Lib.hid hr
    have hlen : l'.length + (grp m).length ≤ 900010 := by
      have := congrArg List.length he
      rw [List.length_append, List.length_append] at this
      omega
    have hgp := grp_pos m
    clear he hr
    by_cases hs : m < 128
    · have hgm := grp_small hs
      have hx : ((UInt8.ofNat m).toNat : Int) = (m : Int) := by rw [UInt8.toNat_ofNat']; omega
      obtain ⟨v', w', ha, ro, bo⟩ := append_ready (HR.out.alloc (.cells #[.int .u8 ((UInt8.ofNat m).toNat : Nat)] 5)) (some ⟨wr.heap.size, 0, none⟩) 1 [UInt8.ofNat m] (pk_one_byte wr _) (by simp) (by simp; omega)
      rw [hx] at ha
      rw [← hgm, ← HE.out] at ro
      have HA := Lib.hid ha
      have RO := Lib.hid ro
      have BO := Lib.hid bo
      clear ha ro bo hgm hx HR HE
      go_wp2_with (at_builtin; refine Lib.wpList_append_run _ rfl (.tmp 16) (.tmp 19) 33 33 rfl _ _ rfl rfl _ _ HA.out ?_)
      go_ret
      exact ⟨_, rfl, RO.out, BO.out⟩
    · have hgm := grp_more hs
      have hx := low7 m hm
      obtain ⟨v', w', ha, ro, bo⟩ := append_ready (HR.out.alloc (.cells #[.int .u8 ((UInt8.ofNat (m % 128 + 128)).toNat : Nat)] 5)) (some ⟨wr.heap.size, 0, none⟩) 1 [UInt8.ofNat (m % 128 + 128)] (pk_one_byte wr _) (by simp) (by simp; omega)
      rw [hx] at ha
      have hE2 : l ++ grp n0 = (l' ++ [UInt8.ofNat (m % 128 + 128)]) ++ grp (m / 128) := by rw [HE.out, hgm]; simp
      have HE2 := Lib.hid hE2
      have HA := Lib.hid ha
      have RO := Lib.hid ro
      have BO := Lib.hid bo
      clear ha ro bo hgm hx HR HE hE2
      go_wp2_with (at_builtin; refine Lib.wpList_append_run _ rfl (.tmp 9) (.tmp 14) 33 33 rfl _ _ rfl rfl _ _ HA.out ?_)
      go_roundg (m / 128 + 1)
      case measure => omega
      case rel => exact ⟨m / 128, _, by omega, by omega, by simp, HE2.out, Ready.of_row RO.out BO.out⟩
end Go.Proofs.Ytjoenmmjpmnkfaa

/- addInt, addText; the reference's Uint, Int, Text; Uint, Int, Text. -/
namespace Go.Proofs.Ytjoenmmjpmnkfaa
open Go.RowKit

/-- a whole number as one from 0 on. -/
def zig (n : Int) : Nat := if n < 0 then (-2 * n - 1).toNat else (2 * n).toNat
theorem zig_lt {n : Int} (h1 : -9223372036854775808 ≤ n) (h2 : n ≤ 9223372036854775807) : zig n < 18446744073709551616 := by unfold zig; split <;> omega
/-- a text's bytes, their number ahead. -/
def txt (s : ByteArray) : List UInt8 := grp s.size ++ s.data.toList

theorem i64_not_neg (n : Int) (h1 : -9223372036854775808 ≤ n) (h2 : n < 0) : bits .xor .i64 (-1) n = -1 - n := by
  show IntKind.i64.wrap ((BitVec.ofInt 64 (-1) ^^^ BitVec.ofInt 64 n).toNat : Int) = _
  have h3 : BitVec.ofInt 64 (-1) = BitVec.allOnes 64 := by decide
  rw [h3, BitVec.allOnes_xor, BitVec.toNat_not, BitVec.toNat_ofInt]
  simp [IntKind.wrap, IntKind.bits, IntKind.signed]
  omega
theorem or_one (a : Nat) (h : 2 * a + 1 < 18446744073709551616) : bits .or .u64 ((2 * a : Nat) : Int) 1 = ((2 * a + 1 : Nat) : Int) := by
  have h1 := u64_or_nat (2 * a) 1 (by omega) (by omega)
  have h2 := Nat.two_pow_add_eq_or_of_lt (i := 1) (b := 1) (by omega) a
  rw [Nat.pow_one] at h2
  rw [← h2] at h1
  exact h1
theorem zig_neg (n : Int) (h1 : -9223372036854775808 ≤ n) (h2 : n < 0) : bits .or .u64 (IntKind.u64.wrap (IntKind.u64.wrap (bits .xor .i64 (-1) n) * 2)) 1 = (zig n : Nat) := by
  rw [i64_not_neg n h1 h2]
  have e1 : IntKind.u64.wrap (-1 - n) = -1 - n := by rw [IntKind.wrap_u64]; omega
  have e2 : IntKind.u64.wrap ((-1 - n) * 2) = ((2 * (-1 - n).toNat : Nat) : Int) := by rw [IntKind.wrap_u64]; omega
  rw [e1, e2, or_one _ (by omega)]
  unfold zig
  rw [if_pos h2]
  omega
theorem zig_pos (n : Int) (h2 : ¬ n < 0) : n * 2 = (zig n : Nat) := by
  unfold zig
  rw [if_neg h2]
  omega

set_option maxRecDepth 100000 in
set_option maxHeartbeats 1000000 in
theorem refUint_any : ∀ (k n : Nat), n < 128 ^ (k + 1) → n < 18446744073709551616 → k < 10 → ∀ w : World,
    Calls Try.prog 26 #[.int .u64 n] w fun r w' => ∃ v, r = .returned v ∧ Row w' w.heap.size v (grp n) ∧ Below w.heap.size w w'
  | k, n => by
    intro h hn hk w
    by_cases hs : n < 128
    · have hgm := grp_small hs
      have hx : ((UInt8.ofNat n).toNat : Int) = (n : Int) := by rw [UInt8.toNat_ofNat']; omega
      have hr : Row (w.alloc (.cells #[.int .u8 ((UInt8.ofNat n).toNat : Nat)] 5)) w.heap.size (.slice (some ⟨w.heap.size, 0, none⟩) 1 1) (grp n) := by
        rw [hgm]
        exact Row.of_block (l := [UInt8.ofNat n]) (Whole.new w 5 _) (Nat.le_refl _) (by simp [maxLen])
      rw [hx] at hr
      have HR := Lib.hid hr
      clear hr hx hgm
      go_enter Try.func26, Try.ntmps26
      go_wp2_with fail
      go_ret
      exact ⟨_, rfl, HR.out, (Below.refl _ _).alloc (Nat.le_refl _) _⟩
    · cases k with
      | zero => omega
      | succ k =>
        have hgm := grp_more hs
        have hr : Row (w.alloc (.cells #[.int .u8 ((UInt8.ofNat (n % 128 + 128)).toNat : Nat)] 5)) w.heap.size (.slice (some ⟨w.heap.size, 0, none⟩) 1 1) [UInt8.ofNat (n % 128 + 128)] :=
          Row.of_block (l := [UInt8.ofNat (n % 128 + 128)]) (Whole.new w 5 _) (Nat.le_refl _) (by simp [maxLen])
        have hx : ((UInt8.ofNat (n % 128 + 128)).toNat : Int) = (n : Int) % 128 + 128 := by rw [UInt8.toNat_ofNat']; omega
        rw [hx] at hr
        have HR := Lib.hid hr
        have ih := refUint_any k (n / 128) (by rw [Nat.pow_succ] at h; omega) (by omega) (by omega)
        have IH := Lib.hid ih
        have HG := Lib.hid hgm
        have h10 : (grp (n / 128)).length ≤ 10 := grp_ten (by omega)
        clear hr hx hgm ih
        go_enter Try.func26, Try.ntmps26
        go_wp2_with fail
        rw [show ((n : Int) / 128) = ((n / 128 : Nat) : Int) by omega]
        refine (IH.out _).mono ?_
        rintro r w' ⟨v, rfl, hr2, hb2⟩
        obtain ⟨A, c, e, hh, -, -⟩ := hr2.shape
        subst e
        obtain ⟨v3, w3, ha, ro, hg, -⟩ := append_bytes (HR.out.below hb2) A c (grp (n / 128)) hh (by simp; omega) (by have := hb2.size; simp at this; omega)
        have BO := Lib.hid (below_grown (((Below.refl w.heap.size w).alloc (Nat.le_refl _) _).trans (hb2.mono (by simp))) hg HR.out.block)
        rw [show [UInt8.ofNat (n % 128 + 128)] ++ grp (n / 128) = grp n by rw [HG.out]; rfl] at ro
        have RO := Lib.hid ro
        have HA := Lib.hid ha
        clear ha ro hg hh hr2 hb2
        go_wp2_with (at_builtin; refine Lib.wpList_append_run _ rfl (.tmp 12) (.tmp 15) 33 33 rfl _ _ rfl rfl _ _ HA.out ?_)
        go_ret
        exact ⟨_, rfl, RO.out, BO.out⟩

theorem refUint (n : Nat) (h : n < 18446744073709551616) (w : World) : Calls Try.prog 26 #[.int .u64 n] w fun r w' => ∃ v, r = .returned v ∧ Row w' w.heap.size v (grp n) ∧ Below w.heap.size w w' :=
  refUint_any 9 n (by omega) h (by omega) w

theorem ref_neg (n : Int) (h1 : -9223372036854775808 ≤ n) (h2 : n < 0) : IntKind.u64.wrap (IntKind.u64.wrap (IntKind.u64.wrap (-IntKind.u64.wrap n) * 2) - 1) = (zig n : Nat) := by
  simp only [IntKind.wrap_u64]
  unfold zig
  rw [if_pos h2]
  omega

/-- what is clipped may be added to. -/
theorem Ready.clipped {w : World} {A : Option Addr} {l : List UInt8} (h : Holds w A l) : Ready w w (.slice A l.length l.length) l := ⟨Below.refl _ _, .inr ⟨A, rfl, h⟩⟩

set_option maxRecDepth 100000 in
theorem Uint_any (A : Option Addr) (c n : Nat) (h0 : n < 18446744073709551616) (l : List UInt8) (w : World) (h : Holds w A l) (hc : l.length ≤ c) (hl : l.length ≤ 900000) :
    Calls Try.prog 36 #[.slice A l.length c, .int .u64 n] w fun r w' => ∃ v, r = .returned v ∧ Row w' w.heap.size v (l ++ grp n) ∧ Below w.heap.size w w' := by
  have AD := Lib.hid (addUint_any w n h0 _ l w (Ready.clipped h) hl)
  clear h
  go_enter Try.func36, Try.ntmps36
  go_wp2_with fail
  refine (clip_any A c l.length _ hc).mono ?_
  rintro r w' ⟨rfl, rfl⟩
  go_wp2_with fail
  refine AD.out.mono ?_
  rintro r w' ⟨v, rfl, hr, hb⟩
  have HR := Lib.hid hr
  clear hr
  go_wp2_with fail
  go_ret
  exact ⟨_, rfl, HR.out, hb⟩
end Go.Proofs.Ytjoenmmjpmnkfaa
