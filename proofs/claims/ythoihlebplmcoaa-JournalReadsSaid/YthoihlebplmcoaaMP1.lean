import Derived.Test.YthoihlebplmcoaaMD1
import Derived.WalkKit
import Derived.ProofKit
import Derived.OpenShut
import Derived.IntWalk
import Derived.Lib.Hide
import Derived.Below
import Derived.Laws.OwnMore
import Derived.Laws.BitsAll
import Derived.Laws.CopyOwn
import Derived.Laws.BytesArg
import Derived.Lib.AppendZeros
import Derived.Lib.AppendStr
import Derived.Lib.EndianBits
import Derived.Maps.AppendAt
import Derived.ArgAppend
import Derived.WalkLawsBesides
import Derived.Deep.AppendLies
import Derived.Deep.Draws
import Derived.Deep.DeepCutAuto
import Derived.Deep.RegionHeld3
import Derived.Deep.RegionWith
import Derived.Deep.QuietTactic
import Derived.BigQuiet
import Derived.Handy
import Derived.Laws.DeepNot64

/- Bytes in memory: blocks, slices that are read, rows of the call's own; append, bytes.Clone, Same. -/
namespace Go.Proofs.Ythoihlebplmcoaa
open Go.RowKit

/-! a block that is known whole -/
section
variable {w w' : World} {g : Nat} {t : TypeId} {cs : Array Value}
end


theorem ret_u64 {a b : Int} (h : a = b) : Ending.returned (.int .u64 a) = .returned (.int .u64 b) := by rw [h]
/-- v has no room behind its bytes. -/
def Full (w : World) (v : Value) (l : List UInt8) : Prop := ∃ A, v = .slice A l.length l.length ∧ Holds w A l
/-- append of bytes to a slice without room: all is new. -/
theorem append_full {w : World} {v : Value} {l : List UInt8} (h : Full w v l) (A : Option Addr) (c : Nat) (m : List UInt8) (hm : Holds w A m) (hne : m ≠ []) (hn : l.length + m.length ≤ 1000000) :
    ∃ v' w', Sem.run Try.prog (Builtin.append_ #[35, 35] 35 #[v, .slice A m.length c]) w = .ok v' w' ∧ Row w' w.heap.size v' (l ++ m) ∧ Below w.heap.size w w' := by
  obtain ⟨B, rfl, hl⟩ := h
  cases B with
  | none =>
    have hl0 := holds_none hl
    subst hl0
    obtain ⟨v', w', hr, ho, hg, -⟩ := append_bytes (Row.nil w w.heap.size) A c m hm hn (Nat.le_refl _)
    exact ⟨v', w', hr, ho, ⟨hg.os, hg.tape, hg.output, hg.size, fun k hk => hg.block k hk (by simp [Value.ownBlock])⟩⟩
  | some b =>
    cases A with
    | none => exact absurd (holds_none hm) hne
    | some a =>
      have hinf := info5
      cases hi : Try.prog.info? 5 with
      | none => rw [hi] at hinf; simp at hinf
      | some i =>
        rw [hi] at hinf
        simp at hinf
        obtain ⟨i1, i2, i3⟩ := hinf
        have hpos : 0 < m.length := List.length_pos_iff.2 hne
        obtain ⟨v', w', hr, ho, hg⟩ := run_append_arg_grows (P := Try.prog) w 35 35 5 i _ 1 1 Try.underlying35 hi i1 i2 i3 rfl (by omega) b l.length l.length (encB l) (by simp [encB]) (holds_cells hl) a m.length c (encB m) (by simp [encB]) (holds_cells hm) (by omega) (by simp only [maxLen]; omega) (by omega)
        refine ⟨v', w', hr, ?_, ⟨hg.os, hg.tape, hg.output, hg.size, fun k hk => hg.block k hk (by simp)⟩⟩
        unfold Row
        rw [List.length_append, encB_append]
        exact ho
/-- append of a string's bytes to a row of the call's own. -/
theorem append_string {w : World} {base : Nat} {v : Value} {l : List UInt8} (h : Row w base v l) (s : ByteArray) (hn : l.length + s.size ≤ 1000000) (hbase : base ≤ w.heap.size) :
    ∃ v' w', Sem.run Try.prog (Builtin.append_ #[35, 9] 35 #[v, .string s]) w = .ok v' w' ∧ Row w' base v' (l ++ s.data.toList) ∧ w.grownBy w' v.ownBlock := by
  have hinf := info5
  cases hi : Try.prog.info? 5 with
  | none => rw [hi] at hinf; simp at hinf
  | some i =>
    rw [hi] at hinf
    simp at hinf
    obtain ⟨i1, i2, i3⟩ := hinf
    obtain ⟨v', w', hr, ho, hg, -⟩ := Lib.run_append_own_string (P := Try.prog) w base 35 9 35 5 i Try.underlying35 Try.underlying9 hi i1 i2 i3 v l.length (encB l) h s (by simp only [maxLen]; omega) (by omega) hbase
    refine ⟨v', w', hr, ?_, hg⟩
    unfold Row
    rw [List.length_append, encB_append]
    exact ho

/-- a slice that may be added to: a row of the call's own (since w0), or one without room. -/
def Ready (w0 w : World) (v : Value) (l : List UInt8) : Prop := Below w0.heap.size w0 w ∧ (Row w w0.heap.size v l ∨ Full w v l)
theorem append_ready {w0 w : World} {v : Value} {l : List UInt8} (h : Ready w0 w v l) (A : Option Addr) (c : Nat) (m : List UInt8) (hm : Holds w A m) (hne : m ≠ []) (hn : l.length + m.length ≤ 1000000) :
    ∃ v' w', Sem.run Try.prog (Builtin.append_ #[35, 35] 35 #[v, .slice A m.length c]) w = .ok v' w' ∧ Row w' w0.heap.size v' (l ++ m) ∧ Below w0.heap.size w0 w' := by
  obtain ⟨hb, h | h⟩ := h
  · obtain ⟨v', w', hr, ho, hg, -⟩ := append_bytes h A c m hm hn hb.size
    exact ⟨v', w', hr, ho, below_grown hb hg h.block⟩
  · obtain ⟨v', w', hr, ho, hbl⟩ := append_full h A c m hm hne hn
    exact ⟨v', w', hr, ho.le hb.size, below_next hb hbl⟩
theorem Ready.of_row {w0 w : World} {v : Value} {l : List UInt8} (h : Row w w0.heap.size v l) (hb : Below w0.heap.size w0 w) : Ready w0 w v l := ⟨hb, .inl h⟩
/-- one byte that was built. -/
theorem pk_one_byte (w : World) (x : UInt8) : Holds (w.alloc (.cells #[.int .u8 (x.toNat : Nat)] 5)) (some ⟨w.heap.size, 0, none⟩) [x] := by
  intro i hi
  have h0 : i = 0 := by simp at hi; omega
  subst h0
  refine ⟨w.heap.size, 0, rfl, by simp, ?_⟩
  rw [World.cell?_alloc_mark]
  rfl
theorem Ready.alloc {w0 w : World} {v : Value} {l : List UInt8} (h : Ready w0 w v l) (o : Obj) : Ready w0 (w.alloc o) v l := by
  refine ⟨h.1.alloc h.1.size _, h.2.imp (fun r => r.alloc o) ?_⟩
  rintro ⟨A, e, hh⟩
  exact ⟨A, e, hh.below ((Below.refl _ _).alloc (Nat.le_refl _) _)⟩
end Go.Proofs.Ythoihlebplmcoaa

/- Plain: groups of 7 bits. -/
namespace Go.Proofs.Ythoihlebplmcoaa

/-- a number's groups. -/
def grp (n : Nat) : List UInt8 := if n < 128 then [UInt8.ofNat n] else UInt8.ofNat (n % 128 + 128) :: grp (n / 128)
termination_by n
decreasing_by omega
theorem grp_small {n : Nat} (h : n < 128) : grp n = [UInt8.ofNat n] := by rw [grp, if_pos h]
theorem grp_more {n : Nat} (h : ¬ n < 128) : grp n = UInt8.ofNat (n % 128 + 128) :: grp (n / 128) := by rw [grp, if_neg h]
theorem grp_length (k : Nat) : ∀ n, n < 128 ^ (k + 1) → (grp n).length ≤ k + 1 := by
  induction k with
  | zero => intro n h; rw [grp_small (by omega)]; simp
  | succ k ih =>
    intro n h
    by_cases hs : n < 128
    · rw [grp_small hs]; simp
    · rw [grp_more hs, List.length_cons]
      have := ih (n / 128) (by rw [Nat.pow_succ] at h; omega)
      omega
theorem grp_ten {n : Nat} (h : n < 18446744073709551616) : (grp n).length ≤ 10 := grp_length 9 n (by omega)
theorem grp_pos (n : Nat) : 0 < (grp n).length := by
  by_cases hs : n < 128
  · rw [grp_small hs]; simp
  · rw [grp_more hs]; simp
end Go.Proofs.Ythoihlebplmcoaa

/- Clip, addUint, addInt, addText; the reference's Uint, Int, Text. -/
namespace Go.Proofs.Ythoihlebplmcoaa
open Go.RowKit

theorem or128 : ∀ x : Fin 128, x.val ||| 128 = x.val + 128 := by decide +kernel
theorem low7 (m : Nat) (hm : m < 18446744073709551616) : ((UInt8.ofNat (m % 128 + 128)).toNat : Int) = bits .or .u8 (bits .and .u64 (m : Int) 127 % 256) 128 := by
  have h0 : bits .and .u64 (m : Int) 127 = ((m % 128 : Nat) : Int) := by
    have := u64_and_nat m 127 hm (by omega)
    rw [show m &&& 127 = m % 128 from Nat.and_two_pow_sub_one_eq_mod m 7] at this
    exact this
  have h1 := or128 ⟨m % 128, by omega⟩
  simp only at h1
  have h2 := u8_or_nat (m % 128) 128 (by omega) (by omega)
  rw [h1] at h2
  rw [UInt8.toNat_ofNat', h0, show (((m % 128 : Nat) : Int) % 256) = ((m % 128 : Nat) : Int) by omega]
  rw [show (bits .or .u8 ((m % 128 : Nat) : Int) 128) = ((m % 128 + 128 : Nat) : Int) from h2]
  omega

end Go.Proofs.Ythoihlebplmcoaa

/- addInt, addText; the reference's Uint, Int, Text; Uint, Int, Text. -/
namespace Go.Proofs.Ythoihlebplmcoaa
open Go.RowKit

/-- a whole number as one from 0 on. -/
def zig (n : Int) : Nat := if n < 0 then (-2 * n - 1).toNat else (2 * n).toNat
theorem zig_lt {n : Int} (h1 : -9223372036854775808 ≤ n) (h2 : n ≤ 9223372036854775807) : zig n < 18446744073709551616 := by unfold zig; split <;> omega
/-- a text's bytes, their number ahead. -/
def txt (s : ByteArray) : List UInt8 := grp s.size ++ s.data.toList

theorem i64_not_neg (n : Int) (h1 : -9223372036854775808 ≤ n) (h2 : n < 0) : bits .xor .i64 (-1) n = -1 - n := by
  show IntKind.i64.wrap ((BitVec.ofInt 64 (-1) ^^^ BitVec.ofInt 64 n).toNat : Int) = _
  have h3 : BitVec.ofInt 64 (-1) = BitVec.allOnes 64 := by decide
  rw [h3, BitVec.allOnes_xor, BitVec.toNat_not, BitVec.toNat_ofInt]
  simp [IntKind.wrap, IntKind.bits, IntKind.signed]
  omega
theorem or_one (a : Nat) (h : 2 * a + 1 < 18446744073709551616) : bits .or .u64 ((2 * a : Nat) : Int) 1 = ((2 * a + 1 : Nat) : Int) := by
  have h1 := u64_or_nat (2 * a) 1 (by omega) (by omega)
  have h2 := Nat.two_pow_add_eq_or_of_lt (i := 1) (b := 1) (by omega) a
  rw [Nat.pow_one] at h2
  rw [← h2] at h1
  exact h1
theorem zig_neg (n : Int) (h1 : -9223372036854775808 ≤ n) (h2 : n < 0) : bits .or .u64 (IntKind.u64.wrap (IntKind.u64.wrap (bits .xor .i64 (-1) n) * 2)) 1 = (zig n : Nat) := by
  rw [i64_not_neg n h1 h2]
  have e1 : IntKind.u64.wrap (-1 - n) = -1 - n := by rw [IntKind.wrap_u64]; omega
  have e2 : IntKind.u64.wrap ((-1 - n) * 2) = ((2 * (-1 - n).toNat : Nat) : Int) := by rw [IntKind.wrap_u64]; omega
  rw [e1, e2, or_one _ (by omega)]
  unfold zig
  rw [if_pos h2]
  omega
theorem zig_pos (n : Int) (h2 : ¬ n < 0) : n * 2 = (zig n : Nat) := by
  unfold zig
  rw [if_neg h2]
  omega

theorem ref_neg (n : Int) (h1 : -9223372036854775808 ≤ n) (h2 : n < 0) : IntKind.u64.wrap (IntKind.u64.wrap (IntKind.u64.wrap (-IntKind.u64.wrap n) * 2) - 1) = (zig n : Nat) := by
  simp only [IntKind.wrap_u64]
  unfold zig
  rw [if_pos h2]
  omega

/-- what is clipped may be added to. -/
theorem Ready.clipped {w : World} {A : Option Addr} {l : List UInt8} (h : Holds w A l) : Ready w w (.slice A l.length l.length) l := ⟨Below.refl _ _, .inr ⟨A, rfl, h⟩⟩

end Go.Proofs.Ythoihlebplmcoaa
