/- Put on a disk with a fuse, and the crash behind it. -/
import Derived.Test.YtjoenmmjpmnkfaaMU3
namespace Go.Proofs.Ytjoenmmjpmnkfaa
open Go.RowKit
theorem deed_waits (m : Mod) : m.deed.waits = m.waits := by unfold Mod.deed; split <;> rfl
theorem write_waits (m : Mod) (i : Int) (b : List UInt8) : (m.write i b).waits ≤ m.waits + 1 := by
  unfold Mod.write
  split
  · split
    · rw [deed_waits]; omega
    · exact Nat.le_refl _
  · omega
theorem flush_waits (m : Mod) : m.flush.waits ≤ m.waits := by
  unfold Mod.flush
  split
  · exact Nat.le_refl _
  · split
    · rw [deed_waits]; exact Nat.le_refl _
    · exact Nat.zero_le _
theorem keep_waits (m : Mod) (i : Int) (b : List UInt8) : (m.keep i b).waits ≤ m.waits + 1 := by
  unfold Mod.keep
  have h := write_waits m i b
  split
  · exact Nat.le_trans (flush_waits _) h
  · exact h
/-- what stands behind the crash: the new bytes, if they were flushed, or came to last. -/
def behind (c : Nat → List UInt8) (i : Nat) (b : List UInt8) (k x : Nat) : Nat → List UInt8 := if 2 ≤ k ∨ (k = 1 ∧ bit x 0 = true) then upd c i b else c
section
variable {w0 w : World} {p : Nat} {m : Mod} {n size D : Nat} {c : Nat → List UInt8}
theorem fused_all (hc : Calm m n size D c) (k : Nat) (hk : k < 4) {i : Nat} (hi : i < n) {b : List UInt8} (hl : b.length ≤ size) : (m.fuseTo (k : Nat)).keepR (i : Nat) b = (if k < 2 then 17 else 0) ∧ ∀ x, Calm (((m.fuseTo (k : Nat)).keep (i : Nat) b).crash x) n size (D + 2) (behind c i b k x) := by
  have hk' : k = 0 ∨ k = 1 ∨ 2 ≤ k := by omega
  rcases hk' with rfl | rfl | hk2
  · refine ⟨(hc.lasts0 hi hl 0).1, fun x => ?_⟩
    unfold behind
    rw [if_neg (by omega)]
    exact (hc.lasts0 hi hl x).2.mono (by omega)
  · refine ⟨(hc.lasts1 hi hl 0).1, fun x => ?_⟩
    have h := (hc.lasts1 hi hl x).2
    have e : behind c i b 1 x = if bit x 0 = true then upd c i b else c := by
      unfold behind
      by_cases hb : bit x 0 = true
      · rw [if_pos (.inr ⟨rfl, hb⟩), if_pos hb]
      · rw [if_neg (fun h => h.elim (by omega) (fun h => hb h.2)), if_neg hb]
    rw [e]
    exact h.mono (by omega)
  · refine ⟨by rw [(hc.lasts2 k hk2 (by omega) hi hl 0).1, if_neg (by omega)], fun x => ?_⟩
    have h := (hc.lasts2 k hk2 (by omega) hi hl x).2
    unfold behind
    rw [if_pos (.inl hk2)]
    exact h
theorem fused_low (hc : Calm m n size D c) (hD : D ≤ 900000) (k : Nat) (hk : k < 4) {i : Nat} (hi : i < n) {b : List UInt8} (hl : b.length ≤ size) : (m.fuseTo (k : Nat)).Low ∧ ((m.fuseTo (k : Nat)).write (i : Nat) b).Low := by
  have hd := hc.deeds
  have hw : (m.fuseTo (k : Nat)).waits = 0 := hc.waits
  have hd2 : (m.fuseTo (k : Nat)).deeds = m.deeds := rfl
  have hf : (m.fuseTo (k : Nat)).fuse = k := by unfold Mod.fuseTo; simp
  refine ⟨⟨by omega, by omega, by omega⟩, ?_⟩
  by_cases h0 : 0 < k
  · rw [(hc.fusedWrite k h0 hi hl).2]
    exact ⟨by simp, by simp only; omega, by simp only; omega⟩
  · have hk0 : k = 0 := by omega
    subst hk0
    have ht : (m.fuseTo ((0 : Nat) : Int)).takes (i : Nat) (b.length : Nat) = 0 := hc.takes hi hl
    have hb : (m.fuseTo ((0 : Nat) : Int)).blown = true := rfl
    have e : (m.fuseTo ((0 : Nat) : Int)).write (i : Nat) b = { m.fuseTo ((0 : Nat) : Int) with dark := true } := by
      unfold Mod.write Mod.deed
      rw [if_pos ht, if_pos hb, if_pos hb]
    rw [e]
    exact ⟨by simp only [hw]; omega, by simp only [hd2]; omega, by simp only [hf]; omega⟩
theorem fuse_calm (h : OwnD w0 w p m) (k : Nat) : Calls Try.prog 17 #[.pointer (some ⟨p, 0, none⟩), .int .i64 (k : Nat)] w fun e w' => (∃ v, e = .returned v) ∧ Still w w' ∧ OwnD w0 w' p (m.fuseTo (k : Nat)) := (h.fuseS (k : Nat)).mono fun _ _ hh => ⟨hh.1, hh.2.2, hh.2.1⟩
theorem put_fused (k : Nat) (hk : k < 4) (h : OwnD w0 w p (m.fuseTo (k : Nat))) (hc : Calm m n size D c) (hn : 2 ≤ n) (hs : 64 ≤ size) (hD : D ≤ 900000) (s : Sup) (ho : s.Ok) : Calls Try.prog 10 #[.pointer (some ⟨p, 0, none⟩), s.v] w fun e w' => e = .returned (.int .i64 (if k < 2 then 17 else 0)) ∧ Still w w' ∧ ∃ m', OwnD w0 w' p m' ∧ m'.waits ≤ 1000000 ∧ ∀ x, Calm (m'.crash x) n size (D + 2) (behind c (s.e % 2) s.bytes k x) := by
  have hl := ho.len.2
  have hi : s.e % 2 < n := by omega
  have hl2 : s.bytes.length ≤ size := by omega
  obtain ⟨k1, k2⟩ := fused_low hc hD k hk hi hl2
  obtain ⟨k3, k4⟩ := fused_all hc k hk hi hl2
  refine (put_any h (by show 2 ≤ m.n; rw [hc.n]; exact hn) k1 s ho k2).mono ?_
  rintro e w' ⟨rfl, h1, h2⟩
  refine ⟨by rw [k3], h2, _, h1, ?_, k4⟩
  have := keep_waits (m.fuseTo (k : Nat)) ((s.e % 2 : Nat) : Int) s.bytes
  have hw : (m.fuseTo (k : Nat)).waits = 0 := hc.waits
  omega
theorem crash_any (h : OwnD w0 w p m) (hw : m.waits ≤ 1000000) (x : Nat) (hx : x < 18446744073709551616) : Calls Try.prog 18 #[.pointer (some ⟨p, 0, none⟩), .int .u64 (x : Nat)] w fun e w' => (∃ v, e = .returned v) ∧ Still w w' ∧ OwnD w0 w' p (m.crash x) :=
  (h.crashS hw x hx).mono fun _ _ hh => ⟨hh.1, hh.2.2, hh.2.1⟩
end
/-- the next one stands behind the one ahead. -/
theorem behind_get (s t : Sup) (hs : s.Ok) (ht : t.Ok) (hn : t.e = s.e + 1) (k x : Nat) : getC 64 (behind (upd (fun _ => []) (s.e % 2) s.bytes) (t.e % 2) t.bytes k x) = some (if 2 ≤ k ∨ (k = 1 ∧ bit x 0 = true) then t else s) := by
  unfold behind
  by_cases h : 2 ≤ k ∨ (k = 1 ∧ bit x 0 = true)
  · rw [if_pos h, if_pos h]
    refine getC_two rfl (sK_bytes ht (by simp [upd])) fun q hq => ?_
    have hj : 1 - t.e % 2 = s.e % 2 := by omega
    rw [hj] at hq
    rw [sK_bytes hs (by unfold upd; rw [if_neg (by omega), if_pos rfl])] at hq
    cases hq
    omega
  · rw [if_neg h, if_neg h]
    refine getC_two rfl (sK_bytes hs (by simp [upd])) fun q hq => ?_
    rw [sK_nil (by omega) (by unfold upd; rw [if_neg (by omega)])] at hq
    cases hq
end Go.Proofs.Ytjoenmmjpmnkfaa
