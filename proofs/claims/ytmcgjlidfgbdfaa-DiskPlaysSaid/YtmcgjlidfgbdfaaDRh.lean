/- does: a call on both: what the reference's calls do to the model. -/
import Derived.Test.YtmcgjlidfgbdfaaDRg
namespace Go.Proofs.Ytmcgjlidfgbdfaa
open Go.RowKit

structure Okay (m : Mod) : Prop where
  n : 1 ≤ m.n ∧ m.n ≤ 600
  size : m.size ≤ 1024
  waits : m.waits + 1 ≤ 1000
  deeds : m.deeds ≤ 4611686018427387904
  fuse : m.fuse ≤ 9223372036854775807
theorem Okay.low {m : Mod} (h : Okay m) : m.Low := ⟨by have := h.waits; omega, h.deeds, h.fuse⟩
theorem Same.fuseB {m : Mod} {r : Rf} (h : Same m r) (ho : Okay m) : r.fuse ≤ 9223372036854775807 := by
  have := ho.fuse
  rw [h.fuse]
  split <;> omega
theorem rwrite_any {w : World} {m : Mod} {r : Rf} (h : RefAt w r) (hs : Same m r) (ho : Okay m) (i : Int) (A : Option Addr) (c : Nat) (b : List UInt8) (hA : Holds w A b) (hAo : b = [] ∨ Off A (footR r)) :
    Calls Try.prog 25 #[.pointer (some ⟨r.p, 0, none⟩), .int .i64 i, .slice A b.length c] w fun e w' => e = .returned (.int .i64 (m.writeR i b.length)) ∧ ∃ r', RGoes w w' r r' ∧ Same (m.write i b) r' := by
  have ht := hs.takes i b.length
  have hbl := hs.blown
  by_cases h0 : m.takes i b.length = 0
  · have e0 : m.writeR i b.length = if m.blown = true then 17 else 0 := if_pos h0
    have e1 : m.write i b = if m.blown = true then m.deed else { m.deed with waits := m.waits + 1, cont := fun p k => if (k : Int) = i ∧ bit p m.waits = true then b else m.cont p k } := if_pos h0
    rw [ht] at h0
    by_cases hz : r.fuse = 0
    · have hb' : m.blown = true := by rw [hbl]; simp [hz]
      rw [e0, e1, if_pos hb', if_pos hb']
      refine (rwrite_blown h (by rw [hs.deeds]; exact ho.deeds) i A b.length c h0 hz).mono ?_
      rintro e w' ⟨rfl, hg⟩
      exact ⟨rfl, _, hg, hs.deed⟩
    · have hb' : ¬ m.blown = true := by rw [hbl]; simp [hz]
      rw [e0, e1, if_neg hb', if_neg hb']
      have hin : ∃ k : Nat, i = k ∧ k < m.n := by
        unfold rtakes at h0
        have hdk : r.dark = false := by
          cases hdd : r.dark with
          | false => rfl
          | true => rw [hdd] at h0; simp at h0
        rw [hdk] at h0
        have hno : ¬ (i < 0 ∨ (r.last.length : Int) ≤ i ∨ (r.size : Int) < (b.length : Int)) := fun e => by
          rw [if_neg (by simp), if_pos e] at h0
          omega
        have := hs.n
        exact ⟨i.toNat, by omega, by omega⟩
      obtain ⟨k, rfl, hk⟩ := hin
      refine (rwrite_at h (by rw [hs.deeds]; exact ho.deeds) (hs.fuseB ho) (by rw [hs.size]; exact ho.size) (by rw [hs.ws]; exact ho.waits) k A c b hA hAo h0 hz).mono ?_
      rintro e w' ⟨rfl, vw, hg⟩
      exact ⟨rfl, _, hg, hs.write k hk vw b⟩
  · have e0 : m.writeR i b.length = rtakes r i b.length := by rw [← ht]; exact if_neg h0
    have e1 : m.write i b = m := if_neg h0
    rw [e0, e1]
    rw [ht] at h0
    refine (rwrite_err h i A b.length c h0).mono ?_
    rintro e w' ⟨rfl, rfl⟩
    exact ⟨rfl, r, RGoes.refl h, hs⟩
theorem rflush_any {w : World} {m : Mod} {r : Rf} (h : RefAt w r) (hs : Same m r) (ho : Okay m) :
    Calls Try.prog 26 #[.pointer (some ⟨r.p, 0, none⟩)] w fun e w' => e = .returned (.int .i64 m.flushR) ∧ ∃ r', RGoes w w' r r' ∧ Same m.flush r' := by
  have hbl := hs.blown
  have e0 : m.flushR = rflushR r := by
    unfold Mod.flushR rflushR
    rw [hs.dark, hbl]
    by_cases hz : r.fuse = 0 <;> simp [hz]
  rw [e0]
  refine (rflush_at h (by rw [hs.n]; exact ho.n.1) (by rw [hs.deeds]; exact ho.deeds) (hs.fuseB ho)).mono ?_
  rintro e w' ⟨rfl, hc⟩
  refine ⟨rfl, ?_⟩
  unfold Mod.flush
  rcases hc with ⟨hd, hg⟩ | ⟨hd, hz, hg⟩ | ⟨hd, hz, lv, hg⟩
  · rw [if_pos (by rw [← hs.dark]; exact hd)]
    exact ⟨r, hg, hs⟩
  · rw [if_neg (by rw [← hs.dark, hd]; simp), if_pos (by rw [hbl]; simp [hz])]
    exact ⟨_, hg, hs.deed⟩
  · rw [if_neg (by rw [← hs.dark, hd]; simp), if_neg (by rw [hbl]; simp [hz])]
    refine ⟨_, hg, ?_⟩
    have := hs.deed.lasts ones lv
    have hc : m.deed.cont = m.cont := by unfold Mod.deed; split <;> rfl
    rw [hc] at this
    exact this
theorem rcrash_any {w : World} {m : Mod} {r : Rf} (h : RefAt w r) (hs : Same m r) (ho : Okay m) (p : Nat) (hp : p < 18446744073709551616) :
    Calls Try.prog 27 #[.pointer (some ⟨r.p, 0, none⟩), .int .u64 (p : Nat)] w fun e w' => (∃ v, e = .returned v) ∧ ∃ r', RGoes w w' r r' ∧ Same (m.crash p) r' := by
  refine (rcrash_at h (by rw [hs.n]; exact ho.n.1) p hp).mono ?_
  rintro e w' ⟨hv, lv, hg⟩
  exact ⟨hv, _, hg, hs.crash p lv⟩
/-- what a call does to the model. -/
def stepM (m : Mod) (x : ActG) : Mod := if x.k = 1 then m.write x.i x.b else if x.k = 2 then m.flush else if x.k = 3 then m.fuseTo x.i else if x.k = 4 then m.crash x.p else m
def actV (x : ActG) : Value := .agg #[.int .i64 x.k, .int .i64 x.i, .slice x.A x.b.length x.c, .int .u64 (x.p : Nat)]
def actC (x : ActG) : Array Value := #[.int .i64 x.k, .int .i64 x.i, .slice x.A x.b.length x.c, .int .u64 (x.p : Nat)]
section
variable {w0 w : World} {p q : Nat} {F : List Nat} {m : Mod} {r : Rf}
/-- the disk's call, then the reference's. -/
theorem Both.two {f g : FuncId} {a1 a2 : Array Value} {R1 R2 : Ending → Prop} {m' : Mod} (h : Both w0 w p q F m r)
    (h1 : Calls Try.prog f a1 w fun e w' => R1 e ∧ GoesM w w' p F m') (h2 : ∀ w', Below w0.heap.size w0 w' → RefAt w' r → Still w w' → Calls Try.prog g a2 w' fun e w'' => R2 e ∧ ∃ r', RGoes w' w'' r r' ∧ Same m' r') :
    Calls Try.prog f a1 w fun e w' => R1 e ∧ Still w w' ∧ Hid (Calls Try.prog g a2 w' fun e w'' => R2 e ∧ Touch (footR r) w' w'' ∧ RefAt w' r ∧ Hid (∃ F' r', Both w0 w'' p q F' m' r')) := by
  refine h1.mono ?_
  rintro e w' ⟨hr, hg⟩
  have hs := hg.still h.d
  obtain ⟨F', hh⟩ := h.half hg
  refine ⟨hr, hs, Lib.hid ?_⟩
  refine (h2 w' hh.bel hh.rf hs).mono ?_
  rintro e w'' ⟨hr2, r', hg2, hs2⟩
  exact ⟨hr2, hg2.2.2.2, hh.rf, Lib.hid ⟨F', r', hh.both hg2 hs2⟩⟩
end
end Go.Proofs.Ytmcgjlidfgbdfaa
