/- Two disks beside each other; DiskTwo walked. -/
import Derived.Test.YtmcgjlidfgbdfaaDKj
namespace Go.Proofs.Ytmcgjlidfgbdfaa
open Go.RowKit

def Own2 (w0 w : World) (p q : Nat) (m1 m2 : Mod) : Prop := ∃ F G, IsD w p F m1 ∧ IsD w q G m2 ∧ (∀ k ∈ F, k ∉ G) ∧ (∀ k ∈ F, w0.heap.size ≤ k) ∧ (∀ k ∈ G, w0.heap.size ≤ k) ∧ Below w0.heap.size w0 w
section
variable {w0 w : World} {p q : Nat} {m1 m2 : Mod}
theorem Own2.swap (h : Own2 w0 w p q m1 m2) : Own2 w0 w q p m2 m1 := by
  obtain ⟨F, G, h1, h2, h3, h4, h5, h6⟩ := h
  exact ⟨G, F, h2, h1, fun k hk hk' => h3 k hk' hk, h5, h4, h6⟩
theorem Own2.bel (h : Own2 w0 w p q m1 m2) : Below w0.heap.size w0 w := by
  obtain ⟨F, G, h1, h2, h3, h4, h5, h6⟩ := h
  exact h6
theorem Own2.one (h : Own2 w0 w p q m1 m2) : OwnD w0 w p m1 := by
  obtain ⟨F, G, h1, h2, h3, h4, h5, h6⟩ := h
  exact ⟨F, h1, h4, h6⟩
theorem Own2.below {w' : World} (h : Own2 w0 w p q m1 m2) (hb : Below w.heap.size w w') : Own2 w0 w' p q m1 m2 := by
  obtain ⟨F, G, h1, h2, h3, h4, h5, h6⟩ := h
  exact ⟨F, G, h1.below hb, h2.below hb, h3, h4, h5, below_next h6 hb⟩
theorem Own2.call {P : Program} {f : FuncId} {args : Array Value} {R : Ending → Prop} {m' : Mod} (h : Own2 w0 w p q m1 m2) (hc : ∀ F, IsD w p F m1 → (∀ k ∈ F, w0.heap.size ≤ k) → Calls P f args w fun e w' => R e ∧ GoesM w w' p F m') :
    Calls P f args w fun e w' => R e ∧ Own2 w0 w' p q m' m2 ∧ Still w w' := by
  obtain ⟨F, G, h1, h2, h3, h4, h5, h6⟩ := h
  refine (hc F h1 h4).mono ?_
  rintro e w' ⟨hr, hg⟩
  have hs := hg.still h1
  obtain ⟨F', k1, k2, k3⟩ := hg
  refine ⟨hr, ⟨F', G, k1, h2.touch k3 (fun k hk hk' => h3 k hk' hk) (fun k hb hk => (h1.plain k hk).2 hb), fun k hk hk' => ?_, fun k hk => (k2 k hk).elim (h4 k) (fun hh => Nat.le_trans h6.size hh), h5, Touch.fresh h6 k3 h4⟩, hs⟩
  rcases k2 k hk with hh | hh
  · exact h3 k hh hk'
  · have := (h2.plain k hk').1
    omega
theorem Own2.write (h : Own2 w0 w p q m1 m2) (hl : m1.Low) (i : Int) (A : Option Addr) (c : Nat) (b : List UInt8) (hA : Holds w A b) (hf : b = [] ∨ Far w0 w A) : Calls Try.prog 19 #[.pointer (some ⟨p, 0, none⟩), .int .i64 i, .slice A b.length c] w fun e w' => e = .returned (.int .i64 (m1.writeR i b.length)) ∧ Own2 w0 w' p q (m1.write i b) m2 ∧ Still w w' :=
  h.call fun _ h1 h2 => h1.write hl i A c b hA (hf.imp id (fun f => f.off h1 h2))
theorem Own2.flush (h : Own2 w0 w p q m1 m2) (hl : m1.Low) : Calls Try.prog 20 #[.pointer (some ⟨p, 0, none⟩)] w fun e w' => e = .returned (.int .i64 m1.flushR) ∧ Own2 w0 w' p q m1.flush m2 ∧ Still w w' :=
  h.call fun _ h1 _ => h1.flush hl
theorem Own2.crash (h : Own2 w0 w p q m1 m2) (hw : m1.waits ≤ 1000000) (x : Nat) (hx : x < 18446744073709551616) : Calls Try.prog 22 #[.pointer (some ⟨p, 0, none⟩), .int .u64 (x : Nat)] w fun e w' => (∃ v, e = .returned v) ∧ Own2 w0 w' p q (m1.crash x) m2 ∧ Still w w' :=
  h.call fun _ h1 _ => h1.crash hw x hx
theorem Own2.all (h : Own2 w0 w p q m1 m2) (hw : m1.waits ≤ 1000000) (hdk : m1.dark = false) (hn : m1.n ≤ 600) : Calls Try.prog 21 #[.pointer (some ⟨p, 0, none⟩)] w fun e w' => ∃ v, e = .returned v ∧ SRow w' w.heap.size v (looks m1) ∧ Below w.heap.size w w' ∧ Own2 w0 w' p q m1 m2 := by
  have h' := h
  obtain ⟨F, G, h1, h2, h3, h4, h5, h6⟩ := h
  refine (all_at h1 hw hdk hn).mono ?_
  rintro e w' ⟨v, rfl, hr, hb⟩
  exact ⟨v, rfl, hr, hb, h'.below hb⟩
end
theorem OwnD.second {w0 w : World} {p : Nat} {m : Mod} (h : OwnD w0 w p m) (a b : Nat) (h1 : 1 ≤ a) (h2 : a ≤ 600) (h3 : 64 ≤ b) (h4 : b ≤ 1024) : Calls Try.prog 9 #[.int .i64 (a : Nat), .int .i64 (b : Nat)] w fun e w' => ∃ q, e = .returned (.tuple #[.pointer (some ⟨q, 0, none⟩), .int .i64 0]) ∧ Own2 w0 w' p q m (Mod.new a b) := by
  obtain ⟨F, k1, k2, k3⟩ := h
  refine (newM a b w h1 h2 h3 h4).mono ?_
  rintro e w' ⟨q, rfl, G, g1, g2, g3⟩
  exact ⟨q, rfl, F, G, k1.below g3, g1, fun k hk hk' => by have := (k1.plain k hk).1; have := g2 k hk'; omega, k2, fun k hk => Nat.le_trans k3.size (g2 k hk), below_next k3 g3⟩

/-- two disks with the same writes. -/
structure Alike (j : Nat) (m1 m2 : Mod) : Prop where
  l1 : Lit j m1
  l2 : Lit j m2
  same : ∀ k, m1.cont ones k = m2.cont ones k
  deeds : m1.deeds ≤ m2.deeds
theorem Alike.new : Alike 0 (Mod.new 8 64) (Mod.new 8 64) := ⟨Lit.new, Lit.new, fun _ => rfl, Nat.le_refl _⟩
theorem Alike.writeR {j : Nat} {m1 m2 : Mod} (h : Alike j m1 m2) (i n : Int) : m1.writeR i n = m2.writeR i n := by
  unfold Mod.writeR Mod.takes
  rw [h.l1.blown, h.l2.blown, h.l1.dark, h.l2.dark, h.l1.n, h.l2.n, h.l1.size, h.l2.size]
theorem Alike.write {j : Nat} {m1 m2 : Mod} (h : Alike j m1 m2) (i : Int) (b : List UInt8) : Lit (j + 1) (m1.write i b) ∧ Lit (j + 1) (m2.write i b) ∧ (∀ k, (m1.write i b).cont ones k = (m2.write i b).cont ones k) ∧ (m1.write i b).deeds ≤ (m2.write i b).deeds ∧ (m2.write i b).deeds ≤ m2.deeds + 1 := by
  have hr := h.writeR i b.length
  obtain ⟨a1, a2⟩ := h.l1.write i b
  obtain ⟨b1, b2⟩ := h.l2.write i b
  have hd := h.deeds
  refine ⟨a1, b1, ?_⟩
  rcases a2 with ⟨h0, k, _, hk, e1, hc⟩ | ⟨h0, e1⟩
  · rcases b2 with ⟨g0, k', _, hk', e2, hc'⟩ | ⟨g0, e2⟩
    · have : k = k' := by omega
      subst this
      refine ⟨fun x => ?_, by omega, by omega⟩
      rw [hc, hc', bit_ones, bit_ones, h.same]
    · omega
  · rcases b2 with ⟨g0, k', _, hk', e2, hc'⟩ | ⟨g0, e2⟩
    · omega
    · rw [e1, e2]
      exact ⟨h.same, hd, by omega⟩
theorem Alike.flush {j : Nat} {m1 m2 : Mod} (l1 : Lit (j + 1) m1) (l2 : Lit (j + 1) m2) (same : ∀ k, m1.cont ones k = m2.cont ones k) (hd : m1.deeds ≤ m2.deeds) (hb : m2.deeds ≤ 2 * j + 5 + 1) : Alike (j + 1) m1 m2.flush := by
  have e := l2.flush
  refine ⟨l1, ⟨?_, ?_, ?_, ?_, ?_, ?_, ?_⟩, fun k => ?_, ?_⟩ <;> rw [e]
  · exact l2.n
  · exact l2.size
  · exact l2.dark
  · exact l2.fused
  · exact l2.fuse
  · exact Nat.zero_le _
  · show m2.deeds + 1 ≤ _; omega
  · exact same k
  · show m1.deeds ≤ m2.deeds + 1; omega
theorem Alike.looks {j : Nat} {m1 m2 : Mod} (h : Alike j m1 m2) : looks m1 = looks m2 := by
  unfold Go.Proofs.Ytmcgjlidfgbdfaa.looks
  rw [h.l1.n, h.l2.n]
  refine List.map_congr_left fun k _ => ?_
  unfold look
  rw [h.l1.size, h.l2.size, h.same]
theorem looks_crash (m : Mod) : looks (m.crash ones) = looks m := rfl
end Go.Proofs.Ytmcgjlidfgbdfaa
