/- A disk of the call's own (all its blocks are new since w0); awake. -/
import Derived.Test.YtmcgjlidfgbdfaaDKb
import Derived.Lib.SlBytesConst
namespace Go.Proofs.Ytmcgjlidfgbdfaa
open Go.RowKit

def OwnD (w0 w : World) (p : Nat) (m : Mod) : Prop := ∃ F, IsD w p F m ∧ (∀ k ∈ F, w0.heap.size ≤ k) ∧ Below w0.heap.size w0 w
theorem OwnD.step {w0 w w' : World} {p : Nat} {m m' : Mod} (h : OwnD w0 w p m) (hs : ∀ F, IsD w p F m → (∀ k ∈ F, w0.heap.size ≤ k) → GoesM w w' p F m') : OwnD w0 w' p m' := by
  obtain ⟨F, h1, h2, h3⟩ := h
  obtain ⟨F', k1, k2, k3⟩ := hs F h1 h2
  refine ⟨F', k1, fun k hk => ?_, Touch.fresh h3 k3 h2⟩
  rcases k2 k hk with hh | hh
  · exact h2 k hh
  · exact Nat.le_trans h3.size hh
theorem OwnD.bel {w0 w : World} {p : Nat} {m : Mod} (h : OwnD w0 w p m) : Below w0.heap.size w0 w := h.choose_spec.2.2
theorem OwnD.below {w0 w w' : World} {p : Nat} {m : Mod} (h : OwnD w0 w p m) (hb : Below w.heap.size w w') : OwnD w0 w' p m := by
  obtain ⟨F, h1, h2, h3⟩ := h
  exact ⟨F, h1.below hb, h2, below_next h3 hb⟩
/-- bytes that are none of the disk's own blocks. -/
def Far (w0 w : World) (A : Option Addr) : Prop := ∀ p : Addr, A = some p → p.block < w0.heap.size ∨ Bytes w p.block
theorem Far.off {w0 w : World} {A : Option Addr} (h : Far w0 w A) {p : Nat} {F : List Nat} {m : Mod} (hd : IsD w p F m) (hF : ∀ k ∈ F, w0.heap.size ≤ k) : Off A F := fun q e hq => by
  rcases h q e with h1 | h1
  · have := hF _ hq; omega
  · exact (hd.plain _ hq).2 h1
section
variable {w0 w : World} {p : Nat} {m : Mod}
theorem OwnD.write (h : OwnD w0 w p m) (hl : m.Low) (i : Int) (A : Option Addr) (c : Nat) (b : List UInt8) (hA : Holds w A b) (hf : b = [] ∨ Far w0 w A) : Calls Try.prog 19 #[.pointer (some ⟨p, 0, none⟩), .int .i64 i, .slice A b.length c] w fun e w' => e = .returned (.int .i64 (m.writeR i b.length)) ∧ OwnD w0 w' p (m.write i b) := by
  obtain ⟨F, h1, h2, h3⟩ := h
  refine (h1.write hl i A c b hA (hf.imp id (fun f => f.off h1 h2))).mono ?_
  rintro e w' ⟨rfl, F', k1, k2, k3⟩
  exact ⟨rfl, F', k1, fun k hk => (k2 k hk).elim (h2 k) (fun hh => Nat.le_trans h3.size hh), Touch.fresh h3 k3 h2⟩
theorem OwnD.of_goes (h : OwnD w0 w p m) {w' : World} {m' : Mod} {F : List Nat} (h2 : ∀ k ∈ F, w0.heap.size ≤ k) (hg : GoesM w w' p F m') : OwnD w0 w' p m' := by
  obtain ⟨F', k1, k2, k3⟩ := hg
  exact ⟨F', k1, fun k hk => (k2 k hk).elim (h2 k) (fun hh => Nat.le_trans h.bel.size hh), Touch.fresh h.bel k3 h2⟩
theorem OwnD.flush (h : OwnD w0 w p m) (hl : m.Low) : Calls Try.prog 20 #[.pointer (some ⟨p, 0, none⟩)] w fun e w' => e = .returned (.int .i64 m.flushR) ∧ OwnD w0 w' p m.flush := by
  have h' := h
  obtain ⟨F, h1, h2, h3⟩ := h
  refine (h1.flush hl).mono ?_
  rintro e w' ⟨rfl, hg⟩
  exact ⟨rfl, h'.of_goes h2 hg⟩
theorem OwnD.crash (h : OwnD w0 w p m) (hw : m.waits ≤ 1000000) (x : Nat) (hx : x < 18446744073709551616) : Calls Try.prog 22 #[.pointer (some ⟨p, 0, none⟩), .int .u64 (x : Nat)] w fun e w' => (∃ v, e = .returned v) ∧ OwnD w0 w' p (m.crash x) := by
  have h' := h
  obtain ⟨F, h1, h2, h3⟩ := h
  refine (h1.crash hw x hx).mono ?_
  rintro e w' ⟨hv, hg⟩
  exact ⟨hv, h'.of_goes h2 hg⟩
theorem OwnD.fuse (h : OwnD w0 w p m) (n : Int) : Calls Try.prog 23 #[.pointer (some ⟨p, 0, none⟩), .int .i64 n] w fun e w' => (∃ v, e = .returned v) ∧ OwnD w0 w' p (m.fuseTo n) := by
  have h' := h
  obtain ⟨F, h1, h2, h3⟩ := h
  refine (h1.fuse n).mono ?_
  rintro e w' ⟨hv, hg⟩
  exact ⟨hv, h'.of_goes h2 hg⟩
theorem OwnD.read (h : OwnD w0 w p m) (hw : m.waits ≤ 1000000) (hd : m.dark = false) (k : Nat) (hk : k < m.n) : Calls Try.prog 18 #[.pointer (some ⟨p, 0, none⟩), .int .i64 (k : Nat)] w fun e w' => ∃ g, e = .returned (.tuple #[.slice (some ⟨g, 0, none⟩) m.size m.size, .int .i64 0]) ∧ w.heap.size ≤ g ∧ BB w' g (pad m.size (m.cont ones k)) ∧ (pad m.size (m.cont ones k)).length = m.size ∧ Below w.heap.size w w' ∧ OwnD w0 w' p m := by
  have h' := h
  obtain ⟨F, h1, h2, h3⟩ := h
  refine (h1.read hw hd k hk).mono ?_
  rintro e w' ⟨g, rfl, h4, h5, h6, h7⟩
  exact ⟨g, rfl, h4, h5, h6, h7, h'.below h7⟩
theorem OwnD.new (w0 : World) (a b : Nat) (w : World) (h0 : Below w0.heap.size w0 w) (h1 : 1 ≤ a) (h2 : a ≤ 600) (h3 : 64 ≤ b) (h4 : b ≤ 1024) : Calls Try.prog 9 #[.int .i64 (a : Nat), .int .i64 (b : Nat)] w fun e w' => ∃ p, e = .returned (.tuple #[.pointer (some ⟨p, 0, none⟩), .int .i64 0]) ∧ OwnD w0 w' p (Mod.new a b) := by
  refine (newM a b w h1 h2 h3 h4).mono ?_
  rintro e w' ⟨p, rfl, F, k1, k2, k3⟩
  exact ⟨p, rfl, F, k1, fun k hk => Nat.le_trans h0.size (k2 k hk), below_next h0 k3⟩
end
/-- one byte that was built. -/
theorem one_byte (w : World) (x : UInt8) : Holds (w.alloc (.cells #[.int .u8 (x.toNat : Nat)] 5 (1, 2))) (some ⟨w.heap.size, 0, none⟩) [x] := by
  intro i hi
  have h0 : i = 0 := by simp at hi; omega
  subst h0
  refine ⟨w.heap.size, 0, rfl, by simp, ?_⟩
  rw [World.cell?_alloc_mark]
  rfl
theorem one_far (w0 w : World) (x : UInt8) : Far w0 (w.alloc (.cells #[.int .u8 (x.toNat : Nat)] 5 (1, 2))) (some ⟨w.heap.size, 0, none⟩) := fun p e => by
  cases e
  exact .inr ⟨_, _, heap_alloc_new w _⟩
def exM : Mod := (((((Mod.new 2 64).write 1 [97]).flush).write 1 [98]).crash 0)
theorem exM_cont : exM.cont ones 1 = [97] := by kernel_rfl
set_option maxRecDepth 100000 in
theorem awake_any (w : World) : Calls Try.prog 8 #[] w fun e w' => e = .returned (.bool true) ∧ Below w.heap.size w w' := by
  have CV := fun (W : World) (C : Array Value) => Lib.run_convert_bytes_const (P := Try.prog) W 30 5 C 1 1 Try.underlying30 Try.underlying5
  have N := OwnD.new w 2 64 w (Below.refl _ _) (by omega) (by omega) (by omega) (by omega)
  go_enter Try.func8, Try.ntmps8
  go_wp2_with fail
  refine N.mono ?_
  rintro e w1 ⟨p, rfl, o1⟩
  have q1 : OwnD w (w1.alloc (.cells #[.int .u8 97] 5 (1, 2))) p (Mod.new 2 64) := o1.below ((Below.refl _ _).alloc (Nat.le_refl _) _)
  have W1 := Lib.hid (q1.write ⟨by decide, by decide, by decide⟩ 1 (some ⟨w1.heap.size, 0, none⟩) 1 [97] (one_byte w1 97) (.inr (one_far w w1 97)))
  clear N o1 q1
  go_wp2_with fail
  refine W1.out.mono ?_
  rintro e w2 ⟨rfl, o2⟩
  have W2 := Lib.hid (o2.flush ⟨by decide, by decide, by decide⟩)
  clear o2 W1
  go_wp2_with fail
  refine W2.out.mono ?_
  rintro e w3 ⟨rfl, o3⟩
  have q3 := o3.below ((Below.refl _ _).alloc (Nat.le_refl _) (.cells #[.int .u8 98] 5 (1, 2)))
  have W3 := Lib.hid (q3.write ⟨by decide, by decide, by decide⟩ 1 (some ⟨w3.heap.size, 0, none⟩) 1 [98] (one_byte w3 98) (.inr (one_far w w3 98)))
  clear o3 q3 W2
  go_wp2_with fail
  refine W3.out.mono ?_
  rintro e w4 ⟨rfl, o4⟩
  have W4 := Lib.hid (o4.crash (by decide) 0 (by omega))
  clear o4 W3
  go_wp2_with fail
  refine W4.out.mono ?_
  rintro e w5 ⟨⟨v, rfl⟩, o5⟩
  have o5' : OwnD w w5 p exM := o5
  have W5 := Lib.hid (o5'.read (by decide) (by decide) 1 (by decide))
  clear o5 o5' W4
  go_wp2_with fail
  refine W5.out.mono ?_
  rintro e w6 ⟨g, rfl, h1, h2, h3, h4, h5⟩
  rw [exM_cont] at h2
  have c0 := h2.cell 0 (by decide)
  go_wp2_with fail
  go_ret
  exact ⟨rfl, h5.bel⟩
end Go.Proofs.Ytmcgjlidfgbdfaa
