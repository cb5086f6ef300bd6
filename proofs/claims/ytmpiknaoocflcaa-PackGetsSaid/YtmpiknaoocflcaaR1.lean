/- The reader: single, must, number. -/
import Derived.Test.YtmpiknaoocflcaaK4
namespace Go.Proofs.Ytmpiknaoocflcaa
open Go.RowKit

theorem grown_set {w0 W : World} {r : Nat} (h : w0.grownBy W (some r)) (i : Nat) (u : Value) : w0.grownBy (W.setCell ⟨r, i, none⟩ u) (some r) :=
  ⟨h.os, h.tape, h.output, by simpa using h.size, fun k hk hn => (Below.heap_setCell W ⟨r, i, none⟩ u k (fun e => hn (by rw [e]))).trans (h.block k hk hn)⟩
theorem grown_below {w0 W W' : World} {r : Nat} (h : w0.grownBy W (some r)) (hb : Below W.heap.size W W') : w0.grownBy W' (some r) :=
  ⟨hb.os.trans h.os, hb.tape.trans h.tape, hb.output.trans h.output, Nat.le_trans h.size hb.size, fun k hk hn => (hb.block k (Nat.lt_of_lt_of_le hk h.size)).trans (h.block k hk hn)⟩
/-- the bytes lie elsewhere. -/
def Far (A : Option Addr) (l : List UInt8) (r : Nat) : Prop := 0 < l.length → ∀ a, A = some a → a.block ≠ r
/-- the reader in memory, bytes that stood there in w0, and whether it has gone wrong; since w0 nothing else has turned. -/
def Rdr (w0 w1 W : World) (r : Nat) (l : List UInt8) (wrong : Bool) : Prop :=
  ∃ A c, Whole W r 87 #[.slice A l.length c, .bool wrong] ∧ Holds w0 A l ∧ l.length ≤ c ∧ Far A l r ∧ w0.grownBy W (some r) ∧ w1.grownBy W (some r)

theorem Far.drop {A : Option Addr} {l : List UInt8} {r : Nat} (h : Far A l r) (k c : Nat) : Far (if c = k then A else A.map (·.add k)) (l.drop k) r := by
  intro hl a ha
  rw [List.length_drop] at hl
  split at ha
  · exact h (by omega) a ha
  · cases A with
    | none => cases ha
    | some a' =>
      simp at ha
      subst ha
      have := h (by omega) a' rfl
      unfold Addr.add
      split <;> exact this
theorem Holds.grown {w W : World} {r : Nat} {A : Option Addr} {l : List UInt8} (h : Holds w A l) (hf : Far A l r) (hg : w.grownBy W (some r)) : Holds W A l := fun i hi => by
  obtain ⟨b, o, e, hlt, hc⟩ := h i hi
  have hne : b ≠ r := hf (by omega) _ e
  refine ⟨b, o, e, Nat.lt_of_lt_of_le hlt hg.size, ?_⟩
  rw [← hc]
  exact World.cell?_of_block (hg.block b hlt (fun q => hne (by injection q)))
theorem Rdr.wrongly {w0 w1 W : World} {r : Nat} {l : List UInt8} {b : Bool} (h : Rdr w0 w1 W r l b) (b' : Bool) : Rdr w0 w1 (W.setCell ⟨r, 1, none⟩ (.bool b')) r l b' := by
  obtain ⟨A, c, hw, hh, hc, hf, hg, hg1⟩ := h
  exact ⟨A, c, hw.set_ 1 _, hh, hc, hf, grown_set hg _ _, grown_set hg1 _ _⟩
theorem Rdr.resting {w0 w1 W : World} {r : Nat} {l : List UInt8} {b : Bool} (h : Rdr w0 w1 W r l b) (A : Option Addr) (c : Nat) (l' : List UInt8) (hh : Holds w0 A l') (hc : l'.length ≤ c) (hf : Far A l' r) : Rdr w0 w1 (W.setCell ⟨r, 0, none⟩ (.slice A l'.length c)) r l' b := by
  obtain ⟨A', c', hw, _, _, _, hg, hg1⟩ := h
  exact ⟨A, c, hw.set_ 0 _, hh, hc, hf, grown_set hg _ _, grown_set hg1 _ _⟩
theorem Rdr.cells {w0 w1 W : World} {r : Nat} {l : List UInt8} {b : Bool} (h : Rdr w0 w1 W r l b) : ∃ A c, W.cell? ⟨r, 0, none⟩ = some (.slice A l.length c) ∧ W.cell? ⟨r, 1, none⟩ = some (.bool b) ∧ W.frozen? ⟨r, 0, none⟩ = false ∧ W.frozen? ⟨r, 1, none⟩ = false ∧ Holds w0 A l ∧ Holds W A l ∧ l.length ≤ c ∧ Far A l r := by
  obtain ⟨A, c, hw, hh, hc, hf, hg, hg1⟩ := h
  exact ⟨A, c, hw.cell 0, hw.cell 1, hw.frozen 0, hw.frozen 1, hh, hh.grown hf hg, hc, hf⟩
/-- from here on. -/
theorem Rdr.rebase {w0 w1 W : World} {r : Nat} {l : List UInt8} {b : Bool} (h : Rdr w0 w1 W r l b) : Rdr w0 W W r l b := by
  obtain ⟨A, c, hw, hh, hc, hf, hg, hg1⟩ := h
  exact ⟨A, c, hw, hh, hc, hf, hg, World.grownBy.refl W _⟩
theorem Rdr.grown {w0 w1 W : World} {r : Nat} {l : List UInt8} {b : Bool} (h : Rdr w0 w1 W r l b) : w0.grownBy W (some r) ∧ w1.grownBy W (some r) := by
  obtain ⟨A, c, hw, hh, hc, hf, hg, hg1⟩ := h
  exact ⟨hg, hg1⟩

set_option maxRecDepth 100000 in
theorem must_any {w0 w1 W : World} {r : Nat} {l : List UInt8} {b : Bool} (h : Rdr w0 w1 W r l b) (p : Bool) :
    Calls Try.prog 53 #[.pointer (some ⟨r, 0, none⟩), .bool p] W fun e w' => e = .returned (.tuple #[]) ∧ Rdr w0 w1 w' r l (b || !p) := by
  obtain ⟨A, c, c0, c1, f0, f1, -, -, -, -⟩ := h.cells
  have H := Lib.hid h
  have HW := Lib.hid (h.wrongly (b || !p))
  clear h c0 f0
  cases b
  · go_enter Try.func53, Try.ntmps53
    go_wp2_with fail
    go_end0
    exact ⟨rfl, HW.out⟩
  · go_enter Try.func53, Try.ntmps53
    go_wp2_with fail
    go_end0
    exact ⟨rfl, HW.out⟩

set_option maxRecDepth 100000 in
theorem single_none {w0 w1 W : World} {r : Nat} {b : Bool} (h : Rdr w0 w1 W r [] b) :
    Calls Try.prog 52 #[.pointer (some ⟨r, 0, none⟩)] W fun e w' => e = .returned (.int .u8 0) ∧ Rdr w0 w1 w' r [] true := by
  obtain ⟨A, c, c0, c1, f0, f1, -, -, -, -⟩ := h.cells
  have HW := Lib.hid (h.wrongly true)
  clear h
  simp only [List.length_nil] at c0
  go_enter Try.func52, Try.ntmps52
  go_wp2_with fail
  go_ret
  exact ⟨rfl, HW.out⟩

set_option maxRecDepth 100000 in
theorem single_some {w0 w1 W : World} {r : Nat} {x : UInt8} {l : List UInt8} {b : Bool} (h : Rdr w0 w1 W r (x :: l) b) (hl : (x :: l).length ≤ 9000000) :
    Calls Try.prog 52 #[.pointer (some ⟨r, 0, none⟩)] W fun e w' => e = .returned (.int .u8 (x.toNat : Nat)) ∧ Rdr w0 w1 w' r l b := by
  obtain ⟨A, c, c0, c1, f0, f1, hh, hW, hc, hf⟩ := h.cells
  obtain ⟨g, o, rfl, hb, k0⟩ := hW 0 (by simp)
  have hd := hh.drop 1 c hc
  simp only [List.drop_succ_cons, List.drop_zero, List.length_cons] at hd hc c0 hl
  simp only [List.getElem_cons_zero, Nat.add_zero] at k0
  have hgr : g ≠ r := hf (by simp) _ rfl
  have hfd := hf.drop 1 c
  simp only [List.drop_succ_cons, List.drop_zero] at hfd
  by_cases hc1 : c = 1
  · rw [if_pos hc1] at hd hfd
    have hl0 : l = [] := List.eq_nil_of_length_eq_zero (by omega)
    subst hl0
    have HW := Lib.hid (h.resting _ 0 [] hd (by simp) hfd)
    clear h hd hh hW hf hfd
    subst hc1
    go_enter Try.func52, Try.ntmps52
    go_wp2_with fail
    go_ret
    exact ⟨rfl, HW.out⟩
  · rw [if_neg hc1] at hd hfd
    have hz : ¬ (l.length : Int) + 1 = 0 := by omega
    have HW := h.resting _ (c - 1) l hd (by omega) hfd
    simp only [Option.map_some, Addr.add_lit] at HW
    replace HW := Lib.hid HW
    have c1' : (c = 1) = False := eq_false hc1
    clear h hd hh hW hc1 hf hfd
    go_enter Try.func52, Try.ntmps52
    go_wp2_with fail
    go_ret
    exact ⟨rfl, HW.out⟩

/-- the number at the front, from its i-th group on; what stands behind it. -/
def numFrom : Nat → Nat → List UInt8 → Option (Nat × List UInt8)
  | 0, _, _ => none
  | _ + 1, _, [] => none
  | k + 1, acc, x :: l =>
    if k = 0 ∧ x.toNat % 128 > 1 then none
    else if x.toNat < 128 then (if x.toNat = 0 ∧ k < 9 then none else some (acc + x.toNat % 128 * 128 ^ (9 - k), l))
    else numFrom k (acc + x.toNat % 128 * 128 ^ (9 - k)) l
def numOf (l : List UInt8) : Option (Nat × List UInt8) := numFrom 10 0 l

/-- what a reading call leaves: what it should tell, or that it has gone wrong. -/
def Read {α : Type} (w0 w1 : World) (r : Nat) (wrong : Bool) (n : Nat) (want : Option (α × List UInt8)) (is : α → Prop) (w' : World) : Prop :=
  match want with
  | some (x, l') => is x ∧ l'.length ≤ n ∧ Rdr w0 w1 w' r l' wrong
  | none => ∃ l', l'.length ≤ n ∧ Rdr w0 w1 w' r l' true

end Go.Proofs.Ytmpiknaoocflcaa
