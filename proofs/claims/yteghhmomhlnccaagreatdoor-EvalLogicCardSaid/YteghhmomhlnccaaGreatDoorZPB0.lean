import Derived.Test.YteghhmomhlnccaaGreatDoorRows
import Derived.Laws.CopyOwn
import Derived.Lib.EndianBits
import Derived.WalkKit
import Derived.ProofKit
import Derived.OpenShut
import Derived.IntWalk
import Derived.Lib.Hide
import Derived.Below
import Derived.Laws.OwnMore
import Derived.Laws.BitsAll
import Derived.Laws.BytesArg
import Derived.Lib.AppendZeros
import Derived.Lib.AppendStr
import Derived.Maps.AppendAt
import Derived.ArgAppend
import Derived.WalkLawsBesides
import Derived.Deep.AppendLies
import Derived.Deep.Draws
import Derived.Deep.DeepCutAuto
import Derived.Deep.RegionHeld3
import Derived.Deep.RegionWith
import Derived.Deep.QuietTactic
import Derived.BigQuiet
import Derived.Handy
import Derived.Laws.CopyRow
import Derived.Deep.RegionLaw

/- Bytes in memory: blocks, slices that are read, rows of the call's own; append, bytes.Clone, Same. -/
namespace Go.Proofs.YteghhmomhlnccaaGreatDoor
open Go.RowKit

/-! a block that is known whole -/
def Whole (w : World) (g : Nat) (t : TypeId) (cs : Array Value) : Prop := w.heap[g]? = some (.cells cs t (0, 0))
section
variable {w w' : World} {g : Nat} {t : TypeId} {cs : Array Value}
theorem Whole.lt (h : Whole w g t cs) : g < w.heap.size := by
  rcases Nat.lt_or_ge g w.heap.size with hlt | hge
  · exact hlt
  · unfold Whole at h; rw [Array.getElem?_eq_none hge] at h; cases h
theorem Whole.cell (h : Whole w g t cs) (i : Nat) : w.cell? ⟨g, i, none⟩ = cs[i]? := cell_of_row w g i cs t (0, 0) h
theorem Whole.frozen (h : Whole w g t cs) (i : Nat) : w.frozen? ⟨g, i, none⟩ = false := by
  unfold Whole at h
  simp [World.frozen?, h]
theorem Whole.new (w : World) (t : TypeId) (cs : Array Value) : Whole (w.alloc (.cells cs t)) w.heap.size t cs := heap_alloc_new w _
theorem Whole.drew (h : Whole w g t cs) : Whole w.drew g t cs := h
theorem Whole.alloc (h : Whole w g t cs) (o : Obj) : Whole (w.alloc o) g t cs := (Below.heap_alloc w o g h.lt).trans h
theorem Whole.set_ (h : Whole w g t cs) (i : Nat) (u : Value) : Whole (w.setCell ⟨g, i, none⟩ u) g t (cs.setIfInBounds i u) := by
  unfold Whole at h ⊢
  simp [World.setCell, Array.getElem?_modify, h]
theorem Whole.far (h : Whole w g t cs) {p : Addr} (hp : g ≠ p.block) (u : Value) : Whole (w.setCell p u) g t cs := (Below.heap_setCell w p u g hp).trans h
theorem Whole.below {B : Nat} (h : Whole w g t cs) (hb : Below B w w') (hg : g < B) : Whole w' g t cs := (hb.block g hg).trans h
end


/-- a slice's bytes, as they are read. -/
def Holds (w : World) (A : Option Addr) (l : List UInt8) : Prop :=
  ∀ i (h : i < l.length), ∃ b o, A = some ⟨b, o, none⟩ ∧ b < w.heap.size ∧ w.cell? ⟨b, o + i, none⟩ = some (.int .u8 (l[i].toNat : Nat))
theorem Holds.below {w w' : World} {A : Option Addr} {l : List UInt8} (h : Holds w A l) (hb : Below w.heap.size w w') : Holds w' A l := fun i hi => by
  obtain ⟨b, o, e, hlt, hc⟩ := h i hi
  exact ⟨b, o, e, Nat.lt_of_lt_of_le hlt hb.size, (hb.cell (p := ⟨b, o + i, none⟩) hlt).trans hc⟩
theorem Holds.nil (w : World) (A : Option Addr) : Holds w A [] := fun i h => absurd h (by simp)
theorem Holds.take {w : World} {A : Option Addr} {l : List UInt8} (h : Holds w A l) (k : Nat) : Holds w A (l.take k) := fun i hi => by
  have hl : i < l.length := by rw [List.length_take] at hi; omega
  obtain ⟨b, o, e, hlt, hc⟩ := h i hl
  exact ⟨b, o, e, hlt, by rw [hc]; simp⟩
theorem Holds.drop {w : World} {A : Option Addr} {l : List UInt8} (h : Holds w A l) (k c : Nat) (hc : l.length ≤ c) : Holds w (if c = k then A else A.map (·.add k)) (l.drop k) := fun i hi => by
  rw [List.length_drop] at hi
  obtain ⟨b, o, e, hlt, hcell⟩ := h (k + i) (by omega)
  rw [if_neg (by omega)]
  subst e
  refine ⟨b, o + k, by simp [Addr.add_lit], hlt, ?_⟩
  rw [Nat.add_assoc, hcell]
  simp
theorem Holds.at_ {w : World} {A : Option Addr} {P R : List UInt8} {x : UInt8} (h : Holds w A (P ++ x :: R)) : ∃ b o, A = some ⟨b, o, none⟩ ∧ b < w.heap.size ∧ w.cell? ⟨b, o + P.length, none⟩ = some (.int .u8 (x.toNat : Nat)) := by
  have := h P.length (by simp)
  simpa using this


theorem below_drewN {B : Nat} {a w : World} (h : Below B a w) (n : Nat) : Below B a (w.drewN n) := ⟨h.os, h.tape, h.output, h.size, h.block⟩

def encB (l : List UInt8) : List Value := l.map fun b => .int .u8 (b.toNat : Nat)
theorem encB_at (l : List UInt8) (i : Nat) (h : i < l.length) : (encB l)[i]? = some (.int .u8 (l[i].toNat : Nat)) := by simp [encB, h]
/-- block g holds just these bytes. -/
def BB (w : World) (g : Nat) (l : List UInt8) : Prop := Whole w g 5 (encB l).toArray
theorem BB.lt {w : World} {g : Nat} {l : List UInt8} (h : BB w g l) : g < w.heap.size := Whole.lt h
theorem BB.cell {w : World} {g : Nat} {l : List UInt8} (h : BB w g l) (i : Nat) (hi : i < l.length) : w.cell? ⟨g, i, none⟩ = some (.int .u8 (l[i].toNat : Nat)) := by
  rw [Whole.cell h]; simpa using encB_at l i hi
theorem BB.frozen {w : World} {g : Nat} {l : List UInt8} (h : BB w g l) (i : Nat) : w.frozen? ⟨g, i, none⟩ = false := Whole.frozen h i
theorem BB.holds {w : World} {g : Nat} {l : List UInt8} (h : BB w g l) (o : Nat) : Holds w (some ⟨g, o, none⟩) (l.drop o) := fun i hi => by
  rw [List.length_drop] at hi
  refine ⟨g, o, rfl, h.lt, ?_⟩
  rw [h.cell (o + i) (by omega)]
  simp
theorem BB.below {w w' : World} {g : Nat} {l : List UInt8} (h : BB w g l) (hb : Below w.heap.size w w') : BB w' g l := Whole.below h hb h.lt
theorem BB.drew {w : World} {g : Nat} {l : List UInt8} (h : BB w g l) : BB w.drew g l := h


/-- v is a slice of the call's own (no block below base), of just these bytes. -/
def Row (w : World) (base : Nat) (v : Value) (l : List UInt8) : Prop := w.ownsRow base 5 1 v l.length (encB l)
theorem Row.shape {w : World} {base : Nat} {v : Value} {l : List UInt8} (h : Row w base v l) : ∃ A c, v = .slice A l.length c ∧ Holds w A l ∧ l.length ≤ c ∧ c ≤ maxLen := by
  obtain ⟨_, h2⟩ := h
  rcases h2 with ⟨rfl, h0⟩ | ⟨g, cap, cur, rfl, hb, hh, hn, hm, hs, ht⟩
  · exact ⟨none, 0, by rw [h0], by rw [List.eq_nil_of_length_eq_zero h0]; exact Holds.nil _ _, by omega, Nat.zero_le _⟩
  · refine ⟨_, cap, rfl, fun i hi => ⟨g, 0, rfl, ?_, ?_⟩, hn, hm⟩
    · exact (Array.getElem?_eq_some_iff.1 hh).1
    · rw [Nat.zero_add, cell_of_row w g i cur 5 (0, 0) hh, ← encB_at l i hi, ← ht]
      rw [List.getElem?_take, if_pos (by omega)]
      simp
theorem Row.below {w w' : World} {base : Nat} {v : Value} {l : List UInt8} (h : Row w base v l) (hb : Below w.heap.size w w') : Row w' base v l := by
  obtain ⟨h1, h2⟩ := h
  refine ⟨h1, h2.imp id ?_⟩
  rintro ⟨g, cap, cur, hv, hg, hh, r⟩
  exact ⟨g, cap, cur, hv, hg, (hb.block g (Array.getElem?_eq_some_iff.1 hh).1).trans hh, r⟩
theorem Row.drew {w : World} {base : Nat} {v : Value} {l : List UInt8} (h : Row w base v l) : Row w.drew base v l := h
theorem Row.block {w : World} {base : Nat} {v : Value} {l : List UInt8} (h : Row w base v l) : ∀ k, v.ownBlock = some k → base ≤ k := by
  rcases h.2 with ⟨rfl, _⟩ | ⟨g, cap, cur, rfl, hb, _⟩
  · intro k e; simp [Value.ownBlock] at e
  · intro k e; simp [Value.ownBlock] at e; omega
/-- what grows in a row of the call's own leaves the rest. -/
theorem below_grown {w0 w w' : World} {v : Value} (hb : Below w0.heap.size w0 w) (hg : w.grownBy w' v.ownBlock) (hv : ∀ k, v.ownBlock = some k → w0.heap.size ≤ k) : Below w0.heap.size w0 w' :=
  ⟨hg.os.trans hb.os, hg.tape.trans hb.tape, hg.output.trans hb.output, Nat.le_trans hb.size hg.size, fun k hk => (hg.block k (Nat.lt_of_lt_of_le hk hb.size) (fun e => by have := hv k e.symm; omega)).trans (hb.block k hk)⟩

theorem Row.le {w : World} {base base' : Nat} {v : Value} {l : List UInt8} (h : Row w base v l) (hb : base' ≤ base) : Row w base' v l :=
  ⟨h.1, h.2.imp id fun ⟨g, cap, cur, hv, hg, r⟩ => ⟨g, cap, cur, hv, Nat.le_trans hb hg, r⟩⟩
theorem Row.nil (w : World) (base : Nat) : Row w base (.slice none 0 0) [] := ⟨rfl, .inl ⟨rfl, rfl⟩⟩
theorem Row.alloc {w : World} {base : Nat} {v : Value} {l : List UInt8} (h : Row w base v l) (o : Obj) : Row (w.alloc o) base v l := h.below ((Below.refl _ _).alloc (Nat.le_refl _) _)
end Go.Proofs.YteghhmomhlnccaaGreatDoor

/- What may have changed; the writes that wait; the disk in memory. -/
namespace Go.Proofs.YteghhmomhlnccaaGreatDoor
open Go.RowKit

/-! what may have changed -/
structure Touch (F : List Nat) (w w' : World) : Prop where
  os : w'.os = w.os
  tape : w'.tape = w.tape
  output : w'.output = w.output
  size : w.heap.size ≤ w'.heap.size
  block : ∀ k, k < w.heap.size → k ∉ F → w'.heap[k]? = w.heap[k]?

theorem Touch.refl (F : List Nat) (w : World) : Touch F w w := ⟨rfl, rfl, rfl, Nat.le_refl _, fun _ _ _ => rfl⟩
theorem Touch.of_below {w w' : World} (h : Below w.heap.size w w') (F : List Nat) : Touch F w w' := ⟨h.os, h.tape, h.output, h.size, fun k hk _ => h.block k hk⟩
theorem Touch.of_grown {w w' : World} {o : Option Nat} (h : w.grownBy w' o) : Touch o.toList w w' := ⟨h.os, h.tape, h.output, h.size, fun k hk hn => h.block k hk (fun e => hn (by simp [← e]))⟩
theorem Touch.trans {F G : List Nat} {a b c : World} (h : Touch F a b) (k : Touch G b c) (hG : ∀ x ∈ G, x ∈ F ∨ a.heap.size ≤ x) : Touch F a c :=
  ⟨k.os.trans h.os, k.tape.trans h.tape, k.output.trans h.output, Nat.le_trans h.size k.size, fun x hx hn => (k.block x (Nat.lt_of_lt_of_le hx h.size) (fun hm => by rcases hG x hm with h1 | h1; exact hn h1; omega)).trans (h.block x hx hn)⟩
theorem Touch.mono {F G : List Nat} {a b : World} (h : Touch F a b) (hG : ∀ x ∈ F, x ∈ G ∨ a.heap.size ≤ x) : Touch G a b :=
  (Touch.refl G a).trans h hG
theorem Touch.setCell {F : List Nat} {a w : World} (h : Touch F a w) {q : Addr} (hq : q.block ∈ F ∨ a.heap.size ≤ q.block) (u : Value) : Touch F a (w.setCell q u) :=
  ⟨h.os, h.tape, h.output, by simpa using h.size, fun k hk hn => (Below.heap_setCell w q u k (fun e => by rcases hq with h1 | h1; exact hn (e ▸ h1); omega)).trans (h.block k hk hn)⟩
theorem Touch.alloc {F : List Nat} {a w : World} (h : Touch F a w) (o : Obj) : Touch F a (w.alloc o) :=
  ⟨h.os, h.tape, h.output, Nat.le_trans h.size (by simp), fun k hk hn => (Below.heap_alloc w o k (Nat.lt_of_lt_of_le hk h.size)).trans (h.block k hk hn)⟩
theorem Touch.drew {F : List Nat} {a w : World} (h : Touch F a w) : Touch F a w.drew := ⟨h.os, h.tape, h.output, h.size, h.block⟩
theorem Touch.below {w w' : World} (h : Touch [] w w') : Below w.heap.size w w' := ⟨h.os, h.tape, h.output, h.size, fun k hk => h.block k hk (by simp)⟩
theorem Touch.grown {F : List Nat} {a w w' : World} {o : Option Nat} (h : Touch F a w) (hg : w.grownBy w' o) (ho : ∀ k, o = some k → k ∈ F ∨ a.heap.size ≤ k) : Touch F a w' :=
  h.trans (Touch.of_grown hg) (fun x hx => ho x (by simpa using hx))
theorem Touch.belowTo {F : List Nat} {a w w' : World} (h : Touch F a w) (hb : Below w.heap.size w w') : Touch F a w' := h.trans (Touch.of_below hb []) (by simp)
/-- all that was touched is new. -/
theorem Touch.fresh {F : List Nat} {a w w' : World} (hb : Below a.heap.size a w) (h : Touch F w w') (hF : ∀ x ∈ F, a.heap.size ≤ x) : Below a.heap.size a w' :=
  ⟨h.os.trans hb.os, h.tape.trans hb.tape, h.output.trans hb.output, Nat.le_trans hb.size h.size, fun k hk => (h.block k (Nat.lt_of_lt_of_le hk hb.size) (fun hm => by have := hF k hm; omega)).trans (hb.block k hk)⟩

theorem ownsRow_of_heap {w w' : World} {base : Nat} {e : TypeId} {size : Nat} {v : Value} {n : Nat} {xs : List Value} (h : w.ownsRow base e size v n xs) (hb : ∀ b, v.ownBlock = some b → w'.heap[b]? = w.heap[b]?) : w'.ownsRow base e size v n xs := by
  refine ⟨h.1, ?_⟩
  rcases h.2 with hn | ⟨g, cap, cur, rfl, hb1, hgg, rest⟩
  · exact .inl hn
  · exact .inr ⟨g, cap, cur, rfl, hb1, (hb g rfl).trans hgg, rest⟩
theorem row_kind {w : World} {b : Nat} {v : Value} {n : Nat} {xs : List Value} {e : TypeId} {z : Nat} (h : w.ownsRow b e z v n xs) {g : Nat} (hg : v.ownBlock = some g) : ∃ cur, w.heap[g]? = some (.cells cur e (0, 0)) := by
  rcases h.2 with ⟨rfl, _⟩ | ⟨g', cap, cur, rfl, _, h2, _⟩
  · cases hg
  · cases hg; exact ⟨cur, h2⟩


/-- a block of bytes. -/
def Bytes (w : World) (k : Nat) : Prop := ∃ cs z, w.heap[k]? = some (.cells cs 5 z)
theorem Row.bytes {w : World} {v : Value} {l : List UInt8} {b : Nat} (h : Row w b v l) {k : Nat} (hk : v.ownBlock = some k) : Bytes w k := let ⟨c, hc⟩ := row_kind h hk; ⟨c, _, hc⟩
theorem Row.of_heap {w w' : World} {v : Value} {l : List UInt8} {b : Nat} (h : Row w b v l) (hb : ∀ k, v.ownBlock = some k → w'.heap[k]? = w.heap[k]?) : Row w' b v l := ownsRow_of_heap h hb
theorem Bytes.lt {w : World} {k : Nat} (h : Bytes w k) : k < w.heap.size := by obtain ⟨cs, z, h⟩ := h; exact (Array.getElem?_eq_some_iff.1 h).1
theorem heap_set_other (w : World) (p i : Nat) (u : Value) (k : Nat) (h : k ≠ p) : (w.setCell ⟨p, i, none⟩ u).heap[k]? = w.heap[k]? := Below.heap_setCell w ⟨p, i, none⟩ u k h
theorem Touch.one {w : World} {p i : Nat} {u : Value} {F : List Nat} (h : p ∈ F) : Touch F w (w.setCell ⟨p, i, none⟩ u) := (Touch.refl F w).setCell (.inl h) u
theorem own_ge {w : World} {b : Nat} {v : Value} {n : Nat} {xs : List Value} {e : TypeId} {z : Nat} (h : w.ownsRow b e z v n xs) {k : Nat} (hk : v.ownBlock = some k) : b ≤ k := by
  rcases h.2 with ⟨rfl, _⟩ | ⟨g, cap, cur, rfl, hb, _⟩
  · cases hk
  · have : g = k := by simpa [Value.ownBlock] using hk
    omega
def strs (ss : List ByteArray) : List Value := ss.map fun s => .string s
def SRow (w : World) (base : Nat) (v : Value) (ss : List ByteArray) : Prop := w.ownsRow base 9 1 v ss.length (strs ss)
theorem SRow.new (w : World) : SRow (w.alloc (.cells #[] 9)) w.heap.size (.slice (some ⟨w.heap.size, 0, none⟩) 0 0) [] :=
  ⟨rfl, .inr ⟨w.heap.size, 0, #[], rfl, Nat.le_refl _, heap_alloc_new w _, Nat.le_refl _, Nat.zero_le _, rfl, rfl⟩⟩
theorem SRow.nil (w : World) (base : Nat) : SRow w base (.slice none 0 0) [] := ⟨rfl, .inl ⟨rfl, rfl⟩⟩
theorem SRow.below {w w' : World} {base : Nat} {v : Value} {ss : List ByteArray} (h : SRow w base v ss) (hb : Below w.heap.size w w') : SRow w' base v ss := by
  obtain ⟨h1, h2⟩ := h
  refine ⟨h1, h2.imp id ?_⟩
  rintro ⟨g, cap, cur, hv, hg, hh, r⟩
  exact ⟨g, cap, cur, hv, hg, (hb.block g (Array.getElem?_eq_some_iff.1 hh).1).trans hh, r⟩
theorem SRow.of_heap {w w' : World} {base : Nat} {v : Value} {ss : List ByteArray} (h : SRow w base v ss) (hb : ∀ b, v.ownBlock = some b → w'.heap[b]? = w.heap[b]?) : SRow w' base v ss := ownsRow_of_heap h hb
theorem SRow.le {w : World} {base base' : Nat} {v : Value} {ss : List ByteArray} (h : SRow w base v ss) (hb : base' ≤ base) : SRow w base' v ss :=
  ⟨h.1, h.2.imp id fun ⟨g, cap, cur, hv, hg, r⟩ => ⟨g, cap, cur, hv, Nat.le_trans hb hg, r⟩⟩
theorem SRow.block {w : World} {base : Nat} {v : Value} {ss : List ByteArray} (h : SRow w base v ss) : ∀ k, v.ownBlock = some k → base ≤ k ∧ k < w.heap.size := by
  rcases h.2 with ⟨rfl, _⟩ | ⟨g, cap, cur, rfl, hb, hh, _⟩
  · intro k e; simp [Value.ownBlock] at e
  · intro k e
    simp [Value.ownBlock] at e
    subst e
    exact ⟨hb, (Array.getElem?_eq_some_iff.1 hh).1⟩
theorem SRow.shape {w : World} {base : Nat} {v : Value} {ss : List ByteArray} (h : SRow w base v ss) : ∃ A c, v = .slice A ss.length c ∧ ss.length ≤ c ∧ ∀ i (h : i < ss.length), ∃ g, A = some ⟨g, 0, none⟩ ∧ v.ownBlock = some g ∧ g < w.heap.size ∧ w.cell? ⟨g, i, none⟩ = some (.string ss[i]) := by
  obtain ⟨_, h2⟩ := h
  rcases h2 with ⟨rfl, h0⟩ | ⟨g, cap, cur, rfl, hb, hh, hn, hm, hs, ht⟩
  · exact ⟨none, 0, by rw [h0], by omega, fun i hi => absurd hi (by omega)⟩
  · refine ⟨_, cap, rfl, hn, fun i hi => ⟨g, rfl, rfl, (Array.getElem?_eq_some_iff.1 hh).1, ?_⟩⟩
    have hu : (strs ss)[i]? = some (.string ss[i]) := by simp [strs, hi]
    rw [cell_of_row w g i cur 9 (0, 0) hh, ← hu, ← ht, List.getElem?_take, if_pos (by omega)]
    simp
theorem infoStr : (Tryz.prog.info? 9).map (fun i => (i.zero, i.size, decide (i.bytes ≤ 1000))) = some (some (.string ⟨#[]⟩), 1, true) := by kernel_rfl
/-- strings that stand in a row. -/
def Strs (w : World) (A : Option Addr) (ss : List ByteArray) : Prop := ∀ i (h : i < ss.length), ∃ g o, A = some ⟨g, o, none⟩ ∧ g < w.heap.size ∧ w.cell? ⟨g, o + i, none⟩ = some (.string ss[i])
theorem Strs.below {w w' : World} {A : Option Addr} {ss : List ByteArray} (h : Strs w A ss) (hb : Below w.heap.size w w') : Strs w' A ss := fun i hi => by
  obtain ⟨g, o, e, hlt, hc⟩ := h i hi
  exact ⟨g, o, e, Nat.lt_of_lt_of_le hlt hb.size, (hb.cell (p := ⟨g, o + i, none⟩) hlt).trans hc⟩
end Go.Proofs.YteghhmomhlnccaaGreatDoor
