import Derived.Test.YtlkkfnimealbkaaRows
import Derived.WalkKit
import Derived.ProofKit
import Derived.OpenShut
import Derived.IntWalk
import Derived.Lib.Hide
import Derived.Below
import Derived.Laws.OwnMore
import Derived.Laws.BitsAll
import Derived.Laws.CopyOwn
import Derived.Laws.BytesArg
import Derived.Lib.AppendZeros
import Derived.Lib.AppendStr
import Derived.Lib.EndianBits
import Derived.Maps.AppendAt
import Derived.ArgAppend
import Derived.WalkLawsBesides
import Derived.Deep.AppendLies
import Derived.Deep.Draws
import Derived.Deep.DeepCutAuto
import Derived.Deep.RegionHeld3
import Derived.Deep.RegionWith
import Derived.Deep.QuietTactic
import Derived.BigQuiet
import Derived.Handy
import Derived.Laws.CopyRow
import Derived.Deep.RegionLaw

/- Bytes in memory: blocks, slices that are read, rows of the call's own; append, bytes.Clone, Same. -/
namespace Go.Proofs.Ytlkkfnimealbkaa
open Go.RowKit

/-! a block that is known whole -/
def Whole (w : World) (g : Nat) (t : TypeId) (cs : Array Value) : Prop := w.heap[g]? = some (.cells cs t (0, 0))
section
variable {w w' : World} {g : Nat} {t : TypeId} {cs : Array Value}
theorem Whole.lt (h : Whole w g t cs) : g < w.heap.size := by
  rcases Nat.lt_or_ge g w.heap.size with hlt | hge
  · exact hlt
  · unfold Whole at h; rw [Array.getElem?_eq_none hge] at h; cases h
theorem Whole.cell (h : Whole w g t cs) (i : Nat) : w.cell? ⟨g, i, none⟩ = cs[i]? := cell_of_row w g i cs t (0, 0) h
theorem Whole.frozen (h : Whole w g t cs) (i : Nat) : w.frozen? ⟨g, i, none⟩ = false := by
  unfold Whole at h
  simp [World.frozen?, h]
theorem Whole.new (w : World) (t : TypeId) (cs : Array Value) : Whole (w.alloc (.cells cs t)) w.heap.size t cs := heap_alloc_new w _
theorem Whole.drew (h : Whole w g t cs) : Whole w.drew g t cs := h
theorem Whole.alloc (h : Whole w g t cs) (o : Obj) : Whole (w.alloc o) g t cs := (Below.heap_alloc w o g h.lt).trans h
theorem Whole.set_ (h : Whole w g t cs) (i : Nat) (u : Value) : Whole (w.setCell ⟨g, i, none⟩ u) g t (cs.setIfInBounds i u) := by
  unfold Whole at h ⊢
  simp [World.setCell, Array.getElem?_modify, h]
theorem Whole.far (h : Whole w g t cs) {p : Addr} (hp : g ≠ p.block) (u : Value) : Whole (w.setCell p u) g t cs := (Below.heap_setCell w p u g hp).trans h
theorem Whole.below {B : Nat} (h : Whole w g t cs) (hb : Below B w w') (hg : g < B) : Whole w' g t cs := (hb.block g hg).trans h
end


/-- a slice's bytes, as they are read. -/
def Holds (w : World) (A : Option Addr) (l : List UInt8) : Prop :=
  ∀ i (h : i < l.length), ∃ b o, A = some ⟨b, o, none⟩ ∧ b < w.heap.size ∧ w.cell? ⟨b, o + i, none⟩ = some (.int .u8 (l[i].toNat : Nat))
theorem Holds.below {w w' : World} {A : Option Addr} {l : List UInt8} (h : Holds w A l) (hb : Below w.heap.size w w') : Holds w' A l := fun i hi => by
  obtain ⟨b, o, e, hlt, hc⟩ := h i hi
  exact ⟨b, o, e, Nat.lt_of_lt_of_le hlt hb.size, (hb.cell (p := ⟨b, o + i, none⟩) hlt).trans hc⟩
theorem Holds.nil (w : World) (A : Option Addr) : Holds w A [] := fun i h => absurd h (by simp)
theorem Holds.take {w : World} {A : Option Addr} {l : List UInt8} (h : Holds w A l) (k : Nat) : Holds w A (l.take k) := fun i hi => by
  have hl : i < l.length := by rw [List.length_take] at hi; omega
  obtain ⟨b, o, e, hlt, hc⟩ := h i hl
  exact ⟨b, o, e, hlt, by rw [hc]; simp⟩
theorem Holds.drop {w : World} {A : Option Addr} {l : List UInt8} (h : Holds w A l) (k c : Nat) (hc : l.length ≤ c) : Holds w (if c = k then A else A.map (·.add k)) (l.drop k) := fun i hi => by
  rw [List.length_drop] at hi
  obtain ⟨b, o, e, hlt, hcell⟩ := h (k + i) (by omega)
  rw [if_neg (by omega)]
  subst e
  refine ⟨b, o + k, by simp [Addr.add_lit], hlt, ?_⟩
  rw [Nat.add_assoc, hcell]
  simp
theorem Holds.at_ {w : World} {A : Option Addr} {P R : List UInt8} {x : UInt8} (h : Holds w A (P ++ x :: R)) : ∃ b o, A = some ⟨b, o, none⟩ ∧ b < w.heap.size ∧ w.cell? ⟨b, o + P.length, none⟩ = some (.int .u8 (x.toNat : Nat)) := by
  have := h P.length (by simp)
  simpa using this


theorem below_drewN {B : Nat} {a w : World} (h : Below B a w) (n : Nat) : Below B a (w.drewN n) := ⟨h.os, h.tape, h.output, h.size, h.block⟩

def encB (l : List UInt8) : List Value := l.map fun b => .int .u8 (b.toNat : Nat)
theorem encB_length (l : List UInt8) : (encB l).length = l.length := by simp [encB]
theorem encB_append (l r : List UInt8) : encB (l ++ r) = encB l ++ encB r := by simp [encB]
theorem encB_one (l : List UInt8) : ∀ v ∈ encB l, v.oneCell' = true := by
  intro v hv
  simp only [encB, List.mem_map] at hv
  obtain ⟨b, _, rfl⟩ := hv
  rfl
theorem encB_at (l : List UInt8) (i : Nat) (h : i < l.length) : (encB l)[i]? = some (.int .u8 (l[i].toNat : Nat)) := by simp [encB, h]
/-- block g holds just these bytes. -/
def BB (w : World) (g : Nat) (l : List UInt8) : Prop := Whole w g 5 (encB l).toArray
theorem BB.lt {w : World} {g : Nat} {l : List UInt8} (h : BB w g l) : g < w.heap.size := Whole.lt h
theorem BB.cell {w : World} {g : Nat} {l : List UInt8} (h : BB w g l) (i : Nat) (hi : i < l.length) : w.cell? ⟨g, i, none⟩ = some (.int .u8 (l[i].toNat : Nat)) := by
  rw [Whole.cell h]; simpa using encB_at l i hi
theorem BB.frozen {w : World} {g : Nat} {l : List UInt8} (h : BB w g l) (i : Nat) : w.frozen? ⟨g, i, none⟩ = false := Whole.frozen h i
theorem BB.holds {w : World} {g : Nat} {l : List UInt8} (h : BB w g l) (o : Nat) : Holds w (some ⟨g, o, none⟩) (l.drop o) := fun i hi => by
  rw [List.length_drop] at hi
  refine ⟨g, o, rfl, h.lt, ?_⟩
  rw [h.cell (o + i) (by omega)]
  simp
theorem BB.holds0 {w : World} {g : Nat} {l : List UInt8} (h : BB w g l) : Holds w (some ⟨g, 0, none⟩) l := by simpa using h.holds 0
theorem BB.below {w w' : World} {g : Nat} {l : List UInt8} (h : BB w g l) (hb : Below w.heap.size w w') : BB w' g l := Whole.below h hb h.lt
theorem BB.drew {w : World} {g : Nat} {l : List UInt8} (h : BB w g l) : BB w.drew g l := h


theorem below_next {w W w' : World} (h : Below w.heap.size w W) (hb : Below W.heap.size W w') : Below w.heap.size w w' := h.trans (hb.mono h.size)


theorem info5 : (Try.prog.info? 5).map (fun i => (i.zero, i.size, i.bytes)) = some (some (.int .u8 0), 1, 1) := by kernel_rfl

/-- v is a slice of the call's own (no block below base), of just these bytes. -/
def Row (w : World) (base : Nat) (v : Value) (l : List UInt8) : Prop := w.ownsRow base 5 1 v l.length (encB l)
theorem Row.shape {w : World} {base : Nat} {v : Value} {l : List UInt8} (h : Row w base v l) : ∃ A c, v = .slice A l.length c ∧ Holds w A l ∧ l.length ≤ c ∧ c ≤ maxLen := by
  obtain ⟨_, h2⟩ := h
  rcases h2 with ⟨rfl, h0⟩ | ⟨g, cap, cur, rfl, hb, hh, hn, hm, hs, ht⟩
  · exact ⟨none, 0, by rw [h0], by rw [List.eq_nil_of_length_eq_zero h0]; exact Holds.nil _ _, by omega, Nat.zero_le _⟩
  · refine ⟨_, cap, rfl, fun i hi => ⟨g, 0, rfl, ?_, ?_⟩, hn, hm⟩
    · exact (Array.getElem?_eq_some_iff.1 hh).1
    · rw [Nat.zero_add, cell_of_row w g i cur 5 (0, 0) hh, ← encB_at l i hi, ← ht]
      rw [List.getElem?_take, if_pos (by omega)]
      simp
theorem Row.below {w w' : World} {base : Nat} {v : Value} {l : List UInt8} (h : Row w base v l) (hb : Below w.heap.size w w') : Row w' base v l := by
  obtain ⟨h1, h2⟩ := h
  refine ⟨h1, h2.imp id ?_⟩
  rintro ⟨g, cap, cur, hv, hg, hh, r⟩
  exact ⟨g, cap, cur, hv, hg, (hb.block g (Array.getElem?_eq_some_iff.1 hh).1).trans hh, r⟩
theorem Row.drew {w : World} {base : Nat} {v : Value} {l : List UInt8} (h : Row w base v l) : Row w.drew base v l := h
theorem Row.of_block {w : World} {g base : Nat} {l : List UInt8} (h : BB w g l) (hb : base ≤ g) (hl : l.length ≤ maxLen) : Row w base (.slice (some ⟨g, 0, none⟩) l.length l.length) l :=
  ⟨by simp [encB], .inr ⟨g, l.length, _, rfl, hb, h, Nat.le_refl _, hl, by simp [encB], by rw [Nat.mul_one]; exact List.take_of_length_le (by simp [encB])⟩⟩
theorem Row.block {w : World} {base : Nat} {v : Value} {l : List UInt8} (h : Row w base v l) : ∀ k, v.ownBlock = some k → base ≤ k := by
  rcases h.2 with ⟨rfl, _⟩ | ⟨g, cap, cur, rfl, hb, _⟩
  · intro k e; simp [Value.ownBlock] at e
  · intro k e; simp [Value.ownBlock] at e; omega
/-- what grows in a row of the call's own leaves the rest. -/
theorem below_grown {w0 w w' : World} {v : Value} (hb : Below w0.heap.size w0 w) (hg : w.grownBy w' v.ownBlock) (hv : ∀ k, v.ownBlock = some k → w0.heap.size ≤ k) : Below w0.heap.size w0 w' :=
  ⟨hg.os.trans hb.os, hg.tape.trans hb.tape, hg.output.trans hb.output, Nat.le_trans hb.size hg.size, fun k hk => (hg.block k (Nat.lt_of_lt_of_le hk hb.size) (fun e => by have := hv k e.symm; omega)).trans (hb.block k hk)⟩

/-- append of bytes to a row of the call's own. -/
theorem append_bytes {w : World} {base : Nat} {v : Value} {l : List UInt8} (h : Row w base v l) (A : Option Addr) (c : Nat) (m : List UInt8) (hm : Holds w A m) (hn : l.length + m.length ≤ 1000000) (hbase : base ≤ w.heap.size) :
    ∃ v' w', Sem.run Try.prog (Builtin.append_ #[35, 35] 35 #[v, .slice A m.length c]) w = .ok v' w' ∧ Row w' base v' (l ++ m) ∧ w.grownBy w' v.ownBlock ∧ (v'.ownBlock = v.ownBlock ∨ v'.ownBlock = some w.heap.size) := by
  have hinf := info5
  cases hi : Try.prog.info? 5 with
  | none => rw [hi] at hinf; simp at hinf
  | some i =>
    rw [hi] at hinf
    simp at hinf
    obtain ⟨i1, i2, i3⟩ := hinf
    have go : ∀ a : Addr, A = some a → (∀ j u, (encB m)[j]? = some u → w.cell? (a.add j) = some u) → ∃ v' w', Sem.run Try.prog (Builtin.append_ #[35, 35] 35 #[v, .slice A m.length c]) w = .ok v' w' ∧ Row w' base v' (l ++ m) ∧ w.grownBy w' v.ownBlock ∧ (v'.ownBlock = v.ownBlock ∨ v'.ownBlock = some w.heap.size) := by
      intro a e hc
      subst e
      obtain ⟨v', w', hr, ho, hg, _, hb⟩ := run_append_own_at (P := Try.prog) w base 35 35 5 i _ 1 1 Try.underlying35 hi i1 i2 i3 rfl (by omega) v l.length (encB l) h a m.length c (encB m) (by simp [encB]) hc (encB_one m) (by simp only [maxLen]; omega) (by omega) hbase
      refine ⟨v', w', hr, ?_, hg, hb⟩
      unfold Row
      rw [List.length_append, encB_append]
      exact ho
    cases A with
    | none =>
      have hm0 : m = [] := by
        cases m with
        | nil => rfl
        | cons x r => obtain ⟨b, o, e, _⟩ := hm 0 (by simp); cases e
      subst hm0
      refine ⟨v, w, ?_, by simpa using h, World.grownBy.refl w _, .inl rfl⟩
      rcases h.2 with ⟨rfl, _⟩ | ⟨g, cap, cur, rfl, _, _, hnc, _⟩
      · simp [Builtin.append_, run_underlying Try.underlying35, sizeOf, typeInfo, hi, Builtin.lenOf, Builtin.firstCells]
      · simp [Builtin.append_, run_underlying Try.underlying35, sizeOf, typeInfo, hi, Builtin.lenOf, Builtin.firstCells, hnc, storeCells]
    | some a =>
      refine go a rfl fun j u hu => ?_
      have hj : j < m.length := by
        have := (List.getElem?_eq_some_iff.1 hu).1
        rwa [encB_length] at this
      obtain ⟨b, o, e, _, hc⟩ := hm j hj
      cases e
      rw [Addr.add_lit, hc, ← hu, encB_at m j hj]

set_option maxRecDepth 100000 in
theorem clone_any (A : Option Addr) (c : Nat) (l : List UInt8) (w : World) (h : Holds w A l) (hn : l.length ≤ 1000000) :
    Calls Try.prog 31 #[.slice A l.length c] w fun r w' => ∃ v, r = .returned v ∧ Row w' w.heap.size v l ∧ Below w.heap.size w w' := by
  have H0 := Lib.hid h
  clear h
  cases A with
  | none =>
    have hl : l = [] := by
      cases l with
      | nil => rfl
      | cons x r => obtain ⟨b, o, e, _⟩ := H0.out 0 (by simp); cases e
    subst hl
    have hq := fun W => Lib.run_eql_slice_nil (P := Try.prog) W 35 5 none 0 c 0 0 Try.underlying35
    go_enter Try.func31, Try.ntmps31
    go_wp2_with fail
    go_ret
    exact ⟨_, rfl, ⟨rfl, .inl ⟨rfl, rfl⟩⟩, Below.refl _ _⟩
  | some a =>
    have hrow : Row (w.alloc (.cells #[] 5)) w.heap.size (.slice (some ⟨w.heap.size, 0, none⟩) 0 0) [] := ⟨rfl, .inr ⟨w.heap.size, 0, #[], rfl, Nat.le_refl _, heap_alloc_new w _, Nat.le_refl _, Nat.zero_le _, rfl, rfl⟩⟩
    obtain ⟨v', w', hr, ho, hg, hb⟩ := append_bytes hrow (some a) c l (H0.out.below ((Below.refl _ _).alloc (Nat.le_refl _) _)) (by simpa using hn) (by simp)
    have HO := Lib.hid ho
    have HB : Hid (Below w.heap.size w w') := Lib.hid (below_grown ((Below.refl _ _).alloc (Nat.le_refl _) _) hg hrow.block)
    have HR := Lib.hid hr
    clear ho hg hb hrow hr
    have hq := fun W => Lib.run_eql_slice_nil (P := Try.prog) W 35 5 (some a) l.length c 0 0 Try.underlying35
    go_enter Try.func31, Try.ntmps31
    go_wp2_with (at_builtin; refine Lib.wpList_append_run _ rfl _ _ 35 35 rfl _ _ rfl rfl _ _ HR.out ?_)
    go_ret
    exact ⟨_, rfl, HO.out, HB.out⟩

theorem Row.le {w : World} {base base' : Nat} {v : Value} {l : List UInt8} (h : Row w base v l) (hb : base' ≤ base) : Row w base' v l :=
  ⟨h.1, h.2.imp id fun ⟨g, cap, cur, hv, hg, r⟩ => ⟨g, cap, cur, hv, Nat.le_trans hb hg, r⟩⟩
theorem Row.nil (w : World) (base : Nat) : Row w base (.slice none 0 0) [] := ⟨rfl, .inl ⟨rfl, rfl⟩⟩
/-- bytes as a string. -/
theorem conv_bytes {w : World} {A : Option Addr} {l : List UInt8} (h : Holds w A l) (c : Nat) : Sem.run Try.prog (convert 35 9 (.slice A l.length c)) w = .ok (.string ⟨l.toArray⟩) w := by
  cases A with
  | none =>
    have hl : l = [] := by
      cases l with
      | nil => rfl
      | cons x r => obtain ⟨b, o, e, _⟩ := h 0 (by simp); cases e
    subst hl
    exact run_convert_bytes_nil w 35 5 Try.underlying35 Try.underlying5 _ c 9 Try.underlying9
  | some a =>
    cases l with
    | nil =>
      rw [run_convert_bytes_string w 35 9 5 _ _ c Try.underlying35 Try.underlying5 Try.underlying9]
      have := run_bytesToString (P := Try.prog) w a 0 c [] (run_loadCells_list w a [] (fun j v hv => by simp at hv))
      exact this
    | cons x r =>
      obtain ⟨b, o, e, _, _⟩ := h 0 (by simp)
      cases e
      have := run_convert_bytes_arg (P := Try.prog) w 35 5 Try.underlying35 Try.underlying5 b o (x :: r).length c ((x :: r).map fun y => (y.toNat : Int)) (by simp) (fun i hi => by
        obtain ⟨b', o', e', _, hc⟩ := h i hi
        cases e'
        rw [hc]
        rw [List.getD_eq_getElem?_getD, List.getElem?_map, List.getElem?_eq_getElem hi]
        rfl) 9 Try.underlying9
      rw [this]
      simp [strOfNums, Function.comp_def]

theorem holds_cells {w : World} {a : Addr} {m : List UInt8} (h : Holds w (some a) m) : ∀ j u, (encB m)[j]? = some u → w.cell? (a.add j) = some u := by
  intro j u hu
  have hj : j < m.length := by
    have := (List.getElem?_eq_some_iff.1 hu).1
    rwa [encB_length] at this
  obtain ⟨b, o, e, _, hc⟩ := h j hj
  cases e
  rw [Addr.add_lit, hc, ← hu, encB_at m j hj]
theorem holds_none {w : World} {m : List UInt8} (h : Holds w none m) : m = [] := by
  cases m with
  | nil => rfl
  | cons x r => obtain ⟨b, o, e, _⟩ := h 0 (by simp); cases e
theorem Row.alloc {w : World} {base : Nat} {v : Value} {l : List UInt8} (h : Row w base v l) (o : Obj) : Row (w.alloc o) base v l := h.below ((Below.refl _ _).alloc (Nat.le_refl _) _)
end Go.Proofs.Ytlkkfnimealbkaa

/- What may have changed; the writes that wait; the disk in memory. -/
namespace Go.Proofs.Ytlkkfnimealbkaa
open Go.RowKit

/-! what may have changed -/
structure Touch (F : List Nat) (w w' : World) : Prop where
  os : w'.os = w.os
  tape : w'.tape = w.tape
  output : w'.output = w.output
  size : w.heap.size ≤ w'.heap.size
  block : ∀ k, k < w.heap.size → k ∉ F → w'.heap[k]? = w.heap[k]?

theorem Touch.refl (F : List Nat) (w : World) : Touch F w w := ⟨rfl, rfl, rfl, Nat.le_refl _, fun _ _ _ => rfl⟩
theorem Touch.of_below {w w' : World} (h : Below w.heap.size w w') (F : List Nat) : Touch F w w' := ⟨h.os, h.tape, h.output, h.size, fun k hk _ => h.block k hk⟩
theorem Touch.of_grown {w w' : World} {o : Option Nat} (h : w.grownBy w' o) : Touch o.toList w w' := ⟨h.os, h.tape, h.output, h.size, fun k hk hn => h.block k hk (fun e => hn (by simp [← e]))⟩
theorem Touch.trans {F G : List Nat} {a b c : World} (h : Touch F a b) (k : Touch G b c) (hG : ∀ x ∈ G, x ∈ F ∨ a.heap.size ≤ x) : Touch F a c :=
  ⟨k.os.trans h.os, k.tape.trans h.tape, k.output.trans h.output, Nat.le_trans h.size k.size, fun x hx hn => (k.block x (Nat.lt_of_lt_of_le hx h.size) (fun hm => by rcases hG x hm with h1 | h1; exact hn h1; omega)).trans (h.block x hx hn)⟩
theorem Touch.mono {F G : List Nat} {a b : World} (h : Touch F a b) (hG : ∀ x ∈ F, x ∈ G ∨ a.heap.size ≤ x) : Touch G a b :=
  (Touch.refl G a).trans h hG
theorem Touch.setCell {F : List Nat} {a w : World} (h : Touch F a w) {q : Addr} (hq : q.block ∈ F ∨ a.heap.size ≤ q.block) (u : Value) : Touch F a (w.setCell q u) :=
  ⟨h.os, h.tape, h.output, by simpa using h.size, fun k hk hn => (Below.heap_setCell w q u k (fun e => by rcases hq with h1 | h1; exact hn (e ▸ h1); omega)).trans (h.block k hk hn)⟩
theorem Touch.alloc {F : List Nat} {a w : World} (h : Touch F a w) (o : Obj) : Touch F a (w.alloc o) :=
  ⟨h.os, h.tape, h.output, Nat.le_trans h.size (by simp), fun k hk hn => (Below.heap_alloc w o k (Nat.lt_of_lt_of_le hk h.size)).trans (h.block k hk hn)⟩
theorem Touch.drew {F : List Nat} {a w : World} (h : Touch F a w) : Touch F a w.drew := ⟨h.os, h.tape, h.output, h.size, h.block⟩
theorem Touch.below {w w' : World} (h : Touch [] w w') : Below w.heap.size w w' := ⟨h.os, h.tape, h.output, h.size, fun k hk => h.block k hk (by simp)⟩
theorem Touch.grown {F : List Nat} {a w w' : World} {o : Option Nat} (h : Touch F a w) (hg : w.grownBy w' o) (ho : ∀ k, o = some k → k ∈ F ∨ a.heap.size ≤ k) : Touch F a w' :=
  h.trans (Touch.of_grown hg) (fun x hx => ho x (by simpa using hx))
theorem Touch.belowTo {F : List Nat} {a w w' : World} (h : Touch F a w) (hb : Below w.heap.size w w') : Touch F a w' := h.trans (Touch.of_below hb []) (by simp)
/-- all that was touched is new. -/
theorem Touch.fresh {F : List Nat} {a w w' : World} (hb : Below a.heap.size a w) (h : Touch F w w') (hF : ∀ x ∈ F, a.heap.size ≤ x) : Below a.heap.size a w' :=
  ⟨h.os.trans hb.os, h.tape.trans hb.tape, h.output.trans hb.output, Nat.le_trans hb.size h.size, fun k hk => (h.block k (Nat.lt_of_lt_of_le hk hb.size) (fun hm => by have := hF k hm; omega)).trans (hb.block k hk)⟩

theorem ownsRow_of_heap {w w' : World} {base : Nat} {e : TypeId} {size : Nat} {v : Value} {n : Nat} {xs : List Value} (h : w.ownsRow base e size v n xs) (hb : ∀ b, v.ownBlock = some b → w'.heap[b]? = w.heap[b]?) : w'.ownsRow base e size v n xs := by
  refine ⟨h.1, ?_⟩
  rcases h.2 with hn | ⟨g, cap, cur, rfl, hb1, hgg, rest⟩
  · exact .inl hn
  · exact .inr ⟨g, cap, cur, rfl, hb1, (hb g rfl).trans hgg, rest⟩
theorem rebase {w : World} {b : Nat} {v : Value} {n : Nat} {xs : List Value} {e : TypeId} {z : Nat} (h : w.ownsRow b e z v n xs) : w.ownsRow 0 e z v n xs := by
  refine ⟨h.1, ?_⟩
  rcases h.2 with hn | ⟨g, cap, cur, h1, _, h2⟩
  · exact .inl hn
  · exact .inr ⟨g, cap, cur, h1, Nat.zero_le _, h2⟩
theorem row_kind {w : World} {b : Nat} {v : Value} {n : Nat} {xs : List Value} {e : TypeId} {z : Nat} (h : w.ownsRow b e z v n xs) {g : Nat} (hg : v.ownBlock = some g) : ∃ cur, w.heap[g]? = some (.cells cur e (0, 0)) := by
  rcases h.2 with ⟨rfl, _⟩ | ⟨g', cap, cur, rfl, _, h2, _⟩
  · cases hg
  · cases hg; exact ⟨cur, h2⟩


/-- a write that waits: its number, the slice, its bytes. -/
structure Wt where
  n : Nat
  a : Option Addr
  c : Nat
  b : List UInt8
abbrev Wt.v (x : Wt) : Value := .slice x.a x.b.length x.c
def encW (ws : List Wt) : List Value := ws.flatMap fun x => [.int .i64 x.n, x.v]
theorem encW_length : ∀ ws : List Wt, (encW ws).length = ws.length * 2
  | [] => rfl
  | x :: xs => by
    have := encW_length xs
    unfold encW at *
    rw [List.flatMap_cons, List.length_append, this, List.length_cons]
    simp only [List.length_cons, List.length_nil]
    omega
theorem encW_append (xs ys : List Wt) : encW (xs ++ ys) = encW xs ++ encW ys := by simp [encW]
theorem encW_at : ∀ (xs : List Wt) (i : Nat) (h : i < xs.length), (encW xs)[i * 2]? = some (.int .i64 xs[i].n) ∧ (encW xs)[i * 2 + 1]? = some xs[i].v
  | [], i, h => absurd h (by simp)
  | x :: xs, 0, h => ⟨rfl, rfl⟩
  | x :: xs, i + 1, h => by
    have := encW_at xs i (by simpa using h)
    have e : encW (x :: xs) = Value.int .i64 x.n :: x.v :: encW xs := rfl
    rw [e]
    have e0 : (i + 1) * 2 = i * 2 + 1 + 1 := by omega
    rw [e0]
    simp only [List.getElem?_cons_succ, List.getElem_cons_succ]
    exact this
def WRow (w : World) (v : Value) (ws : List Wt) : Prop := w.ownsRow 0 77 2 v ws.length (encW ws)
theorem WRow.of_heap {w w' : World} {v : Value} {ws : List Wt} (h : WRow w v ws) (hb : ∀ b, v.ownBlock = some b → w'.heap[b]? = w.heap[b]?) : WRow w' v ws := ownsRow_of_heap h hb
theorem WRow.nil (w : World) : WRow w (.slice none 0 0) [] := World.ownsRow_nil _ _ _ _
theorem WRow.lt {w : World} {v : Value} {ws : List Wt} (h : WRow w v ws) {k : Nat} (hk : v.ownBlock = some k) : k < w.heap.size := by
  obtain ⟨cur, h1⟩ := row_kind h hk
  exact (Array.getElem?_eq_some_iff.1 h1).1
/-- what is read of a row of writes. -/
theorem WRow.shape {w : World} {v : Value} {ws : List Wt} (h : WRow w v ws) : ∃ A c, v = .slice A ws.length c ∧ ws.length ≤ c ∧ ∀ i (h : i < ws.length), ∃ g, A = some ⟨g, 0, none⟩ ∧ v.ownBlock = some g ∧ g < w.heap.size ∧ w.cell? ⟨g, i * 2, none⟩ = some (.int .i64 ws[i].n) ∧ w.cell? ⟨g, i * 2 + 1, none⟩ = some ws[i].v := by
  obtain ⟨_, h2⟩ := h
  rcases h2 with ⟨rfl, h0⟩ | ⟨g, cap, cur, rfl, hb, hh, hn, hm, hs, ht⟩
  · exact ⟨none, 0, by rw [h0], by omega, fun i hi => absurd hi (by omega)⟩
  · refine ⟨_, cap, rfl, hn, fun i hi => ⟨g, rfl, rfl, (Array.getElem?_eq_some_iff.1 hh).1, ?_⟩⟩
    obtain ⟨k0, k1⟩ := encW_at ws i hi
    have key : ∀ j u, j < ws.length * 2 → (encW ws)[j]? = some u → w.cell? ⟨g, j, none⟩ = some u := by
      intro j u hj hu
      rw [cell_of_row w g j cur 77 (0, 0) hh, ← hu, ← ht, List.getElem?_take, if_pos hj]
      simp
    exact ⟨key _ _ (by omega) k0, key _ _ (by omega) k1⟩
theorem zeroW : (Try.prog.info? 77).map (fun i => (i.zero.map (fun z => z.cells.size), i.size, decide (i.bytes ≤ 1000))) = some (some 2, 2, true) := by kernel_rfl
/-- append of a write that was built. -/
theorem append_wt {w : World} {v : Value} {ws : List Wt} (h : WRow w v ws) (x : Wt) (hx : x.v.oneCell' = true) (hn : ws.length ≤ 1000000) :
    ∃ v' w', Sem.run Try.prog (Builtin.append_ #[64, 64] 64 #[v, .slice (some ⟨w.heap.size, 0, none⟩) 1 1]) (w.alloc (.cells #[.int .i64 x.n, x.v] 77)) = .ok v' w' ∧ WRow w' v' (ws ++ [x]) ∧ (w.alloc (.cells #[.int .i64 x.n, x.v] 77)).grownBy w' v.ownBlock ∧ ∀ k, v'.ownBlock = some k → v.ownBlock = some k ∨ w.heap.size ≤ k := by
  have hinf := zeroW
  cases hi : Try.prog.info? 77 with
  | none => rw [hi] at hinf; simp at hinf
  | some i =>
    rw [hi] at hinf
    simp at hinf
    obtain ⟨⟨z, hz, i1⟩, i2, i3⟩ := hinf
    have hb : ∀ (a b : Nat), a ≤ 1000001 → b ≤ 1000 → a * b ≤ 140737488355328 := fun a b h1 h2 => Nat.le_trans (Nat.mul_le_mul h1 h2) (by omega)
    obtain ⟨v', w', hr, ho, hg, _, hown⟩ := run_append_own_at (P := Try.prog) (w.alloc (.cells #[.int .i64 x.n, x.v] 77)) 0 64 64 77 i z 2 i.bytes Try.underlying64 hi hz i2 rfl i1 (by omega) v ws.length (encW ws) (h.of_heap fun b hb => Below.heap_alloc _ _ _ (h.lt hb)) ⟨w.heap.size, 0, none⟩ 1 1 (encW [x]) rfl (by
      intro j u hu
      rw [Addr.add_lit, Nat.zero_add, cell_of_row _ w.heap.size j #[.int .i64 x.n, x.v] 77 (0, 0) (heap_alloc_new w _), ← hu, show encW [x] = [Value.int .i64 x.n, x.v] from rfl]
      simp) (by
      intro u hu
      simp [encW] at hu
      rcases hu with rfl | rfl
      · rfl
      · exact hx) (by simp only [maxLen]; omega) (hb _ _ (by omega) i3) (by simp)
    refine ⟨v', w', hr, ?_, hg, fun k hk => ?_⟩
    · unfold WRow
      rw [List.length_append, encW_append]
      exact ho
    · rcases hown with e | e
      · exact .inl (e ▸ hk)
      · rw [e] at hk
        injection hk with hk
        simp at hk
        exact .inr (by omega)

/-! the disk -/
structure Sec where
  la : Option Addr
  lc : Nat
  l : List UInt8
  wv : Value
  ws : List Wt
abbrev Sec.lv (s : Sec) : Value := .slice s.la s.l.length s.lc
structure Dsk where
  p : Nat
  q : Nat
  size : Nat
  secs : List Sec
  waits : Nat
  deeds : Nat
  fused : Bool
  fuse : Nat
  dark : Bool
def encS (ss : List Sec) : List Value := ss.flatMap fun s => [s.lv, s.wv]
theorem encS_length : ∀ ss : List Sec, (encS ss).length = ss.length * 2
  | [] => rfl
  | x :: xs => by
    have := encS_length xs
    unfold encS at *
    rw [List.flatMap_cons, List.length_append, this, List.length_cons]
    simp only [List.length_cons, List.length_nil]
    omega
theorem encS_at : ∀ (xs : List Sec) (i : Nat) (h : i < xs.length), (encS xs)[i * 2]? = some xs[i].lv ∧ (encS xs)[i * 2 + 1]? = some xs[i].wv
  | [], i, h => absurd h (by simp)
  | x :: xs, 0, h => ⟨rfl, rfl⟩
  | x :: xs, i + 1, h => by
    have := encS_at xs i (by simpa using h)
    have e : encS (x :: xs) = x.lv :: x.wv :: encS xs := rfl
    rw [e]
    have e0 : (i + 1) * 2 = i * 2 + 1 + 1 := by omega
    rw [e0]
    simp only [List.getElem?_cons_succ, List.getElem_cons_succ]
    exact this
theorem encS_set : ∀ (xs : List Sec) (i : Nat) (s : Sec), i < xs.length → ((encS xs).set (i * 2) s.lv).set (i * 2 + 1) s.wv = encS (xs.set i s)
  | [], i, s, h => absurd h (by simp)
  | x :: xs, 0, s, h => rfl
  | x :: xs, i + 1, s, h => by
    have := encS_set xs i s (by simpa using h)
    have e : ∀ y, encS (y :: xs) = y.lv :: y.wv :: encS xs := fun y => rfl
    have e0 : (i + 1) * 2 = i * 2 + 1 + 1 := by omega
    rw [e, e0]
    simp only [List.set_cons_succ]
    rw [this]
    rfl
def dcells (d : Dsk) : Array Value := #[.int .i64 d.size, .slice (some ⟨d.q, 0, none⟩) d.secs.length d.secs.length, .int .i64 d.waits, .int .i64 d.deeds, .bool d.fused, .int .i64 d.fuse, .bool d.dark]
def foot (d : Dsk) : List Nat := d.p :: d.q :: d.secs.flatMap fun s => s.wv.ownBlock.toList
structure SecOk (w : World) (size waits : Nat) (s : Sec) : Prop where
  lrow : Row w 0 s.lv s.l
  lfit : s.l.length ≤ size
  wrow : WRow w s.wv s.ws
  few : s.ws.length ≤ waits
  wt : ∀ x ∈ s.ws, Row w 0 x.v x.b ∧ x.b.length ≤ size ∧ x.n < waits
structure DiskAt (w : World) (d : Dsk) : Prop where
  top : Whole w d.p 53 (dcells d)
  sec : Whole w d.q 66 (encS d.secs).toArray
  ok : ∀ s ∈ d.secs, SecOk w d.size d.waits s
  apart : ∀ i j (hi : i < d.secs.length) (hj : j < d.secs.length) k, d.secs[i].wv.ownBlock = some k → d.secs[j].wv.ownBlock = some k → i = j
  few : d.secs.length ≤ 600
  small : d.size ≤ 1024
/-- a block of bytes. -/
def Bytes (w : World) (k : Nat) : Prop := ∃ cs z, w.heap[k]? = some (.cells cs 5 z)
theorem Row.bytes {w : World} {v : Value} {l : List UInt8} {b : Nat} (h : Row w b v l) {k : Nat} (hk : v.ownBlock = some k) : Bytes w k := let ⟨c, hc⟩ := row_kind h hk; ⟨c, _, hc⟩
theorem Row.of_heap {w w' : World} {v : Value} {l : List UInt8} {b : Nat} (h : Row w b v l) (hb : ∀ k, v.ownBlock = some k → w'.heap[k]? = w.heap[k]?) : Row w' b v l := ownsRow_of_heap h hb
theorem SecOk.of_heap {w w' : World} {size waits : Nat} {s : Sec} (h : SecOk w size waits s) (hw : ∀ k, s.wv.ownBlock = some k → w'.heap[k]? = w.heap[k]?) (hb : ∀ k, Bytes w k → w'.heap[k]? = w.heap[k]?) : SecOk w' size waits s :=
  ⟨h.lrow.of_heap fun k hk => hb k (h.lrow.bytes hk), h.lfit, h.wrow.of_heap hw, h.few, fun x hx => ⟨(h.wt x hx).1.of_heap fun k hk => hb k ((h.wt x hx).1.bytes hk), (h.wt x hx).2⟩⟩
theorem SecOk.more {w : World} {size waits waits' : Nat} {s : Sec} (h : SecOk w size waits s) (hw : waits ≤ waits') : SecOk w size waits' s :=
  ⟨h.lrow, h.lfit, h.wrow, Nat.le_trans h.few hw, fun x hx => ⟨(h.wt x hx).1, (h.wt x hx).2.1, Nat.lt_of_lt_of_le (h.wt x hx).2.2 hw⟩⟩
theorem not_bytes {w : World} {g : Nat} {t : TypeId} {cs : Array Value} (h : w.heap[g]? = some (.cells cs t (0, 0))) (ht : t ≠ 5) : ¬ Bytes w g := by
  rintro ⟨cs', z, h'⟩
  rw [h] at h'
  simp at h'
  exact ht h'.2.1
section
variable {w w' : World} {d : Dsk}
theorem foot_wv {s : Sec} (hs : s ∈ d.secs) {k : Nat} (hk : s.wv.ownBlock = some k) : k ∈ foot d := by
  simp only [foot, List.mem_cons, List.mem_flatMap, Option.mem_toList]
  exact .inr (.inr ⟨s, hs, hk⟩)
theorem foot_cases {k : Nat} (h : k ∈ foot d) : k = d.p ∨ k = d.q ∨ ∃ s ∈ d.secs, s.wv.ownBlock = some k := by
  simpa only [foot, List.mem_cons, List.mem_flatMap, Option.mem_toList] using h
theorem foot_p : d.p ∈ foot d := by simp [foot]
theorem foot_q : d.q ∈ foot d := by simp [foot]
theorem DiskAt.plain (h : DiskAt w d) {k : Nat} (hk : k ∈ foot d) : k < w.heap.size ∧ ¬ Bytes w k := by
  rcases foot_cases hk with rfl | rfl | ⟨s, hs, e⟩
  · exact ⟨h.top.lt, not_bytes h.top (by decide)⟩
  · exact ⟨h.sec.lt, not_bytes h.sec (by decide)⟩
  · obtain ⟨cur, hc⟩ := row_kind (h.ok s hs).wrow e
    exact ⟨(h.ok s hs).wrow.lt e, not_bytes hc (by decide)⟩
/-- what stands, stands. -/
theorem DiskAt.of_heap (h : DiskAt w d) (hf : ∀ k ∈ foot d, w'.heap[k]? = w.heap[k]?) (hb : ∀ k, Bytes w k → w'.heap[k]? = w.heap[k]?) : DiskAt w' d :=
  ⟨(hf _ foot_p).trans h.top, (hf _ foot_q).trans h.sec, fun s hs => (h.ok s hs).of_heap (fun k hk => hf k (foot_wv hs hk)) hb, h.apart, h.few, h.small⟩
theorem Bytes.lt {k : Nat} (h : Bytes w k) : k < w.heap.size := by obtain ⟨cs, z, h⟩ := h; exact (Array.getElem?_eq_some_iff.1 h).1
theorem DiskAt.touch (h : DiskAt w d) {G : List Nat} (ht : Touch G w w') (hG : ∀ k ∈ foot d, k ∉ G) (hB : ∀ k, Bytes w k → k ∉ G) : DiskAt w' d :=
  h.of_heap (fun k hk => ht.block k (h.plain hk).1 (hG k hk)) (fun k hk => ht.block k hk.lt (hB k hk))
theorem DiskAt.below (h : DiskAt w d) (hb : Below w.heap.size w w') : DiskAt w' d := h.touch (Touch.of_below hb []) (by simp) (by simp)
/-- the disk's own cells turn, and nothing else of it. -/
theorem DiskAt.turn (h : DiskAt w d) {d' : Dsk} (hp : Whole w' d.p 53 (dcells d')) (hk : ∀ k, k ≠ d.p → w'.heap[k]? = w.heap[k]?) (e : d'.p = d.p ∧ d'.q = d.q ∧ d'.size = d.size ∧ d'.secs = d.secs ∧ d'.waits = d.waits) : DiskAt w' d' ∧ foot d' = foot d := by
  obtain ⟨e1, e2, e3, e4, e5⟩ := e
  obtain ⟨p, q, size, secs, waits, deeds, fused, fuse, dark⟩ := d'
  simp only at e1 e2 e3 e4 e5
  subst e1 e2 e3 e4 e5
  have hne : ∀ k, Bytes w k → k ≠ d.p := fun k hb e => (h.plain foot_p).2 (e ▸ hb)
  have hq : d.q ≠ d.p := fun e => by
    have h1 := h.top
    have h2 := h.sec
    unfold Whole at h1 h2
    rw [e, h1] at h2
    simp at h2
  refine ⟨⟨hp, (hk _ hq).trans h.sec, fun s hs => (h.ok s hs).of_heap (fun k e => hk k fun e' => ?_) (fun k hb => hk k (hne k hb)), h.apart, h.few, h.small⟩, rfl⟩
  subst e'
  obtain ⟨cur, hc⟩ := row_kind (h.ok s hs).wrow e
  have h1 := h.top
  unfold Whole at h1
  rw [h1] at hc
  simp at hc
end
end Go.Proofs.Ytlkkfnimealbkaa

/- The disk: what is told of it, the deed, the fuse. -/
namespace Go.Proofs.Ytlkkfnimealbkaa
open Go.RowKit

section
variable {w : World} {d : Dsk}
theorem DiskAt.c (h : DiskAt w d) (i : Nat) : w.cell? ⟨d.p, i, none⟩ = (dcells d)[i]? := Whole.cell h.top i
theorem DiskAt.f (h : DiskAt w d) (i : Nat) : w.frozen? ⟨d.p, i, none⟩ = false := Whole.frozen h.top i
theorem DiskAt.lt (h : DiskAt w d) : d.p < w.heap.size := h.top.lt
end
/-- the bounds of the numbers. -/
structure Low (d : Dsk) : Prop where
  waits : d.waits ≤ 1000000
  deeds : d.deeds ≤ 4611686018427387904
  fuse : d.fuse ≤ 9223372036854775807

theorem lit_nil (w : World) : Calls Try.prog 33 #[.pointer none] w fun e w' => e = .returned (.int .i64 2) ∧ w' = w := by
  go_enter Try.func33, Try.ntmps33
  go_wp2_with fail
  go_ret
  exact ⟨rfl, rfl⟩
def litOf (d : Dsk) : Int := if d.dark then 17 else 0
theorem lit_at {w : World} {d : Dsk} (h : DiskAt w d) : Calls Try.prog 33 #[.pointer (some ⟨d.p, 0, none⟩)] w fun e w' => e = .returned (.int .i64 (litOf d)) ∧ w' = w := by
  have c6 := h.c 6
  simp only [dcells, List.getElem?_toArray, List.getElem?_cons_zero, List.getElem?_cons_succ] at c6
  unfold litOf
  generalize d.dark = b at *
  cases b <;>
  · clear h
    go_enter Try.func33, Try.ntmps33
    go_wp2_with fail
    go_ret
    exact ⟨rfl, rfl⟩

/-- what takes says. -/
def takesOf (d : Dsk) (i n : Int) : Int := if d.dark then 17 else if i < 0 ∨ (d.secs.length : Int) ≤ i ∨ (d.size : Int) < n then 1 else 0
theorem takes_nil (i n : Int) (w : World) : Calls Try.prog 27 #[.pointer none, .int .i64 i, .int .i64 n] w fun e w' => e = .returned (.int .i64 2) ∧ w' = w := by
  go_enter Try.func27, Try.ntmps27
  go_wp2_with fail
  refine (lit_nil _).mono ?_
  rintro e w1 ⟨rfl, rfl⟩
  go_wp2_with fail
  go_ret
  exact ⟨rfl, rfl⟩
theorem takes_at {w : World} {d : Dsk} (h : DiskAt w d) (i n : Int) : Calls Try.prog 27 #[.pointer (some ⟨d.p, 0, none⟩), .int .i64 i, .int .i64 n] w fun e w' => e = .returned (.int .i64 (takesOf d i n)) ∧ w' = w := by
  have c0 := h.c 0
  have c1 := h.c 1
  simp only [dcells, List.getElem?_toArray, List.getElem?_cons_zero, List.getElem?_cons_succ] at c0 c1
  have L := Lib.hid (lit_at h)
  unfold takesOf
  unfold litOf at L
  have hfew := h.few
  have hsm := h.small
  generalize d.dark = b at *
  generalize d.secs.length = n0 at *
  clear h
  cases b with
  | true =>
    go_enter Try.func27, Try.ntmps27
    go_wp2_with fail
    refine L.out.mono ?_
    rintro e w1 ⟨rfl, rfl⟩
    go_wp2_with fail
    go_ret
    exact ⟨rfl, rfl⟩
  | false =>
    by_cases h1 : i < 0
    · go_enter Try.func27, Try.ntmps27
      go_wp2_with fail
      refine L.out.mono ?_
      rintro e w1 ⟨rfl, rfl⟩
      go_wp2_with fail
      go_ret
      exact ⟨by simp, rfl⟩
    · by_cases h2 : (n0 : Int) ≤ i
      · go_enter Try.func27, Try.ntmps27
        go_wp2_with fail
        refine L.out.mono ?_
        rintro e w1 ⟨rfl, rfl⟩
        go_wp2_with fail
        go_ret
        exact ⟨by simp, rfl⟩
      · by_cases h3 : (d.size : Int) < n
        · go_enter Try.func27, Try.ntmps27
          go_wp2_with fail
          refine L.out.mono ?_
          rintro e w1 ⟨rfl, rfl⟩
          go_wp2_with fail
          go_ret
          exact ⟨by simp, rfl⟩
        · have e0 : ¬ (i < 0 ∨ (n0 : Int) ≤ i ∨ (d.size : Int) < n) := by omega
          simp only [e0, if_false, Bool.false_eq_true]
          clear e0
          go_enter Try.func27, Try.ntmps27
          go_wp2_with fail
          refine L.out.mono ?_
          rintro e w1 ⟨rfl, rfl⟩
          go_wp2_with fail
          go_ret
          exact ⟨rfl, rfl⟩

/-- is the fuse over? -/
def blown (d : Dsk) : Bool := d.fused && decide (d.fuse = 0)
def deedOf (d : Dsk) : Dsk := if blown d then { d with dark := true } else { d with deeds := d.deeds + 1, fuse := if d.fused then d.fuse - 1 else d.fuse }
theorem heap_set_other (w : World) (p i : Nat) (u : Value) (k : Nat) (h : k ≠ p) : (w.setCell ⟨p, i, none⟩ u).heap[k]? = w.heap[k]? := Below.heap_setCell w ⟨p, i, none⟩ u k h
theorem Touch.one {w : World} {p i : Nat} {u : Value} {F : List Nat} (h : p ∈ F) : Touch F w (w.setCell ⟨p, i, none⟩ u) := (Touch.refl F w).setCell (.inl h) u
theorem deed_at {w : World} {d : Dsk} (h : DiskAt w d) (hl : Low d) : Calls Try.prog 30 #[.pointer (some ⟨d.p, 0, none⟩)] w fun e w' => e = .returned (.int .i64 (if blown d then 17 else 0)) ∧ DiskAt w' (deedOf d) ∧ foot (deedOf d) = foot d ∧ Touch (foot d) w w' := by
  have c3 := h.c 3
  have c4 := h.c 4
  have c5 := h.c 5
  have c6 := h.c 6
  have f3 := h.f 3
  have f4 := h.f 4
  have f5 := h.f 5
  have f6 := h.f 6
  simp only [dcells, List.getElem?_toArray, List.getElem?_cons_zero, List.getElem?_cons_succ] at c3 c4 c5 c6
  have hd1 := hl.deeds
  have hf1 := hl.fuse
  have H := Lib.hid h
  clear h hl
  rcases hfu : d.fused with _ | _
  · rw [hfu] at c4
    have hb : blown d = false := by simp [blown, hfu]
    simp only [hb, if_false, Bool.false_eq_true]
    have HB := Lib.hid hb
    clear hb
    have HF := Lib.hid hfu
    clear hfu
    go_enter Try.func30, Try.ntmps30
    go_wp2_with fail
    go_ret
    refine ⟨rfl, ?_⟩
    have e : deedOf d = { d with deeds := d.deeds + 1 } := by unfold deedOf; rw [HB.out, HF.out]; rfl
    rw [e]
    obtain ⟨h1, h2⟩ := H.out.turn (w' := w.setCell ⟨d.p, 3, none⟩ (.int .i64 (d.deeds + 1))) (d' := { d with deeds := d.deeds + 1 }) (H.out.top.set_ 3 _) (fun k hk => heap_set_other _ _ _ _ _ hk) ⟨rfl, rfl, rfl, rfl, rfl⟩
    exact ⟨h1, h2, Touch.one foot_p⟩
  · rw [hfu] at c4
    have HF := Lib.hid hfu
    clear hfu
    by_cases h0 : d.fuse = 0
    · have hb : blown d = true := by simp [blown, HF.out, h0]
      simp only [hb, if_true]
      have HB := Lib.hid hb
      clear hb
      have h0' : (d.fuse : Int) = 0 := by omega
      rw [h0'] at c5
      clear h0' h0
      go_enter Try.func30, Try.ntmps30
      go_wp2_with fail
      go_ret
      refine ⟨rfl, ?_⟩
      have e : deedOf d = { d with dark := true } := by unfold deedOf; rw [HB.out]; rfl
      rw [e]
      obtain ⟨h1, h2⟩ := H.out.turn (w' := w.setCell ⟨d.p, 6, none⟩ (.bool true)) (d' := { d with dark := true }) (H.out.top.set_ 6 _) (fun k hk => heap_set_other _ _ _ _ _ hk) ⟨rfl, rfl, rfl, rfl, rfl⟩
      exact ⟨h1, h2, Touch.one foot_p⟩
    · have hb : blown d = false := by simp [blown, h0]
      simp only [hb, if_false, Bool.false_eq_true]
      have HB := Lib.hid hb
      clear hb
      have h0' : ¬ (d.fuse : Int) = 0 := by omega
      have hcast : ((d.fuse - 1 : Nat) : Int) = (d.fuse : Int) - 1 := by omega
      have HC := Lib.hid hcast
      clear hcast
      have k3 := H.out.top.set_ 5 (.int .i64 ((d.fuse : Int) - 1))
      have k3c := Whole.cell k3 3
      have k3f := Whole.frozen k3 3
      rw [show ((dcells d).setIfInBounds 5 (.int .i64 ((d.fuse : Int) - 1)))[3]? = some (.int .i64 d.deeds) from rfl] at k3c
      clear k3
      go_enter Try.func30, Try.ntmps30
      go_wp2_with fail
      go_ret
      refine ⟨rfl, ?_⟩
      have e : deedOf d = { d with deeds := d.deeds + 1, fuse := d.fuse - 1 } := by unfold deedOf; rw [HB.out, HF.out]; rfl
      rw [e]
      have k5 := (H.out.top.set_ 5 (.int .i64 ((d.fuse : Int) - 1))).set_ 3 (.int .i64 (d.deeds + 1))
      rw [← HC.out] at k5 ⊢
      obtain ⟨h1, h2⟩ := H.out.turn (d' := { d with deeds := d.deeds + 1, fuse := d.fuse - 1 }) k5 (fun k hk => (heap_set_other _ _ _ _ _ hk).trans (heap_set_other _ _ _ _ _ hk)) ⟨rfl, rfl, rfl, rfl, rfl⟩
      exact ⟨h1, h2, (Touch.one foot_p).setCell (.inl foot_p) _⟩
end Go.Proofs.Ytlkkfnimealbkaa

/- The disk: what is told of it, Fuse; of a nil disk. -/
namespace Go.Proofs.Ytlkkfnimealbkaa
open Go.RowKit

def fuseOf (d : Dsk) (n : Int) : Dsk := { d with fused := decide (0 ≤ n), fuse := n.toNat }
theorem fuse_nil (n : Int) (w : World) : Calls Try.prog 19 #[.pointer none, .int .i64 n] w fun e w' => (∃ v, e = .returned v) ∧ w' = w := by
  go_enter Try.func19, Try.ntmps19
  go_wp2_with fail
  refine bodyPost_ret (results_none rfl _ _ _) rfl ?_
  exact ⟨⟨_, rfl⟩, rfl⟩
theorem fuse_at {w : World} {d : Dsk} (h : DiskAt w d) (n : Int) : Calls Try.prog 19 #[.pointer (some ⟨d.p, 0, none⟩), .int .i64 n] w fun e w' => (∃ v, e = .returned v) ∧ DiskAt w' (fuseOf d n) ∧ foot (fuseOf d n) = foot d ∧ Touch (foot d) w w' := by
  have c4 := h.c 4
  have f4 := h.f 4
  by_cases h0 : 0 ≤ n
  · by_cases h1 : n = 0
    · subst h1
      have k := h.top.set_ 4 (.bool true)
      have k5 := Whole.cell k 5
      have f5 := Whole.frozen k 5
      rw [show ((dcells d).setIfInBounds 4 (.bool true))[5]? = some (.int .i64 d.fuse) from rfl] at k5
      simp only [dcells, List.getElem?_toArray, List.getElem?_cons_zero, List.getElem?_cons_succ] at c4
      have H := Lib.hid h
      have K := Lib.hid k
      have HE : Hid (fuseOf d 0 = { d with fused := true, fuse := 0 } ∧ ((0 : Nat) : Int) = 0) := Lib.hid ⟨rfl, rfl⟩
      clear h k
      go_enter Try.func19, Try.ntmps19
      go_wp2_with fail
      go_end0
      refine ⟨⟨_, rfl⟩, ?_⟩
      have k5 := K.out.set_ 5 (.int .i64 0)
      rw [HE.out.1]
      obtain ⟨h1, h2⟩ := H.out.turn (d' := { d with fused := true, fuse := 0 }) k5 (fun k hk => (heap_set_other _ _ _ _ _ hk).trans (heap_set_other _ _ _ _ _ hk)) ⟨rfl, rfl, rfl, rfl, rfl⟩
      exact ⟨h1, h2, (Touch.one foot_p).setCell (.inl foot_p) _⟩

    · have h2 : 0 < n := by omega
      have k := h.top.set_ 4 (.bool true)
      have k5 := Whole.cell k 5
      have f5 := Whole.frozen k 5
      rw [show ((dcells d).setIfInBounds 4 (.bool true))[5]? = some (.int .i64 d.fuse) from rfl] at k5
      simp only [dcells, List.getElem?_toArray, List.getElem?_cons_zero, List.getElem?_cons_succ] at c4
      have H := Lib.hid h
      have K := Lib.hid k
      have HE : Hid (fuseOf d n = { d with fused := true, fuse := n.toNat } ∧ ((n.toNat : Nat) : Int) = n) := Lib.hid ⟨by unfold fuseOf; rw [decide_eq_true h0], by omega⟩
      clear h k
      go_enter Try.func19, Try.ntmps19
      go_wp2_with fail
      go_end0
      refine ⟨⟨_, rfl⟩, ?_⟩
      have k5 := K.out.set_ 5 (.int .i64 n)
      rw [HE.out.1]
      rw [← HE.out.2] at k5 ⊢
      obtain ⟨h1, h2⟩ := H.out.turn (d' := { d with fused := true, fuse := n.toNat }) k5 (fun k hk => (heap_set_other _ _ _ _ _ hk).trans (heap_set_other _ _ _ _ _ hk)) ⟨rfl, rfl, rfl, rfl, rfl⟩
      exact ⟨h1, h2, (Touch.one foot_p).setCell (.inl foot_p) _⟩

  · have h2 : n < 0 := by omega
    have k := h.top.set_ 4 (.bool false)
    have k5 := Whole.cell k 5
    have f5 := Whole.frozen k 5
    rw [show ((dcells d).setIfInBounds 4 (.bool false))[5]? = some (.int .i64 d.fuse) from rfl] at k5
    simp only [dcells, List.getElem?_toArray, List.getElem?_cons_zero, List.getElem?_cons_succ] at c4
    have H := Lib.hid h
    have K := Lib.hid k
    have HE : Hid (fuseOf d n = { d with fused := false, fuse := n.toNat } ∧ ((n.toNat : Nat) : Int) = 0) := Lib.hid ⟨by unfold fuseOf; rw [decide_eq_false h0], by omega⟩
    clear h k
    go_enter Try.func19, Try.ntmps19
    go_wp2_with fail
    go_end0
    refine ⟨⟨_, rfl⟩, ?_⟩
    have k5 := K.out.set_ 5 (.int .i64 0)
    rw [HE.out.1]
    rw [← HE.out.2] at k5 ⊢
    obtain ⟨h1, h2⟩ := H.out.turn (d' := { d with fused := false, fuse := n.toNat }) k5 (fun k hk => (heap_set_other _ _ _ _ _ hk).trans (heap_set_other _ _ _ _ _ hk)) ⟨rfl, rfl, rfl, rfl, rfl⟩
    exact ⟨h1, h2, (Touch.one foot_p).setCell (.inl foot_p) _⟩
theorem waits_nil (w : World) : Calls Try.prog 12 #[.pointer none] w fun e w' => e = .returned (.int .i64 0) ∧ w' = w := by
  go_enter Try.func12, Try.ntmps12
  go_wp2_with fail
  go_ret
  exact ⟨rfl, rfl⟩
theorem waits_at {w : World} {d : Dsk} (h : DiskAt w d) : Calls Try.prog 12 #[.pointer (some ⟨d.p, 0, none⟩)] w fun e w' => e = .returned (.int .i64 (d.waits : Nat)) ∧ w' = w := by
  have c := h.c 2
  simp only [dcells, List.getElem?_toArray, List.getElem?_cons_zero, List.getElem?_cons_succ] at c
  clear h
  go_enter Try.func12, Try.ntmps12
  go_wp2_with fail
  go_ret
  exact ⟨rfl, rfl⟩
theorem size_nil (w : World) : Calls Try.prog 24 #[.pointer none] w fun e w' => e = .returned (.int .i64 0) ∧ w' = w := by
  go_enter Try.func24, Try.ntmps24
  go_wp2_with fail
  go_ret
  exact ⟨rfl, rfl⟩
theorem size_at {w : World} {d : Dsk} (h : DiskAt w d) : Calls Try.prog 24 #[.pointer (some ⟨d.p, 0, none⟩)] w fun e w' => e = .returned (.int .i64 (d.size : Nat)) ∧ w' = w := by
  have c := h.c 0
  simp only [dcells, List.getElem?_toArray, List.getElem?_cons_zero] at c
  clear h
  go_enter Try.func24, Try.ntmps24
  go_wp2_with fail
  go_ret
  exact ⟨rfl, rfl⟩
theorem sectors_nil (w : World) : Calls Try.prog 22 #[.pointer none] w fun e w' => e = .returned (.int .i64 0) ∧ w' = w := by
  go_enter Try.func22, Try.ntmps22
  go_wp2_with fail
  go_ret
  exact ⟨rfl, rfl⟩
theorem sectors_at {w : World} {d : Dsk} (h : DiskAt w d) : Calls Try.prog 22 #[.pointer (some ⟨d.p, 0, none⟩)] w fun e w' => e = .returned (.int .i64 (d.secs.length : Nat)) ∧ w' = w := by
  have c := h.c 1
  simp only [dcells, List.getElem?_toArray, List.getElem?_cons_zero, List.getElem?_cons_succ] at c
  clear h
  go_enter Try.func22, Try.ntmps22
  go_wp2_with fail
  go_ret
  exact ⟨rfl, rfl⟩
end Go.Proofs.Ytlkkfnimealbkaa

/- New: the disk of zeros; and slices of bytes that are made. -/
namespace Go.Proofs.Ytlkkfnimealbkaa
open Go.RowKit

def zeros (n : Nat) : List UInt8 := List.replicate n 0
theorem zeros_enc (n : Nat) : (encB (zeros n)).toArray = Array.replicate n (.int .u8 0) := by
  simp [encB, zeros]
/-- a slice of bytes that is made. -/
theorem make_bytes (n : Nat) (z : Int) (hz : z = n) (hn : n ≤ 100000) (W : World) :
    Sem.run Try.prog (Instr.makeSlice 35 (.int .i64 z) (.int .i64 z)) W = .ok (.slice (some ⟨W.heap.size, 0, none⟩) n n) (W.alloc (.cells (encB (zeros n)).toArray 5)) := by
  subst hz
  have h := info5
  cases hi : Try.prog.info? 5 with
  | none => rw [hi] at h; simp at h
  | some i =>
    rw [hi] at h
    simp at h
    obtain ⟨h1, h2, h3⟩ := h
    have := run_make (P := Try.prog) W 35 5 i _ Try.underlying35 hi h1 .i64 .i64 (n : Int) (n : Int) (by omega) (by omega) (by rw [h3]; omega) (by omega)
    rw [this, h2, zeros_enc]
    have e : madeCells (Value.int .u8 0).cells (n * 1) = Array.replicate n (.int .u8 0) := by
      apply Array.ext
      · simp [madeCells]
      · intro i h1 h2
        simp [madeCells, Value.cells, Nat.mod_one]
    rw [show ((n : Int)).toNat = n by omega, e]

def sec0 : Sec := ⟨none, 0, [], .slice none 0 0, []⟩
theorem encS_zero : ∀ n : Nat, encS (List.replicate n sec0) = List.replicate (n * 2) (.slice none 0 0)
  | 0 => rfl
  | n + 1 => by
    have := encS_zero n
    have e : ∀ (y : Sec) (xs : List Sec), encS (y :: xs) = y.lv :: y.wv :: encS xs := fun y xs => rfl
    rw [List.replicate_succ, e, this, show (n + 1) * 2 = n * 2 + 1 + 1 by omega, List.replicate_succ, List.replicate_succ]
    rfl
theorem infoS : (Try.prog.info? 66).map (fun i => (i.zero.map (fun z => z.cells), i.size, decide (i.bytes ≤ 1000))) = some (some #[.slice none 0 0, .slice none 0 0], 2, true) := by kernel_rfl
theorem make_secs (n : Nat) (z : Int) (hz : z = n) (hn : n ≤ 100000) (W : World) :
    Sem.run Try.prog (Instr.makeSlice 51 (.int .i64 z) (.int .i64 z)) W = .ok (.slice (some ⟨W.heap.size, 0, none⟩) n n) (W.alloc (.cells (encS (List.replicate n sec0)).toArray 66)) := by
  subst hz
  have h := infoS
  cases hi : Try.prog.info? 66 with
  | none => rw [hi] at h; simp at h
  | some i =>
    rw [hi] at h
    simp at h
    obtain ⟨⟨z, hz, h1⟩, h2, h3⟩ := h
    have hb : (i.bytes : Int) * (n : Int) ≤ 1000 * 100000 := Int.mul_le_mul (by omega) (by omega) (by omega) (by omega)
    have := run_make (P := Try.prog) W 51 66 i z Try.underlying51 hi hz .i64 .i64 (n : Int) (n : Int) (by omega) (by omega) (by omega) (by omega)
    rw [this, h2, encS_zero, h1]
    have e : madeCells #[Value.slice none 0 0, .slice none 0 0] (n * 2) = (List.replicate (n * 2) (Value.slice none 0 0)).toArray := by
      apply Array.ext
      · simp [madeCells]
      · intro i h1 h2
        have : i % 2 = 0 ∨ i % 2 = 1 := by omega
        rcases this with h | h <;> simp [madeCells, h]
    rw [show ((n : Int)).toNat = n by omega, e]

/-- the disk that New makes. -/
def newD (p q sectors size : Nat) : Dsk := ⟨p, q, size, List.replicate sectors sec0, 0, 0, false, 0, false⟩
theorem newD_at {w : World} {p q sectors size : Nat} (hp : Whole w p 53 (dcells (newD p q sectors size))) (hq : Whole w q 66 (encS (List.replicate sectors sec0)).toArray) (h1 : sectors ≤ 600) (h2 : size ≤ 1024) : DiskAt w (newD p q sectors size) := by
  refine ⟨hp, hq, ?_, ?_, by simpa [newD] using h1, h2⟩
  · intro s hs
    have : s = sec0 := by simp [newD] at hs; exact hs.2
    subst this
    exact ⟨Row.nil _ _, Nat.zero_le _, WRow.nil _, Nat.zero_le _, fun x hx => absurd hx (by simp [sec0])⟩
  · intro i j hi hj k hk
    have : ((newD p q sectors size).secs[i]'hi) = sec0 := by simp [newD]
    rw [this] at hk
    simp [sec0, Value.ownBlock] at hk
def badNew (sectors size : Int) : Prop := sectors < 1 ∨ 600 < sectors ∨ size < 64 ∨ 1024 < size
theorem new_bad (a b : Int) (w : World) (h : badNew a b) : Calls Try.prog 7 #[.int .i64 a, .int .i64 b] w fun e w' => e = .returned (.tuple #[.pointer none, .int .i64 1]) ∧ w' = w := by
  unfold badNew at h
  by_cases h1 : a < 1
  · clear h
    go_enter Try.func7, Try.ntmps7
    go_wp2_with fail
    go_ret2
    exact ⟨rfl, rfl⟩
  · by_cases h2 : 600 < a
    · clear h
      go_enter Try.func7, Try.ntmps7
      go_wp2_with fail
      go_ret2
      exact ⟨rfl, rfl⟩
    · by_cases h3 : b < 64
      · clear h
        go_enter Try.func7, Try.ntmps7
        go_wp2_with fail
        go_ret2
        exact ⟨rfl, rfl⟩
      · have h4 : 1024 < b := by omega
        clear h
        go_enter Try.func7, Try.ntmps7
        go_wp2_with fail
        go_ret2
        exact ⟨rfl, rfl⟩
theorem new_good (a b : Nat) (w : World) (h1 : 1 ≤ a) (h2 : a ≤ 600) (h3 : 64 ≤ b) (h4 : b ≤ 1024) : Calls Try.prog 7 #[.int .i64 (a : Nat), .int .i64 (b : Nat)] w fun e w' => ∃ p, e = .returned (.tuple #[.pointer (some ⟨p, 0, none⟩), .int .i64 0]) ∧ ∃ q, DiskAt w' (newD p q a b) ∧ (∀ k ∈ foot (newD p q a b), w.heap.size ≤ k) ∧ Below w.heap.size w w' := by
  have MK := fun W => make_secs a a rfl (by omega) W
  have q1 : ¬ (a : Int) < 1 := by omega
  have q2 : ¬ (600 : Int) < (a : Int) := by omega
  have q3 : ¬ (b : Int) < 64 := by omega
  have q4 : ¬ (1024 : Int) < (b : Int) := by omega
  have W1 := Whole.new w 66 (encS (List.replicate a sec0)).toArray
  have b1 : Below w.heap.size w (w.alloc (.cells (encS (List.replicate a sec0)).toArray 66)) := (Below.refl _ _).alloc (Nat.le_refl _) _
  have hsz : (w.alloc (.cells (encS (List.replicate a sec0)).toArray 66)).heap.size = w.heap.size + 1 := by simp
  generalize hW1 : w.alloc (.cells (encS (List.replicate a sec0)).toArray 66) = w1 at *
  have H1 := Lib.hid W1
  have B1 := Lib.hid b1
  have HZ := Lib.hid hsz
  clear W1 b1 hsz
  go_enter Try.func7, Try.ntmps7
  go_wp2_with fail
  go_ret2
  have hd : dcells (newD w1.heap.size w.heap.size a b) = #[.int .i64 b, .slice (some ⟨w.heap.size, 0, none⟩) a a, .int .i64 0, .int .i64 0, .bool false, .int .i64 0, .bool false] := by simp [dcells, newD]
  refine ⟨w1.heap.size, rfl, w.heap.size, newD_at ?_ (H1.out.alloc _) h2 h4, ?_, below_next B1.out ((Below.refl _ _).alloc (Nat.le_refl _) _)⟩
  · rw [hd]
    exact Whole.new _ _ _
  · intro k hk
    have hz := HZ.out
    rcases foot_cases hk with rfl | rfl | ⟨s, hs, e⟩
    · simp only [newD]; omega
    · exact Nat.le_refl _
    · have : s = sec0 := by simp [newD] at hs; exact hs.2
      subst this
      simp [sec0, Value.ownBlock] at e
end Go.Proofs.Ytlkkfnimealbkaa
