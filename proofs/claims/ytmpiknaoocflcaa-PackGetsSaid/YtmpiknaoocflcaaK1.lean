/- Bytes in memory: blocks, slices that are read, rows of the call's own; append, bytes.Clone, Same. -/
import Derived.Test.YtmpiknaoocflcaaRows
import Derived.WalkKit
import Derived.ProofKit
import Derived.OpenShut
import Derived.IntWalk
import Derived.Lib.Hide
import Derived.Below
import Derived.Laws.OwnMore
import Derived.Laws.BitsAll
import Derived.Laws.CopyOwn
import Derived.Laws.BytesArg
import Derived.Lib.AppendZeros
import Derived.Lib.AppendStr
import Derived.Lib.EndianBits
import Derived.Maps.AppendAt
import Derived.ArgAppend
import Derived.WalkLawsBesides
import Derived.Deep.AppendLies
import Derived.Deep.Draws
import Derived.Deep.DeepCutAuto
import Derived.Deep.RegionHeld3
import Derived.Deep.RegionWith
import Derived.Deep.QuietTactic
import Derived.BigQuiet
import Derived.Handy
namespace Go.Proofs.Ytmpiknaoocflcaa
open Go.RowKit

/-! a block that is known whole -/
def Whole (w : World) (g : Nat) (t : TypeId) (cs : Array Value) : Prop := w.heap[g]? = some (.cells cs t (0, 0))
section
variable {w w' : World} {g : Nat} {t : TypeId} {cs : Array Value}
theorem Whole.lt (h : Whole w g t cs) : g < w.heap.size := by
  rcases Nat.lt_or_ge g w.heap.size with hlt | hge
  · exact hlt
  · unfold Whole at h; rw [Array.getElem?_eq_none hge] at h; cases h
theorem Whole.cell (h : Whole w g t cs) (i : Nat) : w.cell? ⟨g, i, none⟩ = cs[i]? := cell_of_row w g i cs t (0, 0) h
theorem Whole.frozen (h : Whole w g t cs) (i : Nat) : w.frozen? ⟨g, i, none⟩ = false := by
  unfold Whole at h
  simp [World.frozen?, h]
theorem Whole.new (w : World) (t : TypeId) (cs : Array Value) : Whole (w.alloc (.cells cs t)) w.heap.size t cs := heap_alloc_new w _
theorem Whole.drew (h : Whole w g t cs) : Whole w.drew g t cs := h
theorem Whole.alloc (h : Whole w g t cs) (o : Obj) : Whole (w.alloc o) g t cs := (Below.heap_alloc w o g h.lt).trans h
theorem Whole.set_ (h : Whole w g t cs) (i : Nat) (u : Value) : Whole (w.setCell ⟨g, i, none⟩ u) g t (cs.setIfInBounds i u) := by
  unfold Whole at h ⊢
  simp [World.setCell, Array.getElem?_modify, h]
theorem Whole.far (h : Whole w g t cs) {p : Addr} (hp : g ≠ p.block) (u : Value) : Whole (w.setCell p u) g t cs := (Below.heap_setCell w p u g hp).trans h
theorem Whole.below {B : Nat} (h : Whole w g t cs) (hb : Below B w w') (hg : g < B) : Whole w' g t cs := (hb.block g hg).trans h
end


/-- a slice's bytes, as they are read. -/
def Holds (w : World) (A : Option Addr) (l : List UInt8) : Prop :=
  ∀ i (h : i < l.length), ∃ b o, A = some ⟨b, o, none⟩ ∧ b < w.heap.size ∧ w.cell? ⟨b, o + i, none⟩ = some (.int .u8 (l[i].toNat : Nat))
theorem Holds.below {w w' : World} {A : Option Addr} {l : List UInt8} (h : Holds w A l) (hb : Below w.heap.size w w') : Holds w' A l := fun i hi => by
  obtain ⟨b, o, e, hlt, hc⟩ := h i hi
  exact ⟨b, o, e, Nat.lt_of_lt_of_le hlt hb.size, (hb.cell (p := ⟨b, o + i, none⟩) hlt).trans hc⟩
theorem Holds.nil (w : World) (A : Option Addr) : Holds w A [] := fun i h => absurd h (by simp)
theorem Holds.take {w : World} {A : Option Addr} {l : List UInt8} (h : Holds w A l) (k : Nat) : Holds w A (l.take k) := fun i hi => by
  have hl : i < l.length := by rw [List.length_take] at hi; omega
  obtain ⟨b, o, e, hlt, hc⟩ := h i hl
  exact ⟨b, o, e, hlt, by rw [hc]; simp⟩
theorem Holds.drop {w : World} {A : Option Addr} {l : List UInt8} (h : Holds w A l) (k c : Nat) (hc : l.length ≤ c) : Holds w (if c = k then A else A.map (·.add k)) (l.drop k) := fun i hi => by
  rw [List.length_drop] at hi
  obtain ⟨b, o, e, hlt, hcell⟩ := h (k + i) (by omega)
  rw [if_neg (by omega)]
  subst e
  refine ⟨b, o + k, by simp [Addr.add_lit], hlt, ?_⟩
  rw [Nat.add_assoc, hcell]
  simp
theorem Holds.at_ {w : World} {A : Option Addr} {P R : List UInt8} {x : UInt8} (h : Holds w A (P ++ x :: R)) : ∃ b o, A = some ⟨b, o, none⟩ ∧ b < w.heap.size ∧ w.cell? ⟨b, o + P.length, none⟩ = some (.int .u8 (x.toNat : Nat)) := by
  have := h P.length (by simp)
  simpa using this


theorem below_drewN {B : Nat} {a w : World} (h : Below B a w) (n : Nat) : Below B a (w.drewN n) := ⟨h.os, h.tape, h.output, h.size, h.block⟩

def encB (l : List UInt8) : List Value := l.map fun b => .int .u8 (b.toNat : Nat)
theorem encB_length (l : List UInt8) : (encB l).length = l.length := by simp [encB]
theorem encB_append (l r : List UInt8) : encB (l ++ r) = encB l ++ encB r := by simp [encB]
theorem encB_one (l : List UInt8) : ∀ v ∈ encB l, v.oneCell' = true := by
  intro v hv
  simp only [encB, List.mem_map] at hv
  obtain ⟨b, _, rfl⟩ := hv
  rfl
theorem encB_at (l : List UInt8) (i : Nat) (h : i < l.length) : (encB l)[i]? = some (.int .u8 (l[i].toNat : Nat)) := by simp [encB, h]
/-- block g holds just these bytes. -/
def BB (w : World) (g : Nat) (l : List UInt8) : Prop := Whole w g 5 (encB l).toArray
theorem BB.lt {w : World} {g : Nat} {l : List UInt8} (h : BB w g l) : g < w.heap.size := Whole.lt h
theorem BB.cell {w : World} {g : Nat} {l : List UInt8} (h : BB w g l) (i : Nat) (hi : i < l.length) : w.cell? ⟨g, i, none⟩ = some (.int .u8 (l[i].toNat : Nat)) := by
  rw [Whole.cell h]; simpa using encB_at l i hi
theorem BB.frozen {w : World} {g : Nat} {l : List UInt8} (h : BB w g l) (i : Nat) : w.frozen? ⟨g, i, none⟩ = false := Whole.frozen h i
theorem BB.holds {w : World} {g : Nat} {l : List UInt8} (h : BB w g l) (o : Nat) : Holds w (some ⟨g, o, none⟩) (l.drop o) := fun i hi => by
  rw [List.length_drop] at hi
  refine ⟨g, o, rfl, h.lt, ?_⟩
  rw [h.cell (o + i) (by omega)]
  simp
theorem BB.holds0 {w : World} {g : Nat} {l : List UInt8} (h : BB w g l) : Holds w (some ⟨g, 0, none⟩) l := by simpa using h.holds 0
theorem BB.below {w w' : World} {g : Nat} {l : List UInt8} (h : BB w g l) (hb : Below w.heap.size w w') : BB w' g l := Whole.below h hb h.lt
theorem BB.drew {w : World} {g : Nat} {l : List UInt8} (h : BB w g l) : BB w.drew g l := h


theorem below_next {w W w' : World} (h : Below w.heap.size w W) (hb : Below W.heap.size W w') : Below w.heap.size w w' := h.trans (hb.mono h.size)


theorem info5 : (Try.prog.info? 5).map (fun i => (i.zero, i.size, i.bytes)) = some (some (.int .u8 0), 1, 1) := by kernel_rfl

/-- v is a slice of the call's own (no block below base), of just these bytes. -/
def Row (w : World) (base : Nat) (v : Value) (l : List UInt8) : Prop := w.ownsRow base 5 1 v l.length (encB l)
theorem Row.shape {w : World} {base : Nat} {v : Value} {l : List UInt8} (h : Row w base v l) : ∃ A c, v = .slice A l.length c ∧ Holds w A l ∧ l.length ≤ c ∧ c ≤ maxLen := by
  obtain ⟨_, h2⟩ := h
  rcases h2 with ⟨rfl, h0⟩ | ⟨g, cap, cur, rfl, hb, hh, hn, hm, hs, ht⟩
  · exact ⟨none, 0, by rw [h0], by rw [List.eq_nil_of_length_eq_zero h0]; exact Holds.nil _ _, by omega, Nat.zero_le _⟩
  · refine ⟨_, cap, rfl, fun i hi => ⟨g, 0, rfl, ?_, ?_⟩, hn, hm⟩
    · exact (Array.getElem?_eq_some_iff.1 hh).1
    · rw [Nat.zero_add, cell_of_row w g i cur 5 (0, 0) hh, ← encB_at l i hi, ← ht]
      rw [List.getElem?_take, if_pos (by omega)]
      simp
theorem Row.below {w w' : World} {base : Nat} {v : Value} {l : List UInt8} (h : Row w base v l) (hb : Below w.heap.size w w') : Row w' base v l := by
  obtain ⟨h1, h2⟩ := h
  refine ⟨h1, h2.imp id ?_⟩
  rintro ⟨g, cap, cur, hv, hg, hh, r⟩
  exact ⟨g, cap, cur, hv, hg, (hb.block g (Array.getElem?_eq_some_iff.1 hh).1).trans hh, r⟩
theorem Row.drew {w : World} {base : Nat} {v : Value} {l : List UInt8} (h : Row w base v l) : Row w.drew base v l := h
theorem Row.of_block {w : World} {g base : Nat} {l : List UInt8} (h : BB w g l) (hb : base ≤ g) (hl : l.length ≤ maxLen) : Row w base (.slice (some ⟨g, 0, none⟩) l.length l.length) l :=
  ⟨by simp [encB], .inr ⟨g, l.length, _, rfl, hb, h, Nat.le_refl _, hl, by simp [encB], by rw [Nat.mul_one]; exact List.take_of_length_le (by simp [encB])⟩⟩
theorem Row.block {w : World} {base : Nat} {v : Value} {l : List UInt8} (h : Row w base v l) : ∀ k, v.ownBlock = some k → base ≤ k := by
  rcases h.2 with ⟨rfl, _⟩ | ⟨g, cap, cur, rfl, hb, _⟩
  · intro k e; simp [Value.ownBlock] at e
  · intro k e; simp [Value.ownBlock] at e; omega
/-- what grows in a row of the call's own leaves the rest. -/
theorem below_grown {w0 w w' : World} {v : Value} (hb : Below w0.heap.size w0 w) (hg : w.grownBy w' v.ownBlock) (hv : ∀ k, v.ownBlock = some k → w0.heap.size ≤ k) : Below w0.heap.size w0 w' :=
  ⟨hg.os.trans hb.os, hg.tape.trans hb.tape, hg.output.trans hb.output, Nat.le_trans hb.size hg.size, fun k hk => (hg.block k (Nat.lt_of_lt_of_le hk hb.size) (fun e => by have := hv k e.symm; omega)).trans (hb.block k hk)⟩

/-- append of bytes to a row of the call's own. -/
theorem append_bytes {w : World} {base : Nat} {v : Value} {l : List UInt8} (h : Row w base v l) (A : Option Addr) (c : Nat) (m : List UInt8) (hm : Holds w A m) (hn : l.length + m.length ≤ 1000000) (hbase : base ≤ w.heap.size) :
    ∃ v' w', Sem.run Try.prog (Builtin.append_ #[23, 23] 23 #[v, .slice A m.length c]) w = .ok v' w' ∧ Row w' base v' (l ++ m) ∧ w.grownBy w' v.ownBlock ∧ (v'.ownBlock = v.ownBlock ∨ v'.ownBlock = some w.heap.size) := by
  have hinf := info5
  cases hi : Try.prog.info? 5 with
  | none => rw [hi] at hinf; simp at hinf
  | some i =>
    rw [hi] at hinf
    simp at hinf
    obtain ⟨i1, i2, i3⟩ := hinf
    have go : ∀ a : Addr, A = some a → (∀ j u, (encB m)[j]? = some u → w.cell? (a.add j) = some u) → ∃ v' w', Sem.run Try.prog (Builtin.append_ #[23, 23] 23 #[v, .slice A m.length c]) w = .ok v' w' ∧ Row w' base v' (l ++ m) ∧ w.grownBy w' v.ownBlock ∧ (v'.ownBlock = v.ownBlock ∨ v'.ownBlock = some w.heap.size) := by
      intro a e hc
      subst e
      obtain ⟨v', w', hr, ho, hg, _, hb⟩ := run_append_own_at (P := Try.prog) w base 23 23 5 i _ 1 1 Try.underlying23 hi i1 i2 i3 rfl (by omega) v l.length (encB l) h a m.length c (encB m) (by simp [encB]) hc (encB_one m) (by simp only [maxLen]; omega) (by omega) hbase
      refine ⟨v', w', hr, ?_, hg, hb⟩
      unfold Row
      rw [List.length_append, encB_append]
      exact ho
    cases A with
    | none =>
      have hm0 : m = [] := by
        cases m with
        | nil => rfl
        | cons x r => obtain ⟨b, o, e, _⟩ := hm 0 (by simp); cases e
      subst hm0
      refine ⟨v, w, ?_, by simpa using h, World.grownBy.refl w _, .inl rfl⟩
      rcases h.2 with ⟨rfl, _⟩ | ⟨g, cap, cur, rfl, _, _, hnc, _⟩
      · simp [Builtin.append_, run_underlying Try.underlying23, sizeOf, typeInfo, hi, Builtin.lenOf, Builtin.firstCells]
      · simp [Builtin.append_, run_underlying Try.underlying23, sizeOf, typeInfo, hi, Builtin.lenOf, Builtin.firstCells, hnc, storeCells]
    | some a =>
      refine go a rfl fun j u hu => ?_
      have hj : j < m.length := by
        have := (List.getElem?_eq_some_iff.1 hu).1
        rwa [encB_length] at this
      obtain ⟨b, o, e, _, hc⟩ := hm j hj
      cases e
      rw [Addr.add_lit, hc, ← hu, encB_at m j hj]

set_option maxRecDepth 100000 in
theorem clone_any (A : Option Addr) (c : Nat) (l : List UInt8) (w : World) (h : Holds w A l) (hn : l.length ≤ 1000000) :
    Calls Try.prog 51 #[.slice A l.length c] w fun r w' => ∃ v, r = .returned v ∧ Row w' w.heap.size v l ∧ Below w.heap.size w w' := by
  have H0 := Lib.hid h
  clear h
  cases A with
  | none =>
    have hl : l = [] := by
      cases l with
      | nil => rfl
      | cons x r => obtain ⟨b, o, e, _⟩ := H0.out 0 (by simp); cases e
    subst hl
    have hq := fun W => Lib.run_eql_slice_nil (P := Try.prog) W 23 5 none 0 c 0 0 Try.underlying23
    go_enter Try.func51, Try.ntmps51
    go_wp2_with fail
    go_ret
    exact ⟨_, rfl, ⟨rfl, .inl ⟨rfl, rfl⟩⟩, Below.refl _ _⟩
  | some a =>
    have hrow : Row (w.alloc (.cells #[] 5)) w.heap.size (.slice (some ⟨w.heap.size, 0, none⟩) 0 0) [] := ⟨rfl, .inr ⟨w.heap.size, 0, #[], rfl, Nat.le_refl _, heap_alloc_new w _, Nat.le_refl _, Nat.zero_le _, rfl, rfl⟩⟩
    obtain ⟨v', w', hr, ho, hg, hb⟩ := append_bytes hrow (some a) c l (H0.out.below ((Below.refl _ _).alloc (Nat.le_refl _) _)) (by simpa using hn) (by simp)
    have HO := Lib.hid ho
    have HB : Hid (Below w.heap.size w w') := Lib.hid (below_grown ((Below.refl _ _).alloc (Nat.le_refl _) _) hg hrow.block)
    have HR := Lib.hid hr
    clear ho hg hb hrow hr
    have hq := fun W => Lib.run_eql_slice_nil (P := Try.prog) W 23 5 (some a) l.length c 0 0 Try.underlying23
    go_enter Try.func51, Try.ntmps51
    go_wp2_with (at_builtin; refine Lib.wpList_append_run _ rfl _ _ 23 23 rfl _ _ rfl rfl _ _ HR.out ?_)
    go_ret
    exact ⟨_, rfl, HO.out, HB.out⟩

theorem Row.le {w : World} {base base' : Nat} {v : Value} {l : List UInt8} (h : Row w base v l) (hb : base' ≤ base) : Row w base' v l :=
  ⟨h.1, h.2.imp id fun ⟨g, cap, cur, hv, hg, r⟩ => ⟨g, cap, cur, hv, Nat.le_trans hb hg, r⟩⟩
theorem Row.nil (w : World) (base : Nat) : Row w base (.slice none 0 0) [] := ⟨rfl, .inl ⟨rfl, rfl⟩⟩
theorem ret_u64 {a b : Int} (h : a = b) : Ending.returned (.int .u64 a) = .returned (.int .u64 b) := by rw [h]
/-- bytes as a string. -/
theorem conv_bytes {w : World} {A : Option Addr} {l : List UInt8} (h : Holds w A l) (c : Nat) : Sem.run Try.prog (convert 23 9 (.slice A l.length c)) w = .ok (.string ⟨l.toArray⟩) w := by
  cases A with
  | none =>
    have hl : l = [] := by
      cases l with
      | nil => rfl
      | cons x r => obtain ⟨b, o, e, _⟩ := h 0 (by simp); cases e
    subst hl
    exact run_convert_bytes_nil w 23 5 Try.underlying23 Try.underlying5 _ c 9 Try.underlying9
  | some a =>
    cases l with
    | nil =>
      rw [run_convert_bytes_string w 23 9 5 _ _ c Try.underlying23 Try.underlying5 Try.underlying9]
      have := run_bytesToString (P := Try.prog) w a 0 c [] (run_loadCells_list w a [] (fun j v hv => by simp at hv))
      exact this
    | cons x r =>
      obtain ⟨b, o, e, _, _⟩ := h 0 (by simp)
      cases e
      have := run_convert_bytes_arg (P := Try.prog) w 23 5 Try.underlying23 Try.underlying5 b o (x :: r).length c ((x :: r).map fun y => (y.toNat : Int)) (by simp) (fun i hi => by
        obtain ⟨b', o', e', _, hc⟩ := h i hi
        cases e'
        rw [hc]
        rw [List.getD_eq_getElem?_getD, List.getElem?_map, List.getElem?_eq_getElem hi]
        rfl) 9 Try.underlying9
      rw [this]
      simp [strOfNums, Function.comp_def]

set_option maxRecDepth 100000 in
theorem same_any (A B : Option Addr) (c d : Nat) (a b : List UInt8) (w : World) (ha : Holds w A a) (hb : Holds w B b) :
    Calls Try.prog 14 #[.slice A a.length c, .slice B b.length d] w fun r w' => r = .returned (.bool (a == b)) ∧ w' = w := by
  have HA := conv_bytes ha c
  have HB := conv_bytes hb d
  clear ha hb
  go_enter Try.func14, Try.ntmps14
  go_wp2_with fail
  go_ret
  exact ⟨rfl, rfl⟩

/-- v has no room behind its bytes. -/
def Full (w : World) (v : Value) (l : List UInt8) : Prop := ∃ A, v = .slice A l.length l.length ∧ Holds w A l
theorem holds_cells {w : World} {a : Addr} {m : List UInt8} (h : Holds w (some a) m) : ∀ j u, (encB m)[j]? = some u → w.cell? (a.add j) = some u := by
  intro j u hu
  have hj : j < m.length := by
    have := (List.getElem?_eq_some_iff.1 hu).1
    rwa [encB_length] at this
  obtain ⟨b, o, e, _, hc⟩ := h j hj
  cases e
  rw [Addr.add_lit, hc, ← hu, encB_at m j hj]
theorem holds_none {w : World} {m : List UInt8} (h : Holds w none m) : m = [] := by
  cases m with
  | nil => rfl
  | cons x r => obtain ⟨b, o, e, _⟩ := h 0 (by simp); cases e
/-- append of bytes to a slice without room: all is new. -/
theorem append_full {w : World} {v : Value} {l : List UInt8} (h : Full w v l) (A : Option Addr) (c : Nat) (m : List UInt8) (hm : Holds w A m) (hne : m ≠ []) (hn : l.length + m.length ≤ 1000000) :
    ∃ v' w', Sem.run Try.prog (Builtin.append_ #[23, 23] 23 #[v, .slice A m.length c]) w = .ok v' w' ∧ Row w' w.heap.size v' (l ++ m) ∧ Below w.heap.size w w' := by
  obtain ⟨B, rfl, hl⟩ := h
  cases B with
  | none =>
    have hl0 := holds_none hl
    subst hl0
    obtain ⟨v', w', hr, ho, hg, -⟩ := append_bytes (Row.nil w w.heap.size) A c m hm hn (Nat.le_refl _)
    exact ⟨v', w', hr, ho, ⟨hg.os, hg.tape, hg.output, hg.size, fun k hk => hg.block k hk (by simp [Value.ownBlock])⟩⟩
  | some b =>
    cases A with
    | none => exact absurd (holds_none hm) hne
    | some a =>
      have hinf := info5
      cases hi : Try.prog.info? 5 with
      | none => rw [hi] at hinf; simp at hinf
      | some i =>
        rw [hi] at hinf
        simp at hinf
        obtain ⟨i1, i2, i3⟩ := hinf
        have hpos : 0 < m.length := List.length_pos_iff.2 hne
        obtain ⟨v', w', hr, ho, hg⟩ := run_append_arg_grows (P := Try.prog) w 23 23 5 i _ 1 1 Try.underlying23 hi i1 i2 i3 rfl (by omega) b l.length l.length (encB l) (by simp [encB]) (holds_cells hl) a m.length c (encB m) (by simp [encB]) (holds_cells hm) (by omega) (by simp only [maxLen]; omega) (by omega)
        refine ⟨v', w', hr, ?_, ⟨hg.os, hg.tape, hg.output, hg.size, fun k hk => hg.block k hk (by simp)⟩⟩
        unfold Row
        rw [List.length_append, encB_append]
        exact ho
/-- append of a string's bytes to a row of the call's own. -/
theorem append_string {w : World} {base : Nat} {v : Value} {l : List UInt8} (h : Row w base v l) (s : ByteArray) (hn : l.length + s.size ≤ 1000000) (hbase : base ≤ w.heap.size) :
    ∃ v' w', Sem.run Try.prog (Builtin.append_ #[23, 9] 23 #[v, .string s]) w = .ok v' w' ∧ Row w' base v' (l ++ s.data.toList) ∧ w.grownBy w' v.ownBlock := by
  have hinf := info5
  cases hi : Try.prog.info? 5 with
  | none => rw [hi] at hinf; simp at hinf
  | some i =>
    rw [hi] at hinf
    simp at hinf
    obtain ⟨i1, i2, i3⟩ := hinf
    obtain ⟨v', w', hr, ho, hg, -⟩ := Lib.run_append_own_string (P := Try.prog) w base 23 9 23 5 i Try.underlying23 Try.underlying9 hi i1 i2 i3 v l.length (encB l) h s (by simp only [maxLen]; omega) (by omega) hbase
    refine ⟨v', w', hr, ?_, hg⟩
    unfold Row
    rw [List.length_append, encB_append]
    exact ho

/-- a slice that may be added to: a row of the call's own (since w0), or one without room. -/
def Ready (w0 w : World) (v : Value) (l : List UInt8) : Prop := Below w0.heap.size w0 w ∧ (Row w w0.heap.size v l ∨ Full w v l)
theorem append_ready {w0 w : World} {v : Value} {l : List UInt8} (h : Ready w0 w v l) (A : Option Addr) (c : Nat) (m : List UInt8) (hm : Holds w A m) (hne : m ≠ []) (hn : l.length + m.length ≤ 1000000) :
    ∃ v' w', Sem.run Try.prog (Builtin.append_ #[23, 23] 23 #[v, .slice A m.length c]) w = .ok v' w' ∧ Row w' w0.heap.size v' (l ++ m) ∧ Below w0.heap.size w0 w' := by
  obtain ⟨hb, h | h⟩ := h
  · obtain ⟨v', w', hr, ho, hg, -⟩ := append_bytes h A c m hm hn hb.size
    exact ⟨v', w', hr, ho, below_grown hb hg h.block⟩
  · obtain ⟨v', w', hr, ho, hbl⟩ := append_full h A c m hm hne hn
    exact ⟨v', w', hr, ho.le hb.size, below_next hb hbl⟩
theorem Ready.of_row {w0 w : World} {v : Value} {l : List UInt8} (h : Row w w0.heap.size v l) (hb : Below w0.heap.size w0 w) : Ready w0 w v l := ⟨hb, .inl h⟩
/-- one byte that was built. -/
theorem one_byte (w : World) (x : UInt8) : Holds (w.alloc (.cells #[.int .u8 (x.toNat : Nat)] 5)) (some ⟨w.heap.size, 0, none⟩) [x] := by
  intro i hi
  have h0 : i = 0 := by simp at hi; omega
  subst h0
  refine ⟨w.heap.size, 0, rfl, by simp, ?_⟩
  rw [World.cell?_alloc_mark]
  rfl
theorem Row.alloc {w : World} {base : Nat} {v : Value} {l : List UInt8} (h : Row w base v l) (o : Obj) : Row (w.alloc o) base v l := h.below ((Below.refl _ _).alloc (Nat.le_refl _) _)
theorem Ready.alloc {w0 w : World} {v : Value} {l : List UInt8} (h : Ready w0 w v l) (o : Obj) : Ready w0 (w.alloc o) v l := by
  refine ⟨h.1.alloc h.1.size _, h.2.imp (fun r => r.alloc o) ?_⟩
  rintro ⟨A, e, hh⟩
  exact ⟨A, e, hh.below ((Below.refl _ _).alloc (Nat.le_refl _) _)⟩
end Go.Proofs.Ytmpiknaoocflcaa
