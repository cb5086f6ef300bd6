import Derived.Test.YtlkkfnimealbkaaMD2
import Derived.Laws.CopyOwn
import Derived.Lib.EndianBits
/- What the layer page wants of the base beside the disk (cut out of PB0). -/
namespace Go.Proofs.Ytlkkfnimealbkaa
open Go.RowKit
set_option linter.unusedVariables false
theorem rebase3 {w : World} {b b' : Nat} {v : Value} {n : Nat} {xs : List Value} {e : TypeId} {z : Nat} (h : w.ownsRow b e z v n xs) (hb : b' ≤ b) : w.ownsRow b' e z v n xs := by
  refine ⟨h.1, ?_⟩
  rcases h.2 with hn | ⟨g, cap, cur, h1, hb, h2⟩
  · exact .inl hn
  · exact .inr ⟨g, cap, cur, h1, by omega, h2⟩
theorem own_ge {w : World} {b : Nat} {v : Value} {n : Nat} {xs : List Value} {e : TypeId} {z : Nat} (h : w.ownsRow b e z v n xs) {k : Nat} (hk : v.ownBlock = some k) : b ≤ k := by
  rcases h.2 with ⟨rfl, _⟩ | ⟨g, cap, cur, rfl, hb, _⟩
  · cases hk
  · have : g = k := by simpa [Value.ownBlock] using hk
    omega
theorem equal_any (A B : Option Addr) (c d : Nat) (a b : List UInt8) (w : World) (ha : Holds w A a) (hb : Holds w B b) :
    Calls Try.prog 64 #[.slice A a.length c, .slice B b.length d] w fun r w' => r = .returned (.bool (a == b)) ∧ w = w' := by
  have HA := conv_bytes ha c
  have HB := conv_bytes hb d
  clear ha hb
  go_enter Try.func64, Try.ntmps64
  go_wp2_with fail
  go_ret
  exact ⟨rfl, rfl⟩
def strs (ss : List ByteArray) : List Value := ss.map fun s => .string s
def SRow (w : World) (base : Nat) (v : Value) (ss : List ByteArray) : Prop := w.ownsRow base 9 1 v ss.length (strs ss)
theorem SRow.new (w : World) : SRow (w.alloc (.cells #[] 9)) w.heap.size (.slice (some ⟨w.heap.size, 0, none⟩) 0 0) [] :=
  ⟨rfl, .inr ⟨w.heap.size, 0, #[], rfl, Nat.le_refl _, heap_alloc_new w _, Nat.le_refl _, Nat.zero_le _, rfl, rfl⟩⟩
theorem SRow.nil (w : World) (base : Nat) : SRow w base (.slice none 0 0) [] := ⟨rfl, .inl ⟨rfl, rfl⟩⟩
theorem SRow.below {w w' : World} {base : Nat} {v : Value} {ss : List ByteArray} (h : SRow w base v ss) (hb : Below w.heap.size w w') : SRow w' base v ss := by
  obtain ⟨h1, h2⟩ := h
  refine ⟨h1, h2.imp id ?_⟩
  rintro ⟨g, cap, cur, hv, hg, hh, r⟩
  exact ⟨g, cap, cur, hv, hg, (hb.block g (Array.getElem?_eq_some_iff.1 hh).1).trans hh, r⟩
theorem SRow.of_heap {w w' : World} {base : Nat} {v : Value} {ss : List ByteArray} (h : SRow w base v ss) (hb : ∀ b, v.ownBlock = some b → w'.heap[b]? = w.heap[b]?) : SRow w' base v ss := ownsRow_of_heap h hb
theorem SRow.le {w : World} {base base' : Nat} {v : Value} {ss : List ByteArray} (h : SRow w base v ss) (hb : base' ≤ base) : SRow w base' v ss :=
  ⟨h.1, h.2.imp id fun ⟨g, cap, cur, hv, hg, r⟩ => ⟨g, cap, cur, hv, Nat.le_trans hb hg, r⟩⟩
theorem SRow.block {w : World} {base : Nat} {v : Value} {ss : List ByteArray} (h : SRow w base v ss) : ∀ k, v.ownBlock = some k → base ≤ k ∧ k < w.heap.size := by
  rcases h.2 with ⟨rfl, _⟩ | ⟨g, cap, cur, rfl, hb, hh, _⟩
  · intro k e; simp [Value.ownBlock] at e
  · intro k e
    simp [Value.ownBlock] at e
    subst e
    exact ⟨hb, (Array.getElem?_eq_some_iff.1 hh).1⟩
theorem SRow.shape {w : World} {base : Nat} {v : Value} {ss : List ByteArray} (h : SRow w base v ss) : ∃ A c, v = .slice A ss.length c ∧ ss.length ≤ c ∧ ∀ i (h : i < ss.length), ∃ g, A = some ⟨g, 0, none⟩ ∧ v.ownBlock = some g ∧ g < w.heap.size ∧ w.cell? ⟨g, i, none⟩ = some (.string ss[i]) := by
  obtain ⟨_, h2⟩ := h
  rcases h2 with ⟨rfl, h0⟩ | ⟨g, cap, cur, rfl, hb, hh, hn, hm, hs, ht⟩
  · exact ⟨none, 0, by rw [h0], by omega, fun i hi => absurd hi (by omega)⟩
  · refine ⟨_, cap, rfl, hn, fun i hi => ⟨g, rfl, rfl, (Array.getElem?_eq_some_iff.1 hh).1, ?_⟩⟩
    have hu : (strs ss)[i]? = some (.string ss[i]) := by simp [strs, hi]
    rw [cell_of_row w g i cur 9 (0, 0) hh, ← hu, ← ht, List.getElem?_take, if_pos (by omega)]
    simp
theorem infoStr : (Try.prog.info? 9).map (fun i => (i.zero, i.size, decide (i.bytes ≤ 1000))) = some (some (.string ⟨#[]⟩), 1, true) := by kernel_rfl
theorem append_str {w : World} {base : Nat} {v : Value} {ss : List ByteArray} (h : SRow w base v ss) (x : ByteArray) (hn : ss.length ≤ 1000000) (hbase : base ≤ w.heap.size) :
    ∃ v' w', Sem.run Try.prog (Builtin.append_ #[39, 39] 39 #[v, .slice (some ⟨w.heap.size, 0, none⟩) 1 1]) (w.alloc (.cells #[.string x] 9)) = .ok v' w' ∧ SRow w' base v' (ss ++ [x]) ∧ (w.alloc (.cells #[.string x] 9)).grownBy w' v.ownBlock := by
  have hinf := infoStr
  cases hi : Try.prog.info? 9 with
  | none => rw [hi] at hinf; simp at hinf
  | some i =>
    rw [hi] at hinf
    simp at hinf
    obtain ⟨i1, i2, i3⟩ := hinf
    have hb : ∀ (a b : Nat), a ≤ 1000001 → b ≤ 1000 → a * b ≤ 140737488355328 := fun a b h1 h2 => Nat.le_trans (Nat.mul_le_mul h1 h2) (by omega)
    obtain ⟨v', w', hr, ho, hg, _, _⟩ := run_append_own_at (P := Try.prog) (w.alloc (.cells #[.string x] 9)) base 39 39 9 i _ 1 i.bytes Try.underlying39 hi i1 i2 rfl rfl (by omega) v ss.length (strs ss) (h.below ((Below.refl _ _).alloc (Nat.le_refl _) _)) ⟨w.heap.size, 0, none⟩ 1 1 (strs [x]) rfl (by
      intro j u hu
      rw [Addr.add_lit, Nat.zero_add, cell_of_row _ w.heap.size j #[.string x] 9 (0, 0) (heap_alloc_new w _), ← hu, show strs [x] = [Value.string x] from rfl]
      simp) (by
      intro u hu
      simp [strs] at hu
      subst hu
      rfl) (by simp only [maxLen]; omega) (hb _ _ (by omega) i3) (by simp; omega)
    refine ⟨v', w', hr, ?_, hg⟩
    unfold SRow
    rw [List.length_append, show strs (ss ++ [x]) = strs ss ++ strs [x] by simp [strs]]
    exact ho
/-- strings that stand in a row. -/
def Strs (w : World) (A : Option Addr) (ss : List ByteArray) : Prop := ∀ i (h : i < ss.length), ∃ g o, A = some ⟨g, o, none⟩ ∧ g < w.heap.size ∧ w.cell? ⟨g, o + i, none⟩ = some (.string ss[i])
theorem Strs.below {w w' : World} {A : Option Addr} {ss : List ByteArray} (h : Strs w A ss) (hb : Below w.heap.size w w') : Strs w' A ss := fun i hi => by
  obtain ⟨g, o, e, hlt, hc⟩ := h i hi
  exact ⟨g, o, e, Nat.lt_of_lt_of_le hlt hb.size, (hb.cell (p := ⟨g, o + i, none⟩) hlt).trans hc⟩
theorem lay_length (l : List UInt8) (o : Nat) (x : List UInt8) (h : o + x.length ≤ l.length) : (lay l o x).length = l.length := by simp [lay]; omega
theorem lay_mid (a m b x : List UInt8) (h : x.length = m.length) : lay (a ++ m ++ b) a.length x = a ++ x ++ b := by
  simp [lay, h]
end Go.Proofs.Ytlkkfnimealbkaa
