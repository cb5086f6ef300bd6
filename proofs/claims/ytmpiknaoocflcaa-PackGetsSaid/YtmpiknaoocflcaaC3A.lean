/- PackGets: what its readings tell (plain). -/
import Derived.Test.YtmpiknaoocflcaaG8
import Derived.Test.YtmpiknaoocflcaaT4
import Derived.Test.YtmpiknaoocflcaaR6
namespace Go.Proofs.Ytmpiknaoocflcaa
open Go.RowKit

/-- what a reading tells, as three values. -/
theorem Gets.flat {α : Type} {w w' : World} {want : Option (α × List UInt8)} {mk : α → Value} {zero : Value} {e : Ending} (h : Gets w want mk zero e w') :
    Below w.heap.size w w' ∧ ∃ a v c, e = .returned (.tuple #[a, v, c]) ∧ ((∃ x l', want = some (x, l') ∧ a = mk x ∧ c = .int .i64 0 ∧ Row w' w.heap.size v l') ∨ (want = none ∧ a = zero ∧ v = .slice none 0 0 ∧ c = .int .i64 7)) := by
  obtain ⟨hb, h⟩ := h
  refine ⟨hb, ?_⟩
  cases want with
  | none => exact ⟨_, _, _, h, .inr ⟨rfl, rfl, rfl, rfl⟩⟩
  | some p =>
    obtain ⟨v, he, hr⟩ := h
    exact ⟨_, _, _, he, .inl ⟨_, _, rfl, rfl, rfl, hr⟩⟩
theorem placed_flat {α : Type} (n : Nat) (want : Option (α × List UInt8)) (mk : α → Value) (zero : Value) :
    ∃ a p o, Placed n want mk zero = .tuple #[a, p, o] ∧ ((∃ x l', want = some (x, l') ∧ a = mk x ∧ p = .int .i64 ((n - l'.length : Nat) : Int) ∧ o = .bool true) ∨ (want = none ∧ a = zero ∧ p = .int .i64 0 ∧ o = .bool false)) := by
  cases want with
  | none => exact ⟨_, _, _, rfl, .inr ⟨rfl, rfl, rfl, rfl⟩⟩
  | some p => exact ⟨_, _, _, rfl, .inl ⟨_, _, rfl, rfl, rfl, rfl⟩⟩
/-- the same of values. -/
theorem Gets.flatV {w w' : World} {want : Option (Tri × List UInt8)} {e : Ending} (h : Gets w want tval (tval (0, 0, ⟨#[]⟩)) e w') :
    Below w.heap.size w w' ∧ ∃ k n s v c, e = .returned (.tuple #[Val.val k n s, v, c]) ∧ ((∃ l', want = some ((k, n, s), l') ∧ c = .int .i64 0 ∧ Row w' w.heap.size v l') ∨ (want = none ∧ k = 0 ∧ n = 0 ∧ s = ⟨#[]⟩ ∧ v = .slice none 0 0 ∧ c = .int .i64 7)) := by
  obtain ⟨hb, h⟩ := h
  refine ⟨hb, ?_⟩
  cases want with
  | none => exact ⟨_, _, _, _, _, h, .inr ⟨rfl, rfl, rfl, rfl, rfl, rfl⟩⟩
  | some p =>
    obtain ⟨⟨k, n, s⟩, l'⟩ := p
    obtain ⟨v, he, hr⟩ := h
    exact ⟨_, _, _, _, _, he, .inl ⟨_, rfl, rfl, hr⟩⟩
theorem placed_flatV (n : Nat) (want : Option (Tri × List UInt8)) :
    ∃ k m s p o, Placed n want tval (tval (0, 0, ⟨#[]⟩)) = .tuple #[Val.val k m s, p, o] ∧ ((∃ l', want = some ((k, m, s), l') ∧ p = .int .i64 ((n - l'.length : Nat) : Int) ∧ o = .bool true) ∨ (want = none ∧ k = 0 ∧ m = 0 ∧ s = ⟨#[]⟩ ∧ p = .int .i64 0 ∧ o = .bool false)) := by
  cases want with
  | none => exact ⟨_, _, _, _, _, rfl, .inr ⟨rfl, rfl, rfl, rfl, rfl, rfl⟩⟩
  | some p =>
    obtain ⟨⟨k, m, s⟩, l'⟩ := p
    exact ⟨_, _, _, _, _, rfl, .inl ⟨_, rfl, rfl, rfl⟩⟩
theorem num_left {l l' : List UInt8} {m : Nat} (h : numOf l = some (m, l')) : ∃ Q, Q ≤ l.length ∧ l' = l.drop Q ∧ l.length - l'.length = Q := placed_drop (p0 := 0) h (Nat.zero_le _)
theorem whole_left {l l' : List UInt8} {m : Int} (h : wholeOf l = some (m, l')) : ∃ Q, Q ≤ l.length ∧ l' = l.drop Q ∧ l.length - l'.length = Q := by
  unfold wholeOf at h
  cases hq : numOf l with
  | none => rw [hq] at h; cases h
  | some p =>
    rw [hq] at h
    injection h with h
    injection h with h1 h2
    subst h2
    exact num_left hq
theorem text_left {l l' : List UInt8} {m : ByteArray} {most : Nat} (h : textOf most l = some (m, l')) : ∃ Q, Q ≤ l.length ∧ l' = l.drop Q ∧ l.length - l'.length = Q := by
  unfold textOf at h
  cases hq : numOf l with
  | none => rw [hq] at h; cases h
  | some p =>
    obtain ⟨k, l1⟩ := p
    rw [hq] at h
    simp only at h
    split at h
    · cases h
    · rename_i hn
      injection h with h
      injection h with h1 h2
      subst h2
      obtain ⟨Q, hQ, rfl, hl⟩ := num_left hq
      rw [List.length_drop] at hl hn
      exact ⟨Q + k, by omega, by rw [List.drop_drop], by rw [List.length_drop, List.length_drop]; omega⟩
theorem val_left {l l' : List UInt8} {m : Tri} (h : valOf l = some (m, l')) : ∃ Q, Q ≤ l.length ∧ l' = l.drop Q ∧ l.length - l'.length = Q := drop_of_append (Q := 0) (by rw [List.drop_zero]; exact (valOf_conv h).1) (Nat.zero_le _)
theorem row_left {l l' : List UInt8} {m : List Tri} (h : rowOf l = some (m, l')) : ∃ Q, Q ≤ l.length ∧ l' = l.drop Q ∧ l.length - l'.length = Q := drop_of_append (Q := 0) (by rw [List.drop_zero]; exact (rowOf_conv h).1) (Nat.zero_le _)

/-- the code behind the first statements. -/
def seqTail : Nat → Code → Code
  | 0, c => c
  | n + 1, .seq _ b => seqTail n b
  | _ + 1, c => c
def codeOf (f : Func) : Code := f.body.getD .skip
/-- a call in a region, guarded or not. -/
theorem step_call_w {P : Program} {ops : Array Oper} {o : Oper} {a : Act} {w : World} {K : Act → World → Prop} {Q : Exit → Act → World → Prop} {E : Prop}
    (hw : Region.wanted o (yielded ops a.tmps) = true) (f : FuncId) (args : Array Value) (hrun : (execOp a.eval o).run P w = .ok (.enter f args) w) {R : Ending → World → Prop} (hc : Calls P f args w R) (hK : ∀ e w', R e w' → ∃ v, e = .returned v ∧ K (a.put o.dst v) w') :
    if Region.wanted o (yielded ops a.tmps) = true then Oper.wp P o a w K Q else E := by
  rw [if_pos hw]
  unfold Oper.wp
  rw [hrun, Oper.upon_enter]
  refine hc.mono fun e w' hh => ?_
  obtain ⟨v, rfl, hk⟩ := hK e w' hh
  exact hk
end Go.Proofs.Ytmpiknaoocflcaa
