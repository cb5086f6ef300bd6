/- copy of bytes, as a step of a walk inside a fence. -/
import Derived.Test.YtjnblkibejmdjaaPB7
import Derived.OwnWalkIn
import Derived.Laws.CopyRow
import Derived.Laws.IdiomCopy
namespace Go.Proofs.Ytjnblkibejmdjaa
open Go.RowKit Go.Shelf
set_option linter.unusedVariables false
theorem run_copy_bytes {w : World} (ty : TypeId) (dp A : Option Addr) (dLen dCap c g off : Nat) (l b : List UInt8) (hb : BB w g l) (hA : Holds w A b) (hd : b ≠ [] → dp = some ⟨g, off, none⟩) (hle : b.length ≤ dLen) (hfit : off + b.length ≤ l.length) :
    ∃ w', (Builtin.copy_ #[29, 29] ty #[.slice dp dLen dCap, .slice A b.length c]).run Try.prog w = .ok (goInt b.length) w' ∧ BB w' g (lay l off b) ∧ Touch [g] w w' := by
  by_cases h0 : b = []
  · subst h0
    have hrun := run_copy_none (P := Try.prog) w 29 29 ty 5 dp A dLen dCap 0 c Try.underlying29 sizeB (by simp)
    exact ⟨w, hrun, by rw [lay_nil]; exact hb, Touch.refl _ _⟩
  · rw [hd h0]
    obtain ⟨b0, o0, rfl, -, -⟩ := hA 0 (List.length_pos_iff.2 h0)
    have hrun := run_copy_row (P := Try.prog) w 29 29 ty 5 g off dLen dCap ⟨b0, o0, none⟩ b.length c (encB l).toArray 5 (encB b) Try.underlying29 sizeB hb (by rw [encB_length]; exact (Nat.min_eq_left hle).symm) (holds_cells hA) (by simp [encB]; exact hfit) (encB_one b)
    rw [encB_length] at hrun
    refine ⟨_, hrun, ?_, ⟨rfl, rfl, rfl, by simp [World.setRow], fun k hk hn => setRow_other w g k _ (by simpa using hn)⟩⟩
    have h1 := setRow_heap w g (encB l).toArray ((encB l).toArray.toList.take off ++ encB b ++ (encB l).toArray.toList.drop (off + b.length)).toArray 5 (0, 0) hb
    unfold BB Whole
    rw [show encB (lay l off b) = (encB l).toArray.toList.take off ++ encB b ++ (encB l).toArray.toList.drop (off + b.length) by simp [encB, lay, List.map_take, List.map_drop]]
    exact h1
theorem wpListIn_copy_bytes {F : Fence} {n : Nat} {w : World} {ops : Array Oper} {rest : List Oper} {o : Oper} {a : Act} {Q : Exit → Act → World → Prop} (hgd : o.guard = none) (d s : Operand)
    (ho : o.op = .call { callee := .builtin .copy, args := #[d, s], argTypes := #[29, 29] }) (dp A : Option Addr) (dLen dCap c g off : Nat) (l b : List UInt8) (hed : a.eval d = .slice dp dLen dCap) (hes : a.eval s = .slice A b.length c)
    (hb : BB w g l) (hA : Holds w A b) (hd : b ≠ [] → dp = some ⟨g, off, none⟩) (hle : b.length ≤ dLen) (hfit : off + b.length ≤ l.length)
    (h : ∀ w', Hid (BB w' g (lay l off b)) → Hid (Touch [g] w w') → wpListIn F n Try.prog ops Q rest (a.put o.dst (goInt b.length)) w') : wpListIn F n Try.prog ops Q (o :: rest) a w := by
  refine wpListIn_plain hgd fun K hK' => ?_
  obtain ⟨w', hrun, r1, r2⟩ := run_copy_bytes o.type dp A dLen dCap c g off l b hb hA hd hle hfit
  unfold Oper.wpIn
  refine ⟨?_, ?_⟩
  · simp [Oper.about, ho, resolve, Target.leads, Sem.run_pure]
  · rw [Oper.semAt_plain F _ _ (by rw [ho]; intro c hc'; cases hc')]
    simp [execOp, ho, resolve, invoke, builtin, hed, hes, hrun, Result.andThen]
    exact hK' _ _ (h w' (Lib.hid r1) (Lib.hid r2))
end Go.Proofs.Ytjnblkibejmdjaa
