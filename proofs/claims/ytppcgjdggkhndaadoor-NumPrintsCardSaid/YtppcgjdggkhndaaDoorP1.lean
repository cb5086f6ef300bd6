/- NumPrints (needlebeamlaw03): for every number of 64 bits and every string the law returns true: what is printed is read, and any text is a print or it is told why not. Its condition: the library's five variables that the row lists hold what the row says of them when the call begins, which the given tie reads off the program's text. -/
import Derived.Test.YtppcgjdggkhndaaDoorCards
import Derived.Test.YtppcgjdggkhndaaDoorTie
import Derived.Test.YtppcgjdggkhndaaDoorC9
import Derived.SizedLaws
import Derived.ChangeSame
import Derived.ChangeVars
import Derived.ChangeMaps5
import Derived.JoinedOf
import Derived.JoinedAt
import Derived.RowKit3
import Derived.RowKitTokens
import Derived.LaidLaws
import Derived.DataShut
import Derived.ShutString
import Derived.Stop.LaidErr
import Derived.Stop.Joined
import Derived.SevenTiedAt
namespace Go.Proofs.YtppcgjdggkhndaaDoor
open Go.ChangeShapes Go.WideShapes Go.ChangeAt Go.RowKit
open Go.ChangeMaps (open_string shut_string)
set_option linter.unusedVariables false

theorem own : ownKnob Tryd.prog.godebug = none := by kernel_rfl

/-! What the list gives. -/
def nameOf : DataW Unit → String
  | .iface nm _ => nm
  | _ => ("")
theorem row91 (u : TypeId) (h : Tryd.prog.typeName? 3 u = some (nameOf Rows.laid_strconv_ErrRange)) : u = 91 :=
  typeName_ptr_named (nm := ("errors.errorString")) (by kernel_rfl) (by kernel_rfl) (by decide) u (h.trans (congrArg some (by decide)))
theorem cells93 : Tryd.prog.cellsOf 93 = 1 := by kernel_rfl
theorem cells9 : Tryd.prog.cellsOf 9 = 1 := by kernel_rfl
theorem cells36 : Tryd.prog.cellsOf 36 = 1 := by kernel_rfl
theorem cells78 : Tryd.prog.cellsOf 78 = 20 := by kernel_rfl
theorem rangeType : (Tryd.prog.globals[0]?).map (·.type) = some 32 := by kernel_rfl
theorem powType : ((Tryd.prog.globalNamed powName).bind fun g => (Tryd.prog.globals[g]?).map (·.type)) = some 78 := by kernel_rfl
theorem env_of {W : World} (h : laidMet Tryd.prog Rows.numPrintsRow.laid W) : ∃ a, Env W a := by
  obtain ⟨a, s, hv, -, -, -⟩ := laid_sentinel (tp := 91) (te := 93) (ts := 9) h.tail.tail.tail errRange_at rangeType Tryd.underlying32 row91 Tryd.underlying91 Tryd.underlying93 rfl rfl Tryd.underlying9 cells93 cells9
  obtain ⟨g, hg, -⟩ := pow10_at
  have ht := powType
  rw [hg] at ht
  exact ⟨a, Lib.tabIs_of_head hg ht Tryd.underlying78 Tryd.underlying36 cells36 cells78 h.tail.tail, hv⟩

/-! One start that fits. -/
def cellsOfData : DataW Unit → Array Value
  | .agg l => (l.map fun d => match d with | .lit (.int k z) => Value.int k z | _ => Value.bool false).toArray
  | _ => #[]
def textOf : DataW Unit → ByteArray
  | .iface _ (.ptr (.agg [.lit (.string b)])) => ⟨b.toArray⟩
  | _ => ⟨#[]⟩
noncomputable def low : Nat := (World.holding Tryd.prog default ⟨#[], #[], []⟩).heap.size
noncomputable def lay (h : Array Obj) (g : Nat) (cs : Array Value) : Array Obj := h.modify g fun
  | .cells _ t frozen => .cells cs t frozen
  | o => o
noncomputable def at' (n : Nat) : Nat := (Tryd.prog.globalNamed ((Rows.numPrintsRow.laid.map (·.1)).getD n (""))).getD 0
noncomputable def laidWorld (os : Os) : World :=
  let w0 := World.holding Tryd.prog os ⟨#[.cells #[.string (textOf Rows.laid_strconv_ErrRange)] 93, .cells #[.string (textOf Rows.laid_strconv_ErrSyntax)] 93], #[], []⟩
  { w0 with heap := lay (lay (lay (lay (lay w0.heap (at' 0) (cellsOfData Rows.laid_math_bits_deBruijn32tab)) (at' 1) (cellsOfData Rows.laid_math_bits_deBruijn64tab)) (at' 2) (cellsOfData Rows.laid_internal_strconv_uint64pow10))
      (at' 3) #[.iface 91 (.pointer (some ⟨low, 0, none⟩))]) (at' 4) #[.iface 91 (.pointer (some ⟨low + 1, 0, none⟩))] }
theorem laidWorld_met (os : Os) (args : Array Value) : laidMet Tryd.prog Rows.numPrintsRow.laid ((laidWorld os).forCall (fun _ _ => 0) ⟨#[], args, []⟩).memory :=
  laidMet_of_run' 8 (by kernel_rfl) (by kernel_rfl)

set_option maxRecDepth 100000 in
theorem lifted (os : Os) (started : os.Started) (H : Type) (enc : TypeId × Value → H) :
    ReturnsInHanded {} Tryd.checked os 3 .any (fun w args => (Rows.numPrintsSpec.pre enc Tryd.prog Tryd.f3 Rows.numPrintsRow.domain false w args ∧ laidMetH Tryd.prog Rows.numPrintsRow.laid w) ∧ sizedMet enc Tryd.prog Tryd.f3 (OpenSpec.ofChange Rows.numPrintsSpec) false w args)
      (Rows.numPrintsSpec.post enc Tryd.prog Tryd.f3 false true false false) := by
  refine returnsInHanded_of_change_and (C := Tryd.checked) (X := fun w _ => laidMetH Tryd.prog Rows.numPrintsRow.laid w) (fun _ _ _ hh h => h.of_heap hh) own started (by kernel_rfl) Tryd.func3
    (ChangeSpec.witness_at (enc := enc) (C := Tryd.checked) (os := os) (X := fun w _ => laidMetH Tryd.prog Rows.numPrintsRow.laid w) false (laidWorld os) #[.int .i64 0, .string ⟨#[]⟩] 8 rfl (by kernel_rfl) (by kernel_rfl) (by kernel_rfl) (by kernel_rfl) (by kernel_rfl) (laidWorld_met os _)) ?_
  intro W base args ds gs before hval0 hW _ _ hL _
  have hval : ∀ (j : Nat) t v, Tryd.f3.params[j]? = some t → args[j]? = some v → Value.okWide Tryd.prog W .any base t v := hval0
  have hW' := hW
  obtain ⟨p, q, hA0, hV, rfl, hfz, hnd⟩ := hW
  have hA : DataW.TrodAll enc Tryd.prog W 0 (fun _ => true) true Tryd.f3.params.toList args.toList ds p := hA0
  rw [Tryd.params3] at hA hval
  obtain ⟨v0, vs0, d0, ds0, p0, q0, hargs, rfl, rfl, h0, r0⟩ := trodAll_cons hA
  obtain ⟨v1, vs1, d1, ds1, p1, q1, rfl, rfl, rfl, h1, r1⟩ := trodAll_cons r0
  obtain ⟨rfl, rfl, rfl⟩ := trodAll_nil r1
  obtain rfl : args = #[v0, v1] := by cases args; simp_all
  obtain ⟨rfl, rfl⟩ := trodVars_none hV
  obtain ⟨a0, rfl, rfl, rfl, w0⟩ := open_int Tryd.underlying2 (hval 0 2 v0 rfl rfl) h0
  obtain ⟨a1, rfl, rfl, rfl, w1⟩ := open_string Tryd.underlying9 (hval 1 9 v1 rfl rfl) h1
  clear hA0 hval0
  have hL' : laidMet Tryd.prog Rows.numPrintsRow.laid W := hL
  obtain ⟨a, he⟩ := env_of hL'
  refine (prints_ok a0 a1 W ((Lit.wf_int_iff .i64 a0).1 w0) a he).mono fun e W' ⟨he, bel⟩ => ?_
  subst he
  exact ⟨_, rfl, _, _, _, [], _, [], hW', trodAll_mk1 (shut_bool Tryd.underlying4 _), (trodAll_cons_mk (shut_int Tryd.underlying2 w0) (trodAll_cons_mk (shut_string Tryd.underlying9 w1) trodAll_mk0)), rfl, bel.frame _, fun h => by cases h⟩

theorem over : Rows.numPrintsRow.holds Tryd.pinned (OpenSpec.ofChange Rows.numPrintsSpec) :=
  OpenClaim.holds_of_wide 3 Tryd.f3 rfl rfl rfl rfl rfl rfl rfl ⟨rfl, rfl, rfl, rfl, rfl⟩ rfl rfl rfl rfl rfl (by kernel_rfl) Tryd.func3 (by kernel_rfl)
    (of_decide_eq_true (by kernel_rfl)) (by unfold Func.isWrapper; first | (rw [if_pos (by decide +kernel)]; kernel_rfl) | (rw [if_neg (by decide +kernel)]; exact ⟨rfl, rfl⟩))
    (fun os started H enc _ => lifted os started H enc)

theorem numPrints_holds : Rows.NumPrintsCardSaid :=
  Claim7.holds_tied_plain_at .later [] [.data, .data, .data, .sentinel, .sentinel] true _ true
    over (fun _ h => by cases h) (by kernel_rfl) (fun _ h => by cases h) numPrints_row_tie rfl ⟨rfl, rfl⟩ (by kernel_rfl) rfl
    (fun f fn hf hfn => by
      obtain rfl : f = 3 := Option.some.inj ((show Tryd.prog.funcNamed Rows.numPrintsRow.func = some 3 by kernel_rfl).symm.trans hf) |>.symm
      obtain rfl : fn = Tryd.f3 := (Option.some.inj (Tryd.func3.symm.trans hfn)).symm
      exact ⟨by kernel_rfl, fun j t ht => by
        rw [Tryd.params3] at ht
        have h3 : t = 2 ∨ t = 9 := by
          rcases j with _ | _ | j
          · left; simpa using ht.symm
          · right; simpa using ht.symm
          · simp at ht
        rcases h3 with rfl | rfl
        · exact (show Tryd.prog.wantsStandIn 2 = false by kernel_rfl)
        · exact (show Tryd.prog.wantsStandIn 9 = false by kernel_rfl)⟩)
    (by kernel_rfl)
#print axioms numPrints_holds
end Go.Proofs.YtppcgjdggkhndaaDoor
