import Derived.Test.YteghhmomhlnccaaGreatDoorCards
import Derived.Test.YteghhmomhlnccaaGreatDoorTie
import Derived.Test.YteghhmomhlnccaaGreatDoorZP0
import Derived.Test.YteghhmomhlnccaaGreatDoorZU
import Derived.Test.YteghhmomhlnccaaGreatDoorZPE

/- EvalApart (needlebeamlaw16): for any tree, any columns and any two lists of values the law returns true: over two rows that differ in columns alone that a tree does not name it comes to the same. Its condition: the library's variables that the row lists hold what the row says of them when the call begins, which the given tie reads off the program's text. -/
namespace Go.Proofs.YteghhmomhlnccaaGreatDoor
open Go.ChangeShapes Go.WideShapes Go.ChangeAt Go.RowKit Go.Joins Go.Deep
open Go.ChangeMaps (open_string shut_string)
set_option linter.unusedVariables false
set_option maxRecDepth 100000

theorem liftedEvalApart (os : Os) (started : os.Started) (H : Type) (enc : TypeId × Value → H) :
    ReturnsInHanded {} Tryz.checked os 7 .any (fun w args => (Rows.evalApartSpec.pre enc Tryz.prog Tryz.f7 Rows.evalApartRow.domain false w args ∧ laidMetH Tryz.prog Rows.evalApartRow.laid w) ∧ sizedMet enc Tryz.prog Tryz.f7 (OpenSpec.ofChange Rows.evalApartSpec) false w args)
      (Rows.evalApartSpec.post enc Tryz.prog Tryz.f7 false true false false) := by
  refine wrapped (C := Tryz.checked) (X := fun w _ => laidMetH Tryz.prog Rows.evalApartRow.laid w) (fun _ _ _ hh h => h.of_heap hh) own started (by kernel_rfl) Tryz.func7
    (ChangeSpec.witness_shaped (enc := enc) (C := Tryz.checked) (os := os) (X := fun w _ => laidMetH Tryz.prog Rows.evalApartRow.laid w) false (World.laidAll Tryz.prog os Rows.evalApartRow.laid) #[(.agg #[.int .i64 0, .string ⟨#[]⟩, .int .i64 0, .int .i64 0, .string ⟨#[]⟩, .slice none 0 0]), (.slice none 0 0), (.slice none 0 0), (.slice none 0 0)] 8 (World.laidAll_os _ _ _)
      (World.shaped_of_ZipB (by kernel_rfl) (by kernel_rfl)) (by kernel_rfl) (by kernel_rfl) (by kernel_rfl)
      (by rw [MakeChecks.laidMetH_plain _ _ _ (by kernel_rfl)]; exact laidMet_laidAll _ (by kernel_rfl) (by kernel_rfl))) ?_
  intro W base args ds gs before hval0 hW hL hsh
  have hval : ∀ (j : Nat) t v, Tryz.f7.params[j]? = some t → args[j]? = some v → Value.okWide Tryz.prog W .any base t v := hval0
  have hW' := hW
  obtain ⟨p, q, hA0, hV, rfl, hfz, hnd⟩ := hW
  have hA : DataW.TrodAll enc Tryz.prog W 0 (fun _ => true) true Tryz.f7.params.toList args.toList ds p := hA0
  rw [Tryz.params7] at hA hval
  obtain ⟨v0, vs0, d0, ds0, p0, q0, hargs, rfl, rfl, h0, r0⟩ := trodAll_cons hA
  obtain ⟨v1, vs1, d1, ds1, p1, q1, rfl, rfl, rfl, h1, r1⟩ := trodAll_cons r0
  obtain ⟨v2, vs2, d2, ds2, p2, q2, rfl, rfl, rfl, h2, r2⟩ := trodAll_cons r1
  obtain ⟨v3, vs3, d3, ds3, p3, q3, rfl, rfl, rfl, h3, r3⟩ := trodAll_cons r2
  obtain ⟨rfl, rfl, rfl⟩ := trodAll_nil r3
  obtain rfl : args = #[v0, v1, v2, v3] := by cases args; simp_all
  obtain ⟨rfl, rfl⟩ := trodVars_none hV
  have h0' := h0
  obtain ⟨fu0, hf0⟩ := h0'
  have lt0 : ∀ x ∈ p0, x.block < W.heap.size := DataW.trod_lt fu0 _ _ _ hf0
  obtain ⟨x0, hx0, ht0, hr0⟩ := open_tree2 (hval 0 26 v0 rfl rfl) h0
  have h1' := h1
  obtain ⟨fu1, hf1⟩ := h1'
  have lt1 : ∀ x ∈ p1, x.block < W.heap.size := DataW.trod_lt fu1 _ _ _ hf1
  obtain ⟨C1, A1, c1, rfl, hlc1, hmx1, hca1, hfc1, hc01⟩ := open_cols (hval 1 27 v1 rfl rfl) h1
  have h2' := h2
  obtain ⟨fu2, hf2⟩ := h2'
  have lt2 : ∀ x ∈ p2, x.block < W.heap.size := DataW.trod_lt fu2 _ _ _ hf2
  obtain ⟨L2, B2, e2, rfl, hle2, hme2, hva2, hfv2, hv02⟩ := open_vals (hval 2 28 v2 rfl rfl) h2
  have h3' := h3
  obtain ⟨fu3, hf3⟩ := h3'
  have lt3 : ∀ x ∈ p3, x.block < W.heap.size := DataW.trod_lt fu3 _ _ _ hf3
  obtain ⟨L3, B3, e3, rfl, hle3, hme3, hva3, hfv3, hv03⟩ := open_vals (hval 3 28 v3 rfl rfl) h3
  clear hA0 hval0
  obtain ⟨m, hm⟩ := max_of hsh
  have hL' : laidMet Tryz.prog Rows.evalApartRow.laid W := hL
  obtain ⟨a, hv⟩ := env_of hL' hm
  refine (apart16_any x0 C1 L2 L3 v0 A1 B2 B3 c1 e2 e3 W hx0 ht0 hr0 hca1 hfc1 hva2 hfv2 hva3 hfv3 a m hv).mono fun e W' ⟨he, bel⟩ => ?_
  subst he
  exact ⟨_, rfl, _, _, _, [], _, [], hW', trodAll_mk1 (shut_bool Tryz.underlying4 _), (trodAll_cons_mk (Below.trod laidOut (by kernel_rfl) (of_decide_eq_true (by kernel_rfl)) h0 bel lt0) (trodAll_cons_mk (Below.trod laidOut (by kernel_rfl) (of_decide_eq_true (by kernel_rfl)) h1 bel lt1) (trodAll_cons_mk (Below.trod laidOut (by kernel_rfl) (of_decide_eq_true (by kernel_rfl)) h2 bel lt2) (trodAll_cons_mk (Below.trod laidOut (by kernel_rfl) (of_decide_eq_true (by kernel_rfl)) h3 bel lt3) trodAll_mk0)))), rfl, bel.frame _, fun h => by cases h⟩

theorem overEvalApart : Rows.evalApartRow.holds Tryz.pinned (OpenSpec.ofChange Rows.evalApartSpec) :=
  OpenClaim.holds_of_wide 7 Tryz.f7 rfl rfl rfl rfl rfl rfl rfl ⟨rfl, rfl, rfl, rfl, rfl⟩ rfl rfl rfl rfl rfl (by kernel_rfl) Tryz.func7 (by kernel_rfl)
    (of_decide_eq_true (by kernel_rfl)) (by unfold Func.isWrapper; first | (rw [if_pos (by decide +kernel)]; kernel_rfl) | (rw [if_neg (by decide +kernel)]; exact ⟨rfl, rfl⟩))
    (fun os started H enc _ => liftedEvalApart os started H enc)

theorem evalApart_holds : Rows.EvalApartCardSaid :=
  Claim7.holds_tied_plain_at .later [] [.data, .data, .data, .data, .sentinel, .sentinel, .pinned] true _ true
    overEvalApart (fun _ h => by cases h) (by kernel_rfl) (fun _ h => by cases h) evalApart_row_tie rfl ⟨rfl, rfl⟩ (by kernel_rfl) rfl
    (fun f fn hf hfn => by
      obtain rfl : f = 7 := Option.some.inj ((show Tryz.prog.funcNamed Rows.evalApartRow.func = some 7 by kernel_rfl).symm.trans hf) |>.symm
      obtain rfl : fn = Tryz.f7 := (Option.some.inj (Tryz.func7.symm.trans hfn)).symm
      exact ⟨by kernel_rfl, fun j t ht => by
        rw [Tryz.params7] at ht
        have h3 : t = 26 ∨ t = 27 ∨ t = 28 := by
          rcases j with _ | _ | _ | _ | j
          · left; simpa using ht.symm
          · right; left; simpa using ht.symm
          · right; right; simpa using ht.symm
          · right; right; simpa using ht.symm
          · simp at ht
        rcases h3 with rfl | rfl | rfl
        · exact (show Tryz.prog.wantsStandIn 26 = false by kernel_rfl)
        · exact (show Tryz.prog.wantsStandIn 27 = false by kernel_rfl)
        · exact (show Tryz.prog.wantsStandIn 28 = false by kernel_rfl)⟩)
    (by kernel_rfl)
#print axioms evalApart_holds
end Go.Proofs.YteghhmomhlnccaaGreatDoor
