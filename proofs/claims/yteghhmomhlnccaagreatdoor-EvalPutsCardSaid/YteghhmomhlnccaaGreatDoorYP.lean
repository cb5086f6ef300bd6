/- EvalPuts (needlebeamlaw16): for any two trees, any columns, any values and any number the law returns true: over a row, a column's name replaced by a tree that has a value there comes to what comes out over the row with that value. Its condition: the library's variables that the row lists hold what the row says of them when the call begins, which the given tie reads off the program's text. -/
import Derived.Test.YteghhmomhlnccaaGreatDoorCards
import Derived.Test.YteghhmomhlnccaaGreatDoorTie
import Derived.Test.YteghhmomhlnccaaGreatDoorYP2
import Derived.Test.YteghhmomhlnccaaGreatDoorYP21
import Derived.Test.YteghhmomhlnccaaGreatDoorYP19
set_option linter.unusedVariables false
set_option linter.unusedSimpArgs false
namespace Go.Proofs.YteghhmomhlnccaaGreatDoor
open Go.ChangeShapes Go.WideShapes Go.ChangeAt Go.RowKit Go.Joins Go.Deep
open Go.ChangeMaps (open_string shut_string)
set_option maxRecDepth 100000
theorem liftedEvalPuts (os : Os) (started : os.Started) (H : Type) (enc : TypeId × Value → H) :
  ReturnsInHanded {} Tryz.checked os 5 .any (fun w args => (Rows.evalPutsSpec.pre enc Tryz.prog Tryz.f5 Rows.evalPutsRow.domain false w args ∧ laidMetH Tryz.prog Rows.evalPutsRow.laid w) ∧ sizedMet enc Tryz.prog Tryz.f5 (OpenSpec.ofChange Rows.evalPutsSpec) false w args)
   (Rows.evalPutsSpec.post enc Tryz.prog Tryz.f5 false true false false) := by
 refine wrapped (C := Tryz.checked) (X := fun w _ => laidMetH Tryz.prog Rows.evalPutsRow.laid w) (fun _ _ _ hh h => h.of_heap hh) own started (by kernel_rfl) Tryz.func5
  (ChangeSpec.witness_shaped (enc := enc) (C := Tryz.checked) (os := os) (X := fun w _ => laidMetH Tryz.prog Rows.evalPutsRow.laid w) false (World.laidAll Tryz.prog os Rows.evalPutsRow.laid) #[(.agg #[.int .i64 0, .string ⟨#[]⟩, .int .i64 0, .int .i64 0, .string ⟨#[]⟩, .slice none 0 0]), (.agg #[.int .i64 0, .string ⟨#[]⟩, .int .i64 0, .int .i64 0, .string ⟨#[]⟩, .slice none 0 0]), (.slice none 0 0), (.slice none 0 0), .int .i64 0] 8 (World.laidAll_os _ _ _)
   (World.shaped_of_ZipB (by kernel_rfl) (by kernel_rfl)) (by kernel_rfl) (by kernel_rfl) (by kernel_rfl)
   (by rw [MakeChecks.laidMetH_plain _ _ _ (by kernel_rfl)]; exact laidMet_laidAll _ (by kernel_rfl) (by kernel_rfl))) ?_
 intro W base args ds gs before hval0 hW hL hsh
 have hval : ∀ (j : Nat) t v, Tryz.f5.params[j]? = some t → args[j]? = some v → Value.okWide Tryz.prog W .any base t v := hval0
 have hW' := hW
 obtain ⟨p, q, hA0, hV, rfl, hfz, hnd⟩ := hW
 have hA : DataW.TrodAll enc Tryz.prog W 0 (fun _ => true) true Tryz.f5.params.toList args.toList ds p := hA0
 rw [Tryz.params5] at hA hval
 obtain ⟨v0, vs0, d0, ds0, p0, q0, hargs, rfl, rfl, h0, r0⟩ := trodAll_cons hA
 obtain ⟨v1, vs1, d1, ds1, p1, q1, rfl, rfl, rfl, h1, r1⟩ := trodAll_cons r0
 obtain ⟨v2, vs2, d2, ds2, p2, q2, rfl, rfl, rfl, h2, r2⟩ := trodAll_cons r1
 obtain ⟨v3, vs3, d3, ds3, p3, q3, rfl, rfl, rfl, h3, r3⟩ := trodAll_cons r2
 obtain ⟨v4, vs4, d4, ds4, p4, q4, rfl, rfl, rfl, h4, r4⟩ := trodAll_cons r3
 obtain ⟨rfl, rfl, rfl⟩ := trodAll_nil r4
 obtain rfl : args = #[v0, v1, v2, v3, v4] := by cases args; simp_all
 obtain ⟨rfl, rfl⟩ := trodVars_none hV
 have h0' := h0
 obtain ⟨fu0, hf0⟩ := h0'
 have lt0 : ∀ x ∈ p0, x.block < W.heap.size := DataW.trod_lt fu0 _ _ _ hf0
 obtain ⟨x0, hx0, ht0, hr0⟩ := open_tree2 (hval 0 26 v0 rfl rfl) h0
 have h1' := h1
 obtain ⟨fu1, hf1⟩ := h1'
 have lt1 : ∀ x ∈ p1, x.block < W.heap.size := DataW.trod_lt fu1 _ _ _ hf1
 obtain ⟨x1, hx1, ht1, hr1⟩ := open_tree2 (hval 1 26 v1 rfl rfl) h1
 have h2' := h2
 obtain ⟨fu2, hf2⟩ := h2'
 have lt2 : ∀ x ∈ p2, x.block < W.heap.size := DataW.trod_lt fu2 _ _ _ hf2
 obtain ⟨C2, A2, c2, rfl, hlc2, hmx2, hca2, hfc2, hc02⟩ := open_cols (hval 2 27 v2 rfl rfl) h2
 have h3' := h3
 obtain ⟨fu3, hf3⟩ := h3'
 have lt3 : ∀ x ∈ p3, x.block < W.heap.size := DataW.trod_lt fu3 _ _ _ hf3
 obtain ⟨L3, B3, e3, rfl, hle3, hme3, hva3, hfv3, hv03⟩ := open_vals (hval 3 28 v3 rfl rfl) h3
 obtain ⟨n4, rfl, rfl, rfl, w4⟩ := open_int Tryz.underlying3 (hval 4 3 v4 rfl rfl) h4
 clear hA0 hval0
 obtain ⟨m, hm⟩ := max_of hsh
 have hL' : laidMet Tryz.prog Rows.evalPutsRow.laid W := hL
 obtain ⟨a, hv⟩ := env_of hL' hm
 refine (puts16_any x0 x1 C2 L3 v0 v1 A2 B3 c2 e3 n4 W hx0 hx1 ht0 ht1 hr0 hr1 hca2 hfc2 hva3 hfv3 a m hv).mono fun e W' ⟨he, bel⟩ => ?_
 subst he
 exact ⟨_, rfl, _, _, _, [], _, [], hW', trodAll_mk1 (shut_bool Tryz.underlying4 _), (trodAll_cons_mk (Below.trod laidOut (by kernel_rfl) (of_decide_eq_true (by kernel_rfl)) h0 bel lt0) (trodAll_cons_mk (Below.trod laidOut (by kernel_rfl) (of_decide_eq_true (by kernel_rfl)) h1 bel lt1) (trodAll_cons_mk (Below.trod laidOut (by kernel_rfl) (of_decide_eq_true (by kernel_rfl)) h2 bel lt2) (trodAll_cons_mk (Below.trod laidOut (by kernel_rfl) (of_decide_eq_true (by kernel_rfl)) h3 bel lt3) (trodAll_cons_mk (shut_int Tryz.underlying3 w4) trodAll_mk0))))), rfl, bel.frame _, fun h => by cases h⟩
theorem overEvalPuts : Rows.evalPutsRow.holds Tryz.pinned (OpenSpec.ofChange Rows.evalPutsSpec) :=
 OpenClaim.holds_of_wide 5 Tryz.f5 rfl rfl rfl rfl rfl rfl rfl ⟨rfl, rfl, rfl, rfl, rfl⟩ rfl rfl rfl rfl rfl (by kernel_rfl) Tryz.func5 (by kernel_rfl)
  (of_decide_eq_true (by kernel_rfl)) (by unfold Func.isWrapper; first | (rw [if_pos (by decide +kernel)]; kernel_rfl) | (rw [if_neg (by decide +kernel)]; exact ⟨rfl, rfl⟩))
  (fun os started H enc _ => liftedEvalPuts os started H enc)
theorem evalPuts_holds : Rows.EvalPutsCardSaid :=
 Claim7.holds_tied_plain_at .later [] [.data, .data, .data, .data, .sentinel, .sentinel, .pinned] true _ true
  overEvalPuts (fun _ h => by cases h) (by kernel_rfl) (fun _ h => by cases h) evalPuts_row_tie rfl ⟨rfl, rfl⟩ (by kernel_rfl) rfl
  (fun f fn hf hfn => by
   obtain rfl : f = 5 := Option.some.inj ((show Tryz.prog.funcNamed Rows.evalPutsRow.func = some 5 by kernel_rfl).symm.trans hf) |>.symm
   obtain rfl : fn = Tryz.f5 := (Option.some.inj (Tryz.func5.symm.trans hfn)).symm
   exact ⟨by kernel_rfl, fun j t ht => by
    rw [Tryz.params5] at ht
    have h3 : t = 26 ∨ t = 27 ∨ t = 28 ∨ t = 3 := by
     rcases j with _ | _ | _ | _ | _ | j
     ·left; simpa using ht.symm
     ·left; simpa using ht.symm
     ·right; left; simpa using ht.symm
     ·right; right; left; simpa using ht.symm
     ·right; right; right; simpa using ht.symm
     ·simp at ht
    rcases h3 with rfl | rfl | rfl | rfl
    ·exact (show Tryz.prog.wantsStandIn 26 = false by kernel_rfl)
    ·exact (show Tryz.prog.wantsStandIn 27 = false by kernel_rfl)
    ·exact (show Tryz.prog.wantsStandIn 28 = false by kernel_rfl)
    ·exact (show Tryz.prog.wantsStandIn 3 = false by kernel_rfl)⟩)
  (by kernel_rfl)
#print axioms evalPuts_holds
end Go.Proofs.YteghhmomhlnccaaGreatDoor
