/- EvalTells (needlebeamlaw16): for any tree, any columns and any values the law returns true: what the tree comes to, and whether it holds, are what the reference says, or the error. Its condition: the library's variables that the row lists hold what the row says of them when the call begins, which the given tie reads off the program's text. -/
import Derived.Test.YteghhmomhlnccaaGreatDoorCards
import Derived.Test.YteghhmomhlnccaaGreatDoorTie
import Derived.Test.YteghhmomhlnccaaGreatDoorYT2
import Derived.Test.YteghhmomhlnccaaGreatDoorYT41
import Derived.Test.YteghhmomhlnccaaGreatDoorYT26
set_option linter.unusedVariables false
set_option linter.unusedSimpArgs false
set_option maxRecDepth 100000
set_option maxHeartbeats 100000000
open Go.RowKit Go.Lib
namespace Go.Proofs.YteghhmomhlnccaaGreatDoor
open Go.ChangeShapes Go.WideShapes Go.ChangeAt Go.RowKit Go.Joins Go.Deep
open Go.ChangeMaps (open_string shut_string)
theorem liftedEvalTells (os:Os) (started:os.Started) (H:Type) (enc:TypeId × Value→H) :
  ReturnsInHanded {} Tryz.checked os 3 .any (fun w args=>(Rows.evalTellsSpec.pre enc Tryz.prog Tryz.f3 Rows.evalTellsRow.domain false w args∧laidMetH Tryz.prog Rows.evalTellsRow.laid w)∧sizedMet enc Tryz.prog Tryz.f3 (OpenSpec.ofChange Rows.evalTellsSpec) false w args)
   (Rows.evalTellsSpec.post enc Tryz.prog Tryz.f3 false true false false):=by
 refine wrapped (C:=Tryz.checked) (X:=fun w _=>laidMetH Tryz.prog Rows.evalTellsRow.laid w) (fun _ _ _ hh h=>h.of_heap hh) own started (by kernel_rfl) Tryz.func3
  (ChangeSpec.witness_shaped (enc:=enc) (C:=Tryz.checked) (os:=os) (X:=fun w _=>laidMetH Tryz.prog Rows.evalTellsRow.laid w) false (World.laidAll Tryz.prog os Rows.evalTellsRow.laid) #[(.agg #[.int .i64 0,.string ⟨#[]⟩,.int .i64 0,.int .i64 0,.string ⟨#[]⟩,.slice none 0 0]),(.slice none 0 0),(.slice none 0 0)] 8 (World.laidAll_os _ _ _)
   (World.shaped_of_ZipB (by kernel_rfl) (by kernel_rfl)) (by kernel_rfl) (by kernel_rfl) (by kernel_rfl)
   (by rw [MakeChecks.laidMetH_plain _ _ _ (by kernel_rfl)]; exact laidMet_laidAll _ (by kernel_rfl) (by kernel_rfl))) ?_
 intro W base args ds gs before hval0 hW hL hsh
 have hval:∀ (j:Nat) t v,Tryz.f3.params[j]?=some t→args[j]?=some v→Value.okWide Tryz.prog W .any base t v:=hval0
 have hW':=hW
 obtain ⟨p,q,hA0,hV,rfl,hfz,hnd⟩:=hW
 have hA:DataW.TrodAll enc Tryz.prog W 0 (fun _=>true) true Tryz.f3.params.toList args.toList ds p:=hA0
 rw [Tryz.params3] at hA hval
 obtain ⟨v0,vs0,d0,ds0,p0,q0,hargs,rfl,rfl,h0,r0⟩:=trodAll_cons hA
 obtain ⟨v1,vs1,d1,ds1,p1,q1,rfl,rfl,rfl,h1,r1⟩:=trodAll_cons r0
 obtain ⟨v2,vs2,d2,ds2,p2,q2,rfl,rfl,rfl,h2,r2⟩:=trodAll_cons r1
 obtain ⟨rfl,rfl,rfl⟩:=trodAll_nil r2
 obtain rfl:args=#[v0,v1,v2]:=by cases args; simp_all
 obtain ⟨rfl,rfl⟩:=trodVars_none hV
 have h0':=h0
 obtain ⟨fu0,hf0⟩:=h0'
 have lt0:∀ x ∈ p0,x.block < W.heap.size:=DataW.trod_lt fu0 _ _ _ hf0
 obtain ⟨x0,hx0,ht0,hr0⟩:=open_tree2 (hval 0 26 v0 rfl rfl) h0
 have h1':=h1
 obtain ⟨fu1,hf1⟩:=h1'
 have lt1:∀ x ∈ p1,x.block < W.heap.size:=DataW.trod_lt fu1 _ _ _ hf1
 obtain ⟨C1,A1,c1,rfl,hlc1,hmx1,hca1,hfc1,hc01⟩:=open_cols (hval 1 27 v1 rfl rfl) h1
 have h2':=h2
 obtain ⟨fu2,hf2⟩:=h2'
 have lt2:∀ x ∈ p2,x.block < W.heap.size:=DataW.trod_lt fu2 _ _ _ hf2
 obtain ⟨L2,B2,e2,rfl,hle2,hme2,hva2,hfv2,hv02⟩:=open_vals (hval 2 28 v2 rfl rfl) h2
 clear hA0 hval0
 obtain ⟨m,hm⟩:=max_of hsh
 have hL':laidMet Tryz.prog Rows.evalTellsRow.laid W:=hL
 obtain ⟨a,hv⟩:=env_of hL' hm
 refine (tells16_any x0 C1 L2 v0 A1 B2 c1 e2 W hx0 ht0 hr0 hca1 hfc1 hva2 hfv2 a m hv).mono fun e W' ⟨he,bel⟩=>?_
 subst he
 exact ⟨_,rfl,_,_,_,[],_,[],hW',trodAll_mk1 (shut_bool Tryz.underlying4 _),(trodAll_cons_mk (Below.trod laidOut (by kernel_rfl) (of_decide_eq_true (by kernel_rfl)) h0 bel lt0) (trodAll_cons_mk (Below.trod laidOut (by kernel_rfl) (of_decide_eq_true (by kernel_rfl)) h1 bel lt1) (trodAll_cons_mk (Below.trod laidOut (by kernel_rfl) (of_decide_eq_true (by kernel_rfl)) h2 bel lt2) trodAll_mk0))),rfl,bel.frame _,fun h=>by cases h⟩
theorem overEvalTells:Rows.evalTellsRow.holds Tryz.pinned (OpenSpec.ofChange Rows.evalTellsSpec):=
 OpenClaim.holds_of_wide 3 Tryz.f3 rfl rfl rfl rfl rfl rfl rfl ⟨rfl,rfl,rfl,rfl,rfl⟩ rfl rfl rfl rfl rfl (by kernel_rfl) Tryz.func3 (by kernel_rfl)
  (of_decide_eq_true (by kernel_rfl)) (by unfold Func.isWrapper; first | (rw [if_pos (by decide +kernel)]; kernel_rfl) | (rw [if_neg (by decide +kernel)]; exact ⟨rfl,rfl⟩))
  (fun os started H enc _=>liftedEvalTells os started H enc)
theorem evalTells_holds:Rows.EvalTellsCardSaid:=
 Claim7.holds_tied_plain_at .later [] [.data,.data,.data,.data,.sentinel,.sentinel,.pinned] true _ true
  overEvalTells (fun _ h=>by cases h) (by kernel_rfl) (fun _ h=>by cases h) evalTells_row_tie rfl ⟨rfl,rfl⟩ (by kernel_rfl) rfl
  (fun f fn hf hfn=>by
   obtain rfl:f=3:=Option.some.inj ((show Tryz.prog.funcNamed Rows.evalTellsRow.func=some 3 by kernel_rfl).symm.trans hf) |>.symm
   obtain rfl:fn=Tryz.f3:=(Option.some.inj (Tryz.func3.symm.trans hfn)).symm
   exact ⟨by kernel_rfl,fun j t ht=>by
    rw [Tryz.params3] at ht
    have h3:t=26∨t=27∨t=28:=by
     rcases j with _ | _ | _ | j
     ·left; simpa using ht.symm
     ·right; left; simpa using ht.symm
     ·right; right; simpa using ht.symm
     ·simp at ht
    rcases h3 with rfl | rfl | rfl
    ·exact (show Tryz.prog.wantsStandIn 26=false by kernel_rfl)
    ·exact (show Tryz.prog.wantsStandIn 27=false by kernel_rfl)
    ·exact (show Tryz.prog.wantsStandIn 28=false by kernel_rfl)⟩)
  (by kernel_rfl)
#print axioms evalTells_holds
end Go.Proofs.YteghhmomhlnccaaGreatDoor
