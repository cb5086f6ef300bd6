/- GetValue. -/
import Derived.Test.YtmpiknaoocflcaaS3
import Derived.Test.YtmpiknaoocflcaaR6
namespace Go.Proofs.Ytmpiknaoocflcaa
open Go.RowKit

theorem results_c3 {fn : Func} {p u v : Tmp} (h : fn.results = #[.cell p 42, .tmp u, .tmp v]) (tmps : Array Value) (w : World) (g : Nat) (cs : Array Value)
    (hp : tmps.getD p undef = .pointer (some ⟨g, 0, none⟩)) (hg : w.heap[g]? = some (.cells cs 42)) (hi : cs.size = 3) :
    (results fn tmps).run Try.prog w = .ok (.tuple #[.agg cs, tmps.getD u undef, tmps.getD v undef]) w := by
  have hp' : tmps[p]?.getD undef = .pointer (some ⟨g, 0, none⟩) := by simpa using hp
  have hs : (Try.prog.info? 42).map (·.size) = some cs.size := by rw [hi]; exact size42
  simp [results, h, hp', asAddr, run_loadVar_row w g 42 42 cs (0, 0) _ hg Val.fieldsVal rfl hs]
theorem below_set3' {w0 W : World} {q : Nat} {u v x : Value} (h : Below w0.heap.size w0 W) (hq : w0.heap.size ≤ q) : Below w0.heap.size w0 (((W.setCell ⟨q, 0, none⟩ u).setCell ⟨q, 1, none⟩ v).setCell ⟨q, 2, none⟩ x) := by
  refine ⟨h.os, h.tape, h.output, by simpa using h.size, fun k hk => ?_⟩
  have e : ∀ (W : World) (i : Nat) (u : Value), (W.setCell ⟨q, i, none⟩ u).heap[k]? = W.heap[k]? := fun W i u => Below.heap_setCell W ⟨q, i, none⟩ u k (by show k ≠ q; omega)
  rw [e, e, e]
  exact h.block k hk
set_option maxRecDepth 100000 in
theorem nothing_value (w : World) : Calls Try.prog 58 #[] w fun e w' => e = .returned (.tuple #[tval (0, 0, ⟨#[]⟩), .slice none 0 0, .int .i64 7]) ∧ Below w.heap.size w w' := by
  have hE : Empty3 (w.alloc (.cells #[.int .i64 0, .int .i64 0, .string ⟨#[]⟩] 42)) w.heap.size := Whole.new w 42 _
  have bal : Below w.heap.size w (w.alloc (.cells #[.int .i64 0, .int .i64 0, .string ⟨#[]⟩] 42)) := (Below.refl _ _).alloc (Nat.le_refl _) _
  go_enter Try.func58, Try.ntmps58
  go_wp2_with fail
  exact bodyPost_ret (v := .tuple #[tval (0, 0, ⟨#[]⟩), .slice none 0 0, .int .i64 7]) (by simp [results, Try.results58, go_sem, tval]) rfl ⟨rfl, bal.alloc bal.size _⟩

set_option maxRecDepth 100000 in
set_option maxHeartbeats 1000000 in
theorem got_value (A : Option Addr) (c : Nat) (l : List UInt8) (w : World) (h : Holds w A l) (hc : l.length ≤ c) (hl : l.length ≤ 100000) :
    Calls Try.prog 45 #[.slice A l.length c, .func (.func 46) #[] #[]] w (Gets w (valOf l) tval (tval (0, 0, ⟨#[]⟩))) := by
  have bal : Below w.heap.size w (w.alloc (.cells #[.int .i64 0, .int .i64 0, .string ⟨#[]⟩] 42)) := (Below.refl _ _).alloc (Nat.le_refl _) _
  have hE : Empty3 (w.alloc (.cells #[.int .i64 0, .int .i64 0, .string ⟨#[]⟩] 42)) w.heap.size := Whole.new w 42 _
  have h' := h.below bal
  clear h
  generalize hA' : w.alloc (.cells #[.int .i64 0, .int .i64 0, .string ⟨#[]⟩] 42) = wA at *
  have RN := Lib.hid (value_any (Rdr.new h' hc) (by omega))
  have hq4 : w.heap.size < wA.heap.size := hE.lt
  clear h'
  go_enter Try.func45, Try.ntmps45
  go_wp2_with fail
  try simp only [hA']
  refine RN.out.mono ?_
  rintro e w1 ⟨⟨k, n, s⟩, rfl, hr⟩
  obtain ⟨l1, b1, hl1, hrd, hcase⟩ := read_state hr
  have hb1 := below_of_grown hrd.grown.1 (Nat.le_refl _)
  have hE1 := hE.below hb1 hq4
  obtain ⟨A1, c1, k0, k1, -, -, -, hW, hc1, -⟩ := hrd.cells
  have hlt1 : wA.heap.size < w1.heap.size := hrd.lt
  have ba2 : Below w1.heap.size w1 (w1.alloc (.cells #[.int .i64 k, .int .i64 n, .string s] 42)) := (Below.refl _ _).alloc (Nat.le_refl _) _
  have hV2 : Whole (w1.alloc (.cells #[.int .i64 k, .int .i64 n, .string s] 42)) w1.heap.size 42 #[.int .i64 k, .int .i64 n, .string s] := Whole.new _ _ _
  have HC := Lib.hid hcase
  have BAL := Lib.hid bal
  clear hr RN hrd hcase hA' bal hE
  dsimp only [tval, Val.val]
  rcases HC.out with ⟨x, hx, he, rfl⟩ | ⟨hx, rfl⟩
  · have CL := fun (W : World) (hbW : Below (w1.alloc (.cells #[.int .i64 k, .int .i64 n, .string s] 42)).heap.size (w1.alloc (.cells #[.int .i64 k, .int .i64 n, .string s] 42)) W) => clone_any A1 c1 l1 W ((hW.below ba2).below hbW) (by omega)
    replace CL := Lib.hid CL
    have HX := Lib.hid hx
    have HE' := Lib.hid he
    have E2 := Lib.hid (hE1.below ba2 (by omega))
    have B2 := Lib.hid (below_next (below_next BAL.out hb1) ba2)
    have V2 := Lib.hid hV2
    have hv1 : w1.heap.size < (w1.alloc (.cells #[.int .i64 k, .int .i64 n, .string s] 42)).heap.size := hV2.lt
    have hv0 : w.heap.size < (w1.alloc (.cells #[.int .i64 k, .int .i64 n, .string s] 42)).heap.size := by omega
    clear hx he hW hE1 hb1 ba2 hV2
    go_wp2_with fail
    go_region_with (
      go_at_call 51
      (with_reducible refine (CL.out _ ((Below.refl _ _).drew)).mono ?_)
      rintro r w3 ⟨v3, rfl, hr3, hb3⟩
      have d0 := (V2.out.below (below_next ((Below.refl _ _).drew) hb3) hv1).cell 0
      have d1 := (V2.out.below (below_next ((Below.refl _ _).drew) hb3) hv1).cell 1
      have d2 := (V2.out.below (below_next ((Below.refl _ _).drew) hb3) hv1).cell 2
      have q0 := (Whole.below E2.out (below_next ((Below.refl _ _).drew) hb3) hv0).cell 0
      have q1 := (Whole.below E2.out (below_next ((Below.refl _ _).drew) hb3) hv0).cell 1
      have q2 := (Whole.below E2.out (below_next ((Below.refl _ _).drew) hb3) hv0).cell 2
      have f0 := (Whole.below E2.out (below_next ((Below.refl _ _).drew) hb3) hv0).frozen 0
      have f1 := (Whole.below E2.out (below_next ((Below.refl _ _).drew) hb3) hv0).frozen 1
      have f2 := (Whole.below E2.out (below_next ((Below.refl _ _).drew) hb3) hv0).frozen 2
      simp only [List.getElem?_toArray, List.getElem?_cons_zero, List.getElem?_cons_succ] at d0 d1 d2 q0 q1 q2)
    all_goals
      go_wp2_with fail
      refine bodyPost_ret (results_c3 rfl _ _ w.heap.size #[.int .i64 k, .int .i64 n, .string s] rfl (three (Whole.below E2.out (below_next ((Below.refl _ _).drew) hb3) hv0)) rfl) rfl ?_
      have hx' : valOf l = some ((k, n, s), l1) := by rw [HX.out, ← HE'.out]
      refine Gets.yes (mk := tval) (v := v3) hx' (below_set3' (below_next B2.out (below_next ((Below.refl _ _).drew) hb3)) (Nat.le_refl _)) (Row.le (Row.apart hr3 (grown_set (grown_set (grown_set (World.grownBy.refl w3 _) 0 _) 1 _) 2 _) (fun j hj => ?_)) (Nat.le_of_lt hv0))
      injection hj with hj
      rw [← hj]
      exact hv0
  · have E2 := Lib.hid (hE1.below ba2 (by omega))
    have B2 := Lib.hid (below_next (below_next BAL.out hb1) ba2)
    have HX := Lib.hid hx
    have hv0 : w.heap.size < (w1.alloc (.cells #[.int .i64 k, .int .i64 n, .string s] 42)).heap.size := E2.out.lt
    clear hx hW hE1 hb1 ba2 hV2
    go_wp2_with fail
    refine (nothing_value _).mono ?_
    rintro e w3 ⟨rfl, b3⟩
    have E3 : Empty3 w3 w.heap.size := Whole.below E2.out b3 hv0
    have B3 := Lib.hid (below_next B2.out b3)
    have q0 := Whole.cell E3 0
    have q1 := Whole.cell E3 1
    have q2 := Whole.cell E3 2
    have f0 := Whole.frozen E3 0
    have f1 := Whole.frozen E3 1
    have f2 := Whole.frozen E3 2
    simp only [List.getElem?_toArray, List.getElem?_cons_zero, List.getElem?_cons_succ] at q0 q1 q2
    have HE3 := Lib.hid E3
    clear E3 b3
    dsimp only [tval, Val.val]
    go_wp2_with fail
    refine bodyPost_ret (results_c3 rfl _ _ w.heap.size #[.int .i64 0, .int .i64 0, .string ⟨#[]⟩] rfl (three HE3.out) rfl) rfl ?_
    exact Gets.no (mk := tval) HX.out (below_set3' B3.out (Nat.le_refl _))
end Go.Proofs.Ytmpiknaoocflcaa
