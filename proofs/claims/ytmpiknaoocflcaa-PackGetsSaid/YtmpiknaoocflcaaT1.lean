/- GetValue. -/
import Derived.Test.YtmpiknaoocflcaaS9
namespace Go.Proofs.Ytmpiknaoocflcaa
open Go.RowKit

theorem grown3 (w : World) (q : Nat) (u v x : Value) : w.grownBy (((w.setCell ⟨q, 0, none⟩ u).setCell ⟨q, 1, none⟩ v).setCell ⟨q, 2, none⟩ x) (some q) :=
  grown_set (grown_set (grown_set (World.grownBy.refl w _) 0 _) 1 _) 2 _
set_option maxRecDepth 100000 in
set_option maxHeartbeats 1000000 in
theorem get_value (A : Option Addr) (c : Nat) (l : List UInt8) (w : World) (h : Holds w A l) (hc : l.length ≤ c) (hl : l.length ≤ 100000) :
    Calls Try.prog 20 #[.slice A l.length c] w (Gets w (valOf l) tval (tval (0, 0, ⟨#[]⟩))) := by
  have bal : Below w.heap.size w (w.alloc (.cells #[.int .i64 0, .int .i64 0, .string ⟨#[]⟩] 42)) := (Below.refl _ _).alloc (Nat.le_refl _) _
  have hE : Empty3 (w.alloc (.cells #[.int .i64 0, .int .i64 0, .string ⟨#[]⟩] 42)) w.heap.size := Whole.new w 42 _
  have h' := h.below bal
  clear h
  generalize hA' : w.alloc (.cells #[.int .i64 0, .int .i64 0, .string ⟨#[]⟩] 42) = wA at *
  have GT := Lib.hid (got_value A c l wA h' hc hl)
  have hq : w.heap.size < wA.heap.size := hE.lt
  clear h'
  go_enter Try.func20, Try.ntmps20
  go_wp2_with fail
  try simp only [hA']
  refine GT.out.mono ?_
  intro e w1 hg
  obtain ⟨hb, hg⟩ := hg
  have E1 : Empty3 w1 w.heap.size := Whole.below hE hb hq
  have B1 := Lib.hid (below_next bal hb)
  have q0 := Whole.cell E1 0
  have q1 := Whole.cell E1 1
  have q2 := Whole.cell E1 2
  have f0 := Whole.frozen E1 0
  have f1 := Whole.frozen E1 1
  have f2 := Whole.frozen E1 2
  simp only [List.getElem?_toArray, List.getElem?_cons_zero, List.getElem?_cons_succ] at q0 q1 q2
  have HE1 := Lib.hid E1
  clear E1 GT hA' bal hE
  cases hw : valOf l with
  | some p =>
    obtain ⟨⟨k, n, s⟩, l'⟩ := p
    rw [hw] at hg
    obtain ⟨v, rfl, hr⟩ := hg
    have HR := Lib.hid hr
    have HV := Lib.hid hw
    clear hr hw hb
    dsimp only [tval, Val.val]
    go_wp2_with fail
    refine bodyPost_ret (results_c3 rfl _ _ w.heap.size #[.int .i64 k, .int .i64 n, .string s] rfl (three HE1.out) rfl) rfl ?_
    refine Gets.yes (mk := tval) (v := v) HV.out (below_set3' B1.out (Nat.le_refl _)) (Row.le (Row.apart HR.out (grown3 _ _ _ _ _) (fun j hj => ?_)) (Nat.le_of_lt hq))
    injection hj with hj
    rw [← hj]
    exact hq
  | none =>
    rw [hw] at hg
    subst hg
    have HV := Lib.hid hw
    clear hw hb
    dsimp only [tval, Val.val]
    go_wp2_with fail
    refine bodyPost_ret (results_c3 rfl _ _ w.heap.size #[.int .i64 0, .int .i64 0, .string ⟨#[]⟩] rfl (three HE1.out) rfl) rfl ?_
    exact Gets.no (mk := tval) HV.out (below_set3' B1.out (Nat.le_refl _))
end Go.Proofs.Ytmpiknaoocflcaa
