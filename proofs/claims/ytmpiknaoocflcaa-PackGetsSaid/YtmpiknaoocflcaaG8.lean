/- rest: the tail of some bytes. -/
import Derived.Test.YtmpiknaoocflcaaG7
namespace Go.Proofs.Ytmpiknaoocflcaa
open Go.RowKit

set_option maxRecDepth 100000 in
theorem rest_same (A B : Option Addr) (c d : Nat) (l : List UInt8) (q : Nat) (w : World) (hA : Holds w A (l.drop q)) (hB : Holds w B l) (hd : l.length ≤ d) (hq : q ≤ l.length) (hl : l.length ≤ 3000) :
    Calls Try.prog 28 #[.slice A (l.drop q).length c, .slice B l.length d, .int .i64 (q : Nat)] w fun e w' => e = .returned (.bool true) ∧ w' = w := by
  have hD := hB.drop q d hd
  have hq9 : (q : Int) ≤ (l.length : Int) := by omega
  have hl9 : (l.length : Int) ≤ 3000 := by omega
  have hlen : (l.drop q).length = l.length - q := List.length_drop
  by_cases hdq : d = q
  · rw [if_pos hdq] at hD
    have SM := same_self A B c (d - q) (l.drop q) w hA hD
    rw [hlen] at SM ⊢
    have h0 : l.length - q = 0 := by omega
    have h00 : d - q = 0 := by omega
    rw [h0, h00] at SM
    rw [h0]
    have hql : l.length = q := by omega
    replace SM := Lib.hid SM
    subst hdq
    rw [hql]
    clear hA hB hD hlen h0 h00 hql
    go_enter Try.func28, Try.ntmps28
    go_wp2_with fail
    refine SM.out.mono ?_
    rintro e w1 ⟨rfl, rfl⟩
    go_wp2_with fail
    go_ret
    exact ⟨rfl, rfl⟩
  · rw [if_neg hdq] at hD
    have SM := same_self A _ c (d - q) (l.drop q) w hA hD
    rw [hlen] at SM ⊢
    replace SM := Lib.hid SM
    have hdq' : (d = q) = False := eq_false hdq
    clear hA hB hD hlen hdq
    go_enter Try.func28, Try.ntmps28
    go_wp2_with fail
    refine SM.out.mono ?_
    rintro e w1 ⟨rfl, rfl⟩
    go_wp2_with fail
    go_ret
    exact ⟨rfl, rfl⟩
end Go.Proofs.Ytmpiknaoocflcaa
