/- PackGets walked. -/
import Derived.Test.YtmpiknaoocflcaaC3B
namespace Go.Proofs.Ytmpiknaoocflcaa
open Go.RowKit

attribute [local go_sem ↓] Val.neqVal in
set_option maxRecDepth 100000 in
set_option maxHeartbeats 20000000 in
theorem packGets_all (B : Option Addr) (c : Nat) (l : List UInt8) (w : World) (hB : Holds w B l) (hc : l.length ≤ c) :
    Calls Try.prog 5 #[.slice B l.length c] w fun e w' => e = .returned (.bool true) ∧ Below w.heap.size w w' := by
  have HB := Lib.hid hB
  have HC := Lib.hid hc
  clear hB hc
  go_enter Try.func5, Try.ntmps5
  go_wp2_with fail
  refine (awake_any _).mono ?_
  rintro e w1 ⟨rfl, b1⟩
  have B1 := Lib.hid b1
  clear b1
  by_cases hx : l.length ≤ 3000
  · have hx' : ¬ (3000 : Int) < (l.length : Int) := by omega
    have G1 := Lib.hid (get_uint B c l w1 (HB.out.below B1.out) HC.out (by omega))
    go_wp2_with fail
    refine G1.out.mono ?_
    rintro e v1 hg
    obtain ⟨hb, a, v, cc, rfl, hm⟩ := hg.flat
    have D1 := Lib.hid (below_next B1.out hb)
    have HM1 := Lib.hid hm
    have RG := refGetUint B c l 0 v1 (HB.out.below D1.out) (by omega) (Nat.zero_le _)
    rw [List.drop_zero] at RG
    replace RG := Lib.hid RG
    clear hb hm hg G1
    go_wp2_with fail
    refine RG.out.mono ?_
    rintro e x1 ⟨he, k, rfl⟩
    have E1 := Lib.hid (below_drewN D1.out k)
    have HO1 : Hid (∀ v l', Row v1 w1.heap.size v l' → Row (v1.drewN k) w1.heap.size v l') := Lib.hid (fun v l' h => h.below (below_drewN (Below.refl _ _) k))
    obtain ⟨a', p', o', hp, hm'⟩ := placed_flat l.length (numOf l) (fun x : Nat => .int .u64 (x : Nat)) (.int .u64 0)
    rw [hp] at he
    subst he
    have HP1 := Lib.hid hm'
    clear hp hm' RG
    go_upto_region 7 with fail
    go_cut [67] from 34 to 67 (fun sT wq => sT = .bool false ∧ Below w.heap.size w wq)
    case first =>
      have hm := HM1.out
      have hp := HP1.out
      cases hq : numOf l with
      | none =>
        rw [hq] at hm hp
        rcases hm with ⟨_, _, h, _⟩ | ⟨-, rfl, rfl, rfl⟩
        · cases h
        rcases hp with ⟨_, _, h, _⟩ | ⟨-, rfl, rfl, rfl⟩
        · cases h
        clear hq HM1 HP1
        go_wp2_with fail
        go_meet
        case rel => exact ⟨rfl, E1.out⟩
      | some q =>
        obtain ⟨x, l'⟩ := q
        rw [hq] at hm hp
        rcases hm with ⟨_, _, h, rfl, rfl, hr⟩ | ⟨h, _⟩
        rotate_left
        · cases h
        cases h
        rcases hp with ⟨_, _, h, rfl, rfl, rfl⟩ | ⟨h, _⟩
        rotate_left
        · cases h
        cases h
        obtain ⟨Q, hQ, rfl, hl⟩ := num_left hq
        obtain ⟨X, cx, rfl, hX, hcx, -⟩ := (HO1.out _ _ hr).shape
        have RS := rest_same X B cx c l Q _ hX (HB.out.below E1.out) HC.out hQ hx
        generalize (l.drop Q).length = m at *
        subst hl
        replace RS := Lib.hid RS
        clear hq HM1 HP1 hr hX hcx hQ HO1
        go_wp2_with fail
        refine RS.out.mono ?_
        rintro e y ⟨rfl, rfl⟩
        go_wp2_with fail
        go_meet
        case rel => exact ⟨rfl, E1.out⟩
    case rest =>
    obtain ⟨rfl, hb⟩ := hcut
    have C1 := Lib.hid hb
    clear hb HM1 HP1 HO1 E1 D1
    rename World => wc1
    go_step
    go_step
    go_step
    go_step
    go_step
    exact gets2 B c l w wc1 HB HC C1 hx
  · have hx' : (3000 : Int) < (l.length : Int) := by omega
    go_wp2_with fail
    go_ret
    exact ⟨rfl, B1.out⟩
end Go.Proofs.Ytmpiknaoocflcaa
