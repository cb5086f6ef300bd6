/- The reference's Same. -/
import Derived.Test.YtbpknainmefidaaGreatDoorHT
import Derived.Test.YtbpknainmefidaaGreatDoorV8
import Derived.StillTailTactics
namespace Go.Proofs.YtbpknainmefidaaGreatDoor
open Go.RowKit Go.Lib
set_option linter.unusedVariables false
set_option linter.unusedSimpArgs false
set_option maxRecDepth 100000
attribute [local go_sem ↓] eqVal neqVal
open Ex (Tree)

set_option maxHeartbeats 1000000 in
theorem refSame_all (N : Nat) : ∀ (X : Tree), Ex.count X ≤ N → Ex.count X ≤ 1000000 → ∀ (Y : Tree) (v u : Value) (w : World), NodeV w v X → NodeV w u Y →
    Calls Tryz.prog 19 #[v, u] w fun e w' => e = .returned (.bool (Ex.same X Y)) ∧ Below w.heap.size w w' := by
  induction N with
  | zero => intro T h; have := Ex.count_pos T; omega
  | succ N ih =>
    intro X hN hM Y v u w hX hY
    cases X with
    | node op t vk vn vs ks =>
    cases Y with
    | node op' t' vk' vn' vs' ls =>
    obtain ⟨A, c, rfl, hcc, hk⟩ := hX
    obtain ⟨B, d, rfl, hdd, hl⟩ := hY
    have IH := Lib.hid (fun i (hi : i < ks.length) (y : Tree) => ih ks[i] (by have := count_lt (op := op) (t := t) (vk := vk) (vn := vn) (vs := vs) (List.getElem_mem hi); omega) (by have := count_lt (op := op) (t := t) (vk := vk) (vn := vn) (vs := vs) (List.getElem_mem hi); omega) y)
    have hks0 : Ex.counts ks + 1 = Ex.count (.node op t vk vn vs ks) := by rw [Ex.count]
    have hlen := Ex.length_counts ks
    have hn9 : (ks.length : Int) ≤ 1000000 := by omega
    have b1 : Below w.heap.size w ((w.alloc (.cells (ncells op t vk vn vs A ks.length c) 26)).alloc (.cells (ncells op' t' vk' vn' vs' B ls.length d) 26)) := ((Below.refl _ _).alloc (Nat.le_refl _) _).alloc (by simp) _
    have k0 := (Whole.new w 26 (ncells op t vk vn vs A ks.length c)).alloc (.cells (ncells op' t' vk' vn' vs' B ls.length d) 26)
    have k1 := Whole.new (w.alloc (.cells (ncells op t vk vn vs A ks.length c) 26)) 26 (ncells op' t' vk' vn' vs' B ls.length d)
    simp only [World.size_alloc] at k1
    have HE := Lib.hid (same_node op t vk vn vs ks op' t' vk' vn' vs' ls)
    have B1 := Lib.hid b1
    have K0 := Lib.hid k0
    have K1 := Lib.hid k1
    clear ih hks0 hlen b1 hN hM
    unfold ncells at *
    obtain ⟨c0, c1, c2, c3, c4, c5⟩ := six_of k0
    obtain ⟨d0, d1, d2, d3, d4, d5⟩ := six_of k1
    clear k0 k1
    go_enter Tryz.func19, Tryz.ntmps19
    cases h1 : (op == op')
    · have HF : Hid (Ex.same (.node op t vk vn vs ks) (.node op' t' vk' vn' vs' ls) = false) := Lib.hid (by rw [HE.out, h1]; rfl)
      have h1' : (op != op') = true := by rw [bne, h1]; rfl
      go_wp2_with fail
      go_ret
      exact ⟨by rw [HF.out]; rfl, B1.out⟩
    have h1' : (op != op') = false := by rw [bne, h1]; rfl
    cases h2 : (t == t')
    · have HF : Hid (Ex.same (.node op t vk vn vs ks) (.node op' t' vk' vn' vs' ls) = false) := Lib.hid (by rw [HE.out, h1, h2]; rfl)
      go_wp2_with fail
      go_ret
      exact ⟨by rw [HF.out]; rfl, B1.out⟩
    cases h3 : same vk vn (tx vs) vk' vn' (tx vs')
    · have HF : Hid (Ex.same (.node op t vk vn vs ks) (.node op' t' vk' vn' vs' ls) = false) := Lib.hid (by rw [HE.out, h1, h2, h3]; rfl)
      go_wp2_with fail
      go_ret
      exact ⟨by rw [HF.out]; rfl, B1.out⟩
    have HF : Hid (Ex.same (.node op t vk vn vs ks) (.node op' t' vk' vn' vs' ls) = Ex.sames ks ls) := Lib.hid (by rw [HE.out, h1, h2, h3]; rfl)
    by_cases hll : ks.length = ls.length
    · have HLL := Lib.hid hll
      obtain ⟨n, hn'⟩ : ∃ n, ks.length = n := ⟨_, rfl⟩
      rw [← hll] at d5 K1 K0 B1 ⊢
      rw [hn'] at c5 d5 K1 K0 B1 hn9 ⊢
      have HN := Lib.hid hn'
      clear hll hn'
      go_wp2_with fail
      generalize (w.alloc (.cells #[.int .i64 op, .string (tx t), .int .i64 vk, .int .i64 vn, .string (tx vs), .slice A n c] 26)).alloc (.cells #[.int .i64 op', .string (tx t'), .int .i64 vk', .int .i64 vn', .string (tx vs'), .slice B n d] 26) = W1 at *
      clear c0 c1 c2 c3 c4 c5 d0 d1 d2 d3 d4 d5 h1 h1' h2 h3
      go_loopg [5] (n + 1) (fun j s5 wr => ∃ i : Nat, i ≤ n ∧ n < i + j ∧ s5 = .int .i64 (i : Nat) ∧ Hid (∀ k (h1 : k < ks.length) (h2 : k < ls.length), k < i → Ex.same ks[k] ls[k] = true) ∧ Hid (Below W1.heap.size W1 wr))
      case atStart => exact ⟨0, by omega, by omega, rfl, Lib.hid (fun k _ _ h => absurd h (Nat.not_lt_zero _)), Lib.hid (Below.refl _ _)⟩
      case round =>
        obtain ⟨i, hi, hj, rfl, HE2, HB⟩ := hrel
        have HBW := Lib.hid (bstep B1.out HB.out)
        obtain ⟨-, -, -, -, -, c5⟩ := six_of (K0.out.below HB.out K0.out.lt)
        obtain ⟨-, -, -, -, -, d5⟩ := six_of (K1.out.below HB.out K1.out.lt)
        by_cases hlt : i < n
        · have hlt' : (i : Int) < (n : Int) := by omega
          have hik : i < ks.length := by rw [HN.out]; exact hlt
          have hil : i < ls.length := by rw [← HLL.out]; exact hik
          obtain ⟨b, o, xop, xt, xvk, xvn, xvs, l, C, m, rfl, hx, q0, q1, q2, q3, q4, q5, hv⟩ := (hk.below HBW.out).kid i hik
          obtain ⟨b', o', yop, yt, yvk, yvn, yvs, l', C', m', rfl, hx', r0, r1, r2, r3, r4, r5, hv'⟩ := (hl.below HBW.out).kid i hil
          have hd : Below wr.heap.size wr wr.drew := (Below.refl _ _).drew
          have HCC := Lib.hid (IH.out i hik ls[i] _ _ _ (hv.below hd) (hv'.below hd))
          clear hx hx' hv hv' hd
          unfold ncells at *
          go_wp2_with fail
          go_still_tail 10, (by kernel_rfl)
          change wpList _ _ _ _ _ wr.drew
          go_wp2_with fail
          refine HCC.out.mono ?_
          rintro e w2 ⟨rfl, hb⟩
          have HB2 := Lib.hid (bstep HB.out (bdrew1 hb))
          have HBW2 := Lib.hid (bstep B1.out HB2.out)
          clear hb HCC c5 d5 q0 q1 q2 q3 q4 q5 r0 r1 r2 r3 r4 r5
          cases hq : Ex.same ks[i] ls[i]
          · have HG : Hid (Ex.same (.node op t vk vn vs ks) (.node op' t' vk' vn' vs' ls) = false) := Lib.hid (by rw [HF.out]; exact sames_at i hik hil hq)
            go_wp2_with fail
            go_ret
            exact ⟨by rw [HG.out]; rfl, HBW2.out⟩
          · have HE3 : Hid (∀ k (h1 : k < ks.length) (h2 : k < ls.length), k < i + 1 → Ex.same ks[k] ls[k] = true) := Lib.hid (fun k h1 h2 h3 => by
              by_cases hki : k = i
              · subst hki; exact hq
              · exact HE2.out k h1 h2 (by omega))
            clear HE2
            go_wp2_with fail
            go_roundg (n - i)
            case measure => omega
            case rel => exact ⟨i + 1, by omega, by omega, by go_num, HE3, HB2⟩
        · have hlt' : ¬ (i : Int) < (n : Int) := by omega
          have HG : Hid (Ex.same (.node op t vk vn vs ks) (.node op' t' vk' vn' vs' ls) = true) := Lib.hid (by rw [HF.out]; exact sames_all HLL.out fun k h1 h2 => HE2.out k h1 h2 (by have := HN.out; omega))
          go_wp2_with fail
          go_ret
          exact ⟨by rw [HG.out]; rfl, HBW.out⟩
    · have HG : Hid (Ex.same (.node op t vk vn vs ks) (.node op' t' vk' vn' vs' ls) = false) := Lib.hid (by rw [HF.out]; exact sames_len hll)
      have hl' : ((ks.length : Int) != (ls.length : Int)) = true := by rw [bne_iff_ne]; omega
      clear hll
      go_wp2_with fail
      go_ret
      exact ⟨by rw [HG.out]; rfl, B1.out⟩
end Go.Proofs.YtbpknainmefidaaGreatDoor
