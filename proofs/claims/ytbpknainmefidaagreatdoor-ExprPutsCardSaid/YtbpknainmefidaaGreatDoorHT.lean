/- Same, EqualFunc: are two trees the same? The reference's Same. -/
import Derived.Test.YtbpknainmefidaaGreatDoorHMC
import Derived.Test.YtbpknainmefidaaGreatDoorHMB
namespace Go.Proofs.YtbpknainmefidaaGreatDoor
open Go.RowKit Go.Lib
set_option linter.unusedVariables false
set_option linter.unusedSimpArgs false
set_option maxRecDepth 100000
attribute [local go_sem ↓] eqVal neqVal
open Ex (Tree)

theorem same_node (op : Int) (t : List UInt8) (vk vn : Int) (vs : List UInt8) (ks : List Tree) (op' : Int) (t' : List UInt8) (vk' vn' : Int) (vs' : List UInt8) (ks' : List Tree) :
    Ex.same (.node op t vk vn vs ks) (.node op' t' vk' vn' vs' ks') = (op == op' && (t == t' && (same vk vn (tx vs) vk' vn' (tx vs') && Ex.sames ks ks'))) := by
  rw [Ex.same]
  unfold same
  rw [ByteArray.toList_eq, ByteArray.toList_eq]
  simp only [Bool.and_assoc]
theorem sames_at {ks ls : List Tree} (i : Nat) (h : i < ks.length) (h' : i < ls.length) (hf : Ex.same ks[i] ls[i] = false) : Ex.sames ks ls = false := by
  rw [Bool.eq_false_iff]
  intro e
  have e2 := (Ex.sames_iff ks ls).1 e
  subst e2
  have := (Ex.same_iff ks[i] ks[i]).2 rfl
  rw [hf] at this
  cases this
theorem sames_len {ks ls : List Tree} (h : ks.length ≠ ls.length) : Ex.sames ks ls = false := by
  rw [Bool.eq_false_iff]
  intro e
  exact h (by rw [(Ex.sames_iff ks ls).1 e])
theorem sames_all {ks ls : List Tree} (hl : ks.length = ls.length) (h : ∀ i (h1 : i < ks.length) (h2 : i < ls.length), Ex.same ks[i] ls[i] = true) : Ex.sames ks ls = true :=
  (Ex.sames_iff ks ls).2 (List.ext_getElem hl fun i h1 h2 => (Ex.same_iff _ _).1 (h i h1 h2))
/-- EqualFunc over kids that Same serves. -/
theorem equal_of (ks ls : List Tree) (IH : ∀ i (h : i < ks.length), ∀ (y : Tree) (v u : Value) (w : World), NodeV w v ks[i] → NodeV w u y → Calls Tryz.prog 21 #[v, u] w fun e w' => e = .returned (.bool (Ex.same ks[i] y)) ∧ Below w.heap.size w w')
    (A B : Option Addr) (c d : Nat) (w : World) (hA : TreesAt w A 0 ks) (hB : TreesAt w B 0 ls) (hn : ks.length ≤ 1000000) :
    Calls Tryz.prog 31 #[.slice A ks.length c, .slice B ls.length d, .func (.func 21) #[] #[]] w fun e w' => e = .returned (.bool (Ex.sames ks ls)) ∧ Below w.heap.size w w' := by
  have HI := Lib.hid IH
  clear IH
  by_cases hl : ks.length = ls.length
  · have HL := Lib.hid hl
    have hn9 : (ks.length : Int) ≤ 1000000 := by omega
    obtain ⟨n, hn'⟩ : ∃ n, ks.length = n := ⟨_, rfl⟩
    rw [← hl]
    rw [hn'] at hn9 ⊢
    have HN := Lib.hid hn'
    clear hl hn' hn
    go_enter Tryz.func31, Tryz.ntmps31
    go_wp2_with fail
    go_loopg [7, 8, 9, 17] (n + 1) (fun j s7 s8 s9 s17 wr => ∃ i : Nat, i ≤ n ∧ n < i + j ∧ s17 = .int .i64 (i : Nat) ∧ Hid (∀ k (h1 : k < ks.length) (h2 : k < ls.length), k < i → Ex.same ks[k] ls[k] = true) ∧ Hid (Below w.heap.size w wr))
    case atStart => exact ⟨0, by omega, by omega, rfl, Lib.hid (fun k _ _ h => absurd h (Nat.not_lt_zero _)), Lib.hid (Below.refl _ _)⟩
    case round =>
      obtain ⟨i, hi, hj, rfl, HE, HB⟩ := hrel
      by_cases hlt : i < n
      · have hlt' : (i : Int) < (n : Int) := by omega
        have hik : i < ks.length := by rw [HN.out]; exact hlt
        have hil : i < ls.length := by rw [← HL.out]; exact hik
        obtain ⟨b, o, op, t, vk, vn, vs, l, C, m, rfl, hx, c0, c1, c2, c3, c4, c5, hv⟩ := (hA.below HB.out).kid i hik
        have b1 : Below wr.heap.size wr (wr.alloc (.cells (ncells op t vk vn vs C l.length m) 26)) := (Below.refl _ _).alloc (Nat.le_refl _) _
        obtain ⟨b', o', op', t', vk', vn', vs', l', C', m', rfl, hx', d0, d1, d2, d3, d4, d5, hv'⟩ := (hB.below (bstep HB.out b1)).kid i hil
        have b2 : Below wr.heap.size wr ((wr.alloc (.cells (ncells op t vk vn vs C l.length m) 26)).alloc (.cells (ncells op' t' vk' vn' vs' C' l'.length m') 26)) := b1.alloc (by simp) _
        have HCC := Lib.hid (HI.out i hik ls[i] _ _ _ (hv.below b2) (hv'.below ((Below.refl _ _).alloc (Nat.le_refl _) _)))
        have B2 := Lib.hid b2
        clear hx hx' hv hv' b1 b2
        unfold ncells at *
        go_wp2_with fail
        refine HCC.out.mono ?_
        rintro e w2 ⟨rfl, hb⟩
        have HB2 := Lib.hid (bstep (bstep HB.out B2.out) hb)
        clear hb HCC B2 c0 c1 c2 c3 c4 c5 d0 d1 d2 d3 d4 d5
        cases hq : Ex.same ks[i] ls[i]
        · have HF := Lib.hid (sames_at i hik hil hq)
          go_wp2_with fail
          go_ret
          exact ⟨by rw [HF.out]; rfl, HB2.out⟩
        · have HE2 : Hid (∀ k (h1 : k < ks.length) (h2 : k < ls.length), k < i + 1 → Ex.same ks[k] ls[k] = true) := Lib.hid (fun k h1 h2 h3 => by
            by_cases hki : k = i
            · subst hki; exact hq
            · exact HE.out k h1 h2 (by omega))
          clear HE
          go_wp2_with fail
          go_roundg (n - i)
          case measure => omega
          case rel => exact ⟨i + 1, by omega, by omega, by go_num, HE2, HB2⟩
      · have hlt' : ¬ (i : Int) < (n : Int) := by omega
        have HF : Hid (Ex.sames ks ls = true) := Lib.hid (sames_all HL.out fun k h1 h2 => HE.out k h1 h2 (by have := HN.out; omega))
        go_wp2_with fail
        go_ret
        exact ⟨by rw [HF.out]; rfl, HB.out⟩
  · have HF := Lib.hid (sames_len hl)
    have hl' : ((ks.length : Int) != (ls.length : Int)) = true := by rw [bne_iff_ne]; omega
    clear hl
    go_enter Tryz.func31, Tryz.ntmps31
    go_wp2_with fail
    go_ret
    exact ⟨by rw [HF.out]; rfl, Below.refl _ _⟩
set_option maxHeartbeats 1000000 in
theorem same_all (N : Nat) : ∀ (X : Tree), Ex.count X ≤ N → Ex.count X ≤ 1000000 → ∀ (Y : Tree) (v u : Value) (w : World), NodeV w v X → NodeV w u Y →
    Calls Tryz.prog 21 #[v, u] w fun e w' => e = .returned (.bool (Ex.same X Y)) ∧ Below w.heap.size w w' := by
  induction N with
  | zero => intro T h; have := Ex.count_pos T; omega
  | succ N ih =>
    intro X hN hM Y v u w hX hY
    cases X with
    | node op t vk vn vs ks =>
    cases Y with
    | node op' t' vk' vn' vs' ls =>
    obtain ⟨A, c, rfl, hcc, hk⟩ := hX
    obtain ⟨B, d, rfl, hdd, hl⟩ := hY
    have IH := fun i (hi : i < ks.length) (y : Tree) => ih ks[i] (by have := count_lt (op := op) (t := t) (vk := vk) (vn := vn) (vs := vs) (List.getElem_mem hi); omega) (by have := count_lt (op := op) (t := t) (vk := vk) (vn := vn) (vs := vs) (List.getElem_mem hi); omega) y
    have hks0 : Ex.counts ks + 1 = Ex.count (.node op t vk vn vs ks) := by rw [Ex.count]
    have hlen := Ex.length_counts ks
    have b1 : Below w.heap.size w ((w.alloc (.cells (ncells op t vk vn vs A ks.length c) 26)).alloc (.cells (ncells op' t' vk' vn' vs' B ls.length d) 26)) := ((Below.refl _ _).alloc (Nat.le_refl _) _).alloc (by simp) _
    have k0 := (Whole.new w 26 (ncells op t vk vn vs A ks.length c)).alloc (.cells (ncells op' t' vk' vn' vs' B ls.length d) 26)
    have k1 := Whole.new (w.alloc (.cells (ncells op t vk vn vs A ks.length c) 26)) 26 (ncells op' t' vk' vn' vs' B ls.length d)
    simp only [World.size_alloc] at k1
    have HQ := Lib.hid (equal_of ks ls IH A B c d _ (hk.below b1) (hl.below b1) (by omega))
    have HE := Lib.hid (same_node op t vk vn vs ks op' t' vk' vn' vs' ls)
    have B1 := Lib.hid b1
    clear ih IH hks0 hlen b1 hk hl hN hM
    unfold ncells at *
    obtain ⟨c0, c1, c2, c3, c4, c5⟩ := six_of k0
    obtain ⟨d0, d1, d2, d3, d4, d5⟩ := six_of k1
    clear k0 k1
    go_enter Tryz.func21, Tryz.ntmps21
    cases h1 : (op == op')
    · have HF : Hid (Ex.same (.node op t vk vn vs ks) (.node op' t' vk' vn' vs' ls) = false) := Lib.hid (by rw [HE.out, h1]; rfl)
      go_wp2_with fail
      go_ret
      exact ⟨by rw [HF.out]; rfl, B1.out⟩
    cases h2 : (t == t')
    · have HF : Hid (Ex.same (.node op t vk vn vs ks) (.node op' t' vk' vn' vs' ls) = false) := Lib.hid (by rw [HE.out, h1, h2]; rfl)
      go_wp2_with fail
      go_ret
      exact ⟨by rw [HF.out]; rfl, B1.out⟩
    cases h3 : same vk vn (tx vs) vk' vn' (tx vs')
    · have HF : Hid (Ex.same (.node op t vk vn vs ks) (.node op' t' vk' vn' vs' ls) = false) := Lib.hid (by rw [HE.out, h1, h2, h3]; rfl)
      go_wp2_with fail
      go_ret
      exact ⟨by rw [HF.out]; rfl, B1.out⟩
    have HF : Hid (Ex.same (.node op t vk vn vs ks) (.node op' t' vk' vn' vs' ls) = Ex.sames ks ls) := Lib.hid (by rw [HE.out, h1, h2, h3]; rfl)
    go_wp2_with fail
    refine HQ.out.mono ?_
    rintro e w2 ⟨rfl, hb⟩
    have HB2 := Lib.hid (bstep B1.out hb)
    clear hb HQ
    go_wp2_with fail
    go_ret
    exact ⟨by rw [HF.out]; rfl, HB2.out⟩
end Go.Proofs.YtbpknainmefidaaGreatDoor
