import Derived.Test.YthcfdggdippocaaGreatDoorHP
import Derived.Test.YthcfdggdippocaaGreatDoorHMC
import Derived.Deep.CutRange
import Derived.Deep.DeepCutAuto
import Derived.Deep.CutBlock
import Derived.Test.YthcfdggdippocaaGreatDoorHMB
import Derived.Test.YthcfdggdippocaaGreatDoorV8
import Derived.StillTailTactics

/- Wide: a tree that is not wide has few nodes, with short names. -/
namespace Go.Proofs.YthcfdggdippocaaGreatDoor
open Go.RowKit Go.Lib
set_option linter.unusedVariables false
set_option linter.unusedSimpArgs false
set_option maxRecDepth 100000
open Ex (Tree)

theorem shortTs_append : ∀ (a b : List Tree), shortTs (a ++ b) ↔ shortTs a ∧ shortTs b
  | [], b => by rw [List.nil_append, shortTs]; simp
  | x :: a, b => by rw [List.cons_append, shortTs, shortTs, shortTs_append a b, and_assoc]
theorem short_below : ∀ (l : List Tree), (∀ x ∈ l, x.text.length ≤ 100) → shortTs (Ex.below l) → shortTs l
  | [], _, _ => by rw [shortTs]; trivial
  | .node op t vk vn vs ks :: l, h, hs => by
    have e : Ex.below (.node op t vk vn vs ks :: l) = ks ++ Ex.below l := rfl
    rw [e, shortTs_append] at hs
    rw [shortTs, shortT]
    have := h _ (List.mem_cons_self ..)
    exact ⟨⟨by show t.length ≤ 6000; have : t.length ≤ 100 := this; omega, hs.1⟩, short_below l (fun x hx => h x (List.mem_cons_of_mem _ hx)) hs.2⟩
theorem below_take (l : List Tree) (i : Nat) (h : i < l.length) : Ex.below (l.take (i + 1)) = Ex.below (l.take i) ++ l[i].kids := by
  rw [List.take_succ_eq_append_getElem h, Ex.below, List.flatMap_append]
  simp [Ex.below]
theorem SrcT.at_ {S : Nat → Prop} {w : World} {A : Option Addr} : ∀ {l : List Tree}, SrcT S w A l → ∀ i (h : i < l.length), ∃ b o op t vk vn vs ks B c, A = some ⟨b, o, none⟩ ∧ l[i] = .node op t vk vn vs ks ∧ b < w.heap.size ∧ w.cell? ⟨b, o + i * 6, none⟩ = some (.int .i64 op) ∧ w.cell? ⟨b, o + i * 6 + 1, none⟩ = some (.string (tx t)) ∧ w.cell? ⟨b, o + i * 6 + 2, none⟩ = some (.int .i64 vk) ∧
      w.cell? ⟨b, o + i * 6 + 3, none⟩ = some (.int .i64 vn) ∧ w.cell? ⟨b, o + i * 6 + 4, none⟩ = some (.string (tx vs)) ∧ w.cell? ⟨b, o + i * 6 + 5, none⟩ = some (.slice B ks.length c) ∧ ks.length ≤ c ∧ TreesIn S w B 0 ks
  | .node op t vk vn vs ks :: l, h, 0, hi => by
    obtain ⟨b, o, B, c, e, hb, c0, c1, c2, c3, c4, c5, hc, hk, -⟩ := h.head
    exact ⟨b, o, op, t, vk, vn, vs, ks, B, c, e, rfl, hb, by simpa using c0, by simpa using c1, by simpa using c2, by simpa using c3, by simpa using c4, by simpa using c5, hc, hk⟩
  | .node op t vk vn vs ks :: l, h, i + 1, hi => by
    obtain ⟨b, o, B, c, rfl, hb, c0, c1, c2, c3, c4, c5, hc, hk, hr⟩ := h.head
    obtain ⟨b', o', op', t', vk', vn', vs', ks', B', c', e, h1, h2, h3, h4, h5, h6, h7, h8, h9, h10⟩ := hr.at_ i (by simpa using hi)
    cases e
    refine ⟨b, o, op', t', vk', vn', vs', ks', B', c', rfl, by simpa using h1, hb, ?_, ?_, ?_, ?_, ?_, ?_, h9, h10⟩ <;> (rw [show o + (i + 1) * 6 = o + 6 + i * 6 by omega]; assumption)
  | [], h, i, hi => absurd hi (Nat.not_lt_zero _)
structure WdAt (S : Nat → Prop) (w : World) (T : Tree) (j : Nat) (s0 s1 s5 : Value) (wr : World) (td : List Tree) (Al : Option Addr) (cl n d : Nat) : Prop where
  meas : Ex.counts td < j
  cnt : n + Ex.counts td = Ex.count T
  short : shortTs td → shortT T
  v0 : s0 = .slice Al td.length cl
  cap : td.length ≤ cl
  src : SrcT S wr Al td
  far : ∀ b o, Al = some ⟨b, o, none⟩ → b < wr.heap.size
  v5 : s5 = .int .i64 (n : Nat)
  n500 : n ≤ 500
  v1 : s1 = .int .i64 (d : Nat)
  d61 : d ≤ 61
  len : td.length ≤ 500
  below : Below w.heap.size w wr
/-- within a level. -/
structure WdIn (S : Nat → Prop) (td : List Tree) (W1 : World) (i : Nat) (s6 : Value) (wq : World) : Prop where
  row : RowT S wq W1.heap.size s6 (Ex.below (td.take i))
  len : (Ex.below (td.take i)).length ≤ 100 * i
  txt : ∀ x ∈ td.take i, x.text.length ≤ 100
  below : Below W1.heap.size W1 wq
theorem list_size2 (l : List UInt8) : (tx l).size = l.length := by simp [ByteArray.size]
set_option maxHeartbeats 2000000 in
theorem wide_any (S : Nat → Prop) (T : Tree) (A : Option Addr) (c : Nat) (w : World) (hS : ∀ k, S k → k < w.heap.size) (h : SrcT S w A [T]) (hA : ∀ b o, A = some ⟨b, o, none⟩ → b < w.heap.size) (hc : 1 ≤ c) :
    Calls Tryz.prog 16 #[.slice A 1 c, .int .i64 0] w fun e w' => (e = .returned (.bool false) ∧ Below w.heap.size w w' ∧ Ex.count T ≤ 500 ∧ shortT T) ∨ (e = .returned (.bool true) ∧ Below w.heap.size w w') := by
  have H0 : Hid (WdAt S w T (Ex.count T + 1) (.slice A 1 c) (.int .i64 0) (.int .i64 0) w [T] A c 0 0) := Lib.hid ⟨by rw [Ex.counts, Ex.counts]; omega, by rw [Ex.counts, Ex.counts]; omega, fun h => by rw [shortTs] at h; exact h.1, rfl, hc, h, hA, rfl, by omega, rfl, by omega, by simp, Below.refl _ _⟩
  have HS := Lib.hid hS
  clear h hA hc hS
  go_enter Tryz.func16, Tryz.ntmps16
  go_wp2_with fail
  go_loopg [0, 1, 5, 6, 7] (Ex.count T + 1) (fun j s0 s1 s5 s6 s7 wr => ∃ td Al cl n d, Hid (WdAt S w T j s0 s1 s5 wr td Al cl n d))
  case atStart => exact ⟨_, _, _, _, _, H0⟩
  case round =>
    obtain ⟨td, Al, cl, n, d, HM⟩ := hrel
    obtain ⟨wl, rfl⟩ : ∃ wl, wl = wr := ⟨wr, rfl⟩
    have hs0 := HM.out.v0
    have hs1 := HM.out.v1
    have hs5 := HM.out.v5
    obtain ⟨m, hm⟩ : ∃ m, td.length = m := ⟨_, rfl⟩
    rw [hm] at hs0
    subst hs0 hs1 hs5
    have HLM := Lib.hid hm
    have hm5 : (m : Int) ≤ 500 := by have := HM.out.len; omega
    clear hm
    by_cases hm0 : m = 0
    · subst hm0
      have htd : td = [] := List.eq_nil_of_length_eq_zero HLM.out
      have FIN : Hid (Ex.count T ≤ 500 ∧ shortT T) := Lib.hid (by
        have h1 := HM.out.cnt
        have h2 := HM.out.short
        have h3 := HM.out.n500
        rw [htd, Ex.counts] at h1
        rw [htd, shortTs] at h2
        exact ⟨by omega, h2 trivial⟩)
      go_wp2_with fail
      go_ret
      exact .inl ⟨rfl, HM.out.below, FIN.out⟩
    · have hm1 : (0 : Int) < (m : Int) := by omega
      have hm1n : 0 < m := by omega
      have hn5 : (n : Int) ≤ 500 := by have := HM.out.n500; omega
      have hd6 : (d : Int) ≤ 61 := by have := HM.out.d61; omega
      have b1 : Below wl.heap.size wl (wl.alloc (.cells #[] 26)) := (Below.refl _ _).alloc (Nat.le_refl _) _
      have r1 := RowT.new (S := S) (w := wl) (fun h => by have := HS.out _ h; have := HM.out.below.size; omega)
      have B1 := Lib.hid b1
      have R1 := Lib.hid r1
      clear b1 r1
      go_upto_block 2 with fail
      go_cut [5, 6, 7] from 12 to 57 (fun s5 s6 s7 wc => s5 = .int .i64 ((n + m : Nat) : Int) ∧ n + m ≤ 500 ∧ Hid (WdIn S td wl m s6 wc))
      case first =>
        go_wp2_with fail
        go_loopg [5, 6, 7] (m + 1) (fun j s5 s6 s7 wq => ∃ i : Nat, i ≤ m ∧ m < i + j ∧ s7 = .int .i64 (i : Nat) ∧ s5 = .int .i64 ((n + i : Nat) : Int) ∧ n + i ≤ 500 ∧ Hid (WdIn S td wl i s6 wq))
        case atStart => exact ⟨0, by omega, by omega, rfl, rfl, by omega, Lib.hid ⟨by rw [List.take_zero]; exact R1.out, by rw [List.take_zero]; simp [Ex.below], by rw [List.take_zero]; simp, B1.out⟩⟩
        case round =>
          obtain ⟨i, hi, hj, rfl, rfl, hni, HI⟩ := hrel
          by_cases hlt : i < m
          · have hlt' : (i : Int) < (m : Int) := by omega
            have hitd : i < td.length := by rw [HLM.out]; exact hlt
            have hni' : ((n + i : Nat) : Int) ≤ 500 := by omega
            obtain ⟨b, o, op, t, vk, vn, vs, ks, B, c9, rfl, hx, hbl, c0, c1, c2, c3, c4, c5, hck, hkk⟩ := (HM.out.src.below HI.out.below).at_ i hitd
            have HX := Lib.hid hx
            clear hx
            generalize hq : n + i = q at *
            have HQ := Lib.hid hq
            clear hq
            have FIN : Hid (∀ W2, Below wl.heap.size wl W2 → Below w.heap.size w W2) := Lib.hid (fun W2 h => HM.out.below.trans (h.mono HM.out.below.size))
            by_cases g1 : 500 < q + 1
            · have g1' : (500 : Int) < (q : Int) + 1 := by omega
              go_wp2_with fail
              go_ret
              exact .inr ⟨rfl, FIN.out _ HI.out.below⟩
            have g1' : ¬ (500 : Int) < (q : Int) + 1 := by omega
            by_cases g2 : 100 < t.length
            · have g2' : (100 : Int) < (t.length : Int) := by omega
              go_wp2_with fail
              go_ret
              exact .inr ⟨rfl, FIN.out _ HI.out.below⟩
            have g2' : ¬ (100 : Int) < (t.length : Int) := by omega
            by_cases g3 : 400 < vs.length
            · have g3' : (400 : Int) < (vs.length : Int) := by omega
              go_wp2_with fail
              go_ret
              exact .inr ⟨rfl, FIN.out _ HI.out.below⟩
            have g3' : ¬ (400 : Int) < (vs.length : Int) := by omega
            by_cases g4 : 100 < ks.length
            · have g4' : (100 : Int) < (ks.length : Int) := by omega
              go_wp2_with fail
              go_ret
              exact .inr ⟨rfl, FIN.out _ HI.out.below⟩
            have g4' : ¬ (100 : Int) < (ks.length : Int) := by omega
            obtain ⟨v5, w5, hrun, r5, T5, o5⟩ := append_trees HI.out.row (c := c9) hkk.src (by have := HI.out.len; omega) HI.out.below.size (fun h => by have := HS.out _ h; have := HM.out.below.size; have := HI.out.below.size; omega)
            have NXT : Hid (WdIn S td wl (i + 1) v5 w5) := Lib.hid ⟨by rw [below_take td i hitd, HX.out]; exact r5, by rw [below_take td i hitd, HX.out, List.length_append]; have := HI.out.len; show _ + ks.length ≤ _; omega, fun x hxm => by
              rw [List.take_succ_eq_append_getElem hitd] at hxm
              rcases List.mem_append.1 hxm with hxm | hxm
              · exact HI.out.txt x hxm
              · have : x = td[i] := by simpa using hxm
                rw [this, HX.out]
                show t.length ≤ 100
                omega, T5.fresh HI.out.below (fun k hk => (HI.out.row.block k (by simpa using hk)).1)⟩
            have HRUN := Lib.hid hrun
            clear hrun r5 T5 o5 hkk g2 g3 g4
            go_wp2_with (at_builtin; refine Lib.wpList_append_run _ rfl (.tmp 50) (.tmp 55) 24 24 rfl _ _ rfl rfl _ _ HRUN.out ?_)
            go_roundg (m - i)
            case measure => omega
            case rel =>
              have h1 := HQ.out
              exact ⟨i + 1, by omega, by omega, by go_num, by rw [show n + (i + 1) = q + 1 by omega]; go_num, by omega, NXT⟩
          · have hlt' : ¬ (i : Int) < (m : Int) := by omega
            have hie : i = m := by omega
            subst hie
            go_wp2_with fail
            go_meet
            case rel => exact ⟨rfl, hni, HI⟩
      case rest =>
        obtain ⟨rfl, hnm, HI⟩ := hcut
        obtain ⟨A6, c6, hv6, hc6, -, hsrc, hblk⟩ := HI.out.row.src
        obtain ⟨k, hk⟩ : ∃ k, (Ex.below (td.take m)).length = k := ⟨_, rfl⟩
        have HK := Lib.hid hk
        rw [hk] at hv6
        have hv6' := hv6
        subst hv6
        have htk : td.take m = td := List.take_of_length_le (by rw [HLM.out]; omega)
        have HBW : Hid (Below w.heap.size w wc) := Lib.hid (HM.out.below.trans (HI.out.below.mono HM.out.below.size))
        have hmeas := HM.out.meas
        have hcb := Ex.counts_below td
        have hcnt := HM.out.cnt
        rw [HLM.out] at hcb
        have hnm' : ((n + m : Nat) : Int) ≤ 500 := by omega
        have NXT : k ≤ 500 → d ≤ 60 → Hid (WdAt S w T (gk - m) (.slice A6 k c6) (.int .i64 ((d + 1 : Nat) : Int)) (.int .i64 ((n + m : Nat) : Int)) wc (Ex.below td) A6 c6 (n + m) (d + 1)) := fun h1 h2 => by
          have hk2 := hk
          rw [htk] at hk2
          have hs2 := hsrc
          have ht2 := HI.out.txt
          rw [htk] at hs2 ht2
          rw [htk] at hc6
          exact Lib.hid ⟨by omega, by omega, fun h => HM.out.short (short_below td ht2 h), by rw [hk2], hc6, hs2, fun b o e => (HI.out.row.block b (hblk b o e)).2, rfl, hnm, rfl, by omega, by omega, HBW.out⟩
        have HNXT := Lib.hid NXT
        have HMEAS : Hid (m ≤ gk ∧ 0 < m ∧ Ex.counts td < gk ∧ Ex.counts td = m + Ex.counts (Ex.below td)) := Lib.hid ⟨by omega, by omega, hmeas, hcb⟩
        clear NXT hk hsrc hblk hc6 hcb hcnt hmeas htk hv6'
        by_cases g1 : 500 < k
        · have g1' : (500 : Int) < (k : Int) := by omega
          go_wp2_with fail
          go_ret
          exact .inr ⟨rfl, HBW.out⟩
        have g1' : ¬ (500 : Int) < (k : Int) := by omega
        by_cases g2 : 60 < d
        · have g2' : (60 : Int) < (d : Int) := by omega
          go_wp2_with fail
          go_ret
          exact .inr ⟨rfl, HBW.out⟩
        have g2' : ¬ (60 : Int) < (d : Int) := by omega
        have HN := HNXT.out (by omega) (by omega)
        clear HNXT
        go_wp2_with fail
        go_roundg (gk - m)
        case measure => have := HMEAS.out; omega
        case rel => exact ⟨_, _, _, _, _, HN⟩
/-- Wide. -/
theorem Wide_any (T : Tree) (v : Value) (w : World) (h : NodeV w v T) :
    Calls Tryz.prog 7 #[v] w fun e w' => (e = .returned (.bool false) ∧ Below w.heap.size w w' ∧ Ex.count T ≤ 500 ∧ shortT T) ∨ (e = .returned (.bool true) ∧ Below w.heap.size w w') := by
  cases T with
  | node op t vk vn vs ks =>
  obtain ⟨A, c, rfl, hcc, hk⟩ := h
  obtain ⟨T, hT⟩ : ∃ T, (.node op t vk vn vs ks : Tree) = T := ⟨_, rfl⟩
  have b0 : Below w.heap.size w ((w.alloc (.cells (ncells op t vk vn vs A ks.length c) 26)).alloc (.cells (ncells op t vk vn vs A ks.length c) 26)) := ((Below.refl _ w).alloc (Nat.le_refl _) _).alloc (by simp) _
  have k2 := Whole.new (w.alloc (.cells (ncells op t vk vn vs A ks.length c) 26)) 26 (ncells op t vk vn vs A ks.length c)
  simp only [World.size_alloc] at k2
  have src : SrcT (· < w.heap.size) ((w.alloc (.cells (ncells op t vk vn vs A ks.length c) 26)).alloc (.cells (ncells op t vk vn vs A ks.length c) 26)) (some ⟨w.heap.size + 1, 0, none⟩) [.node op t vk vn vs ks] :=
    ⟨_, ⟨A, c, [], rfl, hcc, hk.old b0, rfl⟩, fun j u hu => ⟨_, 0, rfl, by rw [Nat.zero_add, k2.cell, ← hu]; simp⟩⟩
  rw [hT] at src ⊢
  have CC := wide_any (· < w.heap.size) T _ 1 _ (fun k hk => by simp only [World.size_alloc]; omega) src (fun b o e => by cases e; simp) (Nat.le_refl _)
  have B0 := Lib.hid b0
  have HC := Lib.hid CC
  clear CC src k2 b0 hk hcc hT
  unfold ncells at *
  go_enter Tryz.func7, Tryz.ntmps7
  go_wp2_with fail
  refine HC.out.mono ?_
  rintro e w2 (⟨rfl, hb, hs⟩ | ⟨rfl, hb⟩)
  · go_wp2_with fail
    go_ret
    exact .inl ⟨rfl, bstep B0.out hb, hs⟩
  · go_wp2_with fail
    go_ret
    exact .inr ⟨rfl, bstep B0.out hb⟩
end Go.Proofs.YthcfdggdippocaaGreatDoor

/- Same, EqualFunc: are two trees the same? The reference's Same. -/
namespace Go.Proofs.YthcfdggdippocaaGreatDoor
open Go.RowKit Go.Lib
set_option linter.unusedVariables false
set_option linter.unusedSimpArgs false
set_option maxRecDepth 100000
attribute [local go_sem ↓] eqVal neqVal
open Ex (Tree)

theorem same_node (op : Int) (t : List UInt8) (vk vn : Int) (vs : List UInt8) (ks : List Tree) (op' : Int) (t' : List UInt8) (vk' vn' : Int) (vs' : List UInt8) (ks' : List Tree) :
    Ex.same (.node op t vk vn vs ks) (.node op' t' vk' vn' vs' ks') = (op == op' && (t == t' && (same vk vn (tx vs) vk' vn' (tx vs') && Ex.sames ks ks'))) := by
  rw [Ex.same]
  unfold same
  rw [ByteArray.toList_eq, ByteArray.toList_eq]
  simp only [Bool.and_assoc]
theorem sames_at {ks ls : List Tree} (i : Nat) (h : i < ks.length) (h' : i < ls.length) (hf : Ex.same ks[i] ls[i] = false) : Ex.sames ks ls = false := by
  rw [Bool.eq_false_iff]
  intro e
  have e2 := (Ex.sames_iff ks ls).1 e
  subst e2
  have := (Ex.same_iff ks[i] ks[i]).2 rfl
  rw [hf] at this
  cases this
theorem sames_len {ks ls : List Tree} (h : ks.length ≠ ls.length) : Ex.sames ks ls = false := by
  rw [Bool.eq_false_iff]
  intro e
  exact h (by rw [(Ex.sames_iff ks ls).1 e])
theorem sames_all {ks ls : List Tree} (hl : ks.length = ls.length) (h : ∀ i (h1 : i < ks.length) (h2 : i < ls.length), Ex.same ks[i] ls[i] = true) : Ex.sames ks ls = true :=
  (Ex.sames_iff ks ls).2 (List.ext_getElem hl fun i h1 h2 => (Ex.same_iff _ _).1 (h i h1 h2))
end Go.Proofs.YthcfdggdippocaaGreatDoor

/- The reference's Same. -/
namespace Go.Proofs.YthcfdggdippocaaGreatDoor
open Go.RowKit Go.Lib
set_option linter.unusedVariables false
set_option linter.unusedSimpArgs false
set_option maxRecDepth 100000
attribute [local go_sem ↓] eqVal neqVal
open Ex (Tree)

set_option maxHeartbeats 1000000 in
theorem refSame_all (N : Nat) : ∀ (X : Tree), Ex.count X ≤ N → Ex.count X ≤ 1000000 → ∀ (Y : Tree) (v u : Value) (w : World), NodeV w v X → NodeV w u Y →
    Calls Tryz.prog 15 #[v, u] w fun e w' => e = .returned (.bool (Ex.same X Y)) ∧ Below w.heap.size w w' := by
  induction N with
  | zero => intro T h; have := Ex.count_pos T; omega
  | succ N ih =>
    intro X hN hM Y v u w hX hY
    cases X with
    | node op t vk vn vs ks =>
    cases Y with
    | node op' t' vk' vn' vs' ls =>
    obtain ⟨A, c, rfl, hcc, hk⟩ := hX
    obtain ⟨B, d, rfl, hdd, hl⟩ := hY
    have IH := Lib.hid (fun i (hi : i < ks.length) (y : Tree) => ih ks[i] (by have := count_lt (op := op) (t := t) (vk := vk) (vn := vn) (vs := vs) (List.getElem_mem hi); omega) (by have := count_lt (op := op) (t := t) (vk := vk) (vn := vn) (vs := vs) (List.getElem_mem hi); omega) y)
    have hks0 : Ex.counts ks + 1 = Ex.count (.node op t vk vn vs ks) := by rw [Ex.count]
    have hlen := Ex.length_counts ks
    have hn9 : (ks.length : Int) ≤ 1000000 := by omega
    have b1 : Below w.heap.size w ((w.alloc (.cells (ncells op t vk vn vs A ks.length c) 26)).alloc (.cells (ncells op' t' vk' vn' vs' B ls.length d) 26)) := ((Below.refl _ _).alloc (Nat.le_refl _) _).alloc (by simp) _
    have k0 := (Whole.new w 26 (ncells op t vk vn vs A ks.length c)).alloc (.cells (ncells op' t' vk' vn' vs' B ls.length d) 26)
    have k1 := Whole.new (w.alloc (.cells (ncells op t vk vn vs A ks.length c) 26)) 26 (ncells op' t' vk' vn' vs' B ls.length d)
    simp only [World.size_alloc] at k1
    have HE := Lib.hid (same_node op t vk vn vs ks op' t' vk' vn' vs' ls)
    have B1 := Lib.hid b1
    have K0 := Lib.hid k0
    have K1 := Lib.hid k1
    clear ih hks0 hlen b1 hN hM
    unfold ncells at *
    obtain ⟨c0, c1, c2, c3, c4, c5⟩ := six_of k0
    obtain ⟨d0, d1, d2, d3, d4, d5⟩ := six_of k1
    clear k0 k1
    go_enter Tryz.func15, Tryz.ntmps15
    cases h1 : (op == op')
    · have HF : Hid (Ex.same (.node op t vk vn vs ks) (.node op' t' vk' vn' vs' ls) = false) := Lib.hid (by rw [HE.out, h1]; rfl)
      have h1' : (op != op') = true := by rw [bne, h1]; rfl
      go_wp2_with fail
      go_ret
      exact ⟨by rw [HF.out]; rfl, B1.out⟩
    have h1' : (op != op') = false := by rw [bne, h1]; rfl
    cases h2 : (t == t')
    · have HF : Hid (Ex.same (.node op t vk vn vs ks) (.node op' t' vk' vn' vs' ls) = false) := Lib.hid (by rw [HE.out, h1, h2]; rfl)
      go_wp2_with fail
      go_ret
      exact ⟨by rw [HF.out]; rfl, B1.out⟩
    cases h3 : same vk vn (tx vs) vk' vn' (tx vs')
    · have HF : Hid (Ex.same (.node op t vk vn vs ks) (.node op' t' vk' vn' vs' ls) = false) := Lib.hid (by rw [HE.out, h1, h2, h3]; rfl)
      go_wp2_with fail
      go_ret
      exact ⟨by rw [HF.out]; rfl, B1.out⟩
    have HF : Hid (Ex.same (.node op t vk vn vs ks) (.node op' t' vk' vn' vs' ls) = Ex.sames ks ls) := Lib.hid (by rw [HE.out, h1, h2, h3]; rfl)
    by_cases hll : ks.length = ls.length
    · have HLL := Lib.hid hll
      obtain ⟨n, hn'⟩ : ∃ n, ks.length = n := ⟨_, rfl⟩
      rw [← hll] at d5 K1 K0 B1 ⊢
      rw [hn'] at c5 d5 K1 K0 B1 hn9 ⊢
      have HN := Lib.hid hn'
      clear hll hn'
      go_wp2_with fail
      generalize (w.alloc (.cells #[.int .i64 op, .string (tx t), .int .i64 vk, .int .i64 vn, .string (tx vs), .slice A n c] 26)).alloc (.cells #[.int .i64 op', .string (tx t'), .int .i64 vk', .int .i64 vn', .string (tx vs'), .slice B n d] 26) = W1 at *
      clear c0 c1 c2 c3 c4 c5 d0 d1 d2 d3 d4 d5 h1 h1' h2 h3
      go_loopg [5] (n + 1) (fun j s5 wr => ∃ i : Nat, i ≤ n ∧ n < i + j ∧ s5 = .int .i64 (i : Nat) ∧ Hid (∀ k (h1 : k < ks.length) (h2 : k < ls.length), k < i → Ex.same ks[k] ls[k] = true) ∧ Hid (Below W1.heap.size W1 wr))
      case atStart => exact ⟨0, by omega, by omega, rfl, Lib.hid (fun k _ _ h => absurd h (Nat.not_lt_zero _)), Lib.hid (Below.refl _ _)⟩
      case round =>
        obtain ⟨i, hi, hj, rfl, HE2, HB⟩ := hrel
        have HBW := Lib.hid (bstep B1.out HB.out)
        obtain ⟨-, -, -, -, -, c5⟩ := six_of (K0.out.below HB.out K0.out.lt)
        obtain ⟨-, -, -, -, -, d5⟩ := six_of (K1.out.below HB.out K1.out.lt)
        by_cases hlt : i < n
        · have hlt' : (i : Int) < (n : Int) := by omega
          have hik : i < ks.length := by rw [HN.out]; exact hlt
          have hil : i < ls.length := by rw [← HLL.out]; exact hik
          obtain ⟨b, o, xop, xt, xvk, xvn, xvs, l, C, m, rfl, hx, q0, q1, q2, q3, q4, q5, hv⟩ := (hk.below HBW.out).kid i hik
          obtain ⟨b', o', yop, yt, yvk, yvn, yvs, l', C', m', rfl, hx', r0, r1, r2, r3, r4, r5, hv'⟩ := (hl.below HBW.out).kid i hil
          have hd : Below wr.heap.size wr wr.drew := (Below.refl _ _).drew
          have HCC := Lib.hid (IH.out i hik ls[i] _ _ _ (hv.below hd) (hv'.below hd))
          clear hx hx' hv hv' hd
          unfold ncells at *
          go_wp2_with fail
          go_still_tail 10, (by kernel_rfl)
          change wpList _ _ _ _ _ wr.drew
          go_wp2_with fail
          refine HCC.out.mono ?_
          rintro e w2 ⟨rfl, hb⟩
          have HB2 := Lib.hid (bstep HB.out (bdrew1 hb))
          have HBW2 := Lib.hid (bstep B1.out HB2.out)
          clear hb HCC c5 d5 q0 q1 q2 q3 q4 q5 r0 r1 r2 r3 r4 r5
          cases hq : Ex.same ks[i] ls[i]
          · have HG : Hid (Ex.same (.node op t vk vn vs ks) (.node op' t' vk' vn' vs' ls) = false) := Lib.hid (by rw [HF.out]; exact sames_at i hik hil hq)
            go_wp2_with fail
            go_ret
            exact ⟨by rw [HG.out]; rfl, HBW2.out⟩
          · have HE3 : Hid (∀ k (h1 : k < ks.length) (h2 : k < ls.length), k < i + 1 → Ex.same ks[k] ls[k] = true) := Lib.hid (fun k h1 h2 h3 => by
              by_cases hki : k = i
              · subst hki; exact hq
              · exact HE2.out k h1 h2 (by omega))
            clear HE2
            go_wp2_with fail
            go_roundg (n - i)
            case measure => omega
            case rel => exact ⟨i + 1, by omega, by omega, by go_num, HE3, HB2⟩
        · have hlt' : ¬ (i : Int) < (n : Int) := by omega
          have HG : Hid (Ex.same (.node op t vk vn vs ks) (.node op' t' vk' vn' vs' ls) = true) := Lib.hid (by rw [HF.out]; exact sames_all HLL.out fun k h1 h2 => HE2.out k h1 h2 (by have := HN.out; omega))
          go_wp2_with fail
          go_ret
          exact ⟨by rw [HG.out]; rfl, HBW.out⟩
    · have HG : Hid (Ex.same (.node op t vk vn vs ks) (.node op' t' vk' vn' vs' ls) = false) := Lib.hid (by rw [HF.out]; exact sames_len hll)
      have hl' : ((ks.length : Int) != (ls.length : Int)) = true := by rw [bne_iff_ne]; omega
      clear hll
      go_wp2_with fail
      go_ret
      exact ⟨by rw [HG.out]; rfl, B1.out⟩
end Go.Proofs.YthcfdggdippocaaGreatDoor
