import Derived.Test.YteghhmomhlnccaaGreatDoorZE
import Derived.Test.YteghhmomhlnccaaGreatDoorZHMC
import Derived.Deep.CutRange
import Derived.Deep.DeepCutAuto
import Derived.Deep.CutBlock

/- Wide: a tree that is not wide has few nodes, with short names. -/
namespace Go.Proofs.YteghhmomhlnccaaGreatDoor
open Go.RowKit Go.Lib
set_option linter.unusedVariables false
set_option linter.unusedSimpArgs false
set_option maxRecDepth 100000
open Ex (Tree)

theorem shortTs_append : ∀ (a b : List Tree), shortTs (a ++ b) ↔ shortTs a ∧ shortTs b
  | [], b => by rw [List.nil_append, shortTs]; simp
  | x :: a, b => by rw [List.cons_append, shortTs, shortTs, shortTs_append a b, and_assoc]
theorem short_below : ∀ (l : List Tree), (∀ x ∈ l, x.text.length ≤ 100) → shortTs (Ex.below l) → shortTs l
  | [], _, _ => by rw [shortTs]; trivial
  | .node op t vk vn vs ks :: l, h, hs => by
    have e : Ex.below (.node op t vk vn vs ks :: l) = ks ++ Ex.below l := rfl
    rw [e, shortTs_append] at hs
    rw [shortTs, shortT]
    have := h _ (List.mem_cons_self ..)
    exact ⟨⟨by show t.length ≤ 6000; have : t.length ≤ 100 := this; omega, hs.1⟩, short_below l (fun x hx => h x (List.mem_cons_of_mem _ hx)) hs.2⟩
theorem below_take (l : List Tree) (i : Nat) (h : i < l.length) : Ex.below (l.take (i + 1)) = Ex.below (l.take i) ++ l[i].kids := by
  rw [List.take_succ_eq_append_getElem h, Ex.below, List.flatMap_append]
  simp [Ex.below]
theorem SrcT.at_ {S : Nat → Prop} {w : World} {A : Option Addr} : ∀ {l : List Tree}, SrcT S w A l → ∀ i (h : i < l.length), ∃ b o op t vk vn vs ks B c, A = some ⟨b, o, none⟩ ∧ l[i] = .node op t vk vn vs ks ∧ b < w.heap.size ∧ w.cell? ⟨b, o + i * 6, none⟩ = some (.int .i64 op) ∧ w.cell? ⟨b, o + i * 6 + 1, none⟩ = some (.string (tx t)) ∧ w.cell? ⟨b, o + i * 6 + 2, none⟩ = some (.int .i64 vk) ∧
      w.cell? ⟨b, o + i * 6 + 3, none⟩ = some (.int .i64 vn) ∧ w.cell? ⟨b, o + i * 6 + 4, none⟩ = some (.string (tx vs)) ∧ w.cell? ⟨b, o + i * 6 + 5, none⟩ = some (.slice B ks.length c) ∧ ks.length ≤ c ∧ TreesIn S w B 0 ks
  | .node op t vk vn vs ks :: l, h, 0, hi => by
    obtain ⟨b, o, B, c, e, hb, c0, c1, c2, c3, c4, c5, hc, hk, -⟩ := h.head
    exact ⟨b, o, op, t, vk, vn, vs, ks, B, c, e, rfl, hb, by simpa using c0, by simpa using c1, by simpa using c2, by simpa using c3, by simpa using c4, by simpa using c5, hc, hk⟩
  | .node op t vk vn vs ks :: l, h, i + 1, hi => by
    obtain ⟨b, o, B, c, rfl, hb, c0, c1, c2, c3, c4, c5, hc, hk, hr⟩ := h.head
    obtain ⟨b', o', op', t', vk', vn', vs', ks', B', c', e, h1, h2, h3, h4, h5, h6, h7, h8, h9, h10⟩ := hr.at_ i (by simpa using hi)
    cases e
    refine ⟨b, o, op', t', vk', vn', vs', ks', B', c', rfl, by simpa using h1, hb, ?_, ?_, ?_, ?_, ?_, ?_, h9, h10⟩ <;> (rw [show o + (i + 1) * 6 = o + 6 + i * 6 by omega]; assumption)
  | [], h, i, hi => absurd hi (Nat.not_lt_zero _)
structure WdAt (S : Nat → Prop) (w : World) (T : Tree) (j : Nat) (s0 s1 s5 : Value) (wr : World) (td : List Tree) (Al : Option Addr) (cl n d : Nat) : Prop where
  meas : Ex.counts td < j
  cnt : n + Ex.counts td = Ex.count T
  short : shortTs td → shortT T
  v0 : s0 = .slice Al td.length cl
  cap : td.length ≤ cl
  src : SrcT S wr Al td
  far : ∀ b o, Al = some ⟨b, o, none⟩ → b < wr.heap.size
  v5 : s5 = .int .i64 (n : Nat)
  n500 : n ≤ 500
  v1 : s1 = .int .i64 (d : Nat)
  d61 : d ≤ 61
  len : td.length ≤ 500
  below : Below w.heap.size w wr
/-- within a level. -/
structure WdIn (S : Nat → Prop) (td : List Tree) (W1 : World) (i : Nat) (s6 : Value) (wq : World) : Prop where
  row : RowT S wq W1.heap.size s6 (Ex.below (td.take i))
  len : (Ex.below (td.take i)).length ≤ 100 * i
  txt : ∀ x ∈ td.take i, x.text.length ≤ 100
  below : Below W1.heap.size W1 wq
set_option maxHeartbeats 2000000 in
theorem wide_any (S : Nat → Prop) (T : Tree) (A : Option Addr) (c : Nat) (w : World) (hS : ∀ k, S k → k < w.heap.size) (h : SrcT S w A [T]) (hA : ∀ b o, A = some ⟨b, o, none⟩ → b < w.heap.size) (hc : 1 ≤ c) :
    Calls Tryz.prog 24 #[.slice A 1 c, .int .i64 0] w fun e w' => (e = .returned (.bool false) ∧ Below w.heap.size w w' ∧ Ex.count T ≤ 500 ∧ shortT T) ∨ (e = .returned (.bool true) ∧ Below w.heap.size w w') := by
  have H0 : Hid (WdAt S w T (Ex.count T + 1) (.slice A 1 c) (.int .i64 0) (.int .i64 0) w [T] A c 0 0) := Lib.hid ⟨by rw [Ex.counts, Ex.counts]; omega, by rw [Ex.counts, Ex.counts]; omega, fun h => by rw [shortTs] at h; exact h.1, rfl, hc, h, hA, rfl, by omega, rfl, by omega, by simp, Below.refl _ _⟩
  have HS := Lib.hid hS
  clear h hA hc hS
  go_enter Tryz.func24, Tryz.ntmps24
  go_wp2_with fail
  go_loopg [0, 1, 5, 6, 7] (Ex.count T + 1) (fun j s0 s1 s5 s6 s7 wr => ∃ td Al cl n d, Hid (WdAt S w T j s0 s1 s5 wr td Al cl n d))
  case atStart => exact ⟨_, _, _, _, _, H0⟩
  case round =>
    obtain ⟨td, Al, cl, n, d, HM⟩ := hrel
    obtain ⟨wl, rfl⟩ : ∃ wl, wl = wr := ⟨wr, rfl⟩
    have hs0 := HM.out.v0
    have hs1 := HM.out.v1
    have hs5 := HM.out.v5
    obtain ⟨m, hm⟩ : ∃ m, td.length = m := ⟨_, rfl⟩
    rw [hm] at hs0
    subst hs0 hs1 hs5
    have HLM := Lib.hid hm
    have hm5 : (m : Int) ≤ 500 := by have := HM.out.len; omega
    clear hm
    by_cases hm0 : m = 0
    · subst hm0
      have htd : td = [] := List.eq_nil_of_length_eq_zero HLM.out
      have FIN : Hid (Ex.count T ≤ 500 ∧ shortT T) := Lib.hid (by
        have h1 := HM.out.cnt
        have h2 := HM.out.short
        have h3 := HM.out.n500
        rw [htd, Ex.counts] at h1
        rw [htd, shortTs] at h2
        exact ⟨by omega, h2 trivial⟩)
      go_wp2_with fail
      go_ret
      exact .inl ⟨rfl, HM.out.below, FIN.out⟩
    · have hm1 : (0 : Int) < (m : Int) := by omega
      have hm1n : 0 < m := by omega
      have hn5 : (n : Int) ≤ 500 := by have := HM.out.n500; omega
      have hd6 : (d : Int) ≤ 61 := by have := HM.out.d61; omega
      have b1 : Below wl.heap.size wl (wl.alloc (.cells #[] 26)) := (Below.refl _ _).alloc (Nat.le_refl _) _
      have r1 := RowT.new (S := S) (w := wl) (fun h => by have := HS.out _ h; have := HM.out.below.size; omega)
      have B1 := Lib.hid b1
      have R1 := Lib.hid r1
      clear b1 r1
      go_upto_block 2 with fail
      go_cut [5, 6, 7] from 12 to 57 (fun s5 s6 s7 wc => s5 = .int .i64 ((n + m : Nat) : Int) ∧ n + m ≤ 500 ∧ Hid (WdIn S td wl m s6 wc))
      case first =>
        go_wp2_with fail
        go_loopg [5, 6, 7] (m + 1) (fun j s5 s6 s7 wq => ∃ i : Nat, i ≤ m ∧ m < i + j ∧ s7 = .int .i64 (i : Nat) ∧ s5 = .int .i64 ((n + i : Nat) : Int) ∧ n + i ≤ 500 ∧ Hid (WdIn S td wl i s6 wq))
        case atStart => exact ⟨0, by omega, by omega, rfl, rfl, by omega, Lib.hid ⟨by rw [List.take_zero]; exact R1.out, by rw [List.take_zero]; simp [Ex.below], by rw [List.take_zero]; simp, B1.out⟩⟩
        case round =>
          obtain ⟨i, hi, hj, rfl, rfl, hni, HI⟩ := hrel
          by_cases hlt : i < m
          · have hlt' : (i : Int) < (m : Int) := by omega
            have hitd : i < td.length := by rw [HLM.out]; exact hlt
            have hni' : ((n + i : Nat) : Int) ≤ 500 := by omega
            obtain ⟨b, o, op, t, vk, vn, vs, ks, B, c9, rfl, hx, hbl, c0, c1, c2, c3, c4, c5, hck, hkk⟩ := (HM.out.src.below HI.out.below).at_ i hitd
            have HX := Lib.hid hx
            clear hx
            generalize hq : n + i = q at *
            have HQ := Lib.hid hq
            clear hq
            have FIN : Hid (∀ W2, Below wl.heap.size wl W2 → Below w.heap.size w W2) := Lib.hid (fun W2 h => HM.out.below.trans (h.mono HM.out.below.size))
            by_cases g1 : 500 < q + 1
            · have g1' : (500 : Int) < (q : Int) + 1 := by omega
              go_wp2_with fail
              go_ret
              exact .inr ⟨rfl, FIN.out _ HI.out.below⟩
            have g1' : ¬ (500 : Int) < (q : Int) + 1 := by omega
            by_cases g2 : 100 < t.length
            · have g2' : (100 : Int) < (t.length : Int) := by omega
              go_wp2_with fail
              go_ret
              exact .inr ⟨rfl, FIN.out _ HI.out.below⟩
            have g2' : ¬ (100 : Int) < (t.length : Int) := by omega
            by_cases g3 : 400 < vs.length
            · have g3' : (400 : Int) < (vs.length : Int) := by omega
              go_wp2_with fail
              go_ret
              exact .inr ⟨rfl, FIN.out _ HI.out.below⟩
            have g3' : ¬ (400 : Int) < (vs.length : Int) := by omega
            by_cases g4 : 100 < ks.length
            · have g4' : (100 : Int) < (ks.length : Int) := by omega
              go_wp2_with fail
              go_ret
              exact .inr ⟨rfl, FIN.out _ HI.out.below⟩
            have g4' : ¬ (100 : Int) < (ks.length : Int) := by omega
            obtain ⟨v5, w5, hrun, r5, T5, o5⟩ := append_trees HI.out.row (c := c9) hkk.src (by have := HI.out.len; omega) HI.out.below.size (fun h => by have := HS.out _ h; have := HM.out.below.size; have := HI.out.below.size; omega)
            have NXT : Hid (WdIn S td wl (i + 1) v5 w5) := Lib.hid ⟨by rw [below_take td i hitd, HX.out]; exact r5, by rw [below_take td i hitd, HX.out, List.length_append]; have := HI.out.len; show _ + ks.length ≤ _; omega, fun x hxm => by
              rw [List.take_succ_eq_append_getElem hitd] at hxm
              rcases List.mem_append.1 hxm with hxm | hxm
              · exact HI.out.txt x hxm
              · have : x = td[i] := by simpa using hxm
                rw [this, HX.out]
                show t.length ≤ 100
                omega, T5.fresh HI.out.below (fun k hk => (HI.out.row.block k (by simpa using hk)).1)⟩
            have HRUN := Lib.hid hrun
            clear hrun r5 T5 o5 hkk g2 g3 g4
            go_wp2_with (at_builtin; refine Lib.wpList_append_run _ rfl (.tmp 50) (.tmp 55) 24 24 rfl _ _ rfl rfl _ _ HRUN.out ?_)
            go_roundg (m - i)
            case measure => omega
            case rel =>
              have h1 := HQ.out
              exact ⟨i + 1, by omega, by omega, by go_num, by rw [show n + (i + 1) = q + 1 by omega]; go_num, by omega, NXT⟩
          · have hlt' : ¬ (i : Int) < (m : Int) := by omega
            have hie : i = m := by omega
            subst hie
            go_wp2_with fail
            go_meet
            case rel => exact ⟨rfl, hni, HI⟩
      case rest =>
        obtain ⟨rfl, hnm, HI⟩ := hcut
        obtain ⟨A6, c6, hv6, hc6, -, hsrc, hblk⟩ := HI.out.row.src
        obtain ⟨k, hk⟩ : ∃ k, (Ex.below (td.take m)).length = k := ⟨_, rfl⟩
        have HK := Lib.hid hk
        rw [hk] at hv6
        have hv6' := hv6
        subst hv6
        have htk : td.take m = td := List.take_of_length_le (by rw [HLM.out]; omega)
        have HBW : Hid (Below w.heap.size w wc) := Lib.hid (HM.out.below.trans (HI.out.below.mono HM.out.below.size))
        have hmeas := HM.out.meas
        have hcb := Ex.counts_below td
        have hcnt := HM.out.cnt
        rw [HLM.out] at hcb
        have hnm' : ((n + m : Nat) : Int) ≤ 500 := by omega
        have NXT : k ≤ 500 → d ≤ 60 → Hid (WdAt S w T (gk - m) (.slice A6 k c6) (.int .i64 ((d + 1 : Nat) : Int)) (.int .i64 ((n + m : Nat) : Int)) wc (Ex.below td) A6 c6 (n + m) (d + 1)) := fun h1 h2 => by
          have hk2 := hk
          rw [htk] at hk2
          have hs2 := hsrc
          have ht2 := HI.out.txt
          rw [htk] at hs2 ht2
          rw [htk] at hc6
          exact Lib.hid ⟨by omega, by omega, fun h => HM.out.short (short_below td ht2 h), by rw [hk2], hc6, hs2, fun b o e => (HI.out.row.block b (hblk b o e)).2, rfl, hnm, rfl, by omega, by omega, HBW.out⟩
        have HNXT := Lib.hid NXT
        have HMEAS : Hid (m ≤ gk ∧ 0 < m ∧ Ex.counts td < gk ∧ Ex.counts td = m + Ex.counts (Ex.below td)) := Lib.hid ⟨by omega, by omega, hmeas, hcb⟩
        clear NXT hk hsrc hblk hc6 hcb hcnt hmeas htk hv6'
        by_cases g1 : 500 < k
        · have g1' : (500 : Int) < (k : Int) := by omega
          go_wp2_with fail
          go_ret
          exact .inr ⟨rfl, HBW.out⟩
        have g1' : ¬ (500 : Int) < (k : Int) := by omega
        by_cases g2 : 60 < d
        · have g2' : (60 : Int) < (d : Int) := by omega
          go_wp2_with fail
          go_ret
          exact .inr ⟨rfl, HBW.out⟩
        have g2' : ¬ (60 : Int) < (d : Int) := by omega
        have HN := HNXT.out (by omega) (by omega)
        clear HNXT
        go_wp2_with fail
        go_roundg (gk - m)
        case measure => have := HMEAS.out; omega
        case rel => exact ⟨_, _, _, _, _, HN⟩
/-- Wide. -/
theorem Wide_any (T : Tree) (v : Value) (w : World) (h : NodeV w v T) :
    Calls Tryz.prog 9 #[v] w fun e w' => (e = .returned (.bool false) ∧ Below w.heap.size w w' ∧ Ex.count T ≤ 500 ∧ shortT T) ∨ (e = .returned (.bool true) ∧ Below w.heap.size w w') := by
  cases T with
  | node op t vk vn vs ks =>
  obtain ⟨A, c, rfl, hcc, hk⟩ := h
  obtain ⟨T, hT⟩ : ∃ T, (.node op t vk vn vs ks : Tree) = T := ⟨_, rfl⟩
  have b0 : Below w.heap.size w ((w.alloc (.cells (ncells op t vk vn vs A ks.length c) 26)).alloc (.cells (ncells op t vk vn vs A ks.length c) 26)) := ((Below.refl _ w).alloc (Nat.le_refl _) _).alloc (by simp) _
  have k2 := Whole.new (w.alloc (.cells (ncells op t vk vn vs A ks.length c) 26)) 26 (ncells op t vk vn vs A ks.length c)
  simp only [World.size_alloc] at k2
  have src : SrcT (· < w.heap.size) ((w.alloc (.cells (ncells op t vk vn vs A ks.length c) 26)).alloc (.cells (ncells op t vk vn vs A ks.length c) 26)) (some ⟨w.heap.size + 1, 0, none⟩) [.node op t vk vn vs ks] :=
    ⟨_, ⟨A, c, [], rfl, hcc, hk.old b0, rfl⟩, fun j u hu => ⟨_, 0, rfl, by rw [Nat.zero_add, k2.cell, ← hu]; simp⟩⟩
  rw [hT] at src ⊢
  have CC := wide_any (· < w.heap.size) T _ 1 _ (fun k hk => by simp only [World.size_alloc]; omega) src (fun b o e => by cases e; simp) (Nat.le_refl _)
  have B0 := Lib.hid b0
  have HC := Lib.hid CC
  clear CC src k2 b0 hk hcc hT
  unfold ncells at *
  go_enter Tryz.func9, Tryz.ntmps9
  go_wp2_with fail
  refine HC.out.mono ?_
  rintro e w2 (⟨rfl, hb, hs⟩ | ⟨rfl, hb⟩)
  · go_wp2_with fail
    go_ret
    exact .inl ⟨rfl, bstep B0.out hb, hs⟩
  · go_wp2_with fail
    go_ret
    exact .inr ⟨rfl, bstep B0.out hb⟩
end Go.Proofs.YteghhmomhlnccaaGreatDoor
