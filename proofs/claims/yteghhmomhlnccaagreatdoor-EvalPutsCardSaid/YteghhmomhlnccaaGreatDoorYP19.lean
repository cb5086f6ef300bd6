import Derived.Test.YteghhmomhlnccaaGreatDoorYP2
import Derived.Test.YteghhmomhlnccaaGreatDoorYP5
import Derived.Stop.LaidErr
import Derived.Stop.Joined
import Derived.Test.YteghhmomhlnccaaGreatDoorYP3
import Derived.Test.YteghhmomhlnccaaGreatDoorYP12
import Derived.Deep.CutRange
import Derived.Deep.DeepCutAuto
import Derived.Deep.CutBlock
import Derived.Test.YteghhmomhlnccaaGreatDoorYP17
import Derived.Test.YteghhmomhlnccaaGreatDoorYP18
import Derived.Test.YteghhmomhlnccaaGreatDoorYP8
set_option linter.unusedVariables false
set_option linter.unusedSimpArgs false
namespace Go.Proofs.YteghhmomhlnccaaGreatDoor
open Go.ChangeShapes Go.WideShapes Go.ChangeAt Go.RowKit
set_option maxRecDepth 100000
def nameOfD : DataW Unit → String
 | .iface nm _ => nm
 | _ => ("")
theorem rowE (u : TypeId) (h : Tryz.prog.typeName? 3 u = some (nameOfD Rows.laid_strconv_ErrRange)) : u = 242 :=
 typeName_ptr_named (nm := ("errors.errorString")) (by kernel_rfl) (by kernel_rfl) (by decide) u (h.trans (congrArg some (by decide)))
theorem cellsE : Tryz.prog.cellsOf 244 = 1 := by kernel_rfl
theorem cellsS : Tryz.prog.cellsOf 9 = 1 := by kernel_rfl
theorem cellsU : Tryz.prog.cellsOf 70 = 1 := by kernel_rfl
theorem cellsT : Tryz.prog.cellsOf 225 = 20 := by kernel_rfl
theorem rangeType : (Tryz.prog.globals[0]?).map (·.type) = some 168 := by kernel_rfl
theorem powType : ((Tryz.prog.globalNamed powName).bind fun g => (Tryz.prog.globals[g]?).map (·.type)) = some 225 := by kernel_rfl
theorem env_of {W : World} (h : laidMet Tryz.prog Rows.evalTellsRow.laid W) {m : Int} (hm : MaxAt W m) : ∃ a, Env W a m := by
 obtain ⟨a, s, hv, -, -, -⟩ := laid_sentinel (tp := 242) (te := 244) (ts := 9) h.tail.tail.tail.tail errRange_at rangeType Tryz.underlying168 rowE Tryz.underlying242 Tryz.underlying244 rfl rfl Tryz.underlying9 cellsE cellsS
 obtain ⟨g, hg, -⟩ := pow10_at
 have ht := powType
 rw [hg] at ht
 exact ⟨a, Lib.tabIs_of_head hg ht Tryz.underlying225 Tryz.underlying70 cellsU cellsT h.tail.tail, hv, hm⟩
end Go.Proofs.YteghhmomhlnccaaGreatDoor
namespace Go.Proofs.YteghhmomhlnccaaGreatDoor
open Go.RowKit Go.Lib
set_option maxRecDepth 100000
open Ex (Tree)
theorem shortTs_append : ∀ (a b : List Tree), shortTs (a ++ b) ↔ shortTs a ∧ shortTs b
 | [], b => by rw [List.nil_append, shortTs]; simp
 | x :: a, b => by rw [List.cons_append, shortTs, shortTs, shortTs_append a b, and_assoc]
theorem short_below : ∀ (l : List Tree), (∀ x ∈ l, x.text.length ≤ 100) → shortTs (Ex.below l) → shortTs l
 | [], _, _ => by rw [shortTs]; trivial
 | .node op t vk vn vs ks :: l, h, hs => by
  have e : Ex.below (.node op t vk vn vs ks :: l) = ks ++ Ex.below l := rfl
  rw [e, shortTs_append] at hs
  rw [shortTs, shortT]
  have := h _ (List.mem_cons_self ..)
  exact ⟨⟨by show t.length ≤ 6000; have : t.length ≤ 100 := this; omega, hs.1⟩, short_below l (fun x hx => h x (List.mem_cons_of_mem _ hx)) hs.2⟩
theorem below_take (l : List Tree) (i : Nat) (h : i < l.length) : Ex.below (l.take (i + 1)) = Ex.below (l.take i) ++ l[i].kids := by
 rw [List.take_succ_eq_append_getElem h, Ex.below, List.flatMap_append]
 simp [Ex.below]
theorem SrcT.at_ {S : Nat → Prop} {w : World} {A : Option Addr} : ∀ {l : List Tree}, SrcT S w A l → ∀ i (h : i < l.length), ∃ b o op t vk vn vs ks B c, A = some ⟨b, o, none⟩ ∧ l[i] = .node op t vk vn vs ks ∧ b < w.heap.size ∧ w.cell? ⟨b, o + i * 6, none⟩ = some (.int .i64 op) ∧ w.cell? ⟨b, o + i * 6 + 1, none⟩ = some (.string (tx t)) ∧ w.cell? ⟨b, o + i * 6 + 2, none⟩ = some (.int .i64 vk) ∧
   w.cell? ⟨b, o + i * 6 + 3, none⟩ = some (.int .i64 vn) ∧ w.cell? ⟨b, o + i * 6 + 4, none⟩ = some (.string (tx vs)) ∧ w.cell? ⟨b, o + i * 6 + 5, none⟩ = some (.slice B ks.length c) ∧ ks.length ≤ c ∧ TreesIn S w B 0 ks
 | .node op t vk vn vs ks :: l, h, 0, hi => by
  obtain ⟨b, o, B, c, e, hb, c0, c1, c2, c3, c4, c5, hc, hk, -⟩ := h.head
  exact ⟨b, o, op, t, vk, vn, vs, ks, B, c, e, rfl, hb, by simpa using c0, by simpa using c1, by simpa using c2, by simpa using c3, by simpa using c4, by simpa using c5, hc, hk⟩
 | .node op t vk vn vs ks :: l, h, i + 1, hi => by
  obtain ⟨b, o, B, c, rfl, hb, c0, c1, c2, c3, c4, c5, hc, hk, hr⟩ := h.head
  obtain ⟨b', o', op', t', vk', vn', vs', ks', B', c', e, h1, h2, h3, h4, h5, h6, h7, h8, h9, h10⟩ := hr.at_ i (by simpa using hi)
  cases e
  refine ⟨b, o, op', t', vk', vn', vs', ks', B', c', rfl, by simpa using h1, hb, ?_, ?_, ?_, ?_, ?_, ?_, h9, h10⟩ <;> (rw [show o + (i + 1) * 6 = o + 6 + i * 6 by omega]; assumption)
 | [], h, i, hi => absurd hi (Nat.not_lt_zero _)
structure WdAt (S : Nat → Prop) (w : World) (T : Tree) (j : Nat) (s0 s1 s5 : Value) (wr : World) (td : List Tree) (Al : Option Addr) (cl n d : Nat) : Prop where
 meas : Ex.counts td < j
 cnt : n + Ex.counts td = Ex.count T
 short : shortTs td → shortT T
 v0 : s0 = .slice Al td.length cl
 cap : td.length ≤ cl
 src : SrcT S wr Al td
 far : ∀ b o, Al = some ⟨b, o, none⟩ → b < wr.heap.size
 v5 : s5 = .int .i64 (n : Nat)
 n500 : n ≤ 500
 v1 : s1 = .int .i64 (d : Nat)
 d61 : d ≤ 61
 len : td.length ≤ 500
 below : Below w.heap.size w wr
structure WdIn (S : Nat → Prop) (td : List Tree) (W1 : World) (i : Nat) (s6 : Value) (wq : World) : Prop where
 row : RowT S wq W1.heap.size s6 (Ex.below (td.take i))
 len : (Ex.below (td.take i)).length ≤ 100 * i
 txt : ∀ x ∈ td.take i, x.text.length ≤ 100
 below : Below W1.heap.size W1 wq
set_option maxHeartbeats 2000000 in
theorem wide_any (S : Nat → Prop) (T : Tree) (A : Option Addr) (c : Nat) (w : World) (hS : ∀ k, S k → k < w.heap.size) (h : SrcT S w A [T]) (hA : ∀ b o, A = some ⟨b, o, none⟩ → b < w.heap.size) (hc : 1 ≤ c) :
  Calls Tryz.prog 24 #[.slice A 1 c, .int .i64 0] w fun e w' => (e = .returned (.bool false) ∧ Below w.heap.size w w' ∧ Ex.count T ≤ 500 ∧ shortT T) ∨ (e = .returned (.bool true) ∧ Below w.heap.size w w') := by
 have H0 : Hid (WdAt S w T (Ex.count T + 1) (.slice A 1 c) (.int .i64 0) (.int .i64 0) w [T] A c 0 0) := Lib.hid ⟨by rw [Ex.counts, Ex.counts]; omega, by rw [Ex.counts, Ex.counts]; omega, fun h => by rw [shortTs] at h; exact h.1, rfl, hc, h, hA, rfl, by omega, rfl, by omega, by simp, Below.refl _ _⟩
 have HS := Lib.hid hS
 clear h hA hc hS
 go_enter Tryz.func24, Tryz.ntmps24
 go_wp2_with fail
 go_loopg [0, 1, 5, 6, 7] (Ex.count T + 1) (fun j s0 s1 s5 s6 s7 wr => ∃ td Al cl n d, Hid (WdAt S w T j s0 s1 s5 wr td Al cl n d))
 case atStart => exact ⟨_, _, _, _, _, H0⟩
 case round =>
  obtain ⟨td, Al, cl, n, d, HM⟩ := hrel
  obtain ⟨wl, rfl⟩ : ∃ wl, wl = wr := ⟨wr, rfl⟩
  have hs0 := HM.out.v0
  have hs1 := HM.out.v1
  have hs5 := HM.out.v5
  obtain ⟨m, hm⟩ : ∃ m, td.length = m := ⟨_, rfl⟩
  rw [hm] at hs0
  subst hs0 hs1 hs5
  have HLM := Lib.hid hm
  have hm5 : (m : Int) ≤ 500 := by have := HM.out.len; omega
  clear hm
  by_cases hm0 : m = 0
  ·subst hm0
   have htd : td = [] := List.eq_nil_of_length_eq_zero HLM.out
   have FIN : Hid (Ex.count T ≤ 500 ∧ shortT T) := Lib.hid (by
    have h1 := HM.out.cnt
    have h2 := HM.out.short
    have h3 := HM.out.n500
    rw [htd, Ex.counts] at h1
    rw [htd, shortTs] at h2
    exact ⟨by omega, h2 trivial⟩)
   go_wp2_with fail
   go_ret
   exact .inl ⟨rfl, HM.out.below, FIN.out⟩
  ·have hm1 : (0 : Int) < (m : Int) := by omega
   have hm1n : 0 < m := by omega
   have hn5 : (n : Int) ≤ 500 := by have := HM.out.n500; omega
   have hd6 : (d : Int) ≤ 61 := by have := HM.out.d61; omega
   have b1 : Below wl.heap.size wl (wl.alloc (.cells #[] 26)) := (Below.refl _ _).alloc (Nat.le_refl _) _
   have r1 := RowT.new (S := S) (w := wl) (fun h => by have := HS.out _ h; have := HM.out.below.size; omega)
   have B1 := Lib.hid b1
   have R1 := Lib.hid r1
   clear b1 r1
   go_upto_block 2 with fail
   go_cut [5, 6, 7] from 12 to 57 (fun s5 s6 s7 wc => s5 = .int .i64 ((n + m : Nat) : Int) ∧ n + m ≤ 500 ∧ Hid (WdIn S td wl m s6 wc))
   case first =>
    go_wp2_with fail
    go_loopg [5, 6, 7] (m + 1) (fun j s5 s6 s7 wq => ∃ i : Nat, i ≤ m ∧ m < i + j ∧ s7 = .int .i64 (i : Nat) ∧ s5 = .int .i64 ((n + i : Nat) : Int) ∧ n + i ≤ 500 ∧ Hid (WdIn S td wl i s6 wq))
    case atStart => exact ⟨0, by omega, by omega, rfl, rfl, by omega, Lib.hid ⟨by rw [List.take_zero]; exact R1.out, by rw [List.take_zero]; simp [Ex.below], by rw [List.take_zero]; simp, B1.out⟩⟩
    case round =>
     obtain ⟨i, hi, hj, rfl, rfl, hni, HI⟩ := hrel
     by_cases hlt : i < m
     ·have hlt' : (i : Int) < (m : Int) := by omega
      have hitd : i < td.length := by rw [HLM.out]; exact hlt
      have hni' : ((n + i : Nat) : Int) ≤ 500 := by omega
      obtain ⟨b, o, op, t, vk, vn, vs, ks, B, c9, rfl, hx, hbl, c0, c1, c2, c3, c4, c5, hck, hkk⟩ := (HM.out.src.below HI.out.below).at_ i hitd
      have HX := Lib.hid hx
      clear hx
      generalize hq : n + i = q at *
      have HQ := Lib.hid hq
      clear hq
      have FIN : Hid (∀ W2, Below wl.heap.size wl W2 → Below w.heap.size w W2) := Lib.hid (fun W2 h => HM.out.below.trans (h.mono HM.out.below.size))
      by_cases g1 : 500 < q + 1
      ·have g1' : (500 : Int) < (q : Int) + 1 := by omega
       go_wp2_with fail
       go_ret
       exact .inr ⟨rfl, FIN.out _ HI.out.below⟩
      have g1' : ¬ (500 : Int) < (q : Int) + 1 := by omega
      by_cases g2 : 100 < t.length
      ·have g2' : (100 : Int) < (t.length : Int) := by omega
       go_wp2_with fail
       go_ret
       exact .inr ⟨rfl, FIN.out _ HI.out.below⟩
      have g2' : ¬ (100 : Int) < (t.length : Int) := by omega
      by_cases g3 : 400 < vs.length
      ·have g3' : (400 : Int) < (vs.length : Int) := by omega
       go_wp2_with fail
       go_ret
       exact .inr ⟨rfl, FIN.out _ HI.out.below⟩
      have g3' : ¬ (400 : Int) < (vs.length : Int) := by omega
      by_cases g4 : 100 < ks.length
      ·have g4' : (100 : Int) < (ks.length : Int) := by omega
       go_wp2_with fail
       go_ret
       exact .inr ⟨rfl, FIN.out _ HI.out.below⟩
      have g4' : ¬ (100 : Int) < (ks.length : Int) := by omega
      obtain ⟨v5, w5, hrun, r5, T5, o5⟩ := append_trees HI.out.row (c := c9) hkk.src (by have := HI.out.len; omega) HI.out.below.size (fun h => by have := HS.out _ h; have := HM.out.below.size; have := HI.out.below.size; omega)
      have NXT : Hid (WdIn S td wl (i + 1) v5 w5) := Lib.hid ⟨by rw [below_take td i hitd, HX.out]; exact r5, by rw [below_take td i hitd, HX.out, List.length_append]; have := HI.out.len; show _ + ks.length ≤ _; omega, fun x hxm => by
       rw [List.take_succ_eq_append_getElem hitd] at hxm
       rcases List.mem_append.1 hxm with hxm | hxm
       ·exact HI.out.txt x hxm
       ·have : x = td[i] := by simpa using hxm
        rw [this, HX.out]
        show t.length ≤ 100
        omega, T5.fresh HI.out.below (fun k hk => (HI.out.row.block k (by simpa using hk)).1)⟩
      have HRUN := Lib.hid hrun
      clear hrun r5 T5 o5 hkk g2 g3 g4
      go_wp2_with (at_builtin; refine Lib.wpList_append_run _ rfl (.tmp 50) (.tmp 55) 24 24 rfl _ _ rfl rfl _ _ HRUN.out ?_)
      go_roundg (m - i)
      case measure => omega
      case rel =>
       have h1 := HQ.out
       exact ⟨i + 1, by omega, by omega, by go_num, by rw [show n + (i + 1) = q + 1 by omega]; go_num, by omega, NXT⟩
     ·have hlt' : ¬ (i : Int) < (m : Int) := by omega
      have hie : i = m := by omega
      subst hie
      go_wp2_with fail
      go_meet
      case rel => exact ⟨rfl, hni, HI⟩
   case rest =>
    obtain ⟨rfl, hnm, HI⟩ := hcut
    obtain ⟨A6, c6, hv6, hc6, -, hsrc, hblk⟩ := HI.out.row.src
    obtain ⟨k, hk⟩ : ∃ k, (Ex.below (td.take m)).length = k := ⟨_, rfl⟩
    have HK := Lib.hid hk
    rw [hk] at hv6
    have hv6' := hv6
    subst hv6
    have htk : td.take m = td := List.take_of_length_le (by rw [HLM.out]; omega)
    have HBW : Hid (Below w.heap.size w wc) := Lib.hid (HM.out.below.trans (HI.out.below.mono HM.out.below.size))
    have hmeas := HM.out.meas
    have hcb := Ex.counts_below td
    have hcnt := HM.out.cnt
    rw [HLM.out] at hcb
    have hnm' : ((n + m : Nat) : Int) ≤ 500 := by omega
    have NXT : k ≤ 500 → d ≤ 60 → Hid (WdAt S w T (gk - m) (.slice A6 k c6) (.int .i64 ((d + 1 : Nat) : Int)) (.int .i64 ((n + m : Nat) : Int)) wc (Ex.below td) A6 c6 (n + m) (d + 1)) := fun h1 h2 => by
     have hk2 := hk
     rw [htk] at hk2
     have hs2 := hsrc
     have ht2 := HI.out.txt
     rw [htk] at hs2 ht2
     rw [htk] at hc6
     exact Lib.hid ⟨by omega, by omega, fun h => HM.out.short (short_below td ht2 h), by rw [hk2], hc6, hs2, fun b o e => (HI.out.row.block b (hblk b o e)).2, rfl, hnm, rfl, by omega, by omega, HBW.out⟩
    have HNXT := Lib.hid NXT
    have HMEAS : Hid (m ≤ gk ∧ 0 < m ∧ Ex.counts td < gk ∧ Ex.counts td = m + Ex.counts (Ex.below td)) := Lib.hid ⟨by omega, by omega, hmeas, hcb⟩
    clear NXT hk hsrc hblk hc6 hcb hcnt hmeas htk hv6'
    by_cases g1 : 500 < k
    ·have g1' : (500 : Int) < (k : Int) := by omega
     go_wp2_with fail
     go_ret
     exact .inr ⟨rfl, HBW.out⟩
    have g1' : ¬ (500 : Int) < (k : Int) := by omega
    by_cases g2 : 60 < d
    ·have g2' : (60 : Int) < (d : Int) := by omega
     go_wp2_with fail
     go_ret
     exact .inr ⟨rfl, HBW.out⟩
    have g2' : ¬ (60 : Int) < (d : Int) := by omega
    have HN := HNXT.out (by omega) (by omega)
    clear HNXT
    go_wp2_with fail
    go_roundg (gk - m)
    case measure => have := HMEAS.out; omega
    case rel => exact ⟨_, _, _, _, _, HN⟩
theorem Wide_any (T : Tree) (v : Value) (w : World) (h : NodeV w v T) :
  Calls Tryz.prog 9 #[v] w fun e w' => (e = .returned (.bool false) ∧ Below w.heap.size w w' ∧ Ex.count T ≤ 500 ∧ shortT T) ∨ (e = .returned (.bool true) ∧ Below w.heap.size w w') := by
 cases T with
 | node op t vk vn vs ks =>
 obtain ⟨A, c, rfl, hcc, hk⟩ := h
 obtain ⟨T, hT⟩ : ∃ T, (.node op t vk vn vs ks : Tree) = T := ⟨_, rfl⟩
 have b0 : Below w.heap.size w ((w.alloc (.cells (ncells op t vk vn vs A ks.length c) 26)).alloc (.cells (ncells op t vk vn vs A ks.length c) 26)) := ((Below.refl _ w).alloc (Nat.le_refl _) _).alloc (by simp) _
 have k2 := Whole.new (w.alloc (.cells (ncells op t vk vn vs A ks.length c) 26)) 26 (ncells op t vk vn vs A ks.length c)
 simp only [World.size_alloc] at k2
 have src : SrcT (· < w.heap.size) ((w.alloc (.cells (ncells op t vk vn vs A ks.length c) 26)).alloc (.cells (ncells op t vk vn vs A ks.length c) 26)) (some ⟨w.heap.size + 1, 0, none⟩) [.node op t vk vn vs ks] :=
  ⟨_, ⟨A, c, [], rfl, hcc, hk.old b0, rfl⟩, fun j u hu => ⟨_, 0, rfl, by rw [Nat.zero_add, k2.cell, ← hu]; simp⟩⟩
 rw [hT] at src ⊢
 have CC := wide_any (· < w.heap.size) T _ 1 _ (fun k hk => by simp only [World.size_alloc]; omega) src (fun b o e => by cases e; simp) (Nat.le_refl _)
 have B0 := Lib.hid b0
 have HC := Lib.hid CC
 clear CC src k2 b0 hk hcc hT
 unfold ncells at *
 go_enter Tryz.func9, Tryz.ntmps9
 go_wp2_with fail
 refine HC.out.mono ?_
 rintro e w2 (⟨rfl, hb, hs⟩ | ⟨rfl, hb⟩)
 ·go_wp2_with fail
  go_ret
  exact .inl ⟨rfl, bstep B0.out hb, hs⟩
 ·go_wp2_with fail
  go_ret
  exact .inr ⟨rfl, bstep B0.out hb⟩
end Go.Proofs.YteghhmomhlnccaaGreatDoor
namespace Go.Proofs.YteghhmomhlnccaaGreatDoor
open Go.RowKit Go.Lib
set_option maxRecDepth 100000
attribute [local go_sem ↓] eqVal neqVal
open Ex (Tree)
open Ev (V R Pl)
abbrev awIfT : Tree := .node 6 [105, 102] 0 0 [] [.node 1 [] 3 1 [] [], .node 1 [] 1 1 [] [], Ev.opT [47] (.node 1 [] 1 1 [] []) (.node 1 [] 1 0 [] [])]
abbrev awNvlT : Tree := .node 6 [110, 118, 108] 0 0 [] [Ev.opT [47] (.node 1 [] 1 1 [] []) (.node 1 [] 1 0 [] []), .node 1 [] 1 1 [] []]
theorem awIf_ev : Ev.evalR [] [] awIfT = Ev.ok ⟨1, 1, []⟩ := by
 rw [Ev.evalR, if_pos ⟨by kernel_rfl, by kernel_rfl⟩]; rfl
theorem awNvl_ev : Ev.evalR [] [] awNvlT = Ev.err 5 := by
 rw [Ev.evalR, if_pos ⟨by kernel_rfl, by kernel_rfl⟩]; rfl
set_option maxHeartbeats 1000000 in
theorem awake16_any (w : World) (a : Addr) (m : Int) (hv : Env w a m) : Calls Tryz.prog 8 #[] w fun e w' => e = .returned (.bool true) ∧ Below w.heap.size w w' := by
 have ep := parse_any ⟨#[105, 102, 40, 116, 114, 117, 101, 44, 32, 49, 44, 32, 49, 32, 47, 32, 48, 41]⟩ w a m hv
 rw [show (⟨#[105, 102, 40, 116, 114, 117, 101, 44, 32, 49, 44, 32, 49, 32, 47, 32, 48, 41]⟩ : ByteArray).data.toList = [105, 102, 40, 116, 114, 117, 101, 44, 32, 49, 44, 32, 49, 32, 47, 32, 48, 41] from rfl, Ev.awIf_parse] at ep
 have EP := Lib.hid ep
 have PB := Lib.hid (fun W (h : Env W a m) => parse_any ⟨#[110, 118, 108, 40, 49, 32, 47, 32, 48, 44, 32, 49, 41]⟩ W a m h)
 rw [show (⟨#[110, 118, 108, 40, 49, 32, 47, 32, 48, 44, 32, 49, 41]⟩ : ByteArray).data.toList = [110, 118, 108, 40, 49, 32, 47, 32, 48, 44, 32, 49, 41] from rfl, Ev.awNvl_parse] at PB
 have HV := Lib.hid hv
 clear ep hv
 go_enter Tryz.func8, Tryz.ntmps8
 go_wp2_with fail
 refine EP.out.mono ?_
 rintro e W1 ⟨u, rfl, ⟨A, c, rfl, hc, hk⟩, hb⟩
 have b2 : Below w.heap.size w ((W1.alloc (.cells (ncells 6 [105, 102] 0 0 [] A 3 c) 26)).alloc (.cells #[.int .i64 0, .int .i64 0] 54)) := (hb.alloc hb.size _).alloc (by have := hb.size; simp; omega) _
 have b1 : Below W1.heap.size W1 ((W1.alloc (.cells (ncells 6 [105, 102] 0 0 [] A 3 c) 26)).alloc (.cells #[.int .i64 0, .int .i64 0] 54)) := ((Below.refl _ _).alloc (Nat.le_refl _) _).alloc (by simp) _
 have k0 := (Whole.new W1 26 (ncells 6 [105, 102] 0 0 [] A 3 c)).alloc (.cells #[.int .i64 0, .int .i64 0] 54)
 have k1 := Whole.new (W1.alloc (.cells (ncells 6 [105, 102] 0 0 [] A 3 c) 26)) 54 #[.int .i64 0, .int .i64 0]
 simp only [World.size_alloc] at k1
 have nv : NodeV ((W1.alloc (.cells (ncells 6 [105, 102] 0 0 [] A 3 c) 26)).alloc (.cells #[.int .i64 0, .int .i64 0] 54)) (.agg (ncells 6 [105, 102] 0 0 [] A 3 c)) awIfT := ⟨A, c, rfl, hc, (hk.below b1).at⟩
 have PB2 := Lib.hid (PB.out _ (HV.out.below b2))
 unfold ncells at *
 have B2 := Lib.hid b2
 have K0 := Lib.hid k0
 have K1 := Lib.hid k1
 have NV := Lib.hid nv
 clear b2 b1 k0 k1 nv hk hb EP PB
 go_wp2_with fail
 generalize (W1.alloc (.cells #[.int .i64 6, .string (tx [105, 102]), .int .i64 0, .int .i64 0, .string (tx []), .slice A 3 c] 26)).alloc (.cells #[.int .i64 0, .int .i64 0] 54) = W2 at *
 refine PB2.out.mono ?_
 rintro e W3 ⟨u2, rfl, ⟨A2, c2, rfl, hc2, hk2⟩, hb3⟩
 have b4 : Below W2.heap.size W2 ((W3.alloc (.cells (ncells 6 [110, 118, 108] 0 0 [] A2 2 c2) 26)).alloc (.cells #[.int .i64 0, .int .i64 0] 54)) := (hb3.alloc hb3.size _).alloc (by have := hb3.size; simp; omega) _
 have b3 : Below W3.heap.size W3 ((W3.alloc (.cells (ncells 6 [110, 118, 108] 0 0 [] A2 2 c2) 26)).alloc (.cells #[.int .i64 0, .int .i64 0] 54)) := ((Below.refl _ _).alloc (Nat.le_refl _) _).alloc (by simp) _
 have p0 := (Whole.new W3 26 (ncells 6 [110, 118, 108] 0 0 [] A2 2 c2)).alloc (.cells #[.int .i64 0, .int .i64 0] 54)
 have p1 := Whole.new (W3.alloc (.cells (ncells 6 [110, 118, 108] 0 0 [] A2 2 c2) 26)) 54 #[.int .i64 0, .int .i64 0]
 simp only [World.size_alloc] at p1
 have nvb : NodeV ((W3.alloc (.cells (ncells 6 [110, 118, 108] 0 0 [] A2 2 c2) 26)).alloc (.cells #[.int .i64 0, .int .i64 0] 54)) (.agg (ncells 6 [110, 118, 108] 0 0 [] A2 2 c2)) awNvlT := ⟨A2, c2, rfl, hc2, (hk2.below b3).at⟩
 unfold ncells at *
 obtain ⟨x0, x1, x2, x3, x4, x5⟩ := six_of (K0.out.below b4 K0.out.lt)
 have B4 := Lib.hid b4
 have P0 := Lib.hid p0
 have P1 := Lib.hid p1
 have NVB := Lib.hid nvb
 have N4 := NV.out.below b4
 have V4 := Lib.hid (HV.out.below (bstep B2.out b4))
 have KA := eval_any [] [] none none 0 0 awIfT _ _ (ColsAt.nil _ _) (fun c hc => by cases hc) (ValsAt.nil _ _) (fun c hc => by cases hc) (by simp) (by simp) a m V4.out N4 (by simp [fitT, fitTs, maxLen]) (by simp [Ex.count, Ex.counts]) (by kernel_rfl)
 rw [awIf_ev] at KA
 have KAH := Lib.hid KA
 have R0 := Lib.hid (K1.out.below b4 K1.out.lt)
 clear b4 b3 p0 p1 nvb hk2 hb3 PB2 hc2 hc N4 NV K0 K1 KA
 unfold outR vv vcells Ev.ok at KAH
 dsimp only at KAH
 go_wp2_with fail
 generalize (W3.alloc (.cells #[.int .i64 6, .string (tx [110, 118, 108]), .int .i64 0, .int .i64 0, .string (tx []), .slice A2 2 c2] 26)).alloc (.cells #[.int .i64 0, .int .i64 0] 54) = W4 at *
 refine KAH.out.mono ?_
 rintro e W6 ⟨rfl, hb6⟩
 have hb7 := hb6.alloc (Nat.le_trans (Nat.le_refl _) hb6.size) (.cells #[.int .i64 1, .int .i64 1, .string (tx [])] 23)
 have r6 := Row3.new W6 1 1 (tx [])
 have B7 := Lib.hid (bstep B4.out hb7)
 have N7 := NVB.out.below hb7
 have V7 := Lib.hid (V4.out.below hb7)
 have q0 := P0.out.below hb7 P0.out.lt
 have Q7 := Lib.hid (P1.out.below hb7 P1.out.lt)
 have R7 := Lib.hid (R0.out.below hb7 R0.out.lt)
 have S7 := Lib.hid r6
 have KB := eval_any [] [] none none 0 0 awNvlT _ _ (ColsAt.nil _ _) (fun c hc => by cases hc) (ValsAt.nil _ _) (fun c hc => by cases hc) (by simp) (by simp) a m V7.out N7 (by simp [fitT, fitTs, maxLen]) (by simp [Ex.count, Ex.counts]) (by kernel_rfl)
 rw [awNvl_ev] at KB
 have KBH := Lib.hid KB
 unfold outR vv vcells Ev.err Ev.z at KBH
 dsimp only at KBH
 obtain ⟨x0, x1, x2, x3, x4, x5⟩ := six_of q0
 clear KAH hb6 hb7 NVB V4 R0 q0 N7 r6 KB P0 P1 V7
 go_wp2_with fail
 refine KBH.out.mono ?_
 rintro e W8 ⟨rfl, hb8⟩
 have hb9 := hb8.alloc (Nat.le_trans (Nat.le_refl _) hb8.size) (.cells #[.int .i64 0, .int .i64 0, .string (tx [])] 23)
 have B9 := Lib.hid (bstep B7.out hb9)
 have q7 := Q7.out.below hb9 Q7.out.lt
 have r7 := R7.out.below hb9 R7.out.lt
 obtain ⟨s0, s1, s2⟩ := (S7.out.below hb9 S7.out.lt).holds
 have y0 := q7.cell 0
 have z0 := r7.cell 0
 simp only [List.getElem?_toArray, List.getElem?_cons_zero] at y0 z0
 have hsm : same 1 1 (tx []) 1 1 ⟨#[]⟩ = true := by rw [same_iff]; exact ⟨rfl, rfl, rfl⟩
 clear KBH hb8 hb9 Q7 R7 x0 x1 x2 x3 x4 x5 q7 r7 B7 S7
 go_wp2_with fail
 go_ret
 exact ⟨rfl, bstep B2.out B9.out⟩
theorem laidOut : laidOutB Tryz.prog = true := by kernel_rfl
def shortV (L : List V) : Prop := L.length ≤ 50 ∧ ∀ v ∈ L, v.s.length ≤ 400
theorem long_any (L : List V) (A : Option Addr) (c : Nat) (w : World) (hA : ValsAt w A L) (hF : fitV L) :
  Calls Tryz.prog 11 #[.slice A L.length c] w fun e w' => (e = .returned (.bool false) ∧ w' = w ∧ shortV L) ∨ (e = .returned (.bool true) ∧ w' = w) := by
 have HA := Lib.hid hA
 have HF := Lib.hid hF
 obtain ⟨m, hm⟩ : ∃ m, L.length = m := ⟨_, rfl⟩
 have HM := Lib.hid hm
 rw [hm]
 clear hA hm hF
 by_cases hb : (m : Int) ≤ 50
 ·have hb' : ¬ (50 : Int) < (m : Int) := by omega
  go_enter Tryz.func11, Tryz.ntmps11
  go_wp2_with fail
  go_loopg [3] (m + 1) (fun j s3 wr => ∃ i : Nat, i ≤ m ∧ m < i + j ∧ s3 = .int .i64 (i : Nat) ∧ Hid (∀ k (h1 : k < L.length), k < i → L[k].s.length ≤ 400) ∧ wr = w)
  case atStart => exact ⟨0, by omega, by omega, rfl, Lib.hid (fun k _ h => absurd h (Nat.not_lt_zero _)), rfl⟩
  case round =>
   obtain ⟨i, hi, hj, rfl, HE, hwr⟩ := hrel
   subst hwr
   by_cases hlt : i < m
   ·have hlt' : (i : Int) < (m : Int) := by omega
    have hik : i < L.length := by rw [HM.out]; exact hlt
    obtain ⟨b, o, rfl, hx, c0, c1, c2⟩ := HA.out i hik
    have hf0 := (HF.out L[i] (List.getElem_mem hik)).1
    simp only [maxLen] at hf0
    obtain ⟨nm, hnm⟩ : ∃ nm, L[i].s = nm := ⟨_, rfl⟩
    rw [hnm] at c2 hf0
    clear c0 c1
    by_cases hq : (nm.length : Int) ≤ 400
    ·have hq' : ¬ (400 : Int) < (nm.length : Int) := by omega
     have HE2 : Hid (∀ k (h1 : k < L.length), k < i + 1 → L[k].s.length ≤ 400) := Lib.hid (fun k h1 h3 => by
      by_cases hki : k = i
      ·subst hki; rw [hnm]; omega
      ·exact HE.out k h1 (by omega))
     clear HE hnm hik
     go_wp2_with fail
     go_roundg (m - i)
     case measure => omega
     case rel => exact ⟨i + 1, by omega, by omega, by go_num, HE2, rfl⟩
    ·have hq' : (400 : Int) < (nm.length : Int) := by omega
     clear HE hnm hik hq
     go_wp2_with fail
     go_ret
     exact .inr ⟨rfl, rfl⟩
   ·have hlt' : ¬ (i : Int) < (m : Int) := by omega
    have HR : Hid (shortV L) := Lib.hid ⟨by rw [HM.out]; omega, fun c hc => by
     obtain ⟨k, hk, rfl⟩ := List.getElem_of_mem hc
     exact HE.out k hk (by have := HM.out; omega)⟩
    go_wp2_with fail
    go_ret
    exact .inl ⟨rfl, rfl, HR.out⟩
 ·have hb' : (50 : Int) < (m : Int) := by omega
  clear hb
  go_enter Tryz.func11, Tryz.ntmps11
  go_wp2_with fail
  go_ret
  exact .inr ⟨rfl, rfl⟩
end Go.Proofs.YteghhmomhlnccaaGreatDoor
namespace Go.Proofs.YteghhmomhlnccaaGreatDoor
open Go.RowKit Go.Lib
set_option maxRecDepth 100000
attribute [local go_sem ↓] eqVal neqVal
open Ex (Tree)
open Ev (V R Pl)
structure LawS (w wr : World) (cs : Array Value) (X : Tree) (C : List Col) (Ac : Option Addr) (L : List V) (Al : Option Addr) (a : Addr) (m : Int) : Prop where
 b : Below w.heap.size w wr
 k : Whole wr w.heap.size 26 cs
 nx : NodeV wr (.agg cs) X
 ca : ColsAt wr Ac C
 va : ValsAt wr Al L
 env : Env wr a m
theorem LawS.call {w wr w' : World} {cs X C Ac L Al a m} (h : LawS w wr cs X C Ac L Al a m) (hb : Below wr.heap.size wr w') : LawS w w' cs X C Ac L Al a m :=
 ⟨bstep h.b hb, h.k.below hb h.k.lt, h.nx.below hb, h.ca.below hb, h.va.below hb, h.env.below hb⟩
theorem LawS.alloc {w wr : World} {cs X C Ac L Al a m} (h : LawS w wr cs X C Ac L Al a m) (o : Obj) : LawS w (wr.alloc o) cs X C Ac L Al a m := h.call ((Below.refl _ _).alloc (Nat.le_refl _) o)
theorem Ev.row_kind {C : List Col} {L : List V} (h : Ev.rowB C L = true) (hf : fitV L) : Ev.rowKind C L := by
 obtain ⟨-, h1, -, h2⟩ := Ev.rowB_is h hf
 exact ⟨h1, fun i hi hi' => h2 i hi' hi⟩
end Go.Proofs.YteghhmomhlnccaaGreatDoor
namespace Go.Proofs.YteghhmomhlnccaaGreatDoor
open Go.RowKit Go.Lib
set_option maxRecDepth 100000
open Ex (Tree)
open Ev (V R Pl)
def TurnAt (w : World) (g : Nat) (U : List V) : Prop := ∃ cur : Array Value, w.heap[g]? = some (.cells cur 23 (0, 0)) ∧ U.length * 3 ≤ cur.size ∧ cur.toList.take (U.length * 3) = valCells U
theorem TurnAt.lt {w : World} {g : Nat} {U : List V} (h : TurnAt w g U) : g < w.heap.size := by
 obtain ⟨cur, h1, -, -⟩ := h
 exact (Array.getElem?_eq_some_iff.1 h1).1
theorem TurnAt.below {w w' : World} {g : Nat} {U : List V} (h : TurnAt w g U) (hb : Below w.heap.size w w') : TurnAt w' g U := by
 have hl := h.lt
 obtain ⟨cur, h1, h2, h3⟩ := h
 exact ⟨cur, (hb.block g hl).trans h1, h2, h3⟩
theorem TurnAt.vals {w : World} {g : Nat} {U : List V} (h : TurnAt w g U) : ValsAt w (some ⟨g, 0, none⟩) U := by
 have hl := h.lt
 obtain ⟨cur, h1, h2, h3⟩ := h
 exact ValsAt.of_cells hl fun j u hu => by
  have hj : j < U.length * 3 := by rw [← valCells_len]; exact (List.getElem?_eq_some_iff.1 hu).1
  rw [Nat.zero_add, cell_of_row w g j cur 23 (0, 0) h1, ← hu, ← h3, List.getElem?_take, if_pos (by omega)]
  simp
theorem TurnAt.frozen {w : World} {g : Nat} {U : List V} (h : TurnAt w g U) (i : Nat) : w.frozen? ⟨g, i, none⟩ = false := by
 obtain ⟨cur, h1, -, -⟩ := h
 simp [World.frozen?, h1]
theorem valCells_set : ∀ (U : List V) (k : Nat) (x : V), (((valCells U).set (k * 3) (.int .i64 x.k)).set (k * 3 + 1) (.int .i64 x.n)).set (k * 3 + 2) (.string (tx x.s)) = valCells (U.set k x)
 | [], k, x => by simp [valCells]
 | u :: U, 0, x => rfl
 | u :: U, k + 1, x => by
  have := valCells_set U k x
  rw [show (u :: U).set (k + 1) x = u :: U.set k x from rfl, show valCells (u :: U.set k x) = .int .i64 u.k :: .int .i64 u.n :: .string (tx u.s) :: valCells (U.set k x) from rfl, ← this, show valCells (u :: U) = .int .i64 u.k :: .int .i64 u.n :: .string (tx u.s) :: valCells U from rfl, show (k + 1) * 3 = k * 3 + 1 + 1 + 1 by omega]
  rfl
theorem TurnAt.set {w : World} {g : Nat} {U : List V} (h : TurnAt w g U) {k : Nat} (hk : k < U.length) (x : V) : TurnAt (((w.setCell ⟨g, k * 3, none⟩ (.int .i64 x.k)).setCell ⟨g, k * 3 + 1, none⟩ (.int .i64 x.n)).setCell ⟨g, k * 3 + 2, none⟩ (.string (tx x.s))) g (U.set k x) := by
 obtain ⟨cur, h1, h2, h3⟩ := h
 have e0 := heap_setCell_same w g (k * 3) _ _ (.int .i64 x.k) h1
 have e1 := heap_setCell_same _ g (k * 3 + 1) _ _ (.int .i64 x.n) e0
 have e2 := heap_setCell_same _ g (k * 3 + 2) _ _ (.string (tx x.s)) e1
 refine ⟨_, e2, by simpa using h2, ?_⟩
 rw [List.length_set, ← valCells_set, ← h3]
 simp [List.take_set]
theorem Ev.rowB_iff {C : List Col} {U : List V} : Ev.rowB C U = true ↔ Kd.goodB C = true ∧ U.length = C.length ∧ ∀ i (h : i < U.length) (h2 : i < C.length), plainB U[i].k U[i].n (tx U[i].s) = true ∧ (U[i].k = C[i].2 ∨ U[i].k = 0) := by
 rw [Ev.rowB, Bool.and_eq_true, Bool.and_eq_true, List.all_eq_true, Ev.areB_iff]
 constructor
 ·rintro ⟨h1, h2, h3, h4⟩
  refine ⟨h1, by simpa using h3, fun i hi hi2 => ⟨h2 _ (List.getElem_mem hi), ?_⟩⟩
  have := h4 i hi (by simpa using hi2)
  rwa [List.getElem_map] at this
 ·rintro ⟨h1, h2, h3⟩
  refine ⟨h1, fun v hv => ?_, by simpa using h2, fun i hi hi2 => ?_⟩
  ·obtain ⟨i, hi, rfl⟩ := List.getElem_of_mem hv
   exact (h3 i hi (by omega)).1
  ·rw [List.getElem_map]; exact (h3 i hi (by simpa using hi2)).2
theorem Ev.row_set {C : List Col} {U : List V} {k : Nat} {x : V} (h : Ev.rowB C U = true) (hk : k < C.length) (hp : plainB x.k x.n (tx x.s) = true) (hx : x.k = C[k].2 ∨ x.k = 0) : Ev.rowB C (U.set k x) = true := by
 rw [Ev.rowB_iff] at h ⊢
 obtain ⟨h1, h2, h3⟩ := h
 refine ⟨h1, by simpa using h2, fun i hi hi2 => ?_⟩
 rw [List.getElem_set]
 split
 ·rename_i e; subst e; exact ⟨hp, hx⟩
 ·exact h3 i (by simpa using hi) hi2
def TurnV (w : World) (base : Nat) (v : Value) (U : List V) : Prop := (v = .slice none 0 0 ∧ U = []) ∨ ∃ g cap, v = .slice (some ⟨g, 0, none⟩) U.length cap ∧ base ≤ g ∧ TurnAt w g U
theorem TurnV.of_row {w : World} {base : Nat} {v : Value} {U : List V} (h : RowV w base v U) : TurnV w base v U := by
 rcases h.2 with ⟨rfl, h0⟩ | ⟨g, cap, cur, rfl, hb, hh, hn, hm, hs, ht⟩
 ·exact .inl ⟨rfl, List.eq_nil_of_length_eq_zero h0⟩
 ·exact .inr ⟨g, cap, rfl, hb, cur, hh, by rw [hs]; omega, ht⟩
theorem TurnV.below {w w' : World} {base : Nat} {v : Value} {U : List V} (h : TurnV w base v U) (hb : Below w.heap.size w w') : TurnV w' base v U := by
 rcases h with h | ⟨g, cap, h1, h2, h3⟩
 ·exact .inl h
 ·exact .inr ⟨g, cap, h1, h2, h3.below hb⟩
theorem TurnV.shape {w : World} {base : Nat} {v : Value} {U : List V} (h : TurnV w base v U) : ∃ A c, v = .slice A U.length c ∧ ValsAt w A U := by
 rcases h with ⟨rfl, rfl⟩ | ⟨g, cap, rfl, -, h⟩
 ·exact ⟨none, 0, rfl, ValsAt.nil _ _⟩
 ·exact ⟨_, cap, rfl, h.vals⟩
theorem TurnV.place {w : World} {base : Nat} {v : Value} {U : List V} (h : TurnV w base v U) {k : Nat} (hk : k < U.length) : ∃ g cap, v = .slice (some ⟨g, 0, none⟩) U.length cap ∧ base ≤ g ∧ TurnAt w g U := by
 rcases h with ⟨-, rfl⟩ | h
 ·simp at hk
 ·exact h
end Go.Proofs.YteghhmomhlnccaaGreatDoor
