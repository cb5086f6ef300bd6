import Derived.Test.YtcboakmfabdeoaaX2
import Derived.Test.YtcboakmfabdeoaaWg

/- Maps with a tree of any height: At. -/
namespace Go.Proofs.Ytcboakmfabdeoaa
open Go.RowKit

set_option maxRecDepth 100000 in
set_option maxHeartbeats 1000000 in
theorem TreeM.at_in {t m : Nat} {w : World} {l : List Pr} {rp : Option Addr} {fp : List Nat} (h : TreeM t m w l rp fp) (i : Nat) (q : Pr) (hq : l[i]? = some q) (hn : l.length ≤ 1000000) :
    Calls Try.prog 13 #[.pointer (some ⟨m, 0, none⟩), .int .i64 i] w fun e w' => e = .returned (.tuple #[.int .i64 q.1, .string q.2, .bool true]) ∧ Below w.heap.size w w' := by
  have hi : (i : Int) < (l.length : Int) := by have := (List.getElem?_eq_some_iff.1 hq).1; omega
  have hi0 : ¬ (i : Int) < 0 := by omega
  have hi2 : ¬ (l.length : Int) ≤ (i : Int) := by omega
  obtain ⟨hh, x, rfl, hx, rfl, rfl⟩ : ∃ (h : Nat) (x : Kid), rp = some ⟨x.p, 0, none⟩ ∧ IsT t w h x ∧ x.l = l ∧ x.fp = fp := by
    rcases h.root with ⟨_, rfl, _⟩ | h1
    · simp at hq
    · exact h1
  have c1 : w.cell? ⟨m, 1, none⟩ = some (.pointer (some ⟨x.p, 0, none⟩)) := cell_of_row w m 1 _ _ _ h.cell
  have HM := Lib.hid h
  have HX := Lib.hid hx
  have HQ := Lib.hid hq
  clear h hx hq
  go_enter Try.func13, Try.ntmps13
  go_wp2_with fail
  refine (HM.out.len).mono ?_
  rintro e w' ⟨rfl, rfl⟩
  go_wp2_with fail
  refine (at_any t hh x i q _ HX.out HM.out.rising HQ.out (by omega)).mono ?_
  rintro e w2 ⟨rfl, hb⟩
  have HB := Lib.hid hb
  clear hb c1
  go_wp2_with fail
  have TB : Below w.heap.size w (w2.alloc (.cells #[.int .i64 q.1, .string q.2] 61)) := HB.out.alloc HB.out.size _
  have AN : (w2.alloc (.cells #[.int .i64 q.1, .string q.2] 61)).heap[w2.heap.size]? = some (.cells #[.int .i64 q.1, .string q.2] 61 (0, 0)) := heap_alloc_new w2 _
  have t0 := cell_of_row _ w2.heap.size 0 _ _ _ AN
  have t1 := cell_of_row _ w2.heap.size 1 _ _ _ AN
  simp only [List.getElem?_toArray, List.getElem?_cons_zero, List.getElem?_cons_succ] at t0 t1
  have TB' := Lib.hid TB
  clear TB AN
  generalize w2.alloc (.cells #[.int .i64 q.1, .string q.2] 61) = W at *
  generalize w2.heap.size = T at *
  clear HB
  go_region_with fail
  all_goals
    go_wp2
    exact bodyPost_ret (v := .tuple #[.int .i64 q.1, .string q.2, .bool true]) (by simp [results, Try.results13, go_sem]) rfl ⟨rfl, ⟨TB'.out.os, TB'.out.tape, TB'.out.output, TB'.out.size, TB'.out.block⟩⟩

theorem TreeM.at_out {t m : Nat} {w : World} {l : List Pr} {rp : Option Addr} {fp : List Nat} (h : TreeM t m w l rp fp) (i : Int) (hi : i < 0 ∨ (l.length : Int) ≤ i) :
    Calls Try.prog 13 #[.pointer (some ⟨m, 0, none⟩), .int .i64 i] w fun e w' => e = .returned (.tuple #[.int .i64 0, .string ⟨#[]⟩, .bool false]) ∧ w = w' := by
  have HM := Lib.hid h
  clear h
  by_cases h0 : i < 0
  · clear hi
    go_enter Try.func13, Try.ntmps13
    go_wp2
    exact bodyPost_ret (v := .tuple #[.int .i64 0, .string ⟨#[]⟩, .bool false]) (by simp [results, Try.results13, go_sem]) rfl ⟨rfl, rfl⟩
  · have h1 : (l.length : Int) ≤ i := by omega
    clear hi
    go_enter Try.func13, Try.ntmps13
    go_wp2_with fail
    refine (HM.out.len).mono ?_
    rintro e w' ⟨rfl, rfl⟩
    go_wp2
    exact bodyPost_ret (v := .tuple #[.int .i64 0, .string ⟨#[]⟩, .bool false]) (by simp [results, Try.results13, go_sem]) rfl ⟨rfl, rfl⟩
end Go.Proofs.Ytcboakmfabdeoaa

/- Rank in a leaf; what a nil map tells. -/
namespace Go.Proofs.Ytcboakmfabdeoaa
open Go.RowKit

set_option maxHeartbeats 400000 in
theorem rank_nil (k : Int) (w : World) : Calls Try.prog 32 #[.pointer none, .int .i64 k] w fun e w' => e = .returned (.int .i64 0) ∧ w = w' := by
  go_enter Try.func32, Try.ntmps32
  go_wp2
  go_loopw [0, 5] (fun s0 s5 wr => s0 = .pointer none ∧ s5 = .int .i64 0 ∧ wr = w) (fun _ _ _ => 0)
  case atStart => exact ⟨rfl, rfl, rfl⟩
  case round =>
    obtain ⟨rfl, rfl, rfl⟩ := hrel
    go_wp2
    go_ret
    exact ⟨rfl, rfl⟩

set_option maxHeartbeats 1000000 in
set_option maxRecDepth 100000 in
theorem rank_leaf (t : Nat) (x : Kid) (k : Int) (w : World) (hx : IsT t w 0 x) (hs : Rising x.l) (hn : x.l.length ≤ 1000) :
    Calls Try.prog 32 #[.pointer (some ⟨x.p, 0, none⟩), .int .i64 k] w fun e w' => e = .returned (.int .i64 (pos x.l k)) ∧ Below w.heap.size w w' := by
  obtain ⟨vl, r1, r2, r3, r4⟩ := hx
  have c1 := r1.c1
  have R1 := Lib.hid r1
  have R2 := Lib.hid r2
  have HS := Lib.hid hs
  have hp := pos_le x.l k
  clear r1 r2 r3 r4 hs
  go_enter Try.func32, Try.ntmps32
  go_wp2
  go_loopg [0, 5] 0 (fun gk s0 s5 wr => s0 = .pointer (some ⟨x.p, 0, none⟩) ∧ s5 = .int .i64 0 ∧ wr = w)
  case atStart => exact ⟨rfl, rfl, rfl⟩
  case round =>
    obtain ⟨rfl, rfl, rfl⟩ := hrel
    have hpb : ((pos x.l k : Nat) : Int) ≤ 1000 := by omega
    obtain ⟨hb, hhb⟩ : ∃ hb, hasB x.l k = hb := ⟨_, rfl⟩
    have HH := Lib.hid hhb
    clear hhb
    go_wp2_with fail
    refine (place_at x.p vl _ _ x.l k hb _ R1.out R2.out HS.out (by omega) HH.out).mono ?_
    rintro e w' ⟨rfl, hw⟩
    have c1' := (hw.cell (p := ⟨x.p, 1, none⟩) (World.block_lt_of_cell? wr _ c1)).trans c1
    have HW := Lib.hid hw
    have HP : Hid (pos x.l k = pos x.l k) := rfl
    clear hw c1
    generalize hpp : pos x.l k = i at *
    have HPP := Lib.hid hpp
    clear hpp HP
    go_wp2_with fail
    refine (leaf_yes x.p 0 none _ c1').mono ?_
    rintro e w2 ⟨rfl, rfl⟩
    go_wp2
    go_ret
    exact ⟨ret_int (by rw [HPP.out]), HW.out⟩

theorem LeafM.rank {t m : Nat} {w : World} {l : List Pr} {rp : Option Addr} {fp : List Nat} (h : LeafM t m w l rp fp) (k : Int) (hn : l.length ≤ 1000) :
    Calls Try.prog 15 #[.pointer (some ⟨m, 0, none⟩), .int .i64 k] w fun e w' => e = .returned (.int .i64 (pos l k)) ∧ Below w.heap.size w w' := by
  have c1 : w.cell? ⟨m, 1, none⟩ = some (.pointer rp) := cell_of_row w m 1 _ _ _ h.cell
  have HM := Lib.hid h
  clear h
  have hr : Calls Try.prog 32 #[.pointer rp, .int .i64 k] w fun e w' => e = .returned (.int .i64 (pos l k)) ∧ Below w.heap.size w w' := by
    rcases HM.out.root with ⟨rfl, rfl, _⟩ | ⟨x, rfl, hx, rfl, rfl⟩
    · refine (rank_nil k w).mono ?_
      rintro e w' ⟨rfl, rfl⟩
      exact ⟨rfl, Below.refl _ _⟩
    · exact rank_leaf t x k w hx HM.out.rising hn
  have HR := Lib.hid hr
  clear hr
  go_enter Try.func15, Try.ntmps15
  go_wp2_with (first | (go_at_call 28; refine (top_any m _ _ c1).mono ?_; rintro e w' ⟨rfl, rfl⟩) | (go_at_call 32; refine HR.out.mono ?_; rintro e w' ⟨rfl, hw⟩))
  go_ret
  exact ⟨rfl, hw⟩
end Go.Proofs.Ytcboakmfabdeoaa

/- Rank in a tree of any height. -/
namespace Go.Proofs.Ytcboakmfabdeoaa
open Go.RowKit

/-- how many stand below k: what a node's own pairs say of it. -/
theorem pos_kid {ks : List Kid} {ps : List Pr} {k : Int} (hlen : ks.length = ps.length + 1) (hs : Rising (join (ks.map Kid.l) ps)) (hps : Rising ps) :
    ∃ z, ks[pos ps k]? = some z ∧ Rising z.l ∧ (hasB ps k = true → pos (join (ks.map Kid.l) ps) k = ahead ks ps (pos ps k) + z.l.length) ∧
      (hasB ps k = false → pos (join (ks.map Kid.l) ps) k = ahead ks ps (pos ps k) + pos z.l k) := by
  obtain ⟨P1, P2, K1, z, K2, e1, e2, e3, e4, e5, e6, e7, e8, e9⟩ := node_split (k := k) hlen hs
  have ha : ahead ks ps (pos ps k) = (joinL (K1.map Kid.l) P1).length := by
    have h1 : ks.take (pos ps k) = K1 := by rw [e2, ← e3, ← e4]; simp
    have h2 : ps.take (pos ps k) = P1 := by rw [← e3, e1]; simp
    unfold ahead; rw [h1, h2]
  have hs' := hs
  rw [e6] at hs'
  have r1 := rising_append.1 hs'
  have r2 := rising_append.1 r1.1
  refine ⟨z, by rw [e2, ← e3, ← e4]; simp, r2.2.1, fun hh => ?_, fun hh => ?_⟩
  · obtain ⟨Q1, q, Q2, f1, f2, f3⟩ := pair_split hps hh
    have hP : P1 = Q1 ∧ P2 = q :: Q2 := by
      have : P1 ++ P2 = Q1 ++ q :: Q2 := e1.symm.trans f1
      exact List.append_inj this (by omega)
    obtain ⟨rfl, rfl⟩ := hP
    obtain ⟨u, K3, rfl⟩ : ∃ u K3, K2 = u :: K3 := by
      cases K2 with
      | nil => simp at e5
      | cons u K3 => exact ⟨u, K3, rfl⟩
    have hj : joinL (K1.map Kid.l) P1 ++ z.l ++ joinR (q :: Q2) ((u :: K3).map Kid.l) = (joinL (K1.map Kid.l) P1 ++ z.l) ++ [q] ++ (u.l ++ joinR Q2 (K3.map Kid.l)) := by simp [joinR]
    rw [e6, ha, hj]
    rw [e6, hj] at hs
    obtain ⟨b1, b2⟩ := mid_bounds hs
    subst f2
    rw [pos_mid b1 b2]
    simp [pos]
  · rw [e6, ha, pos_mid e7 (e9 hh)]

set_option maxRecDepth 100000 in
set_option maxHeartbeats 1000000 in
theorem rank_any (t h : Nat) (x : Kid) (k : Int) (w : World) (hx : IsT t w h x) (hs : Rising x.l) (hn : x.l.length ≤ 1000000) :
    Calls Try.prog 32 #[.pointer (some ⟨x.p, 0, none⟩), .int .i64 k] w fun e w' => e = .returned (.int .i64 (pos x.l k)) ∧ Below w.heap.size w w' := by
  have HX := Lib.hid hx
  have HS := Lib.hid hs
  have hpx : pos x.l k ≤ 1000000 := Nat.le_trans (pos_le x.l k) hn
  clear hx hs
  go_enter Try.func32, Try.ntmps32
  go_wp2
  go_loopg [0, 5] h (fun gk s0 s5 wr => ∃ (y : Kid) (b : Nat), s0 = .pointer (some ⟨y.p, 0, none⟩) ∧ s5 = .int .i64 b ∧ b ≤ 1000000 ∧ y.l.length ≤ 1000000 ∧ Hid (b + pos y.l k = pos x.l k) ∧ Hid (IsT t w gk y) ∧ Hid (Rising y.l) ∧ Hid (Below w.heap.size w wr))
  case atStart => exact ⟨x, 0, rfl, rfl, by omega, hn, Lib.hid (by omega), HX, HS, Lib.hid (Below.refl _ _)⟩
  case round =>
    obtain ⟨y, b, rfl, rfl, hb, hyl, HE, HY, HYS, HB⟩ := hrel
    obtain ⟨vp, vk, ps, hr, h2, hps, hpl, hyc, hkids⟩ := HY.out.node HYS.out
    have hr' : Rec wr y.p vp vk y.l.length := (HB.out.block y.p (HY.out.lt _ HY.out.p_mem)).trans hr
    have h2' : PRow wr vp ps := ownsRow_of_heap h2 fun b hb => HB.out.block b (h2.lt hb)
    have HR' := Lib.hid hr'
    have H2' := Lib.hid h2'
    have HPS := Lib.hid hps
    have c1 := hr'.c1
    obtain ⟨hh, hhe⟩ : ∃ hh, hasB ps k = hh := ⟨_, rfl⟩
    have HH := Lib.hid hhe
    have hip := pos_le ps k
    have hin : pos ps k ≤ 1000000 := by omega
    clear hr h2 hr' h2' hyc hps hhe
    rcases hkids with ⟨rfl, rfl, rfl, _⟩ | ⟨h', ks, rfl, hK, hlen, hj, hf, hyc, hz⟩
    · have HP : Hid (pos y.l k = pos y.l k) := rfl
      go_wp2_with fail
      refine (place_at y.p _ _ _ _ k hh _ HR'.out H2'.out HPS.out (by omega) HH.out).mono ?_
      rintro e w' ⟨rfl, hw⟩
      have c1' := (hw.cell (p := ⟨y.p, 1, none⟩) (World.block_lt_of_cell? wr _ c1)).trans c1
      have HW := Lib.hid hw
      have HE2 : Hid (pos x.l k = b + pos y.l k) := Lib.hid HE.out.symm
      clear c1 hw HP HE
      generalize pos y.l k = i at *
      go_wp2_with fail
      refine (leaf_yes y.p 0 none _ c1').mono ?_
      rintro e w2 ⟨rfl, rfl⟩
      go_wp2
      go_ret
      exact ⟨ret_int (by rw [HE2.out]; omega), HB.out.trans (HW.out.mono HB.out.size)⟩
    · obtain ⟨gK, cK, rfl, hcK⟩ := hK.own (by intro e; rw [e] at hlen; simp at hlen)
      obtain ⟨z, q1, q2, q3, q4⟩ := pos_kid (k := k) hlen (by rw [← hj]; exact HYS.out) HPS.out
      rw [← hj] at q3 q4
      have hal : ∀ j, j ≤ ps.length → ahead ks ps j ≤ 1000000 := by
        intro j hj1
        obtain ⟨z', _, e⟩ := kid_split hlen j (by omega)
        have hl := congrArg List.length e
        rw [← hj] at hl
        simp only [List.length_append] at hl
        have : ahead ks ps j = (joinL ((ks.take j).map Kid.l) (ps.take j)).length := rfl
        omega
      have AL := Lib.hid hal
      have Q1 := Lib.hid q1
      have Q2 := Lib.hid q2
      have Q3 := Lib.hid q3
      have Q4 := Lib.hid q4
      have KR : Hid (KRow wr (.slice (some ⟨gK, 0, none⟩) ks.length cK) ks) := Lib.hid (KRow.touch hK (Touch.of_below HB.out []) (by simp))
      have KT : Hid (∀ y ∈ ks, IsT t w h' y) := Lib.hid (fun y hy => (hz y hy).1)
      have HL := Lib.hid hlen
      have HJ := Lib.hid hj
      have hks : 0 < ks.length := by omega
      have hkb : ks.length ≤ 1000001 := by omega
      have hik : pos ps k < ks.length := by omega
      clear hal q1 q2 q3 q4 hK hlen hj hf hyc hz
      go_wp2_with fail
      refine (place_at y.p _ _ _ _ k hh _ HR'.out H2'.out HPS.out (by omega) HH.out).mono ?_
      rintro e w' ⟨rfl, hw⟩
      have c1' := (hw.cell (p := ⟨y.p, 1, none⟩) (World.block_lt_of_cell? wr _ c1)).trans c1
      have HW := Lib.hid hw
      have WB : Hid (Below w.heap.size w w') := Lib.hid (HB.out.trans (hw.mono HB.out.size))
      have KR2 : Hid (KRow w' (.slice (some ⟨gK, 0, none⟩) ks.length cK) ks) := Lib.hid (KRow.touch KR.out (Touch.of_below hw []) (by simp))
      have KT2 : Hid (∀ y ∈ ks, IsT t w' h' y) := Lib.hid (fun y hy => (KT.out y hy).touch (Touch.of_below WB.out []) (by simp))
      have HHo : Hid (hasB ps k = hh) := HH
      clear c1 hw HW KR HB HH
      generalize pos ps k = i at *
      go_wp2_with fail
      refine (leaf_no y.p _ cK _ _ c1' hks).mono ?_
      rintro e w2 ⟨rfl, rfl⟩
      go_wp2_with fail
      go_loop [5, 30] (fun s5 s30 => ∃ (j m : Nat), j ≤ i ∧ s30 = .int .i64 j ∧ s5 = .int .i64 ((b : Int) + i + m) ∧ m ≤ 1000000 ∧ Hid (m + j = ahead ks ps j)) (fun _ s30 => i - (intOf s30).toNat)
      case atStart => exact ⟨0, 0, Nat.zero_le _, rfl, by go_num, by omega, Lib.hid (by rw [ahead_zero])⟩
      case round =>
        obtain ⟨j, m, hj, rfl, rfl, hmb, HM⟩ := hrel
        by_cases hji : j < i
        · have hji' : (j : Int) < (i : Int) := by omega
          have hjk : j < ks.length := by omega
          have hjp : j < ps.length := by omega
          obtain ⟨u, hu⟩ : ∃ u, ks[j]? = some u := ⟨ks[j], List.getElem?_eq_getElem hjk⟩
          have kc := KR2.out.cell j u hu
          have us := (KT2.out u (List.mem_of_getElem? hu)).size
          have AS := Lib.hid (ahead_succ j u hu hjp hjk)
          have hul : m + u.l.length ≤ 1000000 := by have h1 := AL.out (j + 1) (by omega); have h2 := AS.out; have h3 := HM.out; omega
          clear hu c1'
          go_wp2
          go_round
          case rel => exact ⟨j + 1, m + u.l.length, by omega, by go_num, by go_num, by omega, Lib.hid (by rw [AS.out]; have := HM.out; omega)⟩
          case measure => simp [intOf]; omega
        · have hij : j = i := by omega
          subst hij
          have hjj : ¬ (j : Int) < (j : Int) := by omega
          have kc := KR2.out.cell j z Q1.out
          have zs := (KT2.out z (List.mem_of_getElem? Q1.out)).size
          have zw : Hid (IsT t w h' z) := Lib.hid (KT.out z (List.mem_of_getElem? Q1.out))
          have zl : z.l.length ≤ 1000000 := by
            have h1 : pos y.l k ≤ y.l.length := pos_le _ _
            obtain ⟨z', hz', e⟩ := kid_split HL.out j hik
            obtain rfl : z' = z := by have := Q1.out; rw [hz'] at this; exact Option.some.inj this
            have hl := congrArg List.length e
            rw [← HJ.out] at hl
            simp only [List.length_append] at hl
            omega
          cases hh with
          | true =>
            have E3 : Hid (pos x.l k = b + j + m + z.l.length) := Lib.hid (by have h1 := Q3.out HHo.out; have h2 := HE.out; have h3 := HM.out; omega)
            have hbb : b + j + m + z.l.length ≤ 1000000 := by rw [← E3.out]; exact hpx
            clear Q3 Q4 HHo
            go_wp2
            go_ret
            exact ⟨ret_int (by rw [E3.out]; go_num), WB.out⟩
          | false =>
            have E4 : Hid (b + j + m + pos z.l k = pos x.l k) := Lib.hid (by have h1 := Q4.out HHo.out; have h2 := HE.out; have h3 := HM.out; omega)
            have hbb : b + j + m ≤ 1000000 := by have := E4.out; omega
            clear Q3 Q4 HHo
            go_wp2
            go_roundg h'
            case measure => omega
            case rel => exact ⟨z, b + j + m, rfl, by go_num, by omega, zl, E4, zw, Q2, WB⟩

theorem TreeM.rank {t m : Nat} {w : World} {l : List Pr} {rp : Option Addr} {fp : List Nat} (h : TreeM t m w l rp fp) (k : Int) (hn : l.length ≤ 1000000) :
    Calls Try.prog 15 #[.pointer (some ⟨m, 0, none⟩), .int .i64 k] w fun e w' => e = .returned (.int .i64 (pos l k)) ∧ Below w.heap.size w w' := by
  have c1 : w.cell? ⟨m, 1, none⟩ = some (.pointer rp) := cell_of_row w m 1 _ _ _ h.cell
  have HM := Lib.hid h
  clear h
  have hr : Calls Try.prog 32 #[.pointer rp, .int .i64 k] w fun e w' => e = .returned (.int .i64 (pos l k)) ∧ Below w.heap.size w w' := by
    rcases HM.out.root with ⟨rfl, rfl, _⟩ | ⟨hh, x, rfl, hx, rfl, rfl⟩
    · refine (rank_nil k w).mono ?_
      rintro e w' ⟨rfl, rfl⟩
      exact ⟨rfl, Below.refl _ _⟩
    · exact rank_any t hh x k w hx HM.out.rising hn
  have HR := Lib.hid hr
  clear hr
  go_enter Try.func15, Try.ntmps15
  go_wp2_with (first | (go_at_call 28; refine (top_any m _ _ c1).mono ?_; rintro e w' ⟨rfl, rfl⟩) | (go_at_call 32; refine HR.out.mono ?_; rintro e w' ⟨rfl, hw⟩))
  go_ret
  exact ⟨rfl, hw⟩
end Go.Proofs.Ytcboakmfabdeoaa
