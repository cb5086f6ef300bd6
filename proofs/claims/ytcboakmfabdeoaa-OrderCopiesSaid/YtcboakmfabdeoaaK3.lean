import Derived.Test.YtcboakmfabdeoaaM8
import Derived.Test.YtcboakmfabdeoaaM7

/- OrderCopies: the walk. -/
namespace Go.Proofs.Ytcboakmfabdeoaa
open Go.RowKit

/-- two are being played on side by side: they share no block. -/
def Playing2 (B t m r c s : Nat) (w0 w : World) (l l2 : List Pr) : Prop := ∃ G1 G2, Both t m r w l G1 ∧ Both t c s w l2 G2 ∧ (∀ b ∈ G1, b ∉ G2) ∧ (∀ b ∈ G1, B ≤ b) ∧ (∀ b ∈ G2, B ≤ b) ∧ Below B w0 w

theorem Playing2.does {B t m r c s : Nat} {w0 w : World} {l l2 : List Pr} (h : Playing2 B t m r c s w0 w l l2) (hB : B ≤ w0.heap.size) (kind k : Int) (x : ByteArray) (ht : 2 ≤ t) (ht2 : t ≤ 64) (hl : l2.length ≤ 100000) :
    Calls Try.prog 9 #[.pointer (some ⟨c, 0, none⟩), .pointer (some ⟨s, 0, none⟩), .agg #[.int .i64 kind, .int .i64 k, .string x]] w fun e w' => e = .returned (.bool true) ∧ ∃ l', l'.length ≤ l2.length + 1 ∧ Playing2 B t m r c s w0 w' l l' := by
  obtain ⟨G1, G2, h1, h2, h3, h4, h5, h6⟩ := h
  refine (does_any t c s w l2 G2 kind k x h2 ht ht2 hl).mono ?_
  rintro e w' ⟨rfl, l', ⟨G', g1, g2, g3⟩, hl'⟩
  have hs := h6.size
  refine ⟨rfl, l', hl', G1, G', h1.touch g2 h3, g1, fun b hb e => ?_, h4, fun b hb => ?_, h6.trans (g2.toBelow h5 (by omega))⟩
  · rcases g3 b e with e | e
    · exact h3 b hb e
    · have := h1.lt b hb; omega
  · rcases g3 b hb with e | e
    · exact h5 b e
    · omega

theorem Playing2.touch {B t m r c s : Nat} {w0 w w' : World} {l l2 : List Pr} (h : Playing2 B t m r c s w0 w l l2) (T : Touch [] w w') (hB : B ≤ w0.heap.size) : Playing2 B t m r c s w0 w' l l2 := by
  obtain ⟨G1, G2, h1, h2, h3, h4, h5, h6⟩ := h
  have hs := h6.size
  exact ⟨G1, G2, h1.touch T (by simp), h2.touch T (by simp), h3, h4, h5, h6.trans (T.toBelow (by simp) (by omega))⟩

theorem Playing2.told1 {B t m r c s : Nat} {w0 w : World} {l l2 : List Pr} (h : Playing2 B t m r c s w0 w l l2) (hB : B ≤ w0.heap.size) (k n : Int) (hn : n ≤ 9223372036854775807) (hl : l.length ≤ 1000) :
    Calls Try.prog 10 #[.pointer (some ⟨m, 0, none⟩), .pointer (some ⟨r, 0, none⟩), .int .i64 k, .int .i64 n] w fun e w' => e = .returned (.bool true) ∧ Playing2 B t m r c s w0 w' l l2 := by
  have h' := h
  obtain ⟨G1, G2, h1, h2, _⟩ := h
  obtain ⟨v, hv⟩ := h1.tells hl k n hn
  refine (told_any m r w l v k n hv hl).mono ?_
  rintro e w' ⟨rfl, T⟩
  exact ⟨rfl, h'.touch T hB⟩

theorem Playing2.told2 {B t m r c s : Nat} {w0 w : World} {l l2 : List Pr} (h : Playing2 B t m r c s w0 w l l2) (hB : B ≤ w0.heap.size) (k n : Int) (hn : n ≤ 9223372036854775807) (hl : l2.length ≤ 1000) :
    Calls Try.prog 10 #[.pointer (some ⟨c, 0, none⟩), .pointer (some ⟨s, 0, none⟩), .int .i64 k, .int .i64 n] w fun e w' => e = .returned (.bool true) ∧ Playing2 B t m r c s w0 w' l l2 := by
  have h' := h
  obtain ⟨G1, G2, h1, h2, _⟩ := h
  obtain ⟨v, hv⟩ := h2.tells hl k n hn
  refine (told_any c s w l2 v k n hv hl).mono ?_
  rintro e w' ⟨rfl, T⟩
  exact ⟨rfl, h'.touch T hB⟩

/-- a row of its own with what the reference's has. -/
theorem copy_row {r : Nat} {w : World} {v : Value} {L : List Pr} (h : RefM r w v L) (hL : L.length ≤ 1000) :
    ∃ v' W5, (Builtin.append_ #[29, 29] 29 #[.slice (some ⟨w.heap.size, 0, none⟩) 0 0, v]).run Try.prog (w.alloc (.cells #[] 56)) = .ok v' W5 ∧ QRow W5 v' L ∧ Touch [] w W5 ∧ ∀ b, v'.ownBlock = some b → w.heap.size ≤ b := by
  have hb0 := (Below.refl w.heap.size w).alloc (Nat.le_refl _) (.cells #[] 56)
  rcases h.row.cases with ⟨rfl, rfl⟩ | ⟨g, cap, cur, rfl, _⟩
  · exact ⟨_, _, append_none _ _ 0 0 (Nat.le_refl _), row_empty w, (Touch.refl [] w).alloc _, fun b hb => by
      have : w.heap.size = b := by simpa [Value.ownBlock] using hb
      omega⟩
  · obtain ⟨v1, W3, r1, o1, g1, n1⟩ := appendQ (w.alloc (.cells #[] 56)) (.slice (some ⟨w.heap.size, 0, none⟩) 0 0) 0 [] L ⟨g, 0, none⟩ L.length cap rfl rfl (row_empty w) (fun j u hj => by
      have h := encP_frontQ h.row L.length j u (by rw [List.take_length]; exact hj)
      exact (hb0.cell (World.block_lt_of_cell? w _ h)).trans h) (by omega)
    rw [Nat.zero_add, List.nil_append] at o1
    refine ⟨v1, W3, r1, o1, ((Touch.refl [] w).alloc _).trans (Touch.of_grown g1) (fun x hx => .inr (by simp [Value.ownBlock] at hx; omega)), fun b hb => ?_⟩
    rcases n1 b hb with e | e
    · have : w.heap.size = b := by simpa [Value.ownBlock] using e
      omega
    · simp at e; omega

theorem Playing.copied {B T m r cm : Nat} {w1 wl w4 W5 : World} {L : List Pr} {rp' : Option Addr} {fp' : List Nat} {v' : Value} (h : Playing B T m r w1 wl L) (hB : B ≤ w1.heap.size) (tc : TreeM T cm w4 L rp' fp') (fc : ∀ b ∈ cm :: fp', wl.heap.size ≤ b) (bc : Below wl.heap.size wl w4) (o5 : QRow W5 v' L) (T5 : Touch [] w4 W5) (n5 : ∀ b, v'.ownBlock = some b → w4.heap.size ≤ b) :
    Playing2 B T m r cm W5.heap.size w1 (W5.alloc (.cells #[v'] 31)) L L := by
  obtain ⟨G, h1, h2, h3⟩ := h
  have s1 := h3.size
  have s4 := bc.size
  have s5 := T5.size
  have T6 : Touch [] W5 (W5.alloc (.cells #[v'] 31)) := (Touch.refl [] W5).alloc _
  have TT : Touch [] wl (W5.alloc (.cells #[v'] 31)) := ((Touch.of_below bc []).trans T5 (by simp)).trans T6 (by simp)
  have nb : ∀ b ∈ (cm :: fp') ++ RefM.bs W5.heap.size v', wl.heap.size ≤ b := fun b hb => by
    rcases List.mem_append.1 hb with e | e
    · exact fc b e
    · simp only [RefM.bs, List.mem_cons, Option.mem_toList] at e
      rcases e with e | e
      · omega
      · have := n5 b e; omega
  refine ⟨G, (cm :: fp') ++ RefM.bs W5.heap.size v', h1.touch TT (by simp), ⟨rp', fp', v', (tc.touch T5 (by simp)).touch T6 (by simp), ⟨heap_alloc_new W5 _, ownsRow_of_heap o5 fun b hb => Below.heap_alloc W5 _ b (World.ownsRow.lt o5 b hb).2⟩, fun b hb e => ?_, rfl⟩, fun b hb e => ?_, h2, fun b hb => ?_, h3.trans (TT.toBelow (by simp) (by omega))⟩
  · have := tc.lt b hb
    simp only [RefM.bs, List.mem_cons, Option.mem_toList] at e
    rcases e with e | e
    · omega
    · have := n5 b e; omega
  · have := h1.lt b hb
    have := nb b e
    omega
  · have := nb b hb
    omega

set_option maxRecDepth 100000 in
set_option maxHeartbeats 1000000 in
theorem orderCopies_any (t : Int) (a : Option Addr) (c : Nat) (ds : List Deed) (a2 : Option Addr) (c2 : Nat) (ds2 : List Deed) (w : World) (h : CameA w a ds) (h' : CameA w a2 ds2) : Calls Try.prog 4 #[.int .i64 t, .slice a ds.length c, .slice a2 ds2.length c2] w fun e w' => e = .returned (.bool true) ∧ Below w.heap.size w w' := by
  have H := Lib.hid h
  have H' := Lib.hid h'
  clear h h'
  go_enter Try.func4, Try.ntmps4
  go_wp2_with fail
  refine (awake_any _).mono ?_
  rintro e w1 ⟨rfl, hb1⟩
  have B1 := Lib.hid hb1
  have H1 := Lib.hid (H.out.below hb1)
  have H2 := Lib.hid (H'.out.below hb1)
  clear hb1 H H'
  by_cases ht : t < 2 ∨ 64 < t
  · have NO := Lib.hid (new_no t w1 ht)
    go_wp2_with fail
    refine NO.out.mono ?_
    rintro e w2 ⟨rfl, rfl⟩
    go_wp2
    go_ret
    exact ⟨rfl, B1.out⟩
  · obtain ⟨T, rfl⟩ : ∃ T : Nat, t = T := ⟨t.toNat, by omega⟩
    have ht1 : ¬ (T : Int) < 2 := by omega
    have ht2 : ¬ (64 : Int) < (T : Int) := by omega
    have ht3 : ¬ (T : Int) > 64 := by omega
    have h2 : 2 ≤ T := by omega
    have h64 : T ≤ 64 := by omega
    clear ht
    go_wp2_with fail
    refine (new_ok T _ h2 h64).mono ?_
    rintro e w2 ⟨rfl, hw2⟩
    have P2 : Hid (Playing w1.heap.size T w1.heap.size (w1.heap.size + 1) w1 (w2.alloc (.cells #[.slice none 0 0] 31)) []) := by
      rw [hw2]; exact Lib.hid (Playing.new (Below.refl _ _))
    have hr : w1.heap.size + 1 = w2.heap.size := by rw [hw2, World.size_alloc]
    rw [hr] at P2
    clear hw2 hr
    go_wp2_with fail
    generalize w2.heap.size = r at *
    generalize hm : w1.heap.size = m at *
    generalize w2.alloc (.cells #[.slice none 0 0] 31) = w3 at *
    have HM := Lib.hid hm
    clear hm
    go_loopg [10] ds.length (fun j s10 wr => ∃ (i : Nat) (L : List Pr), i + j = ds.length ∧ i ≤ 300 ∧ s10 = .int .i64 (i : Nat) ∧ L.length ≤ i ∧ Playing m T m r w1 wr L)
    case atStart => exact ⟨0, [], by omega, by omega, rfl, Nat.le_refl _, P2.out⟩
    case round =>
      obtain ⟨i, L, hij, hi2, rfl, hL, hp⟩ := hrel
      have PL := Lib.hid hp
      have HIJ := Lib.hid hij
      have HL := Lib.hid hL
      clear hij hL hp P2
      by_cases h1 : (i : Int) < (ds.length : Int)
      · by_cases h3 : (i : Int) < 300
        · have hi : i < ds.length := by omega
          have BW : Below w1.heap.size w1 wr := by obtain ⟨_, _, _, b⟩ := PL.out; rw [HM.out]; exact b
          have HW := Lib.hid (H1.out.below BW)
          clear BW
          obtain ⟨b, off, rfl, hbs, k0, k1, k2⟩ := HW.out.cell i hi
          have HI := Lib.hid h1
          have HI2 := Lib.hid h3
          generalize ds[i].c = C at *
          generalize ds[i].k = K at *
          generalize ds[i].x = S at *
          have DO := Lib.hid (PL.out.does (by rw [HM.out]; exact Nat.le_refl _) C K S h2 h64 (by have := HL.out; omega))
          go_wp2_with fail
          refine DO.out.mono ?_
          rintro e w4 ⟨rfl, L', hL', P4⟩
          have hL2 : L'.length ≤ i + 1 := by have := HL.out; omega
          have HL4 := Lib.hid hL2
          have PP4 := Lib.hid P4
          clear P4 DO hL' hL2 k0 k1 k2 PL
          go_wp2_with fail
          go_roundg (ds.length - i - 1)
          case measure => have := HIJ.out; have := HI.out; omega
          case rel => exact ⟨i + 1, L', by have := HIJ.out; have := HI.out; omega, by have := HI2.out; omega, by simp, HL4.out, PP4.out⟩
        · skip
          have BW : Below w1.heap.size w1 wr := by obtain ⟨_, _, _, b⟩ := PL.out; rw [HM.out]; exact b
          have HW2 := Lib.hid (H2.out.below BW)
          clear BW
          have PL2 := PL.out
          obtain ⟨G, ⟨rp, fp, v, tm, rm, dj, rfl⟩, GB, BB⟩ := PL2
          have LL : Hid (L.length ≤ 300) := Lib.hid (by have := HL.out; omega)
          have CP := Lib.hid (tm.copy (by have := HL.out; omega))
          go_wp2_with fail
          refine CP.out.mono ?_
          rintro e w4 ⟨cm, rp', fp', rfl, tc, fc, bc⟩
          obtain ⟨wl, hwl⟩ : ∃ wl, wl = wr := ⟨_, rfl⟩
          subst hwl
          have T4 := Lib.hid (Touch.of_below bc [])
          have c0 : w4.cell? ⟨r, 0, none⟩ = some v := cell_of_row w4 r 0 _ _ _ (rm.touch T4.out (by simp)).cell
          have rlt : r < w4.heap.size := (rm.touch T4.out (by simp)).lt r (by simp [RefM.bs])
          obtain ⟨v', W5, run, o5, T5, n5⟩ := copy_row (rm.touch T4.out (by simp)) (by have := LL.out; omega)
          obtain ⟨a5, c5, rfl⟩ := rowQ_slice o5
          have RUN := Lib.hid run
          have P22 := Lib.hid (PL.out.copied (by rw [HM.out]; exact Nat.le_refl _) tc fc bc o5 T5 n5)
          clear run o5 T5 n5 tc fc bc CP GB dj rm tm BB
          go_wp2_with (at_builtin; refine Held.go ?_)
          unfold Held
          refine Lib.wpList_append_run _ rfl _ _ 29 29 rfl _ _ rfl rfl _ _ RUN.out ?_
          go_wp2_with fail
          have hs5 : W5.heap.size = W5.heap.size := rfl
          generalize W5.heap.size = sm at *
          generalize W5.alloc (.cells #[.slice a5 L.length c5] 31) = w6 at *
          clear hs5
          go_loopg [13] ds2.length (fun j s13 wq => ∃ (q : Nat) (L2 : List Pr), q + j = ds2.length ∧ q ≤ 300 ∧ s13 = .int .i64 (q : Nat) ∧ L2.length ≤ 300 + q ∧ Playing2 m T m r cm sm w1 wq L L2)
          case atStart => exact ⟨0, L, by omega, by omega, rfl, by have := LL.out; omega, P22.out⟩
          case round =>
            obtain ⟨q, L2, hq, hq2, rfl, hL2, hp⟩ := hrel
            have QL := Lib.hid hp
            have HQ := Lib.hid hq
            have HL2 := Lib.hid hL2
            clear hq hL2 hp P22
            by_cases g1 : (q : Int) < (ds2.length : Int)
            · by_cases g3 : (q : Int) < 300
              · have hi : q < ds2.length := by omega
                have CELL : Hid (∀ W L', Playing2 m T m r cm sm w1 W L L' → ∃ b off, a2 = some ⟨b, off, none⟩ ∧ b < W.heap.size ∧ W.cell? ⟨b, off + q * 3, none⟩ = some (.int .i64 ds2[q].c) ∧ W.cell? ⟨b, off + q * 3 + 1, none⟩ = some (.int .i64 ds2[q].k) ∧ W.cell? ⟨b, off + q * 3 + 2, none⟩ = some (.string ds2[q].x)) := Lib.hid (fun W L' hW => by
                  obtain ⟨_, _, _, _, _, _, _, b7⟩ := hW
                  rw [← HM.out] at b7
                  exact (H2.out.below b7).cell q hi)
                have HI := Lib.hid g1
                have HI2 := Lib.hid g3
                obtain ⟨bb, off2, rfl, hbs2, k0, k1, k2⟩ := CELL.out _ _ QL.out
                generalize ds2[q].c = C at *
                generalize ds2[q].k = K at *
                generalize ds2[q].x = S at *
                have DO := Lib.hid (QL.out.does (by rw [HM.out]; exact Nat.le_refl _) C K S h2 h64 (by have := HL2.out; omega))
                go_wp2_with fail
                refine DO.out.mono ?_
                rintro e w7 ⟨rfl, L', hL', P7⟩
                have hL2 : L'.length ≤ 300 + (q + 1) := by have := HL2.out; omega
                have HL4 := Lib.hid hL2
                obtain ⟨_, _, e7, hb7, _, k7, _⟩ := CELL.out _ _ P7
                cases e7
                have T7 := Lib.hid (P7.told1 (by rw [HM.out]; exact Nat.le_refl _) K q (by have := HI2.out; omega) (by have := LL.out; omega))
                clear P7 DO hL' hL2 k0 k1 k2 QL
                go_wp2_with fail
                refine T7.out.mono ?_
                rintro e w8 ⟨rfl, P8⟩
                obtain ⟨_, _, e8, hb8, _, k8, _⟩ := CELL.out _ _ P8
                cases e8
                have T8 := Lib.hid (P8.told2 (by rw [HM.out]; exact Nat.le_refl _) K q (by have := HI2.out; omega) (by have := HL4.out; have := HI2.out; omega))
                clear P8 T7 k7
                go_wp2_with fail
                refine T8.out.mono ?_
                rintro e w9 ⟨rfl, P9⟩
                have PP9 := Lib.hid P9
                clear P9 T8 k8
                go_wp2_with fail
                go_roundg (ds2.length - q - 1)
                case measure => have := HQ.out; have := HI.out; omega
                case rel => exact ⟨q + 1, L', by have := HQ.out; have := HI.out; omega, by have := HI2.out; omega, by simp, HL4.out, PP9.out⟩
              · skip
                obtain ⟨_, _, bo, _, _, _, _, b7⟩ := QL.out
                obtain ⟨_, _, v7, tm7, rm7, _⟩ := bo
                obtain ⟨a7, c7, rfl⟩ := rowQ_slice rm7.row
                have LEN := Lib.hid (tm7.touch ((Touch.refl [] wr).drew) (by simp)).len
                have c70 : wr.cell? ⟨r, 0, none⟩ = some (.slice a7 L.length c7) := cell_of_row wr r 0 _ _ _ rm7.cell
                have FB : Hid (Below w.heap.size w wr.drew) := Lib.hid (by rw [← HM.out] at b7; have f := B1.out.trans (b7.mono B1.out.size); exact ⟨f.os, f.tape, f.output, f.size, f.block⟩)
                clear tm7 rm7 b7
                go_wp2_with fail
                go_region_with (go_at_call 12; refine LEN.out.mono ?_; rintro e wx ⟨rfl, rfl⟩)
                all_goals
                  go_wp2_with fail
                  go_ret
                  exact ⟨rfl, FB.out⟩
            · skip
              obtain ⟨_, _, bo, _, _, _, _, b7⟩ := QL.out
              obtain ⟨_, _, v7, tm7, rm7, _⟩ := bo
              obtain ⟨a7, c7, rfl⟩ := rowQ_slice rm7.row
              have LEN := Lib.hid (tm7.touch ((Touch.refl [] wr).drew) (by simp)).len
              have c70 : wr.cell? ⟨r, 0, none⟩ = some (.slice a7 L.length c7) := cell_of_row wr r 0 _ _ _ rm7.cell
              have FB : Hid (Below w.heap.size w wr.drew) := Lib.hid (by rw [← HM.out] at b7; have f := B1.out.trans (b7.mono B1.out.size); exact ⟨f.os, f.tape, f.output, f.size, f.block⟩)
              clear tm7 rm7 b7
              go_wp2_with fail
              go_region_with (go_at_call 12; refine LEN.out.mono ?_; rintro e wx ⟨rfl, rfl⟩)
              all_goals
                go_wp2_with fail
                go_ret
                exact ⟨rfl, FB.out⟩
      · skip
        have BW : Below w1.heap.size w1 wr := by obtain ⟨_, _, _, b⟩ := PL.out; rw [HM.out]; exact b
        have HW2 := Lib.hid (H2.out.below BW)
        clear BW
        have PL2 := PL.out
        obtain ⟨G, ⟨rp, fp, v, tm, rm, dj, rfl⟩, GB, BB⟩ := PL2
        have LL : Hid (L.length ≤ 300) := Lib.hid (by have := HL.out; omega)
        have CP := Lib.hid (tm.copy (by have := HL.out; omega))
        go_wp2_with fail
        refine CP.out.mono ?_
        rintro e w4 ⟨cm, rp', fp', rfl, tc, fc, bc⟩
        obtain ⟨wl, hwl⟩ : ∃ wl, wl = wr := ⟨_, rfl⟩
        subst hwl
        have T4 := Lib.hid (Touch.of_below bc [])
        have c0 : w4.cell? ⟨r, 0, none⟩ = some v := cell_of_row w4 r 0 _ _ _ (rm.touch T4.out (by simp)).cell
        have rlt : r < w4.heap.size := (rm.touch T4.out (by simp)).lt r (by simp [RefM.bs])
        obtain ⟨v', W5, run, o5, T5, n5⟩ := copy_row (rm.touch T4.out (by simp)) (by have := LL.out; omega)
        obtain ⟨a5, c5, rfl⟩ := rowQ_slice o5
        have RUN := Lib.hid run
        have P22 := Lib.hid (PL.out.copied (by rw [HM.out]; exact Nat.le_refl _) tc fc bc o5 T5 n5)
        clear run o5 T5 n5 tc fc bc CP GB dj rm tm BB
        go_wp2_with (at_builtin; refine Held.go ?_)
        unfold Held
        refine Lib.wpList_append_run _ rfl _ _ 29 29 rfl _ _ rfl rfl _ _ RUN.out ?_
        go_wp2_with fail
        have hs5 : W5.heap.size = W5.heap.size := rfl
        generalize W5.heap.size = sm at *
        generalize W5.alloc (.cells #[.slice a5 L.length c5] 31) = w6 at *
        clear hs5
        go_loopg [13] ds2.length (fun j s13 wq => ∃ (q : Nat) (L2 : List Pr), q + j = ds2.length ∧ q ≤ 300 ∧ s13 = .int .i64 (q : Nat) ∧ L2.length ≤ 300 + q ∧ Playing2 m T m r cm sm w1 wq L L2)
        case atStart => exact ⟨0, L, by omega, by omega, rfl, by have := LL.out; omega, P22.out⟩
        case round =>
          obtain ⟨q, L2, hq, hq2, rfl, hL2, hp⟩ := hrel
          have QL := Lib.hid hp
          have HQ := Lib.hid hq
          have HL2 := Lib.hid hL2
          clear hq hL2 hp P22
          by_cases g1 : (q : Int) < (ds2.length : Int)
          · by_cases g3 : (q : Int) < 300
            · have hi : q < ds2.length := by omega
              have CELL : Hid (∀ W L', Playing2 m T m r cm sm w1 W L L' → ∃ b off, a2 = some ⟨b, off, none⟩ ∧ b < W.heap.size ∧ W.cell? ⟨b, off + q * 3, none⟩ = some (.int .i64 ds2[q].c) ∧ W.cell? ⟨b, off + q * 3 + 1, none⟩ = some (.int .i64 ds2[q].k) ∧ W.cell? ⟨b, off + q * 3 + 2, none⟩ = some (.string ds2[q].x)) := Lib.hid (fun W L' hW => by
                obtain ⟨_, _, _, _, _, _, _, b7⟩ := hW
                rw [← HM.out] at b7
                exact (H2.out.below b7).cell q hi)
              have HI := Lib.hid g1
              have HI2 := Lib.hid g3
              obtain ⟨bb, off2, rfl, hbs2, k0, k1, k2⟩ := CELL.out _ _ QL.out
              generalize ds2[q].c = C at *
              generalize ds2[q].k = K at *
              generalize ds2[q].x = S at *
              have DO := Lib.hid (QL.out.does (by rw [HM.out]; exact Nat.le_refl _) C K S h2 h64 (by have := HL2.out; omega))
              go_wp2_with fail
              refine DO.out.mono ?_
              rintro e w7 ⟨rfl, L', hL', P7⟩
              have hL2 : L'.length ≤ 300 + (q + 1) := by have := HL2.out; omega
              have HL4 := Lib.hid hL2
              obtain ⟨_, _, e7, hb7, _, k7, _⟩ := CELL.out _ _ P7
              cases e7
              have T7 := Lib.hid (P7.told1 (by rw [HM.out]; exact Nat.le_refl _) K q (by have := HI2.out; omega) (by have := LL.out; omega))
              clear P7 DO hL' hL2 k0 k1 k2 QL
              go_wp2_with fail
              refine T7.out.mono ?_
              rintro e w8 ⟨rfl, P8⟩
              obtain ⟨_, _, e8, hb8, _, k8, _⟩ := CELL.out _ _ P8
              cases e8
              have T8 := Lib.hid (P8.told2 (by rw [HM.out]; exact Nat.le_refl _) K q (by have := HI2.out; omega) (by have := HL4.out; have := HI2.out; omega))
              clear P8 T7 k7
              go_wp2_with fail
              refine T8.out.mono ?_
              rintro e w9 ⟨rfl, P9⟩
              have PP9 := Lib.hid P9
              clear P9 T8 k8
              go_wp2_with fail
              go_roundg (ds2.length - q - 1)
              case measure => have := HQ.out; have := HI.out; omega
              case rel => exact ⟨q + 1, L', by have := HQ.out; have := HI.out; omega, by have := HI2.out; omega, by simp, HL4.out, PP9.out⟩
            · skip
              obtain ⟨_, _, bo, _, _, _, _, b7⟩ := QL.out
              obtain ⟨_, _, v7, tm7, rm7, _⟩ := bo
              obtain ⟨a7, c7, rfl⟩ := rowQ_slice rm7.row
              have LEN := Lib.hid (tm7.touch ((Touch.refl [] wr).drew) (by simp)).len
              have c70 : wr.cell? ⟨r, 0, none⟩ = some (.slice a7 L.length c7) := cell_of_row wr r 0 _ _ _ rm7.cell
              have FB : Hid (Below w.heap.size w wr.drew) := Lib.hid (by rw [← HM.out] at b7; have f := B1.out.trans (b7.mono B1.out.size); exact ⟨f.os, f.tape, f.output, f.size, f.block⟩)
              clear tm7 rm7 b7
              go_wp2_with fail
              go_region_with (go_at_call 12; refine LEN.out.mono ?_; rintro e wx ⟨rfl, rfl⟩)
              all_goals
                go_wp2_with fail
                go_ret
                exact ⟨rfl, FB.out⟩
          · skip
            obtain ⟨_, _, bo, _, _, _, _, b7⟩ := QL.out
            obtain ⟨_, _, v7, tm7, rm7, _⟩ := bo
            obtain ⟨a7, c7, rfl⟩ := rowQ_slice rm7.row
            have LEN := Lib.hid (tm7.touch ((Touch.refl [] wr).drew) (by simp)).len
            have c70 : wr.cell? ⟨r, 0, none⟩ = some (.slice a7 L.length c7) := cell_of_row wr r 0 _ _ _ rm7.cell
            have FB : Hid (Below w.heap.size w wr.drew) := Lib.hid (by rw [← HM.out] at b7; have f := B1.out.trans (b7.mono B1.out.size); exact ⟨f.os, f.tape, f.output, f.size, f.block⟩)
            clear tm7 rm7 b7
            go_wp2_with fail
            go_region_with (go_at_call 12; refine LEN.out.mono ?_; rintro e wx ⟨rfl, rfl⟩)
            all_goals
              go_wp2_with fail
              go_ret
              exact ⟨rfl, FB.out⟩
end Go.Proofs.Ytcboakmfabdeoaa
