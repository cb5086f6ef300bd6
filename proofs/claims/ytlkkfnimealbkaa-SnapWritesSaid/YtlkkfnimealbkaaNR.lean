/- Write on a lit disk; awake. -/
import Derived.Test.YtlkkfnimealbkaaNQ
namespace Go.Proofs.Ytlkkfnimealbkaa
open Go.RowKit
open Pag (IsPage Bx bvs bbs)
set_option linter.unusedVariables false
/-- a disk behind a snapshot's write. -/
structure Wrote (m m' : Mod) (fr : Nat) (rs : List (List UInt8)) : Prop where
  dark : m'.dark = false
  fused : m'.fused = false
  n : m'.n = m.n
  size : m'.size = m.size
  waits : m'.waits = m.waits + nPages m.size rs
  secs : SecsAre m' fr ((pagesOf (partsL m.size rs)).map fun L => (0, L))
  cont : ∀ k, m'.cont ones k = if fr ≤ k ∧ k < fr + nPages m.size rs then Pag.pageB m.size ((pagesOf (partsL m.size rs)).getD (k - fr) []) else m.cont ones k
theorem wrote {m : Mod} (hd : m.dark = false) (hf : m.fused = false) (hs1 : 64 ≤ m.size) (hs2 : m.size ≤ 1024) (fr : Nat) (rs : List (List UInt8)) (hn : fr + nPages m.size rs ≤ m.n) :
    ∃ m', wrP fr m.size 0 m (pagesOf (partsL m.size rs)) = (m', 0) ∧ Wrote m m' fr rs := by
  obtain ⟨g1, g2, g3, g4, g5, g6, g7⟩ := wrP_lit fr m.size (pagesOf (partsL m.size rs)) 0 m hd hf rfl (by unfold nPages at hn; omega) (fun L hL => (page_is hs1 hs2 rs L hL).1)
  have hc : ∀ k, (wrP fr m.size 0 m (pagesOf (partsL m.size rs))).1.cont ones k = if fr ≤ k ∧ k < fr + nPages m.size rs then Pag.pageB m.size ((pagesOf (partsL m.size rs)).getD (k - fr) []) else m.cont ones k := fun k => by
    rw [g7 k]
    rfl
  refine ⟨(wrP fr m.size 0 m (pagesOf (partsL m.size rs))).1, Prod.ext rfl g1, g2, g3, g4, g5, g6, written_secs hs1 hs2 rs g2 g5 (by rw [g4]; exact hn) (fun i hi => ?_), hc⟩
  rw [hc, if_pos ⟨by omega, by unfold nPages; omega⟩, show fr + i - fr = i by omega]
theorem swrite_lit {w0 w : World} {p : Nat} {m : Mod} (h : OwnD w0 w p m) (hl : LowS m 700) (hd : m.dark = false) (hf : m.fused = false) (hs1 : 64 ≤ m.size) (hs2 : m.size ≤ 1024) (hn : m.n ≤ 600) (fr tt : Nat) (hft : fr < tt) (hto : tt ≤ m.n)
    (A : Option Addr) (c : Nat) (rs : List (List UInt8)) (hR : Recs w A rs) (hrs : rs.length ≤ 1000000) (hrl : ∀ r ∈ rs, r.length ≤ 1000000) (hT : (partsL m.size rs).length ≤ 1000000000) :
    Calls Try.prog 10 #[.pointer (some ⟨p, 0, none⟩), .int .i64 (fr : Nat), .int .i64 (tt : Nat), .slice A rs.length c] w fun e w' => Still w w' ∧
      ((nPages m.size rs ≤ tt - fr ∧ e = .returned (.tuple #[.int .i64 (nPages m.size rs : Nat), .int .i64 0]) ∧ ∃ m', Wrote m m' fr rs ∧ OwnD w0 w' p m') ∨
       (tt - fr < nPages m.size rs ∧ e = .returned (.tuple #[.int .i64 0, .int .i64 12]) ∧ OwnD w0 w' p m)) := by
  refine (swrite_any h hl hs1 hs2 hn fr tt hft hto A c rs hR hrs hrl hT).mono ?_
  rintro e w' ⟨hS, ⟨hnp, m', r, hw, rfl, hO⟩ | ⟨hnp, rfl, hO⟩⟩
  · obtain ⟨m2, e2, hw2⟩ := wrote hd hf hs1 hs2 fr rs (by omega)
    rw [hw] at e2
    cases e2
    exact ⟨hS, .inl ⟨hnp, by rw [if_pos rfl], _, hw2, hO⟩⟩
  · exact ⟨hS, .inr ⟨hnp, rfl, hO⟩⟩
theorem Recs.nil (w : World) (A : Option Addr) : Recs w A [] := fun i h => absurd h (by simp)
theorem recs_one {w : World} {n : Nat} {b : List UInt8} {c : Nat} {A : Option Addr} (h : Whole w n 35 #[.slice A b.length c]) (hA : Holds w A b) (hc : b.length ≤ c) : Recs w (some ⟨n, 0, none⟩) [b] := fun i hi => by
  have h0 : i = 0 := by simp at hi; omega
  subst h0
  have hc0 := h.cell 0
  simp only [List.getElem?_toArray, List.getElem?_cons_zero] at hc0
  exact ⟨n, 0, A, c, rfl, h.lt, by simpa using hc0, by simpa using hA, by simpa using hc⟩
theorem LowS.new (a b : Nat) : LowS (Mod.new a b) 700 := ⟨by show 0 + 700 ≤ _; omega, by show 0 + 700 ≤ _; omega, by show (0 : Nat) ≤ _; omega⟩
theorem ex_pages : nPages 64 [zeros 70] = 2 := by kernel_rfl
theorem ex_parts : (partsL 64 [zeros 70]).length = 2 := by kernel_rfl
theorem MRow.shape {w : World} {base : Nat} {v : Value} {L : List (List UInt8)} (h : MRow w base v L) : ∃ A c, v = .slice A L.length c ∧ ∀ i (hi : i < L.length), ∃ g B d, A = some ⟨g, 0, none⟩ ∧ g < w.heap.size ∧ w.cell? ⟨g, i, none⟩ = some (.slice B L[i].length d) ∧ Holds w B L[i] := by
  obtain ⟨ys, rfl, ho, he⟩ := h.rows
  obtain ⟨h1, h2⟩ := ho
  have hl : (bbs ys).length = ys.length := Pag.bbs_len ys
  rcases h2 with ⟨rfl, h0⟩ | ⟨g, cap, cur, rfl, hg, hh, hn, hm, hs, ht⟩
  · exact ⟨none, 0, by rw [hl, h0], fun i hi => absurd hi (by omega)⟩
  · refine ⟨_, cap, by rw [hl], fun i hi => ?_⟩
    have hi' : i < ys.length := by omega
    obtain ⟨B, d, e1, e2, -, -⟩ := (he _ (List.getElem_mem hi')).shape
    simp only [Bx.v, Value.slice.injEq] at e1
    have hbi : (bbs ys)[i] = ys[i].b := Pag.bbs_at _ _ _
    refine ⟨g, ys[i].A, ys[i].c, rfl, (Array.getElem?_eq_some_iff.1 hh).1, ?_, ?_⟩
    · have hu : (bvs ys)[i]? = some (ys[i]).v := by simp [bvs, hi']
      rw [cell_of_row w g i cur 35 (0, 0) hh, hbi, ← hu, ← ht, List.getElem?_take, if_pos (by omega)]
      simp
    · rw [hbi, e1.1]; exact e2
set_option maxRecDepth 100000 in
set_option maxHeartbeats 2000000 in
theorem awake_any (w : World) : Calls Try.prog 6 #[] w fun e w' => e = .returned (.bool true) ∧ Below w.heap.size w w' := by
  have hz70 : (zeros 70).length = 70 := List.length_replicate
  have hrl70 : ∀ r ∈ [zeros 70], r.length ≤ 1000000 := fun r hr => by
    rw [List.mem_singleton.1 hr, hz70]
    omega
  have N := Lib.hid (OwnD.new w 4 64 w (Below.refl _ _) (by omega) (by omega) (by omega) (by omega))
  have MK := fun W => make_bytes 70 70 rfl (by omega) W
  go_enter Try.func6, Try.ntmps6
  go_wp2_with fail
  refine N.out.mono ?_
  rintro e w1 ⟨p, rfl, hO⟩
  have HO := Lib.hid hO
  clear N hO
  go_wp2_with fail
  have hO := HO.out
  have b2 : Below w1.heap.size w1 ((w1.alloc (.cells (encB (zeros 70)).toArray 5)).alloc (.cells #[.slice (some ⟨w1.heap.size, 0, none⟩) 70 70] 35)) := ((Below.refl _ _).alloc (Nat.le_refl _) _).alloc (by simp) _
  have nb : BB ((w1.alloc (.cells (encB (zeros 70)).toArray 5)).alloc (.cells #[.slice (some ⟨w1.heap.size, 0, none⟩) 70 70] 35)) w1.heap.size (zeros 70) := (Whole.new w1 5 (encB (zeros 70)).toArray).alloc _
  have nl := Whole.new (w1.alloc (.cells (encB (zeros 70)).toArray 5)) 35 #[.slice (some ⟨w1.heap.size, 0, none⟩) 70 70]
  rw [World.size_alloc] at nl
  have hrec : Recs ((w1.alloc (.cells (encB (zeros 70)).toArray 5)).alloc (.cells #[.slice (some ⟨w1.heap.size, 0, none⟩) 70 70] 35)) (some ⟨w1.heap.size + 1, 0, none⟩) [zeros 70] := recs_one (c := 70) (A := some ⟨w1.heap.size, 0, none⟩) (b := zeros 70) (by rw [hz70]; exact nl) nb.holds0 (by omega)
  have WR := swrite_lit (hO.below b2) (LowS.new 4 64) rfl rfl (by show 64 ≤ 64; omega) (by show 64 ≤ 1024; omega) (by show 4 ≤ 600; omega) 1 4 (by omega) (by show 4 ≤ 4; omega) (some ⟨w1.heap.size + 1, 0, none⟩) 1 [zeros 70] hrec (by simp) hrl70 (by show (partsL 64 [zeros 70]).length ≤ _; rw [ex_parts]; omega)
  have WRH := Lib.hid WR
  clear hrl70 hO b2 nb nl hrec WR HO MK
  generalize ((w1.alloc (.cells (encB (zeros 70)).toArray 5)).alloc (.cells #[.slice (some ⟨w1.heap.size, 0, none⟩) 70 70] 35)) = W2 at *
  refine WRH.out.mono ?_
  rintro e w3 ⟨hS3, ⟨hnp, rfl, m', hW, hO3⟩ | ⟨hnp, -, -⟩⟩
  case inr =>
    change 4 - 1 < nPages 64 [zeros 70] at hnp
    rw [ex_pages] at hnp
    omega
  have hsz' : m'.size = 64 := hW.size
  have hn' : m'.n = 4 := hW.n
  have hw' : m'.waits = 2 := by
    have := hW.waits
    rw [this]
    show 0 + nPages 64 [zeros 70] = 2
    rw [ex_pages]
  obtain ⟨F, hD3, hF3, hB3⟩ := hO3
  have RD := sread_any hD3 (by omega) (by omega) (by omega) (by omega) 1 2 (by omega) _ hW.secs (by rw [List.length_map]; exact ex_pages)
  have hrt : resS ((pagesOf (partsL (Mod.new 4 64).size [zeros 70])).map fun L => (0, L)) = (0, [zeros 70]) := round_trip (by show 64 ≤ 64; omega) [zeros 70]
  rw [hrt] at RD
  have RDH := Lib.hid RD
  have HB := Lib.hid hB3
  have e2 : ((nPages (Mod.new 4 64).size [zeros 70] : Nat) : Int) = 2 := by
    show ((nPages 64 [zeros 70] : Nat) : Int) = 2
    rw [ex_pages]; rfl
  rw [e2]
  clear RD hrt hD3 hF3 hB3 hW hsz' hn' hw' hnp e2 hS3 WRH
  go_wp2_with fail
  refine RDH.out.mono ?_
  rintro e w4 ⟨hb4, ⟨-, v, rfl, hM⟩ | ⟨hne, -⟩⟩
  case inr => exact absurd rfl hne
  obtain ⟨A, c, rfl, hM2⟩ := hM.shape
  obtain ⟨g, B, d, rfl, hg, hc, -⟩ := hM2 0 (by simp)
  simp only [List.getElem_cons_zero] at hc
  rw [hz70] at hc
  have SE := Lib.hid (sectors_any (w := w4) 64 (by omega) (by omega) none 0 [] (Recs.nil _ _) (by simp) (by simp) (by rw [partsL_nil.2 rfl]; simp))
  have hnz : nPages 64 [] = 0 := (nPages_zero (by omega) []).2 rfl
  rw [hnz] at SE
  have HB4 := Lib.hid (HB.out.trans (hb4.mono HB.out.size))
  clear hb4 hM hM2 hg hnz hz70 HB RDH
  rw [show ([zeros 70] : List (List UInt8)).length = 1 from rfl]
  go_wp2_with fail
  refine SE.out.mono ?_
  rintro e w5 ⟨rfl, hb5⟩
  have HB5 := Lib.hid (HB4.out.trans (hb5.mono HB4.out.size))
  clear hb5
  go_wp2_with fail
  go_ret
  exact ⟨rfl, HB5.out⟩
end Go.Proofs.Ytlkkfnimealbkaa
