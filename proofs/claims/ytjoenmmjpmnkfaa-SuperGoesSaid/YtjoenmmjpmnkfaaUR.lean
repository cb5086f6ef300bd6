/- SuperGoes walked. -/
import Derived.Test.YtjoenmmjpmnkfaaUM
import Derived.Test.YtjoenmmjpmnkfaaUO
import Derived.Test.YtjoenmmjpmnkfaaUP
namespace Go.Proofs.Ytjoenmmjpmnkfaa
open Go.RowKit
/-- the last one that was put stands; the other sector has an elder one, or none. -/
structure Last (size : Nat) (c : Nat → List UInt8) (s : Sup) : Prop where
  ok : s.Ok
  own : c (s.e % 2) = s.bytes
  other : ∀ t, sK size c (1 - s.e % 2) = some t → t.e < s.e
theorem Last.next {size : Nat} {c : Nat → List UInt8} {s t : Sup} (h : Last size c s) (ht : t.Ok) (hn : t.e = s.e + 1) : Last size (upd c (t.e % 2) t.bytes) t := by
  refine ⟨ht, by simp [upd], fun q hq => ?_⟩
  have e : 1 - t.e % 2 = s.e % 2 := by omega
  rw [e] at hq
  rw [sK_bytes h.ok (by unfold upd; rw [if_neg (by omega)]; exact h.own)] at hq
  cases hq
  omega
theorem Last.get {size : Nat} {c : Nat → List UInt8} {s : Sup} (h : Last size c s) : getC size c = some s := getC_two rfl (sK_bytes h.ok h.own) h.other
theorem Last.first : Last 64 (upd (upd (fun _ => []) 0 first) 1 []) ⟨0, 0, 0⟩ := by
  refine ⟨⟨by decide, by decide, by decide⟩, rfl, fun t ht => ?_⟩
  rw [sK_nil (by omega) rfl] at ht
  cases ht
set_option maxRecDepth 100000 in
set_option maxHeartbeats 2000000 in
theorem goes_long (a : Option Addr) (cap : Nat) (l : List Int) (hl : 60 < l.length) (x : Int) (w : World) : Calls Try.prog 5 #[.slice a l.length cap, .int .u64 x] w fun e w' => e = .returned (.bool true) ∧ Below w.heap.size w w' := by
  have hli : (60 : Int) < ((l.length : Nat) : Int) := by omega
  generalize l.length = n at *
  go_enter Try.func5, Try.ntmps5
  go_wp2_with fail
  refine (awake8 _).mono ?_
  rintro r w1 ⟨rfl, b1⟩
  have B1 := Lib.hid b1
  clear b1
  go_wp2_with fail
  go_ret
  exact ⟨rfl, B1.out⟩
set_option maxRecDepth 100000 in
set_option maxHeartbeats 2000000 in
theorem goes_few (a : Option Addr) (cap : Nat) (l : List Int) (hl : l.length ≤ 60) (x : Nat) (hx : x < 18446744073709551616) (w : World) (hA : CameI w a l) : Calls Try.prog 5 #[.slice a l.length cap, .int .u64 (x : Nat)] w fun e w' => e = .returned (.bool true) ∧ Below w.heap.size w w' := by
  have hli : ((l.length : Nat) : Int) ≤ 60 := by omega
  have FM := Lib.hid (fun (W : World) (p : Nat) (o : Hid (OwnD w W p (Mod.new 3 64))) => format_calm o.out (Calm.new 3 64) (by omega) (by omega) (by omega))
  go_enter Try.func5, Try.ntmps5
  go_wp2_with fail
  refine (awake8 _).mono ?_
  rintro r w1 ⟨rfl, b1⟩
  have B1 := Lib.hid b1
  clear b1
  go_wp2_with fail
  refine (Law.new w 3 64 w1 B1.out (by omega) (by omega) (by omega) (by omega) [] (by simp)).mono ?_
  rintro r w2 ⟨p, rfl, l2⟩
  have L2 := Lib.hid l2
  clear l2 B1
  go_wp2_with fail
  refine (FM.out _ _ (Lib.hid L2.out.1)).mono ?_
  rintro r w3 ⟨rfl, st3, o3, c3⟩
  have L3 := Lib.hid ((L2.out.still st3 o3).push #[.int .u32 0, .int .i64 0, .int .i64 0])
  have C3 := Lib.hid c3
  have hsb : w.heap.size ≤ w3.heap.size := o3.bel.size
  clear st3 o3 c3 FM L2
  go_wp2_with fail
  go_loopg [8] 62 (fun j s8 wr => ∃ (i : Nat) (m : Mod) (s : Sup) (c : Nat → List UInt8), i ≤ l.length ∧ 61 < i + j ∧ s8 = .int .i64 (i : Nat) ∧ Law w wr p m [(w3.heap.size, #[.int .u32 (s.e : Nat), .int .i64 (s.a : Nat), .int .i64 (s.u : Nat)])] ∧ Calm m 3 64 (4 + 2 * i) c ∧ Last 64 c s ∧ s.e ≤ i)
  case atStart => exact ⟨0, _, ⟨0, 0, 0⟩, _, by omega, by omega, rfl, L3.out, C3.out, Last.first, Nat.le_refl _⟩
  case round =>
    obtain ⟨i, m, s, c, hi, hj, rfl, hL, hC, hS, hse⟩ := hrel
    clear L3 C3
    have HL := Lib.hid hL
    have HC := Lib.hid hC
    have HS := Lib.hid hS
    clear hL hC hS
    by_cases h1 : i < l.length
    · have h1' : (i : Int) < ((l.length : Nat) : Int) := by omega
      obtain ⟨ab, off, rfl, hab, c0⟩ := (hA.below HL.out.1.bel).cell i h1
      obtain ⟨s0, s1, s2, sl, -⟩ := HL.out.at (g := w3.heap.size) (a := .int .u32 (s.e : Nat)) (b := .int .i64 (s.a : Nat)) (c := .int .i64 (s.u : Nat)) (by simp)
      have CZ : Hid (∀ W, Below w.heap.size w W → W.cell? ⟨ab, off + i, none⟩ = some (.int .i64 l[i])) := Lib.hid fun W hb => by
        obtain ⟨b', o', e', _, c'⟩ := (hA.below hb).cell i h1
        cases e'
        exact c'
      generalize l[i] = z at *
      have NX : ∃ (e a u E : Int), (∀ W, Calls Try.prog 16 #[sup (s.e : Nat) (s.a : Nat) (s.u : Nat), .int .i64 z] W fun r w' => r = .returned (.tuple #[sup e a u, .int .i64 E]) ∧ Below W.heap.size W w') ∧
          ((0 ≤ z ∧ z ≤ 600 ∧ e = (s.e : Int) + 1 ∧ a = 1 - (s.a : Int) ∧ u = z ∧ E = 0) ∨ ((z < 0 ∨ 600 < z) ∧ E = 1)) := by
        have k1 := HS.out.ok.a
        by_cases hz : 0 ≤ z ∧ z ≤ 600
        · exact ⟨_, _, _, _, fun W => next_yes s HS.out.ok z W (by simp only [fitsB, decide_eq_true_eq]; omega), .inl ⟨hz.1, hz.2, rfl, rfl, rfl, rfl⟩⟩
        · exact ⟨_, _, _, _, fun W => next_no s HS.out.ok z W (by simp only [fitsB, decide_eq_false_iff_not]; omega), .inr ⟨by omega, rfl⟩⟩
      obtain ⟨e1, a1, u1, E, nx, hcase⟩ := NX
      have NX := Lib.hid nx
      have HCASE := Lib.hid hcase
      clear nx hcase
      go_upto_region 12 with fail
      go_cut [9, 10] (fun s9 s10 wc => ∃ g, s9 = .pointer (some ⟨g, 0, none⟩) ∧ s10 = .int .i64 E ∧ Law w wc p m [(g, #[.int .u32 e1, .int .i64 a1, .int .i64 u1]), (w3.heap.size, #[.int .u32 (s.e : Nat), .int .i64 (s.a : Nat), .int .i64 (s.u : Nat)])] ∧ g ≠ w3.heap.size)
      case first =>
        have LD := Lib.hid HL.out.drew
        have LA : Hid (Law w (wr.drew.alloc (.cells #[.int .u32 0, .int .i64 0, .int .i64 0] 30)) p m [(wr.heap.size, #[.int .u32 0, .int .i64 0, .int .i64 0]), (w3.heap.size, #[.int .u32 (s.e : Nat), .int .i64 (s.a : Nat), .int .i64 (s.u : Nat)])]) := Lib.hid (LD.out.push #[.int .u32 0, .int .i64 0, .int .i64 0])
        have hww : w.heap.size ≤ wr.heap.size := HL.out.1.bel.size
        clear HL HC HS HCASE
        go_region_with (first
          | (go_at_call 16; refine (NX.out _).mono ?_; rintro r w4 ⟨rfl, b4⟩; (first | (have L4 := Lib.hid (LA.out.below b4); obtain ⟨g0, g1, g2, gl, gf0, gf1, gf2⟩ := L4.out.at (g := wr.heap.size) (a := .int .u32 0) (b := .int .i64 0) (c := .int .i64 0) (by simp)) | (have L4 := Lib.hid (LD.out.below b4))); have hb4 := b4.size; clear b4))
        all_goals
          clear s0 s1 s2 c0
          go_wp2_with fail
          go_meet
          case rel =>
            first
              | exact ⟨_, by first | rfl | simp [Act.put], by first | rfl | simp [Act.put], L4.out.poke (g := wr.heap.size) (a := .int .u32 0) (b := .int .i64 0) (c := .int .i64 0) (by simp) hww _ _ _ (fun y hy => by simp only [List.mem_singleton] at hy; subst hy; exact ⟨by simp, by show w3.heap.size ≠ wr.heap.size; omega⟩), by omega⟩
              | exact ⟨_, by first | rfl | simp [Act.put], by first | rfl | simp [Act.put], L4.out.push _, by have h5 : w3.heap.size < w4.heap.size := (L4.out.2 (w3.heap.size, #[.int .u32 (s.e : Nat), .int .i64 (s.a : Nat), .int .i64 (s.u : Nat)]) (by simp)).lt; omega⟩
      case rest =>
        obtain ⟨g, rfl, rfl, lw, hgs⟩ := hcut
        have LW := Lib.hid lw
        obtain ⟨s0', s1', s2', sl', -⟩ := LW.out.at (g := w3.heap.size) (a := .int .u32 (s.e : Nat)) (b := .int .i64 (s.a : Nat)) (c := .int .i64 (s.u : Nat)) (by simp)
        obtain ⟨n0, n1, n2, nl, -⟩ := LW.out.at (g := g) (a := .int .u32 e1) (b := .int .i64 a1) (c := .int .i64 u1) (by simp)
        have c0' : wc.cell? ⟨ab, off + i, none⟩ = some (.int .i64 z) := CZ.out wc LW.out.1.bel
        clear lw HL s0 s1 s2 c0 sl hab
        rcases HCASE.out with ⟨z0, z1, rfl, rfl, rfl, rfl⟩ | ⟨hz, rfl⟩
        · clear HCASE
          obtain ⟨t, ht⟩ : ∃ t : Sup, t = ⟨s.e + 1, 1 - s.a, u1.toNat⟩ := ⟨_, rfl⟩
          have k1 := HS.out.ok.a
          have k2 : s.e ≤ 61 := by omega
          have htv : t.v = sup ((s.e : Int) + 1) (1 - (s.a : Int)) u1 := by
            subst ht
            show sup _ _ _ = _
            rw [show (((s.e + 1 : Nat) : Nat) : Int) = (s.e : Int) + 1 by omega, show (((1 - s.a : Nat) : Nat) : Int) = 1 - (s.a : Int) by omega, show ((u1.toNat : Nat) : Int) = u1 by omega]
          have hto : t.Ok := by subst ht; exact ⟨by simp only; omega, by simp only; omega, by simp only; omega⟩
          have hte : t.e = s.e + 1 := by rw [ht]
          have hne : ((1 - (s.a : Int)) == (s.a : Int)) = false := by simp; omega
          have LN := Lib.hid (HS.out.next hto hte)
          have GT : Hid (∀ (W : World) (m' : Mod) (D : Nat) (o : Hid (OwnD w W p m')) (hc : Hid (Calm m' 3 64 D (upd c (t.e % 2) t.bytes))), Calls Try.prog 8 #[.pointer (some ⟨p, 0, none⟩)] W fun e w' => e = .returned (.tuple #[sup ((s.e : Int) + 1) (1 - (s.a : Int)) u1, .int .i64 0]) ∧ Below W.heap.size W w') :=
            Lib.hid (fun W m' D o hc => by
              have h := get_calm o.out hc.out (by omega) (by omega) (by omega)
              rw [LN.out.get] at h
              simp only [newV, toldC] at h
              rw [htv] at h
              exact h.mono fun _ _ hh => ⟨hh.1, hh.2.1⟩)
          have PT : Hid (Calls Try.prog 10 #[.pointer (some ⟨p, 0, none⟩), sup ((s.e : Int) + 1) (1 - (s.a : Int)) u1] wc.drew fun e w' => e = .returned (.int .i64 0) ∧ Hid (Law w w' p (m.keep ((t.e % 2 : Nat) : Int) t.bytes) [(g, #[.int .u32 ((s.e : Int) + 1), .int .i64 (1 - (s.a : Int)), .int .i64 u1]), (w3.heap.size, #[.int .u32 (s.e : Nat), .int .i64 (s.a : Nat), .int .i64 (s.u : Nat)])]) ∧ Hid (Calm (m.keep ((t.e % 2 : Nat) : Int) t.bytes) 3 64 (4 + 2 * i + 2) (upd c (t.e % 2) t.bytes))) :=
            Lib.hid (by
              have h := put_calm LW.out.drew.1 HC.out (by omega) (by omega) (by omega) t hto
              rw [htv] at h
              exact h.mono fun e w' hh => ⟨hh.1, Lib.hid (LW.out.drew.still hh.2.1 hh.2.2.1), Lib.hid hh.2.2.2⟩)
          have HS1 : Hid (∀ (W : World) (m' : Mod) (lw : Hid (Law w W p m' [(g, #[.int .u32 ((s.e : Int) + 1), .int .i64 (1 - (s.a : Int)), .int .i64 u1]), (w3.heap.size, #[.int .u32 (s.e : Nat), .int .i64 (s.a : Nat), .int .i64 (s.u : Nat)])])), (fun W => W.cell? ⟨g, 0, none⟩ = some (.int .u32 ((s.e : Int) + 1)) ∧ W.cell? ⟨g, 1, none⟩ = some (.int .i64 (1 - (s.a : Int))) ∧ W.cell? ⟨g, 2, none⟩ = some (.int .i64 u1) ∧ W.cell? ⟨w3.heap.size, 0, none⟩ = some (.int .u32 (s.e : Nat)) ∧ W.cell? ⟨w3.heap.size, 1, none⟩ = some (.int .i64 (s.a : Nat)) ∧ W.cell? ⟨ab, off + i, none⟩ = some (.int .i64 u1)) W) :=
            Lib.hid (fun W m' lw => by
              obtain ⟨x0, x1, x2, -⟩ := lw.out.at (g := g) (a := .int .u32 ((s.e : Int) + 1)) (b := .int .i64 (1 - (s.a : Int))) (c := .int .i64 u1) (by simp)
              obtain ⟨y0, y1, y2, -⟩ := lw.out.at (g := w3.heap.size) (a := .int .u32 (s.e : Nat)) (b := .int .i64 (s.a : Nat)) (c := .int .i64 (s.u : Nat)) (by simp)
              exact ⟨x0, x1, x2, y0, y1, CZ.out W lw.out.1.bel⟩)
          have LWd := Lib.hid LW.out.drew
          have hwr : IntKind.u32.wrap ((s.e : Int) + 1) = (s.e : Int) + 1 := by simp only [IntKind.wrap_u32]; omega
          clear ht n0 n1 n2 nl s0' s1' s2' sl'
          go_wp2_with fail
          go_region_held3 (fun W => W.cell? ⟨g, 0, none⟩ = some (.int .u32 ((s.e : Int) + 1)) ∧ W.cell? ⟨g, 1, none⟩ = some (.int .i64 (1 - (s.a : Int))) ∧ W.cell? ⟨g, 2, none⟩ = some (.int .i64 u1) ∧ W.cell? ⟨w3.heap.size, 0, none⟩ = some (.int .u32 (s.e : Nat)) ∧ W.cell? ⟨w3.heap.size, 1, none⟩ = some (.int .i64 (s.a : Nat)) ∧ W.cell? ⟨ab, off + i, none⟩ = some (.int .i64 u1)) (first | exact HS1.out _ _ LWd | exact HS1.out _ _ l6)
            (first
              | (go_at_call 10; (with_reducible refine PT.out.mono ?_); rintro r w6 ⟨rfl, l6, c6⟩))
          rename_i hHeld
          have CR := Lib.hid (crash_calm l6.out.1 c6.out x hx)
          clear hwr hHeld PT HS1 LWd c0'
          go_wp2_with fail
          refine CR.out.mono ?_
          rintro r w7 ⟨⟨v7, rfl⟩, st7, o7, c7⟩
          have L7 := Lib.hid (l6.out.still st7 o7)
          have C7 := Lib.hid c7
          clear st7 o7 c7 CR l6 c6
          go_wp2_with fail
          refine (GT.out _ _ _ (Lib.hid L7.out.1) C7).mono ?_
          rintro r w8 ⟨rfl, b8⟩
          have L8 := Lib.hid (L7.out.below b8)
          clear b8 L7 GT
          obtain ⟨n0, n1, n2, nl, -⟩ := L8.out.at (g := g) (a := .int .u32 ((s.e : Int) + 1)) (b := .int .i64 (1 - (s.a : Int))) (c := .int .i64 u1) (by simp)
          obtain ⟨s0, s1, s2, sl, sf0, sf1, sf2⟩ := L8.out.at (g := w3.heap.size) (a := .int .u32 (s.e : Nat)) (b := .int .i64 (s.a : Nat)) (c := .int .i64 (s.u : Nat)) (by simp)
          have FIN : Hid (Law w ((((w8.setCell ⟨w3.heap.size, 0, none⟩ (.int .u32 ((s.e : Int) + 1))).setCell ⟨w3.heap.size, 1, none⟩ (.int .i64 (1 - (s.a : Int)))).setCell ⟨w3.heap.size, 2, none⟩ (.int .i64 u1)).alloc (.cells #[.int .u32 ((s.e : Int) + 1), .int .i64 (1 - (s.a : Int)), .int .i64 u1] 30)) p ((m.keep ((t.e % 2 : Nat) : Int) t.bytes).crash x) [(w3.heap.size, #[.int .u32 (t.e : Nat), .int .i64 (t.a : Nat), .int .i64 (t.u : Nat)])]) :=
            Lib.hid (by
              have h := L8.out.poke (g := w3.heap.size) (a := .int .u32 (s.e : Nat)) (b := .int .i64 (s.a : Nat)) (c := .int .i64 (s.u : Nat)) (by simp) hsb (.int .u32 ((s.e : Int) + 1)) (.int .i64 (1 - (s.a : Int))) (.int .i64 u1) (L' := []) (by simp)
              have e : (#[.int .u32 (t.e : Nat), .int .i64 (t.a : Nat), .int .i64 (t.u : Nat)] : Array Value) = #[.int .u32 ((s.e : Int) + 1), .int .i64 (1 - (s.a : Int)), .int .i64 u1] := Value.agg.inj htv
              rw [e]
              exact h.below ((Below.refl _ _).alloc (Nat.le_refl _) _))
          clear htv
          go_wp2_with fail
          go_roundg (61 - i)
          case measure => omega
          case rel => exact ⟨i + 1, _, t, _, by omega, by omega, by simp, FIN.out, C7.out.mono (by omega), LN.out, by omega⟩
        · clear HCASE
          rcases hz with hz | hz
          · go_wp2_with fail
            go_roundg (61 - i)
            case measure => omega
            case rel => exact ⟨i + 1, m, s, c, by omega, by omega, by simp, LW.out.sub (by simp), HC.out.mono (by omega), HS.out, by omega⟩
          · have hz0 : 0 ≤ z := by omega
            go_wp2_with fail
            go_roundg (61 - i)
            case measure => omega
            case rel => exact ⟨i + 1, m, s, c, by omega, by omega, by simp, LW.out.sub (by simp), HC.out.mono (by omega), HS.out, by omega⟩
    · have h1' : i = l.length := by omega
      subst h1'
      have FIN := Lib.hid HL.out.1.bel
      go_wp2_with fail
      go_ret
      exact ⟨rfl, FIN.out⟩
theorem superGoes_all (a : Option Addr) (cap : Nat) (l : List Int) (x : Int) (hx0 : 0 ≤ x) (hx1 : x < 18446744073709551616) (w : World) (hA : CameI w a l) : Calls Try.prog 5 #[.slice a l.length cap, .int .u64 x] w fun e w' => e = .returned (.bool true) ∧ Below w.heap.size w w' := by
  by_cases hl : l.length ≤ 60
  · obtain ⟨xn, rfl⟩ : ∃ n : Nat, x = n := ⟨x.toNat, by omega⟩
    exact goes_few a cap l hl xn (by omega) w hA
  · exact goes_long a cap l (by omega) x w
end Go.Proofs.Ytjoenmmjpmnkfaa
