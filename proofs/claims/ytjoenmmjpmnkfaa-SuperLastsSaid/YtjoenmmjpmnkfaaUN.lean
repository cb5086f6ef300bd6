/- SuperLasts, where the next one is put while the disk may go dark. -/
import Derived.Test.YtjoenmmjpmnkfaaUL
import Derived.Test.YtjoenmmjpmnkfaaUM
import Derived.Test.YtjoenmmjpmnkfaaUO
namespace Go.Proofs.Ytjoenmmjpmnkfaa
open Go.RowKit
set_option maxRecDepth 100000 in
set_option maxHeartbeats 1000000 in
theorem lasts_0 (s t : Sup) (hs : s.Ok) (ht : t.Ok) (used : Int) (hte : t.e = s.e + 1) (hnv : t.v = sup ((s.e : Int) + 1) (1 - s.a) used) (f : Int) (hK : (wrap64 f).tmod 4 = 0) (x : Nat) (hx : x < 18446744073709551616) (hf : fitsB ((s.e : Int) + 1) (1 - s.a) used = true) (w : World) : Calls Try.prog 4 #[s.v, .int .i64 used, .int .u8 f, .int .u64 (x : Nat)] w fun r w' => r = .returned (.bool true) ∧ Below w.heap.size w w' := by
  have h1 := hs.e; have h2 := hs.a; have h3 := hs.u
  have hlt : s.e < 2147483648 := by simp only [fitsB, decide_eq_true_eq] at hf; omega
  have RF := refFits_any s.e s.a s.u
  rw [hs.fits] at RF
  have RF1 := Lib.hid RF
  have RW := refFits_any ((s.e : Int) + 1) (1 - s.a) used
  rw [hf] at RW
  have RW1 := Lib.hid RW
  have NB := Lib.hid (fun W => next_yes s hs used W hf)
  have hmi : ((s.e : Int) == 2147483648) = false := by simp; omega
  have PS := Lib.hid (fun (W : World) (p : Nat) (L : List (Nat × Array Value)) (o : Hid (Law w W p (Mod.new 2 64) L)) => put_calm o.out.1 (Calm.new 2 64) (by omega) (by omega) (by omega) s hs)
  clear RF RW
  have b0 : Below w.heap.size w (w.alloc (.cells #[.int .u32 (s.e : Nat), .int .i64 (s.a : Nat), .int .i64 (s.u : Nat)] 30)) := (Below.refl _ _).alloc (Nat.le_refl _) _
  have N0 := Whole.new w 30 #[.int .u32 (s.e : Nat), .int .i64 (s.a : Nat), .int .i64 (s.u : Nat)]
  go_enter Try.func4, Try.ntmps4
  go_wp2_with fail
  generalize w.alloc (.cells #[.int .u32 (s.e : Nat), .int .i64 (s.a : Nat), .int .i64 (s.u : Nat)] 30) = wA at *
  refine (awake8 _).mono ?_
  rintro r w1 ⟨rfl, b1⟩
  have N1 := N0.below b1 N0.lt
  have B1 := Lib.hid (below_next b0 b1)
  clear b0 b1 N0
  go_wp2_with fail
  refine (Law.new w 2 64 w1 B1.out (by omega) (by omega) (by omega) (by omega) [(w.heap.size, #[.int .u32 (s.e : Nat), .int .i64 (s.a : Nat), .int .i64 (s.u : Nat)])] (by simpa using N1)).mono ?_
  rintro r w2 ⟨p, rfl, l2⟩
  have L2 := Lib.hid l2
  clear l2 N1 B1
  obtain ⟨s0, s1, s2, sl, -⟩ := L2.out.at (g := w.heap.size) (a := .int .u32 (s.e : Nat)) (b := .int .i64 (s.a : Nat)) (c := .int .i64 (s.u : Nat)) (by simp)
  go_wp2_with fail
  refine (NB.out _).mono ?_
  rintro r w3 ⟨rfl, b3⟩
  have L3 := Lib.hid (L2.out.below b3)
  clear s0 s1 s2 sl b3 L2
  obtain ⟨s0, s1, s2, sl, -⟩ := L3.out.at (g := w.heap.size) (a := .int .u32 (s.e : Nat)) (b := .int .i64 (s.a : Nat)) (c := .int .i64 (s.u : Nat)) (by simp)
  have L4 := Lib.hid ((L3.out.push #[.int .u32 ((s.e : Int) + 1), .int .i64 (1 - (s.a : Int)), .int .i64 used]).push #[.int .u32 ((s.e : Int) + 1), .int .i64 (1 - (s.a : Int)), .int .i64 used])
  rw [World.size_alloc] at L4
  clear L3
  go_wp2_with fail
  refine (RF1.out _).mono ?_
  rintro r w4 ⟨rfl, b4⟩
  have L5 := Lib.hid (L4.out.below b4)
  clear s0 s1 s2 sl b4 L4
  obtain ⟨s0, s1, s2, sl, -⟩ := L5.out.at (g := w.heap.size) (a := .int .u32 (s.e : Nat)) (b := .int .i64 (s.a : Nat)) (c := .int .i64 (s.u : Nat)) (by simp)
  obtain ⟨n0, n1, n2, nl, -⟩ := L5.out.at (g := w3.heap.size) (a := .int .u32 ((s.e : Int) + 1)) (b := .int .i64 (1 - (s.a : Int))) (c := .int .i64 used) (by simp)
  obtain ⟨v0, v1, v2, vl, -⟩ := L5.out.at (g := w3.heap.size + 1) (a := .int .u32 ((s.e : Int) + 1)) (b := .int .i64 (1 - (s.a : Int))) (c := .int .i64 used) (by simp)
  go_wp2_with fail
  refine (RW1.out _).mono ?_
  rintro r w5 ⟨rfl, b5⟩
  have L6 := Lib.hid (L5.out.below b5)
  clear s0 s1 s2 sl n0 n1 n2 nl v0 v1 v2 vl b5 L5
  obtain ⟨s0, s1, s2, sl, -⟩ := L6.out.at (g := w.heap.size) (a := .int .u32 (s.e : Nat)) (b := .int .i64 (s.a : Nat)) (c := .int .i64 (s.u : Nat)) (by simp)
  obtain ⟨n0, n1, n2, nl, -⟩ := L6.out.at (g := w3.heap.size) (a := .int .u32 ((s.e : Int) + 1)) (b := .int .i64 (1 - (s.a : Int))) (c := .int .i64 used) (by simp)
  obtain ⟨v0, v1, v2, vl, -⟩ := L6.out.at (g := w3.heap.size + 1) (a := .int .u32 ((s.e : Int) + 1)) (b := .int .i64 (1 - (s.a : Int))) (c := .int .i64 used) (by simp)
  go_wp2_with fail
  refine (PS.out _ _ _ L6).mono ?_
  rintro r w6 ⟨rfl, st6, o6, c6⟩
  have L7 := Lib.hid (L6.out.still st6 o6)
  have C6 := Lib.hid c6
  clear s0 s1 s2 sl n0 n1 n2 nl v0 v1 v2 vl st6 o6 c6 L6 PS
  obtain ⟨s0, s1, s2, sl, -⟩ := L7.out.at (g := w.heap.size) (a := .int .u32 (s.e : Nat)) (b := .int .i64 (s.a : Nat)) (c := .int .i64 (s.u : Nat)) (by simp)
  obtain ⟨n0, n1, n2, nl, -⟩ := L7.out.at (g := w3.heap.size) (a := .int .u32 ((s.e : Int) + 1)) (b := .int .i64 (1 - (s.a : Int))) (c := .int .i64 used) (by simp)
  have PN : Hid (∀ (W : World) (p : Nat) (m : Mod) (o : Hid (OwnD w W p (m.fuseTo ((0 : Nat) : Int)))) (hc : Hid (Calm m 2 64 (0 + 2) (upd (fun _ => []) (s.e % 2) s.bytes))), Calls Try.prog 10 #[.pointer (some ⟨p, 0, none⟩), sup ((s.e : Int) + 1) (1 - s.a) used] W fun e w' => e = .returned (.int .i64 17) ∧ Still W w' ∧ ∃ m', OwnD w w' p m' ∧ m'.waits ≤ 1000000 ∧ Hid (Calm (m'.crash x) 2 64 (0 + 2 + 2) (behind (upd (fun _ => []) (s.e % 2) s.bytes) (t.e % 2) t.bytes 0 x))) :=
    Lib.hid (fun W p m o hc => by
      have h := put_fused 0 (by omega) o.out hc.out (by omega) (by omega) (by omega) t ht
      rw [hnv] at h
      refine h.mono ?_
      rintro e w' ⟨rfl, h1, m', h2, h3, h4⟩
      exact ⟨rfl, h1, m', h2, h3, Lib.hid (h4 x)⟩)
  have GT : Hid (∀ (W : World) (p : Nat) (m : Mod) (o : Hid (OwnD w W p m)) (hc : Hid (Calm m 2 64 (0 + 2 + 2) (behind (upd (fun _ => []) (s.e % 2) s.bytes) (t.e % 2) t.bytes 0 x))), Calls Try.prog 8 #[.pointer (some ⟨p, 0, none⟩)] W fun e w' => e = .returned (.tuple #[s.v, .int .i64 0]) ∧ Below W.heap.size W w') :=
    Lib.hid (fun W p m o hc => by
      have h := get_calm o.out hc.out (by omega) (by omega) (by omega)
      rw [behind_get s t hs ht hte 0 x, if_neg (by omega)] at h
      simp only [newV, toldC] at h
      skip
      exact h.mono fun _ _ hh => ⟨hh.1, hh.2.1⟩)
  have FU : Hid (∀ (W : World) (p : Nat) (m : Mod) (o : Hid (OwnD w W p m)), Calls Try.prog 17 #[.pointer (some ⟨p, 0, none⟩), .int .i64 0] W fun e w' => (∃ v, e = .returned v) ∧ Still W w' ∧ OwnD w w' p (m.fuseTo ((0 : Nat) : Int))) := Lib.hid (fun W p m o => fuse_calm o.out 0)
  have CR := Lib.hid (fun (W : World) (p : Nat) (m : Mod) (o : Hid (OwnD w W p m)) (hw : m.waits ≤ 1000000) => crash_any o.out hw x hx)
  clear hs ht hte hnv hf
  go_wp2_with fail
  refine (FU.out _ _ _ (Lib.hid L7.out.1)).mono ?_
  rintro r w7 ⟨⟨v7, rfl⟩, st7, o7⟩
  have L8 := Lib.hid (L7.out.still st7 o7)
  clear s0 s1 s2 sl n0 n1 n2 nl st7 o7 L7 hK
  obtain ⟨s0, s1, s2, sl, -⟩ := L8.out.at (g := w.heap.size) (a := .int .u32 (s.e : Nat)) (b := .int .i64 (s.a : Nat)) (c := .int .i64 (s.u : Nat)) (by simp)
  obtain ⟨n0, n1, n2, nl, -⟩ := L8.out.at (g := w3.heap.size) (a := .int .u32 ((s.e : Int) + 1)) (b := .int .i64 (1 - (s.a : Int))) (c := .int .i64 used) (by simp)
  go_wp2_with fail
  refine (PN.out _ _ _ (Lib.hid L8.out.1) C6).mono ?_
  rintro r w8 ⟨rfl, st8, m8, o8, hw8, C8⟩
  have L9 := Lib.hid (L8.out.still st8 o8)
  clear s0 s1 s2 sl n0 n1 n2 nl st8 o8 L8 PN FU C6
  go_wp2_with fail
  refine (CR.out _ _ _ (Lib.hid L9.out.1) hw8).mono ?_
  rintro r w9 ⟨⟨v9, rfl⟩, st9, o9⟩
  have L10 := Lib.hid (L9.out.still st9 o9)
  clear st9 o9 L9 CR hw8
  go_wp2_with fail
  refine (GT.out _ _ _ (Lib.hid L10.out.1) C8).mono ?_
  rintro r w10 ⟨rfl, b10⟩
  have L11 := Lib.hid (L10.out.below b10)
  clear b10 L10 GT C8
  obtain ⟨s0, s1, s2, sl, -⟩ := L11.out.at (g := w.heap.size) (a := .int .u32 (s.e : Nat)) (b := .int .i64 (s.a : Nat)) (c := .int .i64 (s.u : Nat)) (by simp)
  obtain ⟨n0, n1, n2, nl, -⟩ := L11.out.at (g := w3.heap.size) (a := .int .u32 ((s.e : Int) + 1)) (b := .int .i64 (1 - (s.a : Int))) (c := .int .i64 used) (by simp)
  go_wp2_with fail
  go_ret
  exact ⟨rfl, L11.out.1.bel.alloc L11.out.1.bel.size _⟩
set_option maxRecDepth 100000 in
set_option maxHeartbeats 1000000 in
theorem lasts_10 (s t : Sup) (hs : s.Ok) (ht : t.Ok) (used : Int) (hte : t.e = s.e + 1) (hnv : t.v = sup ((s.e : Int) + 1) (1 - s.a) used) (f : Int) (hK : (wrap64 f).tmod 4 = 1) (x : Nat) (hx : x < 18446744073709551616) (hbit : bit x 0 = false) (hpar : (x : Int) % 2 = 0) (hf : fitsB ((s.e : Int) + 1) (1 - s.a) used = true) (w : World) : Calls Try.prog 4 #[s.v, .int .i64 used, .int .u8 f, .int .u64 (x : Nat)] w fun r w' => r = .returned (.bool true) ∧ Below w.heap.size w w' := by
  have h1 := hs.e; have h2 := hs.a; have h3 := hs.u
  have hlt : s.e < 2147483648 := by simp only [fitsB, decide_eq_true_eq] at hf; omega
  have RF := refFits_any s.e s.a s.u
  rw [hs.fits] at RF
  have RF1 := Lib.hid RF
  have RW := refFits_any ((s.e : Int) + 1) (1 - s.a) used
  rw [hf] at RW
  have RW1 := Lib.hid RW
  have NB := Lib.hid (fun W => next_yes s hs used W hf)
  have hmi : ((s.e : Int) == 2147483648) = false := by simp; omega
  have PS := Lib.hid (fun (W : World) (p : Nat) (L : List (Nat × Array Value)) (o : Hid (Law w W p (Mod.new 2 64) L)) => put_calm o.out.1 (Calm.new 2 64) (by omega) (by omega) (by omega) s hs)
  clear RF RW
  have b0 : Below w.heap.size w (w.alloc (.cells #[.int .u32 (s.e : Nat), .int .i64 (s.a : Nat), .int .i64 (s.u : Nat)] 30)) := (Below.refl _ _).alloc (Nat.le_refl _) _
  have N0 := Whole.new w 30 #[.int .u32 (s.e : Nat), .int .i64 (s.a : Nat), .int .i64 (s.u : Nat)]
  go_enter Try.func4, Try.ntmps4
  go_wp2_with fail
  generalize w.alloc (.cells #[.int .u32 (s.e : Nat), .int .i64 (s.a : Nat), .int .i64 (s.u : Nat)] 30) = wA at *
  refine (awake8 _).mono ?_
  rintro r w1 ⟨rfl, b1⟩
  have N1 := N0.below b1 N0.lt
  have B1 := Lib.hid (below_next b0 b1)
  clear b0 b1 N0
  go_wp2_with fail
  refine (Law.new w 2 64 w1 B1.out (by omega) (by omega) (by omega) (by omega) [(w.heap.size, #[.int .u32 (s.e : Nat), .int .i64 (s.a : Nat), .int .i64 (s.u : Nat)])] (by simpa using N1)).mono ?_
  rintro r w2 ⟨p, rfl, l2⟩
  have L2 := Lib.hid l2
  clear l2 N1 B1
  obtain ⟨s0, s1, s2, sl, -⟩ := L2.out.at (g := w.heap.size) (a := .int .u32 (s.e : Nat)) (b := .int .i64 (s.a : Nat)) (c := .int .i64 (s.u : Nat)) (by simp)
  go_wp2_with fail
  refine (NB.out _).mono ?_
  rintro r w3 ⟨rfl, b3⟩
  have L3 := Lib.hid (L2.out.below b3)
  clear s0 s1 s2 sl b3 L2
  obtain ⟨s0, s1, s2, sl, -⟩ := L3.out.at (g := w.heap.size) (a := .int .u32 (s.e : Nat)) (b := .int .i64 (s.a : Nat)) (c := .int .i64 (s.u : Nat)) (by simp)
  have L4 := Lib.hid ((L3.out.push #[.int .u32 ((s.e : Int) + 1), .int .i64 (1 - (s.a : Int)), .int .i64 used]).push #[.int .u32 ((s.e : Int) + 1), .int .i64 (1 - (s.a : Int)), .int .i64 used])
  rw [World.size_alloc] at L4
  clear L3
  go_wp2_with fail
  refine (RF1.out _).mono ?_
  rintro r w4 ⟨rfl, b4⟩
  have L5 := Lib.hid (L4.out.below b4)
  clear s0 s1 s2 sl b4 L4
  obtain ⟨s0, s1, s2, sl, -⟩ := L5.out.at (g := w.heap.size) (a := .int .u32 (s.e : Nat)) (b := .int .i64 (s.a : Nat)) (c := .int .i64 (s.u : Nat)) (by simp)
  obtain ⟨n0, n1, n2, nl, -⟩ := L5.out.at (g := w3.heap.size) (a := .int .u32 ((s.e : Int) + 1)) (b := .int .i64 (1 - (s.a : Int))) (c := .int .i64 used) (by simp)
  obtain ⟨v0, v1, v2, vl, -⟩ := L5.out.at (g := w3.heap.size + 1) (a := .int .u32 ((s.e : Int) + 1)) (b := .int .i64 (1 - (s.a : Int))) (c := .int .i64 used) (by simp)
  go_wp2_with fail
  refine (RW1.out _).mono ?_
  rintro r w5 ⟨rfl, b5⟩
  have L6 := Lib.hid (L5.out.below b5)
  clear s0 s1 s2 sl n0 n1 n2 nl v0 v1 v2 vl b5 L5
  obtain ⟨s0, s1, s2, sl, -⟩ := L6.out.at (g := w.heap.size) (a := .int .u32 (s.e : Nat)) (b := .int .i64 (s.a : Nat)) (c := .int .i64 (s.u : Nat)) (by simp)
  obtain ⟨n0, n1, n2, nl, -⟩ := L6.out.at (g := w3.heap.size) (a := .int .u32 ((s.e : Int) + 1)) (b := .int .i64 (1 - (s.a : Int))) (c := .int .i64 used) (by simp)
  obtain ⟨v0, v1, v2, vl, -⟩ := L6.out.at (g := w3.heap.size + 1) (a := .int .u32 ((s.e : Int) + 1)) (b := .int .i64 (1 - (s.a : Int))) (c := .int .i64 used) (by simp)
  go_wp2_with fail
  refine (PS.out _ _ _ L6).mono ?_
  rintro r w6 ⟨rfl, st6, o6, c6⟩
  have L7 := Lib.hid (L6.out.still st6 o6)
  have C6 := Lib.hid c6
  clear s0 s1 s2 sl n0 n1 n2 nl v0 v1 v2 vl st6 o6 c6 L6 PS
  obtain ⟨s0, s1, s2, sl, -⟩ := L7.out.at (g := w.heap.size) (a := .int .u32 (s.e : Nat)) (b := .int .i64 (s.a : Nat)) (c := .int .i64 (s.u : Nat)) (by simp)
  obtain ⟨n0, n1, n2, nl, -⟩ := L7.out.at (g := w3.heap.size) (a := .int .u32 ((s.e : Int) + 1)) (b := .int .i64 (1 - (s.a : Int))) (c := .int .i64 used) (by simp)
  have PN : Hid (∀ (W : World) (p : Nat) (m : Mod) (o : Hid (OwnD w W p (m.fuseTo ((1 : Nat) : Int)))) (hc : Hid (Calm m 2 64 (0 + 2) (upd (fun _ => []) (s.e % 2) s.bytes))), Calls Try.prog 10 #[.pointer (some ⟨p, 0, none⟩), sup ((s.e : Int) + 1) (1 - s.a) used] W fun e w' => e = .returned (.int .i64 17) ∧ Still W w' ∧ ∃ m', OwnD w w' p m' ∧ m'.waits ≤ 1000000 ∧ Hid (Calm (m'.crash x) 2 64 (0 + 2 + 2) (behind (upd (fun _ => []) (s.e % 2) s.bytes) (t.e % 2) t.bytes 1 x))) :=
    Lib.hid (fun W p m o hc => by
      have h := put_fused 1 (by omega) o.out hc.out (by omega) (by omega) (by omega) t ht
      rw [hnv] at h
      refine h.mono ?_
      rintro e w' ⟨rfl, h1, m', h2, h3, h4⟩
      exact ⟨rfl, h1, m', h2, h3, Lib.hid (h4 x)⟩)
  have GT : Hid (∀ (W : World) (p : Nat) (m : Mod) (o : Hid (OwnD w W p m)) (hc : Hid (Calm m 2 64 (0 + 2 + 2) (behind (upd (fun _ => []) (s.e % 2) s.bytes) (t.e % 2) t.bytes 1 x))), Calls Try.prog 8 #[.pointer (some ⟨p, 0, none⟩)] W fun e w' => e = .returned (.tuple #[s.v, .int .i64 0]) ∧ Below W.heap.size W w') :=
    Lib.hid (fun W p m o hc => by
      have h := get_calm o.out hc.out (by omega) (by omega) (by omega)
      rw [behind_get s t hs ht hte 1 x, if_neg (fun h => h.elim (by omega) (fun h => by rw [hbit] at h; exact absurd h.2 (by decide)))] at h
      simp only [newV, toldC] at h
      skip
      exact h.mono fun _ _ hh => ⟨hh.1, hh.2.1⟩)
  have FU : Hid (∀ (W : World) (p : Nat) (m : Mod) (o : Hid (OwnD w W p m)), Calls Try.prog 17 #[.pointer (some ⟨p, 0, none⟩), .int .i64 1] W fun e w' => (∃ v, e = .returned v) ∧ Still W w' ∧ OwnD w w' p (m.fuseTo ((1 : Nat) : Int))) := Lib.hid (fun W p m o => fuse_calm o.out 1)
  have CR := Lib.hid (fun (W : World) (p : Nat) (m : Mod) (o : Hid (OwnD w W p m)) (hw : m.waits ≤ 1000000) => crash_any o.out hw x hx)
  clear hs ht hte hnv hf
  go_wp2_with fail
  refine (FU.out _ _ _ (Lib.hid L7.out.1)).mono ?_
  rintro r w7 ⟨⟨v7, rfl⟩, st7, o7⟩
  have L8 := Lib.hid (L7.out.still st7 o7)
  clear s0 s1 s2 sl n0 n1 n2 nl st7 o7 L7 hK
  obtain ⟨s0, s1, s2, sl, -⟩ := L8.out.at (g := w.heap.size) (a := .int .u32 (s.e : Nat)) (b := .int .i64 (s.a : Nat)) (c := .int .i64 (s.u : Nat)) (by simp)
  obtain ⟨n0, n1, n2, nl, -⟩ := L8.out.at (g := w3.heap.size) (a := .int .u32 ((s.e : Int) + 1)) (b := .int .i64 (1 - (s.a : Int))) (c := .int .i64 used) (by simp)
  go_wp2_with fail
  refine (PN.out _ _ _ (Lib.hid L8.out.1) C6).mono ?_
  rintro r w8 ⟨rfl, st8, m8, o8, hw8, C8⟩
  have L9 := Lib.hid (L8.out.still st8 o8)
  clear s0 s1 s2 sl n0 n1 n2 nl st8 o8 L8 PN FU C6
  go_wp2_with fail
  refine (CR.out _ _ _ (Lib.hid L9.out.1) hw8).mono ?_
  rintro r w9 ⟨⟨v9, rfl⟩, st9, o9⟩
  have L10 := Lib.hid (L9.out.still st9 o9)
  clear st9 o9 L9 CR hw8
  go_wp2_with fail
  refine (GT.out _ _ _ (Lib.hid L10.out.1) C8).mono ?_
  rintro r w10 ⟨rfl, b10⟩
  have L11 := Lib.hid (L10.out.below b10)
  clear b10 L10 GT C8
  obtain ⟨s0, s1, s2, sl, -⟩ := L11.out.at (g := w.heap.size) (a := .int .u32 (s.e : Nat)) (b := .int .i64 (s.a : Nat)) (c := .int .i64 (s.u : Nat)) (by simp)
  obtain ⟨n0, n1, n2, nl, -⟩ := L11.out.at (g := w3.heap.size) (a := .int .u32 ((s.e : Int) + 1)) (b := .int .i64 (1 - (s.a : Int))) (c := .int .i64 used) (by simp)
  go_wp2_with fail
  go_ret
  exact ⟨rfl, L11.out.1.bel.alloc L11.out.1.bel.size _⟩
set_option maxRecDepth 100000 in
set_option maxHeartbeats 1000000 in
theorem lasts_11 (s t : Sup) (hs : s.Ok) (ht : t.Ok) (used : Int) (hte : t.e = s.e + 1) (hnv : t.v = sup ((s.e : Int) + 1) (1 - s.a) used) (f : Int) (hK : (wrap64 f).tmod 4 = 1) (x : Nat) (hx : x < 18446744073709551616) (hbit : bit x 0 = true) (hpar : (x : Int) % 2 = 1) (hf : fitsB ((s.e : Int) + 1) (1 - s.a) used = true) (w : World) : Calls Try.prog 4 #[s.v, .int .i64 used, .int .u8 f, .int .u64 (x : Nat)] w fun r w' => r = .returned (.bool true) ∧ Below w.heap.size w w' := by
  have h1 := hs.e; have h2 := hs.a; have h3 := hs.u
  have hlt : s.e < 2147483648 := by simp only [fitsB, decide_eq_true_eq] at hf; omega
  have RF := refFits_any s.e s.a s.u
  rw [hs.fits] at RF
  have RF1 := Lib.hid RF
  have RW := refFits_any ((s.e : Int) + 1) (1 - s.a) used
  rw [hf] at RW
  have RW1 := Lib.hid RW
  have NB := Lib.hid (fun W => next_yes s hs used W hf)
  have hmi : ((s.e : Int) == 2147483648) = false := by simp; omega
  have PS := Lib.hid (fun (W : World) (p : Nat) (L : List (Nat × Array Value)) (o : Hid (Law w W p (Mod.new 2 64) L)) => put_calm o.out.1 (Calm.new 2 64) (by omega) (by omega) (by omega) s hs)
  clear RF RW
  have b0 : Below w.heap.size w (w.alloc (.cells #[.int .u32 (s.e : Nat), .int .i64 (s.a : Nat), .int .i64 (s.u : Nat)] 30)) := (Below.refl _ _).alloc (Nat.le_refl _) _
  have N0 := Whole.new w 30 #[.int .u32 (s.e : Nat), .int .i64 (s.a : Nat), .int .i64 (s.u : Nat)]
  go_enter Try.func4, Try.ntmps4
  go_wp2_with fail
  generalize w.alloc (.cells #[.int .u32 (s.e : Nat), .int .i64 (s.a : Nat), .int .i64 (s.u : Nat)] 30) = wA at *
  refine (awake8 _).mono ?_
  rintro r w1 ⟨rfl, b1⟩
  have N1 := N0.below b1 N0.lt
  have B1 := Lib.hid (below_next b0 b1)
  clear b0 b1 N0
  go_wp2_with fail
  refine (Law.new w 2 64 w1 B1.out (by omega) (by omega) (by omega) (by omega) [(w.heap.size, #[.int .u32 (s.e : Nat), .int .i64 (s.a : Nat), .int .i64 (s.u : Nat)])] (by simpa using N1)).mono ?_
  rintro r w2 ⟨p, rfl, l2⟩
  have L2 := Lib.hid l2
  clear l2 N1 B1
  obtain ⟨s0, s1, s2, sl, -⟩ := L2.out.at (g := w.heap.size) (a := .int .u32 (s.e : Nat)) (b := .int .i64 (s.a : Nat)) (c := .int .i64 (s.u : Nat)) (by simp)
  go_wp2_with fail
  refine (NB.out _).mono ?_
  rintro r w3 ⟨rfl, b3⟩
  have L3 := Lib.hid (L2.out.below b3)
  clear s0 s1 s2 sl b3 L2
  obtain ⟨s0, s1, s2, sl, -⟩ := L3.out.at (g := w.heap.size) (a := .int .u32 (s.e : Nat)) (b := .int .i64 (s.a : Nat)) (c := .int .i64 (s.u : Nat)) (by simp)
  have L4 := Lib.hid ((L3.out.push #[.int .u32 ((s.e : Int) + 1), .int .i64 (1 - (s.a : Int)), .int .i64 used]).push #[.int .u32 ((s.e : Int) + 1), .int .i64 (1 - (s.a : Int)), .int .i64 used])
  rw [World.size_alloc] at L4
  clear L3
  go_wp2_with fail
  refine (RF1.out _).mono ?_
  rintro r w4 ⟨rfl, b4⟩
  have L5 := Lib.hid (L4.out.below b4)
  clear s0 s1 s2 sl b4 L4
  obtain ⟨s0, s1, s2, sl, -⟩ := L5.out.at (g := w.heap.size) (a := .int .u32 (s.e : Nat)) (b := .int .i64 (s.a : Nat)) (c := .int .i64 (s.u : Nat)) (by simp)
  obtain ⟨n0, n1, n2, nl, -⟩ := L5.out.at (g := w3.heap.size) (a := .int .u32 ((s.e : Int) + 1)) (b := .int .i64 (1 - (s.a : Int))) (c := .int .i64 used) (by simp)
  obtain ⟨v0, v1, v2, vl, -⟩ := L5.out.at (g := w3.heap.size + 1) (a := .int .u32 ((s.e : Int) + 1)) (b := .int .i64 (1 - (s.a : Int))) (c := .int .i64 used) (by simp)
  go_wp2_with fail
  refine (RW1.out _).mono ?_
  rintro r w5 ⟨rfl, b5⟩
  have L6 := Lib.hid (L5.out.below b5)
  clear s0 s1 s2 sl n0 n1 n2 nl v0 v1 v2 vl b5 L5
  obtain ⟨s0, s1, s2, sl, -⟩ := L6.out.at (g := w.heap.size) (a := .int .u32 (s.e : Nat)) (b := .int .i64 (s.a : Nat)) (c := .int .i64 (s.u : Nat)) (by simp)
  obtain ⟨n0, n1, n2, nl, -⟩ := L6.out.at (g := w3.heap.size) (a := .int .u32 ((s.e : Int) + 1)) (b := .int .i64 (1 - (s.a : Int))) (c := .int .i64 used) (by simp)
  obtain ⟨v0, v1, v2, vl, -⟩ := L6.out.at (g := w3.heap.size + 1) (a := .int .u32 ((s.e : Int) + 1)) (b := .int .i64 (1 - (s.a : Int))) (c := .int .i64 used) (by simp)
  go_wp2_with fail
  refine (PS.out _ _ _ L6).mono ?_
  rintro r w6 ⟨rfl, st6, o6, c6⟩
  have L7 := Lib.hid (L6.out.still st6 o6)
  have C6 := Lib.hid c6
  clear s0 s1 s2 sl n0 n1 n2 nl v0 v1 v2 vl st6 o6 c6 L6 PS
  obtain ⟨s0, s1, s2, sl, -⟩ := L7.out.at (g := w.heap.size) (a := .int .u32 (s.e : Nat)) (b := .int .i64 (s.a : Nat)) (c := .int .i64 (s.u : Nat)) (by simp)
  obtain ⟨n0, n1, n2, nl, -⟩ := L7.out.at (g := w3.heap.size) (a := .int .u32 ((s.e : Int) + 1)) (b := .int .i64 (1 - (s.a : Int))) (c := .int .i64 used) (by simp)
  have PN : Hid (∀ (W : World) (p : Nat) (m : Mod) (o : Hid (OwnD w W p (m.fuseTo ((1 : Nat) : Int)))) (hc : Hid (Calm m 2 64 (0 + 2) (upd (fun _ => []) (s.e % 2) s.bytes))), Calls Try.prog 10 #[.pointer (some ⟨p, 0, none⟩), sup ((s.e : Int) + 1) (1 - s.a) used] W fun e w' => e = .returned (.int .i64 17) ∧ Still W w' ∧ ∃ m', OwnD w w' p m' ∧ m'.waits ≤ 1000000 ∧ Hid (Calm (m'.crash x) 2 64 (0 + 2 + 2) (behind (upd (fun _ => []) (s.e % 2) s.bytes) (t.e % 2) t.bytes 1 x))) :=
    Lib.hid (fun W p m o hc => by
      have h := put_fused 1 (by omega) o.out hc.out (by omega) (by omega) (by omega) t ht
      rw [hnv] at h
      refine h.mono ?_
      rintro e w' ⟨rfl, h1, m', h2, h3, h4⟩
      exact ⟨rfl, h1, m', h2, h3, Lib.hid (h4 x)⟩)
  have GT : Hid (∀ (W : World) (p : Nat) (m : Mod) (o : Hid (OwnD w W p m)) (hc : Hid (Calm m 2 64 (0 + 2 + 2) (behind (upd (fun _ => []) (s.e % 2) s.bytes) (t.e % 2) t.bytes 1 x))), Calls Try.prog 8 #[.pointer (some ⟨p, 0, none⟩)] W fun e w' => e = .returned (.tuple #[sup ((s.e : Int) + 1) (1 - s.a) used, .int .i64 0]) ∧ Below W.heap.size W w') :=
    Lib.hid (fun W p m o hc => by
      have h := get_calm o.out hc.out (by omega) (by omega) (by omega)
      rw [behind_get s t hs ht hte 1 x, if_pos (.inr ⟨rfl, hbit⟩)] at h
      simp only [newV, toldC] at h
      rw [hnv] at h
      exact h.mono fun _ _ hh => ⟨hh.1, hh.2.1⟩)
  have FU : Hid (∀ (W : World) (p : Nat) (m : Mod) (o : Hid (OwnD w W p m)), Calls Try.prog 17 #[.pointer (some ⟨p, 0, none⟩), .int .i64 1] W fun e w' => (∃ v, e = .returned v) ∧ Still W w' ∧ OwnD w w' p (m.fuseTo ((1 : Nat) : Int))) := Lib.hid (fun W p m o => fuse_calm o.out 1)
  have CR := Lib.hid (fun (W : World) (p : Nat) (m : Mod) (o : Hid (OwnD w W p m)) (hw : m.waits ≤ 1000000) => crash_any o.out hw x hx)
  clear hs ht hte hnv hf
  go_wp2_with fail
  refine (FU.out _ _ _ (Lib.hid L7.out.1)).mono ?_
  rintro r w7 ⟨⟨v7, rfl⟩, st7, o7⟩
  have L8 := Lib.hid (L7.out.still st7 o7)
  clear s0 s1 s2 sl n0 n1 n2 nl st7 o7 L7 hK
  obtain ⟨s0, s1, s2, sl, -⟩ := L8.out.at (g := w.heap.size) (a := .int .u32 (s.e : Nat)) (b := .int .i64 (s.a : Nat)) (c := .int .i64 (s.u : Nat)) (by simp)
  obtain ⟨n0, n1, n2, nl, -⟩ := L8.out.at (g := w3.heap.size) (a := .int .u32 ((s.e : Int) + 1)) (b := .int .i64 (1 - (s.a : Int))) (c := .int .i64 used) (by simp)
  go_wp2_with fail
  refine (PN.out _ _ _ (Lib.hid L8.out.1) C6).mono ?_
  rintro r w8 ⟨rfl, st8, m8, o8, hw8, C8⟩
  have L9 := Lib.hid (L8.out.still st8 o8)
  clear s0 s1 s2 sl n0 n1 n2 nl st8 o8 L8 PN FU C6
  go_wp2_with fail
  refine (CR.out _ _ _ (Lib.hid L9.out.1) hw8).mono ?_
  rintro r w9 ⟨⟨v9, rfl⟩, st9, o9⟩
  have L10 := Lib.hid (L9.out.still st9 o9)
  clear st9 o9 L9 CR hw8
  go_wp2_with fail
  refine (GT.out _ _ _ (Lib.hid L10.out.1) C8).mono ?_
  rintro r w10 ⟨rfl, b10⟩
  have L11 := Lib.hid (L10.out.below b10)
  clear b10 L10 GT C8
  obtain ⟨s0, s1, s2, sl, -⟩ := L11.out.at (g := w.heap.size) (a := .int .u32 (s.e : Nat)) (b := .int .i64 (s.a : Nat)) (c := .int .i64 (s.u : Nat)) (by simp)
  obtain ⟨n0, n1, n2, nl, -⟩ := L11.out.at (g := w3.heap.size) (a := .int .u32 ((s.e : Int) + 1)) (b := .int .i64 (1 - (s.a : Int))) (c := .int .i64 used) (by simp)
  go_wp2_with fail
  go_ret
  exact ⟨rfl, L11.out.1.bel.alloc L11.out.1.bel.size _⟩
set_option maxRecDepth 100000 in
set_option maxHeartbeats 1000000 in
theorem lasts_2 (s t : Sup) (hs : s.Ok) (ht : t.Ok) (used : Int) (hte : t.e = s.e + 1) (hnv : t.v = sup ((s.e : Int) + 1) (1 - s.a) used) (f : Int) (hK : (wrap64 f).tmod 4 = 2) (x : Nat) (hx : x < 18446744073709551616) (hf : fitsB ((s.e : Int) + 1) (1 - s.a) used = true) (w : World) : Calls Try.prog 4 #[s.v, .int .i64 used, .int .u8 f, .int .u64 (x : Nat)] w fun r w' => r = .returned (.bool true) ∧ Below w.heap.size w w' := by
  have h1 := hs.e; have h2 := hs.a; have h3 := hs.u
  have hlt : s.e < 2147483648 := by simp only [fitsB, decide_eq_true_eq] at hf; omega
  have RF := refFits_any s.e s.a s.u
  rw [hs.fits] at RF
  have RF1 := Lib.hid RF
  have RW := refFits_any ((s.e : Int) + 1) (1 - s.a) used
  rw [hf] at RW
  have RW1 := Lib.hid RW
  have NB := Lib.hid (fun W => next_yes s hs used W hf)
  have hmi : ((s.e : Int) == 2147483648) = false := by simp; omega
  have PS := Lib.hid (fun (W : World) (p : Nat) (L : List (Nat × Array Value)) (o : Hid (Law w W p (Mod.new 2 64) L)) => put_calm o.out.1 (Calm.new 2 64) (by omega) (by omega) (by omega) s hs)
  clear RF RW
  have b0 : Below w.heap.size w (w.alloc (.cells #[.int .u32 (s.e : Nat), .int .i64 (s.a : Nat), .int .i64 (s.u : Nat)] 30)) := (Below.refl _ _).alloc (Nat.le_refl _) _
  have N0 := Whole.new w 30 #[.int .u32 (s.e : Nat), .int .i64 (s.a : Nat), .int .i64 (s.u : Nat)]
  go_enter Try.func4, Try.ntmps4
  go_wp2_with fail
  generalize w.alloc (.cells #[.int .u32 (s.e : Nat), .int .i64 (s.a : Nat), .int .i64 (s.u : Nat)] 30) = wA at *
  refine (awake8 _).mono ?_
  rintro r w1 ⟨rfl, b1⟩
  have N1 := N0.below b1 N0.lt
  have B1 := Lib.hid (below_next b0 b1)
  clear b0 b1 N0
  go_wp2_with fail
  refine (Law.new w 2 64 w1 B1.out (by omega) (by omega) (by omega) (by omega) [(w.heap.size, #[.int .u32 (s.e : Nat), .int .i64 (s.a : Nat), .int .i64 (s.u : Nat)])] (by simpa using N1)).mono ?_
  rintro r w2 ⟨p, rfl, l2⟩
  have L2 := Lib.hid l2
  clear l2 N1 B1
  obtain ⟨s0, s1, s2, sl, -⟩ := L2.out.at (g := w.heap.size) (a := .int .u32 (s.e : Nat)) (b := .int .i64 (s.a : Nat)) (c := .int .i64 (s.u : Nat)) (by simp)
  go_wp2_with fail
  refine (NB.out _).mono ?_
  rintro r w3 ⟨rfl, b3⟩
  have L3 := Lib.hid (L2.out.below b3)
  clear s0 s1 s2 sl b3 L2
  obtain ⟨s0, s1, s2, sl, -⟩ := L3.out.at (g := w.heap.size) (a := .int .u32 (s.e : Nat)) (b := .int .i64 (s.a : Nat)) (c := .int .i64 (s.u : Nat)) (by simp)
  have L4 := Lib.hid ((L3.out.push #[.int .u32 ((s.e : Int) + 1), .int .i64 (1 - (s.a : Int)), .int .i64 used]).push #[.int .u32 ((s.e : Int) + 1), .int .i64 (1 - (s.a : Int)), .int .i64 used])
  rw [World.size_alloc] at L4
  clear L3
  go_wp2_with fail
  refine (RF1.out _).mono ?_
  rintro r w4 ⟨rfl, b4⟩
  have L5 := Lib.hid (L4.out.below b4)
  clear s0 s1 s2 sl b4 L4
  obtain ⟨s0, s1, s2, sl, -⟩ := L5.out.at (g := w.heap.size) (a := .int .u32 (s.e : Nat)) (b := .int .i64 (s.a : Nat)) (c := .int .i64 (s.u : Nat)) (by simp)
  obtain ⟨n0, n1, n2, nl, -⟩ := L5.out.at (g := w3.heap.size) (a := .int .u32 ((s.e : Int) + 1)) (b := .int .i64 (1 - (s.a : Int))) (c := .int .i64 used) (by simp)
  obtain ⟨v0, v1, v2, vl, -⟩ := L5.out.at (g := w3.heap.size + 1) (a := .int .u32 ((s.e : Int) + 1)) (b := .int .i64 (1 - (s.a : Int))) (c := .int .i64 used) (by simp)
  go_wp2_with fail
  refine (RW1.out _).mono ?_
  rintro r w5 ⟨rfl, b5⟩
  have L6 := Lib.hid (L5.out.below b5)
  clear s0 s1 s2 sl n0 n1 n2 nl v0 v1 v2 vl b5 L5
  obtain ⟨s0, s1, s2, sl, -⟩ := L6.out.at (g := w.heap.size) (a := .int .u32 (s.e : Nat)) (b := .int .i64 (s.a : Nat)) (c := .int .i64 (s.u : Nat)) (by simp)
  obtain ⟨n0, n1, n2, nl, -⟩ := L6.out.at (g := w3.heap.size) (a := .int .u32 ((s.e : Int) + 1)) (b := .int .i64 (1 - (s.a : Int))) (c := .int .i64 used) (by simp)
  obtain ⟨v0, v1, v2, vl, -⟩ := L6.out.at (g := w3.heap.size + 1) (a := .int .u32 ((s.e : Int) + 1)) (b := .int .i64 (1 - (s.a : Int))) (c := .int .i64 used) (by simp)
  go_wp2_with fail
  refine (PS.out _ _ _ L6).mono ?_
  rintro r w6 ⟨rfl, st6, o6, c6⟩
  have L7 := Lib.hid (L6.out.still st6 o6)
  have C6 := Lib.hid c6
  clear s0 s1 s2 sl n0 n1 n2 nl v0 v1 v2 vl st6 o6 c6 L6 PS
  obtain ⟨s0, s1, s2, sl, -⟩ := L7.out.at (g := w.heap.size) (a := .int .u32 (s.e : Nat)) (b := .int .i64 (s.a : Nat)) (c := .int .i64 (s.u : Nat)) (by simp)
  obtain ⟨n0, n1, n2, nl, -⟩ := L7.out.at (g := w3.heap.size) (a := .int .u32 ((s.e : Int) + 1)) (b := .int .i64 (1 - (s.a : Int))) (c := .int .i64 used) (by simp)
  have PN : Hid (∀ (W : World) (p : Nat) (m : Mod) (o : Hid (OwnD w W p (m.fuseTo ((2 : Nat) : Int)))) (hc : Hid (Calm m 2 64 (0 + 2) (upd (fun _ => []) (s.e % 2) s.bytes))), Calls Try.prog 10 #[.pointer (some ⟨p, 0, none⟩), sup ((s.e : Int) + 1) (1 - s.a) used] W fun e w' => e = .returned (.int .i64 0) ∧ Still W w' ∧ ∃ m', OwnD w w' p m' ∧ m'.waits ≤ 1000000 ∧ Hid (Calm (m'.crash x) 2 64 (0 + 2 + 2) (behind (upd (fun _ => []) (s.e % 2) s.bytes) (t.e % 2) t.bytes 2 x))) :=
    Lib.hid (fun W p m o hc => by
      have h := put_fused 2 (by omega) o.out hc.out (by omega) (by omega) (by omega) t ht
      rw [hnv] at h
      refine h.mono ?_
      rintro e w' ⟨rfl, h1, m', h2, h3, h4⟩
      exact ⟨rfl, h1, m', h2, h3, Lib.hid (h4 x)⟩)
  have GT : Hid (∀ (W : World) (p : Nat) (m : Mod) (o : Hid (OwnD w W p m)) (hc : Hid (Calm m 2 64 (0 + 2 + 2) (behind (upd (fun _ => []) (s.e % 2) s.bytes) (t.e % 2) t.bytes 2 x))), Calls Try.prog 8 #[.pointer (some ⟨p, 0, none⟩)] W fun e w' => e = .returned (.tuple #[sup ((s.e : Int) + 1) (1 - s.a) used, .int .i64 0]) ∧ Below W.heap.size W w') :=
    Lib.hid (fun W p m o hc => by
      have h := get_calm o.out hc.out (by omega) (by omega) (by omega)
      rw [behind_get s t hs ht hte 2 x, if_pos (by omega)] at h
      simp only [newV, toldC] at h
      rw [hnv] at h
      exact h.mono fun _ _ hh => ⟨hh.1, hh.2.1⟩)
  have FU : Hid (∀ (W : World) (p : Nat) (m : Mod) (o : Hid (OwnD w W p m)), Calls Try.prog 17 #[.pointer (some ⟨p, 0, none⟩), .int .i64 2] W fun e w' => (∃ v, e = .returned v) ∧ Still W w' ∧ OwnD w w' p (m.fuseTo ((2 : Nat) : Int))) := Lib.hid (fun W p m o => fuse_calm o.out 2)
  have CR := Lib.hid (fun (W : World) (p : Nat) (m : Mod) (o : Hid (OwnD w W p m)) (hw : m.waits ≤ 1000000) => crash_any o.out hw x hx)
  clear hs ht hte hnv hf
  go_wp2_with fail
  refine (FU.out _ _ _ (Lib.hid L7.out.1)).mono ?_
  rintro r w7 ⟨⟨v7, rfl⟩, st7, o7⟩
  have L8 := Lib.hid (L7.out.still st7 o7)
  clear s0 s1 s2 sl n0 n1 n2 nl st7 o7 L7 hK
  obtain ⟨s0, s1, s2, sl, -⟩ := L8.out.at (g := w.heap.size) (a := .int .u32 (s.e : Nat)) (b := .int .i64 (s.a : Nat)) (c := .int .i64 (s.u : Nat)) (by simp)
  obtain ⟨n0, n1, n2, nl, -⟩ := L8.out.at (g := w3.heap.size) (a := .int .u32 ((s.e : Int) + 1)) (b := .int .i64 (1 - (s.a : Int))) (c := .int .i64 used) (by simp)
  go_wp2_with fail
  refine (PN.out _ _ _ (Lib.hid L8.out.1) C6).mono ?_
  rintro r w8 ⟨rfl, st8, m8, o8, hw8, C8⟩
  have L9 := Lib.hid (L8.out.still st8 o8)
  clear s0 s1 s2 sl n0 n1 n2 nl st8 o8 L8 PN FU C6
  go_wp2_with fail
  refine (CR.out _ _ _ (Lib.hid L9.out.1) hw8).mono ?_
  rintro r w9 ⟨⟨v9, rfl⟩, st9, o9⟩
  have L10 := Lib.hid (L9.out.still st9 o9)
  clear st9 o9 L9 CR hw8
  go_wp2_with fail
  refine (GT.out _ _ _ (Lib.hid L10.out.1) C8).mono ?_
  rintro r w10 ⟨rfl, b10⟩
  have L11 := Lib.hid (L10.out.below b10)
  clear b10 L10 GT C8
  obtain ⟨s0, s1, s2, sl, -⟩ := L11.out.at (g := w.heap.size) (a := .int .u32 (s.e : Nat)) (b := .int .i64 (s.a : Nat)) (c := .int .i64 (s.u : Nat)) (by simp)
  obtain ⟨n0, n1, n2, nl, -⟩ := L11.out.at (g := w3.heap.size) (a := .int .u32 ((s.e : Int) + 1)) (b := .int .i64 (1 - (s.a : Int))) (c := .int .i64 used) (by simp)
  go_wp2_with fail
  go_ret
  exact ⟨rfl, L11.out.1.bel.alloc L11.out.1.bel.size _⟩
set_option maxRecDepth 100000 in
set_option maxHeartbeats 1000000 in
theorem lasts_3 (s t : Sup) (hs : s.Ok) (ht : t.Ok) (used : Int) (hte : t.e = s.e + 1) (hnv : t.v = sup ((s.e : Int) + 1) (1 - s.a) used) (f : Int) (hK : (wrap64 f).tmod 4 = 3) (x : Nat) (hx : x < 18446744073709551616) (hf : fitsB ((s.e : Int) + 1) (1 - s.a) used = true) (w : World) : Calls Try.prog 4 #[s.v, .int .i64 used, .int .u8 f, .int .u64 (x : Nat)] w fun r w' => r = .returned (.bool true) ∧ Below w.heap.size w w' := by
  have h1 := hs.e; have h2 := hs.a; have h3 := hs.u
  have hlt : s.e < 2147483648 := by simp only [fitsB, decide_eq_true_eq] at hf; omega
  have RF := refFits_any s.e s.a s.u
  rw [hs.fits] at RF
  have RF1 := Lib.hid RF
  have RW := refFits_any ((s.e : Int) + 1) (1 - s.a) used
  rw [hf] at RW
  have RW1 := Lib.hid RW
  have NB := Lib.hid (fun W => next_yes s hs used W hf)
  have hmi : ((s.e : Int) == 2147483648) = false := by simp; omega
  have PS := Lib.hid (fun (W : World) (p : Nat) (L : List (Nat × Array Value)) (o : Hid (Law w W p (Mod.new 2 64) L)) => put_calm o.out.1 (Calm.new 2 64) (by omega) (by omega) (by omega) s hs)
  clear RF RW
  have b0 : Below w.heap.size w (w.alloc (.cells #[.int .u32 (s.e : Nat), .int .i64 (s.a : Nat), .int .i64 (s.u : Nat)] 30)) := (Below.refl _ _).alloc (Nat.le_refl _) _
  have N0 := Whole.new w 30 #[.int .u32 (s.e : Nat), .int .i64 (s.a : Nat), .int .i64 (s.u : Nat)]
  go_enter Try.func4, Try.ntmps4
  go_wp2_with fail
  generalize w.alloc (.cells #[.int .u32 (s.e : Nat), .int .i64 (s.a : Nat), .int .i64 (s.u : Nat)] 30) = wA at *
  refine (awake8 _).mono ?_
  rintro r w1 ⟨rfl, b1⟩
  have N1 := N0.below b1 N0.lt
  have B1 := Lib.hid (below_next b0 b1)
  clear b0 b1 N0
  go_wp2_with fail
  refine (Law.new w 2 64 w1 B1.out (by omega) (by omega) (by omega) (by omega) [(w.heap.size, #[.int .u32 (s.e : Nat), .int .i64 (s.a : Nat), .int .i64 (s.u : Nat)])] (by simpa using N1)).mono ?_
  rintro r w2 ⟨p, rfl, l2⟩
  have L2 := Lib.hid l2
  clear l2 N1 B1
  obtain ⟨s0, s1, s2, sl, -⟩ := L2.out.at (g := w.heap.size) (a := .int .u32 (s.e : Nat)) (b := .int .i64 (s.a : Nat)) (c := .int .i64 (s.u : Nat)) (by simp)
  go_wp2_with fail
  refine (NB.out _).mono ?_
  rintro r w3 ⟨rfl, b3⟩
  have L3 := Lib.hid (L2.out.below b3)
  clear s0 s1 s2 sl b3 L2
  obtain ⟨s0, s1, s2, sl, -⟩ := L3.out.at (g := w.heap.size) (a := .int .u32 (s.e : Nat)) (b := .int .i64 (s.a : Nat)) (c := .int .i64 (s.u : Nat)) (by simp)
  have L4 := Lib.hid ((L3.out.push #[.int .u32 ((s.e : Int) + 1), .int .i64 (1 - (s.a : Int)), .int .i64 used]).push #[.int .u32 ((s.e : Int) + 1), .int .i64 (1 - (s.a : Int)), .int .i64 used])
  rw [World.size_alloc] at L4
  clear L3
  go_wp2_with fail
  refine (RF1.out _).mono ?_
  rintro r w4 ⟨rfl, b4⟩
  have L5 := Lib.hid (L4.out.below b4)
  clear s0 s1 s2 sl b4 L4
  obtain ⟨s0, s1, s2, sl, -⟩ := L5.out.at (g := w.heap.size) (a := .int .u32 (s.e : Nat)) (b := .int .i64 (s.a : Nat)) (c := .int .i64 (s.u : Nat)) (by simp)
  obtain ⟨n0, n1, n2, nl, -⟩ := L5.out.at (g := w3.heap.size) (a := .int .u32 ((s.e : Int) + 1)) (b := .int .i64 (1 - (s.a : Int))) (c := .int .i64 used) (by simp)
  obtain ⟨v0, v1, v2, vl, -⟩ := L5.out.at (g := w3.heap.size + 1) (a := .int .u32 ((s.e : Int) + 1)) (b := .int .i64 (1 - (s.a : Int))) (c := .int .i64 used) (by simp)
  go_wp2_with fail
  refine (RW1.out _).mono ?_
  rintro r w5 ⟨rfl, b5⟩
  have L6 := Lib.hid (L5.out.below b5)
  clear s0 s1 s2 sl n0 n1 n2 nl v0 v1 v2 vl b5 L5
  obtain ⟨s0, s1, s2, sl, -⟩ := L6.out.at (g := w.heap.size) (a := .int .u32 (s.e : Nat)) (b := .int .i64 (s.a : Nat)) (c := .int .i64 (s.u : Nat)) (by simp)
  obtain ⟨n0, n1, n2, nl, -⟩ := L6.out.at (g := w3.heap.size) (a := .int .u32 ((s.e : Int) + 1)) (b := .int .i64 (1 - (s.a : Int))) (c := .int .i64 used) (by simp)
  obtain ⟨v0, v1, v2, vl, -⟩ := L6.out.at (g := w3.heap.size + 1) (a := .int .u32 ((s.e : Int) + 1)) (b := .int .i64 (1 - (s.a : Int))) (c := .int .i64 used) (by simp)
  go_wp2_with fail
  refine (PS.out _ _ _ L6).mono ?_
  rintro r w6 ⟨rfl, st6, o6, c6⟩
  have L7 := Lib.hid (L6.out.still st6 o6)
  have C6 := Lib.hid c6
  clear s0 s1 s2 sl n0 n1 n2 nl v0 v1 v2 vl st6 o6 c6 L6 PS
  obtain ⟨s0, s1, s2, sl, -⟩ := L7.out.at (g := w.heap.size) (a := .int .u32 (s.e : Nat)) (b := .int .i64 (s.a : Nat)) (c := .int .i64 (s.u : Nat)) (by simp)
  obtain ⟨n0, n1, n2, nl, -⟩ := L7.out.at (g := w3.heap.size) (a := .int .u32 ((s.e : Int) + 1)) (b := .int .i64 (1 - (s.a : Int))) (c := .int .i64 used) (by simp)
  have PN : Hid (∀ (W : World) (p : Nat) (m : Mod) (o : Hid (OwnD w W p (m.fuseTo ((3 : Nat) : Int)))) (hc : Hid (Calm m 2 64 (0 + 2) (upd (fun _ => []) (s.e % 2) s.bytes))), Calls Try.prog 10 #[.pointer (some ⟨p, 0, none⟩), sup ((s.e : Int) + 1) (1 - s.a) used] W fun e w' => e = .returned (.int .i64 0) ∧ Still W w' ∧ ∃ m', OwnD w w' p m' ∧ m'.waits ≤ 1000000 ∧ Hid (Calm (m'.crash x) 2 64 (0 + 2 + 2) (behind (upd (fun _ => []) (s.e % 2) s.bytes) (t.e % 2) t.bytes 3 x))) :=
    Lib.hid (fun W p m o hc => by
      have h := put_fused 3 (by omega) o.out hc.out (by omega) (by omega) (by omega) t ht
      rw [hnv] at h
      refine h.mono ?_
      rintro e w' ⟨rfl, h1, m', h2, h3, h4⟩
      exact ⟨rfl, h1, m', h2, h3, Lib.hid (h4 x)⟩)
  have GT : Hid (∀ (W : World) (p : Nat) (m : Mod) (o : Hid (OwnD w W p m)) (hc : Hid (Calm m 2 64 (0 + 2 + 2) (behind (upd (fun _ => []) (s.e % 2) s.bytes) (t.e % 2) t.bytes 3 x))), Calls Try.prog 8 #[.pointer (some ⟨p, 0, none⟩)] W fun e w' => e = .returned (.tuple #[sup ((s.e : Int) + 1) (1 - s.a) used, .int .i64 0]) ∧ Below W.heap.size W w') :=
    Lib.hid (fun W p m o hc => by
      have h := get_calm o.out hc.out (by omega) (by omega) (by omega)
      rw [behind_get s t hs ht hte 3 x, if_pos (by omega)] at h
      simp only [newV, toldC] at h
      rw [hnv] at h
      exact h.mono fun _ _ hh => ⟨hh.1, hh.2.1⟩)
  have FU : Hid (∀ (W : World) (p : Nat) (m : Mod) (o : Hid (OwnD w W p m)), Calls Try.prog 17 #[.pointer (some ⟨p, 0, none⟩), .int .i64 3] W fun e w' => (∃ v, e = .returned v) ∧ Still W w' ∧ OwnD w w' p (m.fuseTo ((3 : Nat) : Int))) := Lib.hid (fun W p m o => fuse_calm o.out 3)
  have CR := Lib.hid (fun (W : World) (p : Nat) (m : Mod) (o : Hid (OwnD w W p m)) (hw : m.waits ≤ 1000000) => crash_any o.out hw x hx)
  clear hs ht hte hnv hf
  go_wp2_with fail
  refine (FU.out _ _ _ (Lib.hid L7.out.1)).mono ?_
  rintro r w7 ⟨⟨v7, rfl⟩, st7, o7⟩
  have L8 := Lib.hid (L7.out.still st7 o7)
  clear s0 s1 s2 sl n0 n1 n2 nl st7 o7 L7 hK
  obtain ⟨s0, s1, s2, sl, -⟩ := L8.out.at (g := w.heap.size) (a := .int .u32 (s.e : Nat)) (b := .int .i64 (s.a : Nat)) (c := .int .i64 (s.u : Nat)) (by simp)
  obtain ⟨n0, n1, n2, nl, -⟩ := L8.out.at (g := w3.heap.size) (a := .int .u32 ((s.e : Int) + 1)) (b := .int .i64 (1 - (s.a : Int))) (c := .int .i64 used) (by simp)
  go_wp2_with fail
  refine (PN.out _ _ _ (Lib.hid L8.out.1) C6).mono ?_
  rintro r w8 ⟨rfl, st8, m8, o8, hw8, C8⟩
  have L9 := Lib.hid (L8.out.still st8 o8)
  clear s0 s1 s2 sl n0 n1 n2 nl st8 o8 L8 PN FU C6
  go_wp2_with fail
  refine (CR.out _ _ _ (Lib.hid L9.out.1) hw8).mono ?_
  rintro r w9 ⟨⟨v9, rfl⟩, st9, o9⟩
  have L10 := Lib.hid (L9.out.still st9 o9)
  clear st9 o9 L9 CR hw8
  go_wp2_with fail
  refine (GT.out _ _ _ (Lib.hid L10.out.1) C8).mono ?_
  rintro r w10 ⟨rfl, b10⟩
  have L11 := Lib.hid (L10.out.below b10)
  clear b10 L10 GT C8
  obtain ⟨s0, s1, s2, sl, -⟩ := L11.out.at (g := w.heap.size) (a := .int .u32 (s.e : Nat)) (b := .int .i64 (s.a : Nat)) (c := .int .i64 (s.u : Nat)) (by simp)
  obtain ⟨n0, n1, n2, nl, -⟩ := L11.out.at (g := w3.heap.size) (a := .int .u32 ((s.e : Int) + 1)) (b := .int .i64 (1 - (s.a : Int))) (c := .int .i64 used) (by simp)
  go_wp2_with fail
  go_ret
  exact ⟨rfl, L11.out.1.bel.alloc L11.out.1.bel.size _⟩
end Go.Proofs.Ytjoenmmjpmnkfaa
