/- SuperPuts walked. -/
import Derived.Test.YtjoenmmjpmnkfaaUY
namespace Go.Proofs.Ytjoenmmjpmnkfaa
open Go.RowKit
theorem conv_zeros (size : Nat) (W : World) (g : Nat) (h : BB W g (zeros size)) : Sem.run Try.prog (convert 33 9 (.slice (some ⟨g, 0, none⟩) size size)) W = .ok (.string ⟨(zeros size).toArray⟩) W := by
  have := conv_bytes h.holds0 size
  rw [show (zeros size).length = size by simp [zeros]] at this
  exact this
/-- what holds between two rounds: the disk's two sectors, and the law's two strings. -/
structure PInv (w W : World) (p g size D : Nat) (m : Mod) (c : Nat → List UInt8) : Prop where
  own : OwnD w W p m
  calm : Calm m 2 size D c
  two : Whole W g 34 #[.string ⟨(pad size (c 0)).toArray⟩, .string ⟨(pad size (c 1)).toArray⟩]
  len : ∀ k, (c k).length ≤ size
theorem PInv.below {w W W' : World} {p g size D : Nat} {m : Mod} {c : Nat → List UInt8} (h : PInv w W p g size D m c) (hb : Below W.heap.size W W') : PInv w W' p g size D m c := ⟨h.own.below hb, h.calm, h.two.below hb h.two.lt, h.len⟩
theorem PInv.mono {w W : World} {p g size D D' : Nat} {m : Mod} {c : Nat → List UInt8} (h : PInv w W p g size D m c) (hD : D ≤ D') : PInv w W p g size D' m c := ⟨h.own, h.calm.mono hD, h.two, h.len⟩
theorem PInv.cells {w W : World} {p g size D : Nat} {m : Mod} {c : Nat → List UInt8} (h : PInv w W p g size D m c) : W.cell? ⟨g, 0, none⟩ = some (.string ⟨(pad size (c 0)).toArray⟩) ∧ W.cell? ⟨g, 1, none⟩ = some (.string ⟨(pad size (c 1)).toArray⟩) ∧ g < W.heap.size ∧ W.frozen? ⟨g, 0, none⟩ = false ∧ W.frozen? ⟨g, 1, none⟩ = false := by
  have h0 := h.two.cell 0
  have h1 := h.two.cell 1
  simp only [List.getElem?_toArray, List.getElem?_cons_zero, List.getElem?_cons_succ] at h0 h1
  exact ⟨h0, h1, h.two.lt, h.two.frozen 0, h.two.frozen 1⟩
theorem PInv.gets {w : World} {p g size D : Nat} {m : Mod} {c : Nat → List UInt8} (h1 : 64 ≤ size) (h2 : size ≤ 1024) (hlen : ∀ k, (c k).length ≤ size) : ∃ (x : Sup) (okb : Bool) (hc : Int),
    (∀ (W : World) (_ : Hid (PInv w W p g size D m c)), Calls Try.prog 8 #[.pointer (some ⟨p, 0, none⟩)] W fun e w' => e = .returned (.tuple #[x.v, .int .i64 hc]) ∧ Below W.heap.size W w') ∧
    (∀ (W : World), Calls Try.prog 13 #[.string ⟨(pad size (c 0)).toArray⟩, .string ⟨(pad size (c 1)).toArray⟩] W fun e w' => e = .returned (.tuple #[x.v, .bool okb]) ∧ Below W.heap.size W w') ∧
    ((okb = true ∧ hc = 0) ∨ (okb = false ∧ hc = 11)) := by
  have e : getL (pad size (c 0)) (pad size (c 1)) = getC size c := rfl
  have l0 := pad_length size (c 0) (hlen 0)
  have l1 := pad_length size (c 1) (hlen 1)
  have R := fun W => refGet_any (pad size (c 0)) (pad size (c 1)) W (by omega) (by omega) (by omega) (by omega)
  rw [e] at R
  have G := fun (W : World) (I : Hid (PInv w W p g size D m c)) => get_calm I.out.own I.out.calm (by omega) h1 h2
  cases ho : getC size c with
  | none =>
    rw [ho] at R G
    exact ⟨⟨0, 0, 0⟩, false, 11, fun W I => (G W I).mono fun _ _ hh => ⟨hh.1, hh.2.1⟩, R, .inr ⟨rfl, rfl⟩⟩
  | some x =>
    rw [ho] at R G
    exact ⟨x, true, 0, fun W I => (G W I).mono fun _ _ hh => ⟨hh.1, hh.2.1⟩, R, .inl ⟨rfl, rfl⟩⟩
theorem OwnD.store_two {w W : World} {p g : Nat} {m : Mod} {cs : Array Value} (o : OwnD w W p m) (h : Whole W g 34 cs) (hg : w.heap.size ≤ g) (k : Nat) (u : Value) : OwnD w (W.setCell ⟨g, k, none⟩ u) p m := by
  obtain ⟨F, h1, h2, h3⟩ := o
  refine ⟨F, h1.touch (G := [g]) ((Touch.refl [g] W).setCell (.inl (by simp)) u) (fun j hj e => ?_) (fun j hb e => ?_), h2, h3.setCell (p := ⟨g, k, none⟩) hg u⟩
  · rw [List.mem_singleton] at e
    subst e
    exact h1.not_kind h (by decide) (by decide) (by decide) hj
  · rw [List.mem_singleton] at e
    subst e
    obtain ⟨c, z, hc⟩ := hb
    rw [Whole] at h
    rw [h] at hc
    injection hc with hc
    injection hc with _ ht
    exact absurd ht (by decide)
theorem PInv.put {w W : World} {p g size D e k : Nat} {m : Mod} {c : Nat → List UInt8} {b : List UInt8} (o : OwnD w W p m) (hc : Calm m 2 size D (upd c (e % 2) b)) (h : Whole W g 34 #[.string ⟨(pad size (c 0)).toArray⟩, .string ⟨(pad size (c 1)).toArray⟩]) (hl : ∀ k, (upd c (e % 2) b k).length ≤ size) (hk2 : k < 2) (hk : e % 2 = k) (hg : w.heap.size ≤ g) :
    PInv w (W.setCell ⟨g, k, none⟩ (.string ⟨(pad size b).toArray⟩)) p g size D m (upd c (e % 2) b) := by
  refine ⟨o.store_two h hg k _, hc, ?_, hl⟩
  have := Whole.set_ h k (.string ⟨(pad size b).toArray⟩)
  rw [hk]
  rcases (by omega : k = 0 ∨ k = 1) with rfl | rfl <;> exact this
/-- the cells that the last test of a round reads. -/
def PS (wT : World) (g gx gt : Nat) (P0 P1 : ByteArray) (e a u : Int) (W : World) : Prop := W.cell? ⟨g, 0, none⟩ = some (.string P0) ∧ W.cell? ⟨g, 1, none⟩ = some (.string P1) ∧ W.cell? ⟨gx, 0, none⟩ = some (.int .u32 e) ∧ W.cell? ⟨gx, 1, none⟩ = some (.int .i64 a) ∧ W.cell? ⟨gx, 2, none⟩ = some (.int .i64 u) ∧ W.cell? ⟨gt, 0, none⟩ = some (.int .u32 e) ∧ W.cell? ⟨gt, 1, none⟩ = some (.int .i64 a) ∧ W.cell? ⟨gt, 2, none⟩ = some (.int .i64 u) ∧ g < W.heap.size ∧ gx < W.heap.size ∧ gt < W.heap.size ∧ Below wT.heap.size wT W
theorem PS.on {wT W W' : World} {g gx gt : Nat} {P0 P1 : ByteArray} {e a u : Int} (h : PS wT g gx gt P0 P1 e a u W) (hb : Below W.heap.size W W') : PS wT g gx gt P0 P1 e a u W' := by
  obtain ⟨h0, h1, x0, x1, x2, t0, t1, t2, l0, l1, l2, hB⟩ := h
  exact ⟨(hb.cell (p := ⟨g, 0, none⟩) l0).trans h0, (hb.cell (p := ⟨g, 1, none⟩) l0).trans h1, (hb.cell (p := ⟨gx, 0, none⟩) l1).trans x0, (hb.cell (p := ⟨gx, 1, none⟩) l1).trans x1, (hb.cell (p := ⟨gx, 2, none⟩) l1).trans x2, (hb.cell (p := ⟨gt, 0, none⟩) l2).trans t0, (hb.cell (p := ⟨gt, 1, none⟩) l2).trans t1, (hb.cell (p := ⟨gt, 2, none⟩) l2).trans t2, Nat.lt_of_lt_of_le l0 hb.size, Nat.lt_of_lt_of_le l1 hb.size, Nat.lt_of_lt_of_le l2 hb.size, below_next hB hb⟩
theorem PInv.reads {w wT : World} {p g size D : Nat} {m : Mod} {c : Nat → List UInt8} (h : PInv w wT p g size D m c) (k : Nat) (hk : k < 2) (W : World) (hb : Below wT.heap.size wT W) :
    Calls Try.prog 14 #[.pointer (some ⟨p, 0, none⟩), .int .i64 (k : Nat)] W fun e w' => ∃ g', e = .returned (.slice (some ⟨g', 0, none⟩) size size) ∧ Sem.run Try.prog (convert 33 9 (.slice (some ⟨g', 0, none⟩) size size)) w' = .ok (.string ⟨(pad size (c k)).toArray⟩) w' ∧ Below W.heap.size W w' :=
  (lawRead (h.below hb).own (h.below hb).calm k hk).mono fun e w' ⟨g', h1, h2, h3, h4⟩ => ⟨g', h1, by
    have := conv_bytes h2.holds0 size
    rw [h3] at this
    exact this, h4⟩
theorem PInv.waits {w wT : World} {p g size D : Nat} {m : Mod} {c : Nat → List UInt8} (h : PInv w wT p g size D m c) (W : World) (hb : Below wT.heap.size wT W) : Calls Try.prog 15 #[.pointer (some ⟨p, 0, none⟩)] W fun e w' => e = .returned (.int .i64 0) ∧ w' = W := by
  have hw := (h.below hb).own.waits
  rw [h.calm.waits] at hw
  exact hw
set_option maxRecDepth 100000 in
set_option maxHeartbeats 2000000 in
theorem puts_few (a : Option Addr) (cap : Nat) (l : List TriS) (hl : l.length ≤ 40) (size : Nat) (h1 : 64 ≤ size) (h2 : size ≤ 1024) (w : World) (hA : CameS w a l) : Calls Try.prog 3 #[.int .i64 (size : Nat), .slice a l.length cap] w fun e w' => e = .returned (.bool true) ∧ Below w.heap.size w w' := by
  have hli : ((l.length : Nat) : Int) ≤ (40 : Int) := by omega
  have G0 : Hid (∀ (W : World) (p : Nat) (o : Hid (OwnD w W p (Mod.new 2 size))), Calls Try.prog 8 #[.pointer (some ⟨p, 0, none⟩)] W fun e w' => e = .returned (.tuple #[sup 0 0 0, .int .i64 11]) ∧ Below W.heap.size W w') :=
    Lib.hid (fun W p o => by
      have h := get_calm o.out (Calm.new 2 size) (by omega) h1 h2
      have e : getC size (fun _ => []) = none := by unfold getC; rw [sK_nil (by omega) rfl, sK_nil (by omega) rfl]; rfl
      rw [e] at h
      exact h.mono fun _ _ hh => ⟨hh.1, hh.2.1⟩)
  have MK := fun W => make_bytes size (size : Int) rfl (by omega) W
  have CZ := conv_zeros size
  go_enter Try.func3, Try.ntmps3
  go_wp2_with fail
  refine (awake8 _).mono ?_
  rintro r w1 ⟨rfl, b1⟩
  have B1 := Lib.hid b1
  clear b1
  go_wp2_with fail
  refine (OwnD.new w 2 size w1 B1.out (by omega) (by omega) h1 h2).mono ?_
  rintro r w2 ⟨p, rfl, o2⟩
  have O2 := Lib.hid o2
  clear o2 B1
  go_wp2_with fail
  refine (G0.out _ _ O2).mono ?_
  rintro r w3 ⟨rfl, b3⟩
  have O3 := Lib.hid (O2.out.below b3)
  clear b3 O2 G0
  go_upto_region 9 with fail
  have O4 := Lib.hid (O3.out.below ((Below.refl _ _).alloc (Nat.le_refl _) (.cells #[.int .u32 0, .int .i64 0, .int .i64 0] 30)))
  generalize (w3.alloc (.cells #[.int .u32 0, .int .i64 0, .int .i64 0] 30)) = w4 at *
  clear O3
  go_cut [9] (fun s9 wc => ∃ g, s9 = .pointer (some ⟨g, 0, none⟩) ∧ w4.heap.size ≤ g ∧ Whole wc g 34 #[.string ⟨(zeros size).toArray⟩, .string ⟨(zeros size).toArray⟩] ∧ Below w4.heap.size w4 wc)
  case first =>
    have cvZ0 : Sem.run Try.prog (convert 33 9 (.slice (some ⟨w4.heap.size, 0, none⟩) size size)) (w4.alloc (.cells (encB (zeros size)).toArray 5)).drew = .ok (.string ⟨(zeros size).toArray⟩) (w4.alloc (.cells (encB (zeros size)).toArray 5)).drew := CZ _ _ (by have h := (Whole.new w4 5 (encB (zeros size)).toArray).drew; (try simp only [World.size_alloc] at h); exact h)
    have cvZZ0 : Sem.run Try.prog (convert 33 9 (.slice (some ⟨w4.heap.size, 0, none⟩) size size)) ((w4.alloc (.cells (encB (zeros size)).toArray 5)).alloc (.cells (encB (zeros size)).toArray 5)).drew = .ok (.string ⟨(zeros size).toArray⟩) ((w4.alloc (.cells (encB (zeros size)).toArray 5)).alloc (.cells (encB (zeros size)).toArray 5)).drew := CZ _ _ (by have h := ((Whole.new w4 5 (encB (zeros size)).toArray).alloc (.cells (encB (zeros size)).toArray 5)).drew; (try simp only [World.size_alloc] at h); exact h)
    have cvZZ1 : Sem.run Try.prog (convert 33 9 (.slice (some ⟨w4.heap.size + 1, 0, none⟩) size size)) ((w4.alloc (.cells (encB (zeros size)).toArray 5)).alloc (.cells (encB (zeros size)).toArray 5)).drew = .ok (.string ⟨(zeros size).toArray⟩) ((w4.alloc (.cells (encB (zeros size)).toArray 5)).alloc (.cells (encB (zeros size)).toArray 5)).drew := CZ _ _ (by have h := (Whole.new (w4.alloc (.cells (encB (zeros size)).toArray 5)) 5 (encB (zeros size)).toArray).drew; (try simp only [World.size_alloc] at h); exact h)
    have cvZM0 : Sem.run Try.prog (convert 33 9 (.slice (some ⟨w4.heap.size, 0, none⟩) size size)) ((w4.alloc (.cells (encB (zeros size)).toArray 5)).alloc (.cells #[.string ⟨#[]⟩, .string ⟨#[]⟩] 34)).drew = .ok (.string ⟨(zeros size).toArray⟩) ((w4.alloc (.cells (encB (zeros size)).toArray 5)).alloc (.cells #[.string ⟨#[]⟩, .string ⟨#[]⟩] 34)).drew := CZ _ _ (by have h := ((Whole.new w4 5 (encB (zeros size)).toArray).alloc (.cells #[.string ⟨#[]⟩, .string ⟨#[]⟩] 34)).drew; (try simp only [World.size_alloc] at h); exact h)
    have cvMZ1 : Sem.run Try.prog (convert 33 9 (.slice (some ⟨w4.heap.size + 1, 0, none⟩) size size)) ((w4.alloc (.cells #[.string ⟨#[]⟩, .string ⟨#[]⟩] 34)).alloc (.cells (encB (zeros size)).toArray 5)).drew = .ok (.string ⟨(zeros size).toArray⟩) ((w4.alloc (.cells #[.string ⟨#[]⟩, .string ⟨#[]⟩] 34)).alloc (.cells (encB (zeros size)).toArray 5)).drew := CZ _ _ (by have h := (Whole.new (w4.alloc (.cells #[.string ⟨#[]⟩, .string ⟨#[]⟩] 34)) 5 (encB (zeros size)).toArray).drew; (try simp only [World.size_alloc] at h); exact h)
    have cvZZM0 : Sem.run Try.prog (convert 33 9 (.slice (some ⟨w4.heap.size, 0, none⟩) size size)) (((w4.alloc (.cells (encB (zeros size)).toArray 5)).alloc (.cells (encB (zeros size)).toArray 5)).alloc (.cells #[.string ⟨#[]⟩, .string ⟨#[]⟩] 34)).drew = .ok (.string ⟨(zeros size).toArray⟩) (((w4.alloc (.cells (encB (zeros size)).toArray 5)).alloc (.cells (encB (zeros size)).toArray 5)).alloc (.cells #[.string ⟨#[]⟩, .string ⟨#[]⟩] 34)).drew := CZ _ _ (by have h := (((Whole.new w4 5 (encB (zeros size)).toArray).alloc (.cells (encB (zeros size)).toArray 5)).alloc (.cells #[.string ⟨#[]⟩, .string ⟨#[]⟩] 34)).drew; (try simp only [World.size_alloc] at h); exact h)
    have cvZZM1 : Sem.run Try.prog (convert 33 9 (.slice (some ⟨w4.heap.size + 1, 0, none⟩) size size)) (((w4.alloc (.cells (encB (zeros size)).toArray 5)).alloc (.cells (encB (zeros size)).toArray 5)).alloc (.cells #[.string ⟨#[]⟩, .string ⟨#[]⟩] 34)).drew = .ok (.string ⟨(zeros size).toArray⟩) (((w4.alloc (.cells (encB (zeros size)).toArray 5)).alloc (.cells (encB (zeros size)).toArray 5)).alloc (.cells #[.string ⟨#[]⟩, .string ⟨#[]⟩] 34)).drew := CZ _ _ (by have h := ((Whole.new (w4.alloc (.cells (encB (zeros size)).toArray 5)) 5 (encB (zeros size)).toArray).alloc (.cells #[.string ⟨#[]⟩, .string ⟨#[]⟩] 34)).drew; (try simp only [World.size_alloc] at h); exact h)
    have cvZMZ0 : Sem.run Try.prog (convert 33 9 (.slice (some ⟨w4.heap.size, 0, none⟩) size size)) (((w4.alloc (.cells (encB (zeros size)).toArray 5)).alloc (.cells #[.string ⟨#[]⟩, .string ⟨#[]⟩] 34)).alloc (.cells (encB (zeros size)).toArray 5)).drew = .ok (.string ⟨(zeros size).toArray⟩) (((w4.alloc (.cells (encB (zeros size)).toArray 5)).alloc (.cells #[.string ⟨#[]⟩, .string ⟨#[]⟩] 34)).alloc (.cells (encB (zeros size)).toArray 5)).drew := CZ _ _ (by have h := (((Whole.new w4 5 (encB (zeros size)).toArray).alloc (.cells #[.string ⟨#[]⟩, .string ⟨#[]⟩] 34)).alloc (.cells (encB (zeros size)).toArray 5)).drew; (try simp only [World.size_alloc] at h); exact h)
    have cvZMZ2 : Sem.run Try.prog (convert 33 9 (.slice (some ⟨w4.heap.size + 1 + 1, 0, none⟩) size size)) (((w4.alloc (.cells (encB (zeros size)).toArray 5)).alloc (.cells #[.string ⟨#[]⟩, .string ⟨#[]⟩] 34)).alloc (.cells (encB (zeros size)).toArray 5)).drew = .ok (.string ⟨(zeros size).toArray⟩) (((w4.alloc (.cells (encB (zeros size)).toArray 5)).alloc (.cells #[.string ⟨#[]⟩, .string ⟨#[]⟩] 34)).alloc (.cells (encB (zeros size)).toArray 5)).drew := CZ _ _ (by have h := (Whole.new ((w4.alloc (.cells (encB (zeros size)).toArray 5)).alloc (.cells #[.string ⟨#[]⟩, .string ⟨#[]⟩] 34)) 5 (encB (zeros size)).toArray).drew; (try simp only [World.size_alloc] at h); exact h)
    have cvMZZ1 : Sem.run Try.prog (convert 33 9 (.slice (some ⟨w4.heap.size + 1, 0, none⟩) size size)) (((w4.alloc (.cells #[.string ⟨#[]⟩, .string ⟨#[]⟩] 34)).alloc (.cells (encB (zeros size)).toArray 5)).alloc (.cells (encB (zeros size)).toArray 5)).drew = .ok (.string ⟨(zeros size).toArray⟩) (((w4.alloc (.cells #[.string ⟨#[]⟩, .string ⟨#[]⟩] 34)).alloc (.cells (encB (zeros size)).toArray 5)).alloc (.cells (encB (zeros size)).toArray 5)).drew := CZ _ _ (by have h := ((Whole.new (w4.alloc (.cells #[.string ⟨#[]⟩, .string ⟨#[]⟩] 34)) 5 (encB (zeros size)).toArray).alloc (.cells (encB (zeros size)).toArray 5)).drew; (try simp only [World.size_alloc] at h); exact h)
    have cvMZZ2 : Sem.run Try.prog (convert 33 9 (.slice (some ⟨w4.heap.size + 1 + 1, 0, none⟩) size size)) (((w4.alloc (.cells #[.string ⟨#[]⟩, .string ⟨#[]⟩] 34)).alloc (.cells (encB (zeros size)).toArray 5)).alloc (.cells (encB (zeros size)).toArray 5)).drew = .ok (.string ⟨(zeros size).toArray⟩) (((w4.alloc (.cells #[.string ⟨#[]⟩, .string ⟨#[]⟩] 34)).alloc (.cells (encB (zeros size)).toArray 5)).alloc (.cells (encB (zeros size)).toArray 5)).drew := CZ _ _ (by have h := (Whole.new ((w4.alloc (.cells #[.string ⟨#[]⟩, .string ⟨#[]⟩] 34)).alloc (.cells (encB (zeros size)).toArray 5)) 5 (encB (zeros size)).toArray).drew; (try simp only [World.size_alloc] at h); exact h)
    have FMZZ : Hid (Whole (((w4.alloc (.cells #[.string ⟨(zeros size).toArray⟩, .string ⟨(zeros size).toArray⟩] 34)).alloc (.cells (encB (zeros size)).toArray 5)).alloc (.cells (encB (zeros size)).toArray 5)).drew (w4.heap.size) 34 #[.string ⟨(zeros size).toArray⟩, .string ⟨(zeros size).toArray⟩] ∧ Below w4.heap.size w4 (((w4.alloc (.cells #[.string ⟨(zeros size).toArray⟩, .string ⟨(zeros size).toArray⟩] 34)).alloc (.cells (encB (zeros size)).toArray 5)).alloc (.cells (encB (zeros size)).toArray 5)).drew) := Lib.hid ⟨by have h := (((Whole.new w4 34 #[.string ⟨(zeros size).toArray⟩, .string ⟨(zeros size).toArray⟩]).alloc (.cells (encB (zeros size)).toArray 5)).alloc (.cells (encB (zeros size)).toArray 5)).drew; (try simp only [World.size_alloc] at h); exact h, ((((Below.refl w4.heap.size w4).alloc (by simp; try omega) (.cells #[.string ⟨(zeros size).toArray⟩, .string ⟨(zeros size).toArray⟩] 34)).alloc (by simp; try omega) (.cells (encB (zeros size)).toArray 5)).alloc (by simp; try omega) (.cells (encB (zeros size)).toArray 5)).drew⟩
    have FZMZ : Hid (Whole (((w4.alloc (.cells (encB (zeros size)).toArray 5)).alloc (.cells #[.string ⟨(zeros size).toArray⟩, .string ⟨(zeros size).toArray⟩] 34)).alloc (.cells (encB (zeros size)).toArray 5)).drew (w4.heap.size + 1) 34 #[.string ⟨(zeros size).toArray⟩, .string ⟨(zeros size).toArray⟩] ∧ Below w4.heap.size w4 (((w4.alloc (.cells (encB (zeros size)).toArray 5)).alloc (.cells #[.string ⟨(zeros size).toArray⟩, .string ⟨(zeros size).toArray⟩] 34)).alloc (.cells (encB (zeros size)).toArray 5)).drew) := Lib.hid ⟨by have h := ((Whole.new (w4.alloc (.cells (encB (zeros size)).toArray 5)) 34 #[.string ⟨(zeros size).toArray⟩, .string ⟨(zeros size).toArray⟩]).alloc (.cells (encB (zeros size)).toArray 5)).drew; (try simp only [World.size_alloc] at h); exact h, ((((Below.refl w4.heap.size w4).alloc (by simp; try omega) (.cells (encB (zeros size)).toArray 5)).alloc (by simp; try omega) (.cells #[.string ⟨(zeros size).toArray⟩, .string ⟨(zeros size).toArray⟩] 34)).alloc (by simp; try omega) (.cells (encB (zeros size)).toArray 5)).drew⟩
    have FZZM : Hid (Whole (((w4.alloc (.cells (encB (zeros size)).toArray 5)).alloc (.cells (encB (zeros size)).toArray 5)).alloc (.cells #[.string ⟨(zeros size).toArray⟩, .string ⟨(zeros size).toArray⟩] 34)).drew (w4.heap.size + 1 + 1) 34 #[.string ⟨(zeros size).toArray⟩, .string ⟨(zeros size).toArray⟩] ∧ Below w4.heap.size w4 (((w4.alloc (.cells (encB (zeros size)).toArray 5)).alloc (.cells (encB (zeros size)).toArray 5)).alloc (.cells #[.string ⟨(zeros size).toArray⟩, .string ⟨(zeros size).toArray⟩] 34)).drew) := Lib.hid ⟨by have h := (Whole.new ((w4.alloc (.cells (encB (zeros size)).toArray 5)).alloc (.cells (encB (zeros size)).toArray 5)) 34 #[.string ⟨(zeros size).toArray⟩, .string ⟨(zeros size).toArray⟩]).drew; (try simp only [World.size_alloc] at h); exact h, ((((Below.refl w4.heap.size w4).alloc (by simp; try omega) (.cells (encB (zeros size)).toArray 5)).alloc (by simp; try omega) (.cells (encB (zeros size)).toArray 5)).alloc (by simp; try omega) (.cells #[.string ⟨(zeros size).toArray⟩, .string ⟨(zeros size).toArray⟩] 34)).drew⟩
    clear CZ
    go_region_with (fail)
    all_goals
      go_wp2_with fail
      go_meet
      case rel =>
        first
          | exact ⟨_, by first | rfl | simp [Act.put], by omega, FMZZ.out⟩
          | exact ⟨_, by first | rfl | simp [Act.put], by omega, FZMZ.out⟩
          | exact ⟨_, by first | rfl | simp [Act.put], by omega, FZZM.out⟩
  case rest =>
    obtain ⟨g, rfl, hg, hM, hB⟩ := hcut
    have O5 := Lib.hid (O4.out.below hB)
    have M5 := Lib.hid hM
    have hg5 : w.heap.size ≤ g := Nat.le_trans O4.out.bel.size hg
    clear hM hB hg O4 MK CZ
    have I5 : Hid (PInv w wc p g size 0 (Mod.new 2 size) (fun _ => [])) := Lib.hid ⟨O5.out, Calm.new 2 size, M5.out, fun _ => by simp⟩
    clear O5 M5
    go_wp2_with fail
    go_loopg [10] 42 (fun j s10 wr => ∃ (i : Nat) (m : Mod) (c : Nat → List UInt8), i ≤ l.length ∧ 41 < i + j ∧ s10 = .int .i64 (i : Nat) ∧ PInv w wr p g size (2 * i) m c)
    case atStart => exact ⟨0, _, _, by omega, by omega, rfl, I5.out⟩
    case round =>
      obtain ⟨i, m, c, hi, hj, rfl, hI⟩ := hrel
      clear I5
      have HI := Lib.hid hI
      clear hI
      by_cases hlt : i < l.length
      · have hlti : (i : Int) < ((l.length : Nat) : Int) := by omega
        obtain ⟨ab, off, rfl, hab, c0, c1, c2⟩ := (hA.below HI.out.own.bel).cell i hlt
        have CC : Hid (∀ W, Below w.heap.size w W → W.cell? ⟨ab, off + i * 3, none⟩ = some (.int .u32 l[i].e) ∧ W.cell? ⟨ab, off + i * 3 + 1, none⟩ = some (.int .i64 l[i].a) ∧ W.cell? ⟨ab, off + i * 3 + 2, none⟩ = some (.int .i64 l[i].u)) := Lib.hid fun W hb => by
          obtain ⟨b', o', e', _, c'⟩ := (hA.below hb).cell i hlt
          cases e'
          exact c'
        have he0 := (hA.fits i hlt).1
        generalize l[i] = q at *
        obtain ⟨qe, qa, qu⟩ := q
        simp only at c0 c1 c2 CC he0
        cases hf : fitsB qe qa qu with
        | false =>
          have RF := Lib.hid (refFits_any qe qa qu)
          have FT := Lib.hid (fits_any qe qa qu)
          rw [hf] at RF FT
          have PB := Lib.hid (fun (W : World) (I : Hid (PInv w W p g size (2 * i) m c)) => put_bad I.out.own (by rw [I.out.calm.n]; omega) qe qa qu hf)
          clear hf
          go_wp2_with fail
          refine (RF.out _).mono ?_
          rintro r w5 ⟨rfl, b5⟩
          have I5 := Lib.hid (HI.out.below b5)
          clear b5 HI c0 c1 c2 RF
          obtain ⟨c0, c1, c2⟩ := CC.out _ I5.out.own.bel
          go_wp2_with fail
          refine (PB.out _ I5).mono ?_
          rintro r w6 ⟨rfl, -, b6⟩
          have I6 := Lib.hid (I5.out.below b6)
          clear b6 I5 PB c0 c1 c2
          obtain ⟨c0, c1, c2⟩ := CC.out _ I6.out.own.bel
          go_wp2_with fail
          refine (FT.out _).mono ?_
          rintro r w7 ⟨rfl, b7⟩
          have I7 := Lib.hid (I6.out.below b7)
          obtain ⟨x, okb, hc, gt, rt, hcase⟩ := I7.out.len |> PInv.gets (w := w) (p := p) (g := g) (D := 2 * i) (m := m) h1 h2
          have GT := Lib.hid gt
          have RT := Lib.hid rt
          clear b7 I6 FT c0 c1 c2 gt rt
          go_wp2_with fail
          refine (GT.out _ I7).mono ?_
          rintro r w8 ⟨rfl, b8⟩
          have I8 := Lib.hid (I7.out.below b8)
          obtain ⟨m0, m1, gl, -⟩ := I8.out.cells
          have XC : Hid (Vars w8 (w8.alloc (.cells #[.int .u32 (x.e : Nat), .int .i64 (x.a : Nat), .int .i64 (x.u : Nat)] 30)) [(w8.heap.size, #[.int .u32 (x.e : Nat), .int .i64 (x.a : Nat), .int .i64 (x.u : Nat)])]) := Lib.hid (Vars.push (L := []) ⟨Below.refl _ _, by simp⟩ _)
          clear b8 I7 GT
          go_wp2_with fail
          refine (RT.out _).mono ?_
          rintro r w9 ⟨rfl, b9⟩
          have X9 := Lib.hid (XC.out.below b9)
          have I9 := Lib.hid (I8.out.below X9.out.1)
          clear b9 I8 RT XC m0 m1 gl
          obtain ⟨m0, m1, gl, -⟩ := I9.out.cells
          obtain ⟨x0, x1, x2, xl, -⟩ := X9.out.at (g := w8.heap.size) (a := .int .u32 (x.e : Nat)) (b := .int .i64 (x.a : Nat)) (c := .int .i64 (x.u : Nat)) (by simp)
          go_wp2_with fail
          have T9 := (X9.out.push #[.int .u32 (x.e : Nat), .int .i64 (x.a : Nat), .int .i64 (x.u : Nat)])
          have PS9 : PS (w9.alloc (.cells #[.int .u32 (x.e : Nat), .int .i64 (x.a : Nat), .int .i64 (x.u : Nat)] 30)) g w8.heap.size w9.heap.size ⟨(pad size (c 0)).toArray⟩ ⟨(pad size (c 1)).toArray⟩ x.e x.a x.u (w9.alloc (.cells #[.int .u32 (x.e : Nat), .int .i64 (x.a : Nat), .int .i64 (x.u : Nat)] 30)) := by
            obtain ⟨y0, y1, y2, yl, -⟩ := T9.at (g := w8.heap.size) (a := .int .u32 (x.e : Nat)) (b := .int .i64 (x.a : Nat)) (c := .int .i64 (x.u : Nat)) (by simp)
            obtain ⟨t0, t1, t2, tl, -⟩ := T9.at (g := w9.heap.size) (a := .int .u32 (x.e : Nat)) (b := .int .i64 (x.a : Nat)) (c := .int .i64 (x.u : Nat)) (by simp)
            obtain ⟨q0, q1, ql, -⟩ := (I9.out.below ((Below.refl _ _).alloc (Nat.le_refl _) (.cells #[.int .u32 (x.e : Nat), .int .i64 (x.a : Nat), .int .i64 (x.u : Nat)] 30))).cells
            exact ⟨q0, q1, y0, y1, y2, t0, t1, t2, ql, yl, tl, Below.refl _ _⟩
          have IT := I9.out.below ((Below.refl _ _).alloc (Nat.le_refl _) (.cells #[.int .u32 (x.e : Nat), .int .i64 (x.a : Nat), .int .i64 (x.u : Nat)] 30))
          generalize (w9.alloc (.cells #[.int .u32 (x.e : Nat), .int .i64 (x.a : Nat), .int .i64 (x.u : Nat)] 30)) = wT at *
          have R0 : Hid (∀ (W : World) (_ : Below wT.heap.size wT W), Calls Try.prog 14 #[.pointer (some ⟨p, 0, none⟩), .int .i64 0] W fun e w' => ∃ g', e = .returned (.slice (some ⟨g', 0, none⟩) size size) ∧ Sem.run Try.prog (convert 33 9 (.slice (some ⟨g', 0, none⟩) size size)) w' = .ok (.string ⟨(pad size (c 0)).toArray⟩) w' ∧ Below W.heap.size W w') := Lib.hid (IT.reads 0 (by omega))
          have R1 : Hid (∀ (W : World) (_ : Below wT.heap.size wT W), Calls Try.prog 14 #[.pointer (some ⟨p, 0, none⟩), .int .i64 1] W fun e w' => ∃ g', e = .returned (.slice (some ⟨g', 0, none⟩) size size) ∧ Sem.run Try.prog (convert 33 9 (.slice (some ⟨g', 0, none⟩) size size)) w' = .ok (.string ⟨(pad size (c 1)).toArray⟩) w' ∧ Below W.heap.size W w') := Lib.hid (IT.reads 1 (by omega))
          have WA := Lib.hid IT.waits
          have ITH := Lib.hid IT
          have PD := Lib.hid (PS9.on (Below.refl _ _).drew)
          clear T9 PS9 IT X9 I9 x0 x1 x2 xl m0 m1 gl CC hA hab he0
          generalize (pad size (c 0)).toArray = P0 at *
          generalize (pad size (c 1)).toArray = P1 at *
          generalize w8.heap.size = gx at *
          generalize w9.heap.size = gt at *
          have B0 : Hid (Below wT.heap.size wT wT.drew) := Lib.hid (Below.refl _ _).drew
          rcases hcase with ⟨rfl, rfl⟩ | ⟨rfl, rfl⟩
          · refine wp_region_held_drew (S := fun W => PS wT g gx gt ⟨P0⟩ ⟨P1⟩ x.e x.a x.u W) (by kernel_rfl) PD.out (fun _ => ?_)
            refine wpAnyH_take (i := 0) (oi := { dst := some 111, op := Op.move (Operand.tmp 5), type := 24, pos := "law.go:51", after := #[], guard := none }) (v := ?_) rfl (by kernel_rfl) (by kernel_rfl) (by kernel_rfl) (fun _ _ _ h => h) (Or.inl ⟨by rfl, ?_⟩) PD.out ?_
            rotate_left
            · (intro w hw; obtain ⟨e0, e1, e2, e3, e4, e5, e6, e7, -⟩ := hw; go_simp; try with_reducible rfl)
            simp only [Act.put, List.setIfInBounds_toArray, List.set_cons_zero, List.set_cons_succ]
            refine wpAnyH_take (i := 3) (oi := { dst := some 114, op := Op.indexAddr 34 (Operand.tmp 9) (Operand.const (Value.int IntKind.i64 0)), type := 0, pos := "law.go:51", after := #[], guard := none }) (v := ?_) rfl (by kernel_rfl) (by kernel_rfl) (by kernel_rfl) (fun _ _ _ h => h) (Or.inl ⟨by rfl, ?_⟩) PD.out ?_
            rotate_left
            · (intro w hw; obtain ⟨e0, e1, e2, e3, e4, e5, e6, e7, -⟩ := hw; go_simp; try with_reducible rfl)
            simp only [Act.put, List.setIfInBounds_toArray, List.set_cons_zero, List.set_cons_succ]
            refine wpAnyH_take (i := 4) (oi := { dst := some 115, op := Op.load 9 (Operand.tmp 114), type := 9, pos := "law.go:51", after := #[{ on := 3, ground := Ground.data }], guard := none }) (v := ?_) rfl (by kernel_rfl) (by kernel_rfl) (by kernel_rfl) (fun _ _ _ h => h) (Or.inl ⟨by rfl, ?_⟩) PD.out ?_
            rotate_left
            · (intro w hw; obtain ⟨e0, e1, e2, e3, e4, e5, e6, e7, -⟩ := hw; go_simp; try with_reducible rfl)
            simp only [Act.put, List.setIfInBounds_toArray, List.set_cons_zero, List.set_cons_succ]
            refine wpAnyH_ready (rs := [1]) (by kernel_rfl) (by simp) ?_
            refine AllReadyH.cons (o := { dst := some 112, op := Op.call { callee := Callee.value (Operand.func 14), args := #[Operand.tmp 111, Operand.const (Value.int IntKind.i64 0)], argTypes := #[24, 3] }, type := 33, pos := "law.go:51", after := #[{ on := 0, ground := Ground.data }], guard := none }) rfl (fun K hK => ?_) AllReadyH.nil
            go_simp
            with_reducible refine (R0.out _ B0.out).mono ?_
            rintro r w10 ⟨g0, rfl, cv0, b10⟩
            have B1 := Lib.hid (below_next B0.out b10)
            have S1 := Lib.hid (PD.out.on b10)
            clear b10
            go_wp2_with fail
            refine hK.out _ _ S1.out (fun _ => ?_)
            clear hK K
            try simp only [Act.put, List.setIfInBounds_toArray, List.set_cons_zero, List.set_cons_succ]
            refine wpAnyH_ready (rs := [2]) (by kernel_rfl) (by simp) ?_
            refine AllReadyH.cons (o := { dst := some 113, op := Op.convert 33 9 (Operand.tmp 112), type := 9, pos := "law.go:51", after := #[{ on := 1, ground := Ground.data }], guard := none }) rfl (fun K hK => ?_) AllReadyH.nil
            go_simp
            refine hK.out _ _ S1.out (fun _ => ?_)
            clear hK K
            try simp only [Act.put, List.setIfInBounds_toArray, List.set_cons_zero, List.set_cons_succ]
            refine wpAnyH_take (i := 5) (oi := { dst := some 116, op := Op.binOp BinOp.neq 9 (Operand.tmp 113) (Operand.tmp 115) 9, type := 4, pos := "law.go:51", after := #[{ on := 2, ground := Ground.data }, { on := 4, ground := Ground.data }], guard := none }) (v := ?_) rfl (by kernel_rfl) (by kernel_rfl) (by kernel_rfl) (fun _ _ _ h => h) (Or.inl ⟨by rfl, ?_⟩) S1.out ?_
            rotate_left
            · (intro w hw; obtain ⟨e0, e1, e2, e3, e4, e5, e6, e7, -⟩ := hw; go_simp; try with_reducible rfl)
            simp only [Act.put, List.setIfInBounds_toArray, List.set_cons_zero, List.set_cons_succ]
            refine wpAnyH_take (i := 6) (oi := { dst := some 117, op := Op.move (Operand.tmp 116), type := 4, pos := "law.go:51", after := #[{ on := 5, ground := Ground.data }, { on := 1, ground := Ground.chain }], guard := none }) (v := ?_) rfl (by kernel_rfl) (by kernel_rfl) (by kernel_rfl) (fun _ _ _ h => h) (Or.inl ⟨by rfl, ?_⟩) S1.out ?_
            rotate_left
            · (intro w hw; obtain ⟨e0, e1, e2, e3, e4, e5, e6, e7, -⟩ := hw; go_simp; try with_reducible rfl)
            simp only [Act.put, List.setIfInBounds_toArray, List.set_cons_zero, List.set_cons_succ]
            refine wpAnyH_take (i := 7) (oi := { dst := some 118, op := Op.move (Operand.tmp 5), type := 24, pos := "law.go:51", after := #[{ on := 6, ground := Ground.guard }], guard := some (6, false) }) (v := ?_) rfl (by kernel_rfl) (by kernel_rfl) (by kernel_rfl) (fun _ _ _ h => h) (Or.inl ⟨by rfl, ?_⟩) S1.out ?_
            rotate_left
            · (intro w hw; obtain ⟨e0, e1, e2, e3, e4, e5, e6, e7, -⟩ := hw; go_simp; try with_reducible rfl)
            simp only [Act.put, List.setIfInBounds_toArray, List.set_cons_zero, List.set_cons_succ]
            refine wpAnyH_take (i := 10) (oi := { dst := some 121, op := Op.indexAddr 34 (Operand.tmp 9) (Operand.const (Value.int IntKind.i64 1)), type := 0, pos := "law.go:51", after := #[{ on := 6, ground := Ground.guard }], guard := some (6, false) }) (v := ?_) rfl (by kernel_rfl) (by kernel_rfl) (by kernel_rfl) (fun _ _ _ h => h) (Or.inl ⟨by rfl, ?_⟩) S1.out ?_
            rotate_left
            · (intro w hw; obtain ⟨e0, e1, e2, e3, e4, e5, e6, e7, -⟩ := hw; go_simp; try with_reducible rfl)
            simp only [Act.put, List.setIfInBounds_toArray, List.set_cons_zero, List.set_cons_succ]
            refine wpAnyH_take (i := 11) (oi := { dst := some 122, op := Op.load 9 (Operand.tmp 121), type := 9, pos := "law.go:51", after := #[{ on := 10, ground := Ground.data }, { on := 6, ground := Ground.guard }], guard := some (6, false) }) (v := ?_) rfl (by kernel_rfl) (by kernel_rfl) (by kernel_rfl) (fun _ _ _ h => h) (Or.inl ⟨by rfl, ?_⟩) S1.out ?_
            rotate_left
            · (intro w hw; obtain ⟨e0, e1, e2, e3, e4, e5, e6, e7, -⟩ := hw; go_simp; try with_reducible rfl)
            simp only [Act.put, List.setIfInBounds_toArray, List.set_cons_zero, List.set_cons_succ]
            refine wpAnyH_ready (rs := [8]) (by kernel_rfl) (by simp) ?_
            refine AllReadyH.cons (o := { dst := some 119, op := Op.call { callee := Callee.value (Operand.func 14), args := #[Operand.tmp 118, Operand.const (Value.int IntKind.i64 1)], argTypes := #[24, 3] }, type := 33, pos := "law.go:51", after := #[{ on := 7, ground := Ground.data }, { on := 6, ground := Ground.chain }, { on := 6, ground := Ground.guard }], guard := some (6, false) }) rfl (fun K hK => ?_) AllReadyH.nil
            go_simp
            with_reducible refine (R1.out _ B1.out).mono ?_
            rintro r w11 ⟨g1, rfl, cv1, b11⟩
            have B2 := Lib.hid (below_next B1.out b11)
            have S2 := Lib.hid (S1.out.on b11)
            clear b11
            go_wp2_with fail
            refine hK.out _ _ S2.out (fun _ => ?_)
            clear hK K
            try simp only [Act.put, List.setIfInBounds_toArray, List.set_cons_zero, List.set_cons_succ]
            refine wpAnyH_ready (rs := [9]) (by kernel_rfl) (by simp) ?_
            refine AllReadyH.cons (o := { dst := some 120, op := Op.convert 33 9 (Operand.tmp 119), type := 9, pos := "law.go:51", after := #[{ on := 8, ground := Ground.data }, { on := 6, ground := Ground.guard }], guard := some (6, false) }) rfl (fun K hK => ?_) AllReadyH.nil
            go_simp
            refine hK.out _ _ S2.out (fun _ => ?_)
            clear hK K
            try simp only [Act.put, List.setIfInBounds_toArray, List.set_cons_zero, List.set_cons_succ]
            refine wpAnyH_take (i := 12) (oi := { dst := some 123, op := Op.binOp BinOp.neq 9 (Operand.tmp 120) (Operand.tmp 122) 9, type := 4, pos := "law.go:51", after := #[{ on := 9, ground := Ground.data }, { on := 11, ground := Ground.data }, { on := 6, ground := Ground.guard }], guard := some (6, false) }) (v := ?_) rfl (by kernel_rfl) (by kernel_rfl) (by kernel_rfl) (fun _ _ _ h => h) (Or.inl ⟨by rfl, ?_⟩) S2.out ?_
            rotate_left
            · (intro w hw; obtain ⟨e0, e1, e2, e3, e4, e5, e6, e7, -⟩ := hw; go_simp; try with_reducible rfl)
            simp only [Act.put, List.setIfInBounds_toArray, List.set_cons_zero, List.set_cons_succ]
            refine wpAnyH_take (i := 13) (oi := { dst := some 124, op := Op.pick (Operand.tmp 117) (Operand.const (Value.bool true)) (Operand.tmp 123), type := 4, pos := "law.go:51", after := #[{ on := 6, ground := Ground.data }, { on := 12, ground := Ground.data }], guard := none }) (v := ?_) rfl (by kernel_rfl) (by kernel_rfl) (by kernel_rfl) (fun _ _ _ h => h) (Or.inl ⟨by rfl, ?_⟩) S2.out ?_
            rotate_left
            · (intro w hw; obtain ⟨e0, e1, e2, e3, e4, e5, e6, e7, -⟩ := hw; go_simp; try with_reducible rfl)
            simp only [Act.put, List.setIfInBounds_toArray, List.set_cons_zero, List.set_cons_succ]
            refine wpAnyH_take (i := 14) (oi := { dst := some 125, op := Op.move (Operand.tmp 124), type := 4, pos := "law.go:51", after := #[{ on := 13, ground := Ground.data }, { on := 8, ground := Ground.chain }], guard := none }) (v := ?_) rfl (by kernel_rfl) (by kernel_rfl) (by kernel_rfl) (fun _ _ _ h => h) (Or.inl ⟨by rfl, ?_⟩) S2.out ?_
            rotate_left
            · (intro w hw; obtain ⟨e0, e1, e2, e3, e4, e5, e6, e7, -⟩ := hw; go_simp; try with_reducible rfl)
            simp only [Act.put, List.setIfInBounds_toArray, List.set_cons_zero, List.set_cons_succ]
            refine wpAnyH_take (i := 15) (oi := { dst := some 126, op := Op.move (Operand.tmp 5), type := 24, pos := "law.go:51", after := #[{ on := 14, ground := Ground.guard }], guard := some (14, false) }) (v := ?_) rfl (by kernel_rfl) (by kernel_rfl) (by kernel_rfl) (fun _ _ _ h => h) (Or.inl ⟨by rfl, ?_⟩) S2.out ?_
            rotate_left
            · (intro w hw; obtain ⟨e0, e1, e2, e3, e4, e5, e6, e7, -⟩ := hw; go_simp; try with_reducible rfl)
            simp only [Act.put, List.setIfInBounds_toArray, List.set_cons_zero, List.set_cons_succ]
            refine wpAnyH_ready (rs := [16]) (by kernel_rfl) (by simp) ?_
            refine AllReadyH.cons (o := { dst := some 127, op := Op.call { callee := Callee.value (Operand.func 15), args := #[Operand.tmp 126], argTypes := #[24] }, type := 3, pos := "law.go:51", after := #[{ on := 15, ground := Ground.data }, { on := 14, ground := Ground.chain }, { on := 14, ground := Ground.guard }], guard := some (14, false) }) rfl (fun K hK => ?_) AllReadyH.nil
            go_simp
            with_reducible refine (WA.out _ B2.out).mono ?_
            rintro r w12 ⟨rfl, hw12⟩
            have S3 : Hid (PS wT g gx gt ⟨P0⟩ ⟨P1⟩ x.e x.a x.u w12) := by rw [hw12]; exact S2
            have B3 : Hid (Below wT.heap.size wT w12) := by rw [hw12]; exact B2
            clear hw12
            go_wp2_with fail
            refine hK.out _ _ S3.out (fun _ => ?_)
            clear hK K
            try simp only [Act.put, List.setIfInBounds_toArray, List.set_cons_zero, List.set_cons_succ]
            refine wpAnyH_take (i := 17) (oi := { dst := some 128, op := Op.binOp BinOp.neq 3 (Operand.tmp 127) (Operand.const (Value.int IntKind.i64 0)) 3, type := 4, pos := "law.go:51", after := #[{ on := 16, ground := Ground.data }, { on := 14, ground := Ground.guard }], guard := some (14, false) }) (v := ?_) rfl (by kernel_rfl) (by kernel_rfl) (by kernel_rfl) (fun _ _ _ h => h) (Or.inl ⟨by rfl, ?_⟩) S3.out ?_
            rotate_left
            · (intro w hw; obtain ⟨e0, e1, e2, e3, e4, e5, e6, e7, -⟩ := hw; go_simp; try with_reducible rfl)
            simp only [Act.put, List.setIfInBounds_toArray, List.set_cons_zero, List.set_cons_succ]
            refine wpAnyH_take (i := 18) (oi := { dst := some 129, op := Op.pick (Operand.tmp 125) (Operand.const (Value.bool true)) (Operand.tmp 128), type := 4, pos := "law.go:51", after := #[{ on := 14, ground := Ground.data }, { on := 17, ground := Ground.data }], guard := none }) (v := ?_) rfl (by kernel_rfl) (by kernel_rfl) (by kernel_rfl) (fun _ _ _ h => h) (Or.inl ⟨by rfl, ?_⟩) S3.out ?_
            rotate_left
            · (intro w hw; obtain ⟨e0, e1, e2, e3, e4, e5, e6, e7, -⟩ := hw; go_simp; try with_reducible rfl)
            simp only [Act.put, List.setIfInBounds_toArray, List.set_cons_zero, List.set_cons_succ]
            refine wpAnyH_take (i := 19) (oi := { dst := some 130, op := Op.move (Operand.tmp 129), type := 4, pos := "law.go:51", after := #[{ on := 18, ground := Ground.data }, { on := 16, ground := Ground.chain }], guard := none }) (v := ?_) rfl (by kernel_rfl) (by kernel_rfl) (by kernel_rfl) (fun _ _ _ h => h) (Or.inl ⟨by rfl, ?_⟩) S3.out ?_
            rotate_left
            · (intro w hw; obtain ⟨e0, e1, e2, e3, e4, e5, e6, e7, -⟩ := hw; go_simp; try with_reducible rfl)
            simp only [Act.put, List.setIfInBounds_toArray, List.set_cons_zero, List.set_cons_succ]
            refine wpAnyH_take (i := 20) (oi := { dst := some 131, op := Op.load 30 (Operand.tmp 13), type := 30, pos := "law.go:51", after := #[{ on := 19, ground := Ground.guard }], guard := some (19, false) }) (v := ?_) rfl (by kernel_rfl) (by kernel_rfl) (by kernel_rfl) (fun _ _ _ h => h) (Or.inl ⟨by rfl, ?_⟩) S3.out ?_
            rotate_left
            · (intro w hw; obtain ⟨e0, e1, e2, e3, e4, e5, e6, e7, -⟩ := hw; go_simp; try with_reducible rfl)
            simp only [Act.put, List.setIfInBounds_toArray, List.set_cons_zero, List.set_cons_succ]
            refine wpAnyH_take (i := 21) (oi := { dst := some 132, op := Op.load 30 (Operand.tmp 15), type := 30, pos := "law.go:51", after := #[{ on := 19, ground := Ground.guard }], guard := some (19, false) }) (v := ?_) rfl (by kernel_rfl) (by kernel_rfl) (by kernel_rfl) (fun _ _ _ h => h) (Or.inl ⟨by rfl, ?_⟩) S3.out ?_
            rotate_left
            · (intro w hw; obtain ⟨e0, e1, e2, e3, e4, e5, e6, e7, -⟩ := hw; go_simp; try with_reducible rfl)
            simp only [Act.put, List.setIfInBounds_toArray, List.set_cons_zero, List.set_cons_succ]
            refine wpAnyH_take (i := 22) (oi := { dst := some 133, op := Op.binOp BinOp.neq 30 (Operand.tmp 131) (Operand.tmp 132) 30, type := 4, pos := "law.go:51", after := #[{ on := 20, ground := Ground.data }, { on := 21, ground := Ground.data }, { on := 19, ground := Ground.guard }], guard := some (19, false) }) (v := ?_) rfl (by kernel_rfl) (by kernel_rfl) (by kernel_rfl) (fun _ _ _ h => h) (Or.inl ⟨by rfl, ?_⟩) S3.out ?_
            rotate_left
            · (intro w hw; obtain ⟨e0, e1, e2, e3, e4, e5, e6, e7, -⟩ := hw; go_simp; try with_reducible rfl)
            simp only [Act.put, List.setIfInBounds_toArray, List.set_cons_zero, List.set_cons_succ]
            refine wpAnyH_take (i := 23) (oi := { dst := some 134, op := Op.pick (Operand.tmp 130) (Operand.const (Value.bool true)) (Operand.tmp 133), type := 4, pos := "law.go:51", after := #[{ on := 19, ground := Ground.data }, { on := 22, ground := Ground.data }], guard := none }) (v := ?_) rfl (by kernel_rfl) (by kernel_rfl) (by kernel_rfl) (fun _ _ _ h => h) (Or.inl ⟨by rfl, ?_⟩) S3.out ?_
            rotate_left
            · (intro w hw; obtain ⟨e0, e1, e2, e3, e4, e5, e6, e7, -⟩ := hw; go_simp; try with_reducible rfl)
            simp only [Act.put, List.setIfInBounds_toArray, List.set_cons_zero, List.set_cons_succ]
            refine wpAnyH_take (i := 24) (oi := { dst := some 135, op := Op.move (Operand.tmp 134), type := 4, pos := "law.go:51", after := #[{ on := 23, ground := Ground.data }, { on := 19, ground := Ground.chain }], guard := none }) (v := ?_) rfl (by kernel_rfl) (by kernel_rfl) (by kernel_rfl) (fun _ _ _ h => h) (Or.inl ⟨by rfl, ?_⟩) S3.out ?_
            rotate_left
            · (intro w hw; obtain ⟨e0, e1, e2, e3, e4, e5, e6, e7, -⟩ := hw; go_simp; try with_reducible rfl)
            simp only [Act.put, List.setIfInBounds_toArray, List.set_cons_zero, List.set_cons_succ]
            refine wpAnyH_take (i := 25) (oi := { dst := some 136, op := Op.move (Operand.tmp 16), type := 4, pos := "law.go:51", after := #[{ on := 24, ground := Ground.guard }], guard := some (24, false) }) (v := ?_) rfl (by kernel_rfl) (by kernel_rfl) (by kernel_rfl) (fun _ _ _ h => h) (Or.inl ⟨by rfl, ?_⟩) S3.out ?_
            rotate_left
            · (intro w hw; obtain ⟨e0, e1, e2, e3, e4, e5, e6, e7, -⟩ := hw; go_simp; try with_reducible rfl)
            simp only [Act.put, List.setIfInBounds_toArray, List.set_cons_zero, List.set_cons_succ]
            refine wpAnyH_take (i := 26) (oi := { dst := some 137, op := Op.move (Operand.tmp 14), type := 25, pos := "law.go:51", after := #[{ on := 24, ground := Ground.guard }], guard := some (24, false) }) (v := ?_) rfl (by kernel_rfl) (by kernel_rfl) (by kernel_rfl) (fun _ _ _ h => h) (Or.inl ⟨by rfl, ?_⟩) S3.out ?_
            rotate_left
            · (intro w hw; obtain ⟨e0, e1, e2, e3, e4, e5, e6, e7, -⟩ := hw; go_simp; try with_reducible rfl)
            simp only [Act.put, List.setIfInBounds_toArray, List.set_cons_zero, List.set_cons_succ]
            refine wpAnyH_take (i := 27) (oi := { dst := some 138, op := Op.binOp BinOp.eql 25 (Operand.tmp 137) (Operand.const (Value.int IntKind.i64 0)) 25, type := 4, pos := "law.go:51", after := #[{ on := 26, ground := Ground.data }, { on := 24, ground := Ground.guard }], guard := some (24, false) }) (v := ?_) rfl (by kernel_rfl) (by kernel_rfl) (by kernel_rfl) (fun _ _ _ h => h) (Or.inl ⟨by rfl, ?_⟩) S3.out ?_
            rotate_left
            · (intro w hw; obtain ⟨e0, e1, e2, e3, e4, e5, e6, e7, -⟩ := hw; go_simp; try with_reducible rfl)
            simp only [Act.put, List.setIfInBounds_toArray, List.set_cons_zero, List.set_cons_succ]
            refine wpAnyH_take (i := 28) (oi := { dst := some 139, op := Op.binOp BinOp.neq 4 (Operand.tmp 136) (Operand.tmp 138) 4, type := 4, pos := "law.go:51", after := #[{ on := 25, ground := Ground.data }, { on := 27, ground := Ground.data }, { on := 24, ground := Ground.guard }], guard := some (24, false) }) (v := ?_) rfl (by kernel_rfl) (by kernel_rfl) (by kernel_rfl) (fun _ _ _ h => h) (Or.inl ⟨by rfl, ?_⟩) S3.out ?_
            rotate_left
            · (intro w hw; obtain ⟨e0, e1, e2, e3, e4, e5, e6, e7, -⟩ := hw; go_simp; try with_reducible rfl)
            simp only [Act.put, List.setIfInBounds_toArray, List.set_cons_zero, List.set_cons_succ]
            refine wpAnyH_take (i := 29) (oi := { dst := some 140, op := Op.pick (Operand.tmp 135) (Operand.const (Value.bool true)) (Operand.tmp 139), type := 4, pos := "law.go:51", after := #[{ on := 24, ground := Ground.data }, { on := 28, ground := Ground.data }], guard := none }) (v := ?_) rfl (by kernel_rfl) (by kernel_rfl) (by kernel_rfl) (fun _ _ _ h => h) (Or.inl ⟨by rfl, ?_⟩) S3.out ?_
            rotate_left
            · (intro w hw; obtain ⟨e0, e1, e2, e3, e4, e5, e6, e7, -⟩ := hw; go_simp; try with_reducible rfl)
            simp only [Act.put, List.setIfInBounds_toArray, List.set_cons_zero, List.set_cons_succ]
            refine wpAnyH_take (i := 30) (oi := { dst := some 141, op := Op.move (Operand.tmp 140), type := 4, pos := "law.go:51", after := #[{ on := 29, ground := Ground.data }, { on := 24, ground := Ground.chain }], guard := none }) (v := ?_) rfl (by kernel_rfl) (by kernel_rfl) (by kernel_rfl) (fun _ _ _ h => h) (Or.inl ⟨by rfl, ?_⟩) S3.out ?_
            rotate_left
            · (intro w hw; obtain ⟨e0, e1, e2, e3, e4, e5, e6, e7, -⟩ := hw; go_simp; try with_reducible rfl)
            simp only [Act.put, List.setIfInBounds_toArray, List.set_cons_zero, List.set_cons_succ]
            refine wpAnyH_take (i := 31) (oi := { dst := some 142, op := Op.move (Operand.tmp 16), type := 4, pos := "law.go:51", after := #[{ on := 30, ground := Ground.guard }], guard := some (30, false) }) (v := ?_) rfl (by kernel_rfl) (by kernel_rfl) (by kernel_rfl) (fun _ _ _ h => h) (Or.inl ⟨by rfl, ?_⟩) S3.out ?_
            rotate_left
            · (intro w hw; obtain ⟨e0, e1, e2, e3, e4, e5, e6, e7, -⟩ := hw; go_simp; try with_reducible rfl)
            simp only [Act.put, List.setIfInBounds_toArray, List.set_cons_zero, List.set_cons_succ]
            refine wpAnyH_take (i := 32) (oi := { dst := some 143, op := Op.unOp UnOp.not 4 (Operand.tmp 142), type := 4, pos := "law.go:51", after := #[{ on := 31, ground := Ground.data }, { on := 30, ground := Ground.guard }], guard := some (30, false) }) (v := ?_) rfl (by kernel_rfl) (by kernel_rfl) (by kernel_rfl) (fun _ _ _ h => h) (Or.inl ⟨by rfl, ?_⟩) S3.out ?_
            rotate_left
            · (intro w hw; obtain ⟨e0, e1, e2, e3, e4, e5, e6, e7, -⟩ := hw; go_simp; try with_reducible rfl)
            simp only [Act.put, List.setIfInBounds_toArray, List.set_cons_zero, List.set_cons_succ]
            refine wpAnyH_take (i := 33) (oi := { dst := some 144, op := Op.move (Operand.tmp 143), type := 4, pos := "law.go:51", after := #[{ on := 32, ground := Ground.data }, { on := 30, ground := Ground.chain }, { on := 30, ground := Ground.guard }], guard := some (30, false) }) (v := ?_) rfl (by kernel_rfl) (by kernel_rfl) (by kernel_rfl) (fun _ _ _ h => h) (Or.inl ⟨by rfl, ?_⟩) S3.out ?_
            rotate_left
            · (intro w hw; obtain ⟨e0, e1, e2, e3, e4, e5, e6, e7, -⟩ := hw; go_simp; try with_reducible rfl)
            simp only [Act.put, List.setIfInBounds_toArray, List.set_cons_zero, List.set_cons_succ]
            refine wpAnyH_take (i := 34) (oi := { dst := some 145, op := Op.move (Operand.tmp 14), type := 25, pos := "law.go:51", after := #[{ on := 33, ground := Ground.guard }], guard := some (33, true) }) (v := undef) rfl (by kernel_rfl) (by kernel_rfl) (by kernel_rfl) (fun _ _ _ h => h) (Or.inr ⟨by kernel_rfl, rfl⟩) S3.out ?_
            simp only [Act.put, List.setIfInBounds_toArray, List.set_cons_zero, List.set_cons_succ]
            refine wpAnyH_take (i := 35) (oi := { dst := some 146, op := Op.binOp BinOp.neq 25 (Operand.tmp 145) (Operand.const (Value.int IntKind.i64 11)) 25, type := 4, pos := "law.go:51", after := #[{ on := 34, ground := Ground.data }, { on := 33, ground := Ground.guard }], guard := some (33, true) }) (v := undef) rfl (by kernel_rfl) (by kernel_rfl) (by kernel_rfl) (fun _ _ _ h => h) (Or.inr ⟨by kernel_rfl, rfl⟩) S3.out ?_
            simp only [Act.put, List.setIfInBounds_toArray, List.set_cons_zero, List.set_cons_succ]
            refine wpAnyH_take (i := 36) (oi := { dst := some 147, op := Op.pick (Operand.tmp 144) (Operand.tmp 146) (Operand.const (Value.bool false)), type := 4, pos := "law.go:51", after := #[{ on := 33, ground := Ground.data }, { on := 35, ground := Ground.data }, { on := 30, ground := Ground.guard }], guard := some (30, false) }) (v := ?_) rfl (by kernel_rfl) (by kernel_rfl) (by kernel_rfl) (fun _ _ _ h => h) (Or.inl ⟨by rfl, ?_⟩) S3.out ?_
            rotate_left
            · (intro w hw; obtain ⟨e0, e1, e2, e3, e4, e5, e6, e7, -⟩ := hw; go_simp; try with_reducible rfl)
            simp only [Act.put, List.setIfInBounds_toArray, List.set_cons_zero, List.set_cons_succ]
            refine wpAnyH_take (i := 37) (oi := { dst := some 148, op := Op.pick (Operand.tmp 141) (Operand.const (Value.bool true)) (Operand.tmp 147), type := 4, pos := "law.go:51", after := #[{ on := 30, ground := Ground.data }, { on := 36, ground := Ground.data }], guard := none }) (v := ?_) rfl (by kernel_rfl) (by kernel_rfl) (by kernel_rfl) (fun _ _ _ h => h) (Or.inl ⟨by rfl, ?_⟩) S3.out ?_
            rotate_left
            · (intro w hw; obtain ⟨e0, e1, e2, e3, e4, e5, e6, e7, -⟩ := hw; go_simp; try with_reducible rfl)
            simp only [Act.put, List.setIfInBounds_toArray, List.set_cons_zero, List.set_cons_succ]
            refine wpAnyH_done (by kernel_rfl) ?_ _
            clear PD R0 R1 WA S1 S2 S3 B0 B1 B2 cv0 cv1
            try simp only [Act.put, List.setIfInBounds_toArray, List.set_cons_zero, List.set_cons_succ]
            go_wp2_with fail
            go_roundg (41 - i)
            case measure => omega
            case rel => exact ⟨i + 1, _, _, by omega, by omega, by simp, (ITH.out.below B3.out).mono (by omega)⟩
          · refine wp_region_held_drew (S := fun W => PS wT g gx gt ⟨P0⟩ ⟨P1⟩ x.e x.a x.u W) (by kernel_rfl) PD.out (fun _ => ?_)
            refine wpAnyH_take (i := 0) (oi := { dst := some 111, op := Op.move (Operand.tmp 5), type := 24, pos := "law.go:51", after := #[], guard := none }) (v := ?_) rfl (by kernel_rfl) (by kernel_rfl) (by kernel_rfl) (fun _ _ _ h => h) (Or.inl ⟨by rfl, ?_⟩) PD.out ?_
            rotate_left
            · (intro w hw; obtain ⟨e0, e1, e2, e3, e4, e5, e6, e7, -⟩ := hw; go_simp; try with_reducible rfl)
            simp only [Act.put, List.setIfInBounds_toArray, List.set_cons_zero, List.set_cons_succ]
            refine wpAnyH_take (i := 3) (oi := { dst := some 114, op := Op.indexAddr 34 (Operand.tmp 9) (Operand.const (Value.int IntKind.i64 0)), type := 0, pos := "law.go:51", after := #[], guard := none }) (v := ?_) rfl (by kernel_rfl) (by kernel_rfl) (by kernel_rfl) (fun _ _ _ h => h) (Or.inl ⟨by rfl, ?_⟩) PD.out ?_
            rotate_left
            · (intro w hw; obtain ⟨e0, e1, e2, e3, e4, e5, e6, e7, -⟩ := hw; go_simp; try with_reducible rfl)
            simp only [Act.put, List.setIfInBounds_toArray, List.set_cons_zero, List.set_cons_succ]
            refine wpAnyH_take (i := 4) (oi := { dst := some 115, op := Op.load 9 (Operand.tmp 114), type := 9, pos := "law.go:51", after := #[{ on := 3, ground := Ground.data }], guard := none }) (v := ?_) rfl (by kernel_rfl) (by kernel_rfl) (by kernel_rfl) (fun _ _ _ h => h) (Or.inl ⟨by rfl, ?_⟩) PD.out ?_
            rotate_left
            · (intro w hw; obtain ⟨e0, e1, e2, e3, e4, e5, e6, e7, -⟩ := hw; go_simp; try with_reducible rfl)
            simp only [Act.put, List.setIfInBounds_toArray, List.set_cons_zero, List.set_cons_succ]
            refine wpAnyH_ready (rs := [1]) (by kernel_rfl) (by simp) ?_
            refine AllReadyH.cons (o := { dst := some 112, op := Op.call { callee := Callee.value (Operand.func 14), args := #[Operand.tmp 111, Operand.const (Value.int IntKind.i64 0)], argTypes := #[24, 3] }, type := 33, pos := "law.go:51", after := #[{ on := 0, ground := Ground.data }], guard := none }) rfl (fun K hK => ?_) AllReadyH.nil
            go_simp
            with_reducible refine (R0.out _ B0.out).mono ?_
            rintro r w10 ⟨g0, rfl, cv0, b10⟩
            have B1 := Lib.hid (below_next B0.out b10)
            have S1 := Lib.hid (PD.out.on b10)
            clear b10
            go_wp2_with fail
            refine hK.out _ _ S1.out (fun _ => ?_)
            clear hK K
            try simp only [Act.put, List.setIfInBounds_toArray, List.set_cons_zero, List.set_cons_succ]
            refine wpAnyH_ready (rs := [2]) (by kernel_rfl) (by simp) ?_
            refine AllReadyH.cons (o := { dst := some 113, op := Op.convert 33 9 (Operand.tmp 112), type := 9, pos := "law.go:51", after := #[{ on := 1, ground := Ground.data }], guard := none }) rfl (fun K hK => ?_) AllReadyH.nil
            go_simp
            refine hK.out _ _ S1.out (fun _ => ?_)
            clear hK K
            try simp only [Act.put, List.setIfInBounds_toArray, List.set_cons_zero, List.set_cons_succ]
            refine wpAnyH_take (i := 5) (oi := { dst := some 116, op := Op.binOp BinOp.neq 9 (Operand.tmp 113) (Operand.tmp 115) 9, type := 4, pos := "law.go:51", after := #[{ on := 2, ground := Ground.data }, { on := 4, ground := Ground.data }], guard := none }) (v := ?_) rfl (by kernel_rfl) (by kernel_rfl) (by kernel_rfl) (fun _ _ _ h => h) (Or.inl ⟨by rfl, ?_⟩) S1.out ?_
            rotate_left
            · (intro w hw; obtain ⟨e0, e1, e2, e3, e4, e5, e6, e7, -⟩ := hw; go_simp; try with_reducible rfl)
            simp only [Act.put, List.setIfInBounds_toArray, List.set_cons_zero, List.set_cons_succ]
            refine wpAnyH_take (i := 6) (oi := { dst := some 117, op := Op.move (Operand.tmp 116), type := 4, pos := "law.go:51", after := #[{ on := 5, ground := Ground.data }, { on := 1, ground := Ground.chain }], guard := none }) (v := ?_) rfl (by kernel_rfl) (by kernel_rfl) (by kernel_rfl) (fun _ _ _ h => h) (Or.inl ⟨by rfl, ?_⟩) S1.out ?_
            rotate_left
            · (intro w hw; obtain ⟨e0, e1, e2, e3, e4, e5, e6, e7, -⟩ := hw; go_simp; try with_reducible rfl)
            simp only [Act.put, List.setIfInBounds_toArray, List.set_cons_zero, List.set_cons_succ]
            refine wpAnyH_take (i := 7) (oi := { dst := some 118, op := Op.move (Operand.tmp 5), type := 24, pos := "law.go:51", after := #[{ on := 6, ground := Ground.guard }], guard := some (6, false) }) (v := ?_) rfl (by kernel_rfl) (by kernel_rfl) (by kernel_rfl) (fun _ _ _ h => h) (Or.inl ⟨by rfl, ?_⟩) S1.out ?_
            rotate_left
            · (intro w hw; obtain ⟨e0, e1, e2, e3, e4, e5, e6, e7, -⟩ := hw; go_simp; try with_reducible rfl)
            simp only [Act.put, List.setIfInBounds_toArray, List.set_cons_zero, List.set_cons_succ]
            refine wpAnyH_take (i := 10) (oi := { dst := some 121, op := Op.indexAddr 34 (Operand.tmp 9) (Operand.const (Value.int IntKind.i64 1)), type := 0, pos := "law.go:51", after := #[{ on := 6, ground := Ground.guard }], guard := some (6, false) }) (v := ?_) rfl (by kernel_rfl) (by kernel_rfl) (by kernel_rfl) (fun _ _ _ h => h) (Or.inl ⟨by rfl, ?_⟩) S1.out ?_
            rotate_left
            · (intro w hw; obtain ⟨e0, e1, e2, e3, e4, e5, e6, e7, -⟩ := hw; go_simp; try with_reducible rfl)
            simp only [Act.put, List.setIfInBounds_toArray, List.set_cons_zero, List.set_cons_succ]
            refine wpAnyH_take (i := 11) (oi := { dst := some 122, op := Op.load 9 (Operand.tmp 121), type := 9, pos := "law.go:51", after := #[{ on := 10, ground := Ground.data }, { on := 6, ground := Ground.guard }], guard := some (6, false) }) (v := ?_) rfl (by kernel_rfl) (by kernel_rfl) (by kernel_rfl) (fun _ _ _ h => h) (Or.inl ⟨by rfl, ?_⟩) S1.out ?_
            rotate_left
            · (intro w hw; obtain ⟨e0, e1, e2, e3, e4, e5, e6, e7, -⟩ := hw; go_simp; try with_reducible rfl)
            simp only [Act.put, List.setIfInBounds_toArray, List.set_cons_zero, List.set_cons_succ]
            refine wpAnyH_ready (rs := [8]) (by kernel_rfl) (by simp) ?_
            refine AllReadyH.cons (o := { dst := some 119, op := Op.call { callee := Callee.value (Operand.func 14), args := #[Operand.tmp 118, Operand.const (Value.int IntKind.i64 1)], argTypes := #[24, 3] }, type := 33, pos := "law.go:51", after := #[{ on := 7, ground := Ground.data }, { on := 6, ground := Ground.chain }, { on := 6, ground := Ground.guard }], guard := some (6, false) }) rfl (fun K hK => ?_) AllReadyH.nil
            go_simp
            with_reducible refine (R1.out _ B1.out).mono ?_
            rintro r w11 ⟨g1, rfl, cv1, b11⟩
            have B2 := Lib.hid (below_next B1.out b11)
            have S2 := Lib.hid (S1.out.on b11)
            clear b11
            go_wp2_with fail
            refine hK.out _ _ S2.out (fun _ => ?_)
            clear hK K
            try simp only [Act.put, List.setIfInBounds_toArray, List.set_cons_zero, List.set_cons_succ]
            refine wpAnyH_ready (rs := [9]) (by kernel_rfl) (by simp) ?_
            refine AllReadyH.cons (o := { dst := some 120, op := Op.convert 33 9 (Operand.tmp 119), type := 9, pos := "law.go:51", after := #[{ on := 8, ground := Ground.data }, { on := 6, ground := Ground.guard }], guard := some (6, false) }) rfl (fun K hK => ?_) AllReadyH.nil
            go_simp
            refine hK.out _ _ S2.out (fun _ => ?_)
            clear hK K
            try simp only [Act.put, List.setIfInBounds_toArray, List.set_cons_zero, List.set_cons_succ]
            refine wpAnyH_take (i := 12) (oi := { dst := some 123, op := Op.binOp BinOp.neq 9 (Operand.tmp 120) (Operand.tmp 122) 9, type := 4, pos := "law.go:51", after := #[{ on := 9, ground := Ground.data }, { on := 11, ground := Ground.data }, { on := 6, ground := Ground.guard }], guard := some (6, false) }) (v := ?_) rfl (by kernel_rfl) (by kernel_rfl) (by kernel_rfl) (fun _ _ _ h => h) (Or.inl ⟨by rfl, ?_⟩) S2.out ?_
            rotate_left
            · (intro w hw; obtain ⟨e0, e1, e2, e3, e4, e5, e6, e7, -⟩ := hw; go_simp; try with_reducible rfl)
            simp only [Act.put, List.setIfInBounds_toArray, List.set_cons_zero, List.set_cons_succ]
            refine wpAnyH_take (i := 13) (oi := { dst := some 124, op := Op.pick (Operand.tmp 117) (Operand.const (Value.bool true)) (Operand.tmp 123), type := 4, pos := "law.go:51", after := #[{ on := 6, ground := Ground.data }, { on := 12, ground := Ground.data }], guard := none }) (v := ?_) rfl (by kernel_rfl) (by kernel_rfl) (by kernel_rfl) (fun _ _ _ h => h) (Or.inl ⟨by rfl, ?_⟩) S2.out ?_
            rotate_left
            · (intro w hw; obtain ⟨e0, e1, e2, e3, e4, e5, e6, e7, -⟩ := hw; go_simp; try with_reducible rfl)
            simp only [Act.put, List.setIfInBounds_toArray, List.set_cons_zero, List.set_cons_succ]
            refine wpAnyH_take (i := 14) (oi := { dst := some 125, op := Op.move (Operand.tmp 124), type := 4, pos := "law.go:51", after := #[{ on := 13, ground := Ground.data }, { on := 8, ground := Ground.chain }], guard := none }) (v := ?_) rfl (by kernel_rfl) (by kernel_rfl) (by kernel_rfl) (fun _ _ _ h => h) (Or.inl ⟨by rfl, ?_⟩) S2.out ?_
            rotate_left
            · (intro w hw; obtain ⟨e0, e1, e2, e3, e4, e5, e6, e7, -⟩ := hw; go_simp; try with_reducible rfl)
            simp only [Act.put, List.setIfInBounds_toArray, List.set_cons_zero, List.set_cons_succ]
            refine wpAnyH_take (i := 15) (oi := { dst := some 126, op := Op.move (Operand.tmp 5), type := 24, pos := "law.go:51", after := #[{ on := 14, ground := Ground.guard }], guard := some (14, false) }) (v := ?_) rfl (by kernel_rfl) (by kernel_rfl) (by kernel_rfl) (fun _ _ _ h => h) (Or.inl ⟨by rfl, ?_⟩) S2.out ?_
            rotate_left
            · (intro w hw; obtain ⟨e0, e1, e2, e3, e4, e5, e6, e7, -⟩ := hw; go_simp; try with_reducible rfl)
            simp only [Act.put, List.setIfInBounds_toArray, List.set_cons_zero, List.set_cons_succ]
            refine wpAnyH_ready (rs := [16]) (by kernel_rfl) (by simp) ?_
            refine AllReadyH.cons (o := { dst := some 127, op := Op.call { callee := Callee.value (Operand.func 15), args := #[Operand.tmp 126], argTypes := #[24] }, type := 3, pos := "law.go:51", after := #[{ on := 15, ground := Ground.data }, { on := 14, ground := Ground.chain }, { on := 14, ground := Ground.guard }], guard := some (14, false) }) rfl (fun K hK => ?_) AllReadyH.nil
            go_simp
            with_reducible refine (WA.out _ B2.out).mono ?_
            rintro r w12 ⟨rfl, hw12⟩
            have S3 : Hid (PS wT g gx gt ⟨P0⟩ ⟨P1⟩ x.e x.a x.u w12) := by rw [hw12]; exact S2
            have B3 : Hid (Below wT.heap.size wT w12) := by rw [hw12]; exact B2
            clear hw12
            go_wp2_with fail
            refine hK.out _ _ S3.out (fun _ => ?_)
            clear hK K
            try simp only [Act.put, List.setIfInBounds_toArray, List.set_cons_zero, List.set_cons_succ]
            refine wpAnyH_take (i := 17) (oi := { dst := some 128, op := Op.binOp BinOp.neq 3 (Operand.tmp 127) (Operand.const (Value.int IntKind.i64 0)) 3, type := 4, pos := "law.go:51", after := #[{ on := 16, ground := Ground.data }, { on := 14, ground := Ground.guard }], guard := some (14, false) }) (v := ?_) rfl (by kernel_rfl) (by kernel_rfl) (by kernel_rfl) (fun _ _ _ h => h) (Or.inl ⟨by rfl, ?_⟩) S3.out ?_
            rotate_left
            · (intro w hw; obtain ⟨e0, e1, e2, e3, e4, e5, e6, e7, -⟩ := hw; go_simp; try with_reducible rfl)
            simp only [Act.put, List.setIfInBounds_toArray, List.set_cons_zero, List.set_cons_succ]
            refine wpAnyH_take (i := 18) (oi := { dst := some 129, op := Op.pick (Operand.tmp 125) (Operand.const (Value.bool true)) (Operand.tmp 128), type := 4, pos := "law.go:51", after := #[{ on := 14, ground := Ground.data }, { on := 17, ground := Ground.data }], guard := none }) (v := ?_) rfl (by kernel_rfl) (by kernel_rfl) (by kernel_rfl) (fun _ _ _ h => h) (Or.inl ⟨by rfl, ?_⟩) S3.out ?_
            rotate_left
            · (intro w hw; obtain ⟨e0, e1, e2, e3, e4, e5, e6, e7, -⟩ := hw; go_simp; try with_reducible rfl)
            simp only [Act.put, List.setIfInBounds_toArray, List.set_cons_zero, List.set_cons_succ]
            refine wpAnyH_take (i := 19) (oi := { dst := some 130, op := Op.move (Operand.tmp 129), type := 4, pos := "law.go:51", after := #[{ on := 18, ground := Ground.data }, { on := 16, ground := Ground.chain }], guard := none }) (v := ?_) rfl (by kernel_rfl) (by kernel_rfl) (by kernel_rfl) (fun _ _ _ h => h) (Or.inl ⟨by rfl, ?_⟩) S3.out ?_
            rotate_left
            · (intro w hw; obtain ⟨e0, e1, e2, e3, e4, e5, e6, e7, -⟩ := hw; go_simp; try with_reducible rfl)
            simp only [Act.put, List.setIfInBounds_toArray, List.set_cons_zero, List.set_cons_succ]
            refine wpAnyH_take (i := 20) (oi := { dst := some 131, op := Op.load 30 (Operand.tmp 13), type := 30, pos := "law.go:51", after := #[{ on := 19, ground := Ground.guard }], guard := some (19, false) }) (v := ?_) rfl (by kernel_rfl) (by kernel_rfl) (by kernel_rfl) (fun _ _ _ h => h) (Or.inl ⟨by rfl, ?_⟩) S3.out ?_
            rotate_left
            · (intro w hw; obtain ⟨e0, e1, e2, e3, e4, e5, e6, e7, -⟩ := hw; go_simp; try with_reducible rfl)
            simp only [Act.put, List.setIfInBounds_toArray, List.set_cons_zero, List.set_cons_succ]
            refine wpAnyH_take (i := 21) (oi := { dst := some 132, op := Op.load 30 (Operand.tmp 15), type := 30, pos := "law.go:51", after := #[{ on := 19, ground := Ground.guard }], guard := some (19, false) }) (v := ?_) rfl (by kernel_rfl) (by kernel_rfl) (by kernel_rfl) (fun _ _ _ h => h) (Or.inl ⟨by rfl, ?_⟩) S3.out ?_
            rotate_left
            · (intro w hw; obtain ⟨e0, e1, e2, e3, e4, e5, e6, e7, -⟩ := hw; go_simp; try with_reducible rfl)
            simp only [Act.put, List.setIfInBounds_toArray, List.set_cons_zero, List.set_cons_succ]
            refine wpAnyH_take (i := 22) (oi := { dst := some 133, op := Op.binOp BinOp.neq 30 (Operand.tmp 131) (Operand.tmp 132) 30, type := 4, pos := "law.go:51", after := #[{ on := 20, ground := Ground.data }, { on := 21, ground := Ground.data }, { on := 19, ground := Ground.guard }], guard := some (19, false) }) (v := ?_) rfl (by kernel_rfl) (by kernel_rfl) (by kernel_rfl) (fun _ _ _ h => h) (Or.inl ⟨by rfl, ?_⟩) S3.out ?_
            rotate_left
            · (intro w hw; obtain ⟨e0, e1, e2, e3, e4, e5, e6, e7, -⟩ := hw; go_simp; try with_reducible rfl)
            simp only [Act.put, List.setIfInBounds_toArray, List.set_cons_zero, List.set_cons_succ]
            refine wpAnyH_take (i := 23) (oi := { dst := some 134, op := Op.pick (Operand.tmp 130) (Operand.const (Value.bool true)) (Operand.tmp 133), type := 4, pos := "law.go:51", after := #[{ on := 19, ground := Ground.data }, { on := 22, ground := Ground.data }], guard := none }) (v := ?_) rfl (by kernel_rfl) (by kernel_rfl) (by kernel_rfl) (fun _ _ _ h => h) (Or.inl ⟨by rfl, ?_⟩) S3.out ?_
            rotate_left
            · (intro w hw; obtain ⟨e0, e1, e2, e3, e4, e5, e6, e7, -⟩ := hw; go_simp; try with_reducible rfl)
            simp only [Act.put, List.setIfInBounds_toArray, List.set_cons_zero, List.set_cons_succ]
            refine wpAnyH_take (i := 24) (oi := { dst := some 135, op := Op.move (Operand.tmp 134), type := 4, pos := "law.go:51", after := #[{ on := 23, ground := Ground.data }, { on := 19, ground := Ground.chain }], guard := none }) (v := ?_) rfl (by kernel_rfl) (by kernel_rfl) (by kernel_rfl) (fun _ _ _ h => h) (Or.inl ⟨by rfl, ?_⟩) S3.out ?_
            rotate_left
            · (intro w hw; obtain ⟨e0, e1, e2, e3, e4, e5, e6, e7, -⟩ := hw; go_simp; try with_reducible rfl)
            simp only [Act.put, List.setIfInBounds_toArray, List.set_cons_zero, List.set_cons_succ]
            refine wpAnyH_take (i := 25) (oi := { dst := some 136, op := Op.move (Operand.tmp 16), type := 4, pos := "law.go:51", after := #[{ on := 24, ground := Ground.guard }], guard := some (24, false) }) (v := ?_) rfl (by kernel_rfl) (by kernel_rfl) (by kernel_rfl) (fun _ _ _ h => h) (Or.inl ⟨by rfl, ?_⟩) S3.out ?_
            rotate_left
            · (intro w hw; obtain ⟨e0, e1, e2, e3, e4, e5, e6, e7, -⟩ := hw; go_simp; try with_reducible rfl)
            simp only [Act.put, List.setIfInBounds_toArray, List.set_cons_zero, List.set_cons_succ]
            refine wpAnyH_take (i := 26) (oi := { dst := some 137, op := Op.move (Operand.tmp 14), type := 25, pos := "law.go:51", after := #[{ on := 24, ground := Ground.guard }], guard := some (24, false) }) (v := ?_) rfl (by kernel_rfl) (by kernel_rfl) (by kernel_rfl) (fun _ _ _ h => h) (Or.inl ⟨by rfl, ?_⟩) S3.out ?_
            rotate_left
            · (intro w hw; obtain ⟨e0, e1, e2, e3, e4, e5, e6, e7, -⟩ := hw; go_simp; try with_reducible rfl)
            simp only [Act.put, List.setIfInBounds_toArray, List.set_cons_zero, List.set_cons_succ]
            refine wpAnyH_take (i := 27) (oi := { dst := some 138, op := Op.binOp BinOp.eql 25 (Operand.tmp 137) (Operand.const (Value.int IntKind.i64 0)) 25, type := 4, pos := "law.go:51", after := #[{ on := 26, ground := Ground.data }, { on := 24, ground := Ground.guard }], guard := some (24, false) }) (v := ?_) rfl (by kernel_rfl) (by kernel_rfl) (by kernel_rfl) (fun _ _ _ h => h) (Or.inl ⟨by rfl, ?_⟩) S3.out ?_
            rotate_left
            · (intro w hw; obtain ⟨e0, e1, e2, e3, e4, e5, e6, e7, -⟩ := hw; go_simp; try with_reducible rfl)
            simp only [Act.put, List.setIfInBounds_toArray, List.set_cons_zero, List.set_cons_succ]
            refine wpAnyH_take (i := 28) (oi := { dst := some 139, op := Op.binOp BinOp.neq 4 (Operand.tmp 136) (Operand.tmp 138) 4, type := 4, pos := "law.go:51", after := #[{ on := 25, ground := Ground.data }, { on := 27, ground := Ground.data }, { on := 24, ground := Ground.guard }], guard := some (24, false) }) (v := ?_) rfl (by kernel_rfl) (by kernel_rfl) (by kernel_rfl) (fun _ _ _ h => h) (Or.inl ⟨by rfl, ?_⟩) S3.out ?_
            rotate_left
            · (intro w hw; obtain ⟨e0, e1, e2, e3, e4, e5, e6, e7, -⟩ := hw; go_simp; try with_reducible rfl)
            simp only [Act.put, List.setIfInBounds_toArray, List.set_cons_zero, List.set_cons_succ]
            refine wpAnyH_take (i := 29) (oi := { dst := some 140, op := Op.pick (Operand.tmp 135) (Operand.const (Value.bool true)) (Operand.tmp 139), type := 4, pos := "law.go:51", after := #[{ on := 24, ground := Ground.data }, { on := 28, ground := Ground.data }], guard := none }) (v := ?_) rfl (by kernel_rfl) (by kernel_rfl) (by kernel_rfl) (fun _ _ _ h => h) (Or.inl ⟨by rfl, ?_⟩) S3.out ?_
            rotate_left
            · (intro w hw; obtain ⟨e0, e1, e2, e3, e4, e5, e6, e7, -⟩ := hw; go_simp; try with_reducible rfl)
            simp only [Act.put, List.setIfInBounds_toArray, List.set_cons_zero, List.set_cons_succ]
            refine wpAnyH_take (i := 30) (oi := { dst := some 141, op := Op.move (Operand.tmp 140), type := 4, pos := "law.go:51", after := #[{ on := 29, ground := Ground.data }, { on := 24, ground := Ground.chain }], guard := none }) (v := ?_) rfl (by kernel_rfl) (by kernel_rfl) (by kernel_rfl) (fun _ _ _ h => h) (Or.inl ⟨by rfl, ?_⟩) S3.out ?_
            rotate_left
            · (intro w hw; obtain ⟨e0, e1, e2, e3, e4, e5, e6, e7, -⟩ := hw; go_simp; try with_reducible rfl)
            simp only [Act.put, List.setIfInBounds_toArray, List.set_cons_zero, List.set_cons_succ]
            refine wpAnyH_take (i := 31) (oi := { dst := some 142, op := Op.move (Operand.tmp 16), type := 4, pos := "law.go:51", after := #[{ on := 30, ground := Ground.guard }], guard := some (30, false) }) (v := ?_) rfl (by kernel_rfl) (by kernel_rfl) (by kernel_rfl) (fun _ _ _ h => h) (Or.inl ⟨by rfl, ?_⟩) S3.out ?_
            rotate_left
            · (intro w hw; obtain ⟨e0, e1, e2, e3, e4, e5, e6, e7, -⟩ := hw; go_simp; try with_reducible rfl)
            simp only [Act.put, List.setIfInBounds_toArray, List.set_cons_zero, List.set_cons_succ]
            refine wpAnyH_take (i := 32) (oi := { dst := some 143, op := Op.unOp UnOp.not 4 (Operand.tmp 142), type := 4, pos := "law.go:51", after := #[{ on := 31, ground := Ground.data }, { on := 30, ground := Ground.guard }], guard := some (30, false) }) (v := ?_) rfl (by kernel_rfl) (by kernel_rfl) (by kernel_rfl) (fun _ _ _ h => h) (Or.inl ⟨by rfl, ?_⟩) S3.out ?_
            rotate_left
            · (intro w hw; obtain ⟨e0, e1, e2, e3, e4, e5, e6, e7, -⟩ := hw; go_simp; try with_reducible rfl)
            simp only [Act.put, List.setIfInBounds_toArray, List.set_cons_zero, List.set_cons_succ]
            refine wpAnyH_take (i := 33) (oi := { dst := some 144, op := Op.move (Operand.tmp 143), type := 4, pos := "law.go:51", after := #[{ on := 32, ground := Ground.data }, { on := 30, ground := Ground.chain }, { on := 30, ground := Ground.guard }], guard := some (30, false) }) (v := ?_) rfl (by kernel_rfl) (by kernel_rfl) (by kernel_rfl) (fun _ _ _ h => h) (Or.inl ⟨by rfl, ?_⟩) S3.out ?_
            rotate_left
            · (intro w hw; obtain ⟨e0, e1, e2, e3, e4, e5, e6, e7, -⟩ := hw; go_simp; try with_reducible rfl)
            simp only [Act.put, List.setIfInBounds_toArray, List.set_cons_zero, List.set_cons_succ]
            refine wpAnyH_take (i := 34) (oi := { dst := some 145, op := Op.move (Operand.tmp 14), type := 25, pos := "law.go:51", after := #[{ on := 33, ground := Ground.guard }], guard := some (33, true) }) (v := ?_) rfl (by kernel_rfl) (by kernel_rfl) (by kernel_rfl) (fun _ _ _ h => h) (Or.inl ⟨by rfl, ?_⟩) S3.out ?_
            rotate_left
            · (intro w hw; obtain ⟨e0, e1, e2, e3, e4, e5, e6, e7, -⟩ := hw; go_simp; try with_reducible rfl)
            simp only [Act.put, List.setIfInBounds_toArray, List.set_cons_zero, List.set_cons_succ]
            refine wpAnyH_take (i := 35) (oi := { dst := some 146, op := Op.binOp BinOp.neq 25 (Operand.tmp 145) (Operand.const (Value.int IntKind.i64 11)) 25, type := 4, pos := "law.go:51", after := #[{ on := 34, ground := Ground.data }, { on := 33, ground := Ground.guard }], guard := some (33, true) }) (v := ?_) rfl (by kernel_rfl) (by kernel_rfl) (by kernel_rfl) (fun _ _ _ h => h) (Or.inl ⟨by rfl, ?_⟩) S3.out ?_
            rotate_left
            · (intro w hw; obtain ⟨e0, e1, e2, e3, e4, e5, e6, e7, -⟩ := hw; go_simp; try with_reducible rfl)
            simp only [Act.put, List.setIfInBounds_toArray, List.set_cons_zero, List.set_cons_succ]
            refine wpAnyH_take (i := 36) (oi := { dst := some 147, op := Op.pick (Operand.tmp 144) (Operand.tmp 146) (Operand.const (Value.bool false)), type := 4, pos := "law.go:51", after := #[{ on := 33, ground := Ground.data }, { on := 35, ground := Ground.data }, { on := 30, ground := Ground.guard }], guard := some (30, false) }) (v := ?_) rfl (by kernel_rfl) (by kernel_rfl) (by kernel_rfl) (fun _ _ _ h => h) (Or.inl ⟨by rfl, ?_⟩) S3.out ?_
            rotate_left
            · (intro w hw; obtain ⟨e0, e1, e2, e3, e4, e5, e6, e7, -⟩ := hw; go_simp; try with_reducible rfl)
            simp only [Act.put, List.setIfInBounds_toArray, List.set_cons_zero, List.set_cons_succ]
            refine wpAnyH_take (i := 37) (oi := { dst := some 148, op := Op.pick (Operand.tmp 141) (Operand.const (Value.bool true)) (Operand.tmp 147), type := 4, pos := "law.go:51", after := #[{ on := 30, ground := Ground.data }, { on := 36, ground := Ground.data }], guard := none }) (v := ?_) rfl (by kernel_rfl) (by kernel_rfl) (by kernel_rfl) (fun _ _ _ h => h) (Or.inl ⟨by rfl, ?_⟩) S3.out ?_
            rotate_left
            · (intro w hw; obtain ⟨e0, e1, e2, e3, e4, e5, e6, e7, -⟩ := hw; go_simp; try with_reducible rfl)
            simp only [Act.put, List.setIfInBounds_toArray, List.set_cons_zero, List.set_cons_succ]
            refine wpAnyH_done (by kernel_rfl) ?_ _
            clear PD R0 R1 WA S1 S2 S3 B0 B1 B2 cv0 cv1
            try simp only [Act.put, List.setIfInBounds_toArray, List.set_cons_zero, List.set_cons_succ]
            go_wp2_with fail
            go_roundg (41 - i)
            case measure => omega
            case rel => exact ⟨i + 1, _, _, by omega, by omega, by simp, (ITH.out.below B3.out).mono (by omega)⟩
        | true =>
          obtain ⟨s, hs, rfl, rfl, rfl⟩ := fits_sup he0 hf
          have RF := Lib.hid (refFits_any (s.e : Nat) (s.a : Nat) (s.u : Nat))
          have FT := Lib.hid (fits_any (s.e : Nat) (s.a : Nat) (s.u : Nat))
          rw [hf] at RF FT
          have SO := Lib.hid hs
          clear hf hs he0
          go_wp2_with fail
          refine (RF.out _).mono ?_
          rintro r w5 ⟨rfl, b5⟩
          have I5 := Lib.hid (HI.out.below b5)
          clear b5 HI c0 c1 c2 RF
          obtain ⟨c0, c1, c2⟩ := CC.out _ I5.out.own.bel
          go_wp2_with fail
          refine (put_calm I5.out.own I5.out.calm (by omega) h1 (by omega) s SO.out).mono ?_
          rintro r w6 ⟨rfl, st6, o6, k6⟩
          have M6 := I5.out.two.still st6 (by decide) (by decide) (by decide)
          have L6 : ∀ k, (upd c (s.e % 2) s.bytes k).length ≤ size := fun k => by
            have := I5.out.len k
            have := SO.out.len.2
            unfold upd
            split <;> omega
          have O6 := Lib.hid o6
          have K6 := Lib.hid k6
          have N6 := Lib.hid M6
          have LN := Lib.hid L6
          clear st6 o6 k6 M6 L6 I5 c0 c1 c2
          obtain ⟨c0, c1, c2⟩ := CC.out _ O6.out.bel
          go_wp2_with fail
          refine (FT.out _).mono ?_
          rintro r w7 ⟨rfl, b7⟩
          have O7 := Lib.hid (O6.out.below b7)
          have N7 := Lib.hid (N6.out.below b7 N6.out.lt)
          clear b7 O6 N6 FT c0 c1 c2
          obtain ⟨c0, c1, c2⟩ := CC.out _ O7.out.bel
          go_wp2_with fail
          have RB : Hid (∀ W : World, Calls Try.prog 12 #[sup (s.e : Nat) (s.a : Nat) (s.u : Nat), .int .i64 (size : Nat)] W fun r w' => ∃ (A : Option Addr) (n : Nat), r = .returned (.slice A (size : Nat) n) ∧ Sem.run Try.prog (convert 33 9 (.slice A (size : Nat) n)) w' = .ok (.string ⟨(pad size s.bytes).toArray⟩) w' ∧ Below W.heap.size W w') := Lib.hid fun W => (refBytes_any s SO.out size h1 h2 W).mono fun r w' ⟨v, hv, hr, hb⟩ => by
            obtain ⟨A, n, e, k1, _⟩ := hr.shape
            have hp : (pad size s.bytes).length = size := pad_length size s.bytes (by have := SO.out.len.2; omega)
            rw [hp] at e
            have := conv_bytes k1 n
            rw [hp] at this
            exact ⟨A, n, by rw [hv, e], this, hb⟩
          have hab0 : ab < w.heap.size := by
            obtain ⟨_, _, e', h', _⟩ := hA.cell i hlt
            cases e'
            exact h'
          have hgab : g ≠ ab := by omega
          have QD : Hid (w7.drew.cell? ⟨ab, off + i * 3, none⟩ = some (.int .u32 (s.e : Nat)) ∧ w7.drew.cell? ⟨ab, off + i * 3 + 1, none⟩ = some (.int .i64 (s.a : Nat)) ∧ w7.drew.cell? ⟨ab, off + i * 3 + 2, none⟩ = some (.int .i64 (s.u : Nat)) ∧ ab < w7.drew.heap.size) := Lib.hid ⟨c0, c1, c2, Nat.lt_of_lt_of_le hab0 O7.out.bel.size⟩
          clear c0 c1 c2
          obtain ⟨k, hk⟩ : ∃ k, s.e % 2 = k := ⟨_, rfl⟩
          have hk2 : k < 2 := by omega
          refine wp_region_held_drew (S := fun W => W.cell? ⟨ab, off + i * 3, none⟩ = some (.int .u32 (s.e : Nat)) ∧ W.cell? ⟨ab, off + i * 3 + 1, none⟩ = some (.int .i64 (s.a : Nat)) ∧ W.cell? ⟨ab, off + i * 3 + 2, none⟩ = some (.int .i64 (s.u : Nat)) ∧ ab < W.heap.size) (by kernel_rfl) QD.out (fun _ => ?_)
          refine wpAnyH_take (i := 0) (oi := { dst := some 84, op := Op.move (Operand.tmp 1), type := 22, pos := "law.go:47", after := #[], guard := none }) (v := ?_) rfl (by kernel_rfl) (by kernel_rfl) (by kernel_rfl) (fun _ _ _ h => h) (Or.inl ⟨by rfl, ?_⟩) QD.out ?_
          rotate_left
          · (intro w hw; obtain ⟨e0, e1, e2, -⟩ := hw; go_simp; try with_reducible rfl)
          simp only [Act.put, List.setIfInBounds_toArray, List.set_cons_zero, List.set_cons_succ]
          refine wpAnyH_take (i := 1) (oi := { dst := some 85, op := Op.move (Operand.tmp 10), type := 3, pos := "law.go:47", after := #[], guard := none }) (v := ?_) rfl (by kernel_rfl) (by kernel_rfl) (by kernel_rfl) (fun _ _ _ h => h) (Or.inl ⟨by rfl, ?_⟩) QD.out ?_
          rotate_left
          · (intro w hw; obtain ⟨e0, e1, e2, -⟩ := hw; go_simp; try with_reducible rfl)
          simp only [Act.put, List.setIfInBounds_toArray, List.set_cons_zero, List.set_cons_succ]
          refine wpAnyH_take (i := 2) (oi := { dst := some 86, op := Op.indexAddr 22 (Operand.tmp 84) (Operand.tmp 85), type := 0, pos := "law.go:47", after := #[{ on := 0, ground := Ground.data }, { on := 1, ground := Ground.data }], guard := none }) (v := ?_) rfl (by kernel_rfl) (by kernel_rfl) (by kernel_rfl) (fun _ _ _ h => h) (Or.inl ⟨by rfl, ?_⟩) QD.out ?_
          rotate_left
          · (intro w hw; obtain ⟨e0, e1, e2, -⟩ := hw; go_simp; try with_reducible rfl)
          simp only [Act.put, List.setIfInBounds_toArray, List.set_cons_zero, List.set_cons_succ]
          refine wpAnyH_take (i := 3) (oi := { dst := some 87, op := Op.fieldAddr 30 (Operand.tmp 86) 0, type := 0, pos := "law.go:47", after := #[{ on := 2, ground := Ground.data }], guard := none }) (v := ?_) rfl (by kernel_rfl) (by kernel_rfl) (by kernel_rfl) (fun _ _ _ h => h) (Or.inl ⟨by rfl, ?_⟩) QD.out ?_
          rotate_left
          · (intro w hw; obtain ⟨e0, e1, e2, -⟩ := hw; go_simp; try with_reducible rfl)
          simp only [Act.put, List.setIfInBounds_toArray, List.set_cons_zero, List.set_cons_succ]
          refine wpAnyH_take (i := 4) (oi := { dst := some 88, op := Op.load 28 (Operand.tmp 87), type := 28, pos := "law.go:47", after := #[{ on := 3, ground := Ground.data }], guard := none }) (v := ?_) rfl (by kernel_rfl) (by kernel_rfl) (by kernel_rfl) (fun _ _ _ h => h) (Or.inl ⟨by rfl, ?_⟩) QD.out ?_
          rotate_left
          · (intro w hw; obtain ⟨e0, e1, e2, -⟩ := hw; go_simp; try with_reducible rfl)
          simp only [Act.put, List.setIfInBounds_toArray, List.set_cons_zero, List.set_cons_succ]
          refine wpAnyH_take (i := 5) (oi := { dst := some 89, op := Op.binOp BinOp.rem 28 (Operand.tmp 88) (Operand.const (Value.int IntKind.u32 2)) 28, type := 28, pos := "law.go:47", after := #[{ on := 4, ground := Ground.data }], guard := none }) (v := .int .u32 (k : Nat)) rfl (by kernel_rfl) (by kernel_rfl) (by kernel_rfl) (fun _ _ _ h => h) (Or.inl ⟨by rfl, ?_⟩) QD.out ?_
          · (intro w hw; obtain ⟨e0, e1, e2, -⟩ := hw; go_simp; rw [Int.tmod_eq_emod_of_nonneg (by omega)]; (try omega))
          simp only [Act.put, List.setIfInBounds_toArray, List.set_cons_zero, List.set_cons_succ]
          refine wpAnyH_take (i := 6) (oi := { dst := some 90, op := Op.move (Operand.tmp 1), type := 22, pos := "law.go:47", after := #[], guard := none }) (v := ?_) rfl (by kernel_rfl) (by kernel_rfl) (by kernel_rfl) (fun _ _ _ h => h) (Or.inl ⟨by rfl, ?_⟩) QD.out ?_
          rotate_left
          · (intro w hw; obtain ⟨e0, e1, e2, -⟩ := hw; go_simp; try with_reducible rfl)
          simp only [Act.put, List.setIfInBounds_toArray, List.set_cons_zero, List.set_cons_succ]
          refine wpAnyH_take (i := 7) (oi := { dst := some 91, op := Op.move (Operand.tmp 10), type := 3, pos := "law.go:47", after := #[], guard := none }) (v := ?_) rfl (by kernel_rfl) (by kernel_rfl) (by kernel_rfl) (fun _ _ _ h => h) (Or.inl ⟨by rfl, ?_⟩) QD.out ?_
          rotate_left
          · (intro w hw; obtain ⟨e0, e1, e2, -⟩ := hw; go_simp; try with_reducible rfl)
          simp only [Act.put, List.setIfInBounds_toArray, List.set_cons_zero, List.set_cons_succ]
          refine wpAnyH_take (i := 8) (oi := { dst := some 92, op := Op.indexAddr 22 (Operand.tmp 90) (Operand.tmp 91), type := 0, pos := "law.go:47", after := #[{ on := 6, ground := Ground.data }, { on := 7, ground := Ground.data }], guard := none }) (v := ?_) rfl (by kernel_rfl) (by kernel_rfl) (by kernel_rfl) (fun _ _ _ h => h) (Or.inl ⟨by rfl, ?_⟩) QD.out ?_
          rotate_left
          · (intro w hw; obtain ⟨e0, e1, e2, -⟩ := hw; go_simp; try with_reducible rfl)
          simp only [Act.put, List.setIfInBounds_toArray, List.set_cons_zero, List.set_cons_succ]
          refine wpAnyH_take (i := 9) (oi := { dst := some 93, op := Op.load 30 (Operand.tmp 92), type := 30, pos := "law.go:47", after := #[{ on := 8, ground := Ground.data }], guard := none }) (v := ?_) rfl (by kernel_rfl) (by kernel_rfl) (by kernel_rfl) (fun _ _ _ h => h) (Or.inl ⟨by rfl, ?_⟩) QD.out ?_
          rotate_left
          · (intro w hw; obtain ⟨e0, e1, e2, -⟩ := hw; go_simp; try with_reducible rfl)
          simp only [Act.put, List.setIfInBounds_toArray, List.set_cons_zero, List.set_cons_succ]
          refine wpAnyH_take (i := 10) (oi := { dst := some 94, op := Op.move (Operand.tmp 0), type := 3, pos := "law.go:47", after := #[], guard := none }) (v := ?_) rfl (by kernel_rfl) (by kernel_rfl) (by kernel_rfl) (fun _ _ _ h => h) (Or.inl ⟨by rfl, ?_⟩) QD.out ?_
          rotate_left
          · (intro w hw; obtain ⟨e0, e1, e2, -⟩ := hw; go_simp; try with_reducible rfl)
          simp only [Act.put, List.setIfInBounds_toArray, List.set_cons_zero, List.set_cons_succ]
          refine wpAnyH_ready (rs := [11]) (by kernel_rfl) (by simp) ?_
          refine AllReadyH.cons (o := { dst := some 95, op := Op.call { callee := Callee.value (Operand.func 12), args := #[Operand.tmp 93, Operand.tmp 94], argTypes := #[30, 3] }, type := 33, pos := "law.go:47", after := #[{ on := 9, ground := Ground.data }, { on := 10, ground := Ground.data }], guard := none }) rfl (fun K hK => ?_) AllReadyH.nil
          go_simp
          with_reducible refine (RB.out _).mono ?_
          rintro r w8 ⟨A8, n8, rfl, cv8, b8⟩
          have O8 := Lib.hid (O7.out.below ((Below.refl _ _).drew.trans b8))
          have N8 := N7.out.below ((Below.refl _ _).drew.trans b8) N7.out.lt
          have k0 : w8.cell? ⟨g, k, none⟩ = some (.string ⟨(pad size (c k)).toArray⟩) := by rcases (by omega : k = 0 ∨ k = 1) with rfl | rfl <;> exact N8.cell _
          have f0 := N8.frozen k
          have Q8 : Hid (w8.cell? ⟨ab, off + i * 3, none⟩ = some (.int .u32 (s.e : Nat)) ∧ w8.cell? ⟨ab, off + i * 3 + 1, none⟩ = some (.int .i64 (s.a : Nat)) ∧ w8.cell? ⟨ab, off + i * 3 + 2, none⟩ = some (.int .i64 (s.u : Nat)) ∧ ab < w8.heap.size) := Lib.hid (by obtain ⟨y0, y1, y2⟩ := CC.out _ O8.out.bel; exact ⟨y0, y1, y2, Nat.lt_of_lt_of_le hab0 O8.out.bel.size⟩)
          clear b8 O7 N7
          go_wp2_with fail
          refine hK.out _ _ Q8.out (fun _ => ?_)
          clear hK K
          try simp only [Act.put, List.setIfInBounds_toArray, List.set_cons_zero, List.set_cons_succ]
          refine wpAnyH_ready (rs := [12]) (by kernel_rfl) (by simp) ?_
          refine AllReadyH.cons (o := { dst := some 96, op := Op.convert 33 9 (Operand.tmp 95), type := 9, pos := "law.go:47", after := #[{ on := 11, ground := Ground.data }], guard := none }) rfl (fun K hK => ?_) AllReadyH.nil
          go_simp
          refine hK.out _ _ Q8.out (fun _ => ?_)
          clear hK K
          try simp only [Act.put, List.setIfInBounds_toArray, List.set_cons_zero, List.set_cons_succ]
          refine wpAnyH_take (i := 13) (oi := { dst := some 97, op := Op.indexAddr 34 (Operand.tmp 9) (Operand.tmp 89), type := 0, pos := "law.go:47", after := #[{ on := 5, ground := Ground.data }, { on := 0, ground := Ground.phase }, { on := 1, ground := Ground.phase }, { on := 2, ground := Ground.phase }, { on := 3, ground := Ground.phase }, { on := 4, ground := Ground.phase }, { on := 5, ground := Ground.phase }, { on := 6, ground := Ground.phase }, { on := 7, ground := Ground.phase }, { on := 8, ground := Ground.phase }, { on := 9, ground := Ground.phase }, { on := 10, ground := Ground.phase }, { on := 11, ground := Ground.phase }, { on := 12, ground := Ground.phase }], guard := none }) (v := .pointer (some ⟨g, k, none⟩)) rfl (by kernel_rfl) (by kernel_rfl) (by kernel_rfl) (fun _ _ _ h => h) (Or.inl ⟨by rfl, ?_⟩) Q8.out ?_
          · (intro w hw; obtain ⟨e0, e1, e2, -⟩ := hw; go_simp; intro hk3; omega)
          simp only [Act.put, List.setIfInBounds_toArray, List.set_cons_zero, List.set_cons_succ]
          refine wpAnyH_ready (rs := [14]) (by kernel_rfl) (by simp) ?_
          refine AllReadyH.cons (o := { dst := none, op := Op.store 9 (Operand.tmp 97) (Operand.tmp 96), type := 0, pos := "law.go:47", after := #[{ on := 13, ground := Ground.data }, { on := 12, ground := Ground.data }, { on := 11, ground := Ground.chain }, { on := 0, ground := Ground.phase }, { on := 1, ground := Ground.phase }, { on := 2, ground := Ground.phase }, { on := 3, ground := Ground.phase }, { on := 4, ground := Ground.phase }, { on := 5, ground := Ground.phase }, { on := 6, ground := Ground.phase }, { on := 7, ground := Ground.phase }, { on := 8, ground := Ground.phase }, { on := 9, ground := Ground.phase }, { on := 10, ground := Ground.phase }, { on := 11, ground := Ground.phase }, { on := 12, ground := Ground.phase }], guard := none }) rfl (fun K hK => ?_) AllReadyH.nil
          go_simp
          have Q9 : Hid ((w8.setCell ⟨g, k, none⟩ (.string ⟨(pad size s.bytes).toArray⟩)).cell? ⟨ab, off + i * 3, none⟩ = some (.int .u32 (s.e : Nat)) ∧ (w8.setCell ⟨g, k, none⟩ (.string ⟨(pad size s.bytes).toArray⟩)).cell? ⟨ab, off + i * 3 + 1, none⟩ = some (.int .i64 (s.a : Nat)) ∧ (w8.setCell ⟨g, k, none⟩ (.string ⟨(pad size s.bytes).toArray⟩)).cell? ⟨ab, off + i * 3 + 2, none⟩ = some (.int .i64 (s.u : Nat)) ∧ ab < (w8.setCell ⟨g, k, none⟩ (.string ⟨(pad size s.bytes).toArray⟩)).heap.size) := Lib.hid (by obtain ⟨y0, y1, y2, y3⟩ := Q8.out; exact ⟨(World.cell?_setCell_far _ _ _ _ hgab).trans y0, (World.cell?_setCell_far _ _ _ _ hgab).trans y1, (World.cell?_setCell_far _ _ _ _ hgab).trans y2, by simpa using y3⟩)
          refine hK.out _ _ Q9.out (fun _ => ?_)
          clear hK K
          try simp only [Act.put, List.setIfInBounds_toArray, List.set_cons_zero, List.set_cons_succ]
          refine wpAnyH_done (by kernel_rfl) ?_ _
          have I7 := Lib.hid (PInv.put O8.out K6.out N8 LN.out hk2 hk hg5)
          clear O8 K6 N8 LN QD Q8 Q9 RB SO k0 f0 cv8
          generalize w8.setCell ⟨g, k, none⟩ (.string ⟨(pad size s.bytes).toArray⟩) = w7 at *
          generalize (m.keep ((s.e % 2 : Nat) : Int) s.bytes) = M at *
          generalize (upd c (s.e % 2) s.bytes) = C at *
          obtain ⟨x, okb, hc, gt, rt, hcase⟩ := I7.out.len |> PInv.gets (w := w) (p := p) (g := g) (D := 2 * i + 2) (m := M) h1 h2
          have GT := Lib.hid gt
          have RT := Lib.hid rt
          clear gt rt
          go_wp2_with fail
          refine (GT.out _ I7).mono ?_
          rintro r w8 ⟨rfl, b8⟩
          have I8 := Lib.hid (I7.out.below b8)
          obtain ⟨m0, m1, gl, -⟩ := I8.out.cells
          have XC : Hid (Vars w8 (w8.alloc (.cells #[.int .u32 (x.e : Nat), .int .i64 (x.a : Nat), .int .i64 (x.u : Nat)] 30)) [(w8.heap.size, #[.int .u32 (x.e : Nat), .int .i64 (x.a : Nat), .int .i64 (x.u : Nat)])]) := Lib.hid (Vars.push (L := []) ⟨Below.refl _ _, by simp⟩ _)
          clear b8 I7 GT
          go_wp2_with fail
          refine (RT.out _).mono ?_
          rintro r w9 ⟨rfl, b9⟩
          have X9 := Lib.hid (XC.out.below b9)
          have I9 := Lib.hid (I8.out.below X9.out.1)
          clear b9 I8 RT XC m0 m1 gl
          obtain ⟨m0, m1, gl, -⟩ := I9.out.cells
          obtain ⟨x0, x1, x2, xl, -⟩ := X9.out.at (g := w8.heap.size) (a := .int .u32 (x.e : Nat)) (b := .int .i64 (x.a : Nat)) (c := .int .i64 (x.u : Nat)) (by simp)
          go_wp2_with fail
          have T9 := (X9.out.push #[.int .u32 (x.e : Nat), .int .i64 (x.a : Nat), .int .i64 (x.u : Nat)])
          have PS9 : PS (w9.alloc (.cells #[.int .u32 (x.e : Nat), .int .i64 (x.a : Nat), .int .i64 (x.u : Nat)] 30)) g w8.heap.size w9.heap.size ⟨(pad size (C 0)).toArray⟩ ⟨(pad size (C 1)).toArray⟩ x.e x.a x.u (w9.alloc (.cells #[.int .u32 (x.e : Nat), .int .i64 (x.a : Nat), .int .i64 (x.u : Nat)] 30)) := by
            obtain ⟨y0, y1, y2, yl, -⟩ := T9.at (g := w8.heap.size) (a := .int .u32 (x.e : Nat)) (b := .int .i64 (x.a : Nat)) (c := .int .i64 (x.u : Nat)) (by simp)
            obtain ⟨t0, t1, t2, tl, -⟩ := T9.at (g := w9.heap.size) (a := .int .u32 (x.e : Nat)) (b := .int .i64 (x.a : Nat)) (c := .int .i64 (x.u : Nat)) (by simp)
            obtain ⟨q0, q1, ql, -⟩ := (I9.out.below ((Below.refl _ _).alloc (Nat.le_refl _) (.cells #[.int .u32 (x.e : Nat), .int .i64 (x.a : Nat), .int .i64 (x.u : Nat)] 30))).cells
            exact ⟨q0, q1, y0, y1, y2, t0, t1, t2, ql, yl, tl, Below.refl _ _⟩
          have IT := I9.out.below ((Below.refl _ _).alloc (Nat.le_refl _) (.cells #[.int .u32 (x.e : Nat), .int .i64 (x.a : Nat), .int .i64 (x.u : Nat)] 30))
          generalize (w9.alloc (.cells #[.int .u32 (x.e : Nat), .int .i64 (x.a : Nat), .int .i64 (x.u : Nat)] 30)) = wT at *
          have R0 : Hid (∀ (W : World) (_ : Below wT.heap.size wT W), Calls Try.prog 14 #[.pointer (some ⟨p, 0, none⟩), .int .i64 0] W fun e w' => ∃ g', e = .returned (.slice (some ⟨g', 0, none⟩) size size) ∧ Sem.run Try.prog (convert 33 9 (.slice (some ⟨g', 0, none⟩) size size)) w' = .ok (.string ⟨(pad size (C 0)).toArray⟩) w' ∧ Below W.heap.size W w') := Lib.hid (IT.reads 0 (by omega))
          have R1 : Hid (∀ (W : World) (_ : Below wT.heap.size wT W), Calls Try.prog 14 #[.pointer (some ⟨p, 0, none⟩), .int .i64 1] W fun e w' => ∃ g', e = .returned (.slice (some ⟨g', 0, none⟩) size size) ∧ Sem.run Try.prog (convert 33 9 (.slice (some ⟨g', 0, none⟩) size size)) w' = .ok (.string ⟨(pad size (C 1)).toArray⟩) w' ∧ Below W.heap.size W w') := Lib.hid (IT.reads 1 (by omega))
          have WA := Lib.hid IT.waits
          have ITH := Lib.hid IT
          have PD := Lib.hid (PS9.on (Below.refl _ _).drew)
          clear T9 PS9 IT X9 I9 x0 x1 x2 xl m0 m1 gl CC hA hab
          generalize (pad size (C 0)).toArray = P0 at *
          generalize (pad size (C 1)).toArray = P1 at *
          generalize w8.heap.size = gx at *
          generalize w9.heap.size = gt at *
          have B0 : Hid (Below wT.heap.size wT wT.drew) := Lib.hid (Below.refl _ _).drew
          rcases hcase with ⟨rfl, rfl⟩ | ⟨rfl, rfl⟩
          · refine wp_region_held_drew (S := fun W => PS wT g gx gt ⟨P0⟩ ⟨P1⟩ x.e x.a x.u W) (by kernel_rfl) PD.out (fun _ => ?_)
            refine wpAnyH_take (i := 0) (oi := { dst := some 111, op := Op.move (Operand.tmp 5), type := 24, pos := "law.go:51", after := #[], guard := none }) (v := ?_) rfl (by kernel_rfl) (by kernel_rfl) (by kernel_rfl) (fun _ _ _ h => h) (Or.inl ⟨by rfl, ?_⟩) PD.out ?_
            rotate_left
            · (intro w hw; obtain ⟨e0, e1, e2, e3, e4, e5, e6, e7, -⟩ := hw; go_simp; try with_reducible rfl)
            simp only [Act.put, List.setIfInBounds_toArray, List.set_cons_zero, List.set_cons_succ]
            refine wpAnyH_take (i := 3) (oi := { dst := some 114, op := Op.indexAddr 34 (Operand.tmp 9) (Operand.const (Value.int IntKind.i64 0)), type := 0, pos := "law.go:51", after := #[], guard := none }) (v := ?_) rfl (by kernel_rfl) (by kernel_rfl) (by kernel_rfl) (fun _ _ _ h => h) (Or.inl ⟨by rfl, ?_⟩) PD.out ?_
            rotate_left
            · (intro w hw; obtain ⟨e0, e1, e2, e3, e4, e5, e6, e7, -⟩ := hw; go_simp; try with_reducible rfl)
            simp only [Act.put, List.setIfInBounds_toArray, List.set_cons_zero, List.set_cons_succ]
            refine wpAnyH_take (i := 4) (oi := { dst := some 115, op := Op.load 9 (Operand.tmp 114), type := 9, pos := "law.go:51", after := #[{ on := 3, ground := Ground.data }], guard := none }) (v := ?_) rfl (by kernel_rfl) (by kernel_rfl) (by kernel_rfl) (fun _ _ _ h => h) (Or.inl ⟨by rfl, ?_⟩) PD.out ?_
            rotate_left
            · (intro w hw; obtain ⟨e0, e1, e2, e3, e4, e5, e6, e7, -⟩ := hw; go_simp; try with_reducible rfl)
            simp only [Act.put, List.setIfInBounds_toArray, List.set_cons_zero, List.set_cons_succ]
            refine wpAnyH_ready (rs := [1]) (by kernel_rfl) (by simp) ?_
            refine AllReadyH.cons (o := { dst := some 112, op := Op.call { callee := Callee.value (Operand.func 14), args := #[Operand.tmp 111, Operand.const (Value.int IntKind.i64 0)], argTypes := #[24, 3] }, type := 33, pos := "law.go:51", after := #[{ on := 0, ground := Ground.data }], guard := none }) rfl (fun K hK => ?_) AllReadyH.nil
            go_simp
            with_reducible refine (R0.out _ B0.out).mono ?_
            rintro r w10 ⟨g0, rfl, cv0, b10⟩
            have B1 := Lib.hid (below_next B0.out b10)
            have S1 := Lib.hid (PD.out.on b10)
            clear b10
            go_wp2_with fail
            refine hK.out _ _ S1.out (fun _ => ?_)
            clear hK K
            try simp only [Act.put, List.setIfInBounds_toArray, List.set_cons_zero, List.set_cons_succ]
            refine wpAnyH_ready (rs := [2]) (by kernel_rfl) (by simp) ?_
            refine AllReadyH.cons (o := { dst := some 113, op := Op.convert 33 9 (Operand.tmp 112), type := 9, pos := "law.go:51", after := #[{ on := 1, ground := Ground.data }], guard := none }) rfl (fun K hK => ?_) AllReadyH.nil
            go_simp
            refine hK.out _ _ S1.out (fun _ => ?_)
            clear hK K
            try simp only [Act.put, List.setIfInBounds_toArray, List.set_cons_zero, List.set_cons_succ]
            refine wpAnyH_take (i := 5) (oi := { dst := some 116, op := Op.binOp BinOp.neq 9 (Operand.tmp 113) (Operand.tmp 115) 9, type := 4, pos := "law.go:51", after := #[{ on := 2, ground := Ground.data }, { on := 4, ground := Ground.data }], guard := none }) (v := ?_) rfl (by kernel_rfl) (by kernel_rfl) (by kernel_rfl) (fun _ _ _ h => h) (Or.inl ⟨by rfl, ?_⟩) S1.out ?_
            rotate_left
            · (intro w hw; obtain ⟨e0, e1, e2, e3, e4, e5, e6, e7, -⟩ := hw; go_simp; try with_reducible rfl)
            simp only [Act.put, List.setIfInBounds_toArray, List.set_cons_zero, List.set_cons_succ]
            refine wpAnyH_take (i := 6) (oi := { dst := some 117, op := Op.move (Operand.tmp 116), type := 4, pos := "law.go:51", after := #[{ on := 5, ground := Ground.data }, { on := 1, ground := Ground.chain }], guard := none }) (v := ?_) rfl (by kernel_rfl) (by kernel_rfl) (by kernel_rfl) (fun _ _ _ h => h) (Or.inl ⟨by rfl, ?_⟩) S1.out ?_
            rotate_left
            · (intro w hw; obtain ⟨e0, e1, e2, e3, e4, e5, e6, e7, -⟩ := hw; go_simp; try with_reducible rfl)
            simp only [Act.put, List.setIfInBounds_toArray, List.set_cons_zero, List.set_cons_succ]
            refine wpAnyH_take (i := 7) (oi := { dst := some 118, op := Op.move (Operand.tmp 5), type := 24, pos := "law.go:51", after := #[{ on := 6, ground := Ground.guard }], guard := some (6, false) }) (v := ?_) rfl (by kernel_rfl) (by kernel_rfl) (by kernel_rfl) (fun _ _ _ h => h) (Or.inl ⟨by rfl, ?_⟩) S1.out ?_
            rotate_left
            · (intro w hw; obtain ⟨e0, e1, e2, e3, e4, e5, e6, e7, -⟩ := hw; go_simp; try with_reducible rfl)
            simp only [Act.put, List.setIfInBounds_toArray, List.set_cons_zero, List.set_cons_succ]
            refine wpAnyH_take (i := 10) (oi := { dst := some 121, op := Op.indexAddr 34 (Operand.tmp 9) (Operand.const (Value.int IntKind.i64 1)), type := 0, pos := "law.go:51", after := #[{ on := 6, ground := Ground.guard }], guard := some (6, false) }) (v := ?_) rfl (by kernel_rfl) (by kernel_rfl) (by kernel_rfl) (fun _ _ _ h => h) (Or.inl ⟨by rfl, ?_⟩) S1.out ?_
            rotate_left
            · (intro w hw; obtain ⟨e0, e1, e2, e3, e4, e5, e6, e7, -⟩ := hw; go_simp; try with_reducible rfl)
            simp only [Act.put, List.setIfInBounds_toArray, List.set_cons_zero, List.set_cons_succ]
            refine wpAnyH_take (i := 11) (oi := { dst := some 122, op := Op.load 9 (Operand.tmp 121), type := 9, pos := "law.go:51", after := #[{ on := 10, ground := Ground.data }, { on := 6, ground := Ground.guard }], guard := some (6, false) }) (v := ?_) rfl (by kernel_rfl) (by kernel_rfl) (by kernel_rfl) (fun _ _ _ h => h) (Or.inl ⟨by rfl, ?_⟩) S1.out ?_
            rotate_left
            · (intro w hw; obtain ⟨e0, e1, e2, e3, e4, e5, e6, e7, -⟩ := hw; go_simp; try with_reducible rfl)
            simp only [Act.put, List.setIfInBounds_toArray, List.set_cons_zero, List.set_cons_succ]
            refine wpAnyH_ready (rs := [8]) (by kernel_rfl) (by simp) ?_
            refine AllReadyH.cons (o := { dst := some 119, op := Op.call { callee := Callee.value (Operand.func 14), args := #[Operand.tmp 118, Operand.const (Value.int IntKind.i64 1)], argTypes := #[24, 3] }, type := 33, pos := "law.go:51", after := #[{ on := 7, ground := Ground.data }, { on := 6, ground := Ground.chain }, { on := 6, ground := Ground.guard }], guard := some (6, false) }) rfl (fun K hK => ?_) AllReadyH.nil
            go_simp
            with_reducible refine (R1.out _ B1.out).mono ?_
            rintro r w11 ⟨g1, rfl, cv1, b11⟩
            have B2 := Lib.hid (below_next B1.out b11)
            have S2 := Lib.hid (S1.out.on b11)
            clear b11
            go_wp2_with fail
            refine hK.out _ _ S2.out (fun _ => ?_)
            clear hK K
            try simp only [Act.put, List.setIfInBounds_toArray, List.set_cons_zero, List.set_cons_succ]
            refine wpAnyH_ready (rs := [9]) (by kernel_rfl) (by simp) ?_
            refine AllReadyH.cons (o := { dst := some 120, op := Op.convert 33 9 (Operand.tmp 119), type := 9, pos := "law.go:51", after := #[{ on := 8, ground := Ground.data }, { on := 6, ground := Ground.guard }], guard := some (6, false) }) rfl (fun K hK => ?_) AllReadyH.nil
            go_simp
            refine hK.out _ _ S2.out (fun _ => ?_)
            clear hK K
            try simp only [Act.put, List.setIfInBounds_toArray, List.set_cons_zero, List.set_cons_succ]
            refine wpAnyH_take (i := 12) (oi := { dst := some 123, op := Op.binOp BinOp.neq 9 (Operand.tmp 120) (Operand.tmp 122) 9, type := 4, pos := "law.go:51", after := #[{ on := 9, ground := Ground.data }, { on := 11, ground := Ground.data }, { on := 6, ground := Ground.guard }], guard := some (6, false) }) (v := ?_) rfl (by kernel_rfl) (by kernel_rfl) (by kernel_rfl) (fun _ _ _ h => h) (Or.inl ⟨by rfl, ?_⟩) S2.out ?_
            rotate_left
            · (intro w hw; obtain ⟨e0, e1, e2, e3, e4, e5, e6, e7, -⟩ := hw; go_simp; try with_reducible rfl)
            simp only [Act.put, List.setIfInBounds_toArray, List.set_cons_zero, List.set_cons_succ]
            refine wpAnyH_take (i := 13) (oi := { dst := some 124, op := Op.pick (Operand.tmp 117) (Operand.const (Value.bool true)) (Operand.tmp 123), type := 4, pos := "law.go:51", after := #[{ on := 6, ground := Ground.data }, { on := 12, ground := Ground.data }], guard := none }) (v := ?_) rfl (by kernel_rfl) (by kernel_rfl) (by kernel_rfl) (fun _ _ _ h => h) (Or.inl ⟨by rfl, ?_⟩) S2.out ?_
            rotate_left
            · (intro w hw; obtain ⟨e0, e1, e2, e3, e4, e5, e6, e7, -⟩ := hw; go_simp; try with_reducible rfl)
            simp only [Act.put, List.setIfInBounds_toArray, List.set_cons_zero, List.set_cons_succ]
            refine wpAnyH_take (i := 14) (oi := { dst := some 125, op := Op.move (Operand.tmp 124), type := 4, pos := "law.go:51", after := #[{ on := 13, ground := Ground.data }, { on := 8, ground := Ground.chain }], guard := none }) (v := ?_) rfl (by kernel_rfl) (by kernel_rfl) (by kernel_rfl) (fun _ _ _ h => h) (Or.inl ⟨by rfl, ?_⟩) S2.out ?_
            rotate_left
            · (intro w hw; obtain ⟨e0, e1, e2, e3, e4, e5, e6, e7, -⟩ := hw; go_simp; try with_reducible rfl)
            simp only [Act.put, List.setIfInBounds_toArray, List.set_cons_zero, List.set_cons_succ]
            refine wpAnyH_take (i := 15) (oi := { dst := some 126, op := Op.move (Operand.tmp 5), type := 24, pos := "law.go:51", after := #[{ on := 14, ground := Ground.guard }], guard := some (14, false) }) (v := ?_) rfl (by kernel_rfl) (by kernel_rfl) (by kernel_rfl) (fun _ _ _ h => h) (Or.inl ⟨by rfl, ?_⟩) S2.out ?_
            rotate_left
            · (intro w hw; obtain ⟨e0, e1, e2, e3, e4, e5, e6, e7, -⟩ := hw; go_simp; try with_reducible rfl)
            simp only [Act.put, List.setIfInBounds_toArray, List.set_cons_zero, List.set_cons_succ]
            refine wpAnyH_ready (rs := [16]) (by kernel_rfl) (by simp) ?_
            refine AllReadyH.cons (o := { dst := some 127, op := Op.call { callee := Callee.value (Operand.func 15), args := #[Operand.tmp 126], argTypes := #[24] }, type := 3, pos := "law.go:51", after := #[{ on := 15, ground := Ground.data }, { on := 14, ground := Ground.chain }, { on := 14, ground := Ground.guard }], guard := some (14, false) }) rfl (fun K hK => ?_) AllReadyH.nil
            go_simp
            with_reducible refine (WA.out _ B2.out).mono ?_
            rintro r w12 ⟨rfl, hw12⟩
            have S3 : Hid (PS wT g gx gt ⟨P0⟩ ⟨P1⟩ x.e x.a x.u w12) := by rw [hw12]; exact S2
            have B3 : Hid (Below wT.heap.size wT w12) := by rw [hw12]; exact B2
            clear hw12
            go_wp2_with fail
            refine hK.out _ _ S3.out (fun _ => ?_)
            clear hK K
            try simp only [Act.put, List.setIfInBounds_toArray, List.set_cons_zero, List.set_cons_succ]
            refine wpAnyH_take (i := 17) (oi := { dst := some 128, op := Op.binOp BinOp.neq 3 (Operand.tmp 127) (Operand.const (Value.int IntKind.i64 0)) 3, type := 4, pos := "law.go:51", after := #[{ on := 16, ground := Ground.data }, { on := 14, ground := Ground.guard }], guard := some (14, false) }) (v := ?_) rfl (by kernel_rfl) (by kernel_rfl) (by kernel_rfl) (fun _ _ _ h => h) (Or.inl ⟨by rfl, ?_⟩) S3.out ?_
            rotate_left
            · (intro w hw; obtain ⟨e0, e1, e2, e3, e4, e5, e6, e7, -⟩ := hw; go_simp; try with_reducible rfl)
            simp only [Act.put, List.setIfInBounds_toArray, List.set_cons_zero, List.set_cons_succ]
            refine wpAnyH_take (i := 18) (oi := { dst := some 129, op := Op.pick (Operand.tmp 125) (Operand.const (Value.bool true)) (Operand.tmp 128), type := 4, pos := "law.go:51", after := #[{ on := 14, ground := Ground.data }, { on := 17, ground := Ground.data }], guard := none }) (v := ?_) rfl (by kernel_rfl) (by kernel_rfl) (by kernel_rfl) (fun _ _ _ h => h) (Or.inl ⟨by rfl, ?_⟩) S3.out ?_
            rotate_left
            · (intro w hw; obtain ⟨e0, e1, e2, e3, e4, e5, e6, e7, -⟩ := hw; go_simp; try with_reducible rfl)
            simp only [Act.put, List.setIfInBounds_toArray, List.set_cons_zero, List.set_cons_succ]
            refine wpAnyH_take (i := 19) (oi := { dst := some 130, op := Op.move (Operand.tmp 129), type := 4, pos := "law.go:51", after := #[{ on := 18, ground := Ground.data }, { on := 16, ground := Ground.chain }], guard := none }) (v := ?_) rfl (by kernel_rfl) (by kernel_rfl) (by kernel_rfl) (fun _ _ _ h => h) (Or.inl ⟨by rfl, ?_⟩) S3.out ?_
            rotate_left
            · (intro w hw; obtain ⟨e0, e1, e2, e3, e4, e5, e6, e7, -⟩ := hw; go_simp; try with_reducible rfl)
            simp only [Act.put, List.setIfInBounds_toArray, List.set_cons_zero, List.set_cons_succ]
            refine wpAnyH_take (i := 20) (oi := { dst := some 131, op := Op.load 30 (Operand.tmp 13), type := 30, pos := "law.go:51", after := #[{ on := 19, ground := Ground.guard }], guard := some (19, false) }) (v := ?_) rfl (by kernel_rfl) (by kernel_rfl) (by kernel_rfl) (fun _ _ _ h => h) (Or.inl ⟨by rfl, ?_⟩) S3.out ?_
            rotate_left
            · (intro w hw; obtain ⟨e0, e1, e2, e3, e4, e5, e6, e7, -⟩ := hw; go_simp; try with_reducible rfl)
            simp only [Act.put, List.setIfInBounds_toArray, List.set_cons_zero, List.set_cons_succ]
            refine wpAnyH_take (i := 21) (oi := { dst := some 132, op := Op.load 30 (Operand.tmp 15), type := 30, pos := "law.go:51", after := #[{ on := 19, ground := Ground.guard }], guard := some (19, false) }) (v := ?_) rfl (by kernel_rfl) (by kernel_rfl) (by kernel_rfl) (fun _ _ _ h => h) (Or.inl ⟨by rfl, ?_⟩) S3.out ?_
            rotate_left
            · (intro w hw; obtain ⟨e0, e1, e2, e3, e4, e5, e6, e7, -⟩ := hw; go_simp; try with_reducible rfl)
            simp only [Act.put, List.setIfInBounds_toArray, List.set_cons_zero, List.set_cons_succ]
            refine wpAnyH_take (i := 22) (oi := { dst := some 133, op := Op.binOp BinOp.neq 30 (Operand.tmp 131) (Operand.tmp 132) 30, type := 4, pos := "law.go:51", after := #[{ on := 20, ground := Ground.data }, { on := 21, ground := Ground.data }, { on := 19, ground := Ground.guard }], guard := some (19, false) }) (v := ?_) rfl (by kernel_rfl) (by kernel_rfl) (by kernel_rfl) (fun _ _ _ h => h) (Or.inl ⟨by rfl, ?_⟩) S3.out ?_
            rotate_left
            · (intro w hw; obtain ⟨e0, e1, e2, e3, e4, e5, e6, e7, -⟩ := hw; go_simp; try with_reducible rfl)
            simp only [Act.put, List.setIfInBounds_toArray, List.set_cons_zero, List.set_cons_succ]
            refine wpAnyH_take (i := 23) (oi := { dst := some 134, op := Op.pick (Operand.tmp 130) (Operand.const (Value.bool true)) (Operand.tmp 133), type := 4, pos := "law.go:51", after := #[{ on := 19, ground := Ground.data }, { on := 22, ground := Ground.data }], guard := none }) (v := ?_) rfl (by kernel_rfl) (by kernel_rfl) (by kernel_rfl) (fun _ _ _ h => h) (Or.inl ⟨by rfl, ?_⟩) S3.out ?_
            rotate_left
            · (intro w hw; obtain ⟨e0, e1, e2, e3, e4, e5, e6, e7, -⟩ := hw; go_simp; try with_reducible rfl)
            simp only [Act.put, List.setIfInBounds_toArray, List.set_cons_zero, List.set_cons_succ]
            refine wpAnyH_take (i := 24) (oi := { dst := some 135, op := Op.move (Operand.tmp 134), type := 4, pos := "law.go:51", after := #[{ on := 23, ground := Ground.data }, { on := 19, ground := Ground.chain }], guard := none }) (v := ?_) rfl (by kernel_rfl) (by kernel_rfl) (by kernel_rfl) (fun _ _ _ h => h) (Or.inl ⟨by rfl, ?_⟩) S3.out ?_
            rotate_left
            · (intro w hw; obtain ⟨e0, e1, e2, e3, e4, e5, e6, e7, -⟩ := hw; go_simp; try with_reducible rfl)
            simp only [Act.put, List.setIfInBounds_toArray, List.set_cons_zero, List.set_cons_succ]
            refine wpAnyH_take (i := 25) (oi := { dst := some 136, op := Op.move (Operand.tmp 16), type := 4, pos := "law.go:51", after := #[{ on := 24, ground := Ground.guard }], guard := some (24, false) }) (v := ?_) rfl (by kernel_rfl) (by kernel_rfl) (by kernel_rfl) (fun _ _ _ h => h) (Or.inl ⟨by rfl, ?_⟩) S3.out ?_
            rotate_left
            · (intro w hw; obtain ⟨e0, e1, e2, e3, e4, e5, e6, e7, -⟩ := hw; go_simp; try with_reducible rfl)
            simp only [Act.put, List.setIfInBounds_toArray, List.set_cons_zero, List.set_cons_succ]
            refine wpAnyH_take (i := 26) (oi := { dst := some 137, op := Op.move (Operand.tmp 14), type := 25, pos := "law.go:51", after := #[{ on := 24, ground := Ground.guard }], guard := some (24, false) }) (v := ?_) rfl (by kernel_rfl) (by kernel_rfl) (by kernel_rfl) (fun _ _ _ h => h) (Or.inl ⟨by rfl, ?_⟩) S3.out ?_
            rotate_left
            · (intro w hw; obtain ⟨e0, e1, e2, e3, e4, e5, e6, e7, -⟩ := hw; go_simp; try with_reducible rfl)
            simp only [Act.put, List.setIfInBounds_toArray, List.set_cons_zero, List.set_cons_succ]
            refine wpAnyH_take (i := 27) (oi := { dst := some 138, op := Op.binOp BinOp.eql 25 (Operand.tmp 137) (Operand.const (Value.int IntKind.i64 0)) 25, type := 4, pos := "law.go:51", after := #[{ on := 26, ground := Ground.data }, { on := 24, ground := Ground.guard }], guard := some (24, false) }) (v := ?_) rfl (by kernel_rfl) (by kernel_rfl) (by kernel_rfl) (fun _ _ _ h => h) (Or.inl ⟨by rfl, ?_⟩) S3.out ?_
            rotate_left
            · (intro w hw; obtain ⟨e0, e1, e2, e3, e4, e5, e6, e7, -⟩ := hw; go_simp; try with_reducible rfl)
            simp only [Act.put, List.setIfInBounds_toArray, List.set_cons_zero, List.set_cons_succ]
            refine wpAnyH_take (i := 28) (oi := { dst := some 139, op := Op.binOp BinOp.neq 4 (Operand.tmp 136) (Operand.tmp 138) 4, type := 4, pos := "law.go:51", after := #[{ on := 25, ground := Ground.data }, { on := 27, ground := Ground.data }, { on := 24, ground := Ground.guard }], guard := some (24, false) }) (v := ?_) rfl (by kernel_rfl) (by kernel_rfl) (by kernel_rfl) (fun _ _ _ h => h) (Or.inl ⟨by rfl, ?_⟩) S3.out ?_
            rotate_left
            · (intro w hw; obtain ⟨e0, e1, e2, e3, e4, e5, e6, e7, -⟩ := hw; go_simp; try with_reducible rfl)
            simp only [Act.put, List.setIfInBounds_toArray, List.set_cons_zero, List.set_cons_succ]
            refine wpAnyH_take (i := 29) (oi := { dst := some 140, op := Op.pick (Operand.tmp 135) (Operand.const (Value.bool true)) (Operand.tmp 139), type := 4, pos := "law.go:51", after := #[{ on := 24, ground := Ground.data }, { on := 28, ground := Ground.data }], guard := none }) (v := ?_) rfl (by kernel_rfl) (by kernel_rfl) (by kernel_rfl) (fun _ _ _ h => h) (Or.inl ⟨by rfl, ?_⟩) S3.out ?_
            rotate_left
            · (intro w hw; obtain ⟨e0, e1, e2, e3, e4, e5, e6, e7, -⟩ := hw; go_simp; try with_reducible rfl)
            simp only [Act.put, List.setIfInBounds_toArray, List.set_cons_zero, List.set_cons_succ]
            refine wpAnyH_take (i := 30) (oi := { dst := some 141, op := Op.move (Operand.tmp 140), type := 4, pos := "law.go:51", after := #[{ on := 29, ground := Ground.data }, { on := 24, ground := Ground.chain }], guard := none }) (v := ?_) rfl (by kernel_rfl) (by kernel_rfl) (by kernel_rfl) (fun _ _ _ h => h) (Or.inl ⟨by rfl, ?_⟩) S3.out ?_
            rotate_left
            · (intro w hw; obtain ⟨e0, e1, e2, e3, e4, e5, e6, e7, -⟩ := hw; go_simp; try with_reducible rfl)
            simp only [Act.put, List.setIfInBounds_toArray, List.set_cons_zero, List.set_cons_succ]
            refine wpAnyH_take (i := 31) (oi := { dst := some 142, op := Op.move (Operand.tmp 16), type := 4, pos := "law.go:51", after := #[{ on := 30, ground := Ground.guard }], guard := some (30, false) }) (v := ?_) rfl (by kernel_rfl) (by kernel_rfl) (by kernel_rfl) (fun _ _ _ h => h) (Or.inl ⟨by rfl, ?_⟩) S3.out ?_
            rotate_left
            · (intro w hw; obtain ⟨e0, e1, e2, e3, e4, e5, e6, e7, -⟩ := hw; go_simp; try with_reducible rfl)
            simp only [Act.put, List.setIfInBounds_toArray, List.set_cons_zero, List.set_cons_succ]
            refine wpAnyH_take (i := 32) (oi := { dst := some 143, op := Op.unOp UnOp.not 4 (Operand.tmp 142), type := 4, pos := "law.go:51", after := #[{ on := 31, ground := Ground.data }, { on := 30, ground := Ground.guard }], guard := some (30, false) }) (v := ?_) rfl (by kernel_rfl) (by kernel_rfl) (by kernel_rfl) (fun _ _ _ h => h) (Or.inl ⟨by rfl, ?_⟩) S3.out ?_
            rotate_left
            · (intro w hw; obtain ⟨e0, e1, e2, e3, e4, e5, e6, e7, -⟩ := hw; go_simp; try with_reducible rfl)
            simp only [Act.put, List.setIfInBounds_toArray, List.set_cons_zero, List.set_cons_succ]
            refine wpAnyH_take (i := 33) (oi := { dst := some 144, op := Op.move (Operand.tmp 143), type := 4, pos := "law.go:51", after := #[{ on := 32, ground := Ground.data }, { on := 30, ground := Ground.chain }, { on := 30, ground := Ground.guard }], guard := some (30, false) }) (v := ?_) rfl (by kernel_rfl) (by kernel_rfl) (by kernel_rfl) (fun _ _ _ h => h) (Or.inl ⟨by rfl, ?_⟩) S3.out ?_
            rotate_left
            · (intro w hw; obtain ⟨e0, e1, e2, e3, e4, e5, e6, e7, -⟩ := hw; go_simp; try with_reducible rfl)
            simp only [Act.put, List.setIfInBounds_toArray, List.set_cons_zero, List.set_cons_succ]
            refine wpAnyH_take (i := 34) (oi := { dst := some 145, op := Op.move (Operand.tmp 14), type := 25, pos := "law.go:51", after := #[{ on := 33, ground := Ground.guard }], guard := some (33, true) }) (v := undef) rfl (by kernel_rfl) (by kernel_rfl) (by kernel_rfl) (fun _ _ _ h => h) (Or.inr ⟨by kernel_rfl, rfl⟩) S3.out ?_
            simp only [Act.put, List.setIfInBounds_toArray, List.set_cons_zero, List.set_cons_succ]
            refine wpAnyH_take (i := 35) (oi := { dst := some 146, op := Op.binOp BinOp.neq 25 (Operand.tmp 145) (Operand.const (Value.int IntKind.i64 11)) 25, type := 4, pos := "law.go:51", after := #[{ on := 34, ground := Ground.data }, { on := 33, ground := Ground.guard }], guard := some (33, true) }) (v := undef) rfl (by kernel_rfl) (by kernel_rfl) (by kernel_rfl) (fun _ _ _ h => h) (Or.inr ⟨by kernel_rfl, rfl⟩) S3.out ?_
            simp only [Act.put, List.setIfInBounds_toArray, List.set_cons_zero, List.set_cons_succ]
            refine wpAnyH_take (i := 36) (oi := { dst := some 147, op := Op.pick (Operand.tmp 144) (Operand.tmp 146) (Operand.const (Value.bool false)), type := 4, pos := "law.go:51", after := #[{ on := 33, ground := Ground.data }, { on := 35, ground := Ground.data }, { on := 30, ground := Ground.guard }], guard := some (30, false) }) (v := ?_) rfl (by kernel_rfl) (by kernel_rfl) (by kernel_rfl) (fun _ _ _ h => h) (Or.inl ⟨by rfl, ?_⟩) S3.out ?_
            rotate_left
            · (intro w hw; obtain ⟨e0, e1, e2, e3, e4, e5, e6, e7, -⟩ := hw; go_simp; try with_reducible rfl)
            simp only [Act.put, List.setIfInBounds_toArray, List.set_cons_zero, List.set_cons_succ]
            refine wpAnyH_take (i := 37) (oi := { dst := some 148, op := Op.pick (Operand.tmp 141) (Operand.const (Value.bool true)) (Operand.tmp 147), type := 4, pos := "law.go:51", after := #[{ on := 30, ground := Ground.data }, { on := 36, ground := Ground.data }], guard := none }) (v := ?_) rfl (by kernel_rfl) (by kernel_rfl) (by kernel_rfl) (fun _ _ _ h => h) (Or.inl ⟨by rfl, ?_⟩) S3.out ?_
            rotate_left
            · (intro w hw; obtain ⟨e0, e1, e2, e3, e4, e5, e6, e7, -⟩ := hw; go_simp; try with_reducible rfl)
            simp only [Act.put, List.setIfInBounds_toArray, List.set_cons_zero, List.set_cons_succ]
            refine wpAnyH_done (by kernel_rfl) ?_ _
            clear PD R0 R1 WA S1 S2 S3 B0 B1 B2 cv0 cv1
            try simp only [Act.put, List.setIfInBounds_toArray, List.set_cons_zero, List.set_cons_succ]
            go_wp2_with fail
            go_roundg (41 - i)
            case measure => omega
            case rel => exact ⟨i + 1, _, _, by omega, by omega, by simp, (ITH.out.below B3.out).mono (by omega)⟩
          · refine wp_region_held_drew (S := fun W => PS wT g gx gt ⟨P0⟩ ⟨P1⟩ x.e x.a x.u W) (by kernel_rfl) PD.out (fun _ => ?_)
            refine wpAnyH_take (i := 0) (oi := { dst := some 111, op := Op.move (Operand.tmp 5), type := 24, pos := "law.go:51", after := #[], guard := none }) (v := ?_) rfl (by kernel_rfl) (by kernel_rfl) (by kernel_rfl) (fun _ _ _ h => h) (Or.inl ⟨by rfl, ?_⟩) PD.out ?_
            rotate_left
            · (intro w hw; obtain ⟨e0, e1, e2, e3, e4, e5, e6, e7, -⟩ := hw; go_simp; try with_reducible rfl)
            simp only [Act.put, List.setIfInBounds_toArray, List.set_cons_zero, List.set_cons_succ]
            refine wpAnyH_take (i := 3) (oi := { dst := some 114, op := Op.indexAddr 34 (Operand.tmp 9) (Operand.const (Value.int IntKind.i64 0)), type := 0, pos := "law.go:51", after := #[], guard := none }) (v := ?_) rfl (by kernel_rfl) (by kernel_rfl) (by kernel_rfl) (fun _ _ _ h => h) (Or.inl ⟨by rfl, ?_⟩) PD.out ?_
            rotate_left
            · (intro w hw; obtain ⟨e0, e1, e2, e3, e4, e5, e6, e7, -⟩ := hw; go_simp; try with_reducible rfl)
            simp only [Act.put, List.setIfInBounds_toArray, List.set_cons_zero, List.set_cons_succ]
            refine wpAnyH_take (i := 4) (oi := { dst := some 115, op := Op.load 9 (Operand.tmp 114), type := 9, pos := "law.go:51", after := #[{ on := 3, ground := Ground.data }], guard := none }) (v := ?_) rfl (by kernel_rfl) (by kernel_rfl) (by kernel_rfl) (fun _ _ _ h => h) (Or.inl ⟨by rfl, ?_⟩) PD.out ?_
            rotate_left
            · (intro w hw; obtain ⟨e0, e1, e2, e3, e4, e5, e6, e7, -⟩ := hw; go_simp; try with_reducible rfl)
            simp only [Act.put, List.setIfInBounds_toArray, List.set_cons_zero, List.set_cons_succ]
            refine wpAnyH_ready (rs := [1]) (by kernel_rfl) (by simp) ?_
            refine AllReadyH.cons (o := { dst := some 112, op := Op.call { callee := Callee.value (Operand.func 14), args := #[Operand.tmp 111, Operand.const (Value.int IntKind.i64 0)], argTypes := #[24, 3] }, type := 33, pos := "law.go:51", after := #[{ on := 0, ground := Ground.data }], guard := none }) rfl (fun K hK => ?_) AllReadyH.nil
            go_simp
            with_reducible refine (R0.out _ B0.out).mono ?_
            rintro r w10 ⟨g0, rfl, cv0, b10⟩
            have B1 := Lib.hid (below_next B0.out b10)
            have S1 := Lib.hid (PD.out.on b10)
            clear b10
            go_wp2_with fail
            refine hK.out _ _ S1.out (fun _ => ?_)
            clear hK K
            try simp only [Act.put, List.setIfInBounds_toArray, List.set_cons_zero, List.set_cons_succ]
            refine wpAnyH_ready (rs := [2]) (by kernel_rfl) (by simp) ?_
            refine AllReadyH.cons (o := { dst := some 113, op := Op.convert 33 9 (Operand.tmp 112), type := 9, pos := "law.go:51", after := #[{ on := 1, ground := Ground.data }], guard := none }) rfl (fun K hK => ?_) AllReadyH.nil
            go_simp
            refine hK.out _ _ S1.out (fun _ => ?_)
            clear hK K
            try simp only [Act.put, List.setIfInBounds_toArray, List.set_cons_zero, List.set_cons_succ]
            refine wpAnyH_take (i := 5) (oi := { dst := some 116, op := Op.binOp BinOp.neq 9 (Operand.tmp 113) (Operand.tmp 115) 9, type := 4, pos := "law.go:51", after := #[{ on := 2, ground := Ground.data }, { on := 4, ground := Ground.data }], guard := none }) (v := ?_) rfl (by kernel_rfl) (by kernel_rfl) (by kernel_rfl) (fun _ _ _ h => h) (Or.inl ⟨by rfl, ?_⟩) S1.out ?_
            rotate_left
            · (intro w hw; obtain ⟨e0, e1, e2, e3, e4, e5, e6, e7, -⟩ := hw; go_simp; try with_reducible rfl)
            simp only [Act.put, List.setIfInBounds_toArray, List.set_cons_zero, List.set_cons_succ]
            refine wpAnyH_take (i := 6) (oi := { dst := some 117, op := Op.move (Operand.tmp 116), type := 4, pos := "law.go:51", after := #[{ on := 5, ground := Ground.data }, { on := 1, ground := Ground.chain }], guard := none }) (v := ?_) rfl (by kernel_rfl) (by kernel_rfl) (by kernel_rfl) (fun _ _ _ h => h) (Or.inl ⟨by rfl, ?_⟩) S1.out ?_
            rotate_left
            · (intro w hw; obtain ⟨e0, e1, e2, e3, e4, e5, e6, e7, -⟩ := hw; go_simp; try with_reducible rfl)
            simp only [Act.put, List.setIfInBounds_toArray, List.set_cons_zero, List.set_cons_succ]
            refine wpAnyH_take (i := 7) (oi := { dst := some 118, op := Op.move (Operand.tmp 5), type := 24, pos := "law.go:51", after := #[{ on := 6, ground := Ground.guard }], guard := some (6, false) }) (v := ?_) rfl (by kernel_rfl) (by kernel_rfl) (by kernel_rfl) (fun _ _ _ h => h) (Or.inl ⟨by rfl, ?_⟩) S1.out ?_
            rotate_left
            · (intro w hw; obtain ⟨e0, e1, e2, e3, e4, e5, e6, e7, -⟩ := hw; go_simp; try with_reducible rfl)
            simp only [Act.put, List.setIfInBounds_toArray, List.set_cons_zero, List.set_cons_succ]
            refine wpAnyH_take (i := 10) (oi := { dst := some 121, op := Op.indexAddr 34 (Operand.tmp 9) (Operand.const (Value.int IntKind.i64 1)), type := 0, pos := "law.go:51", after := #[{ on := 6, ground := Ground.guard }], guard := some (6, false) }) (v := ?_) rfl (by kernel_rfl) (by kernel_rfl) (by kernel_rfl) (fun _ _ _ h => h) (Or.inl ⟨by rfl, ?_⟩) S1.out ?_
            rotate_left
            · (intro w hw; obtain ⟨e0, e1, e2, e3, e4, e5, e6, e7, -⟩ := hw; go_simp; try with_reducible rfl)
            simp only [Act.put, List.setIfInBounds_toArray, List.set_cons_zero, List.set_cons_succ]
            refine wpAnyH_take (i := 11) (oi := { dst := some 122, op := Op.load 9 (Operand.tmp 121), type := 9, pos := "law.go:51", after := #[{ on := 10, ground := Ground.data }, { on := 6, ground := Ground.guard }], guard := some (6, false) }) (v := ?_) rfl (by kernel_rfl) (by kernel_rfl) (by kernel_rfl) (fun _ _ _ h => h) (Or.inl ⟨by rfl, ?_⟩) S1.out ?_
            rotate_left
            · (intro w hw; obtain ⟨e0, e1, e2, e3, e4, e5, e6, e7, -⟩ := hw; go_simp; try with_reducible rfl)
            simp only [Act.put, List.setIfInBounds_toArray, List.set_cons_zero, List.set_cons_succ]
            refine wpAnyH_ready (rs := [8]) (by kernel_rfl) (by simp) ?_
            refine AllReadyH.cons (o := { dst := some 119, op := Op.call { callee := Callee.value (Operand.func 14), args := #[Operand.tmp 118, Operand.const (Value.int IntKind.i64 1)], argTypes := #[24, 3] }, type := 33, pos := "law.go:51", after := #[{ on := 7, ground := Ground.data }, { on := 6, ground := Ground.chain }, { on := 6, ground := Ground.guard }], guard := some (6, false) }) rfl (fun K hK => ?_) AllReadyH.nil
            go_simp
            with_reducible refine (R1.out _ B1.out).mono ?_
            rintro r w11 ⟨g1, rfl, cv1, b11⟩
            have B2 := Lib.hid (below_next B1.out b11)
            have S2 := Lib.hid (S1.out.on b11)
            clear b11
            go_wp2_with fail
            refine hK.out _ _ S2.out (fun _ => ?_)
            clear hK K
            try simp only [Act.put, List.setIfInBounds_toArray, List.set_cons_zero, List.set_cons_succ]
            refine wpAnyH_ready (rs := [9]) (by kernel_rfl) (by simp) ?_
            refine AllReadyH.cons (o := { dst := some 120, op := Op.convert 33 9 (Operand.tmp 119), type := 9, pos := "law.go:51", after := #[{ on := 8, ground := Ground.data }, { on := 6, ground := Ground.guard }], guard := some (6, false) }) rfl (fun K hK => ?_) AllReadyH.nil
            go_simp
            refine hK.out _ _ S2.out (fun _ => ?_)
            clear hK K
            try simp only [Act.put, List.setIfInBounds_toArray, List.set_cons_zero, List.set_cons_succ]
            refine wpAnyH_take (i := 12) (oi := { dst := some 123, op := Op.binOp BinOp.neq 9 (Operand.tmp 120) (Operand.tmp 122) 9, type := 4, pos := "law.go:51", after := #[{ on := 9, ground := Ground.data }, { on := 11, ground := Ground.data }, { on := 6, ground := Ground.guard }], guard := some (6, false) }) (v := ?_) rfl (by kernel_rfl) (by kernel_rfl) (by kernel_rfl) (fun _ _ _ h => h) (Or.inl ⟨by rfl, ?_⟩) S2.out ?_
            rotate_left
            · (intro w hw; obtain ⟨e0, e1, e2, e3, e4, e5, e6, e7, -⟩ := hw; go_simp; try with_reducible rfl)
            simp only [Act.put, List.setIfInBounds_toArray, List.set_cons_zero, List.set_cons_succ]
            refine wpAnyH_take (i := 13) (oi := { dst := some 124, op := Op.pick (Operand.tmp 117) (Operand.const (Value.bool true)) (Operand.tmp 123), type := 4, pos := "law.go:51", after := #[{ on := 6, ground := Ground.data }, { on := 12, ground := Ground.data }], guard := none }) (v := ?_) rfl (by kernel_rfl) (by kernel_rfl) (by kernel_rfl) (fun _ _ _ h => h) (Or.inl ⟨by rfl, ?_⟩) S2.out ?_
            rotate_left
            · (intro w hw; obtain ⟨e0, e1, e2, e3, e4, e5, e6, e7, -⟩ := hw; go_simp; try with_reducible rfl)
            simp only [Act.put, List.setIfInBounds_toArray, List.set_cons_zero, List.set_cons_succ]
            refine wpAnyH_take (i := 14) (oi := { dst := some 125, op := Op.move (Operand.tmp 124), type := 4, pos := "law.go:51", after := #[{ on := 13, ground := Ground.data }, { on := 8, ground := Ground.chain }], guard := none }) (v := ?_) rfl (by kernel_rfl) (by kernel_rfl) (by kernel_rfl) (fun _ _ _ h => h) (Or.inl ⟨by rfl, ?_⟩) S2.out ?_
            rotate_left
            · (intro w hw; obtain ⟨e0, e1, e2, e3, e4, e5, e6, e7, -⟩ := hw; go_simp; try with_reducible rfl)
            simp only [Act.put, List.setIfInBounds_toArray, List.set_cons_zero, List.set_cons_succ]
            refine wpAnyH_take (i := 15) (oi := { dst := some 126, op := Op.move (Operand.tmp 5), type := 24, pos := "law.go:51", after := #[{ on := 14, ground := Ground.guard }], guard := some (14, false) }) (v := ?_) rfl (by kernel_rfl) (by kernel_rfl) (by kernel_rfl) (fun _ _ _ h => h) (Or.inl ⟨by rfl, ?_⟩) S2.out ?_
            rotate_left
            · (intro w hw; obtain ⟨e0, e1, e2, e3, e4, e5, e6, e7, -⟩ := hw; go_simp; try with_reducible rfl)
            simp only [Act.put, List.setIfInBounds_toArray, List.set_cons_zero, List.set_cons_succ]
            refine wpAnyH_ready (rs := [16]) (by kernel_rfl) (by simp) ?_
            refine AllReadyH.cons (o := { dst := some 127, op := Op.call { callee := Callee.value (Operand.func 15), args := #[Operand.tmp 126], argTypes := #[24] }, type := 3, pos := "law.go:51", after := #[{ on := 15, ground := Ground.data }, { on := 14, ground := Ground.chain }, { on := 14, ground := Ground.guard }], guard := some (14, false) }) rfl (fun K hK => ?_) AllReadyH.nil
            go_simp
            with_reducible refine (WA.out _ B2.out).mono ?_
            rintro r w12 ⟨rfl, hw12⟩
            have S3 : Hid (PS wT g gx gt ⟨P0⟩ ⟨P1⟩ x.e x.a x.u w12) := by rw [hw12]; exact S2
            have B3 : Hid (Below wT.heap.size wT w12) := by rw [hw12]; exact B2
            clear hw12
            go_wp2_with fail
            refine hK.out _ _ S3.out (fun _ => ?_)
            clear hK K
            try simp only [Act.put, List.setIfInBounds_toArray, List.set_cons_zero, List.set_cons_succ]
            refine wpAnyH_take (i := 17) (oi := { dst := some 128, op := Op.binOp BinOp.neq 3 (Operand.tmp 127) (Operand.const (Value.int IntKind.i64 0)) 3, type := 4, pos := "law.go:51", after := #[{ on := 16, ground := Ground.data }, { on := 14, ground := Ground.guard }], guard := some (14, false) }) (v := ?_) rfl (by kernel_rfl) (by kernel_rfl) (by kernel_rfl) (fun _ _ _ h => h) (Or.inl ⟨by rfl, ?_⟩) S3.out ?_
            rotate_left
            · (intro w hw; obtain ⟨e0, e1, e2, e3, e4, e5, e6, e7, -⟩ := hw; go_simp; try with_reducible rfl)
            simp only [Act.put, List.setIfInBounds_toArray, List.set_cons_zero, List.set_cons_succ]
            refine wpAnyH_take (i := 18) (oi := { dst := some 129, op := Op.pick (Operand.tmp 125) (Operand.const (Value.bool true)) (Operand.tmp 128), type := 4, pos := "law.go:51", after := #[{ on := 14, ground := Ground.data }, { on := 17, ground := Ground.data }], guard := none }) (v := ?_) rfl (by kernel_rfl) (by kernel_rfl) (by kernel_rfl) (fun _ _ _ h => h) (Or.inl ⟨by rfl, ?_⟩) S3.out ?_
            rotate_left
            · (intro w hw; obtain ⟨e0, e1, e2, e3, e4, e5, e6, e7, -⟩ := hw; go_simp; try with_reducible rfl)
            simp only [Act.put, List.setIfInBounds_toArray, List.set_cons_zero, List.set_cons_succ]
            refine wpAnyH_take (i := 19) (oi := { dst := some 130, op := Op.move (Operand.tmp 129), type := 4, pos := "law.go:51", after := #[{ on := 18, ground := Ground.data }, { on := 16, ground := Ground.chain }], guard := none }) (v := ?_) rfl (by kernel_rfl) (by kernel_rfl) (by kernel_rfl) (fun _ _ _ h => h) (Or.inl ⟨by rfl, ?_⟩) S3.out ?_
            rotate_left
            · (intro w hw; obtain ⟨e0, e1, e2, e3, e4, e5, e6, e7, -⟩ := hw; go_simp; try with_reducible rfl)
            simp only [Act.put, List.setIfInBounds_toArray, List.set_cons_zero, List.set_cons_succ]
            refine wpAnyH_take (i := 20) (oi := { dst := some 131, op := Op.load 30 (Operand.tmp 13), type := 30, pos := "law.go:51", after := #[{ on := 19, ground := Ground.guard }], guard := some (19, false) }) (v := ?_) rfl (by kernel_rfl) (by kernel_rfl) (by kernel_rfl) (fun _ _ _ h => h) (Or.inl ⟨by rfl, ?_⟩) S3.out ?_
            rotate_left
            · (intro w hw; obtain ⟨e0, e1, e2, e3, e4, e5, e6, e7, -⟩ := hw; go_simp; try with_reducible rfl)
            simp only [Act.put, List.setIfInBounds_toArray, List.set_cons_zero, List.set_cons_succ]
            refine wpAnyH_take (i := 21) (oi := { dst := some 132, op := Op.load 30 (Operand.tmp 15), type := 30, pos := "law.go:51", after := #[{ on := 19, ground := Ground.guard }], guard := some (19, false) }) (v := ?_) rfl (by kernel_rfl) (by kernel_rfl) (by kernel_rfl) (fun _ _ _ h => h) (Or.inl ⟨by rfl, ?_⟩) S3.out ?_
            rotate_left
            · (intro w hw; obtain ⟨e0, e1, e2, e3, e4, e5, e6, e7, -⟩ := hw; go_simp; try with_reducible rfl)
            simp only [Act.put, List.setIfInBounds_toArray, List.set_cons_zero, List.set_cons_succ]
            refine wpAnyH_take (i := 22) (oi := { dst := some 133, op := Op.binOp BinOp.neq 30 (Operand.tmp 131) (Operand.tmp 132) 30, type := 4, pos := "law.go:51", after := #[{ on := 20, ground := Ground.data }, { on := 21, ground := Ground.data }, { on := 19, ground := Ground.guard }], guard := some (19, false) }) (v := ?_) rfl (by kernel_rfl) (by kernel_rfl) (by kernel_rfl) (fun _ _ _ h => h) (Or.inl ⟨by rfl, ?_⟩) S3.out ?_
            rotate_left
            · (intro w hw; obtain ⟨e0, e1, e2, e3, e4, e5, e6, e7, -⟩ := hw; go_simp; try with_reducible rfl)
            simp only [Act.put, List.setIfInBounds_toArray, List.set_cons_zero, List.set_cons_succ]
            refine wpAnyH_take (i := 23) (oi := { dst := some 134, op := Op.pick (Operand.tmp 130) (Operand.const (Value.bool true)) (Operand.tmp 133), type := 4, pos := "law.go:51", after := #[{ on := 19, ground := Ground.data }, { on := 22, ground := Ground.data }], guard := none }) (v := ?_) rfl (by kernel_rfl) (by kernel_rfl) (by kernel_rfl) (fun _ _ _ h => h) (Or.inl ⟨by rfl, ?_⟩) S3.out ?_
            rotate_left
            · (intro w hw; obtain ⟨e0, e1, e2, e3, e4, e5, e6, e7, -⟩ := hw; go_simp; try with_reducible rfl)
            simp only [Act.put, List.setIfInBounds_toArray, List.set_cons_zero, List.set_cons_succ]
            refine wpAnyH_take (i := 24) (oi := { dst := some 135, op := Op.move (Operand.tmp 134), type := 4, pos := "law.go:51", after := #[{ on := 23, ground := Ground.data }, { on := 19, ground := Ground.chain }], guard := none }) (v := ?_) rfl (by kernel_rfl) (by kernel_rfl) (by kernel_rfl) (fun _ _ _ h => h) (Or.inl ⟨by rfl, ?_⟩) S3.out ?_
            rotate_left
            · (intro w hw; obtain ⟨e0, e1, e2, e3, e4, e5, e6, e7, -⟩ := hw; go_simp; try with_reducible rfl)
            simp only [Act.put, List.setIfInBounds_toArray, List.set_cons_zero, List.set_cons_succ]
            refine wpAnyH_take (i := 25) (oi := { dst := some 136, op := Op.move (Operand.tmp 16), type := 4, pos := "law.go:51", after := #[{ on := 24, ground := Ground.guard }], guard := some (24, false) }) (v := ?_) rfl (by kernel_rfl) (by kernel_rfl) (by kernel_rfl) (fun _ _ _ h => h) (Or.inl ⟨by rfl, ?_⟩) S3.out ?_
            rotate_left
            · (intro w hw; obtain ⟨e0, e1, e2, e3, e4, e5, e6, e7, -⟩ := hw; go_simp; try with_reducible rfl)
            simp only [Act.put, List.setIfInBounds_toArray, List.set_cons_zero, List.set_cons_succ]
            refine wpAnyH_take (i := 26) (oi := { dst := some 137, op := Op.move (Operand.tmp 14), type := 25, pos := "law.go:51", after := #[{ on := 24, ground := Ground.guard }], guard := some (24, false) }) (v := ?_) rfl (by kernel_rfl) (by kernel_rfl) (by kernel_rfl) (fun _ _ _ h => h) (Or.inl ⟨by rfl, ?_⟩) S3.out ?_
            rotate_left
            · (intro w hw; obtain ⟨e0, e1, e2, e3, e4, e5, e6, e7, -⟩ := hw; go_simp; try with_reducible rfl)
            simp only [Act.put, List.setIfInBounds_toArray, List.set_cons_zero, List.set_cons_succ]
            refine wpAnyH_take (i := 27) (oi := { dst := some 138, op := Op.binOp BinOp.eql 25 (Operand.tmp 137) (Operand.const (Value.int IntKind.i64 0)) 25, type := 4, pos := "law.go:51", after := #[{ on := 26, ground := Ground.data }, { on := 24, ground := Ground.guard }], guard := some (24, false) }) (v := ?_) rfl (by kernel_rfl) (by kernel_rfl) (by kernel_rfl) (fun _ _ _ h => h) (Or.inl ⟨by rfl, ?_⟩) S3.out ?_
            rotate_left
            · (intro w hw; obtain ⟨e0, e1, e2, e3, e4, e5, e6, e7, -⟩ := hw; go_simp; try with_reducible rfl)
            simp only [Act.put, List.setIfInBounds_toArray, List.set_cons_zero, List.set_cons_succ]
            refine wpAnyH_take (i := 28) (oi := { dst := some 139, op := Op.binOp BinOp.neq 4 (Operand.tmp 136) (Operand.tmp 138) 4, type := 4, pos := "law.go:51", after := #[{ on := 25, ground := Ground.data }, { on := 27, ground := Ground.data }, { on := 24, ground := Ground.guard }], guard := some (24, false) }) (v := ?_) rfl (by kernel_rfl) (by kernel_rfl) (by kernel_rfl) (fun _ _ _ h => h) (Or.inl ⟨by rfl, ?_⟩) S3.out ?_
            rotate_left
            · (intro w hw; obtain ⟨e0, e1, e2, e3, e4, e5, e6, e7, -⟩ := hw; go_simp; try with_reducible rfl)
            simp only [Act.put, List.setIfInBounds_toArray, List.set_cons_zero, List.set_cons_succ]
            refine wpAnyH_take (i := 29) (oi := { dst := some 140, op := Op.pick (Operand.tmp 135) (Operand.const (Value.bool true)) (Operand.tmp 139), type := 4, pos := "law.go:51", after := #[{ on := 24, ground := Ground.data }, { on := 28, ground := Ground.data }], guard := none }) (v := ?_) rfl (by kernel_rfl) (by kernel_rfl) (by kernel_rfl) (fun _ _ _ h => h) (Or.inl ⟨by rfl, ?_⟩) S3.out ?_
            rotate_left
            · (intro w hw; obtain ⟨e0, e1, e2, e3, e4, e5, e6, e7, -⟩ := hw; go_simp; try with_reducible rfl)
            simp only [Act.put, List.setIfInBounds_toArray, List.set_cons_zero, List.set_cons_succ]
            refine wpAnyH_take (i := 30) (oi := { dst := some 141, op := Op.move (Operand.tmp 140), type := 4, pos := "law.go:51", after := #[{ on := 29, ground := Ground.data }, { on := 24, ground := Ground.chain }], guard := none }) (v := ?_) rfl (by kernel_rfl) (by kernel_rfl) (by kernel_rfl) (fun _ _ _ h => h) (Or.inl ⟨by rfl, ?_⟩) S3.out ?_
            rotate_left
            · (intro w hw; obtain ⟨e0, e1, e2, e3, e4, e5, e6, e7, -⟩ := hw; go_simp; try with_reducible rfl)
            simp only [Act.put, List.setIfInBounds_toArray, List.set_cons_zero, List.set_cons_succ]
            refine wpAnyH_take (i := 31) (oi := { dst := some 142, op := Op.move (Operand.tmp 16), type := 4, pos := "law.go:51", after := #[{ on := 30, ground := Ground.guard }], guard := some (30, false) }) (v := ?_) rfl (by kernel_rfl) (by kernel_rfl) (by kernel_rfl) (fun _ _ _ h => h) (Or.inl ⟨by rfl, ?_⟩) S3.out ?_
            rotate_left
            · (intro w hw; obtain ⟨e0, e1, e2, e3, e4, e5, e6, e7, -⟩ := hw; go_simp; try with_reducible rfl)
            simp only [Act.put, List.setIfInBounds_toArray, List.set_cons_zero, List.set_cons_succ]
            refine wpAnyH_take (i := 32) (oi := { dst := some 143, op := Op.unOp UnOp.not 4 (Operand.tmp 142), type := 4, pos := "law.go:51", after := #[{ on := 31, ground := Ground.data }, { on := 30, ground := Ground.guard }], guard := some (30, false) }) (v := ?_) rfl (by kernel_rfl) (by kernel_rfl) (by kernel_rfl) (fun _ _ _ h => h) (Or.inl ⟨by rfl, ?_⟩) S3.out ?_
            rotate_left
            · (intro w hw; obtain ⟨e0, e1, e2, e3, e4, e5, e6, e7, -⟩ := hw; go_simp; try with_reducible rfl)
            simp only [Act.put, List.setIfInBounds_toArray, List.set_cons_zero, List.set_cons_succ]
            refine wpAnyH_take (i := 33) (oi := { dst := some 144, op := Op.move (Operand.tmp 143), type := 4, pos := "law.go:51", after := #[{ on := 32, ground := Ground.data }, { on := 30, ground := Ground.chain }, { on := 30, ground := Ground.guard }], guard := some (30, false) }) (v := ?_) rfl (by kernel_rfl) (by kernel_rfl) (by kernel_rfl) (fun _ _ _ h => h) (Or.inl ⟨by rfl, ?_⟩) S3.out ?_
            rotate_left
            · (intro w hw; obtain ⟨e0, e1, e2, e3, e4, e5, e6, e7, -⟩ := hw; go_simp; try with_reducible rfl)
            simp only [Act.put, List.setIfInBounds_toArray, List.set_cons_zero, List.set_cons_succ]
            refine wpAnyH_take (i := 34) (oi := { dst := some 145, op := Op.move (Operand.tmp 14), type := 25, pos := "law.go:51", after := #[{ on := 33, ground := Ground.guard }], guard := some (33, true) }) (v := ?_) rfl (by kernel_rfl) (by kernel_rfl) (by kernel_rfl) (fun _ _ _ h => h) (Or.inl ⟨by rfl, ?_⟩) S3.out ?_
            rotate_left
            · (intro w hw; obtain ⟨e0, e1, e2, e3, e4, e5, e6, e7, -⟩ := hw; go_simp; try with_reducible rfl)
            simp only [Act.put, List.setIfInBounds_toArray, List.set_cons_zero, List.set_cons_succ]
            refine wpAnyH_take (i := 35) (oi := { dst := some 146, op := Op.binOp BinOp.neq 25 (Operand.tmp 145) (Operand.const (Value.int IntKind.i64 11)) 25, type := 4, pos := "law.go:51", after := #[{ on := 34, ground := Ground.data }, { on := 33, ground := Ground.guard }], guard := some (33, true) }) (v := ?_) rfl (by kernel_rfl) (by kernel_rfl) (by kernel_rfl) (fun _ _ _ h => h) (Or.inl ⟨by rfl, ?_⟩) S3.out ?_
            rotate_left
            · (intro w hw; obtain ⟨e0, e1, e2, e3, e4, e5, e6, e7, -⟩ := hw; go_simp; try with_reducible rfl)
            simp only [Act.put, List.setIfInBounds_toArray, List.set_cons_zero, List.set_cons_succ]
            refine wpAnyH_take (i := 36) (oi := { dst := some 147, op := Op.pick (Operand.tmp 144) (Operand.tmp 146) (Operand.const (Value.bool false)), type := 4, pos := "law.go:51", after := #[{ on := 33, ground := Ground.data }, { on := 35, ground := Ground.data }, { on := 30, ground := Ground.guard }], guard := some (30, false) }) (v := ?_) rfl (by kernel_rfl) (by kernel_rfl) (by kernel_rfl) (fun _ _ _ h => h) (Or.inl ⟨by rfl, ?_⟩) S3.out ?_
            rotate_left
            · (intro w hw; obtain ⟨e0, e1, e2, e3, e4, e5, e6, e7, -⟩ := hw; go_simp; try with_reducible rfl)
            simp only [Act.put, List.setIfInBounds_toArray, List.set_cons_zero, List.set_cons_succ]
            refine wpAnyH_take (i := 37) (oi := { dst := some 148, op := Op.pick (Operand.tmp 141) (Operand.const (Value.bool true)) (Operand.tmp 147), type := 4, pos := "law.go:51", after := #[{ on := 30, ground := Ground.data }, { on := 36, ground := Ground.data }], guard := none }) (v := ?_) rfl (by kernel_rfl) (by kernel_rfl) (by kernel_rfl) (fun _ _ _ h => h) (Or.inl ⟨by rfl, ?_⟩) S3.out ?_
            rotate_left
            · (intro w hw; obtain ⟨e0, e1, e2, e3, e4, e5, e6, e7, -⟩ := hw; go_simp; try with_reducible rfl)
            simp only [Act.put, List.setIfInBounds_toArray, List.set_cons_zero, List.set_cons_succ]
            refine wpAnyH_done (by kernel_rfl) ?_ _
            clear PD R0 R1 WA S1 S2 S3 B0 B1 B2 cv0 cv1
            try simp only [Act.put, List.setIfInBounds_toArray, List.set_cons_zero, List.set_cons_succ]
            go_wp2_with fail
            go_roundg (41 - i)
            case measure => omega
            case rel => exact ⟨i + 1, _, _, by omega, by omega, by simp, (ITH.out.below B3.out).mono (by omega)⟩
      · have h1' : i = l.length := by omega
        subst h1'
        have FIN := Lib.hid HI.out.own.bel
        go_wp2_with fail
        go_ret
        exact ⟨rfl, FIN.out⟩
end Go.Proofs.Ytjoenmmjpmnkfaa
