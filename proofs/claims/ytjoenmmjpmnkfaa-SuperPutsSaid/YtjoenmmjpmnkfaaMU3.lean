import Derived.Test.YtjoenmmjpmnkfaaMU2
import Derived.Test.YtjoenmmjpmnkfaaMU1

/- standing: the iterator over the superblocks that stand where they should. -/
namespace Go.Proofs.Ytjoenmmjpmnkfaa
open Go.RowKit Go.Shelf
attribute [local go_sem] Oper.semAt_some

/-- a sector's bytes, as they are seen. -/
def secB (m : Mod) (k : Nat) : List UInt8 := pad m.size (m.cont ones k)
/-- the superblock that stands in a sector where it should. -/
def standK (m : Mod) (k : Nat) : Option Sup := (supOf (secB m k)).filter fun s => s.e % 2 == k
def stand (m : Mod) : Nat → List Sup
  | 0 => []
  | k + 1 => stand m k ++ (standK m k).toList
abbrev encsS (s : Sup) : Array Value := #[s.v, .int .i64 0]
theorem standing_in (F : Fence) (n : Nat) (h5 : F.fn 20) (hro : F.round = none) (p0 : Option Addr) (w : World) :
    CallsIn F n Try.prog 20 #[.pointer p0] w fun e w' => e = .returned (.func (.func 30) #[] #[.pointer (some ⟨w.heap.size, 0, none⟩)]) ∧ w' = w.alloc (.cells #[.pointer p0] 24) := by
  refine callsIn_of_wp Try.func20 rfl h5 ?_ hro
  simp only [Try.ntmps20, List.size_toArray, List.length_cons, List.length_nil, Nat.reduceAdd, Nat.reduceSub, Array.replicate_succ, Array.replicate_zero, List.push_toArray, List.append_toArray, List.nil_append, List.cons_append]
  gi_wp2
  go_ret
  exact ⟨rfl, rfl⟩
theorem stand_len (m : Mod) : ∀ k, (stand m k).length ≤ k
  | 0 => by simp [stand]
  | k + 1 => by
    have := stand_len m k
    have h2 : ((standK m k).toList).length ≤ 1 := by cases standK m k <;> simp
    simp only [stand, List.length_append]
    omega
theorem stand_pre (m : Mod) (j : Nat) : ∀ k, j ≤ k → stand m j <+: stand m k
  | 0, h => by
    have : j = 0 := by omega
    subst this
    exact List.prefix_refl _
  | k + 1, h => by
    by_cases e : j = k + 1
    · subst e
      exact List.prefix_refl _
    · exact (stand_pre m j k (by omega)).trans ⟨_, rfl⟩
/-- what a round keeps: what lay below n₀, and the box of the disk. -/
def KpB (n₀ Bn : Nat) (W W' : World) : Prop := Below n₀ W W' ∧ W'.heap[Bn]? = W.heap[Bn]?
theorem KpB.trans {n₀ Bn : Nat} {A B C : World} (h : KpB n₀ Bn A B) (k : KpB n₀ Bn B C) : KpB n₀ Bn A C := ⟨h.1.trans k.1, k.2.trans h.2⟩
set_option maxRecDepth 100000 in
set_option maxHeartbeats 2000000 in
theorem standing1_in (n : Nat) (hn : 1 ≤ n) (l Bn : Nat) (w0 : World) (p : Nat) (F : List Nat) (m : Mod) (hd : IsD w0 p F m) (hm : m.waits ≤ 1000000) (hdk : m.dark = false) (hn2 : 2 ≤ m.n) (hsz : 64 ≤ m.size) (hsz2 : m.size ≤ 1024)
    (J Jx : List Sup → World → Prop)
    (hJ : ∀ s W W', J s W → Below W.heap.size W W' → J s W')
    (hY : ∀ pre x W, J pre W → pre.length < 2 → YieldAt Fence.wide (n - 1) Try.prog l (encsS x) W fun e W' =>
      (e = .returned (.bool true) ∧ J (pre ++ [x]) W' ∧ KpB w0.heap.size Bn W W') ∨ (e = .returned (.bool false) ∧ Jx (pre ++ [x]) W'))
    (W : World) (hW : Below w0.heap.size w0 W) (hbox : Whole W Bn 24 #[.pointer (some ⟨p, 0, none⟩)]) (h0 : J [] W) :
    CallsIn Fence.wide n Try.prog 30 #[.func (.yield l) #[] #[], .pointer (some ⟨Bn, 0, none⟩)] W fun e W' => (∃ v, e = .returned v) ∧
      ((∃ ys, ys = stand m 2 ∧ J ys W') ∨ (∃ pre, pre <+: stand m 2 ∧ Jx pre W')) := by
  refine callsIn_of_wp Try.func30 rfl trivial ?_ rfl
  simp only [Try.ntmps30, List.size_toArray, List.length_cons, List.length_nil, Nat.reduceAdd, Nat.reduceSub, Array.replicate_succ, Array.replicate_zero, List.push_toArray, List.append_toArray, List.nil_append, List.cons_append]
  gi_wp2
  gi_loopw [8] (fun s8 wr => ∃ k : Nat, k ≤ 2 ∧ s8 = .int .i64 (k : Nat) ∧ Below w0.heap.size w0 wr ∧ Whole wr Bn 24 #[.pointer (some ⟨p, 0, none⟩)] ∧ J (stand m k) wr)
    (fun s8 _ => (2 - intOf s8).toNat)
  case atStart => exact ⟨0, by omega, rfl, hW, hbox, h0⟩
  case round =>
    obtain ⟨k, hk, rfl, hB, hbx, hj⟩ := hrel
    by_cases hk2 : k = 2
    · subst hk2
      gi_wp2
      go_end0
      exact ⟨⟨_, rfl⟩, .inl ⟨_, rfl, hj⟩⟩
    · have hlt : k < 2 := by omega
      have hki : (k : Int) < 2 := by omega
      have c0 := hbx.cell 0
      simp only [List.getElem?_toArray, List.getElem?_cons_zero] at c0
      have HX := Lib.hid hbx
      have RD := Lib.hid ((hd.below hB).read hm hdk k (by omega))
      have HJ := Lib.hid hj
      have HB := Lib.hid hB
      clear hB hj hk hW h0 hbx hbox
      gi_wp2
      refine ⟨trivial, ?_⟩
      refine (callsIn_wide.2 RD.out).mono ?_
      rintro e w1 ⟨g, rfl, hg, hbb, hlen, hb1⟩
      have SR := sread_any (some ⟨g, 0, none⟩) m.size (secB m k) w1 hbb.holds0 (by unfold secB; omega) (by unfold secB; omega) (by unfold secB; omega)
      rw [show (secB m k).length = m.size from hlen] at SR
      have SR1 := Lib.hid SR
      have HJ1 := Lib.hid (hJ _ _ _ HJ.out hb1)
      have HB1 := Lib.hid (HB.out.trans (hb1.mono HB.out.size))
      have HX1 := Lib.hid (HX.out.below hb1 HX.out.lt)
      clear SR hbb RD c0 hlen hg hb1
      gi_wp2
      refine ⟨trivial, ?_⟩
      refine (callsIn_wide.2 SR1.out).mono ?_
      rintro e w2 ⟨hsay, hb2⟩
      have HJ2 := Lib.hid (hJ _ _ _ HJ1.out hb2)
      have HB2 := Lib.hid (HB1.out.trans (hb2.mono HB1.out.size))
      have HX2 := Lib.hid (HX1.out.below hb2 HX1.out.lt)
      clear SR1 hb2
      rcases hsay with ⟨s, hs, rfl⟩ | ⟨hs, e, a, u, rfl⟩
      · have al : Below w2.heap.size w2 (w2.alloc (.cells #[.int .u32 (s.e : Nat), .int .i64 (s.a : Nat), .int .i64 (s.u : Nat)] 30)) := (Below.refl _ _).alloc (Nat.le_refl _) _
        have HJ3 := Lib.hid (hJ _ _ _ HJ2.out al)
        have HB3 := Lib.hid (HB2.out.trans (al.mono HB2.out.size))
        have HX3 := Lib.hid (HX2.out.below al HX2.out.lt)
        have NW := Lib.hid (Whole.new w2 30 #[.int .u32 (s.e : Nat), .int .i64 (s.a : Nat), .int .i64 (s.u : Nat)])
        have OW := Lib.hid (own_any s.e s.a s.u)
        have HS := Lib.hid hs
        clear al hs
        gi_wp2
        refine ⟨trivial, ?_⟩
        refine (callsIn_wide.2 (OW.out _)).mono ?_
        rintro e w4 ⟨rfl, hb4⟩
        have HJ4 := Lib.hid (hJ _ _ _ HJ3.out hb4)
        have HB4 := Lib.hid (HB3.out.trans (hb4.mono HB3.out.size))
        have HX4 := Lib.hid (HX3.out.below hb4 HX3.out.lt)
        have NB := NW.out.below hb4 (by simp)
        have m0 := NB.cell 0
        have m1 := NB.cell 1
        have m2 := NB.cell 2
        simp only [List.getElem?_toArray, List.getElem?_cons_zero, List.getElem?_cons_succ] at m0 m1 m2
        clear NB hb4 NW OW HJ3 HB3 HJ2 HB2 HJ1 HB1 HJ HB
        by_cases hp : s.e % 2 = k
        · have hpi : (((s.e : Nat) : Int) % 2 == (k : Int)) = true := by simp; omega
          have HK : Hid (standK m k = some s) := Lib.hid (by unfold standK; rw [HS.out]; simp [Option.filter, hp])
          obtain ⟨fn, tmps, assign, body, hy, hR⟩ := hY (stand m k) s w4 HJ4.out (by have := stand_len m k; omega)
          dsimp only [encsS] at hy
          clear hY hp
          gi_wp2
          refine hR.mono ?_
          rintro e W3 (⟨rfl, hJ3, hk3⟩ | ⟨rfl, hJx3⟩)
          · gi_wp2
            refine ⟨⟨k + 1, by omega, by simp, HB4.out.trans hk3.1, hk3.2.trans HX4.out, ?_⟩, by simp [intOf]; omega⟩
            simp only [stand, HK.out, Option.toList_some]
            exact hJ3
          · gi_wp2
            refine bodyPost_ret (results_none rfl _ _ _) rfl ?_
            refine ⟨⟨_, rfl⟩, .inr ⟨_, ?_, hJx3⟩⟩
            have := stand_pre m (k + 1) 2 (by omega)
            simpa only [stand, HK.out, Option.toList_some] using this
        · have hpi : (((s.e : Nat) : Int) % 2 == (k : Int)) = false := by simp; omega
          have HK : Hid (standK m k = none) := Lib.hid (by unfold standK; rw [HS.out]; simp [Option.filter, hp])
          gi_wp2
          refine ⟨fun _ h => (by cases h), ?_⟩
          gi_wp2
          refine ⟨⟨k + 1, by omega, by simp, HB4.out, HX4.out, ?_⟩, by simp [intOf]; omega⟩
          simp only [stand, HK.out, Option.toList_none, List.append_nil]
          exact HJ4.out
      · have al : Below w2.heap.size w2 (w2.alloc (.cells #[.int .u32 e, .int .i64 a, .int .i64 u] 30)) := (Below.refl _ _).alloc (Nat.le_refl _) _
        have HJ3 := Lib.hid (hJ _ _ _ HJ2.out al)
        have HB3 := Lib.hid (HB2.out.trans (al.mono HB2.out.size))
        have HX3 := Lib.hid (HX2.out.below al HX2.out.lt)
        have HS := Lib.hid hs
        clear al hs
        have HK : Hid (standK m k = none) := Lib.hid (by unfold standK; rw [HS.out]; rfl)
        gi_wp2
        refine ⟨trivial, ?_⟩
        gi_wp2
        refine ⟨fun _ h => (by cases h), ?_⟩
        gi_wp2
        refine ⟨⟨k + 1, by omega, by simp, HB3.out, HX3.out, ?_⟩, by simp [intOf]; omega⟩
        simp only [stand, HK.out, Option.toList_none, List.append_nil]
        exact HJ3.out
end Go.Proofs.Ytjoenmmjpmnkfaa

/- Get: the newest. -/
namespace Go.Proofs.Ytjoenmmjpmnkfaa
open Go.RowKit Go.Shelf
attribute [local go_sem] Oper.semAt_some

/-- what holds between two rounds abides new memory. -/
theorem abides_below {β : Type} {B : Nat} {J : β → World → Prop} (h : AbidesFrom B J) (s : β) (W W' : World) (hs : J s W) (hb : Below W.heap.size W W') : J s W' :=
  h s W W' none hs ⟨hb.os, hb.tape, hb.output, hb.size, fun k hk _ => hb.block k hk⟩ (fun r e => by cases e)
theorem standing_stops (n : Nat) (hn : 1 ≤ n) (Bn : Nat) (wb w : World) (p : Nat) (F : List Nat) (m : Mod) (hd : IsD wb p F m) (hm : m.waits ≤ 1000000) (hdk : m.dark = false) (hn2 : 2 ≤ m.n) (hsz : 64 ≤ m.size) (hsz2 : m.size ≤ 1024)
    (hB : Below wb.heap.size wb w) (hbox : Whole w Bn 24 #[.pointer (some ⟨p, 0, none⟩)]) :
    SeqStopsK Fence.wide n Try.prog 30 #[.pointer (some ⟨Bn, 0, none⟩)] encsS (KpB wb.heap.size Bn) (fun ys => ys = stand m 2) (fun pre => pre <+: stand m 2) 2 w := fun l J Jx W hW hJ _ hY h0 =>
  standing1_in n hn l Bn wb p F m hd hm hdk hn2 hsz hsz2 J Jx (fun s W W' hs hb => abides_below hJ s W W' hs hb) hY W (hB.trans (hW.mono hB.size)) (hbox.below hW hbox.lt) h0
theorem kpB_b {n₀ Bn : Nat} {w : World} (hn : n₀ ≤ w.heap.size) (hBn : Bn < w.heap.size) (W : World) (l : Nat) (o o' : Obj) (hl : w.heap.size ≤ l) (h : W.heap[l]? = some o) (h1 : o.isCells = false) (h2 : o.isWalk = false) : KpB n₀ Bn W (W.putObj l o') :=
  ⟨belowK_b hn W l o o' hl h h1 h2, World.putObj_heap_other (by omega)⟩
theorem whole_own {β : Type} (B : Nat) (t : TypeId) (f : β → Array Value) : Own (fun s W => Whole W B t (f s)) := fun s X Y row hs hg hrow =>
  (hg.block B (Whole.lt hs) (fun e' => by obtain ⟨o, ho, hc⟩ := hrow B e'.symm; rw [show X.heap[B]? = _ from hs] at ho; cases ho; cases hc)).trans hs
theorem Whole.one {W : World} {g : Nat} {t : TypeId} {a : Value} (h : Whole W g t #[a]) (u : Value) : Whole (W.setCell ⟨g, 0, none⟩ u) g t #[u] := h.set_ 0 u
theorem Whole.farThree {W : World} {g q : Nat} {t : TypeId} {cs : Array Value} (h : Whole W g t cs) (hne : g ≠ q) (u v x : Value) : Whole (((W.setCell ⟨q, 0, none⟩ u).setCell ⟨q, 1, none⟩ v).setCell ⟨q, 2, none⟩ x) g t cs := ((h.far (p := ⟨q, 0, none⟩) hne u).far (p := ⟨q, 1, none⟩) hne v).far (p := ⟨q, 2, none⟩) hne x
/-- the newest of some. -/
def newer (a : Option Sup) (s : Sup) : Option Sup := match a with
  | none => some s
  | some t => if t.e < s.e then some s else some t
def newest (l : List Sup) : Option Sup := l.foldl newer none
def toldC (a : Option Sup) : Int := match a with | none => 11 | some _ => 0
def newV (a : Option Sup) : Sup := match a with | none => ⟨0, 0, 0⟩ | some s => s
theorem newest_snoc (pre : List Sup) (x : Sup) : newest (pre ++ [x]) = newer (newest pre) x := by simp [newest]
abbrev cellsS (s : Sup) : Array Value := #[.int .u32 (s.e : Nat), .int .i64 (s.a : Nat), .int .i64 (s.u : Nat)]
theorem far4 {W : World} {D b : Nat} {o : Option Obj} (h : W.heap[D]? = o) (h1 : D ≠ b) (h2 : D ≠ b + 1) (u v x z : Value) : ((((W.setCell ⟨b, 0, none⟩ u).setCell ⟨b, 1, none⟩ v).setCell ⟨b, 2, none⟩ x).setCell ⟨b + 1, 0, none⟩ z).drew.heap[D]? = o := by
  have hd : ∀ X : World, X.drew.heap[D]? = X.heap[D]? := fun _ => rfl
  rw [hd, Below.heap_setCell _ _ _ _ h2, Below.heap_setCell _ _ _ _ h1, Below.heap_setCell _ _ _ _ h1, Below.heap_setCell _ _ _ _ h1]
  exact h
theorem results_cc {fn : Func} {p q : Tmp} (h : fn.results = #[.cell p 30, .cell q 25]) (tmps : Array Value) (w : World) (g g' : Nat) (a b c : Value) (k : Int)
    (hp : tmps.getD p undef = .pointer (some ⟨g, 0, none⟩)) (hq : tmps.getD q undef = .pointer (some ⟨g', 0, none⟩)) (hg : Whole w g 30 #[a, b, c]) (hg' : Whole w g' 25 #[.int .i64 k]) :
    (results fn tmps).run Try.prog w = .ok (.tuple #[.agg #[a, b, c], .int .i64 k]) w := by
  have hp' : tmps[p]?.getD undef = .pointer (some ⟨g, 0, none⟩) := by simpa using hp
  have hq' : tmps[q]?.getD undef = .pointer (some ⟨g', 0, none⟩) := by simpa using hq
  have hc := hg'.cell 0
  have h0 := hg.cell 0
  have h1 := hg.cell 1
  have h2 := hg.cell 2
  simp only [List.getElem?_toArray, List.getElem?_cons_zero, List.getElem?_cons_succ] at hc h0 h1 h2
  simp [results, h, hp', hq', asAddr, go_sem, h0, h1, h2, hc]
theorem took (W : World) (b n₀ : Nat) (u v y z : Value) : KeepsFrom n₀ W ((((W.setCell ⟨b + 1 + 1, 0, none⟩ u).setCell ⟨b + 1 + 1, 1, none⟩ v).setCell ⟨b + 1 + 1, 2, none⟩ y).setCell ⟨b + 1 + 1 + 1, 0, none⟩ z) ∧ Below b W ((((W.setCell ⟨b + 1 + 1, 0, none⟩ u).setCell ⟨b + 1 + 1, 1, none⟩ v).setCell ⟨b + 1 + 1, 2, none⟩ y).setCell ⟨b + 1 + 1 + 1, 0, none⟩ z) ∧ (∀ k, k ≠ b + 1 + 1 → k ≠ b + 1 + 1 + 1 → ((((W.setCell ⟨b + 1 + 1, 0, none⟩ u).setCell ⟨b + 1 + 1, 1, none⟩ v).setCell ⟨b + 1 + 1, 2, none⟩ y).setCell ⟨b + 1 + 1 + 1, 0, none⟩ z).heap[k]? = W.heap[k]?) ∧
    (∀ {t : TypeId} {r s q : Value}, Whole W (b + 1 + 1) t #[r, s, q] → Whole ((((W.setCell ⟨b + 1 + 1, 0, none⟩ u).setCell ⟨b + 1 + 1, 1, none⟩ v).setCell ⟨b + 1 + 1, 2, none⟩ y).setCell ⟨b + 1 + 1 + 1, 0, none⟩ z) (b + 1 + 1) t #[u, v, y]) ∧ (∀ {t : TypeId} {r : Value}, Whole W (b + 1 + 1 + 1) t #[r] → Whole ((((W.setCell ⟨b + 1 + 1, 0, none⟩ u).setCell ⟨b + 1 + 1, 1, none⟩ v).setCell ⟨b + 1 + 1, 2, none⟩ y).setCell ⟨b + 1 + 1 + 1, 0, none⟩ z) (b + 1 + 1 + 1) t #[z]) := by
  refine ⟨((((KeepsOthers.setCell _ _ _).trans (KeepsOthers.setCell _ _ _)).trans (KeepsOthers.setCell _ _ _)).trans (KeepsOthers.setCell _ _ _)).from _, ?_, ?_, ?_, ?_⟩
  · exact (below_three (Below.refl b W) (by omega) _ _ _).setCell (p := ⟨b + 1 + 1 + 1, 0, none⟩) (by simp; omega) _
  · intro k h1 h2
    rw [Below.heap_setCell _ _ _ _ h2, Below.heap_setCell _ _ _ _ h1, Below.heap_setCell _ _ _ _ h1, Below.heap_setCell _ _ _ _ h1]
  · intro t r s q h
    exact (h.three u v y).far (p := ⟨b + 1 + 1 + 1, 0, none⟩) (by simp) z
  · intro t r h
    exact (h.farThree (by simp) u v y).one z
set_option maxRecDepth 100000 in
set_option maxHeartbeats 2000000 in
theorem get_in (p : Nat) (F : List Nat) (m : Mod) (w : World) (hd : IsD w p F m) (hm : m.waits ≤ 1000000) (hdk : m.dark = false) (hn2 : 2 ≤ m.n) (hsz : 64 ≤ m.size) (hsz2 : m.size ≤ 1024) :
    CallsIn Fence.wide 5 Try.prog 8 #[.pointer (some ⟨p, 0, none⟩)] w fun e w' => e = .returned (.tuple #[(newV (newest (stand m 2))).v, .int .i64 (toldC (newest (stand m 2)))]) ∧ Below w.heap.size w w' := by
  refine callsIn_of_wp_marks Try.func8 rfl trivial ?_ rfl
  simp only [Try.ntmps8, List.size_toArray, List.length_cons, List.length_nil, Nat.reduceAdd, Nat.reduceSub, Array.replicate_succ, Array.replicate_zero, List.push_toArray, List.append_toArray, List.nil_append, List.cons_append]
  gi_wp2_with ((try refine ⟨trivial, ?_⟩); gi_at_call 20; refine (standing_in Fence.wide _ trivial rfl _ _).mono ?_; rintro e w' ⟨rfl, rfl⟩)
  have n0 := ((((Whole.new w 30 #[.int .u32 0, .int .i64 0, .int .i64 0]).alloc (.cells #[.int .i64 0] 25)).alloc (.cells #[.int .u32 0, .int .i64 0, .int .i64 0] 30)).alloc (.cells #[.int .i64 11] 25)).alloc (.cells #[.pointer (some ⟨p, 0, none⟩)] 24)
  have n1 := (((Whole.new (w.alloc (.cells #[.int .u32 0, .int .i64 0, .int .i64 0] 30)) 25 #[.int .i64 0]).alloc (.cells #[.int .u32 0, .int .i64 0, .int .i64 0] 30)).alloc (.cells #[.int .i64 11] 25)).alloc (.cells #[.pointer (some ⟨p, 0, none⟩)] 24)
  have n2 := ((Whole.new ((w.alloc (.cells #[.int .u32 0, .int .i64 0, .int .i64 0] 30)).alloc (.cells #[.int .i64 0] 25)) 30 #[.int .u32 0, .int .i64 0, .int .i64 0]).alloc (.cells #[.int .i64 11] 25)).alloc (.cells #[.pointer (some ⟨p, 0, none⟩)] 24)
  have n3 := (Whole.new (((w.alloc (.cells #[.int .u32 0, .int .i64 0, .int .i64 0] 30)).alloc (.cells #[.int .i64 0] 25)).alloc (.cells #[.int .u32 0, .int .i64 0, .int .i64 0] 30)) 25 #[.int .i64 11]).alloc (.cells #[.pointer (some ⟨p, 0, none⟩)] 24)
  have n4 := Whole.new ((((w.alloc (.cells #[.int .u32 0, .int .i64 0, .int .i64 0] 30)).alloc (.cells #[.int .i64 0] 25)).alloc (.cells #[.int .u32 0, .int .i64 0, .int .i64 0] 30)).alloc (.cells #[.int .i64 11] 25)) 24 #[.pointer (some ⟨p, 0, none⟩)]
  simp only [World.size_alloc] at n1 n2 n3 n4
  have hB0 : Below w.heap.size w (((((w.alloc (.cells #[.int .u32 0, .int .i64 0, .int .i64 0] 30)).alloc (.cells #[.int .i64 0] 25)).alloc (.cells #[.int .u32 0, .int .i64 0, .int .i64 0] 30)).alloc (.cells #[.int .i64 11] 25)).alloc (.cells #[.pointer (some ⟨p, 0, none⟩)] 24)) :=
    (((((Below.refl _ w).alloc (Nat.le_refl _) _).alloc (by simp) _).alloc (by simp; omega) _).alloc (by simp; omega) _).alloc (by simp; omega) _
  obtain ⟨W0, hW0⟩ : ∃ W0, ((((w.alloc (.cells #[.int .u32 0, .int .i64 0, .int .i64 0] 30)).alloc (.cells #[.int .i64 0] 25)).alloc (.cells #[.int .u32 0, .int .i64 0, .int .i64 0] 30)).alloc (.cells #[.int .i64 11] 25)).alloc (.cells #[.pointer (some ⟨p, 0, none⟩)] 24) = W0 := ⟨_, rfl⟩
  rw [hW0] at n0 n1 n2 n3 n4 hB0 ⊢
  clear hW0
  have hsz0 : w.heap.size + 4 < W0.heap.size := n4.lt
  refine wpIn_rangeFunc_ownH rfl (by omega) (gf := 30) (lb := #[.pointer (some ⟨w.heap.size + 1 + 1 + 1 + 1, 0, none⟩)]) rfl trivial (enters_of Try.func30 (by kernel_rfl) rfl)
    (standing_stops 4 (by omega) (w.heap.size + 1 + 1 + 1 + 1) w W0 p F m hd hm hdk hn2 hsz hsz2 hB0 n4) KpB.trans (kpB_b (by omega) (by omega)) (Below.refl _ _) (fun _ => rfl)
    (fun pre W => ((Whole W (w.heap.size + 1 + 1) 30 (cellsS (newV (newest pre))) ∧ Whole W (w.heap.size + 1 + 1 + 1) 25 #[.int .i64 (toldC (newest pre))]) ∧ (Whole W w.heap.size 30 #[.int .u32 0, .int .i64 0, .int .i64 0] ∧ Whole W (w.heap.size + 1) 25 #[.int .i64 0]) ∧ Whole W (w.heap.size + 1 + 1 + 1 + 1) 24 #[.pointer (some ⟨p, 0, none⟩)]) ∧ Below w.heap.size w W)
    (fun _ _ _ => False)
    (OwnFrom.and (OwnFrom.and (OwnFrom.and (Own.from (whole_own _ _ _) _) (Own.from (whole_own _ _ _) _)) (OwnFrom.and (OwnFrom.and (Own.from (whole_own _ _ _) _) (Own.from (whole_own _ _ _) _)) (Own.from (whole_own _ _ _) _))) (ownFrom_below (Nat.le_refl _) (by omega)))
    (fun _ _ _ _ _ hs _ _ => hs)
    ⟨⟨⟨n2, n3⟩, ⟨n0, n1⟩, n4⟩, hB0⟩
    (fun x a' W => ∃ Bx, w.heap.size + 4 < Bx ∧ Whole W Bx 30 (cellsS x) ∧ a' = { tmps := #[.pointer (some ⟨p, 0, none⟩), undef, .pointer (some ⟨w.heap.size, 0, none⟩), .pointer (some ⟨w.heap.size + 1, 0, none⟩), .pointer (some ⟨w.heap.size + 1 + 1, 0, none⟩), .pointer (some ⟨w.heap.size + 1 + 1 + 1, 0, none⟩), .pointer (some ⟨Bx, 0, none⟩), .int .i64 0, sup 0 0 0, .pointer (some ⟨p, 0, none⟩), .func (.func 30) #[] #[.pointer (some ⟨w.heap.size + 1 + 1 + 1 + 1, 0, none⟩)], x.v, .int .i64 0, undef, undef, undef, undef, undef, undef, undef, undef, undef, undef, undef, undef, undef, undef, undef, undef], defers := [] })
    (fun x a' _ X Y row hs hg hr => by obtain ⟨Bx, h1, h2, h3⟩ := hs; exact ⟨Bx, h1, whole_own Bx 30 (fun (_ : Unit) => cellsS x) () X Y row h2 hg (fun r e => (hr r e).2), h3⟩)
    ?assign ?body ?done ?stop
  case assign =>
    rintro l pre x W K ⟨⟨⟨k2, k3⟩, ⟨k0, k1⟩, k4⟩, hB1⟩ hK
    gi_wp2
    exact hK _ _ ((KeepsOthers.alloc _ _).from _) ⟨(Below.refl _ W).alloc hB1.size _, Below.heap_alloc _ _ _ k4.lt⟩ ⟨⟨⟨k2.alloc _, k3.alloc _⟩, ⟨k0.alloc _, k1.alloc _⟩, k4.alloc _⟩, hB1.alloc hB1.size _⟩ ⟨W.heap.size, k4.lt, Whole.new W _ _, rfl⟩
  case body =>
    rintro l pre x a' W hl _ ⟨⟨⟨k2, k3⟩, ⟨k0, k1⟩, k4⟩, hB1⟩ ⟨Bx, hBx, bX, rfl⟩ hlt
    have HI := Lib.hid (And.intro k0 (And.intro k1 k4))
    have c3 := k3.cell 0
    have f3 := k3.frozen 0
    have x0 := bX.cell 0
    have x1 := bX.cell 1
    have x2 := bX.cell 2
    have d0 := k2.cell 0
    have d1 := k2.cell 1
    have d2 := k2.cell 2
    have g0 := k2.frozen 0
    have g1 := k2.frozen 1
    have g2 := k2.frozen 2
    simp only [List.getElem?_toArray, List.getElem?_cons_zero, List.getElem?_cons_succ] at c3 x0 x1 x2 d0 d1 d2
    have K2 := Lib.hid k2
    have K3 := Lib.hid k3
    have HS := Lib.hid (newest_snoc pre x)
    have HB1 := Lib.hid hB1
    clear k0 k1 k2 k3 k4 bX hB1
    obtain ⟨t1, t2, t3, t4, t5⟩ := took W w.heap.size W0.heap.size (.int .u32 (x.e : Nat)) (.int .i64 (x.a : Nat)) (.int .i64 (x.u : Nat)) (.int .i64 0)
    have FIN : Hid (newest (pre ++ [x]) = some x → _) := Lib.hid fun e : newest (pre ++ [x]) = some x =>
      And.intro t1 (And.intro (show KpB w.heap.size (w.heap.size + 1 + 1 + 1 + 1) W _ from ⟨t2, t3 _ (by omega) (by omega)⟩)
        (show (((Whole _ (w.heap.size + 1 + 1) 30 (cellsS (newV (newest (pre ++ [x]))))) ∧ Whole _ (w.heap.size + 1 + 1 + 1) 25 #[.int .i64 (toldC (newest (pre ++ [x])))]) ∧ (Whole _ w.heap.size 30 #[.int .u32 0, .int .i64 0, .int .i64 0] ∧ Whole _ (w.heap.size + 1) 25 #[.int .i64 0]) ∧ Whole _ (w.heap.size + 1 + 1 + 1 + 1) 24 #[.pointer (some ⟨p, 0, none⟩)]) ∧ Below w.heap.size w _ from
          ⟨⟨⟨by rw [e]; exact t4 K2.out, by rw [e]; exact t5 K3.out⟩, ⟨(t3 _ (by omega) (by omega)).trans HI.out.1, (t3 _ (by omega) (by omega)).trans HI.out.2.1⟩, (t3 _ (by omega) (by omega)).trans HI.out.2.2⟩, HB1.out.trans t2⟩))
    clear t1 t2 t3 t4 t5
    cases hnw : newest pre with
    | none =>
      rw [hnw] at c3 d0 d1 d2 HS
      have H1 := Lib.hid (FIN.out HS.out)
      clear hnw FIN K2 K3
      simp only [newV, toldC] at c3 d0 d1 d2
      gi_wp2
      exact H1.out
    | some t =>
      rw [hnw] at c3 d0 d1 d2 HS
      have HN := Lib.hid hnw
      simp only [newV, toldC] at c3 d0 d1 d2
      simp only [newer] at HS
      clear hnw
      by_cases hlt2 : t.e < x.e
      · rw [if_pos hlt2] at HS
        have H1 := Lib.hid (FIN.out HS.out)
        have hlti : (t.e : Int) < (x.e : Int) := by omega
        clear FIN K2 K3
        gi_wp2
        exact H1.out
      · rw [if_neg hlt2] at HS
        have hlti : (x.e : Int) ≤ (t.e : Int) := by omega
        clear FIN
        gi_wp2
        refine ⟨KeepsFrom.refl _ _, ⟨Below.refl _ _, rfl⟩, ⟨⟨?_, ?_⟩, ⟨HI.out.1, HI.out.2.1⟩, HI.out.2.2⟩, HB1.out⟩
        · rw [HS.out, ← HN.out]; exact K2.out
        · rw [HS.out, ← HN.out]; exact K3.out
  case done =>
    rintro D ys W hD rfl ⟨⟨⟨k2, k3⟩, ⟨k0, k1⟩, k4⟩, hB1⟩ hK
    have c3 := k3.cell 0
    have d0 := k2.cell 0
    have d1 := k2.cell 1
    have d2 := k2.cell 2
    have e0 := k0.cell 0
    have e1 := k0.cell 1
    have e2 := k0.cell 2
    have g0 := k0.frozen 0
    have g1 := k0.frozen 1
    have g2 := k0.frozen 2
    have h0 := k1.cell 0
    have h1 := k1.frozen 0
    simp only [List.getElem?_toArray, List.getElem?_cons_zero, List.getElem?_cons_succ] at c3 d0 d1 d2 e0 e1 e2 h0
    gi_wp2
    have n2 : w.heap.size + 1 + 1 + 1 + 1 < W.heap.size := k4.lt
    have K0 := Lib.hid k0
    have K1 := Lib.hid k1
    have HB1 := Lib.hid hB1
    have HK := Lib.hid hK
    clear k0 k1 k2 k3 k4 hB1 hK hd
    refine wpIn_wide.2 ?_
    go_region_with (fail)
    all_goals
      have F0 : Hid (Whole _ w.heap.size 30 (cellsS (newV (newest (stand m 2))))) := Lib.hid (((K0.out.three (.int .u32 ((newV (newest (stand m 2))).e : Nat)) (.int .i64 ((newV (newest (stand m 2))).a : Nat)) (.int .i64 ((newV (newest (stand m 2))).u : Nat))).far (p := ⟨w.heap.size + 1, 0, none⟩) (by simp) (.int .i64 (toldC (newest (stand m 2))))).drew)
      have F1 : Hid (Whole _ (w.heap.size + 1) 25 #[.int .i64 (toldC (newest (stand m 2)))]) := Lib.hid (((K1.out.farThree (q := w.heap.size) (by simp) (.int .u32 ((newV (newest (stand m 2))).e : Nat)) (.int .i64 ((newV (newest (stand m 2))).a : Nat)) (.int .i64 ((newV (newest (stand m 2))).u : Nat))).one (.int .i64 (toldC (newest (stand m 2))))).drew)
      have FB := Lib.hid (((below_three HB1.out (q := w.heap.size) (Nat.le_refl _) (.int .u32 ((newV (newest (stand m 2))).e : Nat)) (.int .i64 ((newV (newest (stand m 2))).a : Nat)) (.int .i64 ((newV (newest (stand m 2))).u : Nat))).setCell (p := ⟨w.heap.size + 1, 0, none⟩) (by simp) (.int .i64 (toldC (newest (stand m 2))))).drew)
      have FK := Lib.hid (far4 HK.out (b := w.heap.size) (by omega) (by omega) (.int .u32 ((newV (newest (stand m 2))).e : Nat)) (.int .i64 ((newV (newest (stand m 2))).a : Nat)) (.int .i64 ((newV (newest (stand m 2))).u : Nat)) (.int .i64 (toldC (newest (stand m 2)))))
      generalize ((((W.setCell ⟨w.heap.size, 0, none⟩ (.int .u32 ((newV (newest (stand m 2))).e : Nat))).setCell ⟨w.heap.size, 1, none⟩ (.int .i64 ((newV (newest (stand m 2))).a : Nat))).setCell ⟨w.heap.size, 2, none⟩ (.int .i64 ((newV (newest (stand m 2))).u : Nat))).setCell ⟨w.heap.size + 1, 0, none⟩ (.int .i64 (toldC (newest (stand m 2))))).drew = Wf at *
      clear HB1 HK K0 K1 c3 d0 d1 d2 e0 e1 e2 g0 g1 g2 h0 h1
      gi_wp2
      refine ⟨by simp, .inl ⟨_, _, rfl, run_takeDeferred FK.out, ?_⟩⟩
      have e1 : (Wf.putObj D (.deferred none)).heap[w.heap.size]? = Wf.heap[w.heap.size]? := World.putObj_heap_other (by omega)
      have e2 : (Wf.putObj D (.deferred none)).heap[w.heap.size + 1]? = Wf.heap[w.heap.size + 1]? := World.putObj_heap_other (by omega)
      exact ⟨_, results_cc rfl _ _ w.heap.size (w.heap.size + 1) _ _ _ _ rfl rfl (e1.trans F0.out) (e2.trans F1.out), rfl, FB.out.trans (belowK_b (w := w) (Nat.le_refl _) _ D _ _ (by omega) FK.out rfl rfl)⟩
  case stop =>
    rintro D c pre W _ _ h _
    exact h.elim
end Go.Proofs.Ytjoenmmjpmnkfaa

/- Plain facts: what is told of bytes that were put; Get over the model. -/
namespace Go.Proofs.Ytjoenmmjpmnkfaa
open Go.RowKit

theorem drop8_sealed (e : Nat) (he : e < 4294967296) (b t : List UInt8) : num4 ((sealed e b ++ t).drop 8) = e := by
  have h : (sealed e b ++ t).drop 8 = word4 e ++ (b ++ t) := by
    unfold sealed
    simp [word4]
  rw [h]
  exact num4_word e he _
theorem supOf_bytes {s : Sup} (h : s.Ok) (t : List UInt8) : supOf (s.bytes ++ t) = some s := by
  have h1 := h.e; have h2 := h.a; have h3 := h.u
  have hb := h.body_len
  obtain ⟨o1, o2, -⟩ := opens_sealed s.e (by omega) s.body t (by omega)
  unfold supOf Sup.bytes
  rw [drop8_sealed s.e (by omega), if_pos o1, o2]
  simp only [Sup.body]
  have hg := numOf_grp s.u (by omega) []
  rw [List.append_nil] at hg
  rw [hg]
  simp only
  rw [byte_toNat s.a (by omega), if_pos h.fits]
theorem zeros_pos (n : Nat) : zeros (n + 1) = 0 :: zeros n := rfl
theorem zeros_drop (n k : Nat) : (zeros n).drop k = zeros (n - k) := by simp [zeros]
theorem num4_zeros (n : Nat) : num4 (zeros n) = 0 := by
  unfold num4 zeros
  simp only [List.getD_eq_getElem?_getD, List.getElem?_replicate]
  split <;> split <;> split <;> split <;> rfl
theorem sum_zeros4 : sumOn 0 [0, 0, 0, 0] ≠ 0 := by decide +kernel
theorem supOf_zeros (n : Nat) (h : 12 ≤ n) : supOf (zeros n) = none := by
  unfold supOf
  rw [zeros_drop, num4_zeros]
  have : openE 0 (zeros n) = 11 := by
    unfold openE
    rw [num4_zeros, zeros_drop, zeros_drop, num4_zeros, num4_zeros]
    have hl : (zeros n).length = n := by simp [zeros]
    rw [if_neg (by omega), if_pos]
    refine .inr ?_
    have h4 : (zeros (n - 8)).take (0 + 4) = [0, 0, 0, 0] := by
      obtain ⟨k, hk⟩ : ∃ k, n - 8 = k + 4 := ⟨n - 12, by omega⟩
      rw [hk]
      rfl
    rw [h4]
    exact fun e => sum_zeros4 e.symm
  rw [this]
  rfl
end Go.Proofs.Ytjoenmmjpmnkfaa

/- A disk on which nothing waits, as two sectors' bytes; what keep makes of it, and what a crash leaves. -/
namespace Go.Proofs.Ytjoenmmjpmnkfaa
open Go.RowKit

/-- nothing waits, no fuse; the sectors 0 and 1 have these bytes. -/
structure Calm (m : Mod) (n size D : Nat) (c : Nat → List UInt8) : Prop where
  n : m.n = n
  size : m.size = size
  waits : m.waits = 0
  deeds : m.deeds ≤ D
  fused : m.fused = false
  fuse : m.fuse ≤ 1000
  dark : m.dark = false
  cont : ∀ p k, m.cont p k = c k
def upd (c : Nat → List UInt8) (i : Nat) (b : List UInt8) : Nat → List UInt8 := fun k => if k = i then b else c k
theorem bit_ones0 : bit ones 0 = true := by decide +kernel
section
variable {m : Mod} {n size D : Nat} {c : Nat → List UInt8}
theorem Calm.low (h : Calm m n size D c) (hD : D ≤ 1000000) : m.Low := ⟨by rw [h.waits]; decide, by have := h.deeds; omega, by have := h.fuse; omega⟩
theorem Calm.new (n size : Nat) : Calm (Mod.new n size) n size 0 (fun _ => []) := ⟨rfl, rfl, rfl, Nat.le_refl _, rfl, Nat.zero_le _, rfl, fun _ _ => rfl⟩
theorem Calm.mono (h : Calm m n size D c) {D' : Nat} (hD : D ≤ D') : Calm m n size D' c := ⟨h.n, h.size, h.waits, Nat.le_trans h.deeds hD, h.fused, h.fuse, h.dark, h.cont⟩
theorem Calm.takes (h : Calm m n size D c) {i : Nat} (hi : i < n) {l : Nat} (hl : l ≤ size) : m.takes (i : Nat) (l : Nat) = 0 := by
  unfold Mod.takes
  rw [h.dark, h.n, h.size, if_neg (by simp), if_neg (by omega)]
theorem Calm.blown (h : Calm m n size D c) : m.blown = false := by unfold Mod.blown; rw [h.fused]; rfl
theorem Calm.keepR (h : Calm m n size D c) {i : Nat} (hi : i < n) {b : List UInt8} (hl : b.length ≤ size) : m.keepR (i : Nat) b = 0 ∧ m.writeR (i : Nat) b.length = 0 := by
  have h1 : m.writeR (i : Nat) b.length = 0 := by
    unfold Mod.writeR
    rw [if_pos (h.takes hi hl), h.blown]
    rfl
  have h2 : m.write (i : Nat) b = { m.deed with waits := m.waits + 1, cont := fun p k => if (k : Int) = (i : Nat) ∧ bit p m.waits = true then b else m.cont p k } := by
    unfold Mod.write
    rw [if_pos (h.takes hi hl), if_neg (by rw [h.blown]; simp)]
  refine ⟨?_, h1⟩
  unfold Mod.keepR
  rw [if_pos h1, h2]
  have h3 : m.deed = { m with deeds := m.deeds + 1, fuse := if m.fused then m.fuse - 1 else m.fuse } := by
    unfold Mod.deed
    rw [if_neg (by rw [h.blown]; simp)]
  rw [h3]
  unfold Mod.flushR
  simp only [h.dark, Mod.blown, h.fused]
  rfl
theorem Calm.write (h : Calm m n size D c) {i : Nat} (hi : i < n) {b : List UInt8} (hl : b.length ≤ size) : (m.write (i : Nat) b).n = n ∧ (m.write (i : Nat) b).size = size ∧ (m.write (i : Nat) b).waits = 1 ∧ (m.write (i : Nat) b).deeds ≤ D + 1 ∧ (m.write (i : Nat) b).fused = false ∧ (m.write (i : Nat) b).fuse ≤ 1000 ∧ (m.write (i : Nat) b).dark = false ∧ (∀ p k, (m.write (i : Nat) b).cont p k = if k = i ∧ bit p 0 = true then b else c k) := by
  have h2 : m.write (i : Nat) b = { m.deed with waits := m.waits + 1, cont := fun p k => if (k : Int) = (i : Nat) ∧ bit p m.waits = true then b else m.cont p k } := by
    unfold Mod.write
    rw [if_pos (h.takes hi hl), if_neg (by rw [h.blown]; simp)]
  have h3 : m.deed = { m with deeds := m.deeds + 1, fuse := if m.fused then m.fuse - 1 else m.fuse } := by
    unfold Mod.deed
    rw [if_neg (by rw [h.blown]; simp)]
  rw [h2, h3]
  have hd := h.deeds
  have hf := h.fuse
  simp only [h.n, h.size, h.waits, h.fused, h.dark, h.cont]
  refine ⟨trivial, trivial, trivial, by omega, trivial, by simpa using hf, trivial, fun p k => ?_⟩
  simp only [Int.natCast_inj]
theorem Calm.writeLow (h : Calm m n size D c) (hD : D ≤ 999999) {i : Nat} (hi : i < n) {b : List UInt8} (hl : b.length ≤ size) : (m.write (i : Nat) b).Low := by
  obtain ⟨_, _, h3, h4, _, h6, _⟩ := h.write hi hl
  exact ⟨by omega, by omega, by omega⟩
theorem Calm.keep (h : Calm m n size D c) {i : Nat} (hi : i < n) {b : List UInt8} (hl : b.length ≤ size) : Calm (m.keep (i : Nat) b) n size (D + 2) (upd c i b) := by
  obtain ⟨k1, k2, k3, k4, k5, k6, k7, k8⟩ := h.write hi hl
  unfold Mod.keep
  rw [if_pos (h.keepR hi hl).2]
  generalize m.write (i : Nat) b = w at *
  have hb : w.blown = false := by unfold Mod.blown; rw [k5]; rfl
  unfold Mod.flush
  rw [if_neg (by rw [k7]; simp), if_neg (by rw [hb]; simp)]
  unfold Mod.deed
  rw [if_neg (by rw [hb]; simp)]
  refine ⟨k1, k2, rfl, by simp only; omega, k5, ?_, k7, fun p k => ?_⟩
  · simp only [k5]
    simpa using k6
  · simp only [k8, upd, bit_ones0, and_true]
theorem Calm.crash (h : Calm m n size D c) (p : Nat) : Calm (m.crash p) n size D c := ⟨h.n, h.size, rfl, h.deeds, rfl, Nat.zero_le _, rfl, fun _ k => h.cont p k⟩
/-- the fuse lets none, one, or two and more deeds be done: what is told, and what stands behind the crash. -/
theorem Calm.lasts0 (h : Calm m n size D c) {i : Nat} (hi : i < n) {b : List UInt8} (hl : b.length ≤ size) (p : Nat) : (m.fuseTo 0).keepR (i : Nat) b = 17 ∧ Calm (((m.fuseTo 0).keep (i : Nat) b).crash p) n size D c := by
  have ht : (m.fuseTo 0).takes (i : Nat) (b.length : Nat) = 0 := h.takes hi hl
  have hb : (m.fuseTo 0).blown = true := rfl
  have hw : (m.fuseTo 0).writeR (i : Nat) b.length = 17 := by unfold Mod.writeR; rw [if_pos ht, hb]; rfl
  have hk : (m.fuseTo 0).keep (i : Nat) b = { m.fuseTo 0 with dark := true } := by
    unfold Mod.keep Mod.write Mod.deed
    rw [hw, if_neg (by decide), if_pos ht, if_pos hb, if_pos hb]
  constructor
  · unfold Mod.keepR; rw [hw, if_neg (by decide)]
  · rw [hk]
    exact ⟨h.n, h.size, rfl, h.deeds, rfl, Nat.zero_le _, rfl, fun _ k => h.cont p k⟩
theorem Calm.fusedWrite (h : Calm m n size D c) (f : Nat) (hf : 0 < f) {i : Nat} (hi : i < n) {b : List UInt8} (hl : b.length ≤ size) :
    (m.fuseTo (f : Nat)).writeR (i : Nat) b.length = 0 ∧ (m.fuseTo (f : Nat)).write (i : Nat) b = { m.fuseTo (f : Nat) with deeds := m.deeds + 1, fuse := f - 1, waits := 1, cont := fun p k => if k = i ∧ bit p 0 = true then b else c k } := by
  have ht : (m.fuseTo (f : Nat)).takes (i : Nat) (b.length : Nat) = 0 := h.takes hi hl
  have hb : (m.fuseTo (f : Nat)).blown = false := by
    unfold Mod.blown Mod.fuseTo
    simp only [Int.toNat_natCast]
    rw [decide_eq_false (by omega : ¬ f = 0), Bool.and_false]
  constructor
  · unfold Mod.writeR; rw [if_pos ht, hb]; rfl
  · unfold Mod.write Mod.deed
    rw [if_pos ht, if_neg (by rw [hb]; simp), if_neg (by rw [hb]; simp)]
    have e1 : (m.fuseTo (f : Nat)).fused = true := by unfold Mod.fuseTo; simp
    have e2 : (m.fuseTo (f : Nat)).fuse = f := by unfold Mod.fuseTo; simp
    have e3 : (m.fuseTo (f : Nat)).waits = 0 := h.waits
    refine Mod.ext' rfl rfl (by simp only [e3]) rfl rfl (by simp only [e1, e2, if_true]) rfl (fun p k => ?_)
    simp only [e3]
    have e4 : (m.fuseTo (f : Nat)).cont p k = c k := h.cont p k
    rw [e4]
    simp only [Int.natCast_inj]
theorem Calm.lasts1 (h : Calm m n size D c) {i : Nat} (hi : i < n) {b : List UInt8} (hl : b.length ≤ size) (p : Nat) : (m.fuseTo (1 : Nat)).keepR (i : Nat) b = 17 ∧ Calm (((m.fuseTo (1 : Nat)).keep (i : Nat) b).crash p) n size (D + 1) (if bit p 0 = true then upd c i b else c) := by
  obtain ⟨w1, w2⟩ := h.fusedWrite 1 (by omega) hi hl
  unfold Mod.keepR Mod.keep
  rw [if_pos w1, if_pos w1, w2]
  have hd := h.deeds
  constructor
  · unfold Mod.flushR Mod.blown Mod.fuseTo
    simp only [h.dark]
    rfl
  · unfold Mod.flush Mod.blown Mod.deed Mod.fuseTo
    simp only [h.dark]
    refine ⟨h.n, h.size, rfl, ?_, rfl, Nat.zero_le _, rfl, fun p' k => ?_⟩
    · show m.deeds + 1 ≤ _
      omega
    · show (if k = i ∧ bit p 0 = true then b else c k) = _
      by_cases hb : bit p 0 = true
      · rw [if_pos hb]; simp only [hb, and_true, upd]
      · rw [if_neg hb, if_neg (fun e => hb e.2)]
theorem Calm.lasts2 (h : Calm m n size D c) (f : Nat) (hf : 2 ≤ f) (hf2 : f ≤ 1000) {i : Nat} (hi : i < n) {b : List UInt8} (hl : b.length ≤ size) (p : Nat) : (m.fuseTo (f : Nat)).keepR (i : Nat) b = 0 ∧ Calm (((m.fuseTo (f : Nat)).keep (i : Nat) b).crash p) n size (D + 2) (upd c i b) := by
  obtain ⟨w1, w2⟩ := h.fusedWrite f (by omega) hi hl
  unfold Mod.keepR Mod.keep
  rw [if_pos w1, if_pos w1, w2]
  have hd := h.deeds
  have hz : decide (f - 1 = 0) = false := decide_eq_false (by omega)
  constructor
  · unfold Mod.flushR Mod.blown Mod.fuseTo
    simp only [h.dark, hz, Bool.and_false]
    rfl
  · unfold Mod.flush Mod.blown Mod.deed Mod.fuseTo Mod.blown
    simp only [h.dark, hz, Bool.and_false]
    refine ⟨h.n, h.size, rfl, ?_, rfl, Nat.zero_le _, rfl, fun p' k => ?_⟩
    · show m.deeds + 1 + 1 ≤ _
      omega
    · show (if k = i ∧ bit ones 0 = true then b else c k) = _
      simp only [bit_ones0, and_true, upd]
end
end Go.Proofs.Ytjoenmmjpmnkfaa

/- What Get tells of two sectors' bytes; Put and Get as contracts over a calm disk; awake. -/
namespace Go.Proofs.Ytjoenmmjpmnkfaa
open Go.RowKit

def sK (size : Nat) (c : Nat → List UInt8) (k : Nat) : Option Sup := (supOf (pad size (c k))).filter fun s => s.e % 2 == k
def getC (size : Nat) (c : Nat → List UInt8) : Option Sup := newest ((sK size c 0).toList ++ (sK size c 1).toList)
theorem Calm.stand {m : Mod} {n size D : Nat} {c : Nat → List UInt8} (h : Calm m n size D c) : newest (stand m 2) = getC size c := by
  have e : ∀ k, standK m k = sK size c k := fun k => by unfold standK sK secB; rw [h.size, h.cont]
  show newest ((([] : List Sup) ++ (standK m 0).toList) ++ (standK m 1).toList) = _
  rw [e, e, List.nil_append]
  rfl
theorem sK_bytes {size : Nat} {c : Nat → List UInt8} {s : Sup} (h : s.Ok) (hc : c (s.e % 2) = s.bytes) : sK size c (s.e % 2) = some s := by
  unfold sK pad
  rw [hc, supOf_bytes h]
  simp [Option.filter]
theorem sK_nil {size : Nat} {c : Nat → List UInt8} {k : Nat} (hs : 12 ≤ size) (hc : c k = []) : sK size c k = none := by
  unfold sK pad
  rw [hc]
  simp only [List.nil_append, List.length_nil, Nat.sub_zero]
  rw [supOf_zeros size hs]
  rfl
theorem getC_two {size : Nat} {c : Nat → List UInt8} {s : Sup} {j : Nat} (hj : j = s.e % 2) (h : sK size c j = some s) (ho : ∀ t, sK size c (1 - j) = some t → t.e < s.e) : getC size c = some s := by
  unfold getC
  have : j = 0 ∨ j = 1 := by omega
  rcases this with e | e
  · rw [e] at h ho
    rw [h]
    cases h1 : sK size c 1 with
    | none => rfl
    | some t =>
      have := ho t h1
      simp only [Option.toList_some, newest, List.cons_append, List.nil_append, List.foldl_cons, List.foldl_nil, newer]
      rw [if_neg (by omega)]
  · rw [e] at h ho
    rw [h]
    cases h1 : sK size c 0 with
    | none => rfl
    | some t =>
      have := ho t h1
      simp only [Option.toList_some, newest, List.cons_append, List.nil_append, List.foldl_cons, List.foldl_nil, newer]
      rw [if_pos (by omega)]
theorem sK_ok {size : Nat} {c : Nat → List UInt8} {k : Nat} {s : Sup} (h : sK size c k = some s) : s.Ok ∧ s.e % 2 = k := by
  unfold sK at h
  cases hs : supOf (pad size (c k)) with
  | none => rw [hs] at h; simp [Option.filter] at h
  | some t =>
    rw [hs] at h
    simp only [Option.filter] at h
    split at h
    · rename_i hp
      cases h
      exact ⟨supOf_ok hs, by simpa using hp⟩
    · cases h
section
variable {w0 w : World} {p : Nat} {m : Mod} {n size D : Nat} {c : Nat → List UInt8}
theorem get_calm (h : OwnD w0 w p m) (hc : Calm m n size D c) (hn : 2 ≤ n) (hs : 64 ≤ size) (hs2 : size ≤ 1024) : Calls Try.prog 8 #[.pointer (some ⟨p, 0, none⟩)] w fun e w' => e = .returned (.tuple #[(newV (getC size c)).v, .int .i64 (toldC (getC size c))]) ∧ Below w.heap.size w w' ∧ OwnD w0 w' p m := by
  have h' := h
  obtain ⟨F, h1, h2, h3⟩ := h
  have G := callsIn_wide.1 (get_in p F m w h1 (by rw [hc.waits]; decide) hc.dark (by rw [hc.n]; exact hn) (by rw [hc.size]; exact hs) (by rw [hc.size]; exact hs2))
  rw [hc.stand] at G
  exact G.mono fun _ _ hh => ⟨hh.1, hh.2, h'.below hh.2⟩
theorem put_calm (h : OwnD w0 w p m) (hc : Calm m n size D c) (hn : 2 ≤ n) (hs : 64 ≤ size) (hD : D ≤ 999999) (s : Sup) (ho : s.Ok) : Calls Try.prog 10 #[.pointer (some ⟨p, 0, none⟩), s.v] w fun e w' => e = .returned (.int .i64 0) ∧ Still w w' ∧ OwnD w0 w' p (m.keep ((s.e % 2 : Nat) : Int) s.bytes) ∧ Calm (m.keep ((s.e % 2 : Nat) : Int) s.bytes) n size (D + 2) (upd c (s.e % 2) s.bytes) := by
  have hl := ho.len.2
  have hi : s.e % 2 < n := by omega
  have hl2 : s.bytes.length ≤ size := by omega
  refine (put_any h (by rw [hc.n]; exact hn) (hc.low (by omega)) s ho (hc.writeLow hD hi hl2)).mono ?_
  rintro e w' ⟨rfl, h1, h2⟩
  exact ⟨by rw [(hc.keepR hi hl2).1], h2, h1, hc.keep hi hl2⟩
theorem crash_calm (h : OwnD w0 w p m) (hc : Calm m n size D c) (x : Nat) (hx : x < 18446744073709551616) : Calls Try.prog 18 #[.pointer (some ⟨p, 0, none⟩), .int .u64 (x : Nat)] w fun e w' => (∃ v, e = .returned v) ∧ Still w w' ∧ OwnD w0 w' p (m.crash x) ∧ Calm (m.crash x) n size D c :=
  (h.crashS (by rw [hc.waits]; decide) x hx).mono fun _ _ hh => ⟨hh.1, hh.2.2, hh.2.1, hc.crash x⟩
theorem format_calm (h : OwnD w0 w p m) (hc : Calm m n size D c) (hn : 2 ≤ n) (hs : 64 ≤ size) (hD : D ≤ 900000) : Calls Try.prog 19 #[.pointer (some ⟨p, 0, none⟩)] w fun e w' => e = .returned (.int .i64 0) ∧ Still w w' ∧ OwnD w0 w' p ((m.keep ((0 : Nat) : Int) first).keep ((1 : Nat) : Int) []) ∧ Calm ((m.keep ((0 : Nat) : Int) first).keep ((1 : Nat) : Int) []) n size (D + 4) (upd (upd c 0 first) 1 []) := by
  have ho : Sup.Ok ⟨0, 0, 0⟩ := ⟨by decide, by decide, by decide⟩
  have hl : first.length ≤ size := by have := ho.len.2; unfold first; omega
  have k1 := hc.keep (i := 0) (by omega) hl
  refine (format_any h (by rw [hc.n]; exact hn) (hc.low (by omega)) (hc.writeLow (by omega) (i := 0) (by omega) hl) (hc.keepR (i := 0) (by omega) hl).1 (k1.low (by omega)) (k1.writeLow (by omega) (i := 1) (b := []) (by omega) (by simp))).mono ?_
  rintro e w' ⟨rfl, h1, h2⟩
  exact ⟨congrArg (fun x => Ending.returned (.int .i64 x)) (k1.keepR (i := 1) (b := []) (by omega) (by simp)).1, h2, h1, k1.keep (i := 1) (b := []) (by omega) (by simp)⟩
end
set_option maxRecDepth 100000 in
set_option maxHeartbeats 1000000 in
theorem awake8 (w : World) : Calls Try.prog 6 #[] w fun e w' => e = .returned (.bool true) ∧ Below w.heap.size w w' := by
  have N := OwnD.new w 2 64 w (Below.refl _ _) (by omega) (by omega) (by omega) (by omega)
  have P1 := Lib.hid fun (W : World) (p : Nat) (o : Hid (OwnD w W p (Mod.new 2 64))) => put_calm o.out (Calm.new 2 64) (by omega) (by omega) (by omega) ⟨4, 1, 3⟩ ⟨by decide, by decide, by decide⟩
  have G1 := Lib.hid fun (W : World) (p : Nat) (m : Mod) (o : Hid (OwnD w W p m)) (hc : Hid (Calm m 2 64 (0 + 2) (upd (fun _ => []) 0 (Sup.bytes ⟨4, 1, 3⟩)))) => get_calm o.out hc.out (by omega) (by omega) (by omega)
  have e : getC 64 (upd (fun _ => []) 0 (Sup.bytes ⟨4, 1, 3⟩)) = some ⟨4, 1, 3⟩ := by
    refine getC_two (s := ⟨4, 1, 3⟩) (j := 0) rfl (sK_bytes (s := ⟨4, 1, 3⟩) ⟨by decide, by decide, by decide⟩ rfl) fun t ht => ?_
    rw [sK_nil (by omega) rfl] at ht
    cases ht
  simp only [e] at G1
  have G2 := G1
  clear e G1
  go_enter Try.func6, Try.ntmps6
  go_wp2_with fail
  refine N.mono ?_
  rintro e w1 ⟨p, rfl, o1⟩
  have O1 := Lib.hid o1
  clear o1 N
  go_wp2_with fail
  refine (P1.out _ _ O1).mono ?_
  rintro e w2 ⟨rfl, -, o2, c2⟩
  have O2 := Lib.hid o2
  have C2 := Lib.hid c2
  clear o2 c2 P1
  go_wp2_with fail
  refine (G2.out _ _ _ O2 C2).mono ?_
  rintro e w3 ⟨rfl, -, o3⟩
  have O3 := Lib.hid o3.bel
  clear o3 G2 C2 O2 O1
  go_wp2_with fail
  go_ret
  exact ⟨rfl, O3.out.alloc O3.out.size _⟩
end Go.Proofs.Ytjoenmmjpmnkfaa
