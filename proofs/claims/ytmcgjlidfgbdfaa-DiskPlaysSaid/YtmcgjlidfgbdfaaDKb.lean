/- The disk as a model: its numbers, and what would last of each sector for each pattern; each call's contract. -/
import Derived.Test.YtmcgjlidfgbdfaaDK11
namespace Go.Proofs.Ytmcgjlidfgbdfaa
open Go.RowKit

structure Mod where
  size : Nat
  n : Nat
  waits : Nat
  deeds : Nat
  fused : Bool
  fuse : Nat
  dark : Bool
  cont : Nat → Nat → List UInt8
theorem Mod.ext' {a b : Mod} (h1 : a.size = b.size) (h2 : a.n = b.n) (h3 : a.waits = b.waits) (h4 : a.deeds = b.deeds) (h5 : a.fused = b.fused) (h6 : a.fuse = b.fuse) (h7 : a.dark = b.dark) (h8 : ∀ p k, a.cont p k = b.cont p k) : a = b := by
  obtain ⟨a1, a2, a3, a4, a5, a6, a7, a8⟩ := a
  obtain ⟨b1, b2, b3, b4, b5, b6, b7, b8⟩ := b
  simp only at h1 h2 h3 h4 h5 h6 h7 h8
  subst h1 h2 h3 h4 h5 h6 h7
  have : a8 = b8 := funext fun p => funext fun k => h8 p k
  subst this
  rfl
def contAt (p : Nat) (d : Dsk) (k : Nat) : List UInt8 := match d.secs[k]? with | some s => (settleS p s).l | none => []
def modOf (d : Dsk) : Mod := ⟨d.size, d.secs.length, d.waits, d.deeds, d.fused, d.fuse, d.dark, fun p k => contAt p d k⟩
def Mod.blown (m : Mod) : Bool := m.fused && decide (m.fuse = 0)
def Mod.deed (m : Mod) : Mod := if m.blown then { m with dark := true } else { m with deeds := m.deeds + 1, fuse := if m.fused then m.fuse - 1 else m.fuse }
def Mod.takes (m : Mod) (i n : Int) : Int := if m.dark then 17 else if i < 0 ∨ (m.n : Int) ≤ i ∨ (m.size : Int) < n then 1 else 0
def Mod.writeR (m : Mod) (i n : Int) : Int := if m.takes i n = 0 then (if m.blown then 17 else 0) else m.takes i n
def Mod.write (m : Mod) (i : Int) (b : List UInt8) : Mod :=
  if m.takes i b.length = 0 then (if m.blown then m.deed else { m.deed with waits := m.waits + 1, cont := fun p k => if (k : Int) = i ∧ bit p m.waits = true then b else m.cont p k }) else m
def Mod.flushR (m : Mod) : Int := if m.dark then 17 else if m.blown then 17 else 0
def Mod.flush (m : Mod) : Mod := if m.dark then m else if m.blown then m.deed else { m.deed with waits := 0, cont := fun _ k => m.cont ones k }
def Mod.fuseTo (m : Mod) (n : Int) : Mod := { m with fused := decide (0 ≤ n), fuse := n.toNat }
def Mod.crash (m : Mod) (p : Nat) : Mod := { m with waits := 0, cont := fun _ k => m.cont p k, dark := false, fused := false, fuse := 0 }
def Mod.new (sectors size : Nat) : Mod := ⟨size, sectors, 0, 0, false, 0, false, fun _ _ => []⟩
structure Mod.Low (m : Mod) : Prop where
  waits : m.waits + 1 ≤ 1000000
  deeds : m.deeds ≤ 4611686018427387904
  fuse : m.fuse ≤ 9223372036854775807

theorem cont_secs {d d' : Dsk} (h : d'.secs = d.secs) (p k : Nat) : contAt p d' k = contAt p d k := by unfold contAt; rw [h]
theorem cont_settle (p p' : Nat) (d : Dsk) (k : Nat) : contAt p' (settleD p d) k = contAt p d k := by
  unfold contAt settleD
  simp only [List.getElem?_map]
  cases d.secs[k]? with
  | none => rfl
  | some s =>
    simp only [Option.map_some]
    have h := settleS_wv p s
    generalize settleS p s = t at *
    unfold settleS hit
    rw [h.2]
    rfl
theorem hit_snoc (p : Nat) (ws : List Wt) (x : Wt) : hit p (ws ++ [x]) = if bit p x.n then some x else hit p ws := by
  unfold hit
  rw [List.reverse_append]
  simp only [List.reverse_cons, List.reverse_nil, List.nil_append, List.singleton_append, List.find?_cons]
  cases bit p x.n <;> rfl
theorem cont_write (p : Nat) (d : Dsk) (k : Nat) (hk : k < d.secs.length) (wv : Value) (x : Wt) (j : Nat) : contAt p (writeD d k hk wv x) j = if j = k ∧ bit p x.n = true then x.b else contAt p d j := by
  unfold contAt writeD
  simp only
  by_cases h : j = k
  · subst h
    rw [List.getElem?_set_self hk, List.getElem?_eq_getElem hk]
    simp only
    unfold settleS
    simp only [hit_snoc]
    cases hb : bit p x.n with
    | true => simp
    | false => simp
  · rw [List.getElem?_set_ne (fun e => h e.symm), if_neg (fun e => h e.1)]
theorem mod_deed (d : Dsk) : modOf (deedOf d) = (modOf d).deed := by
  unfold Mod.deed
  show _ = if blown d = true then _ else _
  unfold deedOf
  split <;> rfl
theorem mod_fuse (d : Dsk) (n : Int) : modOf (fuseOf d n) = (modOf d).fuseTo n := rfl
theorem mod_settle (p : Nat) (d : Dsk) : modOf (settleD p d) = { modOf d with waits := 0, cont := fun _ k => contAt p d k } :=
  Mod.ext' rfl (by simp [modOf, settleD]) rfl rfl rfl rfl rfl (fun p' k => cont_settle p p' d k)
theorem mod_crash (p : Nat) (d : Dsk) : modOf (crashD p d) = (modOf d).crash p := by
  have h := mod_settle p d
  refine Mod.ext' rfl (by have := congrArg Mod.n h; exact this) rfl rfl rfl rfl rfl (fun p' k => ?_)
  exact cont_settle p p' d k
theorem mod_flush (d : Dsk) : modOf (flushD d) = (modOf d).flush := by
  unfold flushD Mod.flush
  show _ = if d.dark = true then _ else if blown d = true then _ else _
  cases hd : d.dark with
  | true => rfl
  | false =>
    cases hb : blown d with
    | true => exact mod_deed d
    | false =>
      simp only [if_false, Bool.false_eq_true]
      rw [mod_settle, mod_deed]
      refine Mod.ext' rfl rfl rfl rfl rfl rfl rfl (fun p k => ?_)
      exact cont_secs (deedOf_secs d) ones k
theorem mod_new (p q sectors size : Nat) : modOf (newD p q sectors size) = Mod.new sectors size := by
  refine Mod.ext' rfl (by simp [modOf, newD, Mod.new]) rfl rfl rfl rfl rfl (fun p' k => ?_)
  show contAt _ _ _ = []
  unfold contAt newD
  simp only [List.getElem?_replicate]
  split
  · rename_i s hs
    split at hs
    · cases hs; rfl
    · cases hs
  · rfl
theorem mod_write (d : Dsk) (k : Nat) (hk : k < (deedOf d).secs.length) (wv : Value) (x : Wt) (hn : x.n = d.waits) :
    modOf (writeD (deedOf d) k hk wv x) = { (modOf d).deed with waits := d.waits + 1, cont := fun p j => if (j : Int) = (k : Nat) ∧ bit p d.waits = true then x.b else contAt p d j } := by
  have h := mod_deed d
  refine Mod.ext' (by have := congrArg Mod.size h; exact this) ?_ (by show (deedOf d).waits + 1 = _; rw [deedOf_waits]) (by have := congrArg Mod.deeds h; exact this) (by have := congrArg Mod.fused h; exact this) (by have := congrArg Mod.fuse h; exact this) (by have := congrArg Mod.dark h; exact this) (fun p j => ?_)
  · have := congrArg Mod.n h
    simpa [modOf, writeD] using this
  · show contAt _ _ _ = _
    rw [cont_write, hn, cont_secs (deedOf_secs d)]
    simp only
    by_cases e : j = k
    · subst e; simp
    · have e' : ¬ (j : Int) = (k : Int) := by omega
      simp [e, e']

/-- the disk at p, whose own blocks (those that may turn) are F. -/
def IsD (w : World) (p : Nat) (F : List Nat) (m : Mod) : Prop := ∃ d, DiskAt w d ∧ d.p = p ∧ modOf d = m ∧ foot d = F
/-- how it stands behind a call. -/
def GoesM (w w' : World) (p : Nat) (F : List Nat) (m : Mod) : Prop := ∃ F', IsD w' p F' m ∧ (∀ k ∈ F', k ∈ F ∨ w.heap.size ≤ k) ∧ Touch F w w'
theorem IsD.plain {w : World} {p : Nat} {F : List Nat} {m : Mod} (h : IsD w p F m) : ∀ k ∈ F, k < w.heap.size ∧ ¬ Bytes w k := by
  obtain ⟨d, h1, _, _, rfl⟩ := h
  exact fun k hk => h1.plain hk
theorem IsD.touch {w w' : World} {p : Nat} {F G : List Nat} {m : Mod} (h : IsD w p F m) (ht : Touch G w w') (hG : ∀ k ∈ F, k ∉ G) (hB : ∀ k, Bytes w k → k ∉ G) : IsD w' p F m := by
  obtain ⟨d, h1, h2, h3, rfl⟩ := h
  exact ⟨d, h1.touch ht hG hB, h2, h3, rfl⟩
theorem IsD.below {w w' : World} {p : Nat} {F : List Nat} {m : Mod} (h : IsD w p F m) (hb : Below w.heap.size w w') : IsD w' p F m := h.touch (Touch.of_below hb []) (by simp) (by simp)
theorem Goes.to {w w' : World} {d d' : Dsk} {m : Mod} (h : Goes w w' d d') (hm : modOf d' = m) (hp : d'.p = d.p) : GoesM w w' d.p (foot d) m := ⟨foot d', ⟨d', h.1, hp, hm, rfl⟩, h.2.1, h.2.2⟩
theorem GoesM.trans {w w1 w2 : World} {p : Nat} {F : List Nat} {m1 m2 : Mod} (h : GoesM w w1 p F m1) (k : ∀ F1, IsD w1 p F1 m1 → GoesM w1 w2 p F1 m2) : GoesM w w2 p F m2 := by
  obtain ⟨F1, h1, h2, h3⟩ := h
  obtain ⟨F2, k1, k2, k3⟩ := k F1 h1
  refine ⟨F2, k1, fun x hx => ?_, h3.trans k3 (fun x hx => h2 x hx)⟩
  rcases k2 x hx with hh | hh
  · exact h2 x hh
  · exact .inr (Nat.le_trans h3.size hh)
theorem GoesM.refl {w : World} {p : Nat} {F : List Nat} {m : Mod} (h : IsD w p F m) : GoesM w w p F m := ⟨F, h, fun _ hk => .inl hk, Touch.refl _ _⟩
theorem newM (a b : Nat) (w : World) (h1 : 1 ≤ a) (h2 : a ≤ 600) (h3 : 64 ≤ b) (h4 : b ≤ 1024) : Calls Try.prog 9 #[.int .i64 (a : Nat), .int .i64 (b : Nat)] w fun e w' => ∃ p, e = .returned (.tuple #[.pointer (some ⟨p, 0, none⟩), .int .i64 0]) ∧ ∃ F, IsD w' p F (Mod.new a b) ∧ (∀ k ∈ F, w.heap.size ≤ k) ∧ Below w.heap.size w w' := by
  refine (new_good a b w h1 h2 h3 h4).mono ?_
  rintro e w' ⟨p, rfl, q, k1, k2, k3⟩
  exact ⟨p, rfl, _, ⟨_, k1, rfl, mod_new _ _ _ _, rfl⟩, k2, k3⟩
section
variable {w : World} {p : Nat} {F : List Nat} {m : Mod}
theorem IsD.low (h : m.Low) {d : Dsk} (hm : modOf d = m) : Low d := by subst hm; exact ⟨by have : d.waits + 1 ≤ 1000000 := h.waits; omega, h.deeds, h.fuse⟩
theorem IsD.flush (h : IsD w p F m) (hl : m.Low) : Calls Try.prog 20 #[.pointer (some ⟨p, 0, none⟩)] w fun e w' => e = .returned (.int .i64 m.flushR) ∧ GoesM w w' p F m.flush := by
  obtain ⟨d, h1, rfl, hm, rfl⟩ := h
  refine (flush_at h1 (IsD.low hl hm)).mono ?_
  subst hm
  rintro e w' ⟨rfl, hg⟩
  refine ⟨rfl, hg.to (mod_flush d) ?_⟩
  unfold flushD
  split
  · rfl
  · split
    · exact deedOf_p d
    · exact deedOf_p d
theorem IsD.crash (h : IsD w p F m) (hw : m.waits ≤ 1000000) (x : Nat) (hx : x < 18446744073709551616) : Calls Try.prog 22 #[.pointer (some ⟨p, 0, none⟩), .int .u64 (x : Nat)] w fun e w' => (∃ v, e = .returned v) ∧ GoesM w w' p F (m.crash x) := by
  obtain ⟨d, h1, rfl, hm, rfl⟩ := h
  subst hm
  refine (crash_at h1 hw x hx).mono ?_
  rintro e w' ⟨hv, hg⟩
  exact ⟨hv, hg.to (mod_crash x d) rfl⟩
theorem IsD.fuse (h : IsD w p F m) (n : Int) : Calls Try.prog 23 #[.pointer (some ⟨p, 0, none⟩), .int .i64 n] w fun e w' => (∃ v, e = .returned v) ∧ GoesM w w' p F (m.fuseTo n) := by
  obtain ⟨d, h1, rfl, hm, rfl⟩ := h
  subst hm
  refine (fuse_at h1 n).mono ?_
  rintro e w' ⟨hv, h2, h3, h4⟩
  exact ⟨hv, foot d, ⟨_, h2, rfl, mod_fuse d n, h3⟩, fun k hk => .inl hk, h4⟩
theorem IsD.read (h : IsD w p F m) (hw : m.waits ≤ 1000000) (hd : m.dark = false) (k : Nat) (hk : k < m.n) : Calls Try.prog 18 #[.pointer (some ⟨p, 0, none⟩), .int .i64 (k : Nat)] w fun e w' => ∃ g, e = .returned (.tuple #[.slice (some ⟨g, 0, none⟩) m.size m.size, .int .i64 0]) ∧ w.heap.size ≤ g ∧ BB w' g (pad m.size (m.cont ones k)) ∧ (pad m.size (m.cont ones k)).length = m.size ∧ Below w.heap.size w w' := by
  obtain ⟨d, h1, rfl, hm, rfl⟩ := h
  subst hm
  have hk' : k < d.secs.length := hk
  have e : readL d k hk' = pad d.size (contAt ones d k) := by
    unfold readL contAt
    rw [List.getElem?_eq_getElem hk']
  refine (read_at h1 hw hd k hk').mono ?_
  rintro e1 w' ⟨g, rfl, h2, h3, h4⟩
  refine ⟨g, rfl, h2, ?_, ?_, h4⟩
  · rw [e] at h3; exact h3
  · have := readL_length h1 k hk'
    rw [e] at this
    exact this
theorem IsD.readErr (h : IsD w p F m) (i t : Int) (ht : m.takes i 0 = t) (h0 : ¬ t = 0) : Calls Try.prog 18 #[.pointer (some ⟨p, 0, none⟩), .int .i64 i] w fun e w' => e = .returned (.tuple #[.slice none 0 0, .int .i64 t]) ∧ w' = w := by
  obtain ⟨d, h1, rfl, hm, rfl⟩ := h
  subst hm
  exact read_err h1 i t ht h0
theorem IsD.dark (h : IsD w p F m) : Calls Try.prog 12 #[.pointer (some ⟨p, 0, none⟩)] w fun e w' => e = .returned (.bool m.dark) ∧ w' = w := by
  obtain ⟨d, h1, rfl, hm, rfl⟩ := h
  subst hm
  exact dark_at h1
theorem IsD.deeds (h : IsD w p F m) : Calls Try.prog 13 #[.pointer (some ⟨p, 0, none⟩)] w fun e w' => e = .returned (.int .i64 (m.deeds : Nat)) ∧ w' = w := by
  obtain ⟨d, h1, rfl, hm, rfl⟩ := h
  subst hm
  exact deeds_at h1
theorem IsD.waits (h : IsD w p F m) : Calls Try.prog 14 #[.pointer (some ⟨p, 0, none⟩)] w fun e w' => e = .returned (.int .i64 (m.waits : Nat)) ∧ w' = w := by
  obtain ⟨d, h1, rfl, hm, rfl⟩ := h
  subst hm
  exact waits_at h1
theorem IsD.size (h : IsD w p F m) : Calls Try.prog 16 #[.pointer (some ⟨p, 0, none⟩)] w fun e w' => e = .returned (.int .i64 (m.size : Nat)) ∧ w' = w := by
  obtain ⟨d, h1, rfl, hm, rfl⟩ := h
  subst hm
  exact size_at h1
theorem IsD.sectors (h : IsD w p F m) : Calls Try.prog 15 #[.pointer (some ⟨p, 0, none⟩)] w fun e w' => e = .returned (.int .i64 (m.n : Nat)) ∧ w' = w := by
  obtain ⟨d, h1, rfl, hm, rfl⟩ := h
  subst hm
  exact sectors_at h1
theorem IsD.write (h : IsD w p F m) (hl : m.Low) (i : Int) (A : Option Addr) (c : Nat) (b : List UInt8) (hA : Holds w A b) (hAo : b = [] ∨ Off A F) : Calls Try.prog 19 #[.pointer (some ⟨p, 0, none⟩), .int .i64 i, .slice A b.length c] w fun e w' => e = .returned (.int .i64 (m.writeR i b.length)) ∧ GoesM w w' p F (m.write i b) := by
  obtain ⟨d, h1, rfl, hm, rfl⟩ := h
  have hlow := IsD.low hl hm
  subst hm
  by_cases ht : takesOf d i b.length = 0
  · have hw0 : (modOf d).writeR i b.length = if (modOf d).blown = true then 17 else 0 := if_pos ht
    have hw1 : (modOf d).write i b = if (modOf d).blown = true then (modOf d).deed else { (modOf d).deed with waits := d.waits + 1, cont := fun p k => if (k : Int) = i ∧ bit p d.waits = true then b else contAt p d k } := if_pos ht
    cases hb : blown d with
    | true =>
      have hb' : (modOf d).blown = true := hb
      rw [hw0, hw1, if_pos hb', if_pos hb']
      refine (write_blown h1 hlow i A b.length c ht hb).mono ?_
      rintro e w' ⟨rfl, hg⟩
      exact ⟨rfl, hg.to (mod_deed d) (deedOf_p d)⟩
    | false =>
      have hb' : ¬ (modOf d).blown = true := by rw [show (modOf d).blown = blown d from rfl, hb]; simp
      rw [hw0, hw1, if_neg hb', if_neg hb']
      unfold takesOf at ht
      have hd : d.dark = false := by
        cases hdd : d.dark with
        | false => rfl
        | true => rw [hdd] at ht; simp at ht
      rw [hd] at ht
      have hno : ¬ (i < 0 ∨ (d.secs.length : Int) ≤ i ∨ (d.size : Int) < (b.length : Int)) := fun h => by
        rw [if_neg (by simp), if_pos h] at ht
        omega
      obtain ⟨k, rfl⟩ : ∃ k : Nat, i = k := ⟨i.toNat, by omega⟩
      have hk : k < d.secs.length := by omega
      refine (write_at h1 hlow hd hb k hk A c b hA hAo (by omega) hl.waits).mono ?_
      rintro e w' ⟨rfl, a, cc, wv, hg⟩
      exact ⟨rfl, hg.to (mod_write d k _ wv _ rfl) (by show (deedOf d).p = d.p; exact deedOf_p d)⟩
  · have hw0 : (modOf d).writeR i b.length = takesOf d i b.length := if_neg ht
    have hw1 : (modOf d).write i b = modOf d := if_neg ht
    rw [hw0, hw1]
    refine (write_err h1 i _ A b.length c rfl ht).mono ?_
    rintro e w' ⟨rfl, rfl⟩
    exact ⟨rfl, GoesM.refl ⟨d, h1, rfl, rfl, rfl⟩⟩
end
end Go.Proofs.Ytmcgjlidfgbdfaa
