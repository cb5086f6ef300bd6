/- The disk and what it holds of bytes' blocks: blocks that it does not hold (a) may turn beside it. -/
import Derived.Test.YthoihlebplmcoaaJS
namespace Go.Proofs.Ythoihlebplmcoaa
open Go.RowKit
set_option linter.unusedVariables false
set_option maxRecDepth 100000 in
set_option maxHeartbeats 4000000 in
theorem write_atC {w : World} {d : Dsk} (h : DiskAt w d) (hl : Low d) (hd : d.dark = false) (hbl : blown d = false) (k : Nat) (hk : k < d.secs.length) (A : Option Addr) (c : Nat) (b : List UInt8) (hA : Holds w A b) (hAo : b = [] ∨ Off A (foot d)) (hAb : b.length ≤ d.size) (hlow : d.waits + 1 ≤ 1000000) :
    Calls Try.prog 17 #[.pointer (some ⟨d.p, 0, none⟩), .int .i64 (k : Nat), .slice A b.length c] w fun e w' => e = .returned (.int .i64 0) ∧ ∃ a cc wv, Goes w w' d (writeD (deedOf d) k (by rw [deedOf_secs]; exact hk) wv ⟨d.waits, a, cc, b⟩) ∧ ∀ g, (Value.slice a b.length cc).ownBlock = some g → w.heap.size ≤ g := by
  have T := takes_at h (k : Nat) b.length
  rw [takes_ok hd hk (by omega)] at T
  have DD := deed_at h hl
  simp only [hbl, if_false, Bool.false_eq_true] at DD
  have hsm := h.small
  have hkl : (k : Int) < (d.secs.length : Int) := by omega
  have hfew : (d.secs.length : Int) ≤ 600 := by have := h.few; omega
  have H := Lib.hid h
  have HA := Lib.hid hA
  have hAi : (b.length : Int) ≤ 1024 := by omega
  replace T := Lib.hid T
  replace DD := Lib.hid DD
  clear h hl hA hd hbl
  go_enter Try.func17, Try.ntmps17
  go_wp2_with fail
  refine T.out.mono ?_
  rintro e w1 ⟨rfl, rfl⟩
  go_wp2_with fail
  refine DD.out.mono ?_
  rintro e w2 ⟨rfl, h1, h2, h3⟩
  have G := Lib.hid (show Goes _ w2 d (deedOf d) from ⟨h1, fun k hk => .inl (h2 ▸ hk), h3⟩)
  have hA2 : Holds w2 A b := by
    rcases hAo with e | ho
    · rw [e]; exact Holds.nil _ _
    · exact HA.out.touch h3 ho
  have hsz : w1.heap.size ≤ w2.heap.size := h3.size
  have hk2 : k < (deedOf d).secs.length := by rw [deedOf_secs]; exact hk
  have c1 := h1.c 1
  simp only [dcells, List.getElem?_toArray, List.getElem?_cons_zero, List.getElem?_cons_succ] at c1
  have c2 := h1.c 2
  simp only [dcells, List.getElem?_toArray, List.getElem?_cons_zero, List.getElem?_cons_succ] at c2
  have k1 := (encS_at (deedOf d).secs k hk2).2
  have cw := (Whole.cell h1.sec (k * 2 + 1)).trans (show _ = some (deedOf d).secs[k].wv by simpa using k1)
  have hap : (deedOf d).p = d.p := deedOf_p d
  have haw : (deedOf d).waits = d.waits := deedOf_waits d
  have hal : (deedOf d).secs.length = d.secs.length := by rw [deedOf_secs]
  have has : (deedOf d).size = d.size := deedOf_size d
  have STEP := fun (w3 : World) (hb : Below w2.heap.size w2 w3) (a : Option Addr) (cc : Nat) (hx : Row w3 0 (.slice a b.length cc) b) => write_step h1 k hk2 hb ⟨d.waits, a, cc, b⟩ hx (by rw [has]; exact hAb) (by rw [haw]) (by rw [haw]; omega)
  have DL := h1
  generalize hDe : deedOf d = D at *
  have HDE := Lib.hid hDe
  clear hDe
  obtain ⟨a5, c5, e5, -, -⟩ := (h1.ok _ (List.getElem_mem hk2)).wrow.shape
  rw [hap, hal] at c1
  rw [hap, haw] at c2
  rw [e5] at cw
  rw [hap, haw] at STEP
  rw [e5] at STEP
  have hqlt := h1.sec.lt
  have hplt : d.p < w2.heap.size := hap ▸ h1.top.lt
  generalize D.secs[k].ws.length = n5 at *
  have call : Calls Try.prog 44 #[.slice A b.length c] w2.drew fun e w3 => ∃ a cc, e = .returned (.slice a b.length cc) ∧ w3.cell? ⟨D.q, k * 2 + 1, none⟩ = some (.slice a5 n5 c5) ∧ w3.cell? ⟨d.p, 2, none⟩ = some (.int .i64 d.waits) ∧
      ∃ a' c' w4, Sem.run Try.prog (Builtin.append_ #[69, 69] 69 #[.slice a5 n5 c5, .slice (some ⟨w3.heap.size, 0, none⟩) 1 1]) (w3.alloc (.cells #[.int .i64 d.waits, .slice a b.length cc] 74)) = .ok (.slice a' (n5 + 1) c') w4 ∧
      w4.cell? ⟨D.q, k * 2 + 1, none⟩ = some (.slice a5 n5 c5) ∧ w4.frozen? ⟨D.q, k * 2 + 1, none⟩ = false ∧
      (w4.setCell ⟨D.q, k * 2 + 1, none⟩ (.slice a' (n5 + 1) c')).cell? ⟨d.p, 2, none⟩ = some (.int .i64 d.waits) ∧ (w4.setCell ⟨D.q, k * 2 + 1, none⟩ (.slice a' (n5 + 1) c')).frozen? ⟨d.p, 2, none⟩ = false ∧
      Hid (∃ a cc wv, Goes w2 ((w4.setCell ⟨D.q, k * 2 + 1, none⟩ (.slice a' (n5 + 1) c')).setCell ⟨d.p, 2, none⟩ (.int .i64 (d.waits + 1))) D (writeD D k hk2 wv ⟨d.waits, a, cc, b⟩) ∧ ∀ g, (Value.slice a b.length cc).ownBlock = some g → w1.heap.size ≤ g) := by
    have b0 : Below w2.heap.size w2 w2.drew := (Below.refl _ _).drew
    refine (clone_any A c b w2.drew (hA2.below b0) (by omega)).mono ?_
    rintro e w3 ⟨v, rfl, hr, hb⟩
    have hb2 : Below w2.heap.size w2 w3 := below_next b0 hb
    obtain ⟨a, cc, rfl, -, -, -⟩ := hr.shape
    obtain ⟨a', c', w4, s1, s2, s3, s4, s5, s6⟩ := STEP w3 hb2 a cc (hr.le (Nat.zero_le _))
    exact ⟨a, cc, rfl, (hb2.cell (p := ⟨D.q, k * 2 + 1, none⟩) hqlt).trans cw, (hb2.cell (p := ⟨d.p, 2, none⟩) hplt).trans c2, a', c', w4, s1, s2, s3, s4, s5, Lib.hid ⟨a, cc, _, s6, fun g hg => Nat.le_trans hsz (hr.block g hg)⟩⟩
  have CALL := Lib.hid call
  clear call STEP hA2 h1 h2 h3 T DD k1 e5 hap haw hal has DL HA H
  go_wp2_with fail
  go_region_law (first
    | (refine step_append_runI rfl _ _ 69 69 rfl _ _ ?h3 ?h4 s1 ?_; (case h3 => rfl); (case h4 => rfl))
    | (refine step_call_any rfl 44 #[.slice A b.length c] ?h1 CALL.out ?_; (case h1 => kernel_rfl); rintro e w3 ⟨a, cc, rfl, q1, q2, a', c', w4, s1, s2, s3, s4, s5, FIN⟩; have q5 : (w3.alloc (.cells #[.int .i64 d.waits, .slice a b.length cc] 74)).cell? ⟨D.q, k * 2 + 1, none⟩ = some (.slice a5 n5 c5) := (((Below.refl _ w3).alloc (Nat.le_refl _) _).cell (p := ⟨D.q, k * 2 + 1, none⟩) (World.block_lt_of_cell? w3 _ q1)).trans q1; refine ⟨_, rfl, ?_⟩))
  all_goals
    clear q1 q2 q5 s1 s2 s3
    go_wp2_with fail
    go_ret
    obtain ⟨a9, c9, w9, F9, N9⟩ := FIN.out
    have G9 := G.out.trans F9
    have e9 := HDE.out
    subst e9
    exact ⟨rfl, a9, c9, w9, G9, N9⟩

/-- the blocks in which the disk's bytes stand. -/
def Conts (d : Dsk) (k : Nat) : Prop := ∃ s ∈ d.secs, s.lv.ownBlock = some k ∨ ∃ x ∈ s.ws, x.v.ownBlock = some k
theorem Conts.secs {d d' : Dsk} (h : d'.secs = d.secs) {k : Nat} (hc : Conts d' k) : Conts d k := by
  unfold Conts at *
  rw [h] at hc
  exact hc
theorem Conts.settle {p : Nat} {d : Dsk} {k : Nat} (h : Conts (settleD p d) k) : Conts d k := by
  obtain ⟨s, hs, hk⟩ := h
  simp only [settleD, List.mem_map] at hs
  obtain ⟨t, ht, rfl⟩ := hs
  refine ⟨t, ht, ?_⟩
  unfold settleS at hk
  cases hh : hit p t.ws with
  | none =>
    rw [hh] at hk
    rcases hk with hk | ⟨x, hx, _⟩
    · exact .inl hk
    · cases hx
  | some y =>
    rw [hh] at hk
    rcases hk with hk | ⟨x, hx, _⟩
    · exact .inr ⟨y, hit_mem hh, hk⟩
    · cases hx
theorem Conts.flush {d : Dsk} {k : Nat} (h : Conts (flushD d) k) : Conts d k := by
  unfold flushD at h
  split at h
  · exact h
  · split at h
    · exact h.secs (deedOf_secs d)
    · exact h.settle.secs (deedOf_secs d)
theorem Conts.crash {p : Nat} {d : Dsk} {k : Nat} (h : Conts (crashD p d) k) : Conts d k := (h.secs (d := settleD p d) rfl).settle
theorem Conts.write {d : Dsk} {k : Nat} {hk : k < d.secs.length} {wv : Value} {x : Wt} {g : Nat} (h : Conts (writeD d k hk wv x) g) : Conts d g ∨ x.v.ownBlock = some g := by
  obtain ⟨s, hs, hg⟩ := h
  unfold writeD at hs
  rcases List.mem_or_eq_of_mem_set hs with hs | rfl
  · exact .inl ⟨s, hs, hg⟩
  · rcases hg with hg | ⟨y, hy, hg⟩
    · exact .inl ⟨_, List.getElem_mem hk, .inl hg⟩
    · rcases List.mem_append.1 hy with hy | hy
      · exact .inl ⟨_, List.getElem_mem hk, .inr ⟨y, hy, hg⟩⟩
      · have : y = x := by simpa using hy
        subst this
        exact .inr hg
theorem Conts.new {p q a b k : Nat} (h : Conts (newD p q a b) k) : False := by
  obtain ⟨s, hs, hk⟩ := h
  simp only [newD, List.mem_replicate] at hs
  rw [hs.2] at hk
  rcases hk with hk | ⟨x, hx, _⟩
  · simp [sec0, Value.ownBlock] at hk
  · simp [sec0] at hx
theorem DiskAt.contsBytes {w : World} {d : Dsk} (h : DiskAt w d) {k : Nat} (hc : Conts d k) : Bytes w k := by
  obtain ⟨s, hs, hk | ⟨x, hx, hk⟩⟩ := hc
  · exact (h.ok s hs).lrow.bytes hk
  · exact ((h.ok s hs).wt x hx).1.bytes hk
theorem SecOk.of_heapC {w w' : World} {size waits : Nat} {s : Sec} (h : SecOk w size waits s) (hw : ∀ k, s.wv.ownBlock = some k → w'.heap[k]? = w.heap[k]?) (hb : ∀ k, (s.lv.ownBlock = some k ∨ ∃ x ∈ s.ws, x.v.ownBlock = some k) → w'.heap[k]? = w.heap[k]?) : SecOk w' size waits s :=
  ⟨h.lrow.of_heap fun k hk => hb k (.inl hk), h.lfit, h.wrow.of_heap hw, h.few, fun x hx => ⟨(h.wt x hx).1.of_heap fun k hk => hb k (.inr ⟨x, hx, hk⟩), (h.wt x hx).2⟩⟩
theorem DiskAt.touchC {w w' : World} {d : Dsk} (h : DiskAt w d) {G : List Nat} (ht : Touch G w w') (hG : ∀ k ∈ foot d, k ∉ G) (hB : ∀ k, Conts d k → k ∉ G) : DiskAt w' d := by
  have hf : ∀ k ∈ foot d, w'.heap[k]? = w.heap[k]? := fun k hk => ht.block k (h.plain hk).1 (hG k hk)
  have hb : ∀ k, Conts d k → w'.heap[k]? = w.heap[k]? := fun k hk => ht.block k (h.contsBytes hk).lt (hB k hk)
  exact ⟨(hf _ foot_p).trans h.top, (hf _ foot_q).trans h.sec, fun s hs => (h.ok s hs).of_heapC (fun k hk => hf k (foot_wv hs hk)) (fun k hk => hb k ⟨s, hs, hk⟩), h.apart, h.few, h.small⟩
/-- the disk at p, of the call's own; it holds nothing in the blocks a. -/
def OwnA (a : Nat → Prop) (w0 w : World) (p : Nat) (m : Mod) : Prop := ∃ d, DiskAt w d ∧ d.p = p ∧ modOf d = m ∧ (∀ k ∈ foot d, w0.heap.size ≤ k) ∧ (∀ k, Conts d k → ¬ a k) ∧ Below w0.heap.size w0 w
section
variable {a : Nat → Prop} {w0 w : World} {p : Nat} {m : Mod}
theorem OwnA.own (h : OwnA a w0 w p m) : OwnD w0 w p m := by
  obtain ⟨d, h1, h2, h3, h4, _, h6⟩ := h
  exact ⟨foot d, ⟨d, h1, h2, h3, rfl⟩, h4, h6⟩
theorem OwnA.bel (h : OwnA a w0 w p m) : Below w0.heap.size w0 w := h.own.bel
theorem OwnA.below {w' : World} (h : OwnA a w0 w p m) (hb : Below w.heap.size w w') : OwnA a w0 w' p m := by
  obtain ⟨d, h1, h2, h3, h4, h5, h6⟩ := h
  exact ⟨d, h1.below hb, h2, h3, h4, h5, below_next h6 hb⟩
theorem OwnA.avoid {a' : Nat → Prop} (h : OwnA a w0 w p m) (ha : ∀ k, a' k → a k ∨ w.heap.size ≤ k) : OwnA a' w0 w p m := by
  obtain ⟨d, h1, h2, h3, h4, h5, h6⟩ := h
  refine ⟨d, h1, h2, h3, h4, fun k hk hk' => ?_, h6⟩
  rcases ha k hk' with hh | hh
  · exact h5 k hk hh
  · have := (h1.contsBytes hk).lt
    omega
/-- own blocks of other kinds turn, and bytes that the disk does not hold. -/
theorem OwnA.touch {w' : World} (h : OwnA a w0 w p m) {G : List Nat} (ht : Touch G w w') (hG : ∀ k ∈ G, w0.heap.size ≤ k ∧ ((Bytes w k ∧ a k) ∨ ∃ cs t z, w.heap[k]? = some (.cells cs t z) ∧ t ≠ 55 ∧ t ≠ 71 ∧ t ≠ 74 ∧ t ≠ 5)) : OwnA a w0 w' p m := by
  obtain ⟨d, h1, h2, h3, h4, h5, h6⟩ := h
  refine ⟨d, h1.touchC ht (fun k hk hkG => ?_) (fun k hk hkG => ?_), h2, h3, h4, h5, Touch.fresh h6 ht fun k hk => (hG k hk).1⟩
  · rcases (hG k hkG).2 with ⟨hb, _⟩ | ⟨cs, t, z, e, n1, n2, n3, _⟩
    · exact (h1.plain hk).2 hb
    · obtain ⟨cs', t', e', ht'⟩ := h1.kinds hk
      rw [e] at e'
      simp at e'
      rcases ht' with hh | hh | hh
      · exact n1 (e'.2.1.trans hh)
      · exact n2 (e'.2.1.trans hh)
      · exact n3 (e'.2.1.trans hh)
  · rcases (hG k hkG).2 with ⟨_, hb⟩ | ⟨cs, t, z, e, _, _, _, n4⟩
    · exact h5 k hk hb
    · obtain ⟨cs', z', e'⟩ := h1.contsBytes hk
      rw [e] at e'
      simp at e'
      exact n4 e'.2.1
theorem OwnA.of_goes {d d' : Dsk} {w' : World} {m' : Mod} (h1 : DiskAt w d) (h4 : ∀ k ∈ foot d, w0.heap.size ≤ k) (h5 : ∀ k, Conts d k → ¬ a k) (h6 : Below w0.heap.size w0 w) (ha : ∀ k, a k → k < w.heap.size)
    (hg : Goes w w' d d') (hm : modOf d' = m') (hp : d'.p = d.p) (hc : ∀ k, Conts d' k → Conts d k ∨ w.heap.size ≤ k) : OwnA a w0 w' d.p m' ∧ Still w w' := by
  refine ⟨⟨d', hg.1, hp, hm, fun k hk => ?_, fun k hk hk' => ?_, Touch.fresh h6 hg.2.2 h4⟩, GoesM.still ⟨d, h1, rfl, rfl, rfl⟩ (hg.to hm hp)⟩
  · rcases hg.2.1 k hk with hh | hh
    · exact h4 k hh
    · exact Nat.le_trans h6.size hh
  · rcases hc k hk with hh | hh
    · exact h5 k hh hk'
    · have := ha k hk'
      omega
theorem OwnA.writeA (h : OwnA a w0 w p m) (ha : ∀ k, a k → k < w.heap.size) (hl : m.Low) (i : Int) (A : Option Addr) (c : Nat) (b : List UInt8) (hA : Holds w A b) (hf : b = [] ∨ Far w0 w A) : Calls Try.prog 17 #[.pointer (some ⟨p, 0, none⟩), .int .i64 i, .slice A b.length c] w fun e w' => e = .returned (.int .i64 (m.writeR i b.length)) ∧ OwnA a w0 w' p (m.write i b) ∧ Still w w' := by
  have hO := h.own
  obtain ⟨d, h1, rfl, hm, h4, h5, h6⟩ := h
  have hAo : b = [] ∨ Off A (foot d) := hf.imp id (fun f => f.off (m := m) ⟨d, h1, rfl, hm, rfl⟩ h4)
  have hlow := IsD.low hl hm
  subst hm
  by_cases ht : takesOf d i b.length = 0
  · have hw0 : (modOf d).writeR i b.length = if (modOf d).blown = true then 17 else 0 := if_pos ht
    have hw1 : (modOf d).write i b = if (modOf d).blown = true then (modOf d).deed else { (modOf d).deed with waits := d.waits + 1, cont := fun p k => if (k : Int) = i ∧ bit p d.waits = true then b else contAt p d k } := if_pos ht
    cases hb : blown d with
    | true =>
      have hb' : (modOf d).blown = true := hb
      rw [hw0, hw1, if_pos hb', if_pos hb']
      refine (write_blown h1 hlow i A b.length c ht hb).mono ?_
      rintro e w' ⟨rfl, hg⟩
      exact ⟨rfl, OwnA.of_goes h1 h4 h5 h6 ha hg (mod_deed d) (deedOf_p d) fun k hk => .inl (hk.secs (deedOf_secs d))⟩
    | false =>
      have hb' : ¬ (modOf d).blown = true := by rw [show (modOf d).blown = blown d from rfl, hb]; simp
      rw [hw0, hw1, if_neg hb', if_neg hb']
      unfold takesOf at ht
      have hd : d.dark = false := by
        cases hdd : d.dark with
        | false => rfl
        | true => rw [hdd] at ht; simp at ht
      rw [hd] at ht
      have hno : ¬ (i < 0 ∨ (d.secs.length : Int) ≤ i ∨ (d.size : Int) < (b.length : Int)) := fun h => by
        rw [if_neg (by simp), if_pos h] at ht
        omega
      obtain ⟨k, rfl⟩ : ∃ k : Nat, i = k := ⟨i.toNat, by omega⟩
      have hk : k < d.secs.length := by omega
      refine (write_atC h1 hlow hd hb k hk A c b hA hAo (by omega) hl.waits).mono ?_
      rintro e w' ⟨rfl, a, cc, wv, hg, hn⟩
      refine ⟨rfl, OwnA.of_goes h1 h4 h5 h6 ha hg (mod_write d k _ wv _ rfl) (by show (deedOf d).p = d.p; exact deedOf_p d) fun g hg => ?_⟩
      rcases hg.write with hh | hh
      · exact .inl (hh.secs (deedOf_secs d))
      · exact .inr (hn g hh)
  · have hw0 : (modOf d).writeR i b.length = takesOf d i b.length := if_neg ht
    have hw1 : (modOf d).write i b = modOf d := if_neg ht
    rw [hw0, hw1]
    refine (write_err h1 i _ A b.length c rfl ht).mono ?_
    rintro e w' ⟨rfl, rfl⟩
    exact ⟨rfl, ⟨d, h1, rfl, rfl, h4, h5, h6⟩, Still.refl _⟩
theorem OwnA.flushA (h : OwnA a w0 w p m) (ha : ∀ k, a k → k < w.heap.size) (hl : m.Low) : Calls Try.prog 38 #[.pointer (some ⟨p, 0, none⟩)] w fun e w' => e = .returned (.int .i64 m.flushR) ∧ OwnA a w0 w' p m.flush ∧ Still w w' := by
  obtain ⟨d, h1, rfl, hm, h4, h5, h6⟩ := h
  refine (flush_at h1 (IsD.low hl hm)).mono ?_
  subst hm
  rintro e w' ⟨rfl, hg⟩
  refine ⟨rfl, OwnA.of_goes h1 h4 h5 h6 ha hg (mod_flush d) ?_ fun k hk => .inl hk.flush⟩
  unfold flushD
  split
  · rfl
  · split
    · exact deedOf_p d
    · exact deedOf_p d
theorem OwnA.crashA (h : OwnA a w0 w p m) (ha : ∀ k, a k → k < w.heap.size) (hw : m.waits ≤ 1000000) (x : Nat) (hx : x < 18446744073709551616) : Calls Try.prog 14 #[.pointer (some ⟨p, 0, none⟩), .int .u64 (x : Nat)] w fun e w' => (∃ v, e = .returned v) ∧ OwnA a w0 w' p (m.crash x) ∧ Still w w' := by
  obtain ⟨d, h1, rfl, hm, h4, h5, h6⟩ := h
  subst hm
  refine (crash_at h1 hw x hx).mono ?_
  rintro e w' ⟨hv, hg⟩
  exact ⟨hv, OwnA.of_goes h1 h4 h5 h6 ha hg (mod_crash x d) rfl fun k hk => .inl hk.crash⟩
theorem OwnA.fuseA (h : OwnA a w0 w p m) (ha : ∀ k, a k → k < w.heap.size) (n : Int) : Calls Try.prog 10 #[.pointer (some ⟨p, 0, none⟩), .int .i64 n] w fun e w' => (∃ v, e = .returned v) ∧ OwnA a w0 w' p (m.fuseTo n) ∧ Still w w' := by
  obtain ⟨d, h1, rfl, hm, h4, h5, h6⟩ := h
  subst hm
  refine (fuse_at h1 n).mono ?_
  rintro e w' ⟨hv, h2, h3, h7⟩
  exact ⟨hv, OwnA.of_goes (d' := fuseOf d n) h1 h4 h5 h6 ha ⟨h2, fun k hk => .inl (h3 ▸ hk), h7⟩ (mod_fuse d n) rfl fun k hk => .inl (hk.secs rfl)⟩
theorem OwnA.newA (w0 : World) (x y : Nat) (w : World) (h0 : Below w0.heap.size w0 w) (h1 : 1 ≤ x) (h2 : x ≤ 600) (h3 : 64 ≤ y) (h4 : y ≤ 1024) : Calls Try.prog 8 #[.int .i64 (x : Nat), .int .i64 (y : Nat)] w fun e w' => ∃ p, e = .returned (.tuple #[.pointer (some ⟨p, 0, none⟩), .int .i64 0]) ∧ OwnA a w0 w' p (Mod.new x y) ∧ Below w.heap.size w w' := by
  refine (new_good x y w h1 h2 h3 h4).mono ?_
  rintro e w' ⟨p, rfl, q, k1, k2, k3⟩
  exact ⟨p, rfl, ⟨_, k1, rfl, mod_new _ _ _ _, fun k hk => Nat.le_trans h0.size (k2 k hk), fun k hk => hk.new.elim, below_next h0 k3⟩, k3⟩
end
end Go.Proofs.Ythoihlebplmcoaa
