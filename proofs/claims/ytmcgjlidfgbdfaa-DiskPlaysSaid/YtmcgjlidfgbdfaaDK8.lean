/- settle: of a sector, of all. -/
import Derived.Test.YtmcgjlidfgbdfaaDK7
namespace Go.Proofs.Ytmcgjlidfgbdfaa
open Go.RowKit

/-- one sector turns. -/
theorem DiskAt.put {w w' : World} {d : Dsk} (h : DiskAt w d) {i : Nat} (s' : Sec) (W : Nat) (hW : d.waits ≤ W)
    (hp : Whole w' d.p 56 (dcells { d with secs := d.secs.set i s', waits := W })) (hq : Whole w' d.q 63 (encS (d.secs.set i s')).toArray)
    (hb : ∀ k, Bytes w k → w'.heap[k]? = w.heap[k]?) (hw : ∀ j (hj : j < d.secs.length), j ≠ i → ∀ k, d.secs[j].wv.ownBlock = some k → w'.heap[k]? = w.heap[k]?)
    (hs : SecOk w' d.size W s') (ha : ∀ j (hj : j < d.secs.length), j ≠ i → ∀ k, s'.wv.ownBlock = some k → d.secs[j].wv.ownBlock ≠ some k) :
    DiskAt w' { d with secs := d.secs.set i s', waits := W } := by
  refine ⟨hp, hq, ?_, ?_, by simpa using h.few, h.small⟩
  · intro s hsm
    obtain ⟨j, hj, rfl⟩ := List.mem_iff_getElem.1 hsm
    rw [List.length_set] at hj
    by_cases e : i = j
    · subst e
      rw [List.getElem_set_self]
      exact hs
    · rw [List.getElem_set_ne e]
      exact ((h.ok _ (List.getElem_mem hj)).of_heap (fun k hk => hw j hj (fun e' => e e'.symm) k hk) hb).more hW
  · intro a b ha' hb' k h1 h2
    simp only [List.length_set] at ha' hb'
    by_cases ea : i = a
    · by_cases eb : i = b
      · omega
      · subst ea
        rw [List.getElem_set_self] at h1
        rw [List.getElem_set_ne eb] at h2
        exact absurd h2 (ha b hb' (fun e => eb e.symm) k h1)
    · by_cases eb : i = b
      · subst eb
        rw [List.getElem_set_self] at h2
        rw [List.getElem_set_ne ea] at h1
        exact absurd h1 (ha a ha' (fun e => ea e.symm) k h2)
      · rw [List.getElem_set_ne ea] at h1
        rw [List.getElem_set_ne eb] at h2
        exact h.apart a b ha' hb' k h1 h2

/-- what settle makes of a sector. -/
def settleS (p : Nat) (s : Sec) : Sec := match hit p s.ws with | some x => ⟨x.a, x.c, x.b, .slice none 0 0, []⟩ | none => ⟨s.la, s.lc, s.l, .slice none 0 0, []⟩
theorem hit_mem {p : Nat} {ws : List Wt} {x : Wt} (h : hit p ws = some x) : x ∈ ws := by
  have := List.mem_of_find?_eq_some h
  simpa using this
theorem settleS_lv (p : Nat) (s : Sec) : leftV p s.lv s.ws = (settleS p s).lv := by
  unfold leftV settleS
  cases hit p s.ws <;> rfl
theorem settleS_wv (p : Nat) (s : Sec) : (settleS p s).wv = .slice none 0 0 ∧ (settleS p s).ws = [] := by
  unfold settleS
  cases hit p s.ws <;> exact ⟨rfl, rfl⟩
theorem settleS_ok {w : World} {size waits : Nat} {s : Sec} (h : SecOk w size waits s) (p W : Nat) : SecOk w size W (settleS p s) := by
  have h2 := settleS_wv p s
  have h1 : Row w 0 (settleS p s).lv (settleS p s).l ∧ (settleS p s).l.length ≤ size := by
    unfold settleS
    cases hq : hit p s.ws with
    | none => exact ⟨h.lrow, h.lfit⟩
    | some x => exact ⟨(h.wt x (hit_mem hq)).1, (h.wt x (hit_mem hq)).2.1⟩
  exact ⟨h1.1, h1.2, by rw [h2.1, h2.2]; exact WRow.nil w, by rw [h2.2]; exact Nat.zero_le _, by rw [h2.2]; intro x hx; cases hx⟩
set_option maxRecDepth 100000 in
theorem settle_sec (q o : Nat) (s : Sec) (p : Nat) (w : World) (hl : w.cell? ⟨q, o, none⟩ = some s.lv) (hc : w.cell? ⟨q, o + 1, none⟩ = some s.wv) (hf : ∀ i, w.frozen? ⟨q, i, none⟩ = false) (hq : q < w.heap.size) (hr : WRow w s.wv s.ws) (hlen : s.ws.length ≤ 1000000) (hp : p < 18446744073709551616) :
    Calls Try.prog 36 #[.pointer (some ⟨q, o, none⟩), .int .u64 (p : Nat)] w fun e w' => (∃ v, e = .returned v) ∧ ∃ w1, Below w.heap.size w w1 ∧ w' = (w1.setCell ⟨q, o, none⟩ (settleS p s).lv).setCell ⟨q, o + 1, none⟩ (.slice none 0 0) := by
  have L := left_at q o s.la s.l.length s.lc s.wv s.ws p w hl hc hq hr hlen hp
  have e1 : leftV p (.slice s.la s.l.length s.lc) s.ws = (settleS p s).lv := settleS_lv p s
  rw [e1] at L
  obtain ⟨a, n, c, ev⟩ : ∃ a n c, (settleS p s).lv = .slice a n c := ⟨_, _, _, rfl⟩
  rw [ev] at L ⊢
  replace L := Lib.hid L
  have HL := Lib.hid hl
  have HC := Lib.hid hc
  have HF := Lib.hid hf
  clear hl hc hf hr e1 ev
  go_enter Try.func36, Try.ntmps36
  go_wp2_with fail
  refine L.out.mono ?_
  rintro e w1 ⟨rfl, hb⟩
  have c0 := (hb.cell (p := ⟨q, o, none⟩) hq).trans HL.out
  have c1 := (hb.cell (p := ⟨q, o + 1, none⟩) hq).trans HC.out
  have f0 := (hb.frozen (p := ⟨q, o, none⟩) hq).trans (HF.out o)
  have f1 := (hb.frozen (p := ⟨q, o + 1, none⟩) hq).trans (HF.out (o + 1))
  have HB := Lib.hid hb
  clear hb L HL HC HF
  go_wp2_with fail
  go_end0
  exact ⟨⟨_, rfl⟩, w1, HB.out, rfl⟩

/-- the disk with its first sectors settled. -/
def part (p i : Nat) (d : Dsk) : Dsk := { d with secs := (d.secs.take i).map (settleS p) ++ d.secs.drop i }
def settleD (p : Nat) (d : Dsk) : Dsk := { d with secs := d.secs.map (settleS p), waits := 0 }
theorem part_zero (p : Nat) (d : Dsk) : part p 0 d = d := by simp [part]
theorem part_length (p i : Nat) (d : Dsk) (h : i ≤ d.secs.length) : (part p i d).secs.length = d.secs.length := by simp [part]; omega
theorem part_at (p i : Nat) (d : Dsk) (h : i < d.secs.length) : (part p i d).secs[i]'(by rw [part_length p i d (by omega)]; exact h) = d.secs[i] := by
  simp only [part]
  rw [List.getElem_append_right (by simp; omega)]
  simp [Nat.min_eq_left (Nat.le_of_lt h)]
theorem part_succ (p i : Nat) (d : Dsk) (h : i < d.secs.length) : { part p i d with secs := (part p i d).secs.set i (settleS p d.secs[i]) } = part p (i + 1) d := by
  unfold part
  simp only
  congr 1
  rw [List.set_append_right _ _ (by simp; omega)]
  have e : i - ((d.secs.take i).map (settleS p)).length = 0 := by simp; omega
  rw [e, List.drop_eq_getElem_cons h, List.set_cons_zero, List.take_succ_eq_append_getElem h, List.map_append, List.map_singleton, List.append_assoc]
  rfl
theorem part_all (p : Nat) (d : Dsk) : (part p d.secs.length d).secs = d.secs.map (settleS p) := by simp [part]

theorem DiskAt.pq {w : World} {d : Dsk} (h : DiskAt w d) : d.p ≠ d.q := fun e => by
  have h1 := h.top
  have h2 := h.sec
  unfold Whole at h1 h2
  rw [e, h2] at h1
  simp at h1
theorem DiskAt.not_q {w : World} {d : Dsk} (h : DiskAt w d) {s : Sec} (hs : s ∈ d.secs) {k : Nat} (hk : s.wv.ownBlock = some k) : k ≠ d.q ∧ k ≠ d.p := by
  obtain ⟨cur, hc⟩ := row_kind (h.ok s hs).wrow hk
  refine ⟨fun e => ?_, fun e => ?_⟩
  · have h2 := h.sec
    unfold Whole at h2
    rw [e, h2] at hc
    simp at hc
  · have h2 := h.top
    unfold Whole at h2
    rw [e, h2] at hc
    simp at hc
theorem SecOk.below {w w' : World} {size waits : Nat} {s : Sec} (h : SecOk w size waits s) (hb : Below w.heap.size w w') : SecOk w' size waits s :=
  h.of_heap (fun k hk => hb.block k (h.wrow.lt hk)) (fun k hk => hb.block k hk.lt)
theorem foot_set {d : Dsk} {i W : Nat} {s' : Sec} {F : Nat → Prop} (h : ∀ k ∈ foot d, F k) (hs : ∀ k, s'.wv.ownBlock = some k → F k) : ∀ k ∈ foot { d with secs := d.secs.set i s', waits := W }, F k := by
  intro k hk
  rcases foot_cases hk with rfl | rfl | ⟨s, hm, e⟩
  · exact h _ foot_p
  · exact h _ foot_q
  · rcases List.mem_or_eq_of_mem_set hm with hm | rfl
    · exact h _ (foot_wv hm e)
    · exact hs _ e
theorem set2_other (w : World) (q i j : Nat) (u v : Value) (k : Nat) (h : k ≠ q) : ((w.setCell ⟨q, i, none⟩ u).setCell ⟨q, j, none⟩ v).heap[k]? = w.heap[k]? :=
  (heap_set_other _ _ _ _ _ h).trans (heap_set_other _ _ _ _ _ h)
/-- a sector is settled. -/
theorem DiskAt.setSec {w w1 : World} {d : Dsk} (h : DiskAt w d) (hb : Below w.heap.size w w1) {i : Nat} (hi : i < d.secs.length) (s' : Sec) (hs : SecOk w d.size d.waits s') (hno : s'.wv = .slice none 0 0) :
    DiskAt ((w1.setCell ⟨d.q, i * 2, none⟩ s'.lv).setCell ⟨d.q, i * 2 + 1, none⟩ (.slice none 0 0)) { d with secs := d.secs.set i s' } ∧ (∀ k ∈ foot { d with secs := d.secs.set i s' }, k ∈ foot d) ∧
      Touch (foot d) w ((w1.setCell ⟨d.q, i * 2, none⟩ s'.lv).setCell ⟨d.q, i * 2 + 1, none⟩ (.slice none 0 0)) := by
  have h1 := h.below hb
  have hs1 := hs.below hb
  have hbq : ∀ k, Bytes w1 k → k ≠ d.q := fun k hk e => (h1.plain foot_q).2 (e ▸ hk)
  refine ⟨?_, foot_set (W := d.waits) (fun k hk => hk) (by rw [hno]; intro k hk; simp [Value.ownBlock] at hk), ((Touch.of_below hb (foot d)).setCell (.inl foot_q) _).setCell (.inl foot_q) _⟩
  refine h1.put (w' := (w1.setCell ⟨d.q, i * 2, none⟩ s'.lv).setCell ⟨d.q, i * 2 + 1, none⟩ (.slice none 0 0)) s' d.waits (Nat.le_refl _) ?_ ?_ (fun k hk => set2_other _ _ _ _ _ _ _ (hbq k hk)) (fun j hj _ k hk => set2_other _ _ _ _ _ _ _ (h1.not_q (List.getElem_mem hj) hk).1) ?_ (by rw [hno]; intro j hj _ k hk; simp [Value.ownBlock] at hk)
  · rw [show dcells { d with secs := d.secs.set i s', waits := d.waits } = dcells d by simp [dcells]]
    exact (h1.top.far (p := ⟨d.q, i * 2, none⟩) h1.pq _).far (p := ⟨d.q, i * 2 + 1, none⟩) h1.pq _
  · have := (h1.sec.set_ (i * 2) s'.lv).set_ (i * 2 + 1) (.slice none 0 0)
    rw [← hno] at this ⊢
    rw [← encS_set d.secs i s' hi]
    simpa using this
  · exact hs1.of_heap (fun k hk => by rw [hno] at hk; simp [Value.ownBlock] at hk) (fun k hk => set2_other _ _ _ _ _ _ _ (hbq k hk))
/-- nothing waits any more. -/
theorem DiskAt.calm {w : World} {d : Dsk} (h : DiskAt w d) (he : ∀ s ∈ d.secs, s.wv = .slice none 0 0 ∧ s.ws = []) : DiskAt (w.setCell ⟨d.p, 2, none⟩ (.int .i64 0)) { d with waits := 0 } := by
  have hbq : ∀ k, Bytes w k → k ≠ d.p := fun k hk e => (h.plain foot_p).2 (e ▸ hk)
  refine ⟨h.top.set_ 2 _, (heap_set_other _ _ _ _ _ (fun e => h.pq e.symm)).trans h.sec, fun s hs => ?_, h.apart, h.few, h.small⟩
  have h1 := (h.ok s hs).of_heap (w' := w.setCell ⟨d.p, 2, none⟩ (.int .i64 0)) (fun k hk => heap_set_other _ _ _ _ _ (h.not_q hs hk).2) (fun k hk => heap_set_other _ _ _ _ _ (hbq k hk))
  have h2 := he s hs
  exact ⟨h1.lrow, h1.lfit, h1.wrow, by rw [h2.2]; exact Nat.le_refl _, by rw [h2.2]; intro x hx; cases hx⟩
theorem part_done (p : Nat) (d : Dsk) : { part p d.secs.length d with waits := 0 } = settleD p d := by
  have h := part_all p d
  unfold settleD
  rw [← h]
  rfl
set_option maxRecDepth 100000 in
theorem settle_all {w : World} {d : Dsk} (h : DiskAt w d) (LW : d.waits ≤ 1000000) (p : Nat) (hp : p < 18446744073709551616) : Calls Try.prog 33 #[.pointer (some ⟨d.p, 0, none⟩), .int .u64 (p : Nat)] w fun e w' => (∃ v, e = .returned v) ∧ DiskAt w' (settleD p d) ∧ (∀ k ∈ foot (settleD p d), k ∈ foot d) ∧ Touch (foot d) w w' := by
  have H := Lib.hid h
  have c1 := h.c 1
  simp only [dcells, List.getElem?_toArray, List.getElem?_cons_zero, List.getElem?_cons_succ] at c1
  have hfew := h.few
  clear h
  go_enter Try.func33, Try.ntmps33
  go_wp2_with fail
  go_loopg [4, 10] (d.secs.length + 1) (fun j s4 s10 wr => ∃ i : Nat, i ≤ d.secs.length ∧ d.secs.length < i + j ∧ s10 = .int .i64 (i : Nat) ∧ DiskAt wr (part p i d) ∧ (∀ k ∈ foot (part p i d), k ∈ foot d) ∧ Touch (foot d) w wr)
  case atStart => exact ⟨0, by omega, by omega, rfl, by rw [part_zero]; exact H.out, by rw [part_zero]; exact fun k hk => hk, Touch.refl _ _⟩
  case round =>
    obtain ⟨i, hi, hj, rfl, hd, hk, ht⟩ := hrel
    by_cases hend : i = d.secs.length
    · have hno : ¬ (i : Int) < (d.secs.length : Int) := by omega
      subst hend
      have e2 : (part p d.secs.length d).p = d.p := rfl
      have t2 := hd.top
      rw [e2] at t2
      have k2 := Whole.cell t2 2
      rw [show (dcells (part p d.secs.length d))[2]? = some (.int .i64 d.waits) from rfl] at k2
      have f2 := Whole.frozen t2 2
      have q1 := Whole.cell t2 1
      rw [show (dcells (part p d.secs.length d))[1]? = some (.slice (some ⟨d.q, 0, none⟩) (part p d.secs.length d).secs.length (part p d.secs.length d).secs.length) from rfl, part_length p _ d (Nat.le_refl _)] at q1
      have HD := Lib.hid hd
      have HK := Lib.hid hk
      have HT := Lib.hid ht
      clear hd hk ht t2
      go_wp2_with fail
      go_end0
      have hc := HD.out.calm (fun s hs => by
        rw [part_all] at hs
        obtain ⟨s0, _, rfl⟩ := List.mem_map.1 hs
        exact settleS_wv p s0)
      rw [part_done] at hc
      exact ⟨⟨_, rfl⟩, hc, fun k hk => HK.out k (by rw [← part_done] at hk; exact hk), HT.out.setCell (.inl foot_p) _⟩
    · have hlt : i < d.secs.length := by omega
      have hlt' : (i : Int) < (d.secs.length : Int) := by omega
      have hpl := part_length p i d hi
      have q1 := hd.c 1
      simp only [dcells, List.getElem?_toArray, List.getElem?_cons_zero, List.getElem?_cons_succ] at q1
      rw [hpl] at q1
      rw [show (part p i d).p = d.p from rfl, show (part p i d).q = d.q from rfl] at q1
      have hok := hd.ok _ (List.getElem_mem (show i < (part p i d).secs.length by omega))
      rw [part_at p i d hlt] at hok
      have hcs := fun j => Whole.cell hd.sec j
      obtain ⟨k0, k1⟩ := encS_at (part p i d).secs i (by omega)
      rw [part_at p i d hlt] at k0 k1
      have S := settle_sec d.q (i * 2) d.secs[i] p wr ((hcs (i * 2)).trans (by simpa using k0)) ((hcs (i * 2 + 1)).trans (by simpa using k1)) (fun j => Whole.frozen hd.sec j) hd.sec.lt hok.wrow (by have := hok.few; rw [show (part p i d).waits = d.waits from rfl] at this; omega) hp
      have HD := Lib.hid hd
      have HK := Lib.hid hk
      have HT := Lib.hid ht
      have HOK := Lib.hid hok
      replace S := Lib.hid S
      clear hd hk ht hok hcs k0 k1 hpl
      go_wp2_with fail
      refine S.out.mono ?_
      rintro e w2 ⟨⟨v, rfl⟩, w1, hb, rfl⟩
      obtain ⟨d1, d2, d3⟩ := HD.out.setSec hb (show i < (part p i d).secs.length by rw [part_length p i d hi]; exact hlt) (settleS p d.secs[i]) (settleS_ok HOK.out p _) (settleS_wv p _).1
      rw [part_succ p i d hlt] at d1 d2
      rw [show (part p i d).q = d.q from rfl] at d1 d3
      have D1 := Lib.hid d1
      have D2 := Lib.hid d2
      have D3 := Lib.hid d3
      generalize (w1.setCell { block := d.q, off := i * 2 } (settleS p d.secs[i]).lv).setCell { block := d.q, off := i * 2 + 1 } (Value.slice none 0 0) = w2 at *
      clear d1 d2 d3 S HD HOK
      go_wp2_with fail
      go_roundg (d.secs.length - i)
      case measure => omega
      case rel => exact ⟨i + 1, by omega, by omega, rfl, D1.out, fun k hk => HK.out k (D2.out k hk), HT.out.trans D3.out (fun x hx => .inl (HK.out x hx))⟩
end Go.Proofs.Ytmcgjlidfgbdfaa
