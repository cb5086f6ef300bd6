/- find: where a key's pair stands. -/
import Derived.Test.YtcboakmfabdeoaaW7
import Derived.Deep.LoopGhost
namespace Go.Proofs.Ytcboakmfabdeoaa
open Go.RowKit

theorem place_at (p : Nat) (vp vk : Value) (m : Nat) (ps : List Pr) (k : Int) (hb : Bool) (w : World) (hr : Rec w p vp vk m) (h2 : PRow w vp ps) (hs : Rising ps) (hn : ps.length ≤ 1000000) (hh : hasB ps k = hb) :
    Calls Try.prog 44 #[.pointer (some ⟨p, 0, none⟩), .int .i64 k] w fun e w' => e = .returned (.tuple #[.int .i64 (pos ps k), .bool hb]) ∧ Below w.heap.size w w' := by
  subst hh
  rcases h2.cases with ⟨rfl, rfl⟩ | ⟨g, cap, cur, rfl, hg, _⟩
  · exact place_none p none 0 k w hr.c0
  · exact place_some p g ps.length cap ps k w hr.c0 rfl hn (h2.lt rfl) h2.row hs

theorem RowP.get {w : World} {g : Nat} {P1 P2 : List Pr} {q : Pr} (h : RowP w g (P1 ++ q :: P2)) : w.cell? ⟨g, P1.length * 2, none⟩ = some (.int .i64 q.1) ∧ w.cell? ⟨g, P1.length * 2 + 1, none⟩ = some (.string q.2) := by
  have := h P1.length (by simp)
  simpa using this

theorem encP_set (P1 P2 : List Pr) (q : Pr) (s : ByteArray) : (encP (P1 ++ q :: P2)).set (P1.length * 2 + 1) (.string s) = encP (P1 ++ (q.1, s) :: P2) := by
  have h1 : encP (P1 ++ q :: P2) = encP P1 ++ .int .i64 q.1 :: .string q.2 :: encP P2 := by simp [encP]
  have h2 : encP (P1 ++ (q.1, s) :: P2) = encP P1 ++ .int .i64 q.1 :: .string s :: encP P2 := by simp [encP]
  rw [h1, h2, List.set_append_right _ _ (by rw [encP_length]; omega), encP_length, show P1.length * 2 + 1 - P1.length * 2 = 1 by omega]
  rfl

theorem PRow.set {w w2 : World} {g n cap : Nat} {P1 P2 : List Pr} {q : Pr} {s : ByteArray} (h : PRow w (.slice (some ⟨g, 0, none⟩) n cap) (P1 ++ q :: P2)) (hb : w2.heap[g]? = (w.setCell ⟨g, P1.length * 2 + 1, none⟩ (.string s)).heap[g]?) :
    PRow w2 (.slice (some ⟨g, 0, none⟩) n cap) (P1 ++ (q.1, s) :: P2) := by
  refine ⟨by rw [encP_length], ?_⟩
  rcases h.2 with ⟨h1, _⟩ | ⟨g', cap', cur, h1, hb1, h2, h3, h4, h5, h6⟩
  · cases h1
  · have e := h1
    simp only [Value.slice.injEq, Option.some.injEq, Addr.mk.injEq] at e
    obtain ⟨⟨rfl, _⟩, _, rfl⟩ := e
    refine .inr ⟨g, cap, cur.setIfInBounds (P1.length * 2 + 1) (.string s), by rw [h1]; simp, hb1, ?_, by simpa using h3, h4, by simpa using h5, ?_⟩
    · rw [hb, heap_setCell_same w g _ cur _ _ h2]
    · rw [Array.toList_setIfInBounds, ← encP_set, ← h6, List.take_set, show (P1 ++ (q.1, s) :: P2).length = (P1 ++ q :: P2).length by simp]

def FindPost (t : Nat) (w : World) (h : Nat) (x : Kid) (k : Int) (e : Ending) : Prop :=
  (hasB x.l k = false ∧ e = .returned (.pointer none)) ∨
  ∃ g i, e = .returned (.pointer (some ⟨g, i * 2, none⟩)) ∧ hasB x.l k = true ∧ g ∈ x.fp ∧ w.cell? ⟨g, i * 2 + 1, none⟩ = some (.string (valOf x.l k)) ∧ w.frozen? ⟨g, i * 2 + 1, none⟩ = false ∧
    ∀ s w2, (∀ b ∈ x.fp, w2.heap[b]? = (w.setCell ⟨g, i * 2 + 1, none⟩ (.string s)).heap[b]?) → ∃ fp3 c3, IsT t w2 h ⟨x.p, setv x.l k s, fp3, c3⟩ ∧ fp3.Perm x.fp ∧ x.c ≤ c3

theorem pair_split {ps : List Pr} {k : Int} (hs : Rising ps) (hk : hasB ps k = true) : ∃ P1 q P2, ps = P1 ++ q :: P2 ∧ q.1 = k ∧ pos ps k = P1.length := by
  obtain ⟨q, hq, hqk⟩ := hasB_iff.1 hk
  obtain ⟨P1, P2, e1⟩ := List.append_of_mem hq
  rw [e1] at hs
  have r1 := rising_append.1 hs
  have r2 := rising_cons.1 r1.2.1
  refine ⟨P1, q, P2, e1, hqk, ?_⟩
  rw [e1]
  have := pos_mid (A := P1) (x := [q]) (B := P2) (k := k) (fun p hp => by have := r1.2.2 p hp q (by simp); omega) (fun p hp => by have := r2.1 p hp; omega)
  rw [show P1 ++ [q] ++ P2 = P1 ++ q :: P2 by simp] at this
  rw [this]
  simp [pos]; omega

theorem mid_bounds {A B : List Pr} {q : Pr} (hs : Rising (A ++ [q] ++ B)) : (∀ p ∈ A, p.1 < q.1) ∧ ∀ p ∈ B, q.1 < p.1 := by
  have r1 := rising_append.1 hs
  have r2 := rising_append.1 r1.1
  exact ⟨fun p hp => r2.2.2 p hp q (by simp), fun p hp => r1.2.2 q (by simp) p hp⟩

theorem PRow.frozen {w : World} {g n cap : Nat} {l : List Pr} (h : PRow w (.slice (some ⟨g, 0, none⟩) n cap) l) (o : Nat) : w.frozen? ⟨g, o, none⟩ = false := by
  rcases h.2 with ⟨h1, _⟩ | ⟨g', cap', cur, h1, hb1, h2', _⟩
  · cases h1
  · simp only [Value.slice.injEq, Option.some.injEq, Addr.mk.injEq] at h1
    obtain ⟨⟨rfl, _⟩, _⟩ := h1
    simp [World.frozen?, h2']

/-- the parts of a row about one of a node's own pairs. -/
theorem join_pair {P1 P2 : List Pr} {ks : List Kid} (hlen : ks.length = P1.length + P2.length + 2) :
    ∃ A B, ∀ q : Pr, join (ks.map Kid.l) (P1 ++ q :: P2) = A ++ [q] ++ B := by
  obtain ⟨K1, z, K2, e3, e4⟩ := split_at_cons ks P1.length (by omega)
  have hl2 : K2.length = P2.length + 1 := by
    have h1 : ks.length = K1.length + (K2.length + 1) := by rw [e3]; simp
    omega
  cases K2 with
  | nil => simp at hl2
  | cons u K2 =>
    refine ⟨joinL (K1.map Kid.l) P1 ++ z.l, u.l ++ joinR P2 (K2.map Kid.l), fun q => ?_⟩
    rw [e3, List.map_append, List.map_cons, join_split _ _ _ _ _ (by simpa using e4)]; simp [joinR]

theorem fp_parts {p : Nat} {vp vk : Value} {ks : List Kid} (h : (p :: (rows vp vk ++ fpAll ks)).Nodup) :
    (∀ b, vp.ownBlock = some b → b ≠ p ∧ vk.ownBlock ≠ some b ∧ b ∉ fpAll ks) ∧ (∀ b, vk.ownBlock = some b → b ≠ p ∧ b ∉ fpAll ks) ∧ p ∉ fpAll ks ∧ (fpAll ks).Nodup := by
  rw [List.nodup_cons, List.nodup_append, rows, List.nodup_append] at h
  obtain ⟨h1, ⟨⟨_, _, h4⟩, h5, h6⟩⟩ := h
  simp only [List.mem_append, Option.mem_toList] at h1 h4 h6
  refine ⟨fun b hb => ⟨fun e => h1 (by rw [← e]; simp [hb]), fun e => h4 b hb b e rfl, fun hm => h6 b (.inl hb) b hm rfl⟩, fun b hb => ⟨fun e => h1 (by rw [← e]; simp [hb]), fun hm => h6 b (.inr hb) b hm rfl⟩, fun hm => h1 (.inr hm), h5⟩

/-- in a node that has the key itself. -/
theorem node_has {t : Nat} {w : World} {h : Nat} {y : Kid} {k : Int} (hy : IsT t w h y) (hs : Rising y.l) (hnd : y.fp.Nodup) {vp vk : Value} {n : Nat} {ps : List Pr} (hr : Rec w y.p vp vk n) (h2 : PRow w vp ps) (hsp : Rising ps) (hk : hasB ps k = true)
    (hkids : (h = 0 ∧ ps = y.l) ∨ ∃ h' ks, h = h' + 1 ∧ KRow w vk ks ∧ ks.length = ps.length + 1 ∧ y.l = join (ks.map Kid.l) ps ∧ y.fp = y.p :: (rows vp vk ++ fpAll ks) ∧ y.c = ps.length ∧ ∀ z ∈ ks, IsT t w h' z ∧ t - 1 ≤ z.c) :
    ∃ g cap, vp = .slice (some ⟨g, 0, none⟩) ps.length cap ∧ pos ps k < ps.length ∧ g ∈ y.fp ∧ hasB y.l k = true ∧ w.cell? ⟨g, pos ps k * 2 + 1, none⟩ = some (.string (valOf y.l k)) ∧ w.frozen? ⟨g, pos ps k * 2 + 1, none⟩ = false ∧
      ∀ s w2, (∀ b ∈ y.fp, w2.heap[b]? = (w.setCell ⟨g, pos ps k * 2 + 1, none⟩ (.string s)).heap[b]?) → IsT t w2 h ⟨y.p, setv y.l k s, y.fp, y.c⟩ := by
  obtain ⟨P1, q, P2, rfl, hqk, hpos⟩ := pair_split hsp hk
  subst hqk
  obtain ⟨g, cap, rfl, hcap⟩ := h2.own (by simp)
  have hc : w.cell? ⟨g, P1.length * 2 + 1, none⟩ = some (.string q.2) := h2.row.get.2
  have hval : ∀ A B : List Pr, y.l = A ++ [q] ++ B → hasB y.l q.1 = true ∧ valOf y.l q.1 = q.2 ∧ ∀ s, setv y.l q.1 s = A ++ [(q.1, s)] ++ B := by
    intro A B e
    rw [e] at hs ⊢
    obtain ⟨b1, b2⟩ := mid_bounds hs
    exact ⟨by rw [hasB_mid b1 b2]; simp [hasB], by rw [valOf_mid b1 b2]; simp [valOf], fun s => by rw [setv_mid b1 b2]; simp [setv]⟩
  rw [hpos]
  have hgp : g ≠ y.p := by
    rintro rfl
    rcases hkids with ⟨rfl, _⟩ | ⟨h', ks, rfl, _, _, _, hf, _⟩
    · obtain ⟨vp', r1, _, r3, _⟩ := hy
      unfold Rec at r1 hr
      rw [hr] at r1
      simp at r1
      obtain ⟨⟨rfl, _⟩, _⟩ := r1
      rw [r3] at hnd; simp [Value.ownBlock] at hnd
    · rw [hf] at hnd; simp [rows, Value.ownBlock] at hnd
  rcases hkids with ⟨rfl, e⟩ | ⟨h', ks, rfl, hK, hlen, hj, hf, hyc, hz⟩
  · obtain ⟨q1, q2, q3⟩ := hval P1 P2 (by rw [← e]; simp)
    obtain ⟨vp', r1, r2, r3, r4⟩ := hy
    have r1' := r1
    unfold Rec at r1 hr
    rw [hr] at r1
    simp at r1
    obtain ⟨⟨rfl, rfl, hnn⟩, _⟩ := r1
    have hgf : g ∈ y.fp := by rw [r3]; simp [Value.ownBlock]
    refine ⟨g, cap, rfl, by simp, hgf, q1, by rw [q2]; exact hc, h2.frozen _, fun s w2 hb => ?_⟩
    have hgs : w2.heap[g]? = (w.setCell ⟨g, P1.length * 2 + 1, none⟩ (.string s)).heap[g]? := hb g hgf
    refine ⟨.slice (some ⟨g, 0, none⟩) _ cap, ?_, ?_, r3, by rw [setv_length]; exact r4⟩
    · rw [setv_length]
      exact (hb y.p (by rw [r3]; simp)).trans ((heap_setCell_other w _ y.p _ (fun e => hgp e.symm)).trans r1')
    · show PRow w2 _ (setv y.l q.1 s)
      rw [q3 s]
      simpa using h2.set hgs
  · obtain ⟨A, B, hAB⟩ := join_pair (P1 := P1) (P2 := P2) (ks := ks) (by simp at hlen; omega)
    obtain ⟨q1, q2, q3⟩ := hval A B (by rw [hj, hAB])
    have hgf : g ∈ y.fp := by rw [hf]; simp [rows, Value.ownBlock]
    refine ⟨g, cap, rfl, by simp, hgf, q1, by rw [q2]; exact hc, h2.frozen _, fun s w2 hb => ?_⟩
    have hgs : w2.heap[g]? = (w.setCell ⟨g, P1.length * 2 + 1, none⟩ (.string s)).heap[g]? := hb g hgf
    have hoth : ∀ b ∈ y.fp, b ≠ g → w2.heap[b]? = w.heap[b]? := fun b hbf hne => (hb b hbf).trans (heap_setCell_other w _ b _ hne)
    rw [hf] at hnd hoth
    obtain ⟨n1, n2, n3, n4⟩ := fp_parts hnd
    obtain ⟨g1, g2, g3⟩ := n1 g rfl
    obtain ⟨vp', vk', ps', ks', i1, i2, i3, i4, i5, i6, i7, i8⟩ := hy
    have hr' := hr
    unfold Rec at i1 hr
    rw [hr] at i1
    simp at i1
    obtain ⟨_, hnn⟩ := i1
    have hn2 : n = y.l.length := by omega
    subst hn2
    refine ⟨.slice (some ⟨g, 0, none⟩) _ cap, vk, P1 ++ (q.1, s) :: P2, ks, ?_, h2.set hgs, ?_, by simpa using hlen, by show setv y.l q.1 s = _; rw [q3 s, hAB], hf, by show y.c = _; rw [hyc]; simp, ?_⟩
    · show Rec w2 y.p _ vk (setv y.l q.1 s).length
      rw [setv_length]
      exact (hoth y.p (by simp) g1.symm).trans hr'
    · exact ownsRow_of_heap hK fun b hb => hoth b (by simp [mem_rows, hb]) (fun e => g2 (e ▸ hb))
    · intro z hzm
      exact ⟨(hz z hzm).1.frame fun b hbz => hoth b (by simp [mem_fpAll]; exact .inr (.inr ⟨z, hzm, hbz⟩)) (fun e => g3 (mem_fpAll.2 ⟨z, hzm, e ▸ hbz⟩)), (hz z hzm).2⟩
theorem IsT.node {t : Nat} {w : World} {h : Nat} {y : Kid} (hy : IsT t w h y) (hs : Rising y.l) :
    ∃ vp vk ps, Rec w y.p vp vk y.l.length ∧ PRow w vp ps ∧ Rising ps ∧ ps.length ≤ y.l.length ∧ y.c = ps.length ∧
      ((h = 0 ∧ vk = .slice none 0 0 ∧ ps = y.l ∧ y.fp = y.p :: vp.ownBlock.toList) ∨
       ∃ h' ks, h = h' + 1 ∧ KRow w vk ks ∧ ks.length = ps.length + 1 ∧ y.l = join (ks.map Kid.l) ps ∧ y.fp = y.p :: (rows vp vk ++ fpAll ks) ∧ y.c = ps.length ∧ ∀ z ∈ ks, IsT t w h' z ∧ t - 1 ≤ z.c) := by
  cases h with
  | zero =>
    obtain ⟨vp, r1, r2, r3, r4⟩ := hy
    exact ⟨vp, _, y.l, r1, r2, hs, Nat.le_refl _, r4, .inl ⟨rfl, rfl, rfl, r3⟩⟩
  | succ h' =>
    obtain ⟨vp, vk, ps, ks, r1, r2, r3, r4, r5, r6, r7, r8⟩ := hy
    have hsub : ps.Sublist y.l := by
      cases ks with
      | nil => simp at r4
      | cons a r => rw [r5]; simpa using join_sub a.l (r.map Kid.l) ps (by simp at r4 ⊢; omega)
    exact ⟨vp, vk, ps, r1, r2, hs.sublist hsub, hsub.length_le, r7, .inr ⟨h', ks, rfl, r3, r4, r5, r6, r7, r8⟩⟩

theorem RowP.getAt {w : World} {g : Nat} {ps : List Pr} (h : RowP w g ps) (i : Nat) (hi : i < ps.length) : ∃ q, ps[i]? = some q ∧ w.cell? ⟨g, i * 2, none⟩ = some (.int .i64 q.1) ∧ w.cell? ⟨g, i * 2 + 1, none⟩ = some (.string q.2) := by
  obtain ⟨h1, h2⟩ := h i hi
  rw [List.getElem?_eq_getElem hi] at h1 h2
  exact ⟨ps[i], List.getElem?_eq_getElem hi, h1, h2⟩

theorem KRow.own {w : World} {v : Value} {ks : List Kid} (h : KRow w v ks) (hl : ks ≠ []) : ∃ g cap, v = .slice (some ⟨g, 0, none⟩) ks.length cap ∧ ks.length ≤ cap := by
  rcases h.cases with ⟨_, h⟩ | ⟨g, cap, _, h, _, h2, _⟩
  · exact absurd h hl
  · exact ⟨g, cap, h, h2⟩

set_option maxHeartbeats 1000000 in
set_option maxRecDepth 100000 in
theorem find_any (t h : Nat) (x : Kid) (k : Int) (w : World) (hx : IsT t w h x) (hs : Rising x.l) (hnd : x.fp.Nodup) (hn : x.l.length ≤ 1000000) :
    Calls Try.prog 31 #[.pointer (some ⟨x.p, 0, none⟩), .int .i64 k] w fun e w' => FindPost t w h x k e ∧ Below w.heap.size w w' := by
  have HX := Lib.hid hx
  have HS := Lib.hid hs
  have HND := Lib.hid hnd
  clear hx hs hnd
  go_enter Try.func31, Try.ntmps31
  go_wp2
  go_loopg [0] h (fun gk s0 wr => ∃ y R, s0 = .pointer (some ⟨y.p, 0, none⟩) ∧ Hid (IsT t w gk y) ∧ Hid (Ctx t 0 k w h x R gk y) ∧ Hid (Below w.heap.size w wr) ∧ Hid ((y.fp ++ R).Perm x.fp))
  case atStart => exact ⟨x, [], rfl, HX.out, Ctx.start t 0 k w h x, Below.refl _ _, (by simp : (x.fp ++ []).Perm x.fp)⟩
  case round =>
    obtain ⟨y, R, rfl, HY, HC, HB, HP⟩ := hrel
    have facts : Rising y.l ∧ y.l.length ≤ x.l.length ∧ (∀ s, hasB y.l k = hasB x.l k ∧ valOf y.l k = valOf x.l k ∧ ∃ A B, setv x.l k s = A ++ setv y.l k s ++ B ∧ x.l = A ++ y.l ++ B) := by
      obtain ⟨A, B, e1, e2, e3, e4⟩ := HC.out
      have hr := HS.out
      rw [e1] at hr
      refine ⟨(rising_append.1 (rising_append.1 hr).1).2.1, by rw [e1]; simp; omega, fun s => ⟨by rw [e1, hasB_mid e2 e3], by rw [e1, valOf_mid e2 e3], A, B, by rw [e1, setv_mid e2 e3], e1⟩⟩
    obtain ⟨hys, hyl, F⟩ := facts
    have F := Lib.hid F
    obtain ⟨vp, vk, ps, hr, h2, hps, hpl, hyc, hkids⟩ := HY.out.node hys
    have HR := Lib.hid hr
    have H2 := Lib.hid h2
    have HPS := Lib.hid hps
    have hr' : Rec wr y.p vp vk y.l.length := (HB.out.block y.p (HY.out.lt _ HY.out.p_mem)).trans hr
    have h2' : PRow wr vp ps := ownsRow_of_heap h2 fun b hb => HB.out.block b (h2.lt hb)
    have HR' := Lib.hid hr'
    have H2' := Lib.hid h2'
    have c0 := hr'.c0
    have c1 := hr'.c1
    clear hr h2 hr' h2' hyc hps
    by_cases hh : hasB ps k = true
    · have hnd : y.fp.Nodup := (List.nodup_append.1 (HP.out.nodup_iff.2 HND.out)).1
      obtain ⟨g, cap, rfl, hpos, hgf, k1, k2, k3, k4⟩ := node_has HY.out hys hnd HR.out H2.out HPS.out hh (by rcases hkids with ⟨a, _, b, _⟩ | h; exact .inl ⟨a, b⟩; exact .inr h)
      have fin : FindPost t w h x k (.returned (.pointer (some ⟨g, pos ps k * 2, none⟩))) := by
        refine .inr ⟨g, pos ps k, rfl, by rw [← ((F.out default).1)]; exact k1, HP.out.mem_iff.1 (by simp [hgf]), by rw [← ((F.out default).2.1)]; exact k2, k3, fun s w2 hb => ?_⟩
        obtain ⟨A, B, e1, e2⟩ := (F.out s).2.2
        obtain ⟨A', B', f1, f2, f3, f4⟩ := HC.out
        have hb' : ∀ b ∈ y.fp ++ R, w2.heap[b]? = (w.setCell ⟨g, pos ps k * 2 + 1, none⟩ (.string s)).heap[b]? := fun b hb2 => hb b (HP.out.mem_iff.1 hb2)
        have hndall := HP.out.nodup_iff.2 HND.out
        obtain ⟨fp3, c3, i1, i2, i3⟩ := f4 w2 ⟨y.p, setv y.l k s, y.fp, y.c⟩ (k4 s w2 (fun b hb2 => hb' b (by simp [hb2]))) rfl (Nat.le_refl _) (by simp [setv_length])
          (fun b hbR => (hb' b (by simp [hbR])).trans (heap_setCell_other w _ b _ (fun e => (List.nodup_append.1 hndall).2.2 g hgf b hbR e.symm)))
        refine ⟨fp3, c3, ?_, i3.trans HP.out, i2⟩
        have : setv x.l k s = A' ++ setv y.l k s ++ B' := by rw [f1, setv_mid f2 f3]
        rw [this]; exact i1
      have FIN := Lib.hid fin
      have hpn : pos ps k < 1000001 := by omega
      have HH := Lib.hid hh
      clear k1 k2 k3 k4 hkids hh fin
      go_wp2_with fail
      refine (place_at y.p _ vk _ ps k true _ HR'.out H2'.out HPS.out (by omega) HH.out).mono ?_
      rintro e w' ⟨rfl, hw⟩
      have c0' := (hw.cell (p := ⟨y.p, 0, none⟩) (World.block_lt_of_cell? wr _ c0)).trans c0
      have HW := Lib.hid hw
      clear c0 c1 hw
      generalize pos ps k = i at hpos hpn FIN
      go_wp2
      go_ret
      refine ⟨?_, HB.out.trans (HW.out.mono HB.out.size)⟩
      exact FIN.out
    · have hh' : hasB ps k = false := by simpa using hh
      have HH := Lib.hid hh'
      clear hh hh'
      rcases hkids with ⟨rfl, rfl, rfl, _⟩ | ⟨h', ks, rfl, hK, hlen, hj, hf, hyc, hz⟩
      · have fin : FindPost t w h x k (.returned (.pointer none)) := .inl ⟨by rw [← ((F.out default).1)]; exact HH.out, rfl⟩
        have FIN := Lib.hid fin
        clear fin
        go_wp2_with fail
        refine (place_at y.p _ _ _ _ k false _ HR'.out H2'.out HPS.out (by omega) HH.out).mono ?_
        rintro e w' ⟨rfl, hw⟩
        have c1' := (hw.cell (p := ⟨y.p, 1, none⟩) (World.block_lt_of_cell? wr _ c1)).trans c1
        have HW := Lib.hid hw
        clear c0 c1 hw
        generalize pos y.l k = i
        go_wp2_with fail
        refine (leaf_yes y.p 0 none _ c1').mono ?_
        rintro e w' ⟨rfl, rfl⟩
        go_wp2
        go_ret
        exact ⟨FIN.out, HB.out.trans (HW.out.mono HB.out.size)⟩
      · obtain ⟨P1, P2, K1, z, K2, rfl, rfl, s3, s4, s5, s6, s7, s8, s9⟩ := node_split (k := k) hlen (by rw [← hj]; exact hys)
        obtain ⟨gK, cK, rfl, hcK⟩ := hK.own (by simp)
        have hgl : gK < w.heap.size := (World.ownsRow.lt hK gK rfl).2
        have kc : wr.cell? ⟨gK, K1.length, none⟩ = some (.pointer (some ⟨z.p, 0, none⟩)) := (HB.out.cell (p := ⟨gK, K1.length, none⟩) hgl).trans (hK.cell K1.length z (by simp))
        have ctx := Ctx.down HC.out HR.out H2.out hK hj s4 s5 (by rw [hyc]; exact Nat.le_refl _) hz s7 (s9 HH.out)
        have perm : (z.fp ++ (y.p :: (rows vp (.slice (some ⟨gK, 0, none⟩) (K1 ++ z :: K2).length cK) ++ fpAll K1 ++ fpAll K2) ++ R)).Perm x.fp := by
          refine List.Perm.trans ?_ HP.out
          rw [hf]
          have hff : fpAll (K1 ++ z :: K2) = fpAll K1 ++ (z.fp ++ fpAll K2) := by simp [fpAll]
          rw [hff]
          generalize rows vp _ = r
          have p1 : (r ++ (fpAll K1 ++ (z.fp ++ fpAll K2))).Perm (z.fp ++ (r ++ fpAll K1 ++ fpAll K2)) := by
            have := List.perm_append_comm_assoc (r ++ fpAll K1) z.fp (fpAll K2)
            simpa [List.append_assoc] using this
          have p2 : (y.p :: (r ++ (fpAll K1 ++ (z.fp ++ fpAll K2)))).Perm (z.fp ++ (y.p :: (r ++ fpAll K1 ++ fpAll K2))) := (p1.cons y.p).trans List.perm_middle.symm
          simpa [List.append_assoc] using (p2.append_right R).symm
        have CTX := Lib.hid ctx
        have PERM := Lib.hid perm
        have HZ := Lib.hid (hz z (by simp)).1
        have KL : K1.length < (K1 ++ z :: K2).length := by simp
        have S3 : Hid (pos (P1 ++ P2) k = K1.length) := by rw [s4]; exact s3.symm
        have hK1 : K1.length ≤ 1000000 := by simp at hpl; omega
        have S4 := Lib.hid s4
        have HLEN := Lib.hid hlen
        clear s4 s5 hlen
        generalize (K1 ++ z :: K2).length = nK at *
        clear ctx perm hz hj hf hyc s3 s7 s8 s9 s6 hK HC HP
        go_wp2_with fail
        refine (place_at y.p _ _ _ _ k false _ HR'.out H2'.out HPS.out (by omega) HH.out).mono ?_
        rintro e w' ⟨rfl, hw⟩
        rw [S3.out]
        have c1' := (hw.cell (p := ⟨y.p, 1, none⟩) (World.block_lt_of_cell? wr _ c1)).trans c1
        have kc' := (hw.cell (p := ⟨gK, K1.length, none⟩) (World.block_lt_of_cell? wr _ kc)).trans kc
        have HW := Lib.hid hw
        clear c0 c1 kc hw
        generalize K1.length = i at *
        go_wp2_with fail
        refine (leaf_no y.p nK cK _ _ c1' (by omega)).mono ?_
        rintro e w' ⟨rfl, rfl⟩
        go_wp2
        go_roundg h'
        case measure => omega
        case rel => exact ⟨z, _, rfl, HZ, CTX, HB.out.trans (HW.out.mono HB.out.size), PERM⟩
end Go.Proofs.Ytcboakmfabdeoaa
