/- merge. -/
import Derived.Test.YtcboakmfabdeoaaXq
import Derived.Deep.RegionWith
namespace Go.Proofs.Ytcboakmfabdeoaa
open Go.RowKit

theorem encP_oneCell (r : List Pr) : ∀ u ∈ encP r, u.oneCell' = true := by
  intro u hu
  simp only [encP, List.mem_flatMap] at hu
  obtain ⟨q, _, hq⟩ := hu
  simp at hq
  rcases hq with rfl | rfl <;> rfl

/-- append of pairs to a row of one's own. -/
theorem appendP (w : World) (g n cap : Nat) (l r : List Pr) (a : Addr) (m c : Nat) (hl : l.length = n) (hm : r.length = m) (hr : PRow w (.slice (some ⟨g, 0, none⟩) n cap) l) (hnews : ∀ j u, (encP r)[j]? = some u → w.cell? (a.add j) = some u) (hn : 0 < n) (hb : n + m ≤ 1000001) :
    ∃ g' cap' w', (Builtin.append_ #[65, 65] 65 #[.slice (some ⟨g, 0, none⟩) n cap, .slice (some a) m c]).run Try.prog w = .ok (.slice (some ⟨g', 0, none⟩) (n + m) cap') w' ∧ PRow w' (.slice (some ⟨g', 0, none⟩) (n + m) cap') (l ++ r) ∧ w.grownBy w' (some g) ∧ (g = g' ∨ w.heap.size ≤ g') := by
  obtain ⟨i0, hi0, hz0, hzs, hzb⟩ := info_parts Try.info61
  subst hl; subst hm
  obtain ⟨v', w', r1, r2, r3, r4⟩ := append_own2 (P := Try.prog) w 65 65 61 i0 (.agg #[.int .i64 0, .string ByteArray.empty]) 2 24 Try.underlying65 hi0 hz0 hzs hzb rfl (by decide) _ l.length (encP l) hr a r.length c (encP r) (by rw [encP_length]) hnews (encP_oneCell r) hb (by omega) (by
    intro g k cp e
    rcases hr.2 with ⟨h, _⟩ | ⟨g', cap', cur, h, _, _, h3, _⟩
    · rw [h] at e; cases e
    · rw [h] at e; simp only [Value.slice.injEq] at e; omega)
  have h2 : PRow w' v' (l ++ r) := by unfold PRow; rw [encP_append, List.length_append]; exact r2
  obtain ⟨g', cap', rfl, _⟩ := h2.own (fun e => by have := (List.append_eq_nil_iff.1 e).1; subst this; simp at hn)
  rw [List.length_append] at h2 r1 r4
  refine ⟨g', cap', w', r1, h2, r3, ?_⟩
  rcases r4 g' rfl with e | e
  · exact .inl (by simpa [Value.ownBlock] using e)
  · exact .inr e

/-- the two appends of merge. -/
structure App2 (p gp np cp bk nk ck sz : Nat) (ap bp ga na ca gb nb cb sa sb : Nat) (qa qb : Value) (psa psb : List Pr) (m : Pr) (w W1 W2 : World) (g1 c1 g2 c2 : Nat) : Prop where
  run1 : (Builtin.append_ #[65, 65] 65 #[.slice (some ⟨ga, 0, none⟩) na ca, .slice (some ⟨w.heap.size, 0, none⟩) 1 1]).run Try.prog (w.drew.drew.alloc (.cells #[.int .i64 m.1, .string m.2] 61)) = .ok (.slice (some ⟨g1, 0, none⟩) (na + 1) c1) W1
  run2 : (Builtin.append_ #[65, 65] 65 #[.slice (some ⟨g1, 0, none⟩) (na + 1) c1, .slice (some ⟨gb, 0, none⟩) nb cb]).run Try.prog W1 = .ok (.slice (some ⟨g2, 0, none⟩) (na + 1 + nb) c2) W2
  b1 : Rec W1 bp (.slice (some ⟨gb, 0, none⟩) nb cb) qb sb
  a2 : Rec W2 ap (.slice (some ⟨ga, 0, none⟩) na ca) qa sa
  b2 : Rec W2 bp (.slice (some ⟨gb, 0, none⟩) nb cb) qb sb
  p2 : Rec W2 p (.slice (some ⟨gp, 0, none⟩) np cp) (.slice (some ⟨bk, 0, none⟩) nk ck) sz
  ps : PRow W2 (.slice (some ⟨g2, 0, none⟩) (na + 1 + nb) c2) (psa ++ m :: psb)
  touch : Touch [ga] w W2
  own : ga = g2 ∨ w.heap.size ≤ g2

theorem app2 {p gp np cp bk nk ck sz ap bp ga na ca gb nb cb sa sb : Nat} {qa qb : Value} {psa psb : List Pr} {m : Pr} {w : World} (rp : Rec w p (.slice (some ⟨gp, 0, none⟩) np cp) (.slice (some ⟨bk, 0, none⟩) nk ck) sz)
    (ra : Rec w ap (.slice (some ⟨ga, 0, none⟩) na ca) qa sa) (rb : Rec w bp (.slice (some ⟨gb, 0, none⟩) nb cb) qb sb) (pa : PRow w (.slice (some ⟨ga, 0, none⟩) na ca) psa) (pb : PRow w (.slice (some ⟨gb, 0, none⟩) nb cb) psb)
    (hna : psa.length = na) (hnb : psb.length = nb) (h0 : 0 < na) (hb : na + 1 + nb ≤ 1000000) (n1 : ap ≠ ga) (n2 : bp ≠ ga) (n3 : gb ≠ ga) (n4 : p ≠ ga) :
    ∃ W1 W2 g1 c1 g2 c2, App2 p gp np cp bk nk ck sz ap bp ga na ca gb nb cb sa sb qa qb psa psb m w W1 W2 g1 c1 g2 c2 := by
  have ha_lt : ap < w.heap.size := (Array.getElem?_eq_some_iff.1 ra).1
  have hb_lt : bp < w.heap.size := (Array.getElem?_eq_some_iff.1 rb).1
  have hp_lt : p < w.heap.size := (Array.getElem?_eq_some_iff.1 rp).1
  have ga_lt : ga < w.heap.size := pa.lt rfl
  have gb_lt : gb < w.heap.size := pb.lt rfl
  have T0 : Touch [] w (w.drew.drew.alloc (.cells #[.int .i64 m.1, .string m.2] 61)) := ((Touch.refl [] w).drew.drew).alloc _
  have hsz : (w.drew.drew.alloc (.cells #[.int .i64 m.1, .string m.2] 61)).heap.size = w.heap.size + 1 := by simp
  have hnew : (w.drew.drew.alloc (.cells #[.int .i64 m.1, .string m.2] 61)).heap[w.heap.size]? = some (.cells #[.int .i64 m.1, .string m.2] 61 (0, 0)) := heap_alloc_new w.drew.drew _
  have hnews : ∀ j u, (encP [m])[j]? = some u → (w.drew.drew.alloc (.cells #[.int .i64 m.1, .string m.2] 61)).cell? ((⟨w.heap.size, 0, none⟩ : Addr).add j) = some u := fun j u hj => by
    rw [Addr.add_lit, Nat.zero_add, cell_of_row _ w.heap.size j _ _ _ hnew]
    simpa [encP] using hj
  obtain ⟨g1, c1, W1, x1, x2, x3, x4⟩ := appendP _ ga na ca psa [m] ⟨w.heap.size, 0, none⟩ 1 1 hna rfl (pa.touch T0 (by simp)) hnews h0 (by omega)
  have T1 : Touch [ga] w W1 := ((T0.mono (G := [ga]) (by simp))).trans (Touch.of_grown x3) (fun b hb => .inl hb)
  have pb1 : PRow W1 _ psb := pb.touch T1 (fun b hb => by have : gb = b := by {simpa [Value.ownBlock] using hb}; subst this; simpa using n3)
  have hl1 : (psa ++ [m]).length = na + 1 := by simp; omega
  have own1 : ga = g1 ∨ w.heap.size ≤ g1 := x4.imp id (fun e => by omega)
  obtain ⟨g2, c2, W2, y1, y2, y3, y4⟩ := appendP W1 g1 (na + 1) c1 (psa ++ [m]) psb ⟨gb, 0, none⟩ nb cb hl1 hnb x2 (by
    have := encP_from pb1 0
    simpa using this) (by omega) (by omega)
  have T2 : Touch [ga] w W2 := T1.trans (Touch.of_grown y3) (fun b hb => by
    simp at hb; subst hb
    rcases own1 with e | e
    · exact .inl (by simp [e])
    · exact .inr e)
  refine ⟨W1, W2, g1, c1, g2, c2, x1, y1, rb.touch T1 (by simpa using n2), ra.touch T2 (by simpa using n1), rb.touch T2 (by simpa using n2), rp.touch T2 (by simpa using n4), ?_, T2, ?_⟩
  · have : psa ++ [m] ++ psb = psa ++ m :: psb := by simp
    rw [← this]; exact y2
  · rcases y4 with e | e
    · subst e; exact own1
    · exact .inr (by have := T1.size; omega)

/-- behind the left node's pairs. -/
def Merged1 (p gp np cp bk nk ck sz : Nat) (ap bp ga gb n nb cb sa sb : Nat) (qa qb : Value) (l : List Pr) (w wc : World) : Prop :=
  ∃ g2 c2, Rec wc ap (.slice (some ⟨g2, 0, none⟩) n c2) qa sa ∧ Rec wc bp (.slice (some ⟨gb, 0, none⟩) nb cb) qb sb ∧ Rec wc p (.slice (some ⟨gp, 0, none⟩) np cp) (.slice (some ⟨bk, 0, none⟩) nk ck) sz ∧
    PRow wc (.slice (some ⟨g2, 0, none⟩) n c2) l ∧ Touch [ap, ga] w wc ∧ (ga = g2 ∨ w.heap.size ≤ g2)

theorem merged1 {p gp np cp bk nk ck sz ap bp ga na ca gb nb cb sa sb : Nat} {qa qb : Value} {psa psb : List Pr} {m : Pr} {w W1 W2 : World} {g1 c1 g2 c2 : Nat} (A : App2 p gp np cp bk nk ck sz ap bp ga na ca gb nb cb sa sb qa qb psa psb m w W1 W2 g1 c1 g2 c2) (n1 : ap ≠ ga) (n2 : bp ≠ ap) (n3 : p ≠ ap) (ap_lt : ap < w.heap.size) :
    Merged1 p gp np cp bk nk ck sz ap bp ga gb (na + 1 + nb) nb cb sa sb qa qb (psa ++ m :: psb) w (W2.setCell ⟨ap, 0, none⟩ (.slice (some ⟨g2, 0, none⟩) (na + 1 + nb) c2)) := by
  have T : Touch [ap] W2 (W2.setCell ⟨ap, 0, none⟩ (.slice (some ⟨g2, 0, none⟩) (na + 1 + nb) c2)) := (Touch.refl [ap] W2).setCell (q := ⟨ap, 0, none⟩) (.inl (by simp)) _
  refine ⟨g2, c2, A.a2.set0 _, A.b2.touch T (by simpa using n2), A.p2.touch T (by simpa using n3), A.ps.touch T (fun b hb => ?_), (A.touch.mono (G := [ap, ga]) (fun b hb => .inl (by simp at hb; simp [hb]))).trans T (fun b hb => .inl (by simp at hb; simp [hb])), A.own⟩
  have : g2 = b := by simpa [Value.ownBlock] using hb
  subst this
  simp
  rcases A.own with e | e
  · omega
  · omega

theorem ptrs_oneCell (r : List Kid) : ∀ u ∈ ptrs r, u.oneCell' = true := by
  intro u hu
  simp only [ptrs, List.mem_map] at hu
  obtain ⟨q, _, rfl⟩ := hu
  rfl

/-- append of kids to a row of one's own. -/
theorem appendK (w : World) (g n cap : Nat) (l r : List Kid) (a : Addr) (m c : Nat) (hl : l.length = n) (hm : r.length = m) (hr : KRow w (.slice (some ⟨g, 0, none⟩) n cap) l) (hnews : ∀ j u, (ptrs r)[j]? = some u → w.cell? (a.add j) = some u) (hn : 0 < n) (hb : n + m ≤ 1000001) :
    ∃ g' cap' w', (Builtin.append_ #[66, 66] 66 #[.slice (some ⟨g, 0, none⟩) n cap, .slice (some a) m c]).run Try.prog w = .ok (.slice (some ⟨g', 0, none⟩) (n + m) cap') w' ∧ KRow w' (.slice (some ⟨g', 0, none⟩) (n + m) cap') (l ++ r) ∧ w.grownBy w' (some g) ∧ (g = g' ∨ w.heap.size ≤ g') := by
  obtain ⟨i0, hi0, hz0, hzs, hzb⟩ := info_parts Try.info52
  subst hl; subst hm
  obtain ⟨v', w', r1, r2, r3, r4⟩ := append_own2 (P := Try.prog) w 66 66 52 i0 (.pointer none) 1 8 Try.underlying66 hi0 hz0 hzs hzb rfl (by decide) _ l.length (ptrs l) hr a r.length c (ptrs r) (by simp [ptrs]) hnews (ptrs_oneCell r) hb (by omega) (by
    intro g k cp e
    rcases hr.2 with ⟨h, _⟩ | ⟨g', cap', cur, h, _, _, h3, _⟩
    · rw [h] at e; cases e
    · rw [h] at e; simp only [Value.slice.injEq] at e; omega)
  have h2 : KRow w' v' (l ++ r) := by unfold KRow; rw [show ptrs (l ++ r) = ptrs l ++ ptrs r by simp [ptrs], List.length_append]; exact r2
  obtain ⟨g', cap', rfl, _⟩ := h2.own (fun e => by have := (List.append_eq_nil_iff.1 e).1; subst this; simp at hn)
  rw [List.length_append] at h2 r1 r4
  refine ⟨g', cap', w', r1, h2, r3, ?_⟩
  rcases r4 g' rfl with e | e
  · exact .inl (by simpa [Value.ownBlock] using e)
  · exact .inr e
theorem append_nil_nil (w : World) : (Builtin.append_ #[66, 66] 66 #[.slice none 0 0, .slice none 0 0]).run Try.prog w = .ok (.slice none 0 0) w := by
  simp [Builtin.append_, go_sem]

/-- append of one node's kids to another's: both are leaves, or neither is. -/
theorem app3 {w : World} {qa qb : Value} {ysa ysb : List Kid} (ka : KRow w qa ysa) (kb : KRow w qb ysb) (hk : (qa = .slice none 0 0 ∧ qb = .slice none 0 0 ∧ ysa = [] ∧ ysb = []) ∨ (ysa ≠ [] ∧ ysb ≠ [])) (hb : ysa.length + ysb.length ≤ 1000000) :
    ∃ qc W3, (Builtin.append_ #[66, 66] 66 #[qa, qb]).run Try.prog w.drew = .ok qc W3 ∧ KRow W3 qc (ysa ++ ysb) ∧ Touch qa.ownBlock.toList w W3 ∧ (∀ g, qc.ownBlock = some g → qa.ownBlock = some g ∨ w.heap.size ≤ g) ∧ (ysa ++ ysb = [] → qc = .slice none 0 0) := by
  rcases hk with ⟨rfl, rfl, rfl, rfl⟩ | ⟨ea, eb⟩
  · exact ⟨_, _, append_nil_nil _, World.ownsRow_nil _ _ _ _, (Touch.refl _ w).drew, (fun g hg => by cases hg), fun _ => rfl⟩
  · obtain ⟨ga, ca, rfl, _⟩ := ka.own ea
    obtain ⟨gb, cb, rfl, _⟩ := kb.own eb
    have h0 : 0 < ysa.length := by cases ysa with
      | nil => exact absurd rfl ea
      | cons _ _ => simp
    obtain ⟨g', c', W3, r1, r2, r3, r4⟩ := appendK w.drew ga ysa.length ca ysa ysb ⟨gb, 0, none⟩ ysb.length cb rfl rfl (KRow.touch ka ((Touch.refl [] w).drew) (by simp)) (by
      have := ptrs_from kb 0
      simpa using this) h0 (by omega)
    refine ⟨_, W3, r1, r2, ((Touch.refl _ w).drew).trans (Touch.of_grown r3) (fun b hb => .inl (by simpa [Value.ownBlock] using hb)), fun g hg => ?_, fun e => absurd (List.append_eq_nil_iff.1 e).1 ea⟩
    have : g' = g := by simpa [Value.ownBlock] using hg
    subst this
    rcases r4 with e | e
    · exact .inl (by simp [Value.ownBlock, e])
    · exact .inr e

/-- behind the left node's kids. -/
def Merged2 (p gp np cp bk nk ck sz : Nat) (ap bp ga gb n nb cb sa sb : Nat) (qa qb : Value) (l : List Pr) (ys : List Kid) (w wc : World) : Prop :=
  ∃ g2 c2 qc, Rec wc ap (.slice (some ⟨g2, 0, none⟩) n c2) qc sa ∧ Rec wc bp (.slice (some ⟨gb, 0, none⟩) nb cb) qb sb ∧ Rec wc p (.slice (some ⟨gp, 0, none⟩) np cp) (.slice (some ⟨bk, 0, none⟩) nk ck) sz ∧
    PRow wc (.slice (some ⟨g2, 0, none⟩) n c2) l ∧ KRow wc qc ys ∧ Touch (ap :: ga :: qa.ownBlock.toList) w wc ∧ (ga = g2 ∨ w.heap.size ≤ g2) ∧ (∀ g, qc.ownBlock = some g → g ≠ g2 ∧ (qa.ownBlock = some g ∨ w.heap.size ≤ g)) ∧ (ys = [] → qc = .slice none 0 0)

theorem merged2 {p gp np cp bk nk ck sz ap bp ga gb n nb cb sa sb g2 c2 : Nat} {qa qb qc : Value} {l : List Pr} {ys : List Kid} {w wc W3 : World} (x1 : Rec wc ap (.slice (some ⟨g2, 0, none⟩) n c2) qa sa) (x2 : Rec wc bp (.slice (some ⟨gb, 0, none⟩) nb cb) qb sb) (x3 : Rec wc p (.slice (some ⟨gp, 0, none⟩) np cp) (.slice (some ⟨bk, 0, none⟩) nk ck) sz)
    (x4 : PRow wc (.slice (some ⟨g2, 0, none⟩) n c2) l) (x5 : Touch [ap, ga] w wc) (x6 : ga = g2 ∨ w.heap.size ≤ g2) (hk : KRow W3 qc ys) (hT : Touch qa.ownBlock.toList wc W3) (ho : ∀ g, qc.ownBlock = some g → qa.ownBlock = some g ∨ wc.heap.size ≤ g)
    (hq : ∀ g, qa.ownBlock = some g → g ≠ ap ∧ g ≠ bp ∧ g ≠ p ∧ g ≠ ga ∧ g < w.heap.size) (n2 : bp ≠ ap) (n3 : p ≠ ap) (n4 : ap ≠ ga) (ap_lt : ap < w.heap.size) (hnil : ys = [] → qc = .slice none 0 0) :
    Rec W3 ap (.slice (some ⟨g2, 0, none⟩) n c2) qa sa ∧ Merged2 p gp np cp bk nk ck sz ap bp ga gb n nb cb sa sb qa qb l ys w (W3.setCell ⟨ap, 1, none⟩ qc) := by
  have T : Touch [ap] W3 (W3.setCell ⟨ap, 1, none⟩ qc) := (Touch.refl [ap] W3).setCell (q := ⟨ap, 1, none⟩) (.inl (by simp)) _
  have hs := x5.size
  have g2lt : g2 < wc.heap.size := x4.lt rfl
  have a3 : Rec W3 ap (.slice (some ⟨g2, 0, none⟩) n c2) qa sa := x1.touch hT (fun hm => (hq ap (by simpa using hm)).1 rfl)
  have hqg : ∀ g, qc.ownBlock = some g → g ≠ ap ∧ g ≠ g2 := fun g hg => by
    rcases ho g hg with e | e
    · have := hq g e
      refine ⟨this.1, fun e2 => ?_⟩
      rcases x6 with e3 | e3
      · exact this.2.2.2.1 (by omega)
      · omega
    · have := (Array.getElem?_eq_some_iff.1 x1).1
      exact ⟨by omega, by omega⟩
  refine ⟨a3, g2, c2, qc, a3.set1 _, (x2.touch hT (fun hm => (hq bp (by simpa using hm)).2.1 rfl)).touch T (by simpa using n2), (x3.touch hT (fun hm => (hq p (by simpa using hm)).2.2.1 rfl)).touch T (by simpa using n3), ?_, hk.touch T (fun b hb => by simp; exact (hqg b hb).1), ?_, x6, ?_, hnil⟩
  · refine (x4.touch hT (fun b hb hm => ?_)).touch T (fun b hb => ?_)
    · have : g2 = b := by simpa [Value.ownBlock] using hb
      subst this
      have := hq g2 (by simpa using hm)
      rcases x6 with e | e
      · exact this.2.2.2.1 e.symm
      · omega
    · have : g2 = b := by simpa [Value.ownBlock] using hb
      subst this
      simp
      rcases x6 with e | e
      · omega
      · omega
  · exact ((x5.mono (G := ap :: ga :: qa.ownBlock.toList) (fun b hb => .inl (by simp at hb; rcases hb with e | e <;> simp [e]))).trans hT (fun b hb => .inl (by simp at hb; simp [hb]))).trans T (fun b hb => .inl (by simp at hb; simp [hb]))
  · intro g hg
    refine ⟨(hqg g hg).2, ?_⟩
    rcases ho g hg with e | e
    · exact .inl e
    · exact .inr (by omega)
end Go.Proofs.Ytcboakmfabdeoaa
