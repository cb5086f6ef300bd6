/- merge: the walk. -/
import Derived.Test.YtcboakmfabdeoaaXr
import Derived.Test.YtcboakmfabdeoaaY1
import Derived.IntWalk
import Derived.Deep.DeepCutAuto
namespace Go.Proofs.Ytcboakmfabdeoaa
open Go.RowKit


theorem deleteP_1 (zi zj : Int) (g n cap i : Nat) (P1 P2 : List Pr) (m : Pr) (w : World) (hzi : zi = i) (hzj : zj = (i : Int) + 1) (h1 : P1.length = i) (hl : (P1 ++ m :: P2).length = n) (hn : n ≤ 1000000) (hr : PRow w (.slice (some ⟨g, 0, none⟩) n cap) (P1 ++ m :: P2)) :
    Calls Try.prog 49 #[.slice (some ⟨g, 0, none⟩) n cap, .int .i64 zi, .int .i64 zj] w fun e w' =>
      e = .returned (.slice (some ⟨g, 0, none⟩) (n - 1) cap) ∧ PRow w' (.slice (some ⟨g, 0, none⟩) (n - 1) cap) (P1 ++ P2) ∧ Touch [g] w w' := by
  have hin : i < n := by rw [← hl, ← h1]; simp
  refine (deleteP_Z zi zj g n cap i (i + 1) _ w hzi (by omega) (by omega) (by omega) hn hr).mono ?_
  rintro e w' ⟨rfl, hd, hg⟩
  have e1 : i + (n - (i + 1)) = n - 1 := by omega
  rw [e1, ← h1, List.take_left' rfl, show P1 ++ m :: P2 = (P1 ++ [m]) ++ P2 by simp, List.drop_left' (by simp)] at hd
  rw [e1]
  exact ⟨rfl, hd, Touch.of_grown hg⟩

theorem deleteK_1 (zi zj : Int) (g n cap i : Nat) (K1 K2 : List Kid) (y : Kid) (w : World) (hzi : zi = i) (hzj : zj = (i : Int) + 1) (h1 : K1.length = i) (hl : (K1 ++ y :: K2).length = n) (hn : n ≤ 1000000) (hr : KRow w (.slice (some ⟨g, 0, none⟩) n cap) (K1 ++ y :: K2)) :
    Calls Try.prog 60 #[.slice (some ⟨g, 0, none⟩) n cap, .int .i64 zi, .int .i64 zj] w fun e w' =>
      e = .returned (.slice (some ⟨g, 0, none⟩) (n - 1) cap) ∧ KRow w' (.slice (some ⟨g, 0, none⟩) (n - 1) cap) (K1 ++ K2) ∧ Touch [g] w w' := by
  have hin : i < n := by rw [← hl, ← h1]; simp
  refine (deleteK_Z zi zj g n cap i (i + 1) _ w hzi (by omega) (by omega) (by omega) hn hr).mono ?_
  rintro e w' ⟨rfl, hd, hg⟩
  have e1 : i + (n - (i + 1)) = n - 1 := by omega
  rw [e1, ← h1, List.take_left' rfl, show K1 ++ y :: K2 = (K1 ++ [y]) ++ K2 by simp, List.drop_left' (by simp)] at hd
  rw [e1]
  exact ⟨rfl, hd, Touch.of_grown hg⟩
/-- the three nodes of merge. -/
def mergeF (p gp bk ap ga bp gb : Nat) (qa qb : Value) : List Nat := [p, gp, bk, ap, ga] ++ qa.ownBlock.toList ++ [bp, gb] ++ qb.ownBlock.toList

def Merged3 (p gp np cp bk nk ck sz ap ga na ca bp gb nb cb : Nat) (qa qb : Value) (sa sb : Nat) (P1 P2 : List Pr) (K1 K2 : List Kid) (a : Kid) (m : Pr) (psa psb : List Pr) (ysa ysb : List Kid) (b : Kid) (w w' : World) : Prop :=
  ∃ g2 c2 qc, Forest w (mergeF p gp bk ap ga bp gb qa qb) w' [⟨p, .slice (some ⟨gp, 0, none⟩) (np - 1) cp, .slice (some ⟨bk, 0, none⟩) (nk - 1) ck, sz, P1 ++ P2, K1 ++ a :: K2⟩, ⟨ap, .slice (some ⟨g2, 0, none⟩) (na + 1 + nb) c2, qc, sa + 1 + sb, psa ++ m :: psb, ysa ++ ysb⟩, ⟨bp, .slice (some ⟨gb, 0, none⟩) nb cb, qb, sb, psb, ysb⟩] ∧ (ysa ++ ysb = [] → qc = .slice none 0 0)

/-- behind region 2, told of the three nodes. -/
theorem merged_forest {p gp np cp bk nk ck sz ap ga na ca bp gb nb cb sa sb : Nat} {qa qb : Value} {ps psa psb : List Pr} {m : Pr} {ks ysa ysb : List Kid} {w wc : World}
    (hnd : ([⟨p, .slice (some ⟨gp, 0, none⟩) np cp, .slice (some ⟨bk, 0, none⟩) nk ck, sz, ps, ks⟩, ⟨ap, .slice (some ⟨ga, 0, none⟩) na ca, qa, sa, psa, ysa⟩, ⟨bp, .slice (some ⟨gb, 0, none⟩) nb cb, qb, sb, psb, ysb⟩].flatMap Nd.bs).Nodup)
    (ok0 : Nd.ok w ⟨p, .slice (some ⟨gp, 0, none⟩) np cp, .slice (some ⟨bk, 0, none⟩) nk ck, sz, ps, ks⟩) (ok1 : Nd.ok w ⟨ap, .slice (some ⟨ga, 0, none⟩) na ca, qa, sa, psa, ysa⟩) (ok2 : Nd.ok w ⟨bp, .slice (some ⟨gb, 0, none⟩) nb cb, qb, sb, psb, ysb⟩)
    {g2 c2 : Nat} {qc : Value} (h : Rec wc ap (.slice (some ⟨g2, 0, none⟩) (na + 1 + nb) c2) qc sa) (T : Touch (ap :: ga :: qa.ownBlock.toList) w wc) (hp : PRow wc (.slice (some ⟨g2, 0, none⟩) (na + 1 + nb) c2) (psa ++ m :: psb)) (hk : KRow wc qc (ysa ++ ysb)) (ho : ga = g2 ∨ w.heap.size ≤ g2) (hq : ∀ g, qc.ownBlock = some g → g ≠ g2 ∧ (qa.ownBlock = some g ∨ w.heap.size ≤ g)) :
    Forest w (mergeF p gp bk ap ga bp gb qa qb) wc [⟨p, .slice (some ⟨gp, 0, none⟩) np cp, .slice (some ⟨bk, 0, none⟩) nk ck, sz, ps, ks⟩, ⟨ap, .slice (some ⟨g2, 0, none⟩) (na + 1 + nb) c2, qc, sa, psa ++ m :: psb, ysa ++ ysb⟩, ⟨bp, .slice (some ⟨gb, 0, none⟩) nb cb, qb, sb, psb, ysb⟩] := by
  have H0 : Forest w (mergeF p gp bk ap ga bp gb qa qb) w ([⟨p, .slice (some ⟨gp, 0, none⟩) np cp, .slice (some ⟨bk, 0, none⟩) nk ck, sz, ps, ks⟩] ++ ⟨ap, .slice (some ⟨ga, 0, none⟩) na ca, qa, sa, psa, ysa⟩ :: [⟨bp, .slice (some ⟨gb, 0, none⟩) nb cb, qb, sb, psb, ysb⟩]) := by
    refine ⟨fun n hn => ?_, hnd, Touch.refl _ _, fun b hb => .inl ?_⟩
    · simp at hn
      rcases hn with rfl | rfl | rfl
      · exact ok0
      · exact ok1
      · exact ok2
    · simp [Nd.bs, rows, Value.ownBlock, mergeF] at hb ⊢
      rcases hb with e | e | e | e | e | e | e | e | e <;> simp [e]
  have b1 := bs_parts H0.nodup_at
  have lt := ok1.lt
  refine H0.turn (y := ⟨ap, .slice (some ⟨g2, 0, none⟩) (na + 1 + nb) c2, qc, sa, psa ++ m :: psb, ysa ++ ysb⟩) ?_ ⟨h, hp, hk⟩ (bs_nodup (fun b hb => ?_) (fun b hb => ?_)) (fun b hb => ?_)
  · exact T.mono (fun b hb => .inl (by simp [Nd.bs, rows, Value.ownBlock] at hb ⊢; exact hb))
  · have e : g2 = b := by simpa [Value.ownBlock] using hb
    subst e
    refine ⟨?_, fun e => (hq g2 e).1 rfl⟩
    rcases ho with e | e
    · exact e ▸ (b1.1 ga rfl).1
    · have := lt ap (by simp [Nd.bs]); show g2 ≠ ap; omega
  · rcases (hq b hb).2 with e | e
    · exact b1.2 b e
    · have := lt ap (by simp [Nd.bs]); show b ≠ ap; omega
  · simp [Nd.bs, mem_rows, Value.ownBlock] at hb ⊢
    rcases hb with e | e | e
    · exact .inl (.inl e)
    · rcases ho with e2 | e2
      · exact .inl (.inr (.inl (by omega)))
      · exact .inr (by omega)
    · rcases (hq b e).2 with e2 | e2
      · exact .inl (.inr (.inr e2))
      · exact .inr e2

set_option maxHeartbeats 1000000 in
set_option maxRecDepth 100000 in
theorem merge_any (t h p i bk nk ck gp np cp ga na ca gb nb cb : Nat) (sz : Nat) (P1 P2 : List Pr) (K1 K2 : List Kid) (a b : Kid) (qa qb : Value) (psa psb : List Pr) (m : Pr) (w : World) (hr : Rec w p (.slice (some ⟨gp, 0, none⟩) np cp) (.slice (some ⟨bk, 0, none⟩) nk ck) sz) (hp : PRow w (.slice (some ⟨gp, 0, none⟩) np cp) (P1 ++ m :: P2)) (hk : KRow w (.slice (some ⟨bk, 0, none⟩) nk ck) (K1 ++ a :: b :: K2))
    (h1 : K1.length = i) (h2 : P1.length = i) (ra : Rec w a.p (.slice (some ⟨ga, 0, none⟩) na ca) qa a.l.length) (rb : Rec w b.p (.slice (some ⟨gb, 0, none⟩) nb cb) qb b.l.length) (pa : PRow w (.slice (some ⟨ga, 0, none⟩) na ca) psa) (pb : PRow w (.slice (some ⟨gb, 0, none⟩) nb cb) psb) (hna : psa.length = na) (hnb : psb.length = nb) (h0 : 0 < na) (hbn : na + 1 + nb ≤ 500000) (n1 : a.p ≠ ga) (n2 : b.p ≠ ga) (n3 : gb ≠ ga) (n4 : p ≠ ga) (n5 : b.p ≠ a.p) (n6 : p ≠ a.p) (ysa ysb : List Kid) (kka : KRow w qa ysa) (kkb : KRow w qb ysb) (hkk : (qa = .slice none 0 0 ∧ qb = .slice none 0 0 ∧ ysa = [] ∧ ysb = []) ∨ (ysa ≠ [] ∧ ysb ≠ [])) (hkb : ysa.length + ysb.length ≤ 1000000) (hq : ∀ g, qa.ownBlock = some g → g ≠ a.p ∧ g ≠ b.p ∧ g ≠ p ∧ g ≠ ga ∧ g < w.heap.size) (hqb : ∀ g, qb.ownBlock = some g → g ≠ a.p ∧ g ≠ ga) (hal : a.l.length ≤ 500000) (hbl : b.l.length ≤ 500000) (hnk : nk ≤ 500001) (hnp : np ≤ 500000) (hnd : ([⟨p, .slice (some ⟨gp, 0, none⟩) np cp, .slice (some ⟨bk, 0, none⟩) nk ck, sz, P1 ++ m :: P2, K1 ++ a :: b :: K2⟩, ⟨a.p, .slice (some ⟨ga, 0, none⟩) na ca, qa, a.l.length, psa, ysa⟩, ⟨b.p, .slice (some ⟨gb, 0, none⟩) nb cb, qb, b.l.length, psb, ysb⟩].flatMap Nd.bs).Nodup) (hkl : (K1 ++ a :: b :: K2).length = nk) (hpl : (P1 ++ m :: P2).length = np) :
    Calls Try.prog 52 #[.pointer (some ⟨p, 0, none⟩), .int .i64 i] w fun e w' => e = .returned (.tuple #[]) ∧ Merged3 p gp np cp bk nk ck sz a.p ga na ca b.p gb nb cb qa qb a.l.length b.l.length P1 P2 K1 K2 a m psa psb ysa ysb b w w' := by
  have c0 := hr.c0
  have c1 := hr.c1
  have ka := hk.cell i a (by rw [← h1]; simp)
  have kb := hk.cell (i + 1) b (by rw [← h1, List.getElem?_append_right (by omega)]; simp)
  have m0 := hp.row.get
  rw [h2] at m0
  obtain ⟨m1, m2⟩ := m0
  have a0 := ra.c0
  have a1 := ra.c1
  have a2 := ra.c2
  have b0 := rb.c0
  have b1 := rb.c1
  have b2 := rb.c2
  have bA : (w.alloc (.cells #[.int .i64 m.1, .string m.2] 61)).cell? ⟨b.p, 0, none⟩ = some (.slice (some ⟨gb, 0, none⟩) nb cb) := Rec.c0 ((Below.heap_alloc w _ b.p (Array.getElem?_eq_some_iff.1 rb).1).trans rb)
  have aA : (w.alloc (.cells #[.int .i64 m.1, .string m.2] 61)).cell? ⟨a.p, 0, none⟩ = some (.slice (some ⟨ga, 0, none⟩) na ca) := Rec.c0 ((Below.heap_alloc w _ a.p (Array.getElem?_eq_some_iff.1 ra).1).trans ra)
  have hin : i < np := by rw [← hpl, ← h2]; simp
  have hik : i + 1 < nk := by rw [← hkl, ← h1]; simp
  obtain ⟨W1, W2, g1, cc1, g2, cc2, AP⟩ := app2 (m := m) hr ra rb pa pb hna hnb h0 (by omega) n1 n2 n3 n4
  have w1b := AP.b1.c0
  have w2a := AP.a2.c0
  have w2f := AP.a2.fr 0
  have RUN1 := Lib.hid AP.run1
  have RUN2 := Lib.hid AP.run2
  have APP := Lib.hid AP
  have HNA := Lib.hid hna
  have HNB := Lib.hid hnb
  have KKA := Lib.hid kka
  have KKB := Lib.hid kkb
  have HKK := Lib.hid hkk
  have HKB := Lib.hid hkb
  have HQ := Lib.hid hq
  have HQB := Lib.hid hqb
  clear AP hna hnb kka kkb hkk hkb hq hqb
  have HR := Lib.hid hr
  have HP := Lib.hid hp
  have HK := Lib.hid hk
  have H1 := Lib.hid h1
  have H2 := Lib.hid h2
  have RA := Lib.hid ra
  have RB := Lib.hid rb
  have PA := Lib.hid pa
  have PB := Lib.hid pb
  have HKL := Lib.hid hkl
  have HND := Lib.hid hnd
  have HPL := Lib.hid hpl
  clear hr hp hk h1 h2 ra rb pa pb hkl hpl hnd
  go_enter Try.func52, Try.ntmps52
  go_wp2_with fail
  go_region
  go_wp2_with fail
  have MG := Lib.hid (merged1 APP.out n1 n5 n6 (Array.getElem?_eq_some_iff.1 RA.out).1)
  go_cut [] (fun wc => Merged1 p gp np cp bk nk ck sz a.p b.p ga gb (na + 1 + nb) nb cb a.l.length b.l.length qa qb (psa ++ m :: psb) w wc)
  case first =>
    go_region_law (first | (refine step_append_runI rfl _ _ 65 65 rfl _ _ ?h3 ?h4 RUN1.out ?_; (case h3 => rfl); (case h4 => rfl)) | (refine step_append_runI rfl _ _ 65 65 rfl _ _ ?h5 ?h6 RUN2.out ?_; (case h5 => rfl); (case h6 => rfl)))
    all_goals
      go_wp2_with fail
      go_meet
      case rel => exact MG.out
  case rest =>
    obtain ⟨g2', c2', x1, x2, x3, x4, x5, x6⟩ := hcut
    have ka' : KRow wc qa ysa := KKA.out.touch x5 (fun c hc hm => by
      have := HQ.out c hc
      simp at hm
      rcases hm with e | e
      · exact this.1 e
      · exact this.2.2.2.1 e)
    have kb' : KRow wc qb ysb := KKB.out.touch x5 (fun c hc hm => by
      have := HQB.out c hc
      simp at hm
      rcases hm with e | e
      · exact this.1 e
      · exact this.2 e)
    obtain ⟨qc, W3, r3, r4, r5, r6, r7⟩ := app3 (w := wc) ka' kb' HKK.out HKB.out
    obtain ⟨aq, nq, cq, rfl⟩ : ∃ aq nq cq, qc = .slice aq nq cq := by
      rcases r4.cases with ⟨e, _⟩ | ⟨g, cap, cur, e, _⟩
      · exact ⟨_, _, _, e⟩
      · exact ⟨_, _, _, e⟩
    obtain ⟨mm1, mm2⟩ := merged2 x1 x2 x3 x4 x5 x6 r4 r5 r6 HQ.out n5 n6 n1 (Array.getElem?_eq_some_iff.1 RA.out).1 r7
    have y1 := x1.c1
    have y2 := x2.c1
    have y3 := mm1.c1
    have y4 := mm1.fr 1
    have RUN3 := Lib.hid r3
    have MM2 := Lib.hid mm2
    clear x1 x2 x3 x4 x5 x6 ka' kb' r3 r4 r5 r6 r7 mm1 mm2 MG RUN1 RUN2 APP w1b w2a w2f bA aA
    go_wp2_with fail
    go_cut [] (fun wc => Merged2 p gp np cp bk nk ck sz a.p b.p ga gb (na + 1 + nb) nb cb a.l.length b.l.length qa qb (psa ++ m :: psb) (ysa ++ ysb) w wc)
    case first =>
      go_region_law (refine step_append_runI rfl _ _ 66 66 rfl _ _ ?h3 ?h4 RUN3.out ?_; (case h3 => rfl); (case h4 => rfl))
      all_goals
        go_wp2_with fail
        go_meet
        case rel => exact MM2.out
    case rest =>
      obtain ⟨g3, c3, qd, z1, z2, z3, z4, z5, z6, z7, z8, z9⟩ := hcut
      have NILQ := Lib.hid z9
      have FO := Lib.hid (merged_forest (sz := sz) (ks := K1 ++ a :: b :: K2) (ps := P1 ++ m :: P2) HND.out ⟨HR.out, HP.out, HK.out⟩ ⟨RA.out, PA.out, KKA.out⟩ ⟨RB.out, PB.out, KKB.out⟩ z1 z6 z4 z5 z7 z8)
      have l2 := z1.c2
      have r2 := z2.c2
      have l2f := z1.fr 2
      clear z1 z2 z3 z4 z5 z6 z7 z8 z9 ka kb m1 m2 a0 a1 a2 b0 b1 b2 y1 y2 y3 y4 c0 c1
      go_wp2_with fail
      have FIN := Lib.hid (((Forest.sizeSet (A := [⟨p, .slice (some ⟨gp, 0, none⟩) np cp, .slice (some ⟨bk, 0, none⟩) nk ck, sz, P1 ++ m :: P2, K1 ++ a :: b :: K2⟩]) FO.out (a.l.length + 1 + b.l.length)).below (Touch.refl [] _).drew))
      have hcs : ((a.l.length + 1 + b.l.length : Nat) : Int) = (a.l.length : Int) + (1 + (b.l.length : Int)) := by omega
      rw [hcs] at FIN
      clear hcs
      go_cut [] (fun wd => Forest w (mergeF p gp bk a.p ga b.p gb qa qb) wd [⟨p, .slice (some ⟨gp, 0, none⟩) np cp, .slice (some ⟨bk, 0, none⟩) nk ck, sz, P1 ++ m :: P2, K1 ++ a :: b :: K2⟩, ⟨a.p, .slice (some ⟨g3, 0, none⟩) (na + 1 + nb) c3, qd, a.l.length + 1 + b.l.length, psa ++ m :: psb, ysa ++ ysb⟩, ⟨b.p, .slice (some ⟨gb, 0, none⟩) nb cb, qb, b.l.length, psb, ysb⟩])
      case first =>
        have w1 : IntKind.i64.wrap (1 + (b.l.length : Int)) = 1 + (b.l.length : Int) := IntWalk.i64_in _ (by omega)
        have w2 : IntKind.i64.wrap ((a.l.length : Int) + (1 + (b.l.length : Int))) = (a.l.length : Int) + (1 + (b.l.length : Int)) := IntWalk.i64_in _ (by omega)
        go_region_law fail
        all_goals
          go_wp2_with fail
          go_meet
          case rel => exact FIN.out
      case rest =>
        have G1 := Lib.hid (Forest.at (A := []) hcut)
        have FO2 := Lib.hid hcut
        have c0 := G1.out.r.c0
        have f0 := G1.out.r.fr 0
        clear hcut FO FIN l2 r2 l2f
        go_wp2_with fail
        have hn1 : (P1 ++ m :: P2).length = np := HPL.out
        refine (deleteP_1 _ _ gp np cp i P1 P2 m _ rfl ?_ H2.out HPL.out (by omega) G1.out.pr).mono ?_
        · first | rfl | omega
        rintro e w4 ⟨rfl, hd, hg4⟩
        obtain ⟨s4, F4⟩ := Forest.pairs (A := []) FO2.out (w4 := w4) (v' := .slice (some ⟨gp, 0, none⟩) (np - 1) cp) (l' := P1 ++ P2) hg4 hd (fun g hg => .inl hg)
        have q1 := s4.c0
        have q2 := s4.fr 0
        have F4H := Lib.hid F4
        have G4 := Lib.hid (Forest.at (A := []) F4)
        have d1 := G4.out.r.c1
        have d1f := G4.out.r.fr 1
        have HPL2 := Lib.hid hn1
        clear hd hg4 s4 F4 c0 f0 hn1 FO2 G1
        go_wp2_with fail
        refine (deleteK_1 _ _ bk nk ck (i + 1) (K1 ++ [a]) K2 b _ ?_ ?_ ?_ ?_ (by omega) ?_).mono ?_
        · first | rfl | omega | (rw [IntKind.wrap_i64]; omega)
        · first | rfl | omega | (rw [IntKind.wrap_i64]; omega)
        · simp [H1.out]
        · rw [← HKL.out]; simp
        · have := G4.out.kr
          simpa using this
        rintro e w5 ⟨rfl, hd, hg5⟩
        obtain ⟨s5, F5⟩ := Forest.kids (A := []) F4H.out (w4 := w5) (v' := .slice (some ⟨bk, 0, none⟩) (nk - 1) ck) (l' := K1 ++ [a] ++ K2) hg5 hd (fun g hg => .inl hg)
        have q3 := s5.c1
        have q4 := s5.fr 1
        have F5H := Lib.hid F5
        clear hd hg5 s5 F5 d1 d1f q1 q2 F4H G4
        go_wp2_with fail
        go_end0
        have := F5H.out
        refine ⟨rfl, g3, c3, qd, ?_, NILQ.out⟩
        simpa using this
end Go.Proofs.Ytcboakmfabdeoaa
