/- shiftDown. -/
import Derived.Test.YtcboakmfabdeoaaY3
namespace Go.Proofs.Ytcboakmfabdeoaa
open Go.RowKit

/-- behind the append to the left node's pairs. -/
def Dn1 (F : List Nat) (w : World) (P B : Nd) (ap : Nat) (ka : Value) (sa n : Nat) (psA : List Pr) (ksA : List Kid) (wc : World) : Prop :=
  ∃ g c, Forest w F wc (P :: ⟨ap, .slice (some ⟨g, 0, none⟩) n c, ka, sa, psA, ksA⟩ :: B :: [])

/-- behind the append to the left node's kids. -/
def Dn2 (F : List Nat) (w : World) (P B : Nd) (ap : Nat) (va : Value) (sa n : Nat) (psA : List Pr) (ksA : List Kid) (wc : World) : Prop :=
  ∃ g c, Forest w F wc (P :: ⟨ap, va, .slice (some ⟨g, 0, none⟩) n c, sa, psA, ksA⟩ :: B :: [])

set_option maxHeartbeats 1000000 in
set_option maxRecDepth 100000 in
theorem shiftDown_any (i pp gp np cp bk nk ck sz ga na ca gb nb cb sa sb : Nat) (F : List Nat) (w : World) (P1 P2 psa psb : List Pr) (K1 K2 ysa cl ysb : List Kid) (a b : Kid) (m q : Pr) (ka kb : Value)
    (HF : Forest w F w [⟨pp, .slice (some ⟨gp, 0, none⟩) np cp, .slice (some ⟨bk, 0, none⟩) nk ck, sz, P1 ++ m :: P2, K1 ++ a :: b :: K2⟩, ⟨a.p, .slice (some ⟨ga, 0, none⟩) na ca, ka, sa, psa, ysa⟩, ⟨b.p, .slice (some ⟨gb, 0, none⟩) nb cb, kb, sb, q :: psb, cl ++ ysb⟩]) (h1 : P1.length = i) (h2 : K1.length = i) (hnp : (P1 ++ m :: P2).length = np) (hnk : (K1 ++ a :: b :: K2).length = nk) (hna : psa.length = na) (hna0 : 0 < na) (hnb : psb.length + 1 = nb)
    (hH : Hang F w (ysa ++ cl ++ ysb)) (hT : psa.length + 1 + psb.length + total (ysa ++ cl ++ ysb) ≤ 1000000) (hL : (ka = .slice none 0 0 ∧ kb = .slice none 0 0 ∧ ysa = [] ∧ cl = [] ∧ ysb = []) ∨ (∃ z, cl = [z] ∧ ysa ≠ [] ∧ ysb ≠ [] ∧ ysa.length ≤ 500000 ∧ ysb.length ≤ 500000)) (bnp : np ≤ 500000) (bnk : nk ≤ 500001) (bna : na ≤ 500000) (bnb : nb ≤ 500000) :
    Calls Try.prog 67 #[.pointer (some ⟨pp, 0, none⟩), .int .i64 i] w fun e w' => e = .returned (.tuple #[]) ∧ ShiftPost F w pp gp np cp bk nk ck sz (P1 ++ q :: P2) (K1 ++ a :: b :: K2) a.p b.p (psa ++ [m]) psb (ysa ++ cl) ysb w' := by
  have okP : Nd.ok w ⟨pp, .slice (some ⟨gp, 0, none⟩) np cp, .slice (some ⟨bk, 0, none⟩) nk ck, sz, P1 ++ m :: P2, K1 ++ a :: b :: K2⟩ := HF.ok _ (List.mem_cons_self)
  have okA : Nd.ok w ⟨a.p, .slice (some ⟨ga, 0, none⟩) na ca, ka, sa, psa, ysa⟩ := HF.ok _ (List.mem_cons_of_mem _ List.mem_cons_self)
  have okB : Nd.ok w ⟨b.p, .slice (some ⟨gb, 0, none⟩) nb cb, kb, sb, q :: psb, cl ++ ysb⟩ := HF.ok _ (List.mem_cons_of_mem _ (List.mem_cons_of_mem _ List.mem_cons_self))
  have c0 : w.cell? ⟨pp, 0, none⟩ = some (.slice (some ⟨gp, 0, none⟩) np cp) := okP.r.c0
  have c1 : w.cell? ⟨pp, 1, none⟩ = some (.slice (some ⟨bk, 0, none⟩) nk ck) := okP.r.c1
  have a0 : w.cell? ⟨a.p, 0, none⟩ = some (.slice (some ⟨ga, 0, none⟩) na ca) := okA.r.c0
  have ka0 := okP.kr.cell i a (by rw [← h2]; simp)
  have kb0 := okP.kr.cell (i + 1) b (by rw [← h2, List.getElem?_append_right (by omega)]; simp)
  have m0 := okP.pr.row.get
  rw [h1] at m0
  obtain ⟨m1, m2⟩ := m0
  have hin : i < np := by rw [← hnp, ← h1]; simp
  have hik : i + 1 < nk := by rw [← hnk, ← h2]; simp
  have plt : pp < w.heap.size := (Array.getElem?_eq_some_iff.1 okP.r).1
  have alt : a.p < w.heap.size := (Array.getElem?_eq_some_iff.1 okA.r).1
  have gplt : gp < w.heap.size := okP.pr.lt rfl
  have galt : ga < w.heap.size := okA.pr.lt rfl
  have bklt : bk < w.heap.size := (World.ownsRow.lt okP.kr bk rfl).2
  have HFF := Lib.hid HF
  have HH := Lib.hid hH
  have HT := Lib.hid hT
  have aF : a.p ∈ F := HF.mem (List.mem_cons_of_mem _ List.mem_cons_self) (by simp [Nd.bs]) (Array.getElem?_eq_some_iff.1 okA.r).1
  have bF : b.p ∈ F := HF.mem (List.mem_cons_of_mem _ (List.mem_cons_of_mem _ List.mem_cons_self)) (by simp [Nd.bs]) (Array.getElem?_eq_some_iff.1 okB.r).1
  have AF := Lib.hid aF
  have BF := Lib.hid bF
  clear aF bF hH hT
  have H1 := Lib.hid h1
  have H2 := Lib.hid h2
  have NP := Lib.hid hnp
  have NK := Lib.hid hnk
  have NA := Lib.hid hna
  have NB := Lib.hid hnb
  have hnb0 : 0 < nb := by omega
  clear okP okA okB HF h1 h2 hnp hnk hna hnb
  go_enter Try.func67, Try.ntmps67
  go_wp2_with fail
  go_region
  go_wp2_with fail
  have T0 : Touch [] w (w.drew.drew.alloc (.cells #[.int .i64 m.1, .string m.2] 61)) := ((Touch.refl [] w).drew.drew).alloc _
  have HF0 := Forest.below HFF.out T0
  have okA0 : Nd.ok (w.drew.drew.alloc (.cells #[.int .i64 m.1, .string m.2] 61)) ⟨a.p, .slice (some ⟨ga, 0, none⟩) na ca, ka, sa, psa, ysa⟩ := HF0.ok _ (by simp)
  obtain ⟨g1, cc1, W1, x1, x2, x3, x4⟩ := appendP _ ga na ca psa [m] ⟨w.heap.size, 0, none⟩ 1 1 NA.out rfl okA0.pr (fun j u hj => by
    rw [Addr.add_lit, Nat.zero_add, cell_of_row _ w.heap.size j _ _ _ (heap_alloc_new w.drew.drew _)]
    simpa [encP] using hj) hna0 (by omega)
  obtain ⟨s1, F1⟩ := Forest.pairs (A := [_]) (B := [_]) HF0 (w4 := W1) (Touch.of_grown x3) x2 (fun k hk => by
    have e : g1 = k := by simpa [Value.ownBlock] using hk
    rcases x4 with e2 | e2
    · exact .inl (by simp [Value.ownBlock, e2, e])
    · exact .inr (by rw [← e]; exact e2))
  have s1' : Rec W1 a.p (.slice (some ⟨ga, 0, none⟩) na ca) ka sa := s1
  have q1 := s1'.c0
  have q2 := s1'.fr 0
  have RUN1 := Lib.hid x1
  have FIN : Hid (Dn1 F w ⟨pp, .slice (some ⟨gp, 0, none⟩) np cp, .slice (some ⟨bk, 0, none⟩) nk ck, sz, P1 ++ m :: P2, K1 ++ a :: b :: K2⟩ ⟨b.p, .slice (some ⟨gb, 0, none⟩) nb cb, kb, sb, q :: psb, cl ++ ysb⟩ a.p ka sa (na + 1) (psa ++ [m]) ysa (W1.setCell ⟨a.p, 0, none⟩ (.slice (some ⟨g1, 0, none⟩) (na + 1) cc1))) := Lib.hid ⟨g1, cc1, F1⟩
  clear T0 HF0 okA0 x1 x2 x3 x4 s1 F1 s1'
  go_cut [] (fun wc => Dn1 F w ⟨pp, .slice (some ⟨gp, 0, none⟩) np cp, .slice (some ⟨bk, 0, none⟩) nk ck, sz, P1 ++ m :: P2, K1 ++ a :: b :: K2⟩ ⟨b.p, .slice (some ⟨gb, 0, none⟩) nb cb, kb, sb, q :: psb, cl ++ ysb⟩ a.p ka sa (na + 1) (psa ++ [m]) ysa wc)
  case first =>
    go_region_law (refine step_append_runI rfl _ _ 65 65 rfl _ _ ?h3 ?h4 RUN1.out ?_; (case h3 => rfl); (case h4 => rfl))
    all_goals
      go_wp2_with fail
      go_meet
      case rel => exact FIN.out
  case rest =>
    clear FIN RUN1 q1 q2 a0 c0 c1 ka0 kb0 m1 m2 plt alt gplt galt bklt
    obtain ⟨g, c, HG⟩ := hcut
    have okP : Nd.ok wc ⟨pp, .slice (some ⟨gp, 0, none⟩) np cp, .slice (some ⟨bk, 0, none⟩) nk ck, sz, P1 ++ m :: P2, K1 ++ a :: b :: K2⟩ := HG.ok _ (by simp)
    have okB : Nd.ok wc ⟨b.p, .slice (some ⟨gb, 0, none⟩) nb cb, kb, sb, q :: psb, cl ++ ysb⟩ := HG.ok _ (by simp)
    have c0' : wc.cell? ⟨pp, 0, none⟩ = some (.slice (some ⟨gp, 0, none⟩) np cp) := okP.r.c0
    have b0' : wc.cell? ⟨b.p, 0, none⟩ = some (.slice (some ⟨gb, 0, none⟩) nb cb) := okB.r.c0
    have q0 : RowP wc gb ([] ++ q :: psb) := PRow.row okB.pr
    have q1 : wc.cell? ⟨gb, 0, none⟩ = some (.int .i64 q.1) := q0.get.1
    have q2 : wc.cell? ⟨gb, 1, none⟩ = some (.string q.2) := q0.get.2
    have lt3 : pp < wc.heap.size ∧ gp < wc.heap.size ∧ gb < wc.heap.size := ⟨(Array.getElem?_eq_some_iff.1 okP.r).1, okP.pr.lt rfl, okB.pr.lt rfl⟩
    have hgf := okP.pr.fr (i * 2)
    have hgf2 := okP.pr.fr (i * 2 + 1)
    have p0 := okP.pr.row.get
    rw [H1.out] at p0
    obtain ⟨p1, p2⟩ := p0
    have HGG := Lib.hid HG
    have ilt : i < (P1 ++ m :: P2).length := by rw [← H1.out]; simp
    have hset : (P1 ++ m :: P2).set i q = P1 ++ q :: P2 := by rw [← H1.out]; simp
    have FS := Lib.hid (Forest.setPair (A := []) (i := i) (HG.below ((Touch.refl [] _).drew)) rfl ilt q)
    rw [hset] at FS
    clear okP okB HG HFF ilt hset q0
    have FSH := Lib.hid FS
    clear FS
    go_wp2_with fail
    go_cut [] (fun wd => Forest w F wd [⟨pp, .slice (some ⟨gp, 0, none⟩) np cp, .slice (some ⟨bk, 0, none⟩) nk ck, sz, P1 ++ q :: P2, K1 ++ a :: b :: K2⟩, ⟨a.p, .slice (some ⟨g, 0, none⟩) (na + 1) c, ka, sa, psa ++ [m], ysa⟩, ⟨b.p, .slice (some ⟨gb, 0, none⟩) nb cb, kb, sb, q :: psb, cl ++ ysb⟩])
    case first =>
      go_still_tail 12, (by kernel_rfl)
      change wpList _ _ _ _ _ wc.drew
      go_wp2_with fail
      go_meet
      case rel => exact FSH.out
    case rest =>
      clear HGG FSH b0' c0' q1 q2 lt3 hgf hgf2 p1 p2
      have okB : Nd.ok wc ⟨b.p, .slice (some ⟨gb, 0, none⟩) nb cb, kb, sb, q :: psb, cl ++ ysb⟩ := hcut.ok _ (by simp)
      have b0 : wc.cell? ⟨b.p, 0, none⟩ = some (.slice (some ⟨gb, 0, none⟩) nb cb) := okB.r.c0
      have OKB := Lib.hid okB
      have H4 := Lib.hid hcut
      clear hcut okB
      go_wp2_with fail
      refine (deleteP_1 _ _ gb nb cb 0 [] psb q _ ?_ ?_ rfl ?_ (by omega) OKB.out.pr).mono ?_
      · rfl
      · rfl
      · have := NB.out; simp; omega
      rintro e w5 ⟨rfl, hd, hg⟩
      obtain ⟨s5, F5⟩ := Forest.pairs (A := [_, _]) (B := []) H4.out (w4 := w5) (v' := .slice (some ⟨gb, 0, none⟩) (nb - 1) cb) (l' := psb) hg hd (fun g hg => .inl hg)
      have r5 : Rec w5 b.p (.slice (some ⟨gb, 0, none⟩) nb cb) kb sb := s5
      have q1 := r5.c0
      have q2 := r5.fr 0
      have F5' : Forest w F (w5.setCell ⟨b.p, 0, none⟩ (.slice (some ⟨gb, 0, none⟩) (nb - 1) cb)) [⟨pp, .slice (some ⟨gp, 0, none⟩) np cp, .slice (some ⟨bk, 0, none⟩) nk ck, sz, P1 ++ q :: P2, K1 ++ a :: b :: K2⟩, ⟨a.p, .slice (some ⟨g, 0, none⟩) (na + 1) c, ka, sa, psa ++ [m], ysa⟩, ⟨b.p, .slice (some ⟨gb, 0, none⟩) (nb - 1) cb, kb, sb, psb, cl ++ ysb⟩] := F5
      have F5H := Lib.hid F5'
      have okB : Nd.ok (w5.setCell ⟨b.p, 0, none⟩ (.slice (some ⟨gb, 0, none⟩) (nb - 1) cb)) ⟨b.p, .slice (some ⟨gb, 0, none⟩) (nb - 1) cb, kb, sb, psb, cl ++ ysb⟩ := F5'.ok _ (by simp)
      have b1 : (w5.setCell ⟨b.p, 0, none⟩ (.slice (some ⟨gb, 0, none⟩) (nb - 1) cb)).cell? ⟨b.p, 1, none⟩ = some kb := okB.r.c1
      clear hd hg s5 r5 F5 F5' okB OKB b0
      rcases hL with ⟨rfl, rfl, rfl, rfl, rfl⟩ | ⟨z, rfl, hya, hyb, hyal, hybl⟩
      · go_wp2_with fail
        refine (leaf_yes b.p 0 none _ b1).mono ?_
        rintro e w' ⟨rfl, rfl⟩
        go_wp2_with fail
        refine (recount_nd ⟨a.p, .slice (some ⟨g, 0, none⟩) (na + 1) c, .slice none 0 0, sa, psa ++ [m], []⟩ _ (F5H.out.ok _ (by simp)) (.inl ⟨rfl, rfl⟩) (by simp) (Forest.nodup_at (A := [_]) F5H.out) (by have := HT.out; simp [total] at this ⊢; omega)).mono ?_
        rintro e w6 ⟨rfl, z1, z2⟩
        have F6 := Forest.size (A := [_]) F5H.out z2 z1
        have F6H := Lib.hid F6
        clear z1 z2 F6
        go_wp2_with fail
        refine (recount_nd ⟨b.p, .slice (some ⟨gb, 0, none⟩) (nb - 1) cb, .slice none 0 0, sb, psb, []⟩ _ (F6H.out.ok _ (by simp)) (.inl ⟨rfl, rfl⟩) (by simp) (Forest.nodup_at (A := [_, _]) (B := []) F6H.out) (by have := HT.out; simp [total] at this ⊢; omega)).mono ?_
        rintro e w7 ⟨rfl, z1, z2⟩
        have F7 := Forest.size (A := [_, _]) (B := []) F6H.out z2 z1
        have F7H := Lib.hid F7
        clear z1 z2 F7
        go_wp2_with fail
        go_end0
        exact ⟨rfl, _, _, _, _, F7H.out, fun _ => rfl, fun _ => rfl⟩
      · have kra : KRow (w5.setCell ⟨b.p, 0, none⟩ (.slice (some ⟨gb, 0, none⟩) (nb - 1) cb)) ka ysa := (F5H.out.ok _ (List.mem_cons_of_mem _ List.mem_cons_self)).kr
        obtain ⟨gka, cka, eka, _⟩ := kra.own hya
        have krb : KRow (w5.setCell ⟨b.p, 0, none⟩ (.slice (some ⟨gb, 0, none⟩) (nb - 1) cb)) kb ([z] ++ ysb) := (F5H.out.ok _ (List.mem_cons_of_mem _ (List.mem_cons_of_mem _ List.mem_cons_self))).kr
        obtain ⟨gkb, ckb, ekb, _⟩ := krb.own (by simp)
        clear kra krb
        have hkl : ([z] ++ ysb).length = ysb.length + 1 := by simp
        rw [hkl] at ekb
        subst eka
        subst ekb
        clear hkl
        go_wp2_with fail
        refine (leaf_no b.p (ysb.length + 1) ckb _ _ b1 (by omega)).mono ?_
        rintro e w' ⟨rfl, rfl⟩
        go_wp2_with fail
        have OKB : Nd.ok (w5.setCell ⟨b.p, 0, none⟩ (.slice (some ⟨gb, 0, none⟩) (nb - 1) cb)) ⟨b.p, .slice (some ⟨gb, 0, none⟩) (nb - 1) cb, .slice (some ⟨gkb, 0, none⟩) (ysb.length + 1) ckb, sb, psb, [z] ++ ysb⟩ := F5H.out.ok _ (by simp)
        have OKA : Nd.ok (w5.setCell ⟨b.p, 0, none⟩ (.slice (some ⟨gb, 0, none⟩) (nb - 1) cb)) ⟨a.p, .slice (some ⟨g, 0, none⟩) (na + 1) c, .slice (some ⟨gka, 0, none⟩) ysa.length cka, sa, psa ++ [m], ysa⟩ := F5H.out.ok _ (by simp)
        have OKBH := Lib.hid OKB
        have OKAH := Lib.hid OKA
        clear OKB OKA q1 q2
        generalize w5.setCell ⟨b.p, 0, none⟩ (.slice (some ⟨gb, 0, none⟩) (nb - 1) cb) = W5 at *
        have kz : W5.cell? ⟨gkb, 0, none⟩ = some (.pointer (some ⟨z.p, 0, none⟩)) := OKBH.out.kr.cell 0 z (by simp)
        have a1 : W5.cell? ⟨a.p, 1, none⟩ = some (.slice (some ⟨gka, 0, none⟩) ysa.length cka) := OKAH.out.r.c1
        have alt : a.p < W5.heap.size := (Array.getElem?_eq_some_iff.1 OKAH.out.r).1
        have blt : b.p < W5.heap.size := (Array.getElem?_eq_some_iff.1 OKBH.out.r).1
        have gkalt : gka < W5.heap.size := (World.ownsRow.lt OKAH.out.kr gka rfl).2
        have gkblt : gkb < W5.heap.size := (World.ownsRow.lt OKBH.out.kr gkb rfl).2
        have T0 : Touch [] W5 (W5.drew.alloc (.cells #[.pointer (some ⟨z.p, 0, none⟩)] 52)) := ((Touch.refl [] W5).drew).alloc _
        have HF0 := Forest.below F5H.out T0
        have okA0 : Nd.ok (W5.drew.alloc (.cells #[.pointer (some ⟨z.p, 0, none⟩)] 52)) ⟨a.p, .slice (some ⟨g, 0, none⟩) (na + 1) c, .slice (some ⟨gka, 0, none⟩) ysa.length cka, sa, psa ++ [m], ysa⟩ := HF0.ok _ (by simp)
        have hya0 : 0 < ysa.length := by cases ysa with
          | nil => exact absurd rfl hya
          | cons _ _ => simp
        obtain ⟨g6, c6, W6, x1, x2, x3, x4⟩ := appendK _ gka ysa.length cka ysa [z] ⟨W5.heap.size, 0, none⟩ 1 1 rfl rfl okA0.kr (fun j u hj => by
          rw [Addr.add_lit, Nat.zero_add, cell_of_row _ W5.heap.size j _ _ _ (heap_alloc_new W5.drew _)]
          simpa [ptrs] using hj) hya0 (by omega)
        obtain ⟨s1, F1⟩ := Forest.kids (A := [_]) (B := [_]) HF0 (w4 := W6) (Touch.of_grown x3) x2 (fun k hk => by
          have e : g6 = k := by simpa [Value.ownBlock] using hk
          rcases x4 with e2 | e2
          · exact .inl (by simp [Value.ownBlock, e2, e])
          · exact .inr (by rw [← e]; exact e2))
        have s1' : Rec W6 a.p (.slice (some ⟨g, 0, none⟩) (na + 1) c) (.slice (some ⟨gka, 0, none⟩) ysa.length cka) sa := s1
        have q1 := s1'.c1
        have q2 := s1'.fr 1
        have RUN2 := Lib.hid x1
        have FIN : Hid (Dn2 F w ⟨pp, .slice (some ⟨gp, 0, none⟩) np cp, .slice (some ⟨bk, 0, none⟩) nk ck, sz, P1 ++ q :: P2, K1 ++ a :: b :: K2⟩ ⟨b.p, .slice (some ⟨gb, 0, none⟩) (nb - 1) cb, .slice (some ⟨gkb, 0, none⟩) (ysb.length + 1) ckb, sb, psb, [z] ++ ysb⟩ a.p (.slice (some ⟨g, 0, none⟩) (na + 1) c) sa (ysa.length + 1) (psa ++ [m]) (ysa ++ [z]) (W6.setCell ⟨a.p, 1, none⟩ (.slice (some ⟨g6, 0, none⟩) (ysa.length + 1) c6))) := Lib.hid ⟨g6, c6, F1⟩
        have HYA := Lib.hid hya
        have HYB := Lib.hid hyb
        clear T0 HF0 okA0 x1 x2 x3 x4 s1 F1 s1' hya hyb OKAH OKBH
        go_cut [] (fun wd => Dn2 F w ⟨pp, .slice (some ⟨gp, 0, none⟩) np cp, .slice (some ⟨bk, 0, none⟩) nk ck, sz, P1 ++ q :: P2, K1 ++ a :: b :: K2⟩ ⟨b.p, .slice (some ⟨gb, 0, none⟩) (nb - 1) cb, .slice (some ⟨gkb, 0, none⟩) (ysb.length + 1) ckb, sb, psb, [z] ++ ysb⟩ a.p (.slice (some ⟨g, 0, none⟩) (na + 1) c) sa (ysa.length + 1) (psa ++ [m]) (ysa ++ [z]) wd)
        case first =>
          go_region_law (refine step_append_runI rfl _ _ 66 66 rfl _ _ ?h3 ?h4 RUN2.out ?_; (case h3 => rfl); (case h4 => rfl))
          all_goals
            go_wp2_with fail
            go_meet
            case rel => exact FIN.out
        case rest =>
          clear FIN RUN2 q1 q2 a1 b1 kz
          obtain ⟨g7, c7, HG⟩ := hcut
          have okB : Nd.ok wc ⟨b.p, .slice (some ⟨gb, 0, none⟩) (nb - 1) cb, .slice (some ⟨gkb, 0, none⟩) (ysb.length + 1) ckb, sb, psb, [z] ++ ysb⟩ := HG.ok _ (by simp)
          have d1 : wc.cell? ⟨b.p, 1, none⟩ = some (.slice (some ⟨gkb, 0, none⟩) (ysb.length + 1) ckb) := okB.r.c1
          have H6 := Lib.hid HG
          have OKB6 := Lib.hid okB
          clear HG okB alt blt gkalt gkblt F5H
          go_wp2_with fail
          refine (deleteK_1 _ _ gkb (ysb.length + 1) ckb 0 [] ysb z _ ?_ ?_ rfl (by simp) (by omega) OKB6.out.kr).mono ?_
          · rfl
          · rfl
          rintro e w7 ⟨rfl, hd, hg⟩
          obtain ⟨s7, F7⟩ := Forest.kids (A := [_, _]) (B := []) H6.out (w4 := w7) (v' := .slice (some ⟨gkb, 0, none⟩) ysb.length ckb) (l' := ysb) hg (by simpa using hd) (fun g hg => .inl hg)
          have r7 : Rec w7 b.p (.slice (some ⟨gb, 0, none⟩) (nb - 1) cb) (.slice (some ⟨gkb, 0, none⟩) (ysb.length + 1) ckb) sb := s7
          have q1 := r7.c1
          have q2 := r7.fr 1
          have F7' : Forest w F (w7.setCell ⟨b.p, 1, none⟩ (.slice (some ⟨gkb, 0, none⟩) ysb.length ckb)) [⟨pp, .slice (some ⟨gp, 0, none⟩) np cp, .slice (some ⟨bk, 0, none⟩) nk ck, sz, P1 ++ q :: P2, K1 ++ a :: b :: K2⟩, ⟨a.p, .slice (some ⟨g, 0, none⟩) (na + 1) c, .slice (some ⟨g7, 0, none⟩) (ysa.length + 1) c7, sa, psa ++ [m], ysa ++ [z]⟩, ⟨b.p, .slice (some ⟨gb, 0, none⟩) (nb - 1) cb, .slice (some ⟨gkb, 0, none⟩) ysb.length ckb, sb, psb, ysb⟩] := F7
          have F8H := Lib.hid F7'
          clear hd hg s7 r7 F7 F7'
          go_wp2_with fail
          refine (recount_nd ⟨a.p, .slice (some ⟨g, 0, none⟩) (na + 1) c, .slice (some ⟨g7, 0, none⟩) (ysa.length + 1) c7, sa, psa ++ [m], ysa ++ [z]⟩ _ (F8H.out.ok _ (by simp)) (.inr (by simp)) (Hang.at (fun u hu => HH.out u (by simp only [List.mem_append] at hu ⊢; exact .inl hu)) F8H.out.touch AF.out) (Forest.nodup_at (A := [_]) F8H.out) (by have := HT.out; simp [total] at this ⊢; omega)).mono ?_
          rintro e w8 ⟨rfl, z1, z2⟩
          have F9 := Forest.size (A := [_]) F8H.out z2 z1
          have F9H := Lib.hid F9
          clear z1 z2 F9
          go_wp2_with fail
          refine (recount_nd ⟨b.p, .slice (some ⟨gb, 0, none⟩) (nb - 1) cb, .slice (some ⟨gkb, 0, none⟩) ysb.length ckb, sb, psb, ysb⟩ _ (F9H.out.ok _ (by simp)) (.inr HYB.out) (Hang.at (fun u hu => HH.out u (by simp only [List.mem_append]; exact .inr hu)) F9H.out.touch BF.out) (Forest.nodup_at (A := [_, _]) (B := []) F9H.out) (by have := HT.out; simp [total] at this ⊢; omega)).mono ?_
          rintro e w9 ⟨rfl, z1, z2⟩
          have F10 := Forest.size (A := [_, _]) (B := []) F9H.out z2 z1
          have F10H := Lib.hid F10
          clear z1 z2 F10
          go_wp2_with fail
          go_end0
          exact ⟨rfl, _, _, _, _, F10H.out, fun e => by simp at e, fun e => absurd e HYB.out⟩
end Go.Proofs.Ytcboakmfabdeoaa
