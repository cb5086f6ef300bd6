/- shiftUp. -/
import Derived.Test.YtcboakmfabdeoaaY2
import Derived.Test.YtcboakmfabdeoaaXs
import Derived.Deep.RegionWith
import Derived.StillTailTactics
namespace Go.Proofs.Ytcboakmfabdeoaa
open Go.RowKit


/-- behind the insert at the right node's pairs. -/
def Up1 (F : List Nat) (w : World) (pp gp np cp bk nk ck sz ga na ca sa sb : Nat) (ps : List Pr) (ks : List Kid) (ap bp : Nat) (ka kb : Value) (psA psB : List Pr) (ksA ksB : List Kid) (wc : World) : Prop :=
  ∃ g c, Forest w F wc [⟨pp, .slice (some ⟨gp, 0, none⟩) np cp, .slice (some ⟨bk, 0, none⟩) nk ck, sz, ps, ks⟩, ⟨ap, .slice (some ⟨ga, 0, none⟩) na ca, ka, sa, psA, ksA⟩, ⟨bp, .slice (some ⟨g, 0, none⟩) psB.length c, kb, sb, psB, ksB⟩]

/-- behind the insert at the right node's kids. -/
def Up2 (F : List Nat) (w : World) (A : List Nd) (bp : Nat) (vb : Value) (sb : Nat) (psB : List Pr) (ksB : List Kid) (wc : World) : Prop :=
  ∃ g c, Forest w F wc (A ++ ⟨bp, vb, .slice (some ⟨g, 0, none⟩) ksB.length c, sb, psB, ksB⟩ :: [])

/-- what a shift leaves behind: three nodes, the two kids' sizes counted anew. -/
def ShiftPost (F : List Nat) (w : World) (pp gp np cp bk nk ck sz : Nat) (ps : List Pr) (ks : List Kid) (ap bp : Nat) (psA psB : List Pr) (ksA ksB : List Kid) (w' : World) : Prop :=
  ∃ vA kA vB kB, Forest w F w' [⟨pp, .slice (some ⟨gp, 0, none⟩) np cp, .slice (some ⟨bk, 0, none⟩) nk ck, sz, ps, ks⟩, ⟨ap, vA, kA, psA.length + total ksA, psA, ksA⟩, ⟨bp, vB, kB, psB.length + total ksB, psB, ksB⟩] ∧ (ksA = [] → kA = .slice none 0 0) ∧ (ksB = [] → kB = .slice none 0 0)

theorem Forest.mem {w0 w : World} {F : List Nat} {L : List Nd} {n : Nd} (H : Forest w0 F w L) (h : n ∈ L) {b : Nat} (hb : b ∈ n.bs) (hlt : b < w0.heap.size) : b ∈ F := by
  rcases H.own b (List.mem_flatMap.2 ⟨n, h, hb⟩) with e | e
  · exact e
  · omega

/-- kids that hang below are left alone: what recount must know. -/
def Hang (F : List Nat) (w : World) (ks : List Kid) : Prop := ∀ z ∈ ks, z.p ∉ F ∧ ∃ a b, Rec w z.p a b z.l.length

theorem Hang.at {F : List Nat} {w W : World} {ks : List Kid} (h : Hang F w ks) (T : Touch F w W) {p : Nat} (hp : p ∈ F) : ∀ z ∈ ks, z.p ≠ p ∧ ∃ a b, Rec W z.p a b z.l.length := fun z hz => by
  obtain ⟨h1, a, b, h2⟩ := h z hz
  exact ⟨fun e => h1 (e ▸ hp), a, b, h2.touch T h1⟩

set_option maxHeartbeats 1000000 in
set_option maxRecDepth 100000 in
theorem shiftUp_any (i pp gp np cp bk nk ck sz ga na ca sa sb : Nat) (F : List Nat) (w : World) (P1 P2 psa psb : List Pr) (K1 K2 ysa cl ysb : List Kid) (a b : Kid) (m q : Pr) (ab : Option Addr) (nb cb : Nat) (ka kb : Value)
    (HF : Forest w F w [⟨pp, .slice (some ⟨gp, 0, none⟩) np cp, .slice (some ⟨bk, 0, none⟩) nk ck, sz, P1 ++ m :: P2, K1 ++ a :: b :: K2⟩, ⟨a.p, .slice (some ⟨ga, 0, none⟩) na ca, ka, sa, psa ++ [q], ysa ++ cl⟩, ⟨b.p, .slice ab nb cb, kb, sb, psb, ysb⟩]) (h1 : P1.length = i) (h2 : K1.length = i) (hnp : (P1 ++ m :: P2).length = np) (hnk : (K1 ++ a :: b :: K2).length = nk) (hna : psa.length + 1 = na)
    (hH : Hang F w (ysa ++ cl ++ ysb)) (hT : psa.length + 1 + psb.length + total (ysa ++ cl ++ ysb) ≤ 1000000) (hL : (ka = .slice none 0 0 ∧ kb = .slice none 0 0 ∧ ysa = [] ∧ cl = [] ∧ ysb = []) ∨ (∃ z, cl = [z] ∧ ysb ≠ [] ∧ ysa.length = psa.length + 1 ∧ ysb.length ≤ 500000)) (bnp : np ≤ 500000) (bnk : nk ≤ 500001) (bna : na ≤ 500000) (bnb : psb.length ≤ 500000) :
    Calls Try.prog 66 #[.pointer (some ⟨pp, 0, none⟩), .int .i64 i] w fun e w' => e = .returned (.tuple #[]) ∧ ShiftPost F w pp gp np cp bk nk ck sz (P1 ++ q :: P2) (K1 ++ a :: b :: K2) a.p b.p psa (m :: psb) ysa (cl ++ ysb) w' := by
  have okP := HF.ok _ (List.mem_cons_self)
  have okA := HF.ok _ (List.mem_cons_of_mem _ List.mem_cons_self)
  have okB := HF.ok _ (List.mem_cons_of_mem _ (List.mem_cons_of_mem _ List.mem_cons_self))
  have c0 : w.cell? ⟨pp, 0, none⟩ = some (.slice (some ⟨gp, 0, none⟩) np cp) := okP.r.c0
  have c1 : w.cell? ⟨pp, 1, none⟩ = some (.slice (some ⟨bk, 0, none⟩) nk ck) := okP.r.c1
  have a0 : w.cell? ⟨a.p, 0, none⟩ = some (.slice (some ⟨ga, 0, none⟩) na ca) := okA.r.c0
  have b0 : w.cell? ⟨b.p, 0, none⟩ = some (.slice ab nb cb) := okB.r.c0
  have ka0 := okP.kr.cell i a (by rw [← h2]; simp)
  have kb0 := okP.kr.cell (i + 1) b (by rw [← h2, List.getElem?_append_right (by omega)]; simp)
  have m0 := okP.pr.row.get
  rw [h1] at m0
  obtain ⟨m1, m2⟩ := m0
  have hin : i < np := by rw [← hnp, ← h1]; simp
  have hik : i + 1 < nk := by rw [← hnk, ← h2]; simp
  have hna0 : 0 < na := by omega
  have plt : pp < w.heap.size := (Array.getElem?_eq_some_iff.1 okP.r).1
  have alt : a.p < w.heap.size := (Array.getElem?_eq_some_iff.1 okA.r).1
  have blt : b.p < w.heap.size := (Array.getElem?_eq_some_iff.1 okB.r).1
  have gplt : gp < w.heap.size := okP.pr.lt rfl
  have galt : ga < w.heap.size := okA.pr.lt rfl
  have bklt : bk < w.heap.size := (World.ownsRow.lt okP.kr bk rfl).2
  have HFF := Lib.hid HF
  have HH := Lib.hid hH
  have HT := Lib.hid hT
  have aF : a.p ∈ F := HF.mem (List.mem_cons_of_mem _ List.mem_cons_self) (by simp [Nd.bs]) (Array.getElem?_eq_some_iff.1 okA.r).1
  have bF : b.p ∈ F := HF.mem (List.mem_cons_of_mem _ (List.mem_cons_of_mem _ List.mem_cons_self)) (by simp [Nd.bs]) (Array.getElem?_eq_some_iff.1 okB.r).1
  have AF := Lib.hid aF
  have BF := Lib.hid bF
  clear aF bF hH hT
  have H1 := Lib.hid h1
  have H2 := Lib.hid h2
  have NP := Lib.hid hnp
  have NK := Lib.hid hnk
  have NA := Lib.hid hna
  clear okP okA okB HF h1 h2 hnp hnk hna
  go_enter Try.func66, Try.ntmps66
  go_wp2_with fail
  go_region
  go_wp2_with fail
  have FB := Lib.hid (Forest.insRec (A := [_, _]) (B := []) HFF.out)
  have HI : Hid (∀ W : World, W.heap = (w.alloc (.cells #[.int .i64 m.1, .string m.2] 61)).heap → PRow W (.slice ab nb cb) psb ∧ W.heap[w.heap.size]? = some (.cells #[.int .i64 m.1, .string m.2] 61 (0, 0))) := Lib.hid (fun W hW => by
    have hb := (Below.refl w.heap.size w).alloc (Nat.le_refl _) (.cells #[.int .i64 m.1, .string m.2] 61)
    refine ⟨ownsRow_of_heap (HFF.out.ok _ (List.mem_cons_of_mem _ (List.mem_cons_of_mem _ List.mem_cons_self))).pr fun b hb2 => by rw [hW]; exact hb.block b ((HFF.out.ok _ (List.mem_cons_of_mem _ (List.mem_cons_of_mem _ List.mem_cons_self))).pr.lt hb2), by rw [hW]; exact heap_alloc_new w _⟩)
  have hvb : (Value.slice ab nb cb).ownBlock ≠ some w.heap.size := fun e => by have := (HFF.out.ok _ (List.mem_cons_of_mem _ (List.mem_cons_of_mem _ List.mem_cons_self))).pr.lt e; omega
  have HVB := Lib.hid hvb
  clear hvb
  go_cut [] (fun wc => Up1 F w pp gp np cp bk nk ck sz ga na ca sa sb (P1 ++ m :: P2) (K1 ++ a :: b :: K2) a.p b.p ka kb (psa ++ [q]) (m :: psb) (ysa ++ cl) ysb wc)
  case first =>
    go_region_with (go_at_call 47; refine (insertP_Z _ (.slice ab nb cb) 0 psb.length _ psb m _ rfl rfl (Nat.zero_le _) (by omega) ?_ ?_ HVB.out).mono ?_; exact (HI.out _ rfl).1; exact (HI.out _ rfl).2; rintro e w4 ⟨g', c', rfl, h4, g4, o4⟩; have r4 : Rec w4 b.p (.slice ab nb cb) kb sb := FB.out _ _ g4 (touch_heap (.cells #[.int .i64 m.1, .string m.2] 61) _ rfl rfl rfl rfl); have q1 := r4.c0; have q2 := r4.fr 0)
    all_goals
      have FIN : Hid (Up1 F w pp gp np cp bk nk ck sz ga na ca sa sb (P1 ++ m :: P2) (K1 ++ a :: b :: K2) a.p b.p ka kb (psa ++ [q]) (m :: psb) (ysa ++ cl) ysb (w4.setCell ⟨b.p, 0, none⟩ (.slice (some ⟨g', 0, none⟩) (psb.length + 1) c'))) := Lib.hid ⟨g', c', Forest.insP (A := [_, _]) (B := []) HFF.out h4 g4 (touch_heap (.cells #[.int .i64 m.1, .string m.2] 61) _ rfl rfl rfl rfl) (o4.imp id (fun e => e))⟩
      clear h4 g4 o4 r4 q1 q2
      go_wp2_with fail
      go_meet
      case rel => exact FIN.out
  case rest =>
    obtain ⟨g, c, HG⟩ := hcut
    have okP := HG.ok _ (List.mem_cons_self)
    have okA := HG.ok _ (List.mem_cons_of_mem _ List.mem_cons_self)
    have okB := HG.ok _ (List.mem_cons_of_mem _ (List.mem_cons_of_mem _ List.mem_cons_self))
    have c0' : wc.cell? ⟨pp, 0, none⟩ = some (.slice (some ⟨gp, 0, none⟩) np cp) := okP.r.c0
    have a0' : wc.cell? ⟨a.p, 0, none⟩ = some (.slice (some ⟨ga, 0, none⟩) na ca) := okA.r.c0
    have q0 := okA.pr.row.get
    have hlast : (na : Int) - 1 = (psa.length : Int) := by have := NA.out; omega
    clear c0 c1 a0 b0 ka0 kb0 m1 m2
    have lt3 : pp < wc.heap.size ∧ gp < wc.heap.size ∧ ga < wc.heap.size := ⟨(Array.getElem?_eq_some_iff.1 okP.r).1, okP.pr.lt rfl, okA.pr.lt rfl⟩
    have hgf := okP.pr.fr (i * 2)
    have hgf2 := okP.pr.fr (i * 2 + 1)
    have p0 := okP.pr.row.get
    rw [H1.out] at p0
    obtain ⟨p1, p2⟩ := p0
    have hpl : psa.length < na := by omega
    obtain ⟨q1, q2⟩ := q0
    have HGG := Lib.hid HG
    have ilt : i < (P1 ++ m :: P2).length := by rw [← H1.out]; simp
    have hset : (P1 ++ m :: P2).set i q = P1 ++ q :: P2 := by rw [← H1.out]; simp
    have FS := Lib.hid (Forest.setPair (A := []) (i := i) (HG.below ((Touch.refl [] _).drew)) rfl ilt q)
    rw [hset] at FS
    clear okP okA okB HG HFF FB HI HVB ilt hset
    have FSH := Lib.hid FS
    clear FS
    go_wp2_with fail
    go_cut [] (fun wd => Forest w F wd [⟨pp, .slice (some ⟨gp, 0, none⟩) np cp, .slice (some ⟨bk, 0, none⟩) nk ck, sz, P1 ++ q :: P2, K1 ++ a :: b :: K2⟩, ⟨a.p, .slice (some ⟨ga, 0, none⟩) na ca, ka, sa, psa ++ [q], ysa ++ cl⟩, ⟨b.p, .slice (some ⟨g, 0, none⟩) (m :: psb).length c, kb, sb, m :: psb, ysb⟩])
    case first =>
      go_still_tail 13, (by kernel_rfl)
      change wpList _ _ _ _ _ wc.drew
      go_wp2_with fail
      go_meet
      case rel => exact FSH.out
    case rest =>
      clear HGG FSH a0' c0' q1 q2 lt3 hgf hgf2 p1 p2 plt alt blt gplt galt bklt
      have okA := hcut.ok _ (List.mem_cons_of_mem _ List.mem_cons_self)
      have a0 : wc.cell? ⟨a.p, 0, none⟩ = some (.slice (some ⟨ga, 0, none⟩) na ca) := okA.r.c0
      have H4 := Lib.hid hcut
      clear hcut okA
      go_wp2_with fail
      refine (deleteP_1 _ _ ga na ca psa.length psa [] q _ rfl ?_ rfl ?_ (by omega) ?_).mono ?_
      · first | rfl | omega
      · simpa using NA.out
      · exact (H4.out.ok _ (List.mem_cons_of_mem _ List.mem_cons_self)).pr
      rintro e w5 ⟨rfl, hd, hg⟩
      obtain ⟨s5, F5⟩ := Forest.pairs (A := [_]) (B := [_]) H4.out (w4 := w5) (v' := .slice (some ⟨ga, 0, none⟩) (na - 1) ca) (l' := psa) hg (by simpa using hd) (fun g hg => .inl hg)
      have r5 : Rec w5 a.p (.slice (some ⟨ga, 0, none⟩) na ca) ka sa := s5
      have q1 := r5.c0
      have q2 := r5.fr 0
      have F5' : Forest w F (w5.setCell ⟨a.p, 0, none⟩ (.slice (some ⟨ga, 0, none⟩) (na - 1) ca)) [⟨pp, .slice (some ⟨gp, 0, none⟩) np cp, .slice (some ⟨bk, 0, none⟩) nk ck, sz, P1 ++ q :: P2, K1 ++ a :: b :: K2⟩, ⟨a.p, .slice (some ⟨ga, 0, none⟩) (na - 1) ca, ka, sa, psa, ysa ++ cl⟩, ⟨b.p, .slice (some ⟨g, 0, none⟩) (m :: psb).length c, kb, sb, m :: psb, ysb⟩] := F5
      have F5H := Lib.hid F5'
      have okA := F5.ok _ (List.mem_cons_of_mem _ List.mem_cons_self)
      have a1 : (w5.setCell ⟨a.p, 0, none⟩ (.slice (some ⟨ga, 0, none⟩) (na - 1) ca)).cell? ⟨a.p, 1, none⟩ = some ka := okA.r.c1
      clear hd hg s5 r5 F5 F5' okA
      rcases hL with ⟨rfl, rfl, rfl, rfl, rfl⟩ | ⟨z, rfl, hys, hyl, hyb⟩
      · go_wp2_with fail
        refine (leaf_yes a.p 0 none _ a1).mono ?_
        rintro e w' ⟨rfl, rfl⟩
        go_wp2_with fail
        refine (recount_nd ⟨a.p, .slice (some ⟨ga, 0, none⟩) (na - 1) ca, .slice none 0 0, sa, psa, []⟩ _ (F5H.out.ok _ (List.mem_cons_of_mem _ List.mem_cons_self)) (.inl ⟨rfl, rfl⟩) (by simp) (Forest.nodup_at (A := [_]) F5H.out) (by have := HT.out; simp [total] at this ⊢; omega)).mono ?_
        rintro e w6 ⟨rfl, z1, z2⟩
        have F6 := Forest.size (A := [_]) F5H.out z2 z1
        have F6H := Lib.hid F6
        clear z1 z2 F6
        go_wp2_with fail
        refine (recount_nd ⟨b.p, .slice (some ⟨g, 0, none⟩) (m :: psb).length c, .slice none 0 0, sb, m :: psb, []⟩ _ (F6H.out.ok _ (List.mem_cons_of_mem _ (List.mem_cons_of_mem _ List.mem_cons_self))) (.inl ⟨rfl, rfl⟩) (by simp) (Forest.nodup_at (A := [_, _]) (B := []) F6H.out) (by have := HT.out; simp [total] at this ⊢; omega)).mono ?_
        rintro e w7 ⟨rfl, z1, z2⟩
        have F7 := Forest.size (A := [_, _]) (B := []) F6H.out z2 z1
        have F7H := Lib.hid F7
        clear z1 z2 F7
        go_wp2_with fail
        go_end0
        exact ⟨rfl, _, _, _, _, F7H.out, fun _ => rfl, fun _ => rfl⟩
      · have kra : KRow (w5.setCell ⟨a.p, 0, none⟩ (.slice (some ⟨ga, 0, none⟩) (na - 1) ca)) ka (ysa ++ [z]) := (F5H.out.ok _ (List.mem_cons_of_mem _ List.mem_cons_self)).kr
        obtain ⟨gka, cka, eka, _⟩ := kra.own (by simp)
        have krb : KRow (w5.setCell ⟨a.p, 0, none⟩ (.slice (some ⟨ga, 0, none⟩) (na - 1) ca)) kb ysb := (F5H.out.ok _ (List.mem_cons_of_mem _ (List.mem_cons_of_mem _ List.mem_cons_self))).kr
        obtain ⟨gkb, ckb, ekb, _⟩ := krb.own hys
        clear kra krb
        have hkl : (ysa ++ [z]).length = ysa.length + 1 := by simp
        rw [hkl] at eka
        subst eka
        subst ekb
        clear hkl
        go_wp2_with fail
        refine (leaf_no a.p (ysa.length + 1) cka _ _ a1 (by omega)).mono ?_
        rintro e w' ⟨rfl, rfl⟩
        go_wp2_with fail
        have OKB : Nd.ok (w5.setCell ⟨a.p, 0, none⟩ (.slice (some ⟨ga, 0, none⟩) (na - 1) ca)) ⟨b.p, .slice (some ⟨g, 0, none⟩) (m :: psb).length c, .slice (some ⟨gkb, 0, none⟩) ysb.length ckb, sb, m :: psb, ysb⟩ := F5H.out.ok _ (List.mem_cons_of_mem _ (List.mem_cons_of_mem _ List.mem_cons_self))
        have OKA : Nd.ok (w5.setCell ⟨a.p, 0, none⟩ (.slice (some ⟨ga, 0, none⟩) (na - 1) ca)) ⟨a.p, .slice (some ⟨ga, 0, none⟩) (na - 1) ca, .slice (some ⟨gka, 0, none⟩) (ysa.length + 1) cka, sa, psa, ysa ++ [z]⟩ := F5H.out.ok _ (List.mem_cons_of_mem _ List.mem_cons_self)
        have OKBH := Lib.hid OKB
        have OKAH := Lib.hid OKA
        clear OKB OKA q1 q2 a0
        generalize w5.setCell ⟨a.p, 0, none⟩ (.slice (some ⟨ga, 0, none⟩) (na - 1) ca) = W5 at *
        have kz := OKAH.out.kr.cell (psa.length + 1) z (by rw [← hyl]; simp)
        have b1 : W5.cell? ⟨b.p, 1, none⟩ = some (.slice (some ⟨gkb, 0, none⟩) ysb.length ckb) := OKBH.out.r.c1
        have alt : a.p < W5.heap.size := (Array.getElem?_eq_some_iff.1 OKAH.out.r).1
        have blt : b.p < W5.heap.size := (Array.getElem?_eq_some_iff.1 OKBH.out.r).1
        have gkalt : gka < W5.heap.size := (World.ownsRow.lt OKAH.out.kr gka rfl).2
        have gkblt : gkb < W5.heap.size := (World.ownsRow.lt OKBH.out.kr gkb rfl).2
        have FB := Lib.hid (Forest.insRecK (A := [_, _]) (B := []) F5H.out)
        have HI : Hid (∀ W : World, W.heap = (W5.alloc (.cells #[.pointer (some ⟨z.p, 0, none⟩)] 52)).heap → KRow W (.slice (some ⟨gkb, 0, none⟩) ysb.length ckb) ysb ∧ W.heap[W5.heap.size]? = some (.cells #[.pointer (some ⟨z.p, 0, none⟩)] 52 (0, 0))) := Lib.hid (fun W hW => by
          have hb := (Below.refl W5.heap.size W5).alloc (Nat.le_refl _) (.cells #[.pointer (some ⟨z.p, 0, none⟩)] 52)
          refine ⟨ownsRow_of_heap OKBH.out.kr fun b hb2 => by rw [hW]; exact hb.block b (World.ownsRow.lt OKBH.out.kr b hb2).2, by rw [hW]; exact heap_alloc_new W5 _⟩)
        have HVB : Hid ((Value.slice (some ⟨gkb, 0, none⟩) ysb.length ckb).ownBlock ≠ some W5.heap.size) := Lib.hid (fun e => by simp [Value.ownBlock] at e; omega)
        have HYL := Lib.hid hyl
        have hyl2 : psa.length + 1 < ysa.length + 1 := by omega
        have HYB := Lib.hid hys
        clear hyl hys
        go_cut [] (fun wd => Up2 F w [⟨pp, .slice (some ⟨gp, 0, none⟩) np cp, .slice (some ⟨bk, 0, none⟩) nk ck, sz, P1 ++ q :: P2, K1 ++ a :: b :: K2⟩, ⟨a.p, .slice (some ⟨ga, 0, none⟩) (na - 1) ca, .slice (some ⟨gka, 0, none⟩) (ysa.length + 1) cka, sa, psa, ysa ++ [z]⟩] b.p (.slice (some ⟨g, 0, none⟩) (m :: psb).length c) sb (m :: psb) (z :: ysb) wd)
        case first =>
          have w1 : IntKind.i64.wrap ((psa.length : Int) + 1) = (psa.length : Int) + 1 := IntWalk.i64_in _ (by omega)
          have w2 : 0 ≤ (psa.length : Int) + 1 := by omega
          have w3 : ((psa.length : Int) + 1).toNat = psa.length + 1 := by omega
          go_region_with (go_at_call 62; refine (insertK_Z _ (.slice (some ⟨gkb, 0, none⟩) ysb.length ckb) 0 ysb.length _ ysb z _ rfl rfl (Nat.zero_le _) ?_ ?_ ?_ HVB.out).mono ?_; exact (Nat.le_trans hyb (by decide)); exact (HI.out _ rfl).1; exact (HI.out _ rfl).2; rintro e w6 ⟨g', c', rfl, h4, g4, o4⟩; have r4 : Rec w6 b.p (.slice (some ⟨g, 0, none⟩) (m :: psb).length c) (.slice (some ⟨gkb, 0, none⟩) ysb.length ckb) sb := FB.out _ _ g4 (touch_heap (.cells #[.pointer (some ⟨z.p, 0, none⟩)] 52) _ rfl rfl rfl rfl); have q1 := r4.c1; have q2 := r4.fr 1)
          all_goals
            have FIN : Hid (Up2 F w [⟨pp, .slice (some ⟨gp, 0, none⟩) np cp, .slice (some ⟨bk, 0, none⟩) nk ck, sz, P1 ++ q :: P2, K1 ++ a :: b :: K2⟩, ⟨a.p, .slice (some ⟨ga, 0, none⟩) (na - 1) ca, .slice (some ⟨gka, 0, none⟩) (ysa.length + 1) cka, sa, psa, ysa ++ [z]⟩] b.p (.slice (some ⟨g, 0, none⟩) (m :: psb).length c) sb (m :: psb) (z :: ysb) (w6.setCell ⟨b.p, 1, none⟩ (.slice (some ⟨g', 0, none⟩) (ysb.length + 1) c'))) := Lib.hid ⟨g', c', Forest.insK (A := [_, _]) (B := []) F5H.out h4 g4 (touch_heap (.cells #[.pointer (some ⟨z.p, 0, none⟩)] 52) _ rfl rfl rfl rfl) (o4.imp id (fun e => e))⟩
            clear h4 g4 o4 r4 q1 q2
            go_wp2_with fail
            go_meet
            case rel => exact FIN.out
        case rest =>
          obtain ⟨g6, c6, HG⟩ := hcut
          have okA : Nd.ok wc ⟨a.p, .slice (some ⟨ga, 0, none⟩) (na - 1) ca, .slice (some ⟨gka, 0, none⟩) (ysa.length + 1) cka, sa, psa, ysa ++ [z]⟩ := HG.ok _ (by simp)
          have d1 := okA.r.c1
          have H6 := Lib.hid HG
          have OKAH6 := Lib.hid okA
          clear HG okA kz b1 a1 alt blt gkalt gkblt FB HI HVB OKAH OKBH F5H
          go_wp2_with fail
          refine (deleteK_1 _ _ gka (ysa.length + 1) cka (psa.length + 1) ysa [] z _ ?_ ?_ HYL.out (by simp) (by have := NA.out; have := HYL.out; omega) OKAH6.out.kr).mono ?_
          · first | rfl | omega
          · first | rfl | omega
          rintro e w7 ⟨rfl, hd, hg⟩
          obtain ⟨s7, F7⟩ := Forest.kids (A := [_]) (B := [_]) H6.out (w4 := w7) (v' := .slice (some ⟨gka, 0, none⟩) ysa.length cka) (l' := ysa) hg (by simpa using hd) (fun g hg => .inl hg)
          have r7 : Rec w7 a.p (.slice (some ⟨ga, 0, none⟩) (na - 1) ca) (.slice (some ⟨gka, 0, none⟩) (ysa.length + 1) cka) sa := s7
          have q1 := r7.c1
          have q2 := r7.fr 1
          have F7H := Lib.hid F7
          clear hd hg s7 r7 F7
          have F7' : Forest w F (w7.setCell ⟨a.p, 1, none⟩ (.slice (some ⟨gka, 0, none⟩) ysa.length cka)) [⟨pp, .slice (some ⟨gp, 0, none⟩) np cp, .slice (some ⟨bk, 0, none⟩) nk ck, sz, P1 ++ q :: P2, K1 ++ a :: b :: K2⟩, ⟨a.p, .slice (some ⟨ga, 0, none⟩) (na - 1) ca, .slice (some ⟨gka, 0, none⟩) ysa.length cka, sa, psa, ysa⟩, ⟨b.p, .slice (some ⟨g, 0, none⟩) (m :: psb).length c, .slice (some ⟨g6, 0, none⟩) (z :: ysb).length c6, sb, m :: psb, z :: ysb⟩] := F7H.out
          have F8H := Lib.hid F7'
          clear F7' F7H
          go_wp2_with fail
          refine (recount_nd ⟨a.p, .slice (some ⟨ga, 0, none⟩) (na - 1) ca, .slice (some ⟨gka, 0, none⟩) ysa.length cka, sa, psa, ysa⟩ _ (F8H.out.ok _ (by simp)) (.inr (fun e => by have := HYL.out; rw [show ysa = [] from e] at this; simp at this)) (Hang.at (fun u hu => HH.out u (by simp only [List.mem_append]; exact .inl (.inl hu))) F8H.out.touch AF.out) (Forest.nodup_at (A := [_]) F8H.out) (by have := HT.out; simp [total] at this ⊢; omega)).mono ?_
          rintro e w8 ⟨rfl, z1, z2⟩
          have F9 := Forest.size (A := [_]) F8H.out z2 z1
          have F9H := Lib.hid F9
          clear z1 z2 F9
          go_wp2_with fail
          refine (recount_nd ⟨b.p, .slice (some ⟨g, 0, none⟩) (m :: psb).length c, .slice (some ⟨g6, 0, none⟩) (z :: ysb).length c6, sb, m :: psb, z :: ysb⟩ _ (F9H.out.ok _ (by simp)) (.inr (by simp)) (Hang.at (fun u hu => HH.out u (by simp only [List.mem_append, List.mem_singleton] ; simp at hu; rcases hu with e | e <;> simp [e])) F9H.out.touch BF.out) (Forest.nodup_at (A := [_, _]) (B := []) F9H.out) (by have := HT.out; simp [total] at this ⊢; omega)).mono ?_
          rintro e w9 ⟨rfl, z1, z2⟩
          have F10 := Forest.size (A := [_, _]) (B := []) F9H.out z2 z1
          have F10H := Lib.hid F10
          clear z1 z2 F10
          go_wp2_with fail
          go_end0
          exact ⟨rfl, _, _, _, _, F10H.out, fun e => by have := HYL.out; rw [e] at this; simp at this, fun e => by simp at e⟩
end Go.Proofs.Ytcboakmfabdeoaa
