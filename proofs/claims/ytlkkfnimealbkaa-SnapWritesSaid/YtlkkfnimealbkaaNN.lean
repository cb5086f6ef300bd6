/- standing: the iterator over the parts that stand in sectors. -/
import Derived.Test.YtlkkfnimealbkaaNM
namespace Go.Proofs.Ytlkkfnimealbkaa
open Go.RowKit Go.Shelf
open Pag (Pg PgAt IsPage HF)
set_option linter.unusedVariables false
attribute [local go_sem] Oper.semAt_some
/-- a part that stands there, as it is told. -/
structure Rt where
  A : Option Addr
  c : Nat
  t : Tb
abbrev Rt.v (x : Rt) : Value := .agg #[.slice x.A x.t.b.length x.c, .bool x.t.last]
abbrev encT (x : Rt) : Array Value := #[x.v, .int .i64 x.t.e]
def tbs (l : List Rt) : List Tb := l.map Rt.t
theorem tbs_snoc (l : List Rt) (x : Rt) : tbs (l ++ [x]) = tbs l ++ [x.t] := by simp [tbs]
def RtIn (Os : List (Int × List (List UInt8))) (pre : List Rt) (x : Rt) (W : World) : Prop := tbs pre ++ [x.t] <+: tellS Os ∧ Holds W x.A x.t.b
theorem standing_in (F : Fence) (n : Nat) (h5 : F.fn 29) (hro : F.round = none) (d : Option Addr) (fr k : Int) (w : World) :
    CallsIn F n Try.prog 29 #[.pointer d, .int .i64 fr, .int .i64 k] w fun e w' => e = .returned (.func (.func 45) #[] #[.pointer (some ⟨w.heap.size + 2, 0, none⟩), .pointer (some ⟨w.heap.size, 0, none⟩), .pointer (some ⟨w.heap.size + 1, 0, none⟩)]) ∧ w' = ((w.alloc (.cells #[.pointer d] 24)).alloc (.cells #[.int .i64 fr] 3)).alloc (.cells #[.int .i64 k] 3) := by
  refine callsIn_of_wp Try.func29 rfl h5 ?_ hro
  simp only [Try.ntmps29, List.size_toArray, List.length_cons, List.length_nil, Nat.reduceAdd, Nat.reduceSub, Array.replicate_succ, Array.replicate_zero, List.push_toArray, List.append_toArray, List.nil_append, List.cons_append]
  gi_wp2
  go_ret
  exact ⟨rfl, rfl⟩
/-- a page that the caller's blocks are none of. -/
structure PgFree (G : List Nat) (l : Nat) (W : World) (P : Pg) : Prop where
  at_ : PgAt W P
  foot : ∀ k ∈ Pag.foot P, k ∉ G ∧ k ≠ l
  held : ∀ x ∈ P.xs, ∀ k, x.v.ownBlock = some k → k ∉ G ∧ k ≠ l
theorem PgFree.below {G : List Nat} {l : Nat} {W W' : World} {P : Pg} (h : PgFree G l W P) (hb : Below W.heap.size W W') : PgFree G l W' P := ⟨h.at_.below hb, h.foot, h.held⟩
theorem PgFree.round {G G' : List Nat} {l : Nat} {W W' : World} {P : Pg} (h : PgFree G l W P) (ht : Touch (l :: G) W W') (hG : ∀ k ∈ G', k ∈ G ∨ W.heap.size ≤ k) : PgFree G' l W' P := by
  have hfl : ∀ k ∈ Pag.foot P, k < W.heap.size := fun k hk => h.at_.footlt hk
  have hhl : ∀ x ∈ P.xs, ∀ k, x.v.ownBlock = some k → k < W.heap.size := fun x hx k hk => ((h.at_.held x hx).bytes hk).lt
  have keep : ∀ k, k < W.heap.size → k ∉ G → k ≠ l → W'.heap[k]? = W.heap[k]? := fun k h1 h2 h3 => ht.block k h1 (by simp [h2, h3])
  refine ⟨?_, fun k hk => ⟨fun hg => ?_, (h.foot k hk).2⟩, fun x hx k hk => ⟨fun hg => ?_, (h.held x hx k hk).2⟩⟩
  · refine ⟨(keep _ (hfl _ Pag.foot_p) (h.foot _ Pag.foot_p).1 (h.foot _ Pag.foot_p).2).trans h.at_.top, ownsRow_of_heap h.at_.row fun b e => keep b (hfl _ (Pag.foot_v e)) (h.foot _ (Pag.foot_v e)).1 (h.foot _ (Pag.foot_v e)).2, fun x hx => (h.at_.held x hx).of_heap fun k hk => keep k (hhl x hx k hk) (h.held x hx k hk).1 (h.held x hx k hk).2, h.at_.sz1, h.at_.sz2, h.at_.few, h.at_.fit⟩
  · rcases hG k hg with h1 | h1
    · exact (h.foot k hk).1 h1
    · have := hfl k hk; omega
  · rcases hG k hg with h1 | h1
    · exact (h.held x hx k hk).1 h1
    · have := hhl x hx k hk; omega
/-- what stands beside: the boxes, the disk. -/
structure StB (w0 : World) (Bn fr n p : Nat) (W : World) : Prop where
  b0 : Whole W Bn 24 #[.pointer (some ⟨p, 0, none⟩)]
  b1 : Whole W (Bn + 1) 3 #[.int .i64 (fr : Nat)]
  b2 : Whole W (Bn + 2) 3 #[.int .i64 (n : Nat)]
  below : Below w0.heap.size w0 W
theorem StB.bel {w0 W W' : World} {Bn fr n p : Nat} (h : StB w0 Bn fr n p W) (hb : Below W.heap.size W W') : StB w0 Bn fr n p W' :=
  ⟨h.b0.below hb h.b0.lt, h.b1.below hb h.b1.lt, h.b2.below hb h.b2.lt, h.below.trans (hb.mono h.below.size)⟩
theorem StB.touch {w0 W W' : World} {Bn fr n p : Nat} {G : List Nat} (h : StB w0 Bn fr n p W) (ht : Touch G W W') (hG : ∀ k ∈ G, w0.heap.size ≤ k ∧ k ∉ [Bn, Bn + 1, Bn + 2]) : StB w0 Bn fr n p W' := by
  have keep : ∀ k, k ∈ [Bn, Bn + 1, Bn + 2] → k < W.heap.size → W'.heap[k]? = W.heap[k]? := fun k hk hl => ht.block k hl (fun hg => (hG k hg).2 hk)
  exact ⟨(keep _ (by simp) h.b0.lt).trans h.b0, (keep _ (by simp) h.b1.lt).trans h.b1, (keep _ (by simp) h.b2.lt).trans h.b2, Touch.fresh h.below ht (fun k hk => (hG k hk).1)⟩
set_option maxRecDepth 100000 in
set_option maxHeartbeats 4000000 in
theorem standing1_in (n : Nat) (hn : 1 ≤ n) (l Bn : Nat) (w0 : World) (p : Nat) (F : List Nat) (m : Mod) (hd : IsD w0 p F m) (hw : m.waits ≤ 1000000) (hs1 : 64 ≤ m.size) (hs2 : m.size ≤ 1024) (fr nn : Nat) (hfr : fr ≤ 600) (hnn : nn ≤ 600) (Os : List (Int × List (List UInt8))) (hOs : SecsAre m fr Os) (hOl : Os.length = nn)
    (J : List Rt → List Nat → World → Prop) (Jx : List Rt → World → Prop)
    (W : World) (hJ : AbidesG W.heap.size J) (hJG : ∀ s G W', J s G W' → ∀ k ∈ G, w0.heap.size ≤ k ∧ k < W'.heap.size ∧ k ∉ [Bn, Bn + 1, Bn + 2]) (hl1 : w0.heap.size ≤ l) (hl2 : l < W.heap.size) (hl3 : l ∉ [Bn, Bn + 1, Bn + 2])
    (hY : ∀ pre G x W1, J pre G W1 → RtIn Os pre x W1 → YieldAt Fence.wide (n - 1) Try.prog l (encT x) W1 fun e W' =>
      (e = .returned (.bool true) ∧ Touch (l :: G) W1 W' ∧ ∃ G', J (pre ++ [x]) G' W' ∧ ∀ k ∈ G', k ∈ G ∨ W1.heap.size ≤ k) ∨ (e = .returned (.bool false) ∧ Jx (pre ++ [x]) W'))
    (hB : StB w0 Bn fr nn p W) (h0 : ∃ G, J [] G W) :
    CallsIn Fence.wide n Try.prog 45 #[.func (.yield l) #[] #[], .pointer (some ⟨Bn + 2, 0, none⟩), .pointer (some ⟨Bn, 0, none⟩), .pointer (some ⟨Bn + 1, 0, none⟩)] W fun e W' => (∃ v, e = .returned v) ∧ ((∃ xs G, tbs xs = tellS Os ∧ J xs G W') ∨ ∃ pre, Jx pre W') := by
  have HJ := Lib.hid hJ
  have HJG := Lib.hid hJG
  have HY := Lib.hid hY
  have HB := Lib.hid hB
  have H0 := Lib.hid h0
  have HD := Lib.hid (And.intro hd hOs)
  have c2 := hB.b2.cell 0
  simp only [List.getElem?_toArray, List.getElem?_cons_zero] at c2
  have hni : (nn : Int) ≤ 600 := by omega
  have hfi : (fr : Int) ≤ 600 := by omega
  clear hJ hJG hY hB h0 hd hOs
  refine callsIn_of_wp Try.func45 rfl trivial ?_ rfl
  simp only [Try.ntmps45, List.size_toArray, List.length_cons, List.length_nil, Nat.reduceAdd, Nat.reduceSub, Array.replicate_succ, Array.replicate_zero, List.push_toArray, List.append_toArray, List.nil_append, List.cons_append]
  gi_wp2
  gi_loopw [12] (fun s12 wr => ∃ (i : Nat) (pre : List Rt) (G : List Nat), i ≤ nn ∧ s12 = .int .i64 (i : Nat) ∧ tellS Os = tbs pre ++ tellS (Os.drop i) ∧ J pre G wr ∧ StB w0 Bn fr nn p wr ∧ W.heap.size ≤ wr.heap.size)
    (fun s12 _ => (nn - intOf s12).toNat)
  case atStart =>
    obtain ⟨G, hG⟩ := H0.out
    exact ⟨0, [], G, Nat.zero_le _, rfl, by simp [tbs], hG, HB.out, Nat.le_refl _⟩
  case round =>
    obtain ⟨i, pre, G, hi, rfl, hleft, hj, hst, hsz⟩ := hrel
    by_cases hlt : i < nn
    · have hlti : (i : Int) < (nn : Int) := by omega
      have k0 := hst.b0.cell 0
      have k1 := hst.b1.cell 0
      simp only [List.getElem?_toArray, List.getElem?_cons_zero] at k0 k1
      have hoi : i < Os.length := by omega
      have PG := pageIn_any (HD.out.1.below hst.below) hw hs1 hs2 (fr + i) (HD.out.2 i hoi)
      have hcast : ((fr + i : Nat) : Int) = (fr : Int) + (i : Int) := by omega
      rw [hcast] at PG
      have PGH := Lib.hid PG
      have hdrop : Os.drop i = Os[i] :: Os.drop (i + 1) := List.drop_eq_getElem_cons hoi
      rw [hdrop] at hleft
      have HH := Lib.hid (And.intro hleft (And.intro hj hst))
      clear PG hleft hj hst hcast hdrop HB H0
      generalize Os[i] = o at *
      gi_wp2
      refine ⟨trivial, ?_⟩
      refine (callsIn_wide.2 PGH.out).mono ?_
      rintro e w1 ⟨hb1, ⟨e0, P, rfl, hP, hPL, hPf, hPh⟩ | ⟨e0, rfl⟩⟩
      · obtain ⟨hleft, hj, hst⟩ := HH.out
        have hj1 := HJ.out _ _ [] wr w1 hj (Touch.of_below hb1 []) (by simp)
        have hst1 := hst.bel hb1
        have hGl : ∀ k ∈ G, k < wr.heap.size := fun k hk => (HJG.out _ _ _ hj k hk).2.1
        have hfree : PgFree G l w1 P := ⟨hP, fun k hk => ⟨fun hg => by have := hGl k hg; have := hPf k hk; omega, by have := hPf k hk; omega⟩, fun x hx k hk => ⟨fun hg => by have := hGl k hg; have := hPh x hx k hk; omega, by have := hPh x hx k hk; omega⟩⟩
        have hsz1 : W.heap.size ≤ w1.heap.size := Nat.le_trans hsz hb1.size
        have hlen : P.L.length = P.xs.length := Pag.bbs_len _
        have hfew := hP.few
        have hfewi : (P.xs.length : Int) ≤ 250 := by omega
        have hleft1 : tellS Os = tbs pre ++ (tellP P.L ++ (if okP P.L then tellS (Os.drop (i + 1)) else [])) := by
          rw [hleft, hPL]
          show _ ++ (if o.1 = 0 then _ else _) = _
          rw [if_pos e0]
        have SL := Lib.hid (Pag.slots_at hP)
        have HI := Lib.hid (And.intro hleft1 (And.intro hj1 (And.intro hst1 (And.intro hfree hsz1))))
        have HLEN := Lib.hid hlen
        clear hleft hj hst hj1 hst1 hGl hfree hsz1 hleft1 hP hPf hPh hPL hb1 HH PGH k0 k1 hlen
        rw [show P.ptr = .pointer (some ⟨P.p, 0, none⟩) from rfl] at SL
        rw [show P.ptr = .pointer (some ⟨P.p, 0, none⟩) from rfl]
        gi_wp2
        refine ⟨trivial, ?_⟩
        refine (callsIn_wide.2 SL.out).mono ?_
        rintro e w2 ⟨rfl, rfl⟩
        gi_wp2
        gi_loopw [31] (fun s31 wr => ∃ (j : Nat) (pre : List Rt) (G : List Nat), j ≤ P.xs.length ∧ s31 = .int .i64 (j : Nat) ∧ tellS Os = tbs pre ++ (tellP (P.L.drop j) ++ (if okP P.L then tellS (Os.drop (i + 1)) else [])) ∧ okP (P.L.take j) = true ∧ J pre G wr ∧ StB w0 Bn fr nn p wr ∧ PgFree G l wr P ∧ W.heap.size ≤ wr.heap.size)
          (fun s31 _ => (P.xs.length - intOf s31).toNat)
        case atStart =>
          obtain ⟨a1, a2, a3, a4, a5⟩ := HI.out
          exact ⟨0, pre, G, Nat.zero_le _, rfl, by rw [List.drop_zero]; exact a1, by simp [okP], a2, a3, a4, a5⟩
        case round =>
          clear HI
          obtain ⟨j, pre, G, hj, rfl, hleft, hok, hJ, hst, hfree, hsz2⟩ := hrel
          by_cases hlt2 : j < P.xs.length
          · have hlt2i : (j : Int) < (P.xs.length : Int) := by omega
            have hjL : j < P.L.length := by rw [HLEN.out]; exact hlt2
            have PI := Lib.hid (partIn_any hfree.at_ j hlt2)
            rw [show P.ptr = .pointer (some ⟨P.p, 0, none⟩) from rfl] at PI
            have hLj : P.L[j] = P.xs[j].b := Pag.bbs_at _ _ _
            rw [tellP_at P.L j hjL] at hleft
            have hokn := okP_take hjL hok
            have hbad := okP_bad (L := P.L) hjL
            rw [hLj] at hleft hokn hbad
            generalize tellK P.xs[j].b = t at *
            have HH := Lib.hid (And.intro hleft (And.intro hokn (And.intro hbad (And.intro hJ (And.intro hst (And.intro hfree hsz2))))))
            clear hleft hokn hbad hJ hst hfree hsz2 hok hLj
            gi_wp2
            refine ⟨trivial, ?_⟩
            refine (callsIn_wide.2 PI.out).mono ?_
            rintro e w3 ⟨B, c', rfl, hB, hb3⟩
            have hb4 : Below w3.heap.size w3 (w3.alloc (.cells #[.slice B t.b.length c', .bool t.last] 73)) := (Below.refl _ _).alloc (Nat.le_refl _) _
            have n4 := Whole.new w3 73 #[.slice B t.b.length c', .bool t.last]
            have x0 := n4.cell 0
            have x1 := n4.cell 1
            simp only [List.getElem?_toArray, List.getElem?_cons_zero, List.getElem?_cons_succ] at x0 x1
            have hb34 := hb3.trans (hb4.mono hb3.size)
            obtain ⟨hleft, hokn, hbad, hJ, hst, hfree, hsz2⟩ := HH.out
            have hJ4 := HJ.out _ _ [] _ _ hJ (Touch.of_below hb34 []) (by simp)
            have hpre : tbs pre ++ [t] <+: tellS Os := by rw [hleft]; exact ⟨_, by rw [List.append_assoc]; rfl⟩
            obtain ⟨fn, tmps, assign, body, hy, hR⟩ := HY.out pre G ⟨B, c', t⟩ _ hJ4 ⟨hpre, hB.below hb4⟩
            unfold encT Rt.v at hy
            dsimp only at hy
            have hst4 := hst.bel hb34
            have hfree4 := hfree.below hb34
            have hsz4 : W.heap.size ≤ (w3.alloc (.cells #[.slice B t.b.length c', .bool t.last] 73)).heap.size := Nat.le_trans hsz2 hb34.size
            have hG4 := HJG.out _ _ _ hJ4
            have HK := Lib.hid (And.intro hleft (And.intro hokn (And.intro hbad (And.intro hst4 (And.intro hfree4 (And.intro hsz4 hG4))))))
            have hlt3 : w3.heap.size < (w3.alloc (.cells #[.slice B t.b.length c', .bool t.last] 73)).heap.size := by simp
            clear hleft hokn hbad hJ hst hfree hsz2 hJ4 hpre hst4 hfree4 hsz4 hG4 hb34 hb4 hb3 n4 HH PI hB
            gi_wp2
            refine hR.mono ?_
            rintro r W6 (⟨rfl, ht6, G', hJ6, hG6⟩ | ⟨rfl, hx6⟩)
            · obtain ⟨hleft, hokn, hbad, hst4, hfree4, hsz4, hG4⟩ := HK.out
              have hst6 := hst4.touch ht6 (fun k hk => by
                rcases List.mem_cons.1 hk with rfl | hk
                · exact ⟨hl1, hl3⟩
                · exact ⟨(hG4 k hk).1, (hG4 k hk).2.2⟩)
              have hfree6 := hfree4.round ht6 hG6
              have hsz6 := Nat.le_trans hsz4 ht6.size
              have HQ := Lib.hid (And.intro hJ6 (And.intro hst6 (And.intro hfree6 (And.intro hleft (And.intro hokn hbad)))))
              clear hleft hokn hbad hst4 hfree4 hsz4 hG4 hst6 hfree6 hJ6 ht6 hG6 HK hR hy x0 x1
              by_cases he : t.e = 0
              · have HE := Lib.hid he
                rw [he]
                clear he
                gi_wp2
                obtain ⟨hJ6, hst6, hfree6, hleft, hokn, hbad⟩ := HQ.out
                rw [if_pos HE.out] at hleft
                exact ⟨⟨j + 1, pre ++ [⟨B, c', t⟩], G', by omega, by simp, by rw [hleft, tbs_snoc, List.append_assoc]; rfl, hokn HE.out, hJ6, hst6, hfree6, hsz6⟩, by simp [intOf]; omega⟩
              · have heb : (t.e == 0) = false := by simpa using he
                have HE := Lib.hid he
                clear he
                gi_wp2
                refine bodyPost_ret (results_none rfl _ _ _) rfl ?_
                obtain ⟨hJ6, hst6, hfree6, hleft, hokn, hbad⟩ := HQ.out
                refine ⟨⟨_, rfl⟩, .inl ⟨pre ++ [⟨B, c', t⟩], G', ?_, hJ6⟩⟩
                rw [hleft, tbs_snoc, if_neg HE.out, hbad HE.out]
                simp
            · gi_wp2
              refine bodyPost_ret (results_none rfl _ _ _) rfl ?_
              exact ⟨⟨_, rfl⟩, .inr ⟨_, hx6⟩⟩
          · have hge : ¬ (j : Int) < (P.xs.length : Int) := by omega
            have hjl : j = P.L.length := by rw [HLEN.out]; omega
            rw [hjl, List.take_length] at hok
            rw [hjl, List.drop_length, if_pos hok] at hleft
            have HF := Lib.hid (And.intro hleft (And.intro hJ hst))
            clear hleft hJ hst hok hjl hfree
            gi_wp2
            obtain ⟨hleft, hJ, hst⟩ := HF.out
            exact ⟨⟨i + 1, pre, G, by omega, by simp, hleft, hJ, hst, hsz2⟩, by simp [intOf]; omega⟩
      · obtain ⟨hleft, hj, hst⟩ := HH.out
        have hj1 := HJ.out _ _ [] wr w1 hj (Touch.of_below hb1 []) (by simp)
        have hleft1 : tellS Os = tbs pre ++ [⟨[], false, o.1⟩] := by
          rw [hleft]
          show _ ++ (if o.1 = 0 then _ else _) = _
          rw [if_neg e0]
        obtain ⟨fn, tmps, assign, body, hy, hR⟩ := HY.out pre G ⟨none, 0, ⟨[], false, o.1⟩⟩ w1 hj1 ⟨by rw [hleft1]; exact List.prefix_refl _, Holds.nil _ _⟩
        unfold encT Rt.v at hy
        simp only [List.length_nil] at hy
        have HL := Lib.hid hleft1
        have hob : (o.1 == 0) = false := by simpa using e0
        clear hleft hj hst hj1 hleft1 HH PGH k0 k1 e0 hb1
        generalize o.1 = oe at *
        gi_wp2
        refine hR.mono ?_
        rintro r W6 (⟨rfl, ht6, G', hJ6, hG6⟩ | ⟨rfl, hx6⟩)
        · gi_wp2
          refine bodyPost_ret (results_none rfl _ _ _) rfl ?_
          exact ⟨⟨_, rfl⟩, .inl ⟨_, G', by rw [tbs_snoc]; exact HL.out.symm, hJ6⟩⟩
        · gi_wp2
          refine bodyPost_ret (results_none rfl _ _ _) rfl ?_
          exact ⟨⟨_, rfl⟩, .inr ⟨_, hx6⟩⟩
    · have hge : ¬ (i : Int) < (nn : Int) := by omega
      have hfin : tellS Os = tbs pre := by
        rw [hleft, List.drop_eq_nil_of_le (by omega)]
        simp [tellS]
      have HF := Lib.hid (And.intro hfin hj)
      clear hfin hleft hj
      gi_wp2
      go_end0
      exact ⟨⟨_, rfl⟩, .inl ⟨pre, HF.out.1.symm, G, HF.out.2⟩⟩
end Go.Proofs.Ytlkkfnimealbkaa
