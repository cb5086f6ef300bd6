/- The reference's reading of records. -/
import Derived.Test.YtlkkfnimealbkaaNX0
namespace Go.Proofs.Ytlkkfnimealbkaa
open Go.RowKit
open Pag (IsPage strL strL_len used)
set_option linter.unusedVariables false
/-- sectors' bytes, and what they are. -/
def PgsAre (bs : List (List UInt8)) (Os : List (Int × List (List UInt8))) : Prop := Os.length = bs.length ∧ ∀ i (h : i < bs.length) (h' : i < Os.length), (Os[i].1 = 0 ∧ IsPage bs[i] Os[i].2) ∨ (Os[i].1 = 7 ∧ ∀ M, ¬ IsPage bs[i] M)
theorem tellS_at (Os : List (Int × List (List UInt8))) (i : Nat) (h : i < Os.length) : tellS (Os.drop i) = if Os[i].1 = 0 then tellP Os[i].2 ++ (if okP Os[i].2 then tellS (Os.drop (i + 1)) else []) else [⟨[], false, Os[i].1⟩] := by
  rw [List.drop_eq_getElem_cons h]
  rfl
theorem okP_at (L : List (List UInt8)) (j : Nat) (h : j < L.length) : okP (L.drop j) = (decide ((tellK L[j]).e = 0) && okP (L.drop (j + 1))) := by
  rw [List.drop_eq_getElem_cons h]
  rfl
/-- what is still to be told within a sector. -/
def restK (L : List (List UInt8)) (k : Nat) (T : List Tb) : List Tb := tellP (L.drop k) ++ (if okP (L.drop k) then T else [])
theorem restK_zero (L : List (List UInt8)) (T : List Tb) : tellP L ++ (if okP L then T else []) = restK L 0 T := rfl
theorem restK_end (L : List (List UInt8)) (k : Nat) (T : List Tb) (h : L.length ≤ k) : restK L k T = T := by
  unfold restK
  rw [List.drop_of_length_le h]
  rfl
theorem restK_ok (L : List (List UInt8)) (k : Nat) (T : List Tb) (h : k < L.length) (he : (tellK L[k]).e = 0) : restK L k T = tellK L[k] :: restK L (k + 1) T := by
  unfold restK
  rw [tellP_at L k h, okP_at L k h, if_pos he, decide_eq_true he, Bool.true_and]
  rfl
theorem restK_bad (L : List (List UInt8)) (k : Nat) (T : List Tb) (h : k < L.length) (he : (tellK L[k]).e ≠ 0) (s : List (List UInt8) × List UInt8 × Bool) : resF s (restK L k T) = ((tellK L[k]).e, []) := by
  unfold restK
  rw [tellP_at L k h, if_neg he, List.cons_append]
  exact if_neg he
theorem extract_one (p : List UInt8) : ((⟨p.toArray⟩ : ByteArray).extract 1 (⟨p.toArray⟩ : ByteArray).size).data.toList = p.drop 1 := by
  have h : (⟨p.toArray⟩ : ByteArray).size = p.length := by show p.toArray.size = _; simp
  rw [h]
  simp
  rw [List.take_of_length_le (by simp)]
theorem add_str (q p : List UInt8) : (⟨q.toArray⟩ : ByteArray) ++ (⟨p.toArray⟩ : ByteArray).extract 1 (⟨p.toArray⟩ : ByteArray).size = ⟨(q ++ p.drop 1).toArray⟩ := by
  have : ((⟨q.toArray⟩ : ByteArray) ++ (⟨p.toArray⟩ : ByteArray).extract 1 (⟨p.toArray⟩ : ByteArray).size).data.toList = q ++ p.drop 1 := by
    have h := extract_one p
    rw [ByteArray.data_append, Array.toList_append, h]
  cases hh : (⟨q.toArray⟩ : ByteArray) ++ (⟨p.toArray⟩ : ByteArray).extract 1 (⟨p.toArray⟩ : ByteArray).size with
  | mk d =>
    rw [hh] at this
    simp only at this
    rw [← this]
theorem SRow.strs {w : World} {base : Nat} {A : Option Addr} {n c : Nat} {ss : List ByteArray} (h : SRow w base (.slice A n c) ss) : Strs w A ss := by
  obtain ⟨A2, c2, e, h2, -⟩ := h.asStrs
  cases e
  exact h2
set_option maxRecDepth 100000 in
set_option maxHeartbeats 4000000 in
theorem refRead_any (A : Option Addr) (c : Nat) (bs : List (List UInt8)) (Os : List (Int × List (List UInt8))) (w : World) (hS : Strs w A (strL bs)) (hbl : ∀ b ∈ bs, 64 ≤ b.length ∧ b.length ≤ 1024) (hn : bs.length ≤ 600) (hO : PgsAre bs Os) :
    Calls Try.prog 18 #[.slice A bs.length c] w fun e w' => Below w.heap.size w w' ∧
      (((resS Os).1 = 0 ∧ ∃ v, e = .returned (.tuple #[v, .bool true]) ∧ LRo w' w.heap.size v (resS Os).2) ∨ ((resS Os).1 = 7 ∧ ∃ v, e = .returned (.tuple #[v, .bool false]))) := by
  have HS := Lib.hid hS
  have HBL := Lib.hid hbl
  have HOs := Lib.hid hO
  have LN := Lib.hid (LRo.new w)
  have B0 := Lib.hid ((Below.refl w.heap.size w).alloc (Nat.le_refl _) (.cells #[] 35))
  clear hS hbl hO
  go_enter Try.func18, Try.ntmps18
  go_wp2_with fail
  generalize w.alloc (.cells #[] 35) = w1 at *
  go_loopg [4, 5, 6, 7, 8, 9, 10] (bs.length + 1) (fun j s4 s5 s6 s7 s8 s9 s10 wr => ∃ (i : Nat) (l : List (List UInt8)) (q : List UInt8) (wh : Bool), i ≤ bs.length ∧ bs.length < i + j ∧ s7 = .int .i64 (i : Nat) ∧ LRo wr w.heap.size s4 l ∧ s5 = .string ⟨q.toArray⟩ ∧ s6 = .bool (!wh) ∧ resS Os = resF (l, q, wh) (tellS (Os.drop i)) ∧ l.length ≤ 250 * i ∧ q.length ≤ 1024 * i ∧ Below w.heap.size w wr)
  case atStart => exact ⟨0, [], [], true, by omega, by omega, rfl, LN.out, rfl, rfl, rfl, by simp, by simp, B0.out⟩
  case round =>
    obtain ⟨i, l, q, wh, hi, hj, rfl, hl, rfl, rfl, hres, hll, hql, hb⟩ := hrel
    have HL := Lib.hid hl
    have HW := Lib.hid hb
    have HR := Lib.hid hres
    have hol := HOs.out.1
    clear hl hb hres LN B0
    by_cases hlt : i < bs.length
    · have hlti : (i : Int) < (bs.length : Int) := by omega
      obtain ⟨g, o, eA, -, hc⟩ := (HS.out.below HW.out).one i hlt
      subst eA
      have hob := HBL.out bs[i] (List.getElem_mem _)
      have hos := HOs.out.2 i hlt (by omega)
      have ht := tellS_at Os i (by omega)
      obtain ⟨c1, w2, hcv, hh, hcc, hbw⟩ := conv_str bs[i] wr
      have PG := Lib.hid (refPage_any _ c1 bs[i] w2 hh hcc hob.1 hob.2)
      have HOS := Lib.hid hos
      have HT := Lib.hid ht
      have HL2 := Lib.hid (HL.out.below hbw)
      have HW2 := Lib.hid (below_next HW.out hbw)
      clear hh hcc hbw hos ht HL HW hob
      go_wp2_with fail
      refine PG.out.mono ?_
      rintro e w3 ⟨hb3, ⟨L, v, rfl, hp, hr⟩ | ⟨hno, rfl⟩⟩
      · obtain ⟨ho1, ho2⟩ : Os[i].1 = 0 ∧ Os[i].2 = L := by
          rcases HOS.out with ⟨h0, hp'⟩ | ⟨-, hno⟩
          · exact ⟨h0, Pag.isPage_unique hp' hp (HBL.out bs[i] (List.getElem_mem _)).2⟩
          · exact absurd hp (hno _)
        have hfew := hp.few
        have hfit := hp.fit
        have hob2 := (HBL.out bs[i] (List.getElem_mem _)).2
        have hres2 := HR.out
        rw [HT.out, if_pos ho1, ho2, restK_zero] at hres2
        obtain ⟨T, hT⟩ : ∃ T, tellS (Os.drop (i + 1)) = T := ⟨_, rfl⟩
        rw [hT] at hres2
        have HTT := Lib.hid hT
        have HRK := Lib.hid hres2
        have HW3 := Lib.hid (below_next HW2.out hb3)
        have HL3 := Lib.hid (HL2.out.below hb3)
        obtain ⟨A', c', rfl, -, -⟩ := hr.asStrs
        rw [strL_len] at hr ⊢
        have HSR := Lib.hid hr
        clear ho1 ho2 hp hr hT hres2 hb3 HR HT HL2 HW2 PG HOS hol hcv hc
        go_wp2_with fail
        go_loopg [4, 5, 6, 10] (L.length + 1) (fun j s4 s5 s6 s10 wr => ∃ (k : Nat) (l : List (List UInt8)) (q : List UInt8) (wh : Bool), k ≤ L.length ∧ L.length < k + j ∧ s10 = .int .i64 (k : Nat) ∧ LRo wr w.heap.size s4 l ∧ s5 = .string ⟨q.toArray⟩ ∧ s6 = .bool (!wh) ∧ resS Os = resF (l, q, wh) (restK L k T) ∧ l.length ≤ 250 * i + k ∧ q.length ≤ 1024 * i + used (L.take k) ∧ Below w.heap.size w wr ∧ SRow wr w2.heap.size (.slice A' L.length c') (strL L))
        case atStart => exact ⟨0, l, q, wh, by omega, by omega, rfl, HL3.out, rfl, rfl, HRK.out, by omega, by omega, HW3.out, HSR.out⟩
        case round =>
          clear hll hql HL3 HRK HSR HW3
          obtain ⟨k, l, q, wh, hk, hkj, rfl, hl, rfl, rfl, hres, hll, hql, hbk, hsr⟩ := hrel
          have HSR := Lib.hid hsr
          have HL := Lib.hid hl
          have HBK := Lib.hid hbk
          have HR := Lib.hid hres
          clear hl hbk hres hsr
          by_cases hkl : k < L.length
          · have hkli : (k : Int) < (L.length : Int) := by omega
            obtain ⟨g5, o5, e5, -, hc5⟩ := (HSR.out.strs).one k hkl
            subst e5
            have hu1 := Pag.used_at L k hkl
            have hu2 := Pag.used_take_succ L k hkl
            have hbad := restK_bad L k T hkl
            have hgood := restK_ok L k T hkl
            generalize hpk : L[k] = p at *
            cases p with
            | nil =>
              have h7 := HR.out
              rw [hbad (by simp [tellK])] at h7
              have H7 := Lib.hid h7
              have HB3 := Lib.hid HBK.out
              clear h7 hbad hgood hu1 hu2
              go_wp2_with fail
              go_ret2
              exact ⟨HB3.out, .inr ⟨by rw [H7.out]; rfl, _, rfl⟩⟩
            | cons x r =>
              have i0 := fun W => Pag.run_index_str (x :: r) 0 0 rfl (by simp) W
              simp only [List.getElem_cons_zero] at i0
              have x1 := x.toNat_lt
              have hadd : (⟨q.toArray⟩ : ByteArray) ++ (⟨(x :: r).toArray⟩ : ByteArray).extract 1 (r.length + 1) = ⟨(q ++ r).toArray⟩ := by have := add_str q (x :: r); rwa [Pag.bsize] at this
              have hln : (x :: r).length = r.length + 1 := rfl
              rw [hln] at hu1 hu2
              by_cases hx1 : 1 < x.toNat
              · have hx1i : (1 : Int) < (x.toNat : Int) := by omega
                have h7 := HR.out
                have h0 : ¬ x = 0 := fun e => by rw [e] at hx1; simp at hx1
                have h1 : ¬ x = 1 := fun e => by rw [e] at hx1; simp at hx1
                rw [hbad (by simp [tellK, h0, h1])] at h7
                have H7 : Hid (resS Os = (7, [])) := Lib.hid (h7.trans (by simp [tellK, h0, h1]))
                have HB3 := Lib.hid HBK.out
                clear h7 hbad hgood hu1 hu2 h0 h1 hadd
                generalize x.toNat = y at *
                go_wp2_with fail
                go_ret2
                exact ⟨HB3.out, .inr ⟨by rw [H7.out], _, rfl⟩⟩
              · have hx1i : ¬ (1 : Int) < (x.toNat : Int) := by omega
                obtain ⟨rr, hrr⟩ : ∃ rr, q ++ r = rr := ⟨_, rfl⟩
                have hrl : rr.length = q.length + r.length := by rw [← hrr, List.length_append]
                rw [hrr] at hadd
                have hu3 : used (L.take k) + (r.length + 1) = used (L.take (k + 1)) := by omega
                have hsz1 : (⟨q.toArray⟩ : ByteArray).size = q.length := Pag.bsize q
                by_cases hx0 : x = 0
                · subst hx0
                  have h0 := HR.out
                  rw [hgood (by simp [tellK])] at h0
                  have H0 : Hid (resS Os = resF (l ++ [rr], [], true) (restK L (k + 1) T)) := Lib.hid (by rw [← hrr]; exact h0)
                  obtain ⟨c6, W6, hcv, hh6, -, hb6⟩ := conv_str rr wr
                  have hbw6 := below_next HBK.out hb6
                  have hL6 := HL.out.below hb6
                  obtain ⟨v', w7, hap, hr7, hg7⟩ := hL6.push hbw6.size (by omega) _ c6 rr hh6 (.inr fun a e hh => by
                    have := (HL.out.block _ hh).2
                    cases e
                    simp at this)
                  have hba := (Below.refl W6.heap.size W6).alloc (Nat.le_refl _) (.cells #[.slice (some ⟨wr.heap.size, 0, none⟩) rr.length c6] 35)
                  have hb7 := below_grown (below_next hbw6 hba) hg7 (fun k hk => (HL.out.block _ hk).1)
                  have hs7 : SRow w7 w2.heap.size (.slice (some ⟨g5, o5, none⟩) L.length c') (strL L) := ((HSR.out.below hb6).below hba).of_heap fun k hk => by
                    obtain ⟨cur, hc⟩ := row_kind ((HSR.out.below hb6).below hba) hk
                    refine hg7.block k (Array.getElem?_eq_some_iff.1 hc).1 fun e => ?_
                    obtain ⟨ys, -, ho, -⟩ := (hL6.below hba).rows
                    obtain ⟨cur', hc'⟩ := row_kind ho e.symm
                    rw [hc] at hc'
                    simp at hc'
                  have HAP := Lib.hid hap
                  have HN := Lib.hid (And.intro hr7 (And.intro hb7 hs7))
                  have HLQ : Hid ((l ++ [rr]).length ≤ 250 * i + (k + 1)) := Lib.hid (by simp; omega)
                  have hcv' := hcv
                  clear hrl h0 hh6 hb6 hbw6 hL6 hap hr7 hg7 hba hb7 hs7 hbad hgood hrr HR
                  go_wp2_with (at_builtin; refine Lib.wpList_append_run _ rfl (.tmp 63) (.tmp 66) 22 22 rfl _ _ rfl rfl _ _ HAP.out ?_)
                  go_roundg (L.length - k)
                  case measure => omega
                  case rel =>
                    obtain ⟨n1, n2, n3⟩ := HN.out
                    exact ⟨k + 1, _, [], true, by omega, by omega, by go_num, n1, rfl, rfl, H0.out, HLQ.out, by simp, n2, n3⟩
                · have hx1e : x = 1 := by
                    have h1 : x.toNat ≠ 0 := fun e => hx0 (UInt8.toNat_inj.1 (by simpa using e))
                    exact UInt8.toNat_inj.1 (by simp; omega)
                  subst hx1e
                  have h0 := HR.out
                  rw [hgood (by simp [tellK])] at h0
                  have H0 : Hid (resS Os = resF (l, rr, false) (restK L (k + 1) T)) := Lib.hid (by rw [← hrr]; exact h0)
                  have HQ : Hid (rr.length ≤ 1024 * i + used (L.take (k + 1))) := Lib.hid (by omega)
                  clear hrl h0 hbad hgood hrr HR hx0
                  go_wp2_with fail
                  go_roundg (L.length - k)
                  case measure => omega
                  case rel => exact ⟨k + 1, l, rr, false, by omega, by omega, by go_num, HL.out, rfl, rfl, H0.out, by omega, HQ.out, HBK.out, HSR.out⟩
          · have hge : ¬ (k : Int) < (L.length : Int) := by omega
            have hfin := HR.out
            rw [restK_end L k T (by omega), ← HTT.out] at hfin
            have HF := Lib.hid hfin
            have HBE := Lib.hid HBK.out
            have hut : L.take k = L := List.take_of_length_le (by omega)
            rw [hut] at hql
            have HLN := Lib.hid (And.intro hll hql)
            clear hfin HR hut hll hql
            go_wp2_with fail
            go_roundg (bs.length - i)
            case measure => omega
            case rel =>
              obtain ⟨hll, hql⟩ := HLN.out
              exact ⟨i + 1, l, q, wh, by omega, by omega, by go_num, HL.out, rfl, rfl, HF.out, by omega, by omega, HBE.out⟩
      · have h7 : (resS Os).1 = 7 := by
          rcases HOS.out with ⟨-, hp⟩ | ⟨h7, -⟩
          · exact absurd hp (hno _)
          · rw [HR.out, HT.out, if_neg (by omega)]
            show (if (Os[i].1 = 0) then _ else (Os[i].1, _)).1 = 7
            rw [if_neg (by omega)]
            exact h7
        have H7 := Lib.hid h7
        have HB3 := Lib.hid (below_next HW2.out hb3)
        clear hno hb3 h7 PG
        go_wp2_with fail
        go_ret2
        exact ⟨HB3.out, .inr ⟨H7.out, _, rfl⟩⟩
    · have hge : ¬ (i : Int) < (bs.length : Int) := by omega
      have hfin := HR.out
      rw [List.drop_of_length_le (by omega)] at hfin
      cases wh with
      | true =>
        have HF := Lib.hid (show resS Os = (0, l) from hfin)
        clear hfin HR
        go_wp2_with fail
        go_ret2
        rw [HF.out]
        exact ⟨HW.out, .inl ⟨rfl, _, rfl, HL.out⟩⟩
      | false =>
        have HF := Lib.hid (show resS Os = (7, []) from hfin)
        clear hfin HR
        go_wp2_with fail
        go_ret2
        rw [HF.out]
        exact ⟨HW.out, .inr ⟨rfl, _, rfl⟩⟩
end Go.Proofs.Ytlkkfnimealbkaa
