/- Write. -/
import Derived.Test.YtlkkfnimealbkaaNI0
namespace Go.Proofs.Ytlkkfnimealbkaa
open Go.RowKit
open Pag (Pg PgAt)
set_option linter.unusedVariables false
theorem swrite_nil (fr tt : Int) (A : Option Addr) (m c : Nat) (w : World) : Calls Try.prog 10 #[.pointer none, .int .i64 fr, .int .i64 tt, .slice A m c] w fun e w' => e = .returned (.tuple #[.int .i64 0, .int .i64 2]) ∧ w = w' := by
  go_enter Try.func10, Try.ntmps10
  go_wp2_with fail
  go_ret2
  exact ⟨rfl, rfl⟩
theorem OwnD.sectorsA {w0 w : World} {p : Nat} {m : Mod} (h : OwnD w0 w p m) : Calls Try.prog 22 #[.pointer (some ⟨p, 0, none⟩)] w fun e w' => e = .returned (.int .i64 (m.n : Nat)) ∧ w' = w := by
  obtain ⟨F, h1, h2, h3⟩ := h
  exact h1.sectors
theorem OwnD.sizeA {w0 w : World} {p : Nat} {m : Mod} (h : OwnD w0 w p m) : Calls Try.prog 24 #[.pointer (some ⟨p, 0, none⟩)] w fun e w' => e = .returned (.int .i64 (m.size : Nat)) ∧ w' = w := by
  obtain ⟨F, h1, h2, h3⟩ := h
  exact h1.size
theorem OwnD.waitsA {w0 w : World} {p : Nat} {m : Mod} (h : OwnD w0 w p m) : Calls Try.prog 12 #[.pointer (some ⟨p, 0, none⟩)] w fun e w' => e = .returned (.int .i64 (m.waits : Nat)) ∧ w' = w := by
  obtain ⟨F, h1, h2, h3⟩ := h
  exact h1.waits
theorem swrite_arg {w0 w : World} {p : Nat} {m : Mod} (h : OwnD w0 w p m) (hn : m.n ≤ 600) (fr tt : Int) (hbad : fr < 0 ∨ tt ≤ fr ∨ (m.n : Int) < tt) (A : Option Addr) (k c : Nat) : Calls Try.prog 10 #[.pointer (some ⟨p, 0, none⟩), .int .i64 fr, .int .i64 tt, .slice A k c] w fun e w' => e = .returned (.tuple #[.int .i64 0, .int .i64 1]) ∧ w = w' := by
  have SC := Lib.hid h.sectorsA
  have hni : (m.n : Int) ≤ 600 := by omega
  clear h
  by_cases h1 : fr < 0
  · clear hbad
    go_enter Try.func10, Try.ntmps10
    go_wp2_with fail
    go_ret2
    exact ⟨rfl, rfl⟩
  · by_cases h2 : tt ≤ fr
    · clear hbad
      go_enter Try.func10, Try.ntmps10
      go_wp2_with fail
      go_ret2
      exact ⟨rfl, rfl⟩
    · have h3 : (m.n : Int) < tt := by omega
      clear hbad
      go_enter Try.func10, Try.ntmps10
      go_wp2_with fail
      refine SC.out.mono ?_
      rintro e w1 ⟨rfl, rfl⟩
      go_wp2_with fail
      go_ret2
      exact ⟨rfl, rfl⟩
theorem PgsAt.still {n₀ size : Nat} {W W' : World} {v : Value} {Ps : List Pg} (h : PgsAt n₀ size W v Ps) (hs : Still W W') : PgsAt n₀ size W' v Ps :=
  h.other fun k cs t z e ht => hs.block k cs t z e (by rcases ht with rfl | rfl | rfl | rfl <;> decide) (by rcases ht with rfl | rfl | rfl | rfl <;> decide) (by rcases ht with rfl | rfl | rfl | rfl <;> decide)
set_option maxRecDepth 100000 in
set_option maxHeartbeats 2000000 in
theorem swrite_any {w0 w : World} {p : Nat} {m : Mod} (h : OwnD w0 w p m) (hl : LowS m 700) (hs1 : 64 ≤ m.size) (hs2 : m.size ≤ 1024) (hn : m.n ≤ 600) (fr tt : Nat) (hft : fr < tt) (hto : tt ≤ m.n)
    (A : Option Addr) (c : Nat) (rs : List (List UInt8)) (hR : Recs w A rs) (hrs : rs.length ≤ 1000000) (hrl : ∀ r ∈ rs, r.length ≤ 1000000) (hT : (partsL m.size rs).length ≤ 1000000000) :
    Calls Try.prog 10 #[.pointer (some ⟨p, 0, none⟩), .int .i64 (fr : Nat), .int .i64 (tt : Nat), .slice A rs.length c] w fun e w' => Still w w' ∧
      ((nPages m.size rs ≤ tt - fr ∧ ∃ m' r, wrP fr m.size 0 m (pagesOf (partsL m.size rs)) = (m', r) ∧ e = .returned (.tuple #[.int .i64 (if r = 0 then (nPages m.size rs : Nat) else 0), .int .i64 r]) ∧ OwnD w0 w' p m') ∨
       (tt - fr < nPages m.size rs ∧ e = .returned (.tuple #[.int .i64 0, .int .i64 12]) ∧ OwnD w0 w' p m)) := by
  have SC := Lib.hid h.sectorsA
  have SZ := Lib.hid h.sizeA
  have FI := Lib.hid (filled_any (w := w) m.size (tt - fr) hs1 hs2 A c rs hR hrs hrl hT (by omega))
  have HD := Lib.hid h
  have HL := Lib.hid hl
  have hni : (m.n : Int) ≤ 600 := by omega
  have hfi : (fr : Int) < (tt : Nat) := by omega
  have hti : (tt : Int) ≤ (m.n : Nat) := by omega
  have hsub : ((tt - fr : Nat) : Int) = (tt : Int) - (fr : Int) := by omega
  rw [hsub] at FI
  have HSUB := Lib.hid hsub
  clear h hl hR hrl hsub
  go_enter Try.func10, Try.ntmps10
  go_wp2_with fail
  refine SC.out.mono ?_
  rintro e w1 ⟨rfl, rfl⟩
  go_wp2_with fail
  refine SZ.out.mono ?_
  rintro e w2 ⟨rfl, rfl⟩
  go_wp2_with fail
  refine FI.out.mono ?_
  rintro e w3 ⟨hb3, ⟨v, Ps, rfl, hnp, hP, hLs⟩ | ⟨rfl, hfull⟩⟩
  · obtain ⟨AA, cap, rfl, hcap⟩ := hP.shape
    have hnL : Ps.length = nPages m.size rs := by unfold nPages; rw [← hLs, pgLs_len]
    have hpi : (Ps.length : Int) ≤ 600 := by omega
    have hpn : Ps.length ≤ tt - fr := by omega
    have OW3 := HD.out.below hb3
    have ST3 := Lib.hid (Still.of_below hb3)
    have HN := Lib.hid (And.intro hnp (And.intro hnL hLs))
    have HST := Lib.hid (And.intro hP OW3)
    clear hb3 hP OW3 hnL hnp hLs SC SZ FI HSUB
    go_wp2_with fail
    go_loopg [44] (Ps.length + 1) (fun j s44 wr => ∃ (i : Nat) (M : Mod), i ≤ Ps.length ∧ Ps.length < i + j ∧ s44 = .int .i64 (i : Nat) ∧ OwnD w0 wr p M ∧ PgsAt w2.heap.size m.size wr (.slice AA Ps.length cap) Ps ∧ Still w2 wr ∧ LowS M (700 - i) ∧ wrP fr m.size 0 m (pgLs Ps) = wrP fr m.size i M ((pgLs Ps).drop i))
    case atStart => exact ⟨0, m, Nat.zero_le _, by omega, rfl, HST.out.2, HST.out.1, ST3.out, HL.out, rfl⟩
    case round =>
      obtain ⟨i, M, hi, hj, rfl, hO, hP, hS, hLo, hEq⟩ := hrel
      clear HST ST3 HD HL
      by_cases hlt : i < Ps.length
      · have hlti : (i : Int) < (Ps.length : Int) := by omega
        obtain ⟨g, cc, e3, hg, hcc, cg⟩ := hP.at_ i hlt
        cases e3
        have hE := hP.each _ (List.getElem_mem hlt)
        have hdrop : (pgLs Ps).drop i = Ps[i].L :: (pgLs Ps).drop (i + 1) := by
          rw [List.drop_eq_getElem_cons (by rw [pgLs_len]; exact hlt)]
          simp [pgLs]
        rw [hdrop] at hEq
        have BY := Lib.hid (Pag.bytes_at hE.1)
        have hfit := hE.1.fit
        have hxl : Ps[i].L.length = Ps[i].xs.length := Pag.bbs_len _
        have hpl : (Pag.pageB m.size Ps[i].L).length = m.size := Pag.pageB_length _ _ (by rw [hxl, ← hE.2.1]; exact hfit)
        have hsz := hE.2.1
        rw [show Ps[i].ptr = .pointer (some ⟨Ps[i].p, 0, none⟩) from rfl] at cg BY
        rw [hsz] at BY
        generalize Ps[i].L = L at *
        generalize Ps[i].p = q at *
        have hlow : M.Low := (hLo.mono (by omega : 1 ≤ _)).low
        have HLN : Hid (LowS (M.write ((fr + i : Nat) : Int) (Pag.pageB m.size L)) (700 - (i + 1))) := Lib.hid ((hLo.mono (by omega)).write _ _)
        have HH := Lib.hid (And.intro hO (And.intro hP (And.intro hS hpl)))
        have HE := Lib.hid hEq
        have hfri : ((fr + i : Nat) : Int) = (fr : Int) + (i : Int) := by omega
        clear hO hP hS hpl hEq hE hdrop hLo hxl hsz hfit
        go_wp2_with fail
        refine BY.out.mono ?_
        rintro e w4 ⟨g4, rfl, hg4, hB4, hb4⟩
        obtain ⟨hO, hP, hS, hpl⟩ := HH.out
        have HPL := Lib.hid hpl
        have HS := Lib.hid hS
        have HP := Lib.hid hP
        have WR := (hO.below hb4).writeS hlow ((fr : Int) + (i : Int)) (some ⟨g4, 0, none⟩) m.size (Pag.pageB m.size L) hB4.holds0 (.inr fun a ha => .inr (by cases ha; exact ⟨_, _, hB4⟩))
        rw [hpl] at WR
        have WRH := Lib.hid WR
        have HB := Lib.hid hb4
        have HFRI := Lib.hid hfri
        clear WR hb4 hB4 BY hO hP hS hpl HH hfri
        go_wp2_with fail
        refine WRH.out.mono ?_
        rintro e w5 ⟨rfl, hO5, hS5⟩
        have hpl := HPL.out
        have heq2 := HE.out
        rw [show wrP fr m.size i M (L :: (pgLs Ps).drop (i + 1)) = if M.writeR ((fr + i : Nat) : Int) (Pag.pageB m.size L).length = 0 then wrP fr m.size (i + 1) (M.write ((fr + i : Nat) : Int) (Pag.pageB m.size L)) ((pgLs Ps).drop (i + 1)) else (M.write ((fr + i : Nat) : Int) (Pag.pageB m.size L), M.writeR ((fr + i : Nat) : Int) (Pag.pageB m.size L).length) from rfl, hpl, HFRI.out] at heq2
        rw [← HFRI.out] at hO5
        have hS := HS.out.trans ((Still.of_below HB.out).trans hS5)
        have hP := (HP.out.below HB.out).still hS5
        rw [HFRI.out] at hO5
        have HLN' := HLN.out
        rw [HFRI.out] at HLN'
        generalize M.write ((fr : Int) + (i : Int)) (Pag.pageB m.size L) = M' at *
        generalize M.writeR ((fr : Int) + (i : Int)) (m.size : Nat) = r at *
        have HR := Lib.hid (And.intro hO5 (And.intro hS (And.intro hP (And.intro heq2 HLN'))))
        clear hpl heq2 hO5 hS hP hS5 HE HLN HLN' HPL HB HS HP
        by_cases hr0 : r = 0
        · subst hr0
          go_wp2_with fail
          go_roundg (Ps.length - i)
          case measure => omega
          case rel =>
            obtain ⟨hO5, hS, hP, heq2, hlow2⟩ := HR.out
            simp only [if_true] at heq2
            exact ⟨i + 1, M', by omega, by omega, by go_num, hO5, hP, hS, hlow2, heq2⟩
        · have hrb : (r == 0) = false := by simpa using hr0
          go_wp2_with fail
          go_ret2
          obtain ⟨hO5, hS, hP, heq2, hlow2⟩ := HR.out
          rw [if_neg hr0] at heq2
          refine ⟨hS, .inl ⟨HN.out.1, M', r, by rw [← HN.out.2.2]; exact heq2, by rw [if_neg hr0]; rfl, hO5⟩⟩
      · have hge : ¬ (i : Int) < (Ps.length : Int) := by omega
        have HF := Lib.hid (And.intro hO (And.intro hS hEq))
        clear hO hP hS hLo hEq
        go_wp2_with fail
        go_ret2
        obtain ⟨hO, hS, hEq⟩ := HF.out
        rw [List.drop_of_length_le (by rw [pgLs_len]; omega)] at hEq
        refine ⟨hS, .inl ⟨HN.out.1, M, 0, by rw [← HN.out.2.2]; exact hEq, by rw [if_pos rfl, ← HN.out.2.1]; rfl, hO⟩⟩
  · have HF := Lib.hid (And.intro hb3 hfull)
    clear hb3 hfull
    go_wp2_with fail
    go_ret2
    exact ⟨Still.of_below HF.out.1, .inr ⟨HF.out.2, rfl, HD.out.below HF.out.1⟩⟩
end Go.Proofs.Ytlkkfnimealbkaa
