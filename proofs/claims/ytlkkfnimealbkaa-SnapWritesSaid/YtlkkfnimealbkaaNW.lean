/- The reference's way of reading a page. -/
import Derived.Test.YtlkkfnimealbkaaNV
import Derived.BigQuiet
import Derived.Deep.RegionHeld
import Derived.Deep.RegionHeld3
namespace Go.Proofs.Ytlkkfnimealbkaa
open Go.RowKit
open Pag (IsPage refA refA_done refA_bad refA_len num2 strL strL_len used refRoom_any refBytes_any trimL pageB)
set_option linter.unusedVariables false
theorem SRow.asStrs {w : World} {base : Nat} {v : Value} {ss : List ByteArray} (h : SRow w base v ss) : ∃ A c, v = .slice A ss.length c ∧ Strs w A ss ∧ ss.length ≤ c := by
  obtain ⟨A, c, e, h1, h2⟩ := h.shape
  refine ⟨A, c, e, fun i hi => ?_, h1⟩
  obtain ⟨g, e1, -, e3, e4⟩ := h2 i hi
  exact ⟨g, 0, e1, e3, by rw [Nat.zero_add]; exact e4⟩
/-- what a part of a slice of bytes is as a string. -/
theorem Holds.cellAt {w : World} {A : Option Addr} {b : List UInt8} (h : Holds w A b) {g o : Nat} (e : A = some ⟨g, o, none⟩) (i : Nat) (hi : i < b.length) : w.cell? ⟨g, o + i, none⟩ = some (.int .u8 (b[i].toNat : Nat)) := by
  obtain ⟨g', o', e', -, hc⟩ := h i hi
  rw [e] at e'
  cases e'
  exact hc
theorem num2_at (b : List UInt8) (k : Nat) (h : k + 1 < b.length) : num2 (b.drop k) = b[k].toNat + 256 * b[k + 1].toNat := by
  unfold num2
  simp [List.getD, List.getElem?_drop, List.getElem?_eq_getElem (show k < b.length by omega), List.getElem?_eq_getElem h]
theorem refA_succ {b : List UInt8} {i : Nat} {Q : List (List UInt8)} (h : refA b i = some Q) :
    refA b (i + 1) = if b.length < num2 (b.drop (1 + 4 * i)) ∨ b.length - num2 (b.drop (1 + 4 * i)) < num2 (b.drop (1 + 4 * i + 2)) then none
        else some (Q ++ [(b.drop (num2 (b.drop (1 + 4 * i)))).take (num2 (b.drop (1 + 4 * i + 2)))]) := by
  conv => lhs; unfold refA
  rw [h]
theorem refA_up {b : List UInt8} {n : Nat} {i : Nat} (hi : i ≤ n) (h : refA b i = none) : refA b n = none := by
  obtain ⟨k, rfl⟩ : ∃ k, n = i + k := ⟨n - i, by omega⟩
  exact Pag.refA_none i k h
theorem trim_full {L : List (List UInt8)} (h : L ≠ []) (hl : L[L.length - 1]'(by have := List.length_pos_iff.2 h; omega) ≠ []) : trimL L = L := by
  have hp := List.length_pos_iff.2 h
  unfold trimL
  have e : L.length = L.length - 1 + 1 := by omega
  have : Pag.trimN L L.length = L.length := by
    rw [e, Pag.trimN_full]
    rwa [List.getD_eq_getElem?_getD, List.getElem?_eq_getElem (by omega)]
  rw [this, List.take_length]
theorem trim_less {L : List (List UInt8)} (h : L ≠ []) (hl : L[L.length - 1]'(by have := List.length_pos_iff.2 h; omega) = []) : trimL L ≠ L := fun he => by
  have hp := List.length_pos_iff.2 h
  unfold trimL at he
  have e : L.length = L.length - 1 + 1 := by omega
  have h1 : Pag.trimN L L.length ≤ L.length - 1 := by
    conv => lhs; rw [e]
    rw [Pag.trimN_empty]
    · exact Pag.trimN_le _ _
    · rw [List.getD_eq_getElem?_getD, List.getElem?_eq_getElem (by omega)]
      exact hl
  have h2 := congrArg List.length he
  rw [List.length_take] at h2
  omega
theorem refA_used {b : List UInt8} (hb : b.length ≤ 1024) : ∀ (i : Nat) (L : List (List UInt8)), refA b i = some L → used L ≤ 1024 * i
  | 0, L, h => by unfold refA at h; cases h; simp [used]
  | i + 1, L, h => by
    cases hq : refA b i with
    | none => unfold refA at h; rw [hq] at h; cases h
    | some Q =>
      rw [refA_succ hq] at h
      split at h
      · cases h
      · cases h
        have := refA_used hb i Q hq
        rw [Pag.used_append]
        simp only [used, List.length_take, List.length_drop]
        omega
theorem conv_at {W : World} {g n : Nat} {l : List UInt8} (h : BB W g l) (hl : l.length = n) (W' : World) (hb : Below W.heap.size W W') : Sem.run Try.prog (convert 35 9 (.slice (some ⟨g, 0, none⟩) n n)) W' = .ok (.string ⟨l.toArray⟩) W' := by
  have := conv_bytes (h.below hb).holds0 n
  rwa [hl] at this
theorem wpAnyH_weaken {P : Program} {md : Region.Mode} {ops : Array Oper} {Q : Exit → Act → World → Prop} {S S' : World → Prop} (hs : ∀ w, S' w → S w) : ∀ (fuel : Nat) (listed : Array Bool) (a : Act) (w : World), wpAnyH P md ops Q S' fuel listed a w → wpAnyH P md ops Q S fuel listed a w
  | 0, _, _, _, h => h
  | fuel + 1, _, _, _, h => ⟨h.1, fun i hi => wpOp_mono (fun _ w' h' => ⟨hs w' h'.1, wpAnyH_weaken hs fuel _ _ _ h'.2⟩) (h.2 i hi)⟩
set_option maxRecDepth 100000 in
set_option maxHeartbeats 2000000 in
theorem refPage_any (A : Option Addr) (c : Nat) (b : List UInt8) (w : World) (hA : Holds w A b) (hc : b.length ≤ c) (h1 : 64 ≤ b.length) (h2 : b.length ≤ 1024) :
    Calls Try.prog 32 #[.slice A b.length c] w fun e w' => Below w.heap.size w w' ∧
      ((∃ L v, e = .returned (.tuple #[v, .bool true]) ∧ IsPage b L ∧ SRow w' w.heap.size v (strL L)) ∨ ((∀ M, ¬ IsPage b M) ∧ e = .returned (.tuple #[.slice none 0 0, .bool false]))) := by
  obtain ⟨g, o, eA, hg, c0⟩ := hA 0 (by omega)
  subst eA
  have HC := Lib.hid fun W (hb : Below w.heap.size w W) i hi => (hA.below hb).cellAt rfl i hi
  have HAH := Lib.hid hA
  have hpos : 0 < b.length := by omega
  have hn : b[0].toNat ≤ 255 := by have := b[0].toNat_lt; omega
  have h0 : b.head? = some (UInt8.ofNat b[0].toNat) := by
    rw [UInt8.ofNat_toNat, List.head?_eq_getElem?, List.getElem?_eq_getElem (by omega)]
  have hD := Lib.hid fun (hl : b[0].toNat ≤ 250) L (hh : refA b b[0].toNat = some L) => refA_done (n := b[0].toNat) hl h2 h0 hh
  have hB := Lib.hid fun (hh : 250 < b[0].toNat ∨ b.length < 1 + 4 * b[0].toNat ∨ refA b b[0].toNat = none) => refA_bad hn h2 h0 hh
  have l0 : (0 : Int) < (b.length : Int) := by omega
  have l1 : ¬ (b.length : Int) < 64 := by omega
  have l2 : ¬ 1024 < (b.length : Int) := by omega
  simp only [Nat.add_zero] at c0
  obtain ⟨n, hne⟩ : ∃ n, b[0].toNat = n := ⟨_, rfl⟩
  rw [hne] at hn hD hB c0
  have HNE := Lib.hid hne
  have BW := Lib.hid (Below.refl w.heap.size w)
  clear hA h0 hne
  by_cases hn2 : 250 < n
  · have hni : (250 : Int) < (n : Int) := by omega
    have HBB := Lib.hid (hB.out (.inl hn2))
    clear hB hD HC HAH
    go_enter Try.func32, Try.ntmps32
    go_wp2_with fail
    go_ret2
    exact ⟨BW.out, .inr ⟨HBB.out, rfl⟩⟩
  have hni : ¬ (250 : Int) < (n : Int) := by omega
  by_cases hn3 : b.length < 1 + 4 * n
  · have hni3 : (b.length : Int) < 1 + 4 * (n : Int) := by omega
    have HBB := Lib.hid (hB.out (.inr (.inl hn3)))
    clear hB hD HC HAH
    go_enter Try.func32, Try.ntmps32
    go_wp2_with fail
    go_ret2
    exact ⟨BW.out, .inr ⟨HBB.out, rfl⟩⟩
  have hni3 : ¬ (b.length : Int) < 1 + 4 * (n : Int) := by omega
  have SN := Lib.hid (SRow.new w)
  have B0 := Lib.hid ((Below.refl w.heap.size w).alloc (Nat.le_refl _) (.cells #[] 9))
  have HD := Lib.hid fun L => hD.out (by omega) L
  have HR0 : Hid (refA b 0 = some []) := Lib.hid (by simp [refA])
  clear hD BW
  go_enter Try.func32, Try.ntmps32
  go_wp2_with fail
  generalize w.alloc (.cells #[] 9) = w1 at *
  go_loopg [4, 5, 6, 7] (n + 1) (fun j s4 s5 s6 s7 wr => ∃ (i : Nat) (Q : List (List UInt8)), i ≤ n ∧ n < i + j ∧ s5 = .int .i64 (i : Nat) ∧ refA b i = some Q ∧ SRow wr w.heap.size s4 (strL Q) ∧ Below w.heap.size w wr)
  case atStart => exact ⟨0, [], by omega, by omega, rfl, HR0.out, SN.out, B0.out⟩
  case round =>
    obtain ⟨i, Q, hi, hj, rfl, hq, hr, hb⟩ := hrel
    have HR := Lib.hid hr
    have HW := Lib.hid hb
    have HQ := Lib.hid hq
    have hql := refA_len i Q hq
    have cz := HC.out wr hb 0 (by omega)
    simp only [Nat.add_zero] at cz
    rw [HNE.out] at cz
    clear hr hb hq SN B0 HR0
    by_cases hlt : i < n
    · have hlti : (i : Int) < (n : Int) := by omega
      have ca := HC.out wr HW.out (1 + 4 * i) (by omega)
      have cb := HC.out wr HW.out (2 + 4 * i) (by omega)
      have cc := HC.out wr HW.out (3 + 4 * i) (by omega)
      have cd := HC.out wr HW.out (4 + 4 * i) (by omega)
      have e1 := num2_at b (1 + 4 * i) (by omega)
      have e2 := num2_at b (1 + 4 * i + 2) (by omega)
      have hs := refA_succ HQ.out
      simp only [show 1 + 4 * i + 1 = 2 + 4 * i by omega, show 3 + 4 * i + 1 = 4 + 4 * i by omega, show 1 + 4 * i + 2 = 3 + 4 * i by omega] at e1 e2 hs
      have x1 := b[1 + 4 * i].toNat_lt
      have x2 := b[2 + 4 * i].toNat_lt
      have x3 := b[3 + 4 * i].toNat_lt
      have x4 := b[4 + 4 * i].toNat_lt
      generalize b[1 + 4 * i].toNat = y1 at *
      generalize b[2 + 4 * i].toNat = y2 at *
      generalize b[3 + 4 * i].toNat = y3 at *
      generalize b[4 + 4 * i].toNat = y4 at *
      have f1 : (1 + 4 * (i : Int)) < (b.length : Int) := by omega
      have f2 : (2 + 4 * (i : Int)) < (b.length : Int) := by omega
      have f3 : (3 + 4 * (i : Int)) < (b.length : Int) := by omega
      have f4 : (4 + 4 * (i : Int)) < (b.length : Int) := by omega
      have HSU := Lib.hid hs
      have E1 := Lib.hid e1
      have E2 := Lib.hid e2
      clear hs e1 e2
      obtain ⟨at_, hat⟩ : ∃ a, y1 + 256 * y2 = a := ⟨_, rfl⟩
      obtain ⟨m, hm⟩ : ∃ a, y3 + 256 * y4 = a := ⟨_, rfl⟩
      have hati : (y1 : Int) + 256 * (y2 : Int) = (at_ : Nat) := by omega
      have hmi : (y3 : Int) + 256 * (y4 : Int) = (m : Nat) := by omega
      have HATI := Lib.hid hati
      have HMI := Lib.hid hmi
      have E1' : Hid (num2 (b.drop (1 + 4 * i)) = at_) := Lib.hid (E1.out.trans hat)
      have E2' : Hid (num2 (b.drop (3 + 4 * i)) = m) := Lib.hid (E2.out.trans hm)
      have hs2 := HSU.out
      rw [E1'.out, E2'.out] at hs2
      have HS2 := Lib.hid hs2
      have hatb : at_ ≤ 65536 := by omega
      have hmb : m ≤ 65536 := by omega
      clear hati hmi hat hm hs2 E1 E2 HSU
      go_wp2_with fail
      go_quiet (fail)
      rw [HATI.out]
      have HW1 : Hid (Below w.heap.size w (wr.drewN nq)) := Lib.hid (below_drewN HW.out _)
      have HR1 : Hid (SRow (wr.drewN nq) w.heap.size u4 (strL Q)) := Lib.hid (HR.out.below (below_drewN (Below.refl _ _) _))
      have cc1 : (wr.drewN nq).cell? ⟨g, o + (3 + 4 * i), none⟩ = _ := cc
      have cd1 : (wr.drewN nq).cell? ⟨g, o + (4 + 4 * i), none⟩ = _ := cd
      clear ca cb cc cd cz c0 HW HR HATI f1 f2
      generalize wr.drewN nq = W1 at *
      go_wp2_with fail
      go_quiet (fail)
      rw [HMI.out]
      have HW2 : Hid (Below w.heap.size w (W1.drewN nq)) := Lib.hid (below_drewN HW1.out _)
      have HR2 : Hid (SRow (W1.drewN nq) w.heap.size u4 (strL Q)) := Lib.hid (HR1.out.below (below_drewN (Below.refl _ _) _))
      clear cc1 cd1 HW1 HR1 HMI f3 f4 x1 x2 x3 x4
      generalize W1.drewN nq = W2 at *
      by_cases hbig : b.length < at_
      · have hbi : (b.length : Int) < (at_ : Int) := by omega
        have hno := HS2.out
        rw [if_pos (.inl hbig)] at hno
        have HBB := Lib.hid (hB.out (.inr (.inr (refA_up (by omega) hno))))
        clear hno HS2
        go_wp2_with fail
        go_ret2
        exact ⟨HW2.out, .inr ⟨HBB.out, rfl⟩⟩
      have hbi : ¬ (b.length : Int) < (at_ : Int) := by omega
      by_cases hbm : b.length - at_ < m
      · have hmi : (b.length : Int) - (at_ : Int) < (m : Int) := by omega
        have hno := HS2.out
        rw [if_pos (.inr hbm)] at hno
        have HBB := Lib.hid (hB.out (.inr (.inr (refA_up (by omega) hno))))
        clear hno HS2
        go_wp2_with fail
        go_ret2
        exact ⟨HW2.out, .inr ⟨HBB.out, rfl⟩⟩
      have hmi : ¬ (b.length : Int) - (at_ : Int) < (m : Int) := by omega
      have hyes := HS2.out
      rw [if_neg (by omega)] at hyes
      obtain ⟨q, hqe⟩ : ∃ q, (b.drop at_).take m = q := ⟨_, rfl⟩
      rw [hqe] at hyes
      have hqm : q.length = m := by rw [← hqe, List.length_take, List.length_drop]; omega
      have hHq : Holds W2 (if c = at_ then some ⟨g, o, none⟩ else some ⟨g, o + at_, none⟩) q := by
        have := (((HAH.out.below HW2.out).drop at_ c hc).take m)
        rw [hqe] at this
        simpa [Addr.add_lit] using this
      have CV := conv_bytes hHq (c - at_)
      rw [hqm] at CV
      have hbs2 := HW2.out.size
      obtain ⟨v', w6, hap, hr6, hg6⟩ := append_str HR2.out ⟨q.toArray⟩ (by rw [strL_len]; omega) hbs2
      have B6 := Lib.hid (below_grown (HW2.out.alloc hbs2 _) hg6 (fun b hb => (HR2.out.block b hb).1))
      have HAP := Lib.hid hap
      have R6 : Hid (SRow w6 w.heap.size v' (strL (Q ++ [q]))) := Lib.hid (by rw [show strL (Q ++ [q]) = strL Q ++ [⟨q.toArray⟩] by simp [strL]]; exact hr6)
      have HY := Lib.hid hyes
      clear hap hr6 hg6 hbs2 hHq hyes HS2
      have hle1 : (at_ : Int) ≤ (at_ : Int) + (m : Int) := by omega
      have hle2 : (at_ : Int) + (m : Int) ≤ (c : Int) := by omega
      by_cases hca : c = at_
      · have hcT : (c = at_) = True := eq_true hca
        rw [if_pos hca] at CV
        have HCA := Lib.hid hca
        clear hca
        go_wp2_with (at_builtin; refine Lib.wpList_append_run _ rfl (.tmp 86) (.tmp 94) 39 39 rfl _ _ rfl rfl _ _ HAP.out ?_)
        go_roundg (n - i)
        case measure => omega
        case rel => exact ⟨i + 1, _, by omega, by omega, by go_num, HY.out, R6.out, B6.out⟩
      · have hcF : (c = at_) = False := eq_false hca
        rw [if_neg hca] at CV
        go_wp2_with (at_builtin; refine Lib.wpList_append_run _ rfl (.tmp 86) (.tmp 94) 39 39 rfl _ _ rfl rfl _ _ HAP.out ?_)
        go_roundg (n - i)
        case measure => omega
        case rel => exact ⟨i + 1, _, by omega, by omega, by go_num, HY.out, R6.out, B6.out⟩
    · have hin : i = n := by omega
      have hge : ¬ (i : Int) < (n : Int) := by omega
      subst hin
      have hul := refA_used h2 i Q HQ.out
      obtain ⟨A', c', e4, hS, hlc⟩ := HR.out.asStrs
      rw [strL_len] at e4 hlc
      obtain ⟨D1, D2⟩ := HD.out Q HQ.out
      obtain ⟨r, hr⟩ : ∃ r : Int, (b.length : Int) - 1 - 4 * (Q.length : Int) - (used Q : Nat) = r := ⟨_, rfl⟩
      have RM := refRoom_any A' c' Q b.length wr hS h2 (by omega) (by omega)
      rw [hr] at RM
      have hRK : ∀ k, Calls Try.prog 26 #[.slice A' Q.length c', .int .i64 (b.length : Nat)] (wr.drewN k) fun e w' => e = .returned (.int .i64 r) ∧ w' = wr.drewN k := fun k => by
        have := refRoom_any A' c' Q b.length (wr.drewN k) (hS.below (below_drewN (Below.refl _ _) _)) h2 (by omega) (by omega)
        rw [hr] at this
        exact this.mono fun e w' hh => ⟨hh.1, hh.2.symm⟩
      have hRB : ∀ W, Below wr.heap.size wr W → Calls Try.prog 26 #[.slice A' Q.length c', .int .i64 (b.length : Nat)] W fun e w' => e = .returned (.int .i64 r) ∧ W = w' := fun W hb => by
        have := refRoom_any A' c' Q b.length W (hS.below hb) h2 (by omega) (by omega)
        rw [hr] at this
        exact this
      have RK := Lib.hid hRK
      have RMH := Lib.hid hRB
      clear hRK hRB
      have DH := Lib.hid D1
      have DH2 := Lib.hid D2
      subst e4
      have HS := Lib.hid hS
      have BY := Lib.hid fun (hf : 1 + 4 * Q.length + used Q ≤ b.length) W (hb : Below wr.heap.size wr W) => refBytes_any A' c' Q b.length W (hS.below hb) h1 h2 (by omega) hf
      clear D1 D2 RM hS hql
      by_cases hr0 : r < 0
      · have HBB : Hid (∀ M, ¬ IsPage b M) := Lib.hid fun M hM => by have := (DH2.out M hM).1; omega
        have hd : decide (r < 0) = true := decide_eq_true hr0
        clear hr DH DH2 BY HS
        go_wp2_with fail
        go_quiet ((go_at_call 26; exact Calls.quiet_of_same (RK.out _)))
        go_wp2_with fail
        go_ret2
        exact ⟨below_drewN HW.out _, .inr ⟨HBB.out, rfl⟩⟩
      · have hd : decide (r < 0) = false := decide_eq_false hr0
        have hfit : 1 + 4 * Q.length + used Q ≤ b.length := by omega
        have hbb : ∀ W, Below wr.heap.size wr W → Sem.run Try.prog (convert 35 9 (.slice (some ⟨g, o, none⟩) b.length c)) W = .ok (.string ⟨b.toArray⟩) W := fun W hb => conv_bytes (HAH.out.below (below_next HW.out hb)) c
        obtain ⟨pb, hpb⟩ : ∃ pb, pageB b.length Q = pb := ⟨_, rfl⟩
        have BY0 : ∀ W, Below wr.heap.size wr W → Calls Try.prog 14 #[.slice A' Q.length c', .int .i64 (b.length : Nat)] W fun e w' => ∃ g, e = .returned (.slice (some ⟨g, 0, none⟩) b.length b.length) ∧ Below wr.heap.size wr w' ∧ ∀ W', Below w'.heap.size w' W' → Sem.run Try.prog (convert 35 9 (.slice (some ⟨g, 0, none⟩) b.length b.length)) W' = .ok (.string ⟨pb.toArray⟩) W' := fun W hb => by
          refine (BY.out hfit W hb).mono ?_
          rintro e w' ⟨g', rfl, hg', hB', hb'⟩
          rw [hpb] at hB'
          exact ⟨g', rfl, hb.trans (hb'.mono hb.size), fun W' hW' => conv_at hB' (by rw [← hpb]; exact Pag.pageB_length _ _ hfit) W' hW'⟩
        have RM0 : ∀ W, Below wr.heap.size wr W → Calls Try.prog 26 #[.slice A' Q.length c', .int .i64 (b.length : Nat)] W fun e w' => e = .returned (.int .i64 r) ∧ Below wr.heap.size wr w' := fun W hb => (RMH.out W hb).mono (by rintro e w' ⟨rfl, rfl⟩; exact ⟨rfl, hb⟩)
        have DHF : Hid ((trimL Q = Q → pb = b → IsPage b Q) ∧ ∀ M, IsPage b M → trimL Q = Q ∧ pb = b) := Lib.hid ⟨fun t1 t2 => DH.out hfit t1 (hpb.trans t2), fun M hM => by
          have := DH2.out M hM
          rw [hpb] at this
          exact this.2⟩
        obtain ⟨cm, hcm⟩ : ∃ cm : Bool, (!(pb == b)) = cm := ⟨_, rfl⟩
        have HCM := Lib.hid hcm
        have HCM2 : Hid ((pb == b) = !cm) := Lib.hid (by rw [← hcm]; simp)
        have B0 : Below wr.heap.size wr wr.drew := (Below.refl _ _).drew
        replace BY := Lib.hid BY0
        have RM := Lib.hid RM0
        have CB := Lib.hid hbb
        have HF := Lib.hid hfit
        clear hcm hr BY0 RM0 hbb RMH RK DH DH2 hpb HD hB HAH HNE HC hge hul hfit
        by_cases hql0 : Q.length = 0
        · have hq0i : ¬ (0 : Int) < (Q.length : Int) := by omega
          have hQ0 : trimL Q = Q := by rw [List.eq_nil_of_length_eq_zero hql0]; rfl
          have HQ0 := Lib.hid hQ0
          have HQN := Lib.hid (List.eq_nil_of_length_eq_zero hql0)
          clear hql0 hQ0
          go_wp2_with fail
          refine wp_region_held_drew (S := fun W => Below wr.heap.size wr W) (by kernel_rfl) B0 (fun _ => ?_)
          refine wpAnyH_take (i := 0) (oi := { dst := some 96, op := Op.move (Operand.tmp 4), type := 39, pos := "ref.go:48", after := #[], guard := none }) (v := ?_) rfl (by kernel_rfl) (by kernel_rfl) (by kernel_rfl) (fun _ _ _ h => h) (Or.inl ⟨by rfl, ?_⟩) B0 ?_
          rotate_left
          · (intro W hw; go_simp; try with_reducible rfl)
          simp only [Act.put, List.setIfInBounds_toArray, List.set_cons_zero, List.set_cons_succ]
          refine wpAnyH_take (i := 1) (oi := { dst := some 97, op := Op.move (Operand.tmp 0), type := 35, pos := "ref.go:48", after := #[], guard := none }) (v := ?_) rfl (by kernel_rfl) (by kernel_rfl) (by kernel_rfl) (fun _ _ _ h => h) (Or.inl ⟨by rfl, ?_⟩) B0 ?_
          rotate_left
          · (intro W hw; go_simp; try with_reducible rfl)
          simp only [Act.put, List.setIfInBounds_toArray, List.set_cons_zero, List.set_cons_succ]
          refine wpAnyH_take (i := 2) (oi := { dst := some 98, op := Op.call { callee := Callee.builtin Builtin.len, args := #[Operand.tmp 97], argTypes := #[35] }, type := 3, pos := "ref.go:48", after := #[{ on := 1, ground := Ground.data }], guard := none }) (v := ?_) rfl (by kernel_rfl) (by kernel_rfl) (by kernel_rfl) (fun _ _ _ h => h) (Or.inl ⟨by rfl, ?_⟩) B0 ?_
          rotate_left
          · (intro W hw; go_simp; try with_reducible rfl)
          simp only [Act.put, List.setIfInBounds_toArray, List.set_cons_zero, List.set_cons_succ]
          refine wpAnyH_ready (rs := [3]) (by kernel_rfl) (by simp) ?_
          refine AllReadyH.cons (o := { dst := some 99, op := Op.call { callee := Callee.value (Operand.func 26), args := #[Operand.tmp 96, Operand.tmp 98], argTypes := #[39, 3] }, type := 3, pos := "ref.go:48", after := #[{ on := 0, ground := Ground.data }, { on := 2, ground := Ground.data }], guard := none }) rfl (fun K hK => ?_) AllReadyH.nil
          go_simp
          with_reducible refine (RM.out _ B0).mono ?_
          rintro e w1 ⟨rfl, b1⟩
          go_wp2_with fail
          refine hK.out _ _ b1 (fun _ => ?_)
          clear hK K
          try simp only [Act.put, List.setIfInBounds_toArray, List.set_cons_zero, List.set_cons_succ]
          refine wpAnyH_take (i := 4) (oi := { dst := some 100, op := Op.binOp BinOp.lss 3 (Operand.tmp 99) (Operand.const (Value.int IntKind.i64 0)) 3, type := 4, pos := "ref.go:48", after := #[{ on := 3, ground := Ground.data }], guard := none }) (v := .bool false) rfl (by kernel_rfl) (by kernel_rfl) (by kernel_rfl) (fun _ _ _ h => h) (Or.inl ⟨by rfl, ?_⟩) b1 ?_
          · (intro W hw; go_simp; try with_reducible rfl)
          simp only [Act.put, List.setIfInBounds_toArray, List.set_cons_zero, List.set_cons_succ]
          refine wpAnyH_take (i := 5) (oi := { dst := some 101, op := Op.move (Operand.tmp 100), type := 4, pos := "ref.go:48", after := #[{ on := 4, ground := Ground.data }, { on := 3, ground := Ground.chain }], guard := none }) (v := .bool false) rfl (by kernel_rfl) (by kernel_rfl) (by kernel_rfl) (fun _ _ _ h => h) (Or.inl ⟨by rfl, ?_⟩) b1 ?_
          · (intro W hw; go_simp; try with_reducible rfl)
          simp only [Act.put, List.setIfInBounds_toArray, List.set_cons_zero, List.set_cons_succ]
          refine wpAnyH_take (i := 6) (oi := { dst := some 102, op := Op.move (Operand.tmp 4), type := 39, pos := "ref.go:48", after := #[{ on := 5, ground := Ground.guard }], guard := some (5, false) }) (v := ?_) rfl (by kernel_rfl) (by kernel_rfl) (by kernel_rfl) (fun _ _ _ h => h) (Or.inl ⟨by rfl, ?_⟩) b1 ?_
          rotate_left
          · (intro W hw; go_simp; try with_reducible rfl)
          simp only [Act.put, List.setIfInBounds_toArray, List.set_cons_zero, List.set_cons_succ]
          refine wpAnyH_take (i := 7) (oi := { dst := some 103, op := Op.call { callee := Callee.builtin Builtin.len, args := #[Operand.tmp 102], argTypes := #[39] }, type := 3, pos := "ref.go:48", after := #[{ on := 6, ground := Ground.data }, { on := 5, ground := Ground.guard }], guard := some (5, false) }) (v := ?_) rfl (by kernel_rfl) (by kernel_rfl) (by kernel_rfl) (fun _ _ _ h => h) (Or.inl ⟨by rfl, ?_⟩) b1 ?_
          rotate_left
          · (intro W hw; go_simp; try with_reducible rfl)
          simp only [Act.put, List.setIfInBounds_toArray, List.set_cons_zero, List.set_cons_succ]
          refine wpAnyH_take (i := 8) (oi := { dst := some 104, op := Op.binOp BinOp.gtr 3 (Operand.tmp 103) (Operand.const (Value.int IntKind.i64 0)) 3, type := 4, pos := "ref.go:48", after := #[{ on := 7, ground := Ground.data }, { on := 5, ground := Ground.guard }], guard := some (5, false) }) (v := .bool false) rfl (by kernel_rfl) (by kernel_rfl) (by kernel_rfl) (fun _ _ _ h => h) (Or.inl ⟨by rfl, ?_⟩) b1 ?_
          · (intro W hw; go_simp; first | done | exact HQN.out | exact HQP.out | with_reducible rfl)
          simp only [Act.put, List.setIfInBounds_toArray, List.set_cons_zero, List.set_cons_succ]
          refine wpAnyH_take (i := 9) (oi := { dst := some 105, op := Op.move (Operand.tmp 104), type := 4, pos := "ref.go:48", after := #[{ on := 8, ground := Ground.data }, { on := 5, ground := Ground.chain }, { on := 5, ground := Ground.guard }], guard := some (5, false) }) (v := .bool false) rfl (by kernel_rfl) (by kernel_rfl) (by kernel_rfl) (fun _ _ _ h => h) (Or.inl ⟨by rfl, ?_⟩) b1 ?_
          · (intro W hw; go_simp; try with_reducible rfl)
          simp only [Act.put, List.setIfInBounds_toArray, List.set_cons_zero, List.set_cons_succ]
          refine wpAnyH_take (i := 10) (oi := { dst := some 106, op := Op.move (Operand.tmp 4), type := 39, pos := "ref.go:48", after := #[{ on := 9, ground := Ground.guard }], guard := some (9, true) }) (v := undef) rfl (by kernel_rfl) (by kernel_rfl) (by kernel_rfl) (fun _ _ _ h => h) (Or.inr ⟨by kernel_rfl, rfl⟩) b1 ?_
          simp only [Act.put, List.setIfInBounds_toArray, List.set_cons_zero, List.set_cons_succ]
          refine wpAnyH_take (i := 11) (oi := { dst := some 107, op := Op.move (Operand.tmp 4), type := 39, pos := "ref.go:48", after := #[{ on := 9, ground := Ground.guard }], guard := some (9, true) }) (v := undef) rfl (by kernel_rfl) (by kernel_rfl) (by kernel_rfl) (fun _ _ _ h => h) (Or.inr ⟨by kernel_rfl, rfl⟩) b1 ?_
          simp only [Act.put, List.setIfInBounds_toArray, List.set_cons_zero, List.set_cons_succ]
          refine wpAnyH_take (i := 12) (oi := { dst := some 108, op := Op.call { callee := Callee.builtin Builtin.len, args := #[Operand.tmp 107], argTypes := #[39] }, type := 3, pos := "ref.go:48", after := #[{ on := 11, ground := Ground.data }, { on := 9, ground := Ground.guard }], guard := some (9, true) }) (v := undef) rfl (by kernel_rfl) (by kernel_rfl) (by kernel_rfl) (fun _ _ _ h => h) (Or.inr ⟨by kernel_rfl, rfl⟩) b1 ?_
          simp only [Act.put, List.setIfInBounds_toArray, List.set_cons_zero, List.set_cons_succ]
          refine wpAnyH_take (i := 13) (oi := { dst := some 109, op := Op.binOp BinOp.sub 3 (Operand.tmp 108) (Operand.const (Value.int IntKind.i64 1)) 3, type := 3, pos := "ref.go:48", after := #[{ on := 12, ground := Ground.data }, { on := 9, ground := Ground.guard }], guard := some (9, true) }) (v := undef) rfl (by kernel_rfl) (by kernel_rfl) (by kernel_rfl) (fun _ _ _ h => h) (Or.inr ⟨by kernel_rfl, rfl⟩) b1 ?_
          simp only [Act.put, List.setIfInBounds_toArray, List.set_cons_zero, List.set_cons_succ]
          refine wpAnyH_take (i := 14) (oi := { dst := some 110, op := Op.indexAddr 39 (Operand.tmp 106) (Operand.tmp 109), type := 0, pos := "ref.go:48", after := #[{ on := 10, ground := Ground.data }, { on := 13, ground := Ground.data }, { on := 9, ground := Ground.guard }], guard := some (9, true) }) (v := undef) rfl (by kernel_rfl) (by kernel_rfl) (by kernel_rfl) (fun _ _ _ h => h) (Or.inr ⟨by kernel_rfl, rfl⟩) b1 ?_
          simp only [Act.put, List.setIfInBounds_toArray, List.set_cons_zero, List.set_cons_succ]
          refine wpAnyH_take (i := 15) (oi := { dst := some 111, op := Op.load 9 (Operand.tmp 110), type := 9, pos := "ref.go:48", after := #[{ on := 14, ground := Ground.data }, { on := 9, ground := Ground.guard }], guard := some (9, true) }) (v := undef) rfl (by kernel_rfl) (by kernel_rfl) (by kernel_rfl) (fun _ _ _ h => h) (Or.inr ⟨by kernel_rfl, rfl⟩) b1 ?_
          simp only [Act.put, List.setIfInBounds_toArray, List.set_cons_zero, List.set_cons_succ]
          refine wpAnyH_take (i := 16) (oi := { dst := some 112, op := Op.binOp BinOp.eql 9 (Operand.tmp 111) (Operand.const (Value.string { data := #[] })) 9, type := 4, pos := "ref.go:48", after := #[{ on := 15, ground := Ground.data }, { on := 9, ground := Ground.guard }], guard := some (9, true) }) (v := undef) rfl (by kernel_rfl) (by kernel_rfl) (by kernel_rfl) (fun _ _ _ h => h) (Or.inr ⟨by kernel_rfl, rfl⟩) b1 ?_
          simp only [Act.put, List.setIfInBounds_toArray, List.set_cons_zero, List.set_cons_succ]
          refine wpAnyH_take (i := 17) (oi := { dst := some 113, op := Op.pick (Operand.tmp 105) (Operand.tmp 112) (Operand.const (Value.bool false)), type := 4, pos := "ref.go:48", after := #[{ on := 9, ground := Ground.data }, { on := 16, ground := Ground.data }, { on := 5, ground := Ground.guard }], guard := some (5, false) }) (v := .bool false) rfl (by kernel_rfl) (by kernel_rfl) (by kernel_rfl) (fun _ _ _ h => h) (Or.inl ⟨by rfl, ?_⟩) b1 ?_
          · (intro W hw; go_simp; try with_reducible rfl)
          simp only [Act.put, List.setIfInBounds_toArray, List.set_cons_zero, List.set_cons_succ]
          refine wpAnyH_take (i := 18) (oi := { dst := some 114, op := Op.pick (Operand.tmp 101) (Operand.const (Value.bool true)) (Operand.tmp 113), type := 4, pos := "ref.go:48", after := #[{ on := 5, ground := Ground.data }, { on := 17, ground := Ground.data }], guard := none }) (v := .bool false) rfl (by kernel_rfl) (by kernel_rfl) (by kernel_rfl) (fun _ _ _ h => h) (Or.inl ⟨by rfl, ?_⟩) b1 ?_
          · (intro W hw; go_simp; try with_reducible rfl)
          simp only [Act.put, List.setIfInBounds_toArray, List.set_cons_zero, List.set_cons_succ]
          refine wpAnyH_take (i := 19) (oi := { dst := some 115, op := Op.move (Operand.tmp 114), type := 4, pos := "ref.go:48", after := #[{ on := 18, ground := Ground.data }, { on := 9, ground := Ground.chain }], guard := none }) (v := .bool false) rfl (by kernel_rfl) (by kernel_rfl) (by kernel_rfl) (fun _ _ _ h => h) (Or.inl ⟨by rfl, ?_⟩) b1 ?_
          · (intro W hw; go_simp; try with_reducible rfl)
          simp only [Act.put, List.setIfInBounds_toArray, List.set_cons_zero, List.set_cons_succ]
          refine wpAnyH_take (i := 20) (oi := { dst := some 116, op := Op.move (Operand.tmp 4), type := 39, pos := "ref.go:48", after := #[{ on := 19, ground := Ground.guard }], guard := some (19, false) }) (v := ?_) rfl (by kernel_rfl) (by kernel_rfl) (by kernel_rfl) (fun _ _ _ h => h) (Or.inl ⟨by rfl, ?_⟩) b1 ?_
          rotate_left
          · (intro W hw; go_simp; try with_reducible rfl)
          simp only [Act.put, List.setIfInBounds_toArray, List.set_cons_zero, List.set_cons_succ]
          refine wpAnyH_take (i := 21) (oi := { dst := some 117, op := Op.move (Operand.tmp 0), type := 35, pos := "ref.go:48", after := #[{ on := 19, ground := Ground.guard }], guard := some (19, false) }) (v := ?_) rfl (by kernel_rfl) (by kernel_rfl) (by kernel_rfl) (fun _ _ _ h => h) (Or.inl ⟨by rfl, ?_⟩) b1 ?_
          rotate_left
          · (intro W hw; go_simp; try with_reducible rfl)
          simp only [Act.put, List.setIfInBounds_toArray, List.set_cons_zero, List.set_cons_succ]
          refine wpAnyH_take (i := 22) (oi := { dst := some 118, op := Op.call { callee := Callee.builtin Builtin.len, args := #[Operand.tmp 117], argTypes := #[35] }, type := 3, pos := "ref.go:48", after := #[{ on := 21, ground := Ground.data }, { on := 19, ground := Ground.guard }], guard := some (19, false) }) (v := ?_) rfl (by kernel_rfl) (by kernel_rfl) (by kernel_rfl) (fun _ _ _ h => h) (Or.inl ⟨by rfl, ?_⟩) b1 ?_
          rotate_left
          · (intro W hw; go_simp; try with_reducible rfl)
          simp only [Act.put, List.setIfInBounds_toArray, List.set_cons_zero, List.set_cons_succ]
          refine wpAnyH_take (i := 25) (oi := { dst := some 121, op := Op.move (Operand.tmp 0), type := 35, pos := "ref.go:48", after := #[{ on := 19, ground := Ground.guard }], guard := some (19, false) }) (v := ?_) rfl (by kernel_rfl) (by kernel_rfl) (by kernel_rfl) (fun _ _ _ h => h) (Or.inl ⟨by rfl, ?_⟩) b1 ?_
          rotate_left
          · (intro W hw; go_simp; try with_reducible rfl)
          simp only [Act.put, List.setIfInBounds_toArray, List.set_cons_zero, List.set_cons_succ]
          refine wpAnyH_take (i := 26) (oi := { dst := some 122, op := Op.convert 35 9 (Operand.tmp 121), type := 9, pos := "ref.go:48", after := #[{ on := 25, ground := Ground.data }, { on := 19, ground := Ground.guard }], guard := some (19, false) }) (v := .string ⟨b.toArray⟩) rfl (by kernel_rfl) (by kernel_rfl) (by kernel_rfl) (fun _ _ _ h => h) (Or.inl ⟨by rfl, ?_⟩) b1 ?_
          · (intro W hw; go_simp; rw [CB.out _ hw]; rfl)
          simp only [Act.put, List.setIfInBounds_toArray, List.set_cons_zero, List.set_cons_succ]
          refine wpAnyH_ready (rs := [23]) (by kernel_rfl) (by simp) ?_
          refine AllReadyH.cons (o := { dst := some 119, op := Op.call { callee := Callee.value (Operand.func 14), args := #[Operand.tmp 116, Operand.tmp 118], argTypes := #[39, 3] }, type := 35, pos := "ref.go:48", after := #[{ on := 20, ground := Ground.data }, { on := 22, ground := Ground.data }, { on := 19, ground := Ground.chain }, { on := 19, ground := Ground.guard }], guard := some (19, false) }) rfl (fun K hK => ?_) AllReadyH.nil
          go_simp
          with_reducible refine (BY.out _ b1).mono ?_
          rintro e w4 ⟨g4, rfl, b4, hc4⟩
          go_wp2_with fail
          refine hK.out _ _ b4 (fun _ => ?_)
          clear hK K
          try simp only [Act.put, List.setIfInBounds_toArray, List.set_cons_zero, List.set_cons_succ]
          refine wpAnyH_weaken (S' := fun W => Below w4.heap.size w4 W) (fun W h => below_next b4 h) _ _ _ _ ?_
          refine wpAnyH_take (i := 24) (oi := { dst := some 120, op := Op.convert 35 9 (Operand.tmp 119), type := 9, pos := "ref.go:48", after := #[{ on := 23, ground := Ground.data }, { on := 19, ground := Ground.guard }], guard := some (19, false) }) (v := .string ⟨pb.toArray⟩) rfl (by kernel_rfl) (by kernel_rfl) (by kernel_rfl) (fun _ _ _ h => h) (Or.inl ⟨by rfl, ?_⟩) (Below.refl _ _) ?_
          · (intro W hw; go_simp; try with_reducible rfl)
          simp only [Act.put, List.setIfInBounds_toArray, List.set_cons_zero, List.set_cons_succ]
          refine wpAnyH_take (i := 27) (oi := { dst := some 123, op := Op.binOp BinOp.neq 9 (Operand.tmp 120) (Operand.tmp 122) 9, type := 4, pos := "ref.go:48", after := #[{ on := 24, ground := Ground.data }, { on := 26, ground := Ground.data }, { on := 19, ground := Ground.guard }], guard := some (19, false) }) (v := .bool cm) rfl (by kernel_rfl) (by kernel_rfl) (by kernel_rfl) (fun _ _ _ h => h) (Or.inl ⟨by rfl, ?_⟩) (Below.refl _ _) ?_
          · (intro W hw; go_simp; first | done | exact HCM.out | exact HCM2.out | with_reducible rfl)
          simp only [Act.put, List.setIfInBounds_toArray, List.set_cons_zero, List.set_cons_succ]
          refine wpAnyH_take (i := 28) (oi := { dst := some 124, op := Op.pick (Operand.tmp 115) (Operand.const (Value.bool true)) (Operand.tmp 123), type := 4, pos := "ref.go:48", after := #[{ on := 19, ground := Ground.data }, { on := 27, ground := Ground.data }], guard := none }) (v := ?_) rfl (by kernel_rfl) (by kernel_rfl) (by kernel_rfl) (fun _ _ _ h => h) (Or.inl ⟨by rfl, ?_⟩) (Below.refl _ _) ?_
          rotate_left
          · (intro W hw; go_simp; try with_reducible rfl)
          simp only [Act.put, List.setIfInBounds_toArray, List.set_cons_zero, List.set_cons_succ]
          refine wpAnyH_done (by kernel_rfl) ?_ _
          have HB4 := Lib.hid (below_next HW.out b4)
          have HR4 := Lib.hid (HR.out.below b4)
          clear b1 b4 hc4
          cases cm with
          | false =>
            have hpbb : pb = b := by simpa using HCM.out
            have HPG := Lib.hid (DHF.out.1 HQ0.out hpbb)
            clear hpbb DHF HQ0 HCM
            go_wp2_with fail
            go_ret2
            exact ⟨HB4.out, .inl ⟨Q, _, rfl, HPG.out, HR4.out⟩⟩
          | true =>
            have hpbb : pb ≠ b := by simpa using HCM.out
            have HNP : Hid (∀ M, ¬ IsPage b M) := Lib.hid fun M hM => hpbb (DHF.out.2 M hM).2
            clear hpbb DHF HQ0 HCM
            go_wp2_with fail
            go_ret2
            exact ⟨HB4.out, .inr ⟨HNP.out, rfl⟩⟩
        · have hq0i : (0 : Int) < (Q.length : Int) := by omega
          have hQne : Q ≠ [] := fun e => hql0 (by rw [e]; rfl)
          have hlt1 : Q.length - 1 < Q.length := by omega
          obtain ⟨g5, o5, e5, hg5, -⟩ := HS.out.one (Q.length - 1) hlt1
          subst e5
          have LD := Lib.hid fun W (hb : Below wr.heap.size wr W) => by
            obtain ⟨g', o', e', -, hc'⟩ := (HS.out.below hb).one (Q.length - 1) hlt1
            cases e'
            exact hc'
          have hle1 := trim_less hQne
          have hle2 := trim_full hQne
          obtain ⟨q, hq⟩ : ∃ q, Q[Q.length - 1] = q := ⟨_, rfl⟩
          rw [hq] at hle1 hle2 LD
          obtain ⟨kl, hkl⟩ : ∃ kl, Q.length - 1 = kl := ⟨_, rfl⟩
          rw [hkl] at LD
          have hkli : (kl : Int) < (Q.length : Int) := by omega
          have HWR : Hid (IntKind.i64.wrap ((Q.length : Int) - 1) = (kl : Nat)) := Lib.hid (by have := HF.out; rw [IntWalk.i64_left, IntWalk.wrap64_in _ (by omega)]; omega)
          have HQP : Hid (0 < Q.length) := Lib.hid (by omega)
          clear hq hql0 hlt1 hQne hkl
          by_cases hq0 : q = []
          · have HNP : Hid (∀ M, ¬ IsPage b M) := Lib.hid fun M hM => hle1 hq0 (DHF.out.2 M hM).1
            have HQ0' := Lib.hid hq0
            clear hle1 hle2 hq0
            go_wp2_with fail
            refine wp_region_held_drew (S := fun W => Below wr.heap.size wr W) (by kernel_rfl) B0 (fun _ => ?_)
            refine wpAnyH_take (i := 0) (oi := { dst := some 96, op := Op.move (Operand.tmp 4), type := 39, pos := "ref.go:48", after := #[], guard := none }) (v := ?_) rfl (by kernel_rfl) (by kernel_rfl) (by kernel_rfl) (fun _ _ _ h => h) (Or.inl ⟨by rfl, ?_⟩) B0 ?_
            rotate_left
            · (intro W hw; go_simp; try with_reducible rfl)
            simp only [Act.put, List.setIfInBounds_toArray, List.set_cons_zero, List.set_cons_succ]
            refine wpAnyH_take (i := 1) (oi := { dst := some 97, op := Op.move (Operand.tmp 0), type := 35, pos := "ref.go:48", after := #[], guard := none }) (v := ?_) rfl (by kernel_rfl) (by kernel_rfl) (by kernel_rfl) (fun _ _ _ h => h) (Or.inl ⟨by rfl, ?_⟩) B0 ?_
            rotate_left
            · (intro W hw; go_simp; try with_reducible rfl)
            simp only [Act.put, List.setIfInBounds_toArray, List.set_cons_zero, List.set_cons_succ]
            refine wpAnyH_take (i := 2) (oi := { dst := some 98, op := Op.call { callee := Callee.builtin Builtin.len, args := #[Operand.tmp 97], argTypes := #[35] }, type := 3, pos := "ref.go:48", after := #[{ on := 1, ground := Ground.data }], guard := none }) (v := ?_) rfl (by kernel_rfl) (by kernel_rfl) (by kernel_rfl) (fun _ _ _ h => h) (Or.inl ⟨by rfl, ?_⟩) B0 ?_
            rotate_left
            · (intro W hw; go_simp; try with_reducible rfl)
            simp only [Act.put, List.setIfInBounds_toArray, List.set_cons_zero, List.set_cons_succ]
            refine wpAnyH_ready (rs := [3]) (by kernel_rfl) (by simp) ?_
            refine AllReadyH.cons (o := { dst := some 99, op := Op.call { callee := Callee.value (Operand.func 26), args := #[Operand.tmp 96, Operand.tmp 98], argTypes := #[39, 3] }, type := 3, pos := "ref.go:48", after := #[{ on := 0, ground := Ground.data }, { on := 2, ground := Ground.data }], guard := none }) rfl (fun K hK => ?_) AllReadyH.nil
            go_simp
            with_reducible refine (RM.out _ B0).mono ?_
            rintro e w1 ⟨rfl, b1⟩
            go_wp2_with fail
            refine hK.out _ _ b1 (fun _ => ?_)
            clear hK K
            try simp only [Act.put, List.setIfInBounds_toArray, List.set_cons_zero, List.set_cons_succ]
            refine wpAnyH_take (i := 4) (oi := { dst := some 100, op := Op.binOp BinOp.lss 3 (Operand.tmp 99) (Operand.const (Value.int IntKind.i64 0)) 3, type := 4, pos := "ref.go:48", after := #[{ on := 3, ground := Ground.data }], guard := none }) (v := .bool false) rfl (by kernel_rfl) (by kernel_rfl) (by kernel_rfl) (fun _ _ _ h => h) (Or.inl ⟨by rfl, ?_⟩) b1 ?_
            · (intro W hw; go_simp; try with_reducible rfl)
            simp only [Act.put, List.setIfInBounds_toArray, List.set_cons_zero, List.set_cons_succ]
            refine wpAnyH_take (i := 5) (oi := { dst := some 101, op := Op.move (Operand.tmp 100), type := 4, pos := "ref.go:48", after := #[{ on := 4, ground := Ground.data }, { on := 3, ground := Ground.chain }], guard := none }) (v := .bool false) rfl (by kernel_rfl) (by kernel_rfl) (by kernel_rfl) (fun _ _ _ h => h) (Or.inl ⟨by rfl, ?_⟩) b1 ?_
            · (intro W hw; go_simp; try with_reducible rfl)
            simp only [Act.put, List.setIfInBounds_toArray, List.set_cons_zero, List.set_cons_succ]
            refine wpAnyH_take (i := 6) (oi := { dst := some 102, op := Op.move (Operand.tmp 4), type := 39, pos := "ref.go:48", after := #[{ on := 5, ground := Ground.guard }], guard := some (5, false) }) (v := ?_) rfl (by kernel_rfl) (by kernel_rfl) (by kernel_rfl) (fun _ _ _ h => h) (Or.inl ⟨by rfl, ?_⟩) b1 ?_
            rotate_left
            · (intro W hw; go_simp; try with_reducible rfl)
            simp only [Act.put, List.setIfInBounds_toArray, List.set_cons_zero, List.set_cons_succ]
            refine wpAnyH_take (i := 7) (oi := { dst := some 103, op := Op.call { callee := Callee.builtin Builtin.len, args := #[Operand.tmp 102], argTypes := #[39] }, type := 3, pos := "ref.go:48", after := #[{ on := 6, ground := Ground.data }, { on := 5, ground := Ground.guard }], guard := some (5, false) }) (v := ?_) rfl (by kernel_rfl) (by kernel_rfl) (by kernel_rfl) (fun _ _ _ h => h) (Or.inl ⟨by rfl, ?_⟩) b1 ?_
            rotate_left
            · (intro W hw; go_simp; try with_reducible rfl)
            simp only [Act.put, List.setIfInBounds_toArray, List.set_cons_zero, List.set_cons_succ]
            refine wpAnyH_take (i := 8) (oi := { dst := some 104, op := Op.binOp BinOp.gtr 3 (Operand.tmp 103) (Operand.const (Value.int IntKind.i64 0)) 3, type := 4, pos := "ref.go:48", after := #[{ on := 7, ground := Ground.data }, { on := 5, ground := Ground.guard }], guard := some (5, false) }) (v := .bool true) rfl (by kernel_rfl) (by kernel_rfl) (by kernel_rfl) (fun _ _ _ h => h) (Or.inl ⟨by rfl, ?_⟩) b1 ?_
            · (intro W hw; go_simp; first | done | exact HQN.out | exact HQP.out | with_reducible rfl)
            simp only [Act.put, List.setIfInBounds_toArray, List.set_cons_zero, List.set_cons_succ]
            refine wpAnyH_take (i := 9) (oi := { dst := some 105, op := Op.move (Operand.tmp 104), type := 4, pos := "ref.go:48", after := #[{ on := 8, ground := Ground.data }, { on := 5, ground := Ground.chain }, { on := 5, ground := Ground.guard }], guard := some (5, false) }) (v := .bool true) rfl (by kernel_rfl) (by kernel_rfl) (by kernel_rfl) (fun _ _ _ h => h) (Or.inl ⟨by rfl, ?_⟩) b1 ?_
            · (intro W hw; go_simp; try with_reducible rfl)
            simp only [Act.put, List.setIfInBounds_toArray, List.set_cons_zero, List.set_cons_succ]
            refine wpAnyH_take (i := 10) (oi := { dst := some 106, op := Op.move (Operand.tmp 4), type := 39, pos := "ref.go:48", after := #[{ on := 9, ground := Ground.guard }], guard := some (9, true) }) (v := ?_) rfl (by kernel_rfl) (by kernel_rfl) (by kernel_rfl) (fun _ _ _ h => h) (Or.inl ⟨by rfl, ?_⟩) b1 ?_
            rotate_left
            · (intro W hw; go_simp; try with_reducible rfl)
            simp only [Act.put, List.setIfInBounds_toArray, List.set_cons_zero, List.set_cons_succ]
            refine wpAnyH_take (i := 11) (oi := { dst := some 107, op := Op.move (Operand.tmp 4), type := 39, pos := "ref.go:48", after := #[{ on := 9, ground := Ground.guard }], guard := some (9, true) }) (v := ?_) rfl (by kernel_rfl) (by kernel_rfl) (by kernel_rfl) (fun _ _ _ h => h) (Or.inl ⟨by rfl, ?_⟩) b1 ?_
            rotate_left
            · (intro W hw; go_simp; try with_reducible rfl)
            simp only [Act.put, List.setIfInBounds_toArray, List.set_cons_zero, List.set_cons_succ]
            refine wpAnyH_take (i := 12) (oi := { dst := some 108, op := Op.call { callee := Callee.builtin Builtin.len, args := #[Operand.tmp 107], argTypes := #[39] }, type := 3, pos := "ref.go:48", after := #[{ on := 11, ground := Ground.data }, { on := 9, ground := Ground.guard }], guard := some (9, true) }) (v := ?_) rfl (by kernel_rfl) (by kernel_rfl) (by kernel_rfl) (fun _ _ _ h => h) (Or.inl ⟨by rfl, ?_⟩) b1 ?_
            rotate_left
            · (intro W hw; go_simp; try with_reducible rfl)
            simp only [Act.put, List.setIfInBounds_toArray, List.set_cons_zero, List.set_cons_succ]
            refine wpAnyH_take (i := 13) (oi := { dst := some 109, op := Op.binOp BinOp.sub 3 (Operand.tmp 108) (Operand.const (Value.int IntKind.i64 1)) 3, type := 3, pos := "ref.go:48", after := #[{ on := 12, ground := Ground.data }, { on := 9, ground := Ground.guard }], guard := some (9, true) }) (v := .int .i64 (kl : Nat)) rfl (by kernel_rfl) (by kernel_rfl) (by kernel_rfl) (fun _ _ _ h => h) (Or.inl ⟨by rfl, ?_⟩) b1 ?_
            · (intro W hw; go_simp; first | done | exact HWR.out | with_reducible rfl)
            simp only [Act.put, List.setIfInBounds_toArray, List.set_cons_zero, List.set_cons_succ]
            refine wpAnyH_take (i := 14) (oi := { dst := some 110, op := Op.indexAddr 39 (Operand.tmp 106) (Operand.tmp 109), type := 0, pos := "ref.go:48", after := #[{ on := 10, ground := Ground.data }, { on := 13, ground := Ground.data }, { on := 9, ground := Ground.guard }], guard := some (9, true) }) (v := .pointer (some ⟨g5, o5 + kl, none⟩)) rfl (by kernel_rfl) (by kernel_rfl) (by kernel_rfl) (fun _ _ _ h => h) (Or.inl ⟨by rfl, ?_⟩) b1 ?_
            · (intro W hw; go_simp; try with_reducible rfl)
            simp only [Act.put, List.setIfInBounds_toArray, List.set_cons_zero, List.set_cons_succ]
            refine wpAnyH_take (i := 15) (oi := { dst := some 111, op := Op.load 9 (Operand.tmp 110), type := 9, pos := "ref.go:48", after := #[{ on := 14, ground := Ground.data }, { on := 9, ground := Ground.guard }], guard := some (9, true) }) (v := .string ⟨q.toArray⟩) rfl (by kernel_rfl) (by kernel_rfl) (by kernel_rfl) (fun _ _ _ h => h) (Or.inl ⟨by rfl, ?_⟩) b1 ?_
            · (intro W hw; go_simp; first | done | (rw [LD.out W hw]; rfl) | with_reducible rfl)
            simp only [Act.put, List.setIfInBounds_toArray, List.set_cons_zero, List.set_cons_succ]
            refine wpAnyH_take (i := 16) (oi := { dst := some 112, op := Op.binOp BinOp.eql 9 (Operand.tmp 111) (Operand.const (Value.string { data := #[] })) 9, type := 4, pos := "ref.go:48", after := #[{ on := 15, ground := Ground.data }, { on := 9, ground := Ground.guard }], guard := some (9, true) }) (v := .bool true) rfl (by kernel_rfl) (by kernel_rfl) (by kernel_rfl) (fun _ _ _ h => h) (Or.inl ⟨by rfl, ?_⟩) b1 ?_
            · (intro W hw; go_simp; first | done | exact HQ0'.out | with_reducible rfl)
            simp only [Act.put, List.setIfInBounds_toArray, List.set_cons_zero, List.set_cons_succ]
            refine wpAnyH_take (i := 17) (oi := { dst := some 113, op := Op.pick (Operand.tmp 105) (Operand.tmp 112) (Operand.const (Value.bool false)), type := 4, pos := "ref.go:48", after := #[{ on := 9, ground := Ground.data }, { on := 16, ground := Ground.data }, { on := 5, ground := Ground.guard }], guard := some (5, false) }) (v := .bool true) rfl (by kernel_rfl) (by kernel_rfl) (by kernel_rfl) (fun _ _ _ h => h) (Or.inl ⟨by rfl, ?_⟩) b1 ?_
            · (intro W hw; go_simp; try with_reducible rfl)
            simp only [Act.put, List.setIfInBounds_toArray, List.set_cons_zero, List.set_cons_succ]
            refine wpAnyH_take (i := 18) (oi := { dst := some 114, op := Op.pick (Operand.tmp 101) (Operand.const (Value.bool true)) (Operand.tmp 113), type := 4, pos := "ref.go:48", after := #[{ on := 5, ground := Ground.data }, { on := 17, ground := Ground.data }], guard := none }) (v := .bool true) rfl (by kernel_rfl) (by kernel_rfl) (by kernel_rfl) (fun _ _ _ h => h) (Or.inl ⟨by rfl, ?_⟩) b1 ?_
            · (intro W hw; go_simp; try with_reducible rfl)
            simp only [Act.put, List.setIfInBounds_toArray, List.set_cons_zero, List.set_cons_succ]
            refine wpAnyH_take (i := 19) (oi := { dst := some 115, op := Op.move (Operand.tmp 114), type := 4, pos := "ref.go:48", after := #[{ on := 18, ground := Ground.data }, { on := 9, ground := Ground.chain }], guard := none }) (v := .bool true) rfl (by kernel_rfl) (by kernel_rfl) (by kernel_rfl) (fun _ _ _ h => h) (Or.inl ⟨by rfl, ?_⟩) b1 ?_
            · (intro W hw; go_simp; try with_reducible rfl)
            simp only [Act.put, List.setIfInBounds_toArray, List.set_cons_zero, List.set_cons_succ]
            refine wpAnyH_take (i := 20) (oi := { dst := some 116, op := Op.move (Operand.tmp 4), type := 39, pos := "ref.go:48", after := #[{ on := 19, ground := Ground.guard }], guard := some (19, false) }) (v := undef) rfl (by kernel_rfl) (by kernel_rfl) (by kernel_rfl) (fun _ _ _ h => h) (Or.inr ⟨by kernel_rfl, rfl⟩) b1 ?_
            simp only [Act.put, List.setIfInBounds_toArray, List.set_cons_zero, List.set_cons_succ]
            refine wpAnyH_take (i := 21) (oi := { dst := some 117, op := Op.move (Operand.tmp 0), type := 35, pos := "ref.go:48", after := #[{ on := 19, ground := Ground.guard }], guard := some (19, false) }) (v := undef) rfl (by kernel_rfl) (by kernel_rfl) (by kernel_rfl) (fun _ _ _ h => h) (Or.inr ⟨by kernel_rfl, rfl⟩) b1 ?_
            simp only [Act.put, List.setIfInBounds_toArray, List.set_cons_zero, List.set_cons_succ]
            refine wpAnyH_take (i := 22) (oi := { dst := some 118, op := Op.call { callee := Callee.builtin Builtin.len, args := #[Operand.tmp 117], argTypes := #[35] }, type := 3, pos := "ref.go:48", after := #[{ on := 21, ground := Ground.data }, { on := 19, ground := Ground.guard }], guard := some (19, false) }) (v := undef) rfl (by kernel_rfl) (by kernel_rfl) (by kernel_rfl) (fun _ _ _ h => h) (Or.inr ⟨by kernel_rfl, rfl⟩) b1 ?_
            simp only [Act.put, List.setIfInBounds_toArray, List.set_cons_zero, List.set_cons_succ]
            refine wpAnyH_take (i := 23) (oi := { dst := some 119, op := Op.call { callee := Callee.value (Operand.func 14), args := #[Operand.tmp 116, Operand.tmp 118], argTypes := #[39, 3] }, type := 35, pos := "ref.go:48", after := #[{ on := 20, ground := Ground.data }, { on := 22, ground := Ground.data }, { on := 19, ground := Ground.chain }, { on := 19, ground := Ground.guard }], guard := some (19, false) }) (v := undef) rfl (by kernel_rfl) (by kernel_rfl) (by kernel_rfl) (fun _ _ _ h => h) (Or.inr ⟨by kernel_rfl, rfl⟩) b1 ?_
            simp only [Act.put, List.setIfInBounds_toArray, List.set_cons_zero, List.set_cons_succ]
            refine wpAnyH_take (i := 24) (oi := { dst := some 120, op := Op.convert 35 9 (Operand.tmp 119), type := 9, pos := "ref.go:48", after := #[{ on := 23, ground := Ground.data }, { on := 19, ground := Ground.guard }], guard := some (19, false) }) (v := undef) rfl (by kernel_rfl) (by kernel_rfl) (by kernel_rfl) (fun _ _ _ h => h) (Or.inr ⟨by kernel_rfl, rfl⟩) b1 ?_
            simp only [Act.put, List.setIfInBounds_toArray, List.set_cons_zero, List.set_cons_succ]
            refine wpAnyH_take (i := 25) (oi := { dst := some 121, op := Op.move (Operand.tmp 0), type := 35, pos := "ref.go:48", after := #[{ on := 19, ground := Ground.guard }], guard := some (19, false) }) (v := undef) rfl (by kernel_rfl) (by kernel_rfl) (by kernel_rfl) (fun _ _ _ h => h) (Or.inr ⟨by kernel_rfl, rfl⟩) b1 ?_
            simp only [Act.put, List.setIfInBounds_toArray, List.set_cons_zero, List.set_cons_succ]
            refine wpAnyH_take (i := 26) (oi := { dst := some 122, op := Op.convert 35 9 (Operand.tmp 121), type := 9, pos := "ref.go:48", after := #[{ on := 25, ground := Ground.data }, { on := 19, ground := Ground.guard }], guard := some (19, false) }) (v := undef) rfl (by kernel_rfl) (by kernel_rfl) (by kernel_rfl) (fun _ _ _ h => h) (Or.inr ⟨by kernel_rfl, rfl⟩) b1 ?_
            simp only [Act.put, List.setIfInBounds_toArray, List.set_cons_zero, List.set_cons_succ]
            refine wpAnyH_take (i := 27) (oi := { dst := some 123, op := Op.binOp BinOp.neq 9 (Operand.tmp 120) (Operand.tmp 122) 9, type := 4, pos := "ref.go:48", after := #[{ on := 24, ground := Ground.data }, { on := 26, ground := Ground.data }, { on := 19, ground := Ground.guard }], guard := some (19, false) }) (v := undef) rfl (by kernel_rfl) (by kernel_rfl) (by kernel_rfl) (fun _ _ _ h => h) (Or.inr ⟨by kernel_rfl, rfl⟩) b1 ?_
            simp only [Act.put, List.setIfInBounds_toArray, List.set_cons_zero, List.set_cons_succ]
            refine wpAnyH_take (i := 28) (oi := { dst := some 124, op := Op.pick (Operand.tmp 115) (Operand.const (Value.bool true)) (Operand.tmp 123), type := 4, pos := "ref.go:48", after := #[{ on := 19, ground := Ground.data }, { on := 27, ground := Ground.data }], guard := none }) (v := .bool true) rfl (by kernel_rfl) (by kernel_rfl) (by kernel_rfl) (fun _ _ _ h => h) (Or.inl ⟨by rfl, ?_⟩) b1 ?_
            · (intro W hw; go_simp; try with_reducible rfl)
            simp only [Act.put, List.setIfInBounds_toArray, List.set_cons_zero, List.set_cons_succ]
            refine wpAnyH_done (by kernel_rfl) ?_ _
            have HB4 := Lib.hid (below_next HW.out b1)
            clear b1
            go_wp2_with fail
            go_ret2
            exact ⟨HB4.out, .inr ⟨HNP.out, rfl⟩⟩
          · have HQ0 := Lib.hid (hle2 hq0)
            have HQ0' := Lib.hid hq0
            clear hle1 hle2 hq0
            go_wp2_with fail
            refine wp_region_held_drew (S := fun W => Below wr.heap.size wr W) (by kernel_rfl) B0 (fun _ => ?_)
            refine wpAnyH_take (i := 0) (oi := { dst := some 96, op := Op.move (Operand.tmp 4), type := 39, pos := "ref.go:48", after := #[], guard := none }) (v := ?_) rfl (by kernel_rfl) (by kernel_rfl) (by kernel_rfl) (fun _ _ _ h => h) (Or.inl ⟨by rfl, ?_⟩) B0 ?_
            rotate_left
            · (intro W hw; go_simp; try with_reducible rfl)
            simp only [Act.put, List.setIfInBounds_toArray, List.set_cons_zero, List.set_cons_succ]
            refine wpAnyH_take (i := 1) (oi := { dst := some 97, op := Op.move (Operand.tmp 0), type := 35, pos := "ref.go:48", after := #[], guard := none }) (v := ?_) rfl (by kernel_rfl) (by kernel_rfl) (by kernel_rfl) (fun _ _ _ h => h) (Or.inl ⟨by rfl, ?_⟩) B0 ?_
            rotate_left
            · (intro W hw; go_simp; try with_reducible rfl)
            simp only [Act.put, List.setIfInBounds_toArray, List.set_cons_zero, List.set_cons_succ]
            refine wpAnyH_take (i := 2) (oi := { dst := some 98, op := Op.call { callee := Callee.builtin Builtin.len, args := #[Operand.tmp 97], argTypes := #[35] }, type := 3, pos := "ref.go:48", after := #[{ on := 1, ground := Ground.data }], guard := none }) (v := ?_) rfl (by kernel_rfl) (by kernel_rfl) (by kernel_rfl) (fun _ _ _ h => h) (Or.inl ⟨by rfl, ?_⟩) B0 ?_
            rotate_left
            · (intro W hw; go_simp; try with_reducible rfl)
            simp only [Act.put, List.setIfInBounds_toArray, List.set_cons_zero, List.set_cons_succ]
            refine wpAnyH_ready (rs := [3]) (by kernel_rfl) (by simp) ?_
            refine AllReadyH.cons (o := { dst := some 99, op := Op.call { callee := Callee.value (Operand.func 26), args := #[Operand.tmp 96, Operand.tmp 98], argTypes := #[39, 3] }, type := 3, pos := "ref.go:48", after := #[{ on := 0, ground := Ground.data }, { on := 2, ground := Ground.data }], guard := none }) rfl (fun K hK => ?_) AllReadyH.nil
            go_simp
            with_reducible refine (RM.out _ B0).mono ?_
            rintro e w1 ⟨rfl, b1⟩
            go_wp2_with fail
            refine hK.out _ _ b1 (fun _ => ?_)
            clear hK K
            try simp only [Act.put, List.setIfInBounds_toArray, List.set_cons_zero, List.set_cons_succ]
            refine wpAnyH_take (i := 4) (oi := { dst := some 100, op := Op.binOp BinOp.lss 3 (Operand.tmp 99) (Operand.const (Value.int IntKind.i64 0)) 3, type := 4, pos := "ref.go:48", after := #[{ on := 3, ground := Ground.data }], guard := none }) (v := .bool false) rfl (by kernel_rfl) (by kernel_rfl) (by kernel_rfl) (fun _ _ _ h => h) (Or.inl ⟨by rfl, ?_⟩) b1 ?_
            · (intro W hw; go_simp; try with_reducible rfl)
            simp only [Act.put, List.setIfInBounds_toArray, List.set_cons_zero, List.set_cons_succ]
            refine wpAnyH_take (i := 5) (oi := { dst := some 101, op := Op.move (Operand.tmp 100), type := 4, pos := "ref.go:48", after := #[{ on := 4, ground := Ground.data }, { on := 3, ground := Ground.chain }], guard := none }) (v := .bool false) rfl (by kernel_rfl) (by kernel_rfl) (by kernel_rfl) (fun _ _ _ h => h) (Or.inl ⟨by rfl, ?_⟩) b1 ?_
            · (intro W hw; go_simp; try with_reducible rfl)
            simp only [Act.put, List.setIfInBounds_toArray, List.set_cons_zero, List.set_cons_succ]
            refine wpAnyH_take (i := 6) (oi := { dst := some 102, op := Op.move (Operand.tmp 4), type := 39, pos := "ref.go:48", after := #[{ on := 5, ground := Ground.guard }], guard := some (5, false) }) (v := ?_) rfl (by kernel_rfl) (by kernel_rfl) (by kernel_rfl) (fun _ _ _ h => h) (Or.inl ⟨by rfl, ?_⟩) b1 ?_
            rotate_left
            · (intro W hw; go_simp; try with_reducible rfl)
            simp only [Act.put, List.setIfInBounds_toArray, List.set_cons_zero, List.set_cons_succ]
            refine wpAnyH_take (i := 7) (oi := { dst := some 103, op := Op.call { callee := Callee.builtin Builtin.len, args := #[Operand.tmp 102], argTypes := #[39] }, type := 3, pos := "ref.go:48", after := #[{ on := 6, ground := Ground.data }, { on := 5, ground := Ground.guard }], guard := some (5, false) }) (v := ?_) rfl (by kernel_rfl) (by kernel_rfl) (by kernel_rfl) (fun _ _ _ h => h) (Or.inl ⟨by rfl, ?_⟩) b1 ?_
            rotate_left
            · (intro W hw; go_simp; try with_reducible rfl)
            simp only [Act.put, List.setIfInBounds_toArray, List.set_cons_zero, List.set_cons_succ]
            refine wpAnyH_take (i := 8) (oi := { dst := some 104, op := Op.binOp BinOp.gtr 3 (Operand.tmp 103) (Operand.const (Value.int IntKind.i64 0)) 3, type := 4, pos := "ref.go:48", after := #[{ on := 7, ground := Ground.data }, { on := 5, ground := Ground.guard }], guard := some (5, false) }) (v := .bool true) rfl (by kernel_rfl) (by kernel_rfl) (by kernel_rfl) (fun _ _ _ h => h) (Or.inl ⟨by rfl, ?_⟩) b1 ?_
            · (intro W hw; go_simp; first | done | exact HQN.out | exact HQP.out | with_reducible rfl)
            simp only [Act.put, List.setIfInBounds_toArray, List.set_cons_zero, List.set_cons_succ]
            refine wpAnyH_take (i := 9) (oi := { dst := some 105, op := Op.move (Operand.tmp 104), type := 4, pos := "ref.go:48", after := #[{ on := 8, ground := Ground.data }, { on := 5, ground := Ground.chain }, { on := 5, ground := Ground.guard }], guard := some (5, false) }) (v := .bool true) rfl (by kernel_rfl) (by kernel_rfl) (by kernel_rfl) (fun _ _ _ h => h) (Or.inl ⟨by rfl, ?_⟩) b1 ?_
            · (intro W hw; go_simp; try with_reducible rfl)
            simp only [Act.put, List.setIfInBounds_toArray, List.set_cons_zero, List.set_cons_succ]
            refine wpAnyH_take (i := 10) (oi := { dst := some 106, op := Op.move (Operand.tmp 4), type := 39, pos := "ref.go:48", after := #[{ on := 9, ground := Ground.guard }], guard := some (9, true) }) (v := ?_) rfl (by kernel_rfl) (by kernel_rfl) (by kernel_rfl) (fun _ _ _ h => h) (Or.inl ⟨by rfl, ?_⟩) b1 ?_
            rotate_left
            · (intro W hw; go_simp; try with_reducible rfl)
            simp only [Act.put, List.setIfInBounds_toArray, List.set_cons_zero, List.set_cons_succ]
            refine wpAnyH_take (i := 11) (oi := { dst := some 107, op := Op.move (Operand.tmp 4), type := 39, pos := "ref.go:48", after := #[{ on := 9, ground := Ground.guard }], guard := some (9, true) }) (v := ?_) rfl (by kernel_rfl) (by kernel_rfl) (by kernel_rfl) (fun _ _ _ h => h) (Or.inl ⟨by rfl, ?_⟩) b1 ?_
            rotate_left
            · (intro W hw; go_simp; try with_reducible rfl)
            simp only [Act.put, List.setIfInBounds_toArray, List.set_cons_zero, List.set_cons_succ]
            refine wpAnyH_take (i := 12) (oi := { dst := some 108, op := Op.call { callee := Callee.builtin Builtin.len, args := #[Operand.tmp 107], argTypes := #[39] }, type := 3, pos := "ref.go:48", after := #[{ on := 11, ground := Ground.data }, { on := 9, ground := Ground.guard }], guard := some (9, true) }) (v := ?_) rfl (by kernel_rfl) (by kernel_rfl) (by kernel_rfl) (fun _ _ _ h => h) (Or.inl ⟨by rfl, ?_⟩) b1 ?_
            rotate_left
            · (intro W hw; go_simp; try with_reducible rfl)
            simp only [Act.put, List.setIfInBounds_toArray, List.set_cons_zero, List.set_cons_succ]
            refine wpAnyH_take (i := 13) (oi := { dst := some 109, op := Op.binOp BinOp.sub 3 (Operand.tmp 108) (Operand.const (Value.int IntKind.i64 1)) 3, type := 3, pos := "ref.go:48", after := #[{ on := 12, ground := Ground.data }, { on := 9, ground := Ground.guard }], guard := some (9, true) }) (v := .int .i64 (kl : Nat)) rfl (by kernel_rfl) (by kernel_rfl) (by kernel_rfl) (fun _ _ _ h => h) (Or.inl ⟨by rfl, ?_⟩) b1 ?_
            · (intro W hw; go_simp; first | done | exact HWR.out | with_reducible rfl)
            simp only [Act.put, List.setIfInBounds_toArray, List.set_cons_zero, List.set_cons_succ]
            refine wpAnyH_take (i := 14) (oi := { dst := some 110, op := Op.indexAddr 39 (Operand.tmp 106) (Operand.tmp 109), type := 0, pos := "ref.go:48", after := #[{ on := 10, ground := Ground.data }, { on := 13, ground := Ground.data }, { on := 9, ground := Ground.guard }], guard := some (9, true) }) (v := .pointer (some ⟨g5, o5 + kl, none⟩)) rfl (by kernel_rfl) (by kernel_rfl) (by kernel_rfl) (fun _ _ _ h => h) (Or.inl ⟨by rfl, ?_⟩) b1 ?_
            · (intro W hw; go_simp; try with_reducible rfl)
            simp only [Act.put, List.setIfInBounds_toArray, List.set_cons_zero, List.set_cons_succ]
            refine wpAnyH_take (i := 15) (oi := { dst := some 111, op := Op.load 9 (Operand.tmp 110), type := 9, pos := "ref.go:48", after := #[{ on := 14, ground := Ground.data }, { on := 9, ground := Ground.guard }], guard := some (9, true) }) (v := .string ⟨q.toArray⟩) rfl (by kernel_rfl) (by kernel_rfl) (by kernel_rfl) (fun _ _ _ h => h) (Or.inl ⟨by rfl, ?_⟩) b1 ?_
            · (intro W hw; go_simp; first | done | (rw [LD.out W hw]; rfl) | with_reducible rfl)
            simp only [Act.put, List.setIfInBounds_toArray, List.set_cons_zero, List.set_cons_succ]
            refine wpAnyH_take (i := 16) (oi := { dst := some 112, op := Op.binOp BinOp.eql 9 (Operand.tmp 111) (Operand.const (Value.string { data := #[] })) 9, type := 4, pos := "ref.go:48", after := #[{ on := 15, ground := Ground.data }, { on := 9, ground := Ground.guard }], guard := some (9, true) }) (v := .bool false) rfl (by kernel_rfl) (by kernel_rfl) (by kernel_rfl) (fun _ _ _ h => h) (Or.inl ⟨by rfl, ?_⟩) b1 ?_
            · (intro W hw; go_simp; first | done | exact HQ0'.out | with_reducible rfl)
            simp only [Act.put, List.setIfInBounds_toArray, List.set_cons_zero, List.set_cons_succ]
            refine wpAnyH_take (i := 17) (oi := { dst := some 113, op := Op.pick (Operand.tmp 105) (Operand.tmp 112) (Operand.const (Value.bool false)), type := 4, pos := "ref.go:48", after := #[{ on := 9, ground := Ground.data }, { on := 16, ground := Ground.data }, { on := 5, ground := Ground.guard }], guard := some (5, false) }) (v := .bool false) rfl (by kernel_rfl) (by kernel_rfl) (by kernel_rfl) (fun _ _ _ h => h) (Or.inl ⟨by rfl, ?_⟩) b1 ?_
            · (intro W hw; go_simp; try with_reducible rfl)
            simp only [Act.put, List.setIfInBounds_toArray, List.set_cons_zero, List.set_cons_succ]
            refine wpAnyH_take (i := 18) (oi := { dst := some 114, op := Op.pick (Operand.tmp 101) (Operand.const (Value.bool true)) (Operand.tmp 113), type := 4, pos := "ref.go:48", after := #[{ on := 5, ground := Ground.data }, { on := 17, ground := Ground.data }], guard := none }) (v := .bool false) rfl (by kernel_rfl) (by kernel_rfl) (by kernel_rfl) (fun _ _ _ h => h) (Or.inl ⟨by rfl, ?_⟩) b1 ?_
            · (intro W hw; go_simp; try with_reducible rfl)
            simp only [Act.put, List.setIfInBounds_toArray, List.set_cons_zero, List.set_cons_succ]
            refine wpAnyH_take (i := 19) (oi := { dst := some 115, op := Op.move (Operand.tmp 114), type := 4, pos := "ref.go:48", after := #[{ on := 18, ground := Ground.data }, { on := 9, ground := Ground.chain }], guard := none }) (v := .bool false) rfl (by kernel_rfl) (by kernel_rfl) (by kernel_rfl) (fun _ _ _ h => h) (Or.inl ⟨by rfl, ?_⟩) b1 ?_
            · (intro W hw; go_simp; try with_reducible rfl)
            simp only [Act.put, List.setIfInBounds_toArray, List.set_cons_zero, List.set_cons_succ]
            refine wpAnyH_take (i := 20) (oi := { dst := some 116, op := Op.move (Operand.tmp 4), type := 39, pos := "ref.go:48", after := #[{ on := 19, ground := Ground.guard }], guard := some (19, false) }) (v := ?_) rfl (by kernel_rfl) (by kernel_rfl) (by kernel_rfl) (fun _ _ _ h => h) (Or.inl ⟨by rfl, ?_⟩) b1 ?_
            rotate_left
            · (intro W hw; go_simp; try with_reducible rfl)
            simp only [Act.put, List.setIfInBounds_toArray, List.set_cons_zero, List.set_cons_succ]
            refine wpAnyH_take (i := 21) (oi := { dst := some 117, op := Op.move (Operand.tmp 0), type := 35, pos := "ref.go:48", after := #[{ on := 19, ground := Ground.guard }], guard := some (19, false) }) (v := ?_) rfl (by kernel_rfl) (by kernel_rfl) (by kernel_rfl) (fun _ _ _ h => h) (Or.inl ⟨by rfl, ?_⟩) b1 ?_
            rotate_left
            · (intro W hw; go_simp; try with_reducible rfl)
            simp only [Act.put, List.setIfInBounds_toArray, List.set_cons_zero, List.set_cons_succ]
            refine wpAnyH_take (i := 22) (oi := { dst := some 118, op := Op.call { callee := Callee.builtin Builtin.len, args := #[Operand.tmp 117], argTypes := #[35] }, type := 3, pos := "ref.go:48", after := #[{ on := 21, ground := Ground.data }, { on := 19, ground := Ground.guard }], guard := some (19, false) }) (v := ?_) rfl (by kernel_rfl) (by kernel_rfl) (by kernel_rfl) (fun _ _ _ h => h) (Or.inl ⟨by rfl, ?_⟩) b1 ?_
            rotate_left
            · (intro W hw; go_simp; try with_reducible rfl)
            simp only [Act.put, List.setIfInBounds_toArray, List.set_cons_zero, List.set_cons_succ]
            refine wpAnyH_take (i := 25) (oi := { dst := some 121, op := Op.move (Operand.tmp 0), type := 35, pos := "ref.go:48", after := #[{ on := 19, ground := Ground.guard }], guard := some (19, false) }) (v := ?_) rfl (by kernel_rfl) (by kernel_rfl) (by kernel_rfl) (fun _ _ _ h => h) (Or.inl ⟨by rfl, ?_⟩) b1 ?_
            rotate_left
            · (intro W hw; go_simp; try with_reducible rfl)
            simp only [Act.put, List.setIfInBounds_toArray, List.set_cons_zero, List.set_cons_succ]
            refine wpAnyH_take (i := 26) (oi := { dst := some 122, op := Op.convert 35 9 (Operand.tmp 121), type := 9, pos := "ref.go:48", after := #[{ on := 25, ground := Ground.data }, { on := 19, ground := Ground.guard }], guard := some (19, false) }) (v := .string ⟨b.toArray⟩) rfl (by kernel_rfl) (by kernel_rfl) (by kernel_rfl) (fun _ _ _ h => h) (Or.inl ⟨by rfl, ?_⟩) b1 ?_
            · (intro W hw; go_simp; rw [CB.out _ hw]; rfl)
            simp only [Act.put, List.setIfInBounds_toArray, List.set_cons_zero, List.set_cons_succ]
            refine wpAnyH_ready (rs := [23]) (by kernel_rfl) (by simp) ?_
            refine AllReadyH.cons (o := { dst := some 119, op := Op.call { callee := Callee.value (Operand.func 14), args := #[Operand.tmp 116, Operand.tmp 118], argTypes := #[39, 3] }, type := 35, pos := "ref.go:48", after := #[{ on := 20, ground := Ground.data }, { on := 22, ground := Ground.data }, { on := 19, ground := Ground.chain }, { on := 19, ground := Ground.guard }], guard := some (19, false) }) rfl (fun K hK => ?_) AllReadyH.nil
            go_simp
            with_reducible refine (BY.out _ b1).mono ?_
            rintro e w4 ⟨g4, rfl, b4, hc4⟩
            go_wp2_with fail
            refine hK.out _ _ b4 (fun _ => ?_)
            clear hK K
            try simp only [Act.put, List.setIfInBounds_toArray, List.set_cons_zero, List.set_cons_succ]
            refine wpAnyH_weaken (S' := fun W => Below w4.heap.size w4 W) (fun W h => below_next b4 h) _ _ _ _ ?_
            refine wpAnyH_take (i := 24) (oi := { dst := some 120, op := Op.convert 35 9 (Operand.tmp 119), type := 9, pos := "ref.go:48", after := #[{ on := 23, ground := Ground.data }, { on := 19, ground := Ground.guard }], guard := some (19, false) }) (v := .string ⟨pb.toArray⟩) rfl (by kernel_rfl) (by kernel_rfl) (by kernel_rfl) (fun _ _ _ h => h) (Or.inl ⟨by rfl, ?_⟩) (Below.refl _ _) ?_
            · (intro W hw; go_simp; try with_reducible rfl)
            simp only [Act.put, List.setIfInBounds_toArray, List.set_cons_zero, List.set_cons_succ]
            refine wpAnyH_take (i := 27) (oi := { dst := some 123, op := Op.binOp BinOp.neq 9 (Operand.tmp 120) (Operand.tmp 122) 9, type := 4, pos := "ref.go:48", after := #[{ on := 24, ground := Ground.data }, { on := 26, ground := Ground.data }, { on := 19, ground := Ground.guard }], guard := some (19, false) }) (v := .bool cm) rfl (by kernel_rfl) (by kernel_rfl) (by kernel_rfl) (fun _ _ _ h => h) (Or.inl ⟨by rfl, ?_⟩) (Below.refl _ _) ?_
            · (intro W hw; go_simp; first | done | exact HCM.out | exact HCM2.out | with_reducible rfl)
            simp only [Act.put, List.setIfInBounds_toArray, List.set_cons_zero, List.set_cons_succ]
            refine wpAnyH_take (i := 28) (oi := { dst := some 124, op := Op.pick (Operand.tmp 115) (Operand.const (Value.bool true)) (Operand.tmp 123), type := 4, pos := "ref.go:48", after := #[{ on := 19, ground := Ground.data }, { on := 27, ground := Ground.data }], guard := none }) (v := ?_) rfl (by kernel_rfl) (by kernel_rfl) (by kernel_rfl) (fun _ _ _ h => h) (Or.inl ⟨by rfl, ?_⟩) (Below.refl _ _) ?_
            rotate_left
            · (intro W hw; go_simp; try with_reducible rfl)
            simp only [Act.put, List.setIfInBounds_toArray, List.set_cons_zero, List.set_cons_succ]
            refine wpAnyH_done (by kernel_rfl) ?_ _
            have HB4 := Lib.hid (below_next HW.out b4)
            have HR4 := Lib.hid (HR.out.below b4)
            clear b1 b4 hc4
            cases cm with
            | false =>
              have hpbb : pb = b := by simpa using HCM.out
              have HPG := Lib.hid (DHF.out.1 HQ0.out hpbb)
              clear hpbb DHF HQ0 HCM
              go_wp2_with fail
              go_ret2
              exact ⟨HB4.out, .inl ⟨Q, _, rfl, HPG.out, HR4.out⟩⟩
            | true =>
              have hpbb : pb ≠ b := by simpa using HCM.out
              have HNP : Hid (∀ M, ¬ IsPage b M) := Lib.hid fun M hM => hpbb (DHF.out.2 M hM).2
              clear hpbb DHF HQ0 HCM
              go_wp2_with fail
              go_ret2
              exact ⟨HB4.out, .inr ⟨HNP.out, rfl⟩⟩
end Go.Proofs.Ytlkkfnimealbkaa
