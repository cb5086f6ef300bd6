/- LexNames, walked. -/
import Derived.Test.YtbpknainmefidaaGreatDoorWN0
namespace Go.Proofs.YtbpknainmefidaaGreatDoor
open Go.RowKit Go.Lib
set_option linter.unusedVariables false

namespace Lx
theorem isName_cons (c : UInt8) (r : List UInt8) : isName (c :: r) = (decide ((c :: r).length ≤ 16) && low c && r.all nm && !res (c :: r)) := rfl
theorem isName_all {c : UInt8} {r : List UInt8} (h1 : (c :: r).length ≤ 16) (h2 : low c = true) (h3 : res (c :: r) = false) : isName (c :: r) = (c :: r).all nm := by
  have hd : decide ((c :: r).length ≤ 16) = true := decide_eq_true h1
  have hn : nm c = true := by simp [nm, h2]
  rw [isName_cons, h2, h3, hd, List.all_cons, hn]
  simp
theorem name_first {s : List UInt8} {T : List Tk} (h : lx s = .ok T) (h0 : 0 < T.length) (h1 : T[0].kind = 1) (h2 : T[0].text = s) : isName s = true := by
  unfold lx at h
  split at h
  · cases h
  · obtain ⟨A, hA, hi⟩ := lex_at _ _ _ _ (Nat.lt_succ_self _) h
    have hA0 : 0 < A.length := by
      rcases Nat.eq_zero_or_pos A.length with hz | hz
      · have : A = [] := List.eq_nil_of_length_eq_zero hz
        subst this
        subst hA
        simp at h1
      · exact hz
    have hT0 : T[0] = A[0] := by subst hA; rw [List.getElem_append_left hA0]
    rw [hT0] at h1 h2
    obtain ⟨q, -, q2, -, c, r, q4, -, -, q7, q8, q9⟩ := hi 0 hA0
    have hw := word_ok c r q7
    have hlen : s.length - q = r.length + 1 := by have := congrArg List.length q4; simpa using this
    rw [h1] at q8
    rw [h2] at q9
    unfold word at q7 q8 q9
    by_cases n1 : low c = true
    · simp only [if_pos n1, nameW] at q7 q8 q9
      have htl := tw_le nm r
      have hsl := congrArg List.length q9
      simp only [List.length_cons] at hsl
      have hres : res (c :: r.takeWhile nm) = false := by
        cases hr : res (c :: r.takeWhile nm)
        · rfl
        · rw [hr] at q8; simp at q8
      simp only [hres, Bool.false_eq_true, if_false] at q7
      have h16 : ¬ 16 < (c :: r.takeWhile nm).length := fun h => by rw [if_pos h] at q7; cases q7
      rw [q9]
      simp only [isName, Bool.and_eq_true, decide_eq_true_eq, Bool.not_eq_true', List.all_eq_true]
      exact ⟨⟨⟨by omega, n1⟩, fun x hx => tw_all nm r x hx⟩, hres⟩
    · simp only [if_neg n1] at q8
      exfalso
      by_cases n2 : dig c = true
      · simp only [if_pos n2, numW] at q8; exact absurd q8 (by decide)
      · simp only [if_neg n2] at q8
        by_cases n3 : c = 39
        · simp only [if_pos n3, textW] at q8; exact absurd q8 (by decide)
        · simp only [if_neg n3] at q8
          by_cases n4 : (pre2 c && r.head? == some 61) = true
          · simp only [if_pos n4] at q8; exact absurd q8 (by decide)
          · simp only [if_neg n4] at q8; exact absurd q8 (by decide)
theorem not_bad {s : List UInt8} {c p : Nat} (h : lx s = .bad c p) : isName s = false := by
  rw [Bool.eq_false_iff]
  intro hn
  rw [name_lex hn] at h
  cases h
end Lx

set_option maxRecDepth 100000 in
set_option maxHeartbeats 1000000 in
theorem refName_any (s : ByteArray) (w : World) (hs : s.size ≤ 6000) :
    Calls Tryz.prog 47 #[.string s] w fun e w' => e = .returned (.bool (Lx.isName s.data.toList)) ∧ Below w.heap.size w w' := by
  by_cases hz : s.size = 0
  · have E : Hid (Lx.isName s.data.toList = false) := Lib.hid (by
      have : s.data.toList = [] := List.eq_nil_of_length_eq_zero (by rw [list_size]; exact hz)
      rw [this]; rfl)
    have h1 : ((s.size : Int) == 0) = true := by rw [beq_iff_eq]; omega
    clear hz
    go_enter Tryz.func47, Tryz.ntmps47
    go_wp2
    go_ret
    exact ⟨retB2 E.out.symm, Below.refl _ _⟩
  · have h1 : ((s.size : Int) == 0) = false := by rw [beq_eq_false_iff_ne]; omega
    have h0 : 0 < s.size := by omega
    have h0i : (0 : Int) < (s.size : Int) := by omega
    have hd : s.data.toList = s[0] :: s.data.toList.drop 1 := by have := drop_at s 0 h0; rwa [List.drop_zero] at this
    have HD := Lib.hid hd
    clear hz
    by_cases h16 : 16 < s.size
    · have E : Hid (Lx.isName s.data.toList = false) := Lib.hid (by
        rw [hd, Lx.isName_cons, ← hd, list_size]
        have : decide (s.size ≤ 16) = false := by simp; omega
        rw [this]; rfl)
      have d1 : decide ((16 : Int) < (s.size : Int)) = true := by simp; omega
      clear hd h16
      go_enter Tryz.func47, Tryz.ntmps47
      go_wp2
      go_ret
      exact ⟨retB2 E.out.symm, Below.refl _ _⟩
    · have d1 : decide ((16 : Int) < (s.size : Int)) = false := by simp; omega
      have LE := Lib.hid (letter_any s[0] w)
      cases hl : Lx.low s[0]
      · have E : Hid (Lx.isName s.data.toList = false) := Lib.hid (by
          rw [hd, Lx.isName_cons, hl]; simp)
        rw [hl] at LE
        clear hd hl h16
        go_enter Tryz.func47, Tryz.ntmps47
        go_wp2_with fail
        refine (LE.out).mono ?_
        rintro e w' ⟨rfl, rfl⟩
        go_wp2
        go_ret
        exact ⟨retB2 E.out.symm, Below.refl _ _⟩
      · rw [hl] at LE
        have RS := Lib.hid (refReserved_any s w)
        cases hr : Lx.res s.data.toList
        · have E : Hid (Lx.isName s.data.toList = s.data.toList.all Lx.nm) := Lib.hid (by
            have hr2 := hr
            rw [hd] at hr2 ⊢
            exact Lx.isName_all (by rw [← hd, list_size]; omega) hl hr2)
          rw [hr] at RS
          have hs16 : (s.size : Int) ≤ 16 := by omega
          clear hd hl h16 hr
          go_enter Tryz.func47, Tryz.ntmps47
          go_wp2_with fail
          refine (LE.out).mono ?_
          rintro e w' ⟨rfl, rfl⟩
          go_wp2_with fail
          refine (RS.out).mono ?_
          rintro e w1 ⟨rfl, hb1⟩
          have B1 := Lib.hid hb1
          clear hb1 RS LE
          go_wp2_with fail
          go_loopg [3] (s.size + 1) (fun j s3 wr => ∃ i : Nat, i ≤ s.size ∧ s.size < i + j ∧ s3 = .int .i64 (i : Nat) ∧ Hid (∀ c ∈ s.data.toList.take i, Lx.nm c = true) ∧ wr = w1)
          case atStart => exact ⟨0, by omega, by omega, rfl, Lib.hid (by simp), rfl⟩
          case round =>
            obtain ⟨i, hi, hj, rfl, HI, rfl⟩ := hrel
            by_cases hlt : i < s.size
            · have hlt' : (i : Int) < (s.size : Int) := by omega
              have hi9 : (i : Int) < 17 := by omega
              have LC := Lib.hid (letter_any s[i] wr)
              have DC := Lib.hid (digit_any s[i] wr)
              have HN : Hid (Lx.nm s[i] = true → ∀ c ∈ s.data.toList.take (i + 1), Lx.nm c = true) := Lib.hid (fun hc => by
                rw [take_snoc' s i hlt]
                intro c hc2
                rw [List.mem_append] at hc2
                rcases hc2 with hc2 | hc2
                · exact HI.out c hc2
                · simp only [List.mem_singleton] at hc2; subst hc2; exact hc)
              have HF : Hid (Lx.nm s[i] = false → Lx.isName s.data.toList = false) := Lib.hid (fun hc => by
                rw [E.out, List.all_eq_false]
                exact ⟨s[i], List.getElem_mem (l := s.data.toList) (by simpa using hlt), by rw [hc]; decide⟩)
              cases hl : Lx.low s[i]
              · rw [hl] at LC
                cases hdg : dig s[i]
                · rw [hdg] at DC
                  by_cases h95 : s[i] = 95
                  · have b1 : ((s[i].toNat : Int) != 95) = false := by rw [bne_eq_false_iff_eq, h95]; rfl
                    have HI2 := Lib.hid (HN.out (by rw [Lx.nm, h95]; decide))
                    clear hl hdg h95 HN HF HI
                    go_wp2_with fail
                    refine (LC.out).mono ?_
                    rintro e w' ⟨rfl, rfl⟩
                    go_wp2_with fail
                    refine (DC.out).mono ?_
                    rintro e w' ⟨rfl, rfl⟩
                    go_wp2_with fail
                    go_roundg (s.size - i)
                    case measure => omega
                    case rel => exact ⟨i + 1, by omega, by omega, by go_num, HI2, rfl⟩
                  · have b1 : ((s[i].toNat : Int) != 95) = true := by
                      rw [bne_iff_ne]; intro e; apply h95; apply UInt8.toNat_inj.1; show s[i].toNat = 95; omega
                    have EF := Lib.hid (HF.out (by rw [Lx.nm, hl, hdg]; simpa using h95))
                    clear hl hdg h95 HN HF HI
                    go_wp2_with fail
                    refine (LC.out).mono ?_
                    rintro e w' ⟨rfl, rfl⟩
                    go_wp2_with fail
                    refine (DC.out).mono ?_
                    rintro e w' ⟨rfl, rfl⟩
                    go_wp2_with fail
                    go_ret
                    exact ⟨retB2 EF.out.symm, B1.out⟩
                · rw [hdg] at DC
                  have HI2 := Lib.hid (HN.out (by rw [Lx.nm, hdg]; simp))
                  clear hl hdg HN HF HI
                  go_wp2_with fail
                  refine (LC.out).mono ?_
                  rintro e w' ⟨rfl, rfl⟩
                  go_wp2_with fail
                  refine (DC.out).mono ?_
                  rintro e w' ⟨rfl, rfl⟩
                  go_wp2_with fail
                  go_roundg (s.size - i)
                  case measure => omega
                  case rel => exact ⟨i + 1, by omega, by omega, by go_num, HI2, rfl⟩
              · rw [hl] at LC
                have HI2 := Lib.hid (HN.out (by rw [Lx.nm, hl]; simp))
                clear hl HN HF HI
                go_wp2_with fail
                refine (LC.out).mono ?_
                rintro e w' ⟨rfl, rfl⟩
                go_wp2_with fail
                go_roundg (s.size - i)
                case measure => omega
                case rel => exact ⟨i + 1, by omega, by omega, by go_num, HI2, rfl⟩
            · have hlt' : ¬ (i : Int) < (s.size : Int) := by omega
              have ET : Hid (Lx.isName s.data.toList = true) := Lib.hid (by
                rw [E.out, List.all_eq_true]
                have := HI.out
                rwa [List.take_of_length_le (by rw [list_size]; omega)] at this)
              clear HI
              go_wp2_with fail
              go_ret
              exact ⟨retB2 ET.out.symm, B1.out⟩
        · have E : Hid (Lx.isName s.data.toList = false) := Lib.hid (by
            have hr2 := hr
            rw [hd] at hr2 ⊢
            rw [Lx.isName_cons, hr2]; simp)
          rw [hr] at RS
          clear hd hl h16 hr
          go_enter Tryz.func47, Tryz.ntmps47
          go_wp2_with fail
          refine (LE.out).mono ?_
          rintro e w' ⟨rfl, rfl⟩
          go_wp2_with fail
          refine (RS.out).mono ?_
          rintro e w1 ⟨rfl, hb1⟩
          have B1 := Lib.hid hb1
          clear hb1 RS LE
          go_wp2
          go_ret
          exact ⟨retB2 E.out.symm, B1.out⟩

/-- what is looked at of the first word. -/
theorem first_word {w : World} {A : Option Addr} {T : List Lx.Tk} (h : TAt w A T) (h0 : 0 < T.length) : ∃ b off, A = some ⟨b, off, none⟩ ∧ w.cell? ⟨b, off, none⟩ = some (.int .i64 (T[0].kind : Nat)) ∧ w.cell? ⟨b, off + 1, none⟩ = some (.string (str T[0].text)) := by
  obtain ⟨b, off, h1, -, h3, h4, -⟩ := h 0 h0
  rw [Nat.zero_mul, Nat.add_zero] at h3 h4
  exact ⟨b, off, h1, h3, h4⟩
theorem str_beq (t : List UInt8) (s : ByteArray) : ((str t).toList == s.toList) = (t == s.data.toList) := by
  rw [ByteArray.toList_eq, ByteArray.toList_eq]
set_option maxRecDepth 100000 in
set_option maxHeartbeats 1000000 in
theorem lexName_any (s : ByteArray) (w : World) (a : Addr) (m : Int) (hv : Env w a m) :
    Calls Tryz.prog 37 #[.string s] w fun e w' => e = .returned (.bool (Lx.isName s.data.toList)) ∧ Below w.heap.size w w' := by
  have L1 := Lib.hid (lex_any s w a m hv)
  clear hv
  cases hlx : Lx.lx s.data.toList with
  | bad c p =>
    have hc := Lx.lx_bad hlx
    have E := Lib.hid (Lx.not_bad hlx)
    have L2 : Hid (Calls Tryz.prog 32 #[.string s] w fun e w' => LexBad w (c : Nat) (p : Nat) e w') := Lib.hid (by have := L1.out; rw [hlx] at this; exact this)
    have hc1 : ((c : Int) == 0) = false := by rw [beq_eq_false_iff_ne]; omega
    clear L1 hlx hc
    go_enter Tryz.func37, Tryz.ntmps37
    go_wp2_with fail
    refine (L2.out).mono ?_
    rintro e w2 ⟨rfl, hb2⟩
    have B2 := Lib.hid hb2
    clear hb2 L2
    go_wp2
    go_ret
    exact ⟨retB2 E.out.symm, B2.out.alloc B2.out.size _⟩
  | ok T =>
    have L2 : Hid (Calls Tryz.prog 32 #[.string s] w fun e w' => LexOk w T e w') := Lib.hid (by have := L1.out; rw [hlx] at this; exact this)
    obtain ⟨A0, hA0, hTl, -⟩ := Lx.lx_ok hlx
    have h0 : 0 < T.length := by rw [hA0]; simp
    have h0i : (0 : Int) < (T.length : Int) := by omega
    have HNF := Lib.hid (Lx.name_first hlx h0)
    have HNL : Hid (Lx.isName s.data.toList = true → T[0].kind = 1 ∧ T[0].text = s.data.toList) := Lib.hid (fun hn => by
      have := Lx.name_lex hn
      rw [hlx] at this
      cases this
      exact ⟨rfl, rfl⟩)
    clear L1 hlx hA0
    go_enter Tryz.func37, Tryz.ntmps37
    go_wp2_with fail
    refine (L2.out).mono ?_
    rintro e w2 ⟨AA, cp, rfl, hcp, hT, hb2, -⟩
    have bw : Below w2.heap.size w2 (w2.alloc (.cells #[.int .i64 0, .int .i64 0] 41)) := (Below.refl _ _).alloc (Nat.le_refl _) _
    have B3 := Lib.hid (bstep hb2 bw)
    obtain ⟨b, off, rfl, c0, c1⟩ := first_word (hT.below bw) h0
    clear hb2 L2 hT bw
    generalize T[0] = x at *
    obtain ⟨xk, xt, xa⟩ := x
    dsimp only at c0 c1 HNF HNL
    by_cases hk : xk = 1
    · subst hk
      by_cases ht : xt = s.data.toList
      · have E := Lib.hid (HNF.out rfl ht)
        have HB2 : Hid ((xt == s.toList) = true) := Lib.hid (by rw [ByteArray.toList_eq, beq_iff_eq]; exact ht)
        clear ht HNF HNL
        go_wp2
        go_ret
        exact ⟨retB2 (HB2.out.trans E.out.symm), B3.out⟩
      · have E : Hid (Lx.isName s.data.toList = false) := Lib.hid (by rw [Bool.eq_false_iff]; exact fun h => ht (HNL.out h).2)
        have HB2 : Hid ((xt == s.toList) = false) := Lib.hid (by rw [ByteArray.toList_eq, beq_eq_false_iff_ne]; exact ht)
        clear ht HNF HNL
        go_wp2
        go_ret
        exact ⟨retB2 (HB2.out.trans E.out.symm), B3.out⟩
    · have E : Hid (Lx.isName s.data.toList = false) := Lib.hid (by rw [Bool.eq_false_iff]; exact fun h => hk (HNL.out h).1)
      have hb : ((xk : Int) == 1) = false := by rw [beq_eq_false_iff_ne]; omega
      clear hk HNF HNL
      go_wp2
      go_ret
      exact ⟨retB2 E.out.symm, B3.out⟩

/-- is there just one word, a name, and this one? -/
def oneB (T : List Lx.Tk) (s : List UInt8) : Bool := T.length == 2 && (T.map fun t => (t.kind, t.text)).head? == some (1, s)
end Go.Proofs.YtbpknainmefidaaGreatDoor
