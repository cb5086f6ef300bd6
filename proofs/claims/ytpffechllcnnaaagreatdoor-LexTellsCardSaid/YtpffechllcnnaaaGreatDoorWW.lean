/- Words, walked. -/
import Derived.Test.YtpffechllcnnaaaGreatDoorWS
namespace Go.Proofs.YtpffechllcnnaaaGreatDoor
open Go.RowKit Go.Lib
set_option linter.unusedVariables false

def texts (T : List Lx.Tk) : List ByteArray := T.map fun t => str t.text
theorem SRow.asStrs {w : World} {base : Nat} {v : Value} {ss : List ByteArray} (h : SRow w base v ss) : ∃ A c, v = .slice A ss.length c ∧ Strs w A ss ∧ ss.length ≤ c := by
  obtain ⟨A, c, e, hc, hi⟩ := h.shape
  refine ⟨A, c, e, fun i h => ?_, hc⟩
  obtain ⟨g, h1, -, h3, h4⟩ := hi i h
  exact ⟨g, 0, h1, h3, by rw [Nat.zero_add]; exact h4⟩
/-- what Words tells. -/
def WordsPost (w : World) (o : Lx.Out) (e : Ending) (w' : World) : Prop := match o with
  | .ok T => ∃ A c, e = .returned (.tuple #[.slice A (T.length - 1) c, .int .i64 0]) ∧ Strs w' A (texts (T.take (T.length - 1))) ∧ Below w.heap.size w w'
  | .bad c p => e = .returned (.tuple #[.slice none 0 0, .int .i64 (c : Nat)]) ∧ Below w.heap.size w w'
set_option maxRecDepth 100000 in
set_option maxHeartbeats 1000000 in
theorem words_any (s : ByteArray) (w : World) (a : Addr) (m : Int) (hv : Env w a m) :
    Calls Tryz.prog 10 #[.string s] w fun e w' => WordsPost w (Lx.lx s.data.toList) e w' := by
  have L1 := Lib.hid (lex_any s w a m hv)
  clear hv
  cases hlx : Lx.lx s.data.toList with
  | bad c p =>
    have hc := Lx.lx_bad hlx
    have L2 : Hid (Calls Tryz.prog 8 #[.string s] w fun e w' => LexBad w (c : Nat) (p : Nat) e w') := Lib.hid (by have := L1.out; rw [hlx] at this; exact this)
    have hc1 : ((c : Int) == 0) = false := by rw [beq_eq_false_iff_ne]; omega
    have hc2 : ((c : Int) != 0) = true := by rw [bne_iff_ne]; omega
    clear L1 hlx hc
    go_enter Tryz.func10, Tryz.ntmps10
    go_wp2_with fail
    refine (L2.out).mono ?_
    rintro e w2 ⟨rfl, hb2⟩
    have B2 := Lib.hid (hb2.alloc hb2.size (.cells #[.int .i64 (c : Nat), .int .i64 (p : Nat)] 26))
    clear hb2 L2
    go_wp2_with fail
    go_quiet (fail)
    go_wp2_with fail
    go_ret2
    exact ⟨rfl, _root_.Go.Proofs.YtpffechllcnnaaaGreatDoor.below_drewN B2.out _⟩
  | ok T =>
    have L2 : Hid (Calls Tryz.prog 8 #[.string s] w fun e w' => LexOk w T e w') := Lib.hid (by have := L1.out; rw [hlx] at this; exact this)
    obtain ⟨A0, hA0, hTl, -⟩ := Lx.lx_ok hlx
    have h1 : 1 ≤ T.length := by rw [hA0]; simp
    have hT5 : T.length ≤ 4001 := by have := (Lx.lx_small hlx).1; omega
    clear L1 hlx hA0 hTl
    go_enter Tryz.func10, Tryz.ntmps10
    go_wp2_with fail
    refine (L2.out).mono ?_
    rintro e w2 ⟨A, cp, rfl, hcp, hT, hb2, -⟩
    have bw : Below w2.heap.size w2 (w2.alloc (.cells #[.int .i64 0, .int .i64 0] 26)) := (Below.refl _ _).alloc (Nat.le_refl _) _
    have B3 := Lib.hid (bstep hb2 bw)
    have HT3 := Lib.hid (hT.below bw)
    have x1 : (1 : Int) ≤ (T.length : Int) := by omega
    have x2 : ((T.length : Int) - 1) ≤ (cp : Int) := by omega
    have x3 : (T.length : Int) ≤ 4001 := by omega
    clear hb2 L2 hT bw
    go_wp2_with fail
    clear x2
    obtain ⟨n, hn⟩ : ∃ n, n = T.length - 1 := ⟨_, rfl⟩
    have hnl : n < T.length := by omega
    rw [← hn]
    have HN := Lib.hid hn
    clear hn x1 h1
    generalize w2.alloc (.cells #[.int .i64 0, .int .i64 0] 26) = w3 at *
    go_loopg [6, 25] (n + 1) (fun j s6 s25 wr => ∃ i : Nat, i ≤ n ∧ n < i + j ∧ s25 = .int .i64 (i : Nat) ∧ Hid (SRow wr w3.heap.size s6 (texts (T.take i))) ∧ Hid (Below w3.heap.size w3 wr))
    case atStart => exact ⟨0, by omega, by omega, rfl, Lib.hid (SRow.nil _ _), Lib.hid (Below.refl _ _)⟩
    case round =>
      obtain ⟨i, hi, hj, rfl, HR, HB⟩ := hrel
      by_cases hlt : i < n
      · have hlt' : (i : Int) < (n : Int) := by omega
        have hi9 : (i : Int) < 4001 := by omega
        have hiT : i < T.length := by omega
        obtain ⟨b, off, hAe, hbl, c0, c1, c2⟩ := (HT3.out.below HB.out) i hiT
        subst hAe
        have hts : texts (T.take (i + 1)) = texts (T.take i) ++ [str T[i].text] := by
          rw [List.take_succ_eq_append_getElem hiT, texts, texts, List.map_append]; rfl
        have htl : (texts (T.take i)).length ≤ 1000000 := by simp [texts]; omega
        generalize T[i] = x at *
        obtain ⟨xk, xt, xa⟩ := x
        dsimp only at c0 c1 c2 hts
        have bw : Below wr.heap.size wr (wr.alloc (tokObj ⟨xk, xt, xa⟩)) := (Below.refl _ _).alloc (Nat.le_refl _) _
        have hown := HR.out.block
        obtain ⟨v5, u4, hap, hvr, hgr⟩ := append_str (HR.out.below bw) (str xt) htl (Nat.le_trans HB.out.size bw.size)
        have B4 := Lib.hid (below_grown ((HB.out.alloc HB.out.size (tokObj ⟨xk, xt, xa⟩)).alloc (by have := HB.out.size; simp; omega) (.cells #[.string (str xt)] 9)) hgr (fun k hk => (hown k hk).1))
        rw [← hts] at hvr
        rw [World.size_alloc] at hap
        have HAP := Lib.hid hap
        have HV4 := Lib.hid hvr
        clear hap hvr hgr hown bw HR HB hts htl
        go_wp2_with (at_builtin; refine Lib.wpList_append_run _ rfl (.tmp 29) (.tmp 32) 29 29 rfl _ _ rfl rfl _ _ HAP.out ?_)
        go_roundg (n - i)
        case measure => omega
        case rel => exact ⟨i + 1, by omega, by omega, by go_num, HV4, B4⟩
      · have hlt' : ¬ (i : Int) < (n : Int) := by omega
        have hie : i = n := by omega
        subst hie
        obtain ⟨A', c', rfl, hS, -⟩ := HR.out.asStrs
        have hlen : (texts (T.take i)).length = T.length - 1 := by rw [← HN.out]; simp [texts]; omega
        rw [hlen]
        have HS := Lib.hid hS
        have B5 := Lib.hid (bstep B3.out HB.out)
        have HE : Hid (texts (T.take i) = texts (T.take (T.length - 1))) := Lib.hid (by rw [HN.out])
        clear hS HR HB hlen
        go_wp2_with fail
        have hpost : WordsPost w (.ok T) (.returned (.tuple #[.slice A' (T.length - 1) c', .int .i64 0])) wr := ⟨A', c', rfl, by rw [← HE.out]; exact HS.out, B5.out⟩
        go_ret2
        exact hpost
end Go.Proofs.YtpffechllcnnaaaGreatDoor
