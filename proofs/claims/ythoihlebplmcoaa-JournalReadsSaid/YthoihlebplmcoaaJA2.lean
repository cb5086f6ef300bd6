/- The reference's Records. -/
import Derived.Test.YthoihlebplmcoaaJR
import Derived.Test.YthoihlebplmcoaaJ7
namespace Go.Proofs.Ythoihlebplmcoaa
open Go.RowKit
set_option linter.unusedVariables false
/-- one byte string more, of a list of the call's own. -/
theorem append_b {We w : World} {v : Value} {al : List (List UInt8)} (ha : ARow We w We.heap.size v al) (hbe : Below We.heap.size We w) (B : Option Addr) (d : Nat) (b : List UInt8) (hB : Holds We B b) (hn : al.length ≤ 100000) :
    ∃ A' c' w', Sem.run Try.prog (Builtin.append_ #[23, 23] 23 #[v, .slice (some ⟨w.heap.size, 0, none⟩) 1 1]) (w.alloc (.cells #[.slice B b.length d] 35)) = .ok (.slice A' (al.length + 1) c') w' ∧ ARow We w' We.heap.size (.slice A' (al.length + 1) c') (al ++ [b]) ∧ Below We.heap.size We w' := by
  have hb : Below w.heap.size w (w.alloc (.cells #[.slice B b.length d] 35)) := (Below.refl _ _).alloc (Nat.le_refl _) _
  have ha1 := ha.still (Still.of_below hb)
  have hb1 := below_next hbe hb
  obtain ⟨v', w', hr, ha2, hg⟩ := append_list ha1 ⟨w.heap.size, 0, none⟩ 1 [⟨B, d, b⟩] (fun i hi => by
    have h0 : i = 0 := by simp at hi; omega
    subst h0
    exact cell_one_new w _ _ 0 _ rfl) (fun y hy => by
    have : y = ⟨B, d, b⟩ := by simpa using hy
    subst this
    exact hB) (by simp; omega) hb1.size
  have hb2 : Below We.heap.size We w' := below_grown hb1 hg fun k hk => by
    obtain ⟨xs, _, ho, _⟩ := ha1.rows
    exact own_ge ho hk
  obtain ⟨A', c', rfl, -, -⟩ := ha2.lists hb2
  have e1 : (al ++ bbs [⟨B, d, b⟩]).length = al.length + 1 := by simp [bbs]
  rw [e1] at hr ha2
  exact ⟨A', c', w', hr, ha2, hb2⟩
theorem lastEnd_append (P : List (List UInt8 × Nat)) (x : List UInt8 × Nat) : lastEnd (P ++ [x]) = x.2 := lastEnd_snoc P x
set_option maxRecDepth 100000 in
set_option maxHeartbeats 2000000 in
theorem refRecords_any (A : Option Addr) (c : Nat) (l : List UInt8) (e : Nat) (he : e < 4294967296) (w : World) (h : Holds w A l) (hc : l.length ≤ c) (hn : l.length ≤ 100000) :
    Calls Try.prog 19 #[.slice A l.length c, .int .i64 60, .int .u32 (e : Nat)] w fun r w' => ∃ v, r = .returned (.tuple #[v, .int .i64 (lastEnd (standR e 60 l) : Nat)]) ∧ ARow w w' w.heap.size v ((standR e 60 l).map Prod.fst) ∧ Below w.heap.size w w' := by
  have R1 : Hid (ARow w (w.alloc (.cells #[] 35)) w.heap.size (.slice (some ⟨w.heap.size, 0, none⟩) 0 0) []) := Lib.hid ⟨[], rfl, World.ownsRow_lit w #[] 0 (Nat.le_refl _) (by unfold maxLen; omega) rfl, by simp⟩
  have B1 := Lib.hid ((Below.refl w.heap.size w).alloc (Nat.le_refl _) (.cells #[] 35))
  have H := Lib.hid h
  clear h
  go_enter Try.func19, Try.ntmps19
  go_wp2_with fail
  generalize w.alloc (.cells #[] 35) = w1 at *
  go_loopg [8, 9, 10, 11, 12, 13] (l.length + 2) (fun j s8 s9 s10 s11 s12 s13 wr => ∃ (at_ : Nat) (P : List (List UInt8 × Nat)) (A8 : Option Addr) (c8 : Nat), at_ ≤ l.length ∧ l.length + 1 < at_ + j ∧ P.length ≤ at_ ∧ s9 = .int .i64 (at_ : Nat) ∧ s8 = .slice A8 P.length c8 ∧ ARow w wr w.heap.size (.slice A8 P.length c8) (P.map Prod.fst) ∧ standR e 60 l = P ++ standA e 60 l (l.length + 1) (beg 60 at_) ∧ lastEnd P = at_ ∧ Below w.heap.size w wr)
  case atStart => exact ⟨0, [], _, _, by omega, by omega, by simp, rfl, rfl, R1.out, rfl, rfl, B1.out⟩
  case round =>
    obtain ⟨at_, P, A8, c8, h1, h2, hP, rfl, rfl, har, hst, hle, hb⟩ := hrel
    have AR := Lib.hid har
    have ST := Lib.hid hst
    have LE := Lib.hid hle
    have HB := Lib.hid hb
    have BG := Lib.hid (refBegin_any at_ (by omega) wr)
    have hbb := beg_bounds 60 at_ (by omega)
    clear har hst hle hb R1 B1
    go_wp2_with fail
    refine BG.out.mono ?_
    rintro r w2 ⟨rfl, rfl⟩
    by_cases hlt : beg 60 at_ < l.length
    case neg =>
      have hge : (l.length : Int) ≤ (beg 60 at_ : Nat) := by omega
      have hf : standR e 60 l = P := by
        rw [ST.out, standA_stop e 60 l _ (.inl (by omega)), List.append_nil]
      go_wp2_with fail
      go_ret2
      rw [hf]
      rw [LE.out]
      exact ⟨_, rfl, AR.out, HB.out⟩
    have hlti : ¬ (l.length : Int) ≤ (beg 60 at_ : Nat) := by omega
    obtain ⟨f, hf⟩ : ∃ f, beg 60 at_ = f := ⟨_, rfl⟩
    rw [hf] at hlt hlti hbb
    have hst := ST.out
    rw [hf] at hst
    have hA0 := H.out
    obtain ⟨bb, o, rfl, -, -⟩ := hA0 0 (by omega)
    have hcf : ¬ c = f := by omega
    have hdr : ∀ W, Holds W (some ⟨bb, o, none⟩) l → Holds W (some ⟨bb, o + f, none⟩) (l.drop f) := fun W hW => by
      have h := hW.drop f c hc
      rw [if_neg hcf] at h
      simp only [Option.map_some, Addr.add_lit] at h
      exact h
    have hdl : (l.drop f).length = l.length - f := List.length_drop
    have OP := ropen2_any e he (some ⟨bb, o + f, none⟩) (c - f) (l.drop f) wr (hdr _ (hA0.below HB.out)) (by rw [hdl]; omega) (by rw [hdl]; omega)
    rw [hdl] at OP
    replace OP := Lib.hid OP
    have hfi : (f : Int) ≤ (l.length : Int) := by omega
    have hfc : (f : Int) ≤ (c : Int) := by omega
    have hlc : (l.length : Int) ≤ (c : Int) := by omega
    rw [hf]
    have HDR := Lib.hid hdr
    have HST := Lib.hid hst
    clear BG ST hst hdr hf hA0
    go_wp2_with fail
    refine OP.out.mono ?_
    rintro r w2 ⟨Ab, cb, rfl, hB, b2⟩
    have hst := HST.out
    by_cases h0 : openE e (l.drop f) = 0
    case neg =>
      have hf : standR e 60 l = P := by
        rw [hst, standA_stop e 60 l _ (.inr h0), List.append_nil]
      have h0i : ¬ (openE e (l.drop f) : Int) = 0 := by omega
      have h0b : (((openE e (l.drop f) : Nat) : Int) != 0) = true := by simpa using h0
      have h0n : (openE e (l.drop f) == 0) = false := by simpa using h0
      have AR2 := Lib.hid (AR.out.still (Still.of_below b2))
      have B2 := Lib.hid (below_next HB.out b2)
      clear OP hst HST b2 hB AR HB
      generalize openE e (l.drop f) = oe at *
      go_wp2_with fail
      go_ret2
      rw [hf]
      rw [LE.out]
      exact ⟨_, rfl, AR2.out, B2.out⟩
    have hp := openN_pos h0
    rw [hdl] at hp
    rw [standA_step e 60 l (by omega) f hlt h0] at hst
    have AR2 := AR.out.still (Still.of_below b2)
    obtain ⟨A9, c9, w9, hap, r9, b9⟩ := append_b AR2 (below_next HB.out b2) Ab cb (openB e (l.drop f)) (hB w (HDR.out w H.out)) (by rw [List.length_map]; omega)
    rw [List.length_map] at hap r9
    have hmap : P.map Prod.fst ++ [openB e (l.drop f)] = (P ++ [(openB e (l.drop f), f + openN e (l.drop f))]).map Prod.fst := by simp
    rw [hmap] at r9
    have HAP := Lib.hid hap
    have R9 := Lib.hid r9
    have B9 := Lib.hid b9
    have ST9 : Hid (standR e 60 l = (P ++ [(openB e (l.drop f), f + openN e (l.drop f))]) ++ standA e 60 l (l.length + 1) (beg 60 (f + openN e (l.drop f)))) := Lib.hid (by rw [hst, List.append_assoc]; rfl)
    have LE9 : Hid (lastEnd (P ++ [(openB e (l.drop f), f + openN e (l.drop f))]) = f + openN e (l.drop f)) := Lib.hid (lastEnd_append P _)
    have PL9 : Hid ((P ++ [(openB e (l.drop f), f + openN e (l.drop f))]).length = P.length + 1) := Lib.hid (by simp)
    rw [h0]
    clear OP hst HST b2 hB AR HB hap r9 b9 hmap AR2 LE HDR h0
    generalize P ++ [(openB e (l.drop f), f + openN e (l.drop f))] = P9 at *
    generalize openB e (l.drop f) = ob9 at *
    generalize openN e (l.drop f) = n9 at *
    rw [← PL9.out] at HAP R9
    go_wp2_with (at_builtin; refine Lib.wpList_append_run _ rfl (.tmp 37) (.tmp 39) 23 23 rfl _ _ rfl rfl _ _ HAP.out ?_)
    go_roundg (l.length + 1 - at_)
    case measure => omega
    case rel => exact ⟨f + n9, P9, A9, c9, by omega, by omega, by rw [PL9.out]; omega, by go_num, rfl, R9.out, ST9.out, LE9.out, B9.out⟩
end Go.Proofs.Ythoihlebplmcoaa
