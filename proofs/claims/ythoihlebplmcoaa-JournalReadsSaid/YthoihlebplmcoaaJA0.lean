/- The reference's Fields. -/
import Derived.Test.YthoihlebplmcoaaJ9
namespace Go.Proofs.Ythoihlebplmcoaa
open Go.RowKit
set_option linter.unusedVariables false
/-- strings that stand in a row. -/
def Strs (w : World) (A : Option Addr) (ss : List ByteArray) : Prop := ∀ i (h : i < ss.length), ∃ g o, A = some ⟨g, o, none⟩ ∧ g < w.heap.size ∧ w.cell? ⟨g, o + i, none⟩ = some (.string ss[i])
theorem Strs.below {w w' : World} {A : Option Addr} {ss : List ByteArray} (h : Strs w A ss) (hb : Below w.heap.size w w') : Strs w' A ss := fun i hi => by
  obtain ⟨g, o, e, hlt, hc⟩ := h i hi
  exact ⟨g, o, e, Nat.lt_of_lt_of_le hlt hb.size, (hb.cell (p := ⟨g, o + i, none⟩) hlt).trans hc⟩
/-- the field of a sector that is told as a string, if it is of the epoch. -/
def fldS (e : Nat) (s : ByteArray) : Option (List UInt8) := if s.data.toList.take 4 == word4 e then some (s.data.toList.drop 4) else none
theorem extract_front (s : ByteArray) : (s.extract 0 4).toList = s.data.toList.take 4 := by
  rw [ByteArray.toList_eq]
  simp
theorem extract_back (s : ByteArray) : (s.extract 4 s.size).data.toList = s.data.toList.drop 4 := by
  have h : s.size = s.data.toList.length := by rw [Array.length_toList]; rfl
  simp
  rw [h, List.take_of_length_le (by simp)]
set_option maxRecDepth 100000 in
set_option maxHeartbeats 1000000 in
theorem refFields_any (A : Option Addr) (c : Nat) (ss : List ByteArray) (e : Nat) (he : e < 4294967296) (w : World) (h : Strs w A ss) (hs : ∀ s ∈ ss, 4 ≤ s.size ∧ s.size ≤ 1024) (hl : ss.length ≤ 100) :
    Calls Try.prog 20 #[.slice A ss.length c, .int .u32 (e : Nat)] w fun r w' => ∃ v, r = .returned v ∧ Row w' w.heap.size v (rowO (ss.map (fldS e))) ∧ Below w.heap.size w w' := by
  have W4 := Lib.hid (refWord_any e he w)
  have H := Lib.hid h
  have HS := Lib.hid hs
  clear h hs
  go_enter Try.func20, Try.ntmps20
  go_wp2_with fail
  refine W4.out.mono ?_
  rintro r w1 ⟨v, rfl, r1, b1⟩
  obtain ⟨A1, c1, rfl, h1, l1, -⟩ := r1.shape
  have CV : Sem.run Try.prog (convert 35 9 (.slice A1 4 c1)) w1 = .ok (.string ⟨(word4 e).toArray⟩) w1 := conv_bytes h1 c1
  have e4 : (word4 e).length = 4 := rfl
  rw [e4]
  have B1 := Lib.hid b1
  clear W4 b1 r1 h1 l1 e4
  have R1 : Hid (Row (w1.alloc (.cells #[] 5)) w.heap.size (.slice (some ⟨w1.heap.size, 0, none⟩) 0 0) []) := Lib.hid (World.ownsRow_lit w1 #[] 0 B1.out.size (by unfold maxLen; omega) rfl)
  have B2 := Lib.hid (B1.out.alloc B1.out.size (.cells #[] 5))
  go_wp2_with fail
  generalize w1.alloc (.cells #[] 5) = w2 at *
  clear B1 CV
  go_loopg [6, 7] (ss.length + 1) (fun j s6 s7 wr => ∃ (i : Nat) (acc : List UInt8), i ≤ ss.length ∧ ss.length < i + j ∧ s7 = .int .i64 (i : Nat) ∧ Row wr w.heap.size s6 acc ∧ acc ++ rowO ((ss.drop i).map (fldS e)) = rowO (ss.map (fldS e)) ∧ acc.length ≤ i * 1024 ∧ Below w.heap.size w wr)
  case atStart => exact ⟨0, [], by omega, by omega, rfl, R1.out, rfl, by simp, B2.out⟩
  case round =>
    obtain ⟨i, acc, hi, hj, rfl, hr, hac, hal, hb⟩ := hrel
    obtain ⟨A6, c6, rfl, -, -, -⟩ := hr.shape
    have HR := Lib.hid hr
    have HB := Lib.hid hb
    have HAC := Lib.hid hac
    clear hr hb hac R1 B2
    by_cases hlt : i < ss.length
    case neg =>
      have hge : ¬ (i : Int) < (ss.length : Int) := by omega
      have hfin : acc = rowO (ss.map (fldS e)) := by
        have := HAC.out
        rw [List.drop_of_length_le (by omega)] at this
        simpa [rowO] using this
      go_wp2_with fail
      go_ret
      rw [← hfin]
      exact ⟨_, rfl, HR.out, HB.out⟩
    have hlti : (i : Int) < (ss.length : Int) := by omega
    obtain ⟨g, o, rfl, -, hc⟩ := (H.out.below HB.out) i hlt
    obtain ⟨hs1, hs2⟩ := HS.out ss[i] (List.getElem_mem _)
    have hs3 : (4 : Int) ≤ (ss[i].size : Int) := by omega
    have hd : ss.drop i = ss[i] :: ss.drop (i + 1) := by rw [List.drop_eq_getElem_cons hlt]
    have hx := extract_front ss[i]
    have hy := extract_back ss[i]
    have hsz : (ss[i].extract 4 ss[i].size).size = ss[i].size - 4 := by simp
    have hf : fldS e ss[i] = if (ss[i].extract 0 4).toList == word4 e then some ((ss[i].extract 4 ss[i].size).data.toList) else none := by
      unfold fldS
      rw [hx, hy]
    generalize ss[i] = s at *
    have hac : acc ++ rowO (fldS e s :: (ss.drop (i + 1)).map (fldS e)) = rowO (ss.map (fldS e)) := by
      have := HAC.out
      rw [hd, List.map_cons] at this
      exact this
    rw [hf] at hac
    clear hx hy hf hd HAC
    cases ht : ((s.extract 0 4).toList == word4 e) with
    | false =>
      rw [ht, if_neg (by simp)] at hac
      have hfin : acc = rowO (ss.map (fldS e)) := by simpa [rowO] using hac
      clear hac
      go_wp2_with fail
      go_ret
      rw [← hfin]
      exact ⟨_, rfl, HR.out, HB.out⟩
    | true =>
      rw [ht, if_pos rfl] at hac
      obtain ⟨v', w6, hap, r6, g6⟩ := append_string HR.out (s.extract 4 s.size) (by rw [hsz]; have : i * 1024 ≤ 100 * 1024 := Nat.mul_le_mul_right _ (by omega); omega) HB.out.size
      have B6 := Lib.hid (below_grown HB.out g6 fun k hk => by
        obtain ⟨cs, hcs⟩ := row_kind HR.out hk
        exact own_ge HR.out hk)
      have R6 := Lib.hid r6
      have HAP := Lib.hid hap
      have HAC2 : Hid ((acc ++ (s.extract 4 s.size).data.toList) ++ rowO ((ss.drop (i + 1)).map (fldS e)) = rowO (ss.map (fldS e))) := Lib.hid (by
        rw [List.append_assoc]
        exact hac)
      have hln : (acc ++ (s.extract 4 s.size).data.toList).length ≤ (i + 1) * 1024 := by
        rw [List.length_append]
        have : (s.extract 4 s.size).data.toList.length = s.size - 4 := by rw [← hsz, Array.length_toList]; rfl
        omega
      clear hac hap r6 g6
      go_wp2_with (at_builtin; refine Lib.wpList_append_run _ rfl (.tmp 27) (.tmp 32) 35 9 rfl _ _ rfl rfl _ _ HAP.out ?_)
      go_roundg (ss.length - i)
      case measure => omega
      case rel => exact ⟨i + 1, _, by omega, by omega, by go_num, R6.out, HAC2.out, hln, B6.out⟩
end Go.Proofs.Ythoihlebplmcoaa
