/- Words of a source, walked: what stands between them. -/
import Derived.Test.YtbpknainmefidaaGreatDoorWA
namespace Go.Proofs.YtbpknainmefidaaGreatDoor
open Go.RowKit Go.Lib
set_option linter.unusedVariables false

set_option maxRecDepth 100000 in
theorem between_any (s : ByteArray) (m : Int) (w : World) (hm : MaxAt w m) (hs : s.size ≤ 6000) :
    Calls Tryz.prog 41 #[.string s] w fun e w' => e = .returned (.int .i64 (Lx.btw s.data.toList : Nat)) ∧ Below w.heap.size w w' := by
  have HM := Lib.hid hm
  have hs2 : (s.size : Int) ≤ 6000 := by omega
  clear hm
  have TT := Lib.hid (fun (s : ByteArray) (w : World) => trim_any s w)
  have NN := Lib.hid (fun (s : ByteArray) (w : World) => note_any s w)
  go_enter Tryz.func41, Tryz.ntmps41
  go_wp2_with fail
  refine (TT.out _ _).mono ?_
  rintro e w1 ⟨rfl, hb⟩
  have HB := Lib.hid hb
  have hz : (str (trimLeftS s.data.toList Lx.blanksL)).size ≤ s.size := by rw [str_size]; have := trimB_le s.data.toList; have := list_size s; omega
  have HK : Hid (Lx.sk false (str (trimLeftS s.data.toList Lx.blanksL)).data.toList = Lx.sk false s.data.toList) := Lib.hid (by
    show Lx.sk false (trimLeftS s.data.toList Lx.blanksL) = _
    rw [Lx.trim_blanks, Lx.sk_blank])
  have HH : Hid (∀ c, (str (trimLeftS s.data.toList Lx.blanksL)).data.toList.head? = some c → ¬ Lx.blank c = true) := Lib.hid (trimB_head s.data.toList)
  clear hb
  generalize str (trimLeftS s.data.toList Lx.blanksL) = r at *
  go_wp2_with fail
  go_loopg [3] (s.size + 1) (fun j s3 wr => ∃ r : ByteArray, r.size ≤ s.size ∧ r.size < j ∧ s3 = .string r ∧ Hid (Lx.sk false r.data.toList = Lx.sk false s.data.toList) ∧ Hid (∀ c, r.data.toList.head? = some c → ¬ Lx.blank c = true) ∧ Hid (Below w.heap.size w wr))
  case atStart => exact ⟨r, hz, by omega, rfl, HK, HH, HB⟩
  case round =>
    clear HK HH HB hz
    obtain ⟨r, hz, hj, rfl, HK, HH, HB⟩ := hrel
    by_cases h35 : r.data.toList.head? = some 35
    · have hne : r.data.toList ≠ [] := by intro e; rw [e] at h35; cases h35
      obtain ⟨q, hq⟩ : ∃ q, r.data.toList = 35 :: q := by
        cases hr : r.data.toList with
        | nil => exact absurd hr hne
        | cons c q => rw [hr] at h35; cases h35; exact ⟨q, rfl⟩
      have hless := Lx.note_less r.data.toList hne
      have hc2 : (str (Lib.cut r.data.toList [10]).2.1).size ≤ 6000 := by
        rw [str_size, Lx.cut_line, List.length_drop]; have := list_size r; omega
      have N1 : Hid (∀ w, Calls Tryz.prog 50 #[.string r, .string ⟨#[35]⟩] w fun e w' => e = .returned (.bool true) ∧ w' = w) := Lib.hid (fun w => by
        have := NN.out r w; rw [h35] at this; exact this)
      have K1 : Hid (Lx.sk false (trimLeftS (Lib.cut r.data.toList [10]).2.1 Lx.blanksL) = Lx.sk false s.data.toList) := Lib.hid (by
        rw [← HK.out, hq]; exact (Lx.round_note q).symm)
      have C1 := Lib.hid (fun w (hm : MaxAt w m) => cutLine_any r m w hm (by omega))
      have L1 : Hid ((trimLeftS (Lib.cut r.data.toList [10]).2.1 Lx.blanksL).length < r.size) := Lib.hid (by rw [list_size] at hless; exact hless)
      clear hless h35 hne hq HK HH
      generalize (Lib.cut r.data.toList [10]).2.1 = x at *
      have T1 := Lib.hid (fun w => TT.out (str x) w)
      have HH2 : Hid (∀ c, (str (trimLeftS x Lx.blanksL)).data.toList.head? = some c → ¬ Lx.blank c = true) := Lib.hid (trimB_head x)
      have L2 : (str (trimLeftS x Lx.blanksL)).size < r.size := by rw [str_size]; exact L1.out
      have K2 : Hid (Lx.sk false (str (trimLeftS x Lx.blanksL)).data.toList = Lx.sk false s.data.toList) := K1
      have T2 : Hid (∀ w, Calls Tryz.prog 49 #[.string (str x), .string ⟨#[32, 9, 10]⟩] w fun e w' => e = .returned (.string (str (trimLeftS x Lx.blanksL))) ∧ Below w.heap.size w w') := T1
      clear T1 K1 L1
      generalize str (trimLeftS x Lx.blanksL) = y at *
      generalize str x = x at *
      go_wp2_with fail
      refine (N1.out _).mono ?_
      rintro e w2 ⟨rfl, rfl⟩
      go_wp2_with fail
      refine (C1.out _ (HM.out.below HB.out)).mono ?_
      rintro e w3 ⟨a, b, rfl, n, rfl⟩
      go_wp2_with fail
      refine (T2.out _).mono ?_
      rintro e w4 ⟨rfl, hb4⟩
      have HB4 := Lib.hid (bstep (below_drewN HB.out n) hb4)
      clear hb4 HB N1 C1 T2
      go_wp2_with fail
      go_roundg (y.size + 1)
      case measure => omega
      case rel => exact ⟨y, by omega, by omega, rfl, K2, HH2, HB4⟩
    · have N1 : Hid (∀ w, Calls Tryz.prog 50 #[.string r, .string ⟨#[35]⟩] w fun e w' => e = .returned (.bool false) ∧ w' = w) := Lib.hid (fun w => by
        have := NN.out r w; rw [show (r.data.toList.head? == some 35) = false by rw [beq_eq_false_iff_ne]; exact h35] at this; exact this)
      have E1 : Hid ((s.size : Int) - (r.size : Int) = (Lx.btw s.data.toList : Nat)) := Lib.hid (by
        have e : Lx.sk false r.data.toList = r.data.toList := Lx.sk_of_head fun c hc => ⟨HH.out c hc, fun e => h35 (by rw [hc, e])⟩
        unfold Lx.btw
        rw [← HK.out, e, list_size, list_size]; omega)
      have hz2 : (r.size : Int) ≤ s.size := by omega
      clear h35 HK HH
      go_wp2_with fail
      refine (N1.out _).mono ?_
      rintro e w2 ⟨rfl, rfl⟩
      go_wp2
      go_ret
      exact ⟨retI E1.out, HB.out⟩
end Go.Proofs.YtbpknainmefidaaGreatDoor
