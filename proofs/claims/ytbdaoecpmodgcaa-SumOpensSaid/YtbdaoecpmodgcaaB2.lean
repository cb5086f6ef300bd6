/- Seal. -/
import Derived.Test.YtbdaoecpmodgcaaB1
import Derived.Deep.RegionWith
namespace Go.Proofs.Ytbdaoecpmodgcaa
open Go.RowKit

/-- a sealed record. -/
def sealed (e : Nat) (b : List UInt8) : List UInt8 := word4 b.length ++ word4 (sumOn 0 (word4 e ++ b)) ++ word4 e ++ b
theorem sealed_length (e : Nat) (b : List UInt8) : (sealed e b).length = b.length + 12 := by simp [sealed, word4_length]; omega
def zeros (n : Nat) : List UInt8 := List.replicate n 0
theorem zeros_enc (n : Nat) : (encB (zeros n)).toArray = Array.replicate n (.int .u8 0) := by
  simp [encB, zeros]
theorem lay_zeros0 (n x : Nat) : lay (zeros (n + 12)) 0 (word4 x) = word4 x ++ zeros (n + 8) := by
  simp [lay, zeros, word4]
theorem lay_at4 (a m x r : List UInt8) (ha : a.length = 4) (hx : x.length = m.length) : lay (a ++ (m ++ r)) 4 x = a ++ (x ++ r) := by
  have := lay_mid a m r x hx
  rw [ha] at this
  simpa using this
theorem zeros_add (a b : Nat) : zeros (a + b) = zeros a ++ zeros b := by simp [zeros]
theorem lay8 (a e n : Nat) : lay (word4 a ++ zeros (n + 8)) 8 (word4 e) = word4 a ++ zeros 4 ++ word4 e ++ zeros n := by
  rw [show n + 8 = 4 + (4 + n) by omega, zeros_add 4, zeros_add 4 n, ← List.append_assoc, ← List.append_assoc]
  exact lay_mid (word4 a ++ zeros 4) (zeros 4) (zeros n) (word4 e) rfl
theorem lay12 (a e : Nat) (b : List UInt8) : lay (word4 a ++ zeros 4 ++ word4 e ++ zeros b.length) 12 b = word4 a ++ zeros 4 ++ word4 e ++ b := by
  have := lay_mid (word4 a ++ zeros 4 ++ word4 e) (zeros b.length) [] b (by simp [zeros])
  rw [List.append_nil, List.append_nil] at this
  exact this
theorem lay4 (a e s : Nat) (b : List UInt8) : lay (word4 a ++ zeros 4 ++ word4 e ++ b) 4 (word4 s) = word4 a ++ word4 s ++ word4 e ++ b := by
  have := lay_mid (word4 a) (zeros 4) (word4 e ++ b) (word4 s) rfl
  rw [← List.append_assoc, ← List.append_assoc] at this
  exact this
theorem drop8 (a e : Nat) (b : List UInt8) : (word4 a ++ zeros 4 ++ word4 e ++ b).drop 8 = word4 e ++ b := rfl

theorem info5 : (Try.prog.info? 5).map (fun i => (i.zero, i.size, i.bytes)) = some (some (.int .u8 0), 1, 1) := by kernel_rfl
/-- a slice of bytes that is made. -/
theorem make_bytes (n : Nat) (z : Int) (hz : z = n) (hn : n ≤ 100000) (W : World) :
    Sem.run Try.prog (Instr.makeSlice 22 (.int .i64 z) (.int .i64 z)) W = .ok (.slice (some ⟨W.heap.size, 0, none⟩) n n) (W.alloc (.cells (encB (zeros n)).toArray 5)) := by
  subst hz
  have h := info5
  cases hi : Try.prog.info? 5 with
  | none => rw [hi] at h; simp at h
  | some i =>
    rw [hi] at h
    simp at h
    obtain ⟨h1, h2, h3⟩ := h
    have := run_make (P := Try.prog) W 22 5 i _ Try.underlying22 hi h1 .i64 .i64 (n : Int) (n : Int) (by omega) (by omega) (by rw [h3]; omega) (by omega)
    rw [this, h2, zeros_enc]
    have e : madeCells (Value.int .u8 0).cells (n * 1) = Array.replicate n (.int .u8 0) := by
      apply Array.ext
      · simp [madeCells]
      · intro i h1 h2
        simp [madeCells, Value.cells, Nat.mod_one]
    rw [show ((n : Int)).toNat = n by omega, e]

set_option maxRecDepth 100000 in
set_option maxHeartbeats 1000000 in
theorem seal_nil (e : Nat) (he : e < 4294967296) (A : Option Addr) (c : Nat) (w : World) :
    Calls Try.prog 10 #[.int .u32 e, .slice A 0 c] w fun r w' => ∃ g, r = .returned (.slice (some ⟨g, 0, none⟩) 12 12) ∧ w.heap.size ≤ g ∧ BB w' g (sealed e ([] : List UInt8)) ∧ Below w.heap.size w w' := by
  have H0 : Hid (Holds w A ([] : List UInt8)) := Lib.hid (Holds.nil _ _)
  have MK := fun W => make_bytes 12 12 (by simp) (by omega) W
  go_enter Try.func10, Try.ntmps10
  go_wp2_with fail
  refine (length_any _ _ (by omega) (by omega)).mono ?_
  rintro r w' ⟨rfl, rfl⟩
  rw [if_neg (by omega)]
  go_wp2_with fail
  clear MK
  refine (putWord_any w w.heap.size 0 12 12 (zeros (0 + 12)) 0 _ (by omega) (Whole.new w 5 _) (by simp [zeros]) (by omega) ((Below.refl _ _).alloc (Nat.le_refl _) _) (Nat.le_refl _)).mono ?_
  rintro r w2 ⟨rfl, bb2, bel2⟩
  rw [lay_zeros0] at bb2
  have BB2 := Lib.hid bb2
  have B2 := Lib.hid bel2
  clear bb2 bel2
  have hg : w.heap.size ≤ w.heap.size := Nat.le_refl _
  go_wp2_with fail
  refine (putWord_any w w.heap.size 8 4 4 _ e _ he BB2.out (by simp [zeros, word4]) (by omega) B2.out (Nat.le_refl _)).mono ?_
  rintro r w3 ⟨rfl, bb3, bel3⟩
  rw [lay8] at bb3
  have BB3 := Lib.hid bb3
  have B3 := Lib.hid bel3
  clear bb3 bel3 BB2 B2
  have hsz := size5
  have HK : Hid (Holds w3 A ([] : List UInt8)) := Lib.hid (H0.out.below B3.out)
  go_wp2_with (
    (refine wpList_copy_splice rfl (.tmp 20) (.tmp 21) 22 22 rfl 5 Try.underlying22 hsz (some ⟨w.heap.size, 0, none⟩) A 0 0 0 c rfl rfl w.heap.size 12 (encB (word4 0 ++ zeros 4 ++ word4 e ++ zeros 0)) 5 BB3.out (encB ([] : List UInt8)) ?h2 ?h3 ?h4 (encB_one _) w.heap.size w B3.out hg ?_
     case h2 => (rw [encB_length]; exact (Nat.min_self _).symm)
     case h3 => (intro hpos; exact absurd hpos (by simp [encB]))
     case h4 => (rw [encB_length, encB_length]; simp [zeros, word4])
     intro w4 hw4 hb4))
  have BB4 : Hid (BB w4 w.heap.size (word4 0 ++ zeros 4 ++ word4 e ++ ([] : List UInt8))) := Lib.hid (by
    have := hw4.out
    rw [splice_encB] at this
    have e12 := lay12 0 e ([] : List UInt8)
    rw [show zeros 0 = zeros ([] : List UInt8).length from rfl, e12] at this
    exact this)
  have B4 := Lib.hid hb4
  clear hw4 hb4 BB3 B3 HK
  have HD : Hid (Holds w4 (some ⟨w.heap.size, 8, none⟩) (word4 e ++ ([] : List UInt8))) := Lib.hid (by have := BB4.out.holds 8; rwa [drop8] at this)
  have hs : sumOn 0 (word4 e ++ ([] : List UInt8)) < 4294967296 := sumOn_lt 0 _
  have OF := fun (W : World) (hW : Below w4.heap.size w4 W) => of_any (some ⟨w.heap.size, 8, none⟩) 4 (word4 e ++ ([] : List UInt8)) W (HD.out.below hW) (by simp [word4])
  rw [show (word4 e ++ ([] : List UInt8)).length = 4 by simp [word4]] at OF
  have PW := fun (W : World) (hW : Below w4.heap.size w4 W) => putWord_any w w.heap.size 4 8 8 _ _ W hs (BB4.out.below hW) (by simp [zeros, word4]) (by omega) (below_next B4.out hW) hg
  rw [lay4] at PW
  have O := Lib.hid OF
  have PP := Lib.hid PW
  have HE : Hid (word4 0 ++ word4 (sumOn 0 (word4 e ++ ([] : List UInt8))) ++ word4 e ++ ([] : List UInt8) = sealed e ([] : List UInt8)) := Lib.hid rfl
  clear OF PW
  rw [HE.out] at PP
  generalize sumOn 0 (word4 e ++ ([] : List UInt8)) = s at *
  clear HE HD
  go_wp2_with fail
  go_region_with (first
    | (go_at_call 7; (with_reducible refine (O.out _ ((Below.refl _ _).drew)).mono ?_); rintro r w5 ⟨rfl, hb5⟩)
    | (go_at_call 18; (with_reducible refine (PP.out _ (below_next ((Below.refl _ _).drew) hb5)).mono ?_); rintro r w6 ⟨rfl, bb6, hb6⟩))
  all_goals
    go_wp2_with fail
    go_ret
    exact ⟨_, rfl, hg, bb6, hb6⟩

set_option maxRecDepth 100000 in
set_option maxHeartbeats 1000000 in
theorem seal_pos (e : Nat) (he : e < 4294967296) (A : Option Addr) (c : Nat) (b : List UInt8) (w : World) (h : Holds w A b) (hn : b.length ≤ 4000) (hp : 0 < b.length) :
    Calls Try.prog 10 #[.int .u32 e, .slice A b.length c] w fun r w' => ∃ g, r = .returned (.slice (some ⟨g, 0, none⟩) (b.length + 12) (b.length + 12)) ∧ w.heap.size ≤ g ∧ BB w' g (sealed e b) ∧ Below w.heap.size w w' := by
  have H0 : Hid (Holds w A b) := Lib.hid h
  clear h
  have MK := fun W => make_bytes (b.length + 12) ((b.length : Int) + 12) (by simp) (by omega) W
  go_enter Try.func10, Try.ntmps10
  go_wp2_with fail
  refine (length_any _ _ (by omega) (by omega)).mono ?_
  rintro r w' ⟨rfl, rfl⟩
  rw [if_neg (by omega)]
  go_wp2_with fail
  clear MK
  refine (putWord_any w w.heap.size 0 (b.length + 12) (b.length + 12) (zeros (b.length + 12)) b.length _ (by omega) (Whole.new w 5 _) (by simp [zeros]) (by omega) ((Below.refl _ _).alloc (Nat.le_refl _) _) (Nat.le_refl _)).mono ?_
  rintro r w2 ⟨rfl, bb2, bel2⟩
  rw [lay_zeros0] at bb2
  have BB2 := Lib.hid bb2
  have B2 := Lib.hid bel2
  clear bb2 bel2
  have hg : w.heap.size ≤ w.heap.size := Nat.le_refl _
  go_wp2_with fail
  refine (putWord_any w w.heap.size 8 (b.length + 4) (b.length + 4) _ e _ he BB2.out (by simp [zeros, word4]) (by omega) B2.out (Nat.le_refl _)).mono ?_
  rintro r w3 ⟨rfl, bb3, bel3⟩
  rw [lay8] at bb3
  have BB3 := Lib.hid bb3
  have B3 := Lib.hid bel3
  clear bb3 bel3 BB2 B2
  have hsz := size5
  have HK : Hid (Holds w3 A b) := Lib.hid (H0.out.below B3.out)
  have hne : (b.length + 12 = 12) = False := eq_false (by omega)
  have hne2 : (b.length = 0) = False := eq_false (by omega)
  have h4 : (4 : Int) ≤ (b.length : Int) + 12 := by omega
  have h8 : (8 : Int) ≤ (b.length : Int) + 12 := by omega
  go_wp2_with (
    (refine wpList_copy_splice rfl (.tmp 20) (.tmp 21) 22 22 rfl 5 Try.underlying22 hsz (some ⟨w.heap.size, 12, none⟩) A b.length b.length b.length c rfl rfl w.heap.size 12 (encB (word4 b.length ++ zeros 4 ++ word4 e ++ zeros b.length)) 5 BB3.out (encB b) ?h2 ?h3 ?h4 (encB_one _) w.heap.size w B3.out hg ?_
     case h2 => (rw [encB_length]; exact (Nat.min_self _).symm)
     case h3 => 
       intro hpos
       rw [encB_length] at hpos
       obtain ⟨bb, o, e1, _, _⟩ := HK.out 0 hpos
       refine ⟨rfl, _, e1, fun j v hv => ?_⟩
       have hj : j < b.length := by
         have := (List.getElem?_eq_some_iff.1 hv).1
         rwa [encB_length] at this
       obtain ⟨bb', o', e2, _, hc⟩ := HK.out j hj
       rw [e1] at e2
       cases e2
       rw [Addr.add_lit, hc, ← hv, encB_at b j hj]
     case h4 => (rw [encB_length, encB_length]; simp [zeros, word4]; omega)
     intro w4 hw4 hb4))
  have BB4 : Hid (BB w4 w.heap.size (word4 b.length ++ zeros 4 ++ word4 e ++ b)) := Lib.hid (by
    have := hw4.out
    rw [splice_encB] at this
    have e12 := lay12 b.length e b
    rw [e12] at this
    exact this)
  have B4 := Lib.hid hb4
  clear hw4 hb4 BB3 B3 HK
  have HD : Hid (Holds w4 (some ⟨w.heap.size, 8, none⟩) (word4 e ++ b)) := Lib.hid (by have := BB4.out.holds 8; rwa [drop8] at this)
  have hs : sumOn 0 (word4 e ++ b) < 4294967296 := sumOn_lt 0 _
  have OF := fun (W : World) (hW : Below w4.heap.size w4 W) => of_any (some ⟨w.heap.size, 8, none⟩) (b.length + 4) (word4 e ++ b) W (HD.out.below hW) (by simp [word4]; omega)
  rw [show (word4 e ++ b).length = (b.length + 4) by simp [word4]] at OF
  have PW := fun (W : World) (hW : Below w4.heap.size w4 W) => putWord_any w w.heap.size 4 (b.length + 8) (b.length + 8) _ _ W hs (BB4.out.below hW) (by simp [zeros, word4]) (by omega) (below_next B4.out hW) hg
  rw [lay4] at PW
  have O := Lib.hid OF
  have PP := Lib.hid PW
  have HE : Hid (word4 b.length ++ word4 (sumOn 0 (word4 e ++ b)) ++ word4 e ++ b = sealed e b) := Lib.hid rfl
  clear OF PW
  rw [HE.out] at PP
  generalize sumOn 0 (word4 e ++ b) = s at *
  clear HE HD
  go_wp2_with fail
  go_region_with (first
    | (go_at_call 7; (with_reducible refine (O.out _ ((Below.refl _ _).drew)).mono ?_); rintro r w5 ⟨rfl, hb5⟩)
    | (go_at_call 18; (with_reducible refine (PP.out _ (below_next ((Below.refl _ _).drew) hb5)).mono ?_); rintro r w6 ⟨rfl, bb6, hb6⟩))
  all_goals
    go_wp2_with fail
    go_ret
    exact ⟨_, rfl, hg, bb6, hb6⟩

theorem seal_any (e : Nat) (he : e < 4294967296) (A : Option Addr) (c : Nat) (b : List UInt8) (w : World) (h : Holds w A b) (hn : b.length ≤ 4000) :
    Calls Try.prog 10 #[.int .u32 e, .slice A b.length c] w fun r w' => ∃ g, r = .returned (.slice (some ⟨g, 0, none⟩) (b.length + 12) (b.length + 12)) ∧ w.heap.size ≤ g ∧ BB w' g (sealed e b) ∧ Below w.heap.size w w' := by
  cases b with
  | nil => exact seal_nil e he A c w
  | cons x r => exact seal_pos e he A c (x :: r) w h hn (by simp)
end Go.Proofs.Ytbdaoecpmodgcaa
