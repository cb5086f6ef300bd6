import Derived.Test.YteghhmomhlnccaaGreatDoorZIQA
import Derived.Test.YteghhmomhlnccaaGreatDoorZHMC
import Derived.Test.YteghhmomhlnccaaGreatDoorZHMB

/- Find: by slices.IndexFunc; the reference's Find; the kind of a name. -/
namespace Go.Proofs.YteghhmomhlnccaaGreatDoor
open Go.RowKit Go.Lib
set_option linter.unusedVariables false
set_option linter.unusedSimpArgs false
set_option maxRecDepth 100000
attribute [local go_sem ↓] eqVal neqVal

theorem indexFunc_any (C : List Col) (n : List UInt8) (A : Option Addr) (c g : Nat) (w : World) (hA : ColsAt w A C) (hg : w.cell? ⟨g, 0, none⟩ = some (.string (tx n))) (hC : C.length ≤ 1000000) :
    Calls Tryz.prog 111 #[.slice A C.length c, .func (.func 112) #[] #[.pointer (some ⟨g, 0, none⟩)]] w fun e w' => e = .returned (.int .i64 (Kd.ixV (Kd.ix C n))) ∧ Below w.heap.size w w' := by
  have HA := Lib.hid hA
  have HG := Lib.hid hg
  have HGL := Lib.hid (World.block_lt_of_cell? w _ hg)
  have hm9 : (C.length : Int) ≤ 1000000 := by omega
  obtain ⟨m, hm⟩ : ∃ m, C.length = m := ⟨_, rfl⟩
  have HM := Lib.hid hm
  rw [hm] at hm9 ⊢
  clear hA hg hC hm
  go_enter Tryz.func111, Tryz.ntmps111
  go_wp2_with fail
  go_loopg [5, 8] (m + 1) (fun j s5 s8 wr => ∃ i : Nat, i ≤ m ∧ m < i + j ∧ s8 = .int .i64 (i : Nat) ∧ Hid (∀ k (h1 : k < C.length), k < i → C[k].1 ≠ n) ∧ Hid (Below w.heap.size w wr))
  case atStart => exact ⟨0, by omega, by omega, rfl, Lib.hid (fun k _ h => absurd h (Nat.not_lt_zero _)), Lib.hid (Below.refl _ _)⟩
  case round =>
    obtain ⟨i, hi, hj, rfl, HE, HB⟩ := hrel
    by_cases hlt : i < m
    · have hlt' : (i : Int) < (m : Int) := by omega
      have hik : i < C.length := by rw [HM.out]; exact hlt
      obtain ⟨b, o, rfl, hx, c0, c1⟩ := (HA.out.below HB.out) i hik
      have hg1 : wr.cell? ⟨g, 0, none⟩ = some (.string (tx n)) := (HB.out.cell (p := ⟨g, 0, none⟩) HGL.out).trans HG.out
      have hgl : g < wr.heap.size := Nat.lt_of_lt_of_le HGL.out HB.out.size
      obtain ⟨nm, hnm⟩ : ∃ nm, C[i].1 = nm := ⟨_, rfl⟩
      obtain ⟨kk, hkk⟩ : ∃ kk, C[i].2 = kk := ⟨_, rfl⟩
      rw [hnm] at c0
      rw [hkk] at c1
      have HB2 : Hid (Below w.heap.size w (wr.alloc (.cells #[.string (tx nm), .int .i64 kk] 45))) := Lib.hid (HB.out.alloc HB.out.size _)
      cases hq : nm == n
      · have HE2 : Hid (∀ k (h1 : k < C.length), k < i + 1 → C[k].1 ≠ n) := Lib.hid (fun k h1 h3 => by
          by_cases hki : k = i
          · subst hki; rw [hnm]; simpa using hq
          · exact HE.out k h1 (by omega))
        clear HE hnm hkk
        go_wp2
        go_roundg (m - i)
        case measure => omega
        case rel => exact ⟨i + 1, by omega, by omega, by go_num, HE2, HB2⟩
      · have HR : Hid (Kd.ixV (Kd.ix C n) = (i : Int)) := Lib.hid (by rw [Kd.ix_some hik (by rw [hnm]; exact eq_of_beq hq) (fun j hj hji => HE.out j hj hji)]; rfl)
        clear HE hnm hkk
        go_wp2
        go_ret
        exact ⟨by rw [HR.out]; rfl, HB2.out⟩
    · have hlt' : ¬ (i : Int) < (m : Int) := by omega
      have HR : Hid (Kd.ixV (Kd.ix C n) = -1) := Lib.hid (by rw [Kd.ix_none (fun k h1 => HE.out k h1 (by have := HM.out; omega))]; rfl)
      go_wp2_with fail
      go_ret
      exact ⟨by rw [HR.out]; rfl, HB.out⟩
theorem find_any (C : List Col) (n : List UInt8) (A : Option Addr) (c : Nat) (w : World) (hA : ColsAt w A C) (hC : C.length ≤ 1000000) :
    Calls Tryz.prog 89 #[.slice A C.length c, .string (tx n)] w fun e w' => e = .returned (.int .i64 (Kd.ixV (Kd.ix C n))) ∧ Below w.heap.size w w' := by
  have b0 : Below w.heap.size w (w.alloc (.cells #[.string (tx n)] 9)) := (Below.refl _ _).alloc (Nat.le_refl _) _
  have k0 := Whole.new w 9 #[.string (tx n)]
  have IX := Lib.hid (indexFunc_any C n A c w.heap.size _ (hA.below b0) (by rw [k0.cell]; rfl) hC)
  have B0 := Lib.hid b0
  clear hA b0 k0
  generalize hm : C.length = m at *
  clear hm
  go_enter Tryz.func89, Tryz.ntmps89
  go_wp2_with fail
  refine IX.out.mono ?_
  rintro e w2 ⟨rfl, hb⟩
  have B2 := Lib.hid (bstep B0.out hb)
  clear hb IX
  go_wp2_with fail
  go_ret
  exact ⟨rfl, B2.out⟩
theorem refFind_any (C : List Col) (n : List UInt8) (A : Option Addr) (c : Nat) (w : World) (hA : ColsAt w A C) (hC : C.length ≤ 1000000) :
    Calls Tryz.prog 22 #[.slice A C.length c, .string (tx n)] w fun e w' => e = .returned (.int .i64 (Kd.ixV (Kd.ix C n))) ∧ w' = w := by
  have HA := Lib.hid hA
  have hm9 : (C.length : Int) ≤ 1000000 := by omega
  obtain ⟨m, hm⟩ : ∃ m, C.length = m := ⟨_, rfl⟩
  have HM := Lib.hid hm
  rw [hm] at hm9 ⊢
  clear hA hC hm
  go_enter Tryz.func22, Tryz.ntmps22
  go_wp2_with fail
  go_loopg [5] (m + 1) (fun j s5 wr => ∃ i : Nat, i ≤ m ∧ m < i + j ∧ s5 = .int .i64 (i : Nat) ∧ Hid (∀ k (h1 : k < C.length), k < i → C[k].1 ≠ n) ∧ wr = w)
  case atStart => exact ⟨0, by omega, by omega, rfl, Lib.hid (fun k _ h => absurd h (Nat.not_lt_zero _)), rfl⟩
  case round =>
    obtain ⟨i, hi, hj, rfl, HE, hwr⟩ := hrel
    subst hwr
    by_cases hlt : i < m
    · have hlt' : (i : Int) < (m : Int) := by omega
      have hik : i < C.length := by rw [HM.out]; exact hlt
      obtain ⟨b, o, rfl, hx, c0, c1⟩ := HA.out i hik
      obtain ⟨nm, hnm⟩ : ∃ nm, C[i].1 = nm := ⟨_, rfl⟩
      rw [hnm] at c0
      clear c1
      cases hq : nm == n
      · have HE2 : Hid (∀ k (h1 : k < C.length), k < i + 1 → C[k].1 ≠ n) := Lib.hid (fun k h1 h3 => by
          by_cases hki : k = i
          · subst hki; rw [hnm]; simpa using hq
          · exact HE.out k h1 (by omega))
        clear HE hnm
        go_wp2
        go_roundg (m - i)
        case measure => omega
        case rel => exact ⟨i + 1, by omega, by omega, by go_num, HE2, rfl⟩
      · have HR : Hid (Kd.ixV (Kd.ix C n) = (i : Int)) := Lib.hid (by rw [Kd.ix_some hik (by rw [hnm]; exact eq_of_beq hq) (fun j hj hji => HE.out j hj hji)]; rfl)
        clear HE hnm
        go_wp2
        go_ret
        exact ⟨by rw [HR.out]; rfl, rfl⟩
    · have hlt' : ¬ (i : Int) < (m : Int) := by omega
      have HR : Hid (Kd.ixV (Kd.ix C n) = -1) := Lib.hid (by rw [Kd.ix_none (fun k h1 => HE.out k h1 (by have := HM.out; omega))]; rfl)
      go_wp2_with fail
      go_ret
      exact ⟨by rw [HR.out]; rfl, rfl⟩
end Go.Proofs.YteghhmomhlnccaaGreatDoor

/- The kind of a name; goes; a kind's name; named; Many. -/
namespace Go.Proofs.YteghhmomhlnccaaGreatDoor
open Go.RowKit Go.Lib
set_option linter.unusedVariables false
set_option linter.unusedSimpArgs false
set_option maxRecDepth 100000
attribute [local go_sem ↓] eqVal neqVal
open Ex (Tree)

def Kd.kn (C : List Col) (n : List UInt8) : Int × Int := match Kd.fk C n with
  | none => (0, 9)
  | some k => (k, 0)
theorem kindOfName_any (C : List Col) (n : List UInt8) (A : Option Addr) (c : Nat) (w : World) (hA : ColsAt w A C) (hC : C.length ≤ 1000000) :
    Calls Tryz.prog 74 #[.string (tx n), .slice A C.length c] w fun e w' => e = .returned (.tuple #[.int .i64 (Kd.kn C n).1, .int .i64 (Kd.kn C n).2]) ∧ Below w.heap.size w w' := by
  have FD := Lib.hid (find_any C n A c w hA hC)
  have HA := Lib.hid hA
  have hm9 : (C.length : Int) ≤ 1000000 := by omega
  rcases Kd.fk_ix C n with ⟨h1, h2⟩ | ⟨i, hi, h1, h2⟩
  · have HK : Hid (Kd.kn C n = (0, 9)) := Lib.hid (by rw [Kd.kn, h2])
    rw [h1] at FD
    generalize C.length = m at *
    clear hA hC h1 h2
    go_enter Tryz.func74, Tryz.ntmps74
    go_wp2_with fail
    refine FD.out.mono ?_
    rintro e w2 ⟨rfl, hb⟩
    have HB := Lib.hid hb
    clear hb FD
    unfold Kd.ixV
    go_wp2_with fail
    refine bodyPost_ret (results_tmp2 Tryz.results74 _ _ _) rfl ⟨?_, HB.out⟩
    rw [HK.out]; rfl
  · have HK : Hid (Kd.kn C n = (C[i].2, 0)) := Lib.hid (by rw [Kd.kn, h2])
    rw [h1] at FD
    have hi' : (i : Int) < (C.length : Int) := by omega
    have CA : Hid (∀ w1, Below w.heap.size w w1 → ∃ b o, A = some ⟨b, o, none⟩ ∧ b < w1.heap.size ∧ w1.cell? ⟨b, o + i * 2, none⟩ = some (.string (tx C[i].1)) ∧ w1.cell? ⟨b, o + i * 2 + 1, none⟩ = some (.int .i64 C[i].2)) := Lib.hid (fun w1 hb => (hA.below hb) i hi)
    obtain ⟨kk, hkk⟩ : ∃ kk, C[i].2 = kk := ⟨_, rfl⟩
    obtain ⟨nn, hnn⟩ : ∃ nn, C[i].1 = nn := ⟨_, rfl⟩
    rw [hkk] at HK CA
    rw [hnn] at CA
    have hin : i < C.length := hi
    clear HA hkk hnn h1 h2 hA hC
    generalize C.length = m at *
    go_enter Tryz.func74, Tryz.ntmps74
    go_wp2_with fail
    refine FD.out.mono ?_
    rintro e w2 ⟨rfl, hb⟩
    obtain ⟨b, o, rfl, hx, c0, c1⟩ := CA.out w2 hb
    have HB := Lib.hid hb
    clear hb FD CA
    unfold Kd.ixV
    have hneg : ¬ (i : Int) < 0 := by omega
    go_wp2_with fail
    refine bodyPost_ret (results_tmp2 Tryz.results74 _ _ _) rfl ⟨?_, HB.out⟩
    rw [HK.out]; rfl
theorem goes_any (k q : Int) (w : World) : Calls Tryz.prog 99 #[.int .i64 k, .int .i64 q] w fun e w' => e = .returned (.bool (decide (k = q ∨ k = 0))) ∧ w' = w := by
  by_cases h1 : k = q
  · have HD : Hid (decide (k = q ∨ k = 0) = true) := Lib.hid (by simp [h1])
    have h1' : (k == q) = true := by simpa using h1
    go_enter Tryz.func99, Tryz.ntmps99
    go_wp2_with fail
    go_ret
    exact ⟨retB2 HD.out.symm, rfl⟩
  · have h1' : (k == q) = false := by simpa using h1
    by_cases h2 : k = 0
    · have HD : Hid (decide (k = q ∨ k = 0) = true) := Lib.hid (by simp [h2])
      have h2' : (k == 0) = true := by simpa using h2
      go_enter Tryz.func99, Tryz.ntmps99
      go_wp2_with fail
      go_ret
      exact ⟨retB2 HD.out.symm, rfl⟩
    · have HD : Hid (decide (k = q ∨ k = 0) = false) := Lib.hid (by simp [h1, h2])
      have h2' : (k == 0) = false := by simpa using h2
      go_enter Tryz.func99, Tryz.ntmps99
      go_wp2_with fail
      go_ret
      exact ⟨retB2 HD.out.symm, rfl⟩
def kindText (k : Int) : ByteArray := if k = 1 then ⟨#[105, 110, 116]⟩ else if k = 2 then ⟨#[116, 101, 120, 116]⟩ else if k = 3 then ⟨#[98, 111, 111, 108]⟩ else ⟨#[]⟩
theorem kindText_any (k : Int) (w : World) : Calls Tryz.prog 62 #[.int .i64 k] w fun e w' => e = .returned (.string (kindText k)) ∧ w' = w := by
  by_cases h1 : k = 1
  · subst h1
    go_enter Tryz.func62, Tryz.ntmps62
    go_wp2_with fail
    go_ret
    exact ⟨rfl, rfl⟩
  by_cases h2 : k = 2
  · subst h2
    go_enter Tryz.func62, Tryz.ntmps62
    go_wp2_with fail
    go_ret
    exact ⟨rfl, rfl⟩
  by_cases h3 : k = 3
  · subst h3
    go_enter Tryz.func62, Tryz.ntmps62
    go_wp2_with fail
    go_ret
    exact ⟨rfl, rfl⟩
  · have HT : Hid (kindText k = ⟨#[]⟩) := Lib.hid (by rw [kindText, if_neg h1, if_neg h2, if_neg h3])
    have k1 : (k == 1) = false := by simpa using h1
    have k2 : (k == 2) = false := by simpa using h2
    have k3 : (k == 3) = false := by simpa using h3
    clear h1 h2 h3
    go_enter Tryz.func62, Tryz.ntmps62
    go_wp2_with fail
    go_ret
    exact ⟨congrArg (fun z => Ending.returned (Value.string z)) HT.out.symm, rfl⟩
abbrev nameT (n : List UInt8) : Tree := .node 2 n 0 0 [] []
theorem name_right (n : List UInt8) : Ex.rightB nodeB (nameT n) = Lx.isName n := by
  simp [Ex.rightB, Ex.depth, Ex.depths, Ex.count, Ex.counts, Ex.ones, Ex.oness, nodeB, same]
theorem named_any (n : List UInt8) (k : Int) (w : World) (hn : n.length ≤ maxLen) (a : Addr) (m : Int) (hv : Env w a m) :
    Calls Tryz.prog 61 #[.agg #[.string (tx n), .int .i64 k]] w fun e w' => e = .returned (.bool (Lx.isName n)) ∧ Below w.heap.size w w' := by
  have b0 : Below w.heap.size w (w.alloc (.cells #[.string (tx n), .int .i64 k] 45)) := (Below.refl _ _).alloc (Nat.le_refl _) _
  have k0 := Whole.new w 45 #[.string (tx n), .int .i64 k]
  have c0 : (w.alloc (.cells #[.string (tx n), .int .i64 k] 45)).cell? ⟨w.heap.size, 0, none⟩ = some (.string (tx n)) := by rw [k0.cell]; rfl
  have hr := callsIn_wide.1 (right_in (nameT n) (.agg (ncells 2 n 0 0 [] none 0 0)) (w.alloc (.cells #[.string (tx n), .int .i64 k] 45)) ⟨none, 0, rfl, Nat.le_refl _, by rw [TreesAt]; trivial⟩ (by rw [fitT]; exact ⟨hn, Nat.zero_le _, by rw [fitTs]; trivial⟩) (by simp [Ex.depth, Ex.depths]) a m (hv.below b0))
  rw [name_right] at hr
  have HR := Lib.hid hr
  have B0 := Lib.hid b0
  unfold ncells at *
  clear hr b0 k0 hv
  go_enter Tryz.func61, Tryz.ntmps61
  go_wp2_with fail
  refine HR.out.mono ?_
  rintro e w2 ⟨rfl, hb⟩
  have B2 := Lib.hid (bstep B0.out hb)
  clear hb HR
  go_wp2_with fail
  go_ret
  exact ⟨rfl, B2.out⟩
end Go.Proofs.YteghhmomhlnccaaGreatDoor

/- Many, Columns, the reference's Columns: do columns go together? -/
namespace Go.Proofs.YteghhmomhlnccaaGreatDoor
open Go.RowKit Go.Lib
set_option linter.unusedVariables false
set_option linter.unusedSimpArgs false
set_option maxRecDepth 100000
attribute [local go_sem ↓] eqVal neqVal

def Kd.goodB (C : List Col) : Bool := C.all (fun c => Lx.isName c.1 && decide (1 ≤ c.2 ∧ c.2 ≤ 3)) && decide ((C.map (·.1)).Nodup)
theorem Kd.goodB_iff (C : List Col) : Kd.goodB C = true ↔ Kd.Good C := by
  rw [Kd.good_iff, Kd.goodB, Bool.and_eq_true, List.all_eq_true, decide_eq_true_iff]
  simp only [Bool.and_eq_true, decide_eq_true_iff]
theorem Kd.goodB_true {C : List Col} (h : ∀ i, i < C.length → Kd.goodAt C i) : Kd.goodB C = true := (Kd.goodB_iff C).2 h
theorem Kd.goodB_false {C : List Col} {i : Nat} (hi : i < C.length) (h : ¬ Kd.goodAt C i) : Kd.goodB C = false := by
  rw [Bool.eq_false_iff]
  intro e
  exact h ((Kd.goodB_iff C).1 e i hi)
theorem Kd.seen {C : List Col} {i : Nat} (hi : i < C.length) : ((C.take i).map (·.1)).contains C[i].1 = true ↔ ∃ j, ∃ hj : j < C.length, j < i ∧ C[j].1 = C[i].1 := by
  rw [List.contains_iff_mem, List.mem_map]
  constructor
  · rintro ⟨c, hc, e⟩
    obtain ⟨j, hj, rfl⟩ := List.getElem_of_mem hc
    rw [List.length_take] at hj
    exact ⟨j, by omega, by omega, by rw [List.getElem_take] at e; exact e⟩
  · rintro ⟨j, hj, hji, e⟩
    refine ⟨C[j], ?_, e⟩
    rw [List.mem_take_iff_getElem]
    exact ⟨j, by omega, rfl⟩
def shortC (C : List Col) : Prop := ∀ c ∈ C, c.1.length ≤ 100
theorem many_any (C : List Col) (A : Option Addr) (c : Nat) (w : World) (hA : ColsAt w A C) (hF : fitC C) :
    Calls Tryz.prog 10 #[.slice A C.length c] w fun e w' => (e = .returned (.bool false) ∧ w' = w ∧ C.length ≤ 50 ∧ shortC C) ∨ (e = .returned (.bool true) ∧ w' = w) := by
  have HA := Lib.hid hA
  have HF := Lib.hid hF
  obtain ⟨m, hm⟩ : ∃ m, C.length = m := ⟨_, rfl⟩
  have HM := Lib.hid hm
  rw [hm]
  clear hA hm hF
  by_cases hb : (m : Int) ≤ 50
  · have hb' : ¬ (50 : Int) < (m : Int) := by omega
    go_enter Tryz.func10, Tryz.ntmps10
    go_wp2_with fail
    go_loopg [3] (m + 1) (fun j s3 wr => ∃ i : Nat, i ≤ m ∧ m < i + j ∧ s3 = .int .i64 (i : Nat) ∧ Hid (∀ k (h1 : k < C.length), k < i → C[k].1.length ≤ 100) ∧ wr = w)
    case atStart => exact ⟨0, by omega, by omega, rfl, Lib.hid (fun k _ h => absurd h (Nat.not_lt_zero _)), rfl⟩
    case round =>
      obtain ⟨i, hi, hj, rfl, HE, hwr⟩ := hrel
      subst hwr
      by_cases hlt : i < m
      · have hlt' : (i : Int) < (m : Int) := by omega
        have hik : i < C.length := by rw [HM.out]; exact hlt
        obtain ⟨b, o, rfl, hx, c0, c1⟩ := HA.out i hik
        have hf0 := HF.out C[i] (List.getElem_mem hik)
        simp only [maxLen] at hf0
        obtain ⟨nm, hnm⟩ : ∃ nm, C[i].1 = nm := ⟨_, rfl⟩
        rw [hnm] at c0 hf0
        clear c1
        by_cases hq : (nm.length : Int) ≤ 100
        · have hq' : ¬ (100 : Int) < (nm.length : Int) := by omega
          have HE2 : Hid (∀ k (h1 : k < C.length), k < i + 1 → C[k].1.length ≤ 100) := Lib.hid (fun k h1 h3 => by
            by_cases hki : k = i
            · subst hki; rw [hnm]; omega
            · exact HE.out k h1 (by omega))
          clear HE hnm hik
          go_wp2_with fail
          go_roundg (m - i)
          case measure => omega
          case rel => exact ⟨i + 1, by omega, by omega, by go_num, HE2, rfl⟩
        · have hq' : (100 : Int) < (nm.length : Int) := by omega
          clear HE hnm hik hq
          go_wp2_with fail
          go_ret
          exact .inr ⟨rfl, rfl⟩
      · have hlt' : ¬ (i : Int) < (m : Int) := by omega
        have HR : Hid (shortC C) := Lib.hid (fun c hc => by
          obtain ⟨k, hk, rfl⟩ := List.getElem_of_mem hc
          exact HE.out k hk (by have := HM.out; omega))
        go_wp2_with fail
        go_ret
        exact .inl ⟨rfl, rfl, by omega, HR.out⟩
  · have hb' : (50 : Int) < (m : Int) := by omega
    clear hb
    go_enter Tryz.func10, Tryz.ntmps10
    go_wp2_with fail
    go_ret
    exact .inr ⟨rfl, rfl⟩
theorem cols_of_kind {k : Int} (h : 1 ≤ k ∧ k ≤ 3) : (kindText k).toList.isEmpty = false := by
  have : k = 1 ∨ k = 2 ∨ k = 3 := by omega
  rcases this with rfl | rfl | rfl <;> (rw [ByteArray.toList_eq]; rfl)
theorem cols_no_kind {k : Int} (h : ¬ (1 ≤ k ∧ k ≤ 3)) : kindText k = ⟨#[]⟩ := by
  rw [kindText, if_neg (by omega), if_neg (by omega), if_neg (by omega)]
set_option maxHeartbeats 1000000 in
theorem columns_any (C : List Col) (A : Option Addr) (c : Nat) (w : World) (hA : ColsAt w A C) (hF : fitC C) (hC : C.length ≤ 1000000) (a : Addr) (mx : Int) (hv : Env w a mx) :
    Calls Tryz.prog 32 #[.slice A C.length c] w fun e w' => e = .returned (.bool (Kd.goodB C)) ∧ Below w.heap.size w w' := by
  have HA := Lib.hid hA
  have HF := Lib.hid hF
  have HV := Lib.hid hv
  have hm9 : (C.length : Int) ≤ 1000000 := by omega
  obtain ⟨m, hm⟩ : ∃ m, C.length = m := ⟨_, rfl⟩
  have HM := Lib.hid hm
  rw [hm] at hm9 ⊢
  clear hA hm hF hC hv
  have hmm := @run_makeMap Tryz.prog
  have S0 : Hid (SetAt (w.alloc (.map #[] 0)) w.heap.size 0 []) := Lib.hid (SetAt.made w)
  have B0 : Hid (Below w.heap.size w (w.alloc (.map #[] 0))) := Lib.hid ((Below.refl _ _).alloc (Nat.le_refl _) _)
  go_enter Tryz.func32, Tryz.ntmps32
  go_wp2_with fail
  obtain ⟨W0, hW0⟩ : ∃ W0, w.alloc (.map #[] 0) = W0 := ⟨_, rfl⟩
  rw [hW0] at S0 B0 ⊢
  go_loopg [5, 6, 7, 11] (m + 1) (fun j s5 s6 s7 s11 wr => ∃ i : Nat, i ≤ m ∧ m < i + j ∧ s11 = .int .i64 (i : Nat) ∧ Hid (∃ n, n ≤ i ∧ SetAt wr w.heap.size n ((C.take i).map (·.1))) ∧ Hid (∀ k, k < i → Kd.goodAt C k) ∧ Hid (Below w.heap.size w wr) ∧ w.heap.size < wr.heap.size)
  case atStart => exact ⟨0, by omega, by omega, rfl, Lib.hid ⟨0, Nat.le_refl _, S0.out⟩, Lib.hid (fun k h => absurd h (Nat.not_lt_zero _)), B0, S0.out.lt⟩
  case round =>
    obtain ⟨i, hi, hj, rfl, HS, HE, HB, hwr⟩ := hrel
    clear S0 B0
    by_cases hlt : i < m
    · have hlt' : (i : Int) < (m : Int) := by omega
      have hik : i < C.length := by rw [HM.out]; exact hlt
      obtain ⟨b, o, rfl, hx, c0, c1⟩ := (HA.out.below HB.out) i hik
      have hf0 := HF.out C[i] (List.getElem_mem hik)
      obtain ⟨nm, hnm⟩ : ∃ nm, C[i].1 = nm := ⟨_, rfl⟩
      obtain ⟨kk, hkk⟩ : ∃ kk, C[i].2 = kk := ⟨_, rfl⟩
      have hsn := Kd.seen hik
      have HGA : Hid (Kd.goodAt C i ↔ Lx.isName nm = true ∧ 1 ≤ kk ∧ kk ≤ 3 ∧ ¬ (((C.take i).map (·.1)).contains nm = true)) := Lib.hid (by
        rw [← hnm, ← hkk, hsn]
        constructor
        · rintro ⟨_, h1, h2, h3, h4⟩
          exact ⟨h1, h2, h3, fun ⟨j, hj, hji, e⟩ => h4 j hj hji e⟩
        · rintro ⟨h1, h2, h3, h4⟩
          exact ⟨hik, h1, h2, h3, fun j hj hji e => h4 ⟨j, hj, hji, e⟩⟩)
      have HTK : Hid ((C.take (i + 1)).map (·.1) = (C.take i).map (·.1) ++ [nm]) := Lib.hid (by rw [List.take_succ_eq_append_getElem hik, List.map_append, List.map_cons, List.map_nil, hnm])
      have HIK := Lib.hid hik
      obtain ⟨L, hL⟩ : ∃ L, (C.take i).map (·.1) = L := ⟨_, rfl⟩
      rw [hL] at HS HGA HTK
      rw [hnm] at c0 hf0
      rw [hkk] at c1
      clear hsn hnm hkk hL hik
      obtain ⟨n, hn, SA⟩ := HS.out
      have al1 : Below wr.heap.size wr (wr.alloc (.cells #[.string (tx nm), .int .i64 kk] 45)) := (Below.refl _ _).alloc (Nat.le_refl _) _
      have q1 := Whole.new wr 45 #[.string (tx nm), .int .i64 kk]
      obtain ⟨W1, hW1⟩ : ∃ W1, wr.alloc (.cells #[.string (tx nm), .int .i64 kk] 45) = W1 := ⟨_, rfl⟩
      rw [hW1] at al1 q1
      have S1 := SA.moved (al1.block _ SA.lt)
      have hlk := S1.look hf0
      have al2 : Below wr.heap.size wr (W1.alloc (.cells #[] 97)) := al1.alloc al1.size _
      have q2 := q1.alloc (.cells #[] 97)
      obtain ⟨W2, hW2⟩ : ∃ W2, W1.alloc (.cells #[] 97) = W2 := ⟨_, rfl⟩
      rw [hW2] at al2 q2
      have S2 := Lib.hid (SA.moved (al2.block _ SA.lt))
      have B2 := Lib.hid (HB.out.trans (al2.mono HB.out.size))
      have Q2 := Lib.hid q2
      have d0 := q2.cell 0
      have d1 := q2.cell 1
      have e0 := q1.cell 0
      have e1 := q1.cell 1
      simp only [List.getElem?_toArray, List.getElem?_cons_zero, List.getElem?_cons_succ] at d0 d1 e0 e1
      have NM := Lib.hid (named_any nm kk W2 hf0 a mx (HV.out.below B2.out))
      clear al1 al2 q1 q2 S1 SA HS
      cases hcon : L.contains nm
      case true =>
        rw [hcon] at hlk
        have HR : Hid (Kd.goodB C = false) := Lib.hid (Kd.goodB_false HIK.out (fun h => (HGA.out.1 h).2.2.2 hcon))
        clear hcon HGA NM
        go_wp2_with fail
        go_ret
        exact ⟨retB2 HR.out.symm, B2.out⟩
      case false =>
        rw [hcon] at hlk
        go_wp2_with fail
        refine NM.out.mono ?_
        rintro e W3 ⟨rfl, hb3⟩
        have hlt3 : wr.heap.size < W2.heap.size := Q2.out.lt
        have q3 := Q2.out.below hb3 hlt3
        have S3 := Lib.hid (S2.out.moved (hb3.block _ S2.out.lt))
        have B3 := Lib.hid (B2.out.trans (hb3.mono B2.out.size))
        have f0 := q3.cell 0
        have f1 := q3.cell 1
        simp only [List.getElem?_toArray, List.getElem?_cons_zero, List.getElem?_cons_succ] at f0 f1
        have hw3 : w.heap.size < W3.heap.size := S3.out.lt
        clear NM hb3 c0 c1 d0 d1 e0 e1 hW1 hW2 hlk q3
        cases hnm : Lx.isName nm
        case false =>
          have HR : Hid (Kd.goodB C = false) := Lib.hid (Kd.goodB_false HIK.out (fun h => by have := (HGA.out.1 h).1; rw [hnm] at this; cases this))
          clear HGA hcon hnm
          go_wp2_with fail
          go_ret
          exact ⟨retB2 HR.out.symm, B3.out⟩
        case true =>
          have KT := Lib.hid (kindText_any kk W3)
          by_cases hk : 1 ≤ kk ∧ kk ≤ 3
          case neg =>
            have HR : Hid (Kd.goodB C = false) := Lib.hid (Kd.goodB_false HIK.out (fun h => hk ⟨(HGA.out.1 h).2.1, (HGA.out.1 h).2.2.1⟩))
            rw [cols_no_kind hk] at KT
            clear HGA hcon hnm hk
            go_wp2_with fail
            refine KT.out.mono ?_
            rintro e W4 ⟨rfl, rfl⟩
            go_wp2_with fail
            go_ret
            exact ⟨retB2 HR.out.symm, B3.out⟩
          case pos =>
            have hse := cols_of_kind hk
            obtain ⟨s, hs⟩ : ∃ s, kindText kk = s := ⟨_, rfl⟩
            rw [hs] at KT hse
            have HG : Hid (Kd.goodAt C i) := Lib.hid (HGA.out.2 ⟨hnm, hk.1, hk.2, by rw [hcon]; decide⟩)
            clear HGA hcon hnm hk hs
            obtain ⟨W4, hst, S4, T4⟩ := S3.out.store hf0 (by omega)
            have B4 : Hid (Below w.heap.size w W4) := Lib.hid (T4.fresh B3.out (by simp))
            have HS4 : Hid (∃ n, n ≤ i + 1 ∧ SetAt W4 w.heap.size n ((C.take (i + 1)).map (·.1))) := Lib.hid ⟨n + 1, by omega, by rw [HTK.out]; exact S4⟩
            have HE4 : Hid (∀ k, k < i + 1 → Kd.goodAt C k) := Lib.hid (fun k hk => by
              by_cases hki : k = i
              · rw [hki]; exact HG.out
              · exact HE.out k (by omega))
            have hw4 : w.heap.size < W4.heap.size := S4.lt
            clear HE T4 S4 HG
            go_wp2_with fail
            refine KT.out.mono ?_
            rintro e W5 ⟨rfl, rfl⟩
            go_wp2_with fail
            go_roundg (m - i)
            case measure => omega
            case rel => exact ⟨i + 1, by omega, by omega, by go_num, HS4, HE4, B4, hw4⟩
    · have hlt' : ¬ (i : Int) < (m : Int) := by omega
      have HR : Hid (Kd.goodB C = true) := Lib.hid (Kd.goodB_true (fun k hk => HE.out k (by have := HM.out; omega)))
      go_wp2_with fail
      go_ret
      exact ⟨retB2 HR.out.symm, HB.out⟩
end Go.Proofs.YteghhmomhlnccaaGreatDoor
