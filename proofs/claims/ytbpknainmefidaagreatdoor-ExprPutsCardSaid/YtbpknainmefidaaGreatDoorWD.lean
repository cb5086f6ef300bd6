/- Words of a source, walked: how many bytes a text has, and a mark. -/
import Derived.Test.YtbpknainmefidaaGreatDoorWC
import Derived.Test.YtbpknainmefidaaGreatDoorWB
namespace Go.Proofs.YtbpknainmefidaaGreatDoor
open Go.RowKit Go.Lib
set_option linter.unusedVariables false

theorem drop_at (s : ByteArray) (k : Nat) (h : k < s.size) : s.data.toList.drop k = s[k] :: s.data.toList.drop (k + 1) := by
  rw [List.drop_eq_getElem_cons (by simpa using h)]; rfl
/-- what textSize tells, when it has come to k and z is left. -/
def ts (k : Nat) (z : List UInt8) : Nat := if (Lx.qt z).2.2 then k + (Lx.qt z).2.1 else 0
theorem ts_nil (k : Nat) : ts k [] = 0 := rfl
theorem ts_else (k : Nat) (c : UInt8) (r : List UInt8) (h : c ≠ 39) : ts k (c :: r) = ts (k + 1) r := by
  have e : Lx.qt (c :: r) = (c :: (Lx.qt r).1, (Lx.qt r).2.1 + 1, (Lx.qt r).2.2) := by rw [Lx.qt.eq_def]; simp only [if_neg h]
  unfold ts
  rw [e]
  simp only
  split <;> omega
theorem ts_end (k : Nat) : ts k [39] = k + 1 := by simp [ts, Lx.qt]
theorem ts_stop (k : Nat) (d : UInt8) (r : List UInt8) (h : d ≠ 39) : ts k (39 :: d :: r) = k + 1 := by simp [ts, Lx.qt, h]
theorem ts_two (k : Nat) (r : List UInt8) : ts k (39 :: 39 :: r) = ts (k + 1 + 1) r := by
  unfold ts
  rw [show Lx.qt (39 :: 39 :: r) = (39 :: (Lx.qt r).1, (Lx.qt r).2.1 + 2, (Lx.qt r).2.2) from by rw [Lx.qt]; simp]
  simp only
  split <;> omega
theorem u8_eq {c : UInt8} : ((c.toNat : Int) = 39) ↔ c = 39 := by
  constructor
  · intro h; apply UInt8.toNat_inj.1; show c.toNat = 39; omega
  · rintro rfl; rfl

set_option maxRecDepth 100000 in
theorem textSize_any (s : ByteArray) (w : World) (hs : s.size ≤ 6000) :
    Calls Tryz.prog 74 #[.string s] w fun e w' => e = .returned (.int .i64 (ts 1 (s.data.toList.drop 1) : Nat)) ∧ w' = w := by
  have hs2 : (s.size : Int) ≤ 6000 := by omega
  go_enter Tryz.func74, Tryz.ntmps74
  go_wp2_with fail
  go_loopg [3] (s.size + 2) (fun j s3 wr => ∃ k : Nat, 1 ≤ k ∧ k ≤ s.size + 1 ∧ s.size + 1 < k + j ∧ s3 = .int .i64 (k : Nat) ∧ Hid (ts k (s.data.toList.drop k) = ts 1 (s.data.toList.drop 1)) ∧ wr = w)
  case atStart => exact ⟨1, by omega, by omega, by omega, rfl, Lib.hid rfl, rfl⟩
  case round =>
    obtain ⟨k, hk1, hk2, hj, rfl, HK, rfl⟩ := hrel
    by_cases hlt : k < s.size
    · have hlt' : (k : Int) < (s.size : Int) := by omega
      have HD := Lib.hid (drop_at s k hlt)
      have hi9 : (k : Int) < 6001 := by omega
      by_cases h39 : s[k] = 39
      · have b1 : ((s[k].toNat : Int) != 39) = false := by rw [bne_eq_false_iff_eq]; exact u8_eq.2 h39
        have H39 := Lib.hid h39
        clear h39
        by_cases hl2 : k + 1 < s.size
        · have hl2' : ((k : Int) + 1) < (s.size : Int) := by omega
          have hne : ((k : Int) + 1 == (s.size : Int)) = false := by rw [beq_eq_false_iff_ne]; omega
          have HD2 := Lib.hid (drop_at s (k + 1) hl2)
          by_cases h2 : s[k + 1] = 39
          · have b2 : ((s[k + 1].toNat : Int) != 39) = false := by rw [bne_eq_false_iff_eq]; exact u8_eq.2 h2
            have HT : Hid (ts (k + 2) (s.data.toList.drop (k + 2)) = ts 1 (s.data.toList.drop 1)) := Lib.hid (by
              rw [← HK.out, HD.out, HD2.out, H39.out, h2]; exact (ts_two k _).symm)
            clear h2 HK HD HD2
            go_wp2_with fail
            go_roundg (s.size + 1 - (k + 1))
            case measure => omega
            case rel => exact ⟨k + 2, by omega, by omega, by omega, by go_num, HT, rfl⟩
          · have b2 : ((s[k + 1].toNat : Int) != 39) = true := by rw [bne_iff_ne]; exact fun e => h2 (u8_eq.1 e)
            have HT : Hid (((k : Int) + 1) = (ts 1 (s.data.toList.drop 1) : Nat)) := Lib.hid (by
              rw [← HK.out, HD.out, HD2.out, H39.out, ts_stop _ _ _ h2]; rfl)
            clear h2 HK HD HD2
            go_wp2_with fail
            go_ret
            exact ⟨retI HT.out, rfl⟩
        · have hne : ((k : Int) + 1 == (s.size : Int)) = true := by rw [beq_iff_eq]; omega
          have HT : Hid (((k : Int) + 1) = (ts 1 (s.data.toList.drop 1) : Nat)) := Lib.hid (by
            have e : s.data.toList.drop (k + 1) = [] := List.drop_of_length_le (by rw [list_size]; omega)
            rw [← HK.out, HD.out, H39.out, e, ts_end]; rfl)
          clear hl2 HK HD
          go_wp2_with fail
          go_ret
          exact ⟨retI HT.out, rfl⟩
      · have b1 : ((s[k].toNat : Int) != 39) = true := by rw [bne_iff_ne]; exact fun e => h39 (u8_eq.1 e)
        have HT : Hid (ts (k + 1) (s.data.toList.drop (k + 1)) = ts 1 (s.data.toList.drop 1)) := Lib.hid (by
          rw [← HK.out, HD.out, ts_else _ _ _ h39])
        clear h39 HK HD
        go_wp2_with fail
        go_roundg (s.size + 1 - k)
        case measure => omega
        case rel => exact ⟨k + 1, by omega, by omega, by omega, by go_num, HT, rfl⟩
    · have hlt' : ¬ (k : Int) < (s.size : Int) := by omega
      have HT : Hid ((0 : Int) = (ts 1 (s.data.toList.drop 1) : Nat)) := Lib.hid (by
        have e : s.data.toList.drop k = [] := List.drop_of_length_le (by rw [list_size]; omega)
        rw [← HK.out, e]; rfl)
      clear HK
      go_wp2_with fail
      go_ret
      exact ⟨retI (by simpa using HT.out), rfl⟩

/-- how many bytes a mark has. -/
def ms (c : UInt8) (r : List UInt8) : Nat := if Lx.pre2 c && r.head? == some 61 then 2 else if Lx.single c then 1 else 0
theorem prefix2 (c : UInt8) (r : List UInt8) (a : UInt8) : Lib.hasPrefix (c :: r) [a, 61] = (c == a && r.head? == some 61) := by
  unfold Lib.hasPrefix
  rw [List.isPrefixOf]
  cases r with
  | nil => simp [List.isPrefixOf]
  | cons d r =>
    simp only [List.isPrefixOf, List.head?_cons, Bool.and_true]
    rw [Bool.eq_iff_iff]
    simp only [Bool.and_eq_true, beq_iff_eq, Option.some.injEq]
    constructor <;> (rintro ⟨h1, h2⟩; exact ⟨h1.symm, h2.symm⟩)
theorem index_single (c : UInt8) : decide ((0 : Int) ≤ Lib.indexByte Lx.singlesL c) = Lx.single c := by
  have := Lx.all_bytes (fun c => decide ((0 : Int) ≤ Lib.indexByte Lx.singlesL c) == Lx.single c) (by decide +kernel) c
  simpa using this
set_option maxRecDepth 100000 in
theorem markSize_any (s : ByteArray) (w : World) (c : UInt8) (r : List UInt8) (h : s.data.toList = c :: r) :
    Calls Tryz.prog 75 #[.string s] w fun e w' => e = .returned (.int .i64 (ms c r : Nat)) ∧ w' = w := by
  have h0 : 0 < s.size := by rw [← list_size, h]; simp
  have hc : s[0] = c := by
    have : s.data.toList[0]? = some c := by rw [h]; rfl
    rw [List.getElem?_eq_getElem (by simpa using h0)] at this
    injection this
  have A1 : Hid (∀ w, Calls Tryz.prog 50 #[.string s, .string ⟨#[60, 61]⟩] w fun e w' => e = .returned (.bool (c == 60 && r.head? == some 61)) ∧ w' = w) := Lib.hid (fun w => by
    have := Tryz.strings_HasPrefix s ⟨#[60, 61]⟩ w
    rw [h, show (⟨#[60, 61]⟩ : ByteArray).data.toList = [60, 61] from rfl, prefix2] at this
    exact this)
  have A2 : Hid (∀ w, Calls Tryz.prog 50 #[.string s, .string ⟨#[62, 61]⟩] w fun e w' => e = .returned (.bool (c == 62 && r.head? == some 61)) ∧ w' = w) := Lib.hid (fun w => by
    have := Tryz.strings_HasPrefix s ⟨#[62, 61]⟩ w
    rw [h, show (⟨#[62, 61]⟩ : ByteArray).data.toList = [62, 61] from rfl, prefix2] at this
    exact this)
  have A3 : Hid (∀ w, Calls Tryz.prog 50 #[.string s, .string ⟨#[33, 61]⟩] w fun e w' => e = .returned (.bool (c == 33 && r.head? == some 61)) ∧ w' = w) := Lib.hid (fun w => by
    have := Tryz.strings_HasPrefix s ⟨#[33, 61]⟩ w
    rw [h, show (⟨#[33, 61]⟩ : ByteArray).data.toList = [33, 61] from rfl, prefix2] at this
    exact this)
  have A4 : Hid (∀ w, Calls Tryz.prog 85 #[.string ⟨#[40, 41, 44, 59, 61, 60, 62, 43, 45, 42, 47, 37, 38, 58]⟩, .int .u8 (s[0].toNat : Int)] w fun e w' => e = .returned (.int .i64 (Lib.indexByte Lx.singlesL c)) ∧ w' = w) := Lib.hid (fun w => by
    have := Tryz.strings_IndexByte ⟨#[40, 41, 44, 59, 61, 60, 62, 43, 45, 42, 47, 37, 38, 58]⟩ (s[0].toNat : Int) w
    have e : ((s[0].toNat : Int)).toNat.toUInt8 = c := by rw [hc]; simp
    rw [e] at this
    exact this)
  have IX := Lib.hid (index_single c)
  have MS : Hid ((ms c r : Int) = (if (c == 60 && r.head? == some 61) || (c == 62 && r.head? == some 61) || (c == 33 && r.head? == some 61) then 2 else if Lx.single c then 1 else 0 : Nat)) := Lib.hid (by
    unfold ms Lx.pre2
    congr 2
    cases (r.head? == some 61) <;> simp)
  have h0i : (0 : Int) < s.size := by omega
  clear h hc
  generalize (c == 60 && r.head? == some 61) = b1 at *
  generalize (c == 62 && r.head? == some 61) = b2 at *
  generalize (c == 33 && r.head? == some 61) = b3 at *
  generalize Lib.indexByte Lx.singlesL c = ix at *
  cases b1
  case true =>
    go_enter Tryz.func75, Tryz.ntmps75
    go_wp2_with fail
    refine (A1.out _).mono ?_
    rintro e w2 ⟨rfl, rfl⟩
    go_wp2
    go_ret
    exact ⟨retI (by rw [MS.out]; rfl), rfl⟩
  cases b2
  case true =>
    go_enter Tryz.func75, Tryz.ntmps75
    go_wp2_with fail
    refine (A1.out _).mono ?_
    rintro e w2 ⟨rfl, rfl⟩
    go_wp2_with fail
    refine (A2.out _).mono ?_
    rintro e w2 ⟨rfl, rfl⟩
    go_wp2
    go_ret
    exact ⟨retI (by rw [MS.out]; rfl), rfl⟩
  cases b3
  case true =>
    go_enter Tryz.func75, Tryz.ntmps75
    go_wp2_with fail
    refine (A1.out _).mono ?_
    rintro e w2 ⟨rfl, rfl⟩
    go_wp2_with fail
    refine (A2.out _).mono ?_
    rintro e w2 ⟨rfl, rfl⟩
    go_wp2_with fail
    refine (A3.out _).mono ?_
    rintro e w2 ⟨rfl, rfl⟩
    go_wp2
    go_ret
    exact ⟨retI (by rw [MS.out]; rfl), rfl⟩
  by_cases hx : (0 : Int) ≤ ix
  · have SX : Hid (Lx.single c = true) := Lib.hid (by rw [← IX.out]; exact decide_eq_true hx)
    go_enter Tryz.func75, Tryz.ntmps75
    go_wp2_with fail
    refine (A1.out _).mono ?_
    rintro e w2 ⟨rfl, rfl⟩
    go_wp2_with fail
    refine (A2.out _).mono ?_
    rintro e w2 ⟨rfl, rfl⟩
    go_wp2_with fail
    refine (A3.out _).mono ?_
    rintro e w2 ⟨rfl, rfl⟩
    go_wp2_with fail
    refine (A4.out _).mono ?_
    rintro e w2 ⟨rfl, rfl⟩
    go_wp2
    go_ret
    exact ⟨retI (by rw [MS.out, SX.out]; rfl), rfl⟩
  · have SX : Hid (Lx.single c = false) := Lib.hid (by rw [← IX.out]; exact decide_eq_false hx)
    go_enter Tryz.func75, Tryz.ntmps75
    go_wp2_with fail
    refine (A1.out _).mono ?_
    rintro e w2 ⟨rfl, rfl⟩
    go_wp2_with fail
    refine (A2.out _).mono ?_
    rintro e w2 ⟨rfl, rfl⟩
    go_wp2_with fail
    refine (A3.out _).mono ?_
    rintro e w2 ⟨rfl, rfl⟩
    go_wp2_with fail
    refine (A4.out _).mono ?_
    rintro e w2 ⟨rfl, rfl⟩
    go_wp2
    go_ret
    exact ⟨retI (by rw [MS.out, SX.out]; rfl), rfl⟩
end Go.Proofs.YtbpknainmefidaaGreatDoor
