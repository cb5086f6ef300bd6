/- Words of a source: the reference's letter, digit, Reserved, Name. -/
import Derived.Test.YtbpknainmefidaaGreatDoorWK0
namespace Go.Proofs.YtbpknainmefidaaGreatDoor
open Go.RowKit Go.Lib
set_option linter.unusedVariables false

theorem low_iff (c : UInt8) : Lx.low c = true ↔ (97 : Int) ≤ (c.toNat : Int) ∧ (c.toNat : Int) ≤ 122 := by
  simp [Lx.low]; omega
theorem dig_iff (c : UInt8) : dig c = true ↔ (48 : Int) ≤ (c.toNat : Int) ∧ (c.toNat : Int) ≤ 57 := by
  simp [dig]; omega
theorem letter_any (c : UInt8) (w : World) : Calls Tryz.prog 63 #[.int .u8 (c.toNat : Nat)] w fun e w' => e = .returned (.bool (Lx.low c)) ∧ w = w' := by
  have hl := Lib.hid (low_iff c)
  by_cases h1 : (97 : Int) ≤ (c.toNat : Int)
  · by_cases h2 : (c.toNat : Int) ≤ 122
    · have E : Hid (Lx.low c = true) := Lib.hid (hl.out.2 ⟨h1, h2⟩)
      go_enter Tryz.func63, Tryz.ntmps63
      go_wp2
      go_ret
      exact ⟨retB2 E.out.symm, rfl⟩
    · have E : Hid (Lx.low c = false) := Lib.hid (Bool.eq_false_iff.2 fun h => h2 (hl.out.1 h).2)
      go_enter Tryz.func63, Tryz.ntmps63
      go_wp2
      go_ret
      exact ⟨retB2 E.out.symm, rfl⟩
  · have E : Hid (Lx.low c = false) := Lib.hid (Bool.eq_false_iff.2 fun h => h1 (hl.out.1 h).1)
    go_enter Tryz.func63, Tryz.ntmps63
    go_wp2
    go_ret
    exact ⟨retB2 E.out.symm, rfl⟩
theorem digit_any (c : UInt8) (w : World) : Calls Tryz.prog 65 #[.int .u8 (c.toNat : Nat)] w fun e w' => e = .returned (.bool (dig c)) ∧ w = w' := by
  have hl := Lib.hid (dig_iff c)
  by_cases h1 : (48 : Int) ≤ (c.toNat : Int)
  · by_cases h2 : (c.toNat : Int) ≤ 57
    · have E : Hid (dig c = true) := Lib.hid (hl.out.2 ⟨h1, h2⟩)
      go_enter Tryz.func65, Tryz.ntmps65
      go_wp2
      go_ret
      exact ⟨retB2 E.out.symm, rfl⟩
    · have E : Hid (dig c = false) := Lib.hid (Bool.eq_false_iff.2 fun h => h2 (hl.out.1 h).2)
      go_enter Tryz.func65, Tryz.ntmps65
      go_wp2
      go_ret
      exact ⟨retB2 E.out.symm, rfl⟩
  · have E : Hid (dig c = false) := Lib.hid (Bool.eq_false_iff.2 fun h => h1 (hl.out.1 h).1)
    go_enter Tryz.func65, Tryz.ntmps65
    go_wp2
    go_ret
    exact ⟨retB2 E.out.symm, rfl⟩

def resB : List ByteArray := [(⟨#[97, 100, 100]⟩ : ByteArray), (⟨#[100, 114, 111, 112]⟩ : ByteArray), (⟨#[114, 101, 110, 97, 109, 101]⟩ : ByteArray), (⟨#[115, 112, 108, 105, 116]⟩ : ByteArray), (⟨#[109, 101, 114, 103, 101]⟩ : ByteArray), (⟨#[114, 101, 116, 121, 112, 101]⟩ : ByteArray), (⟨#[105, 110, 116, 111]⟩ : ByteArray), (⟨#[116, 111]⟩ : ByteArray), (⟨#[98, 97, 99, 107]⟩ : ByteArray), (⟨#[97, 110, 100]⟩ : ByteArray), (⟨#[111, 114]⟩ : ByteArray), (⟨#[110, 111, 116]⟩ : ByteArray), (⟨#[116, 114, 117, 101]⟩ : ByteArray), (⟨#[102, 97, 108, 115, 101]⟩ : ByteArray), (⟨#[110, 117, 108, 108]⟩ : ByteArray), (⟨#[105, 110, 116]⟩ : ByteArray), (⟨#[116, 101, 120, 116]⟩ : ByteArray), (⟨#[98, 111, 111, 108]⟩ : ByteArray), (⟨#[115, 101, 108, 101, 99, 116]⟩ : ByteArray), (⟨#[119, 104, 101, 114, 101]⟩ : ByteArray), (⟨#[102, 114, 111, 109]⟩ : ByteArray), (⟨#[108, 105, 109, 105, 116]⟩ : ByteArray)]
theorem resB_eq : resB.map (·.toList) = Lx.reserved := by
  rw [reserved_eq]
  simp only [resB, List.map_cons, List.map_nil, ByteArray.toList_eq]
theorem resB_len : resB.length = 22 := rfl
theorem res_of {s : ByteArray} {i : Nat} (h : i < resB.length) (he : (resB[i].toList == s.toList) = true) : Lx.res s.data.toList = true := by
  have e : resB[i].toList = s.toList := by simpa using he
  rw [Lx.res, ← resB_eq]
  simp only [List.contains_iff_mem, List.mem_map]
  exact ⟨resB[i], List.getElem_mem h, by rw [e, ByteArray.toList_eq]⟩
theorem res_not {s : ByteArray} (h : ∀ i (h : i < resB.length), (resB[i].toList == s.toList) = false) : Lx.res s.data.toList = false := by
  rw [Bool.eq_false_iff]
  intro hr
  rw [Lx.res, ← resB_eq] at hr
  simp only [List.contains_iff_mem, List.mem_map] at hr
  obtain ⟨b, hb, e⟩ := hr
  obtain ⟨i, hi, rfl⟩ := List.mem_iff_getElem.1 hb
  have := h i hi
  rw [e, ← ByteArray.toList_eq] at this
  simp at this
abbrev resCs : Array Value := #[.string ⟨#[97, 100, 100]⟩, .string ⟨#[100, 114, 111, 112]⟩, .string ⟨#[114, 101, 110, 97, 109, 101]⟩, .string ⟨#[115, 112, 108, 105, 116]⟩, .string ⟨#[109, 101, 114, 103, 101]⟩, .string ⟨#[114, 101, 116, 121, 112, 101]⟩, .string ⟨#[105, 110, 116, 111]⟩, .string ⟨#[116, 111]⟩, .string ⟨#[98, 97, 99, 107]⟩, .string ⟨#[97, 110, 100]⟩, .string ⟨#[111, 114]⟩, .string ⟨#[110, 111, 116]⟩, .string ⟨#[116, 114, 117, 101]⟩, .string ⟨#[102, 97, 108, 115, 101]⟩, .string ⟨#[110, 117, 108, 108]⟩, .string ⟨#[105, 110, 116]⟩, .string ⟨#[116, 101, 120, 116]⟩, .string ⟨#[98, 111, 111, 108]⟩, .string ⟨#[115, 101, 108, 101, 99, 116]⟩, .string ⟨#[119, 104, 101, 114, 101]⟩, .string ⟨#[102, 114, 111, 109]⟩, .string ⟨#[108, 105, 109, 105, 116]⟩]
theorem resCs_at (i : Nat) (h : i < resB.length) : resCs[i]? = some (.string resB[i]) := by
  have e : resCs = (resB.map Value.string).toArray := rfl
  rw [e, List.getElem?_toArray, List.getElem?_map, List.getElem?_eq_getElem h]; rfl
set_option maxRecDepth 100000 in
set_option maxHeartbeats 1000000 in
theorem refReserved_any (s : ByteArray) (w : World) :
    Calls Tryz.prog 64 #[.string s] w fun e w' => e = .returned (.bool (Lx.res s.data.toList)) ∧ Below w.heap.size w w' := by
  have HW : Hid (Whole (w.alloc (.cells #[.string ⟨#[97, 100, 100]⟩, .string ⟨#[100, 114, 111, 112]⟩, .string ⟨#[114, 101, 110, 97, 109, 101]⟩, .string ⟨#[115, 112, 108, 105, 116]⟩, .string ⟨#[109, 101, 114, 103, 101]⟩, .string ⟨#[114, 101, 116, 121, 112, 101]⟩, .string ⟨#[105, 110, 116, 111]⟩, .string ⟨#[116, 111]⟩, .string ⟨#[98, 97, 99, 107]⟩, .string ⟨#[97, 110, 100]⟩, .string ⟨#[111, 114]⟩, .string ⟨#[110, 111, 116]⟩, .string ⟨#[116, 114, 117, 101]⟩, .string ⟨#[102, 97, 108, 115, 101]⟩, .string ⟨#[110, 117, 108, 108]⟩, .string ⟨#[105, 110, 116]⟩, .string ⟨#[116, 101, 120, 116]⟩, .string ⟨#[98, 111, 111, 108]⟩, .string ⟨#[115, 101, 108, 101, 99, 116]⟩, .string ⟨#[119, 104, 101, 114, 101]⟩, .string ⟨#[102, 114, 111, 109]⟩, .string ⟨#[108, 105, 109, 105, 116]⟩] 9)) w.heap.size 9 #[.string ⟨#[97, 100, 100]⟩, .string ⟨#[100, 114, 111, 112]⟩, .string ⟨#[114, 101, 110, 97, 109, 101]⟩, .string ⟨#[115, 112, 108, 105, 116]⟩, .string ⟨#[109, 101, 114, 103, 101]⟩, .string ⟨#[114, 101, 116, 121, 112, 101]⟩, .string ⟨#[105, 110, 116, 111]⟩, .string ⟨#[116, 111]⟩, .string ⟨#[98, 97, 99, 107]⟩, .string ⟨#[97, 110, 100]⟩, .string ⟨#[111, 114]⟩, .string ⟨#[110, 111, 116]⟩, .string ⟨#[116, 114, 117, 101]⟩, .string ⟨#[102, 97, 108, 115, 101]⟩, .string ⟨#[110, 117, 108, 108]⟩, .string ⟨#[105, 110, 116]⟩, .string ⟨#[116, 101, 120, 116]⟩, .string ⟨#[98, 111, 111, 108]⟩, .string ⟨#[115, 101, 108, 101, 99, 116]⟩, .string ⟨#[119, 104, 101, 114, 101]⟩, .string ⟨#[102, 114, 111, 109]⟩, .string ⟨#[108, 105, 109, 105, 116]⟩]) := Lib.hid (Whole.new _ _ _)
  have HB : Hid (Below w.heap.size w (w.alloc (.cells #[.string ⟨#[97, 100, 100]⟩, .string ⟨#[100, 114, 111, 112]⟩, .string ⟨#[114, 101, 110, 97, 109, 101]⟩, .string ⟨#[115, 112, 108, 105, 116]⟩, .string ⟨#[109, 101, 114, 103, 101]⟩, .string ⟨#[114, 101, 116, 121, 112, 101]⟩, .string ⟨#[105, 110, 116, 111]⟩, .string ⟨#[116, 111]⟩, .string ⟨#[98, 97, 99, 107]⟩, .string ⟨#[97, 110, 100]⟩, .string ⟨#[111, 114]⟩, .string ⟨#[110, 111, 116]⟩, .string ⟨#[116, 114, 117, 101]⟩, .string ⟨#[102, 97, 108, 115, 101]⟩, .string ⟨#[110, 117, 108, 108]⟩, .string ⟨#[105, 110, 116]⟩, .string ⟨#[116, 101, 120, 116]⟩, .string ⟨#[98, 111, 111, 108]⟩, .string ⟨#[115, 101, 108, 101, 99, 116]⟩, .string ⟨#[119, 104, 101, 114, 101]⟩, .string ⟨#[102, 114, 111, 109]⟩, .string ⟨#[108, 105, 109, 105, 116]⟩] 9))) := Lib.hid ((Below.refl _ _).alloc (Nat.le_refl _) _)
  go_enter Tryz.func64, Tryz.ntmps64
  go_wp2_with fail
  generalize w.alloc (.cells #[.string ⟨#[97, 100, 100]⟩, .string ⟨#[100, 114, 111, 112]⟩, .string ⟨#[114, 101, 110, 97, 109, 101]⟩, .string ⟨#[115, 112, 108, 105, 116]⟩, .string ⟨#[109, 101, 114, 103, 101]⟩, .string ⟨#[114, 101, 116, 121, 112, 101]⟩, .string ⟨#[105, 110, 116, 111]⟩, .string ⟨#[116, 111]⟩, .string ⟨#[98, 97, 99, 107]⟩, .string ⟨#[97, 110, 100]⟩, .string ⟨#[111, 114]⟩, .string ⟨#[110, 111, 116]⟩, .string ⟨#[116, 114, 117, 101]⟩, .string ⟨#[102, 97, 108, 115, 101]⟩, .string ⟨#[110, 117, 108, 108]⟩, .string ⟨#[105, 110, 116]⟩, .string ⟨#[116, 101, 120, 116]⟩, .string ⟨#[98, 111, 111, 108]⟩, .string ⟨#[115, 101, 108, 101, 99, 116]⟩, .string ⟨#[119, 104, 101, 114, 101]⟩, .string ⟨#[102, 114, 111, 109]⟩, .string ⟨#[108, 105, 109, 105, 116]⟩] 9) = W0 at *
  have HW2 : Hid (∀ i (h : i < resB.length), W0.cell? ⟨w.heap.size, i, none⟩ = some (.string resB[i])) := Lib.hid (fun i h => by rw [HW.out.cell i]; exact resCs_at i h)
  clear HW
  go_loopg [4] 23 (fun j s4 wr => ∃ i : Nat, i ≤ 22 ∧ 22 < i + j ∧ s4 = .int .i64 (i : Nat) ∧ Hid (∀ k (h : k < resB.length), k < i → (resB[k].toList == s.toList) = false) ∧ wr = W0)
  case atStart => exact ⟨0, by omega, by omega, rfl, Lib.hid (fun k _ h => absurd h (Nat.not_lt_zero _)), rfl⟩
  case round =>
    obtain ⟨i, hi, hj, rfl, HI, rfl⟩ := hrel
    by_cases hlt : i < 22
    · have hlt' : (i : Int) < 22 := by omega
      have c0 := HW2.out i hlt
      have HR : Hid ((resB[i].toList == s.toList) = true → Lx.res s.data.toList = true) := Lib.hid (res_of hlt)
      by_cases he : (resB[i].toList == s.toList) = true
      · have ER : Hid (Lx.res s.data.toList = true) := Lib.hid (HR.out he)
        clear HR HI
        generalize resB[i] = b at *
        go_wp2_with fail
        go_ret
        exact ⟨retB2 ER.out.symm, HB.out⟩
      · have he' : (resB[i].toList == s.toList) = false := by simpa using he
        have HI2 : Hid (∀ k (h : k < resB.length), k < i + 1 → (resB[k].toList == s.toList) = false) := Lib.hid (fun k h hk => by
          by_cases hki : k = i
          · subst hki; exact he'
          · exact HI.out k h (by omega))
        clear HR HI he
        generalize resB[i] = b at *
        go_wp2_with fail
        go_roundg (22 - i)
        case measure => omega
        case rel => exact ⟨i + 1, by omega, by omega, by go_num, HI2, rfl⟩
    · have hlt' : ¬ (i : Int) < 22 := by omega
      have ER : Hid (Lx.res s.data.toList = false) := Lib.hid (res_not fun k h => HI.out k h (by rw [resB_len] at h; omega))
      clear HI
      go_wp2_with fail
      go_ret
      exact ⟨retB2 ER.out.symm, HB.out⟩
end Go.Proofs.YtbpknainmefidaaGreatDoor
