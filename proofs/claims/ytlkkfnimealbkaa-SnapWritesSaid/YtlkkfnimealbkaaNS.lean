/- Records that came in, none of them longer than memory reaches; are there too many? -/
import Derived.Test.YtlkkfnimealbkaaNR
import Derived.DataShut
import Derived.Deep.Slices
import Derived.SizedLaws
namespace Go.Proofs.Ytlkkfnimealbkaa
open Go.ChangeShapes Go.WideShapes Go.ChangeAt Go.RowKit Go.Deep
set_option linter.unusedVariables false
set_option maxRecDepth 100000
/-- records that came in. -/
structure CameR (w : World) (A : Option Addr) (l : List (List UInt8)) : Prop where
  recs : Recs w A l
  small : ∀ b ∈ l, b.length ≤ 140737488355328
  few : l.length ≤ 9223372036854775807
theorem CameR.below {w w' : World} {A : Option Addr} {l : List (List UInt8)} (h : CameR w A l) (hb : Below w.heap.size w w') : CameR w' A l := ⟨h.recs.below hb, h.small, h.few⟩
theorem choose_bytes {P : Nat → Option Addr × Nat × List UInt8 → Prop} : ∀ (n : Nat), (∀ i, i < n → ∃ d, P i d) → ∃ ds : List (Option Addr × Nat × List UInt8), ds.length = n ∧ ∀ i (h : i < ds.length), P i ds[i]
  | 0, _ => ⟨[], rfl, fun i h => absurd h (by simp)⟩
  | n + 1, h => by
    obtain ⟨ds, h1, h2⟩ := choose_bytes n (fun i hi => h i (by omega))
    obtain ⟨d, hd⟩ := h n (by omega)
    refine ⟨ds ++ [d], by simp [h1], fun i hi => ?_⟩
    rw [List.length_append, List.length_singleton] at hi
    rcases Nat.lt_or_ge i ds.length with hl | hl
    · rw [List.getElem_append_left hl]; exact h2 i hl
    · have : i = ds.length := by omega
      subst this
      rw [List.getElem_append_right (by omega)]
      simp only [Nat.sub_self, List.getElem_cons_zero]
      rw [h1]; exact hd
theorem weightsAll_mem {H : Type} {P : Program} {e : TypeId} : ∀ {l : List (DataW H)} {d : DataW H}, d ∈ l → ∀ n ∈ d.weights P e, n ∈ DataW.weightsAll P e l
  | x :: l, d, h, n, hn => by
    simp only [DataW.weightsAll, List.mem_append]
    rcases List.mem_cons.1 h with rfl | h
    · exact .inl hn
    · exact .inr (weightsAll_mem h n hn)
section
variable {H : Type} {enc : TypeId × Value → H} {W : World} {base fuel : Nat} {spare : Nat → Bool} {held : Bool}
theorem opensBytes {v : Value} {x : DataW H × List MemPlace} (h : DataW.trod enc Try.prog W base spare held fuel 35 [v] = some x) :
    ∃ (A : Option Addr) (c : Nat) (b : List UInt8), v = .slice A b.length c ∧ Holds W A b ∧ b.length ≤ c ∧ c ≤ maxLen ∧ ((∀ n ∈ x.1.weights Try.prog 35, n ≤ reachBytes) → b.length ≤ reachBytes) := by
  rcases open_ints Try.underlying35 Try.underlying5 (by kernel_rfl) h with ⟨hcs, _⟩ | ⟨y, l, c, zs, hcs, _, hl, hm, hs, hx, hcell, hwf⟩
  · simp at hcs
    exact ⟨none, 0, [], hcs, Holds.nil _ _, Nat.le_refl _, Nat.zero_le _, fun _ => Nat.zero_le _⟩
  · simp at hcs
    have hle : l ≤ zs.length := by rw [hs]; split <;> omega
    refine ⟨some y, c, (zs.take l).map (fun z => UInt8.ofNat z.toNat), ?_, fun i hi => ?_, by simp; omega, hm, fun hr => ?_⟩
    · rw [hcs]; congr 1; simp; omega
    case refine_3 =>
      subst hx
      have := hr (((lits .u8 (zs.take l)).length + (lits .u8 (zs.drop l)).length) * Try.prog.bytesOf 5) (by simp only [DataW.weights, Try.underlying35]; exact List.mem_cons_self ..)
      have hb1 : Try.prog.bytesOf 5 = 1 := by kernel_rfl
      rw [hb1] at this
      simp [lits] at this
      simp
      omega
    have hi' : i < l := by simp at hi; omega
    obtain ⟨b, off, spot⟩ := y
    have hc0 := hcell 0 (by omega)
    have hspot : spot = none := by simpa [Addr.add] using World.cell?_spot hc0
    subst hspot
    have hc := hcell i (by omega)
    rw [Addr.add_lit] at hc
    refine ⟨b, off, rfl, World.block_lt_of_cell? W _ hc, ?_⟩
    have hb := bounds_u8 (hwf (zs.getD i 0) (by rw [List.getD_eq_getElem?_getD, List.getElem?_eq_getElem (show i < zs.length by omega)]; exact List.getElem_mem _))
    have e1 : ((zs.take l).map (fun z => UInt8.ofNat z.toNat))[i]'hi = UInt8.ofNat (zs.getD i 0).toNat := by
      simp [List.getD, List.getElem?_eq_getElem (show i < zs.length by omega)]
    rw [e1, hc]
    congr 2
    rw [UInt8.toNat_ofNat']
    omega
theorem opensR {a : Option Addr} {len cap : Nat} {x : DataW H × List MemPlace} (h : DataW.trod enc Try.prog W base spare held fuel 22 (Value.slice a len cap).cells.toList = some x) (hr : ∀ n ∈ x.1.weights Try.prog 22, n ≤ reachBytes) :
    ∃ ts : List (List UInt8), ts.length = len ∧ CameR W a ts := by
  rcases open_slice Try.underlying22 h with ⟨hcs, _⟩ | ⟨y, l, c, m, n, D, Pl, hcs, _, hl, hmx, hm, hx, hi⟩
  · simp [Value.cells] at hcs
    obtain ⟨rfl, rfl, rfl⟩ := hcs
    exact ⟨[], rfl, ⟨Recs.nil _ _, by simp, by simp⟩⟩
  · simp [Value.cells] at hcs
    obtain ⟨rfl, rfl, rfl⟩ := hcs
    have hle : len ≤ m := by rw [hm]; split <;> omega
    have hC : Try.prog.cellsOf 35 = 1 := by kernel_rfl
    obtain ⟨b, off, spot⟩ := y
    subst hx
    have key : ∀ i, i < len → ∃ t : Option Addr × Nat × List UInt8, W.cell? ((⟨b, off, spot⟩ : Addr).add i) = some (.slice t.1 t.2.2.length t.2.1) ∧ Holds W t.1 t.2.2 ∧ t.2.2.length ≤ t.2.1 ∧ t.2.1 ≤ maxLen ∧ t.2.2.length ≤ reachBytes := by
      intro i hil
      obtain ⟨cs', h1, h2⟩ := hi i (by omega)
      rw [hC] at h1
      obtain ⟨_, hcl, hat⟩ := World.cells?_some h1
      match cs', hcl with
      | [u0], _ =>
        obtain ⟨A, c', bs, e2, hA, hB, hC', hR⟩ := opensBytes h2
        subst e2
        refine ⟨(A, c', bs), ?_, hA, hB, hC', hR fun n hn => hr n ?_⟩
        · have := hat 0 (by omega)
          rw [add_add] at this
          simpa using this
        · simp only [DataW.weights, Try.underlying22]
          exact List.mem_cons_of_mem _ (List.mem_append_left _ (weightsAll_mem (List.mem_map.2 ⟨i, by simpa using hil, rfl⟩) n hn))
    obtain ⟨ds, hdl, hds⟩ := choose_bytes len key
    have hmlen : maxLen = 9223372036854775807 := rfl
    have hrb : reachBytes < 2 ^ 47 := reachBytes_lt
    refine ⟨ds.map fun t => t.2.2, by simp [hdl], ⟨fun i hil => ?_, fun x hx => ?_, by rw [List.length_map, hdl]; omega⟩⟩
    · have hil' : i < ds.length := by simpa using hil
      have hspot : spot = none := by
        have := World.cell?_spot (hds 0 (by omega)).1
        simpa [Addr.add] using this
      subst hspot
      obtain ⟨g1, g2, g3, g4, g5⟩ := hds i hil'
      rw [Addr.add_lit] at g1
      refine ⟨b, off, ds[i].1, ds[i].2.1, rfl, World.block_lt_of_cell? W _ g1, ?_, ?_, ?_⟩
      · rw [g1]; simp
      · simpa using g2
      · simpa using g3
    · obtain ⟨t, ht, rfl⟩ := List.mem_map.1 hx
      obtain ⟨i, hil, rfl⟩ := List.mem_iff_getElem.1 ht
      obtain ⟨g1, g2, g3, g4, g5⟩ := hds i hil
      omega
end
def lenL : List (List UInt8) → Nat
  | [] => 0
  | r :: l => r.length + lenL l
theorem lenL_append : ∀ a b : List (List UInt8), lenL (a ++ b) = lenL a + lenL b
  | [], b => by simp [lenL]
  | r :: a, b => by simp only [List.cons_append, lenL, lenL_append a b]; omega
theorem lenL_take (l : List (List UInt8)) (i : Nat) (h : i < l.length) : lenL (l.take (i + 1)) = lenL (l.take i) + l[i].length := by
  rw [List.take_succ_eq_append_getElem h, lenL_append]; simp [lenL]
theorem lenL_le : ∀ (l : List (List UInt8)) (B : Nat), (∀ b ∈ l, b.length ≤ B) → lenL l ≤ l.length * B
  | [], B, _ => by simp [lenL]
  | r :: l, B, h => by
    have h1 := h r (List.mem_cons_self ..)
    have h2 := lenL_le l B (fun b hb => h b (List.mem_cons_of_mem _ hb))
    simp only [lenL, List.length_cons, Nat.succ_mul]
    omega
theorem lenL_mem {l : List (List UInt8)} {b : List UInt8} (h : b ∈ l) : b.length ≤ lenL l := by
  induction l with
  | nil => simp at h
  | cons r l ih =>
    simp only [lenL]
    rcases List.mem_cons.1 h with rfl | h
    · omega
    · have := ih h
      omega
theorem long_any {w : World} {A : Option Addr} {l : List (List UInt8)} (h : CameR w A l) (c : Nat) :
    Calls Try.prog 8 #[.slice A l.length c] w fun e w' => e = .returned (.bool (decide (400 < l.length ∨ 6000 < lenL l))) ∧ Below w.heap.size w w' := by
  have hfew := h.few
  by_cases h4 : 400 < l.length
  · have h4i : (400 : Int) < (l.length : Int) := by omega
    have hd : decide (400 < l.length ∨ 6000 < lenL l) = true := decide_eq_true (.inl h4)
    rw [hd]
    clear h hd
    go_enter Try.func8, Try.ntmps8
    go_wp2_with fail
    go_ret
    exact ⟨rfl, Below.refl _ _⟩
  have h4i : ¬ (400 : Int) < (l.length : Int) := by omega
  have hd : decide (400 < l.length ∨ 6000 < lenL l) = decide (6000 < lenL l) := by
    by_cases h6 : 6000 < lenL l
    · simp [h6]
    · simp [h4, h6]
  rw [hd]
  have HR := Lib.hid h.recs
  have HS := Lib.hid h.small
  have BW := Lib.hid (Below.refl w.heap.size w)
  clear h hd
  go_enter Try.func8, Try.ntmps8
  go_wp2_with fail
  go_loopg [3, 4] (l.length + 1) (fun j s3 s4 wr => ∃ i : Nat, i ≤ l.length ∧ l.length < i + j ∧ s4 = .int .i64 (i : Nat) ∧ s3 = .int .i64 (lenL (l.take i) : Nat) ∧ Below w.heap.size w wr)
  case atStart => exact ⟨0, Nat.zero_le _, by omega, rfl, rfl, BW.out⟩
  case round =>
    obtain ⟨i, hi, hj, rfl, rfl, hbw⟩ := hrel
    have HW := Lib.hid hbw
    have hs := lenL_le (l.take i) 140737488355328 (fun b hb => HS.out b (List.mem_of_mem_take hb))
    rw [List.length_take] at hs
    have hs2 : lenL (l.take i) ≤ 400 * 140737488355328 := Nat.le_trans hs (Nat.mul_le_mul_right _ (by omega))
    clear hbw BW hs
    by_cases hlt : i < l.length
    · have hlti : (i : Int) < (l.length : Int) := by omega
      obtain ⟨g, o, X, cx, e1, -, k1, m1, -⟩ := (HR.out.below HW.out) i hlt
      subst e1
      have hx := HS.out l[i] (List.getElem_mem _)
      have HT := Lib.hid (lenL_take l i hlt)
      generalize lenL (l.take i) = z at *
      generalize l[i].length = y at *
      clear m1
      go_wp2_with fail
      go_roundg (l.length - i)
      case measure => omega
      case rel =>
        refine ⟨i + 1, by omega, by omega, by go_num, ?_, HW.out⟩
        rw [HT.out]
        go_num
    · have hge : ¬ (i : Int) < (l.length : Int) := by omega
      have hil : l.take i = l := List.take_of_length_le (by omega)
      rw [hil]
      rw [hil] at hs2
      have hz0 : decide ((6000 : Int) < ((lenL l : Nat) : Int)) = decide (6000 < lenL l) := decide_eq_decide.2 (by omega)
      have HZ := Lib.hid hz0
      clear hz0
      go_wp2_with fail
      go_ret
      exact ⟨by rw [← HZ.out]; rfl, HW.out⟩
end Go.Proofs.Ytlkkfnimealbkaa
