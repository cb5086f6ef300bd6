/- The sectors as strings. -/
import Derived.Test.YthoihlebplmcoaaJ6
namespace Go.Proofs.Ythoihlebplmcoaa
open Go.RowKit
set_option linter.unusedVariables false
def strs (ss : List ByteArray) : List Value := ss.map fun s => .string s
def SRow (w : World) (base : Nat) (v : Value) (ss : List ByteArray) : Prop := w.ownsRow base 9 1 v ss.length (strs ss)
theorem SRow.new (w : World) : SRow (w.alloc (.cells #[] 9)) w.heap.size (.slice (some ⟨w.heap.size, 0, none⟩) 0 0) [] :=
  ⟨rfl, .inr ⟨w.heap.size, 0, #[], rfl, Nat.le_refl _, heap_alloc_new w _, Nat.le_refl _, Nat.zero_le _, rfl, rfl⟩⟩
theorem SRow.nil (w : World) (base : Nat) : SRow w base (.slice none 0 0) [] := ⟨rfl, .inl ⟨rfl, rfl⟩⟩
theorem SRow.below {w w' : World} {base : Nat} {v : Value} {ss : List ByteArray} (h : SRow w base v ss) (hb : Below w.heap.size w w') : SRow w' base v ss := by
  obtain ⟨h1, h2⟩ := h
  refine ⟨h1, h2.imp id ?_⟩
  rintro ⟨g, cap, cur, hv, hg, hh, r⟩
  exact ⟨g, cap, cur, hv, hg, (hb.block g (Array.getElem?_eq_some_iff.1 hh).1).trans hh, r⟩
theorem SRow.of_heap {w w' : World} {base : Nat} {v : Value} {ss : List ByteArray} (h : SRow w base v ss) (hb : ∀ b, v.ownBlock = some b → w'.heap[b]? = w.heap[b]?) : SRow w' base v ss := ownsRow_of_heap h hb
theorem SRow.le {w : World} {base base' : Nat} {v : Value} {ss : List ByteArray} (h : SRow w base v ss) (hb : base' ≤ base) : SRow w base' v ss :=
  ⟨h.1, h.2.imp id fun ⟨g, cap, cur, hv, hg, r⟩ => ⟨g, cap, cur, hv, Nat.le_trans hb hg, r⟩⟩
theorem SRow.block {w : World} {base : Nat} {v : Value} {ss : List ByteArray} (h : SRow w base v ss) : ∀ k, v.ownBlock = some k → base ≤ k ∧ k < w.heap.size := by
  rcases h.2 with ⟨rfl, _⟩ | ⟨g, cap, cur, rfl, hb, hh, _⟩
  · intro k e; simp [Value.ownBlock] at e
  · intro k e
    simp [Value.ownBlock] at e
    subst e
    exact ⟨hb, (Array.getElem?_eq_some_iff.1 hh).1⟩
theorem SRow.shape {w : World} {base : Nat} {v : Value} {ss : List ByteArray} (h : SRow w base v ss) : ∃ A c, v = .slice A ss.length c ∧ ss.length ≤ c ∧ ∀ i (h : i < ss.length), ∃ g, A = some ⟨g, 0, none⟩ ∧ v.ownBlock = some g ∧ g < w.heap.size ∧ w.cell? ⟨g, i, none⟩ = some (.string ss[i]) := by
  obtain ⟨_, h2⟩ := h
  rcases h2 with ⟨rfl, h0⟩ | ⟨g, cap, cur, rfl, hb, hh, hn, hm, hs, ht⟩
  · exact ⟨none, 0, by rw [h0], by omega, fun i hi => absurd hi (by omega)⟩
  · refine ⟨_, cap, rfl, hn, fun i hi => ⟨g, rfl, rfl, (Array.getElem?_eq_some_iff.1 hh).1, ?_⟩⟩
    have hu : (strs ss)[i]? = some (.string ss[i]) := by simp [strs, hi]
    rw [cell_of_row w g i cur 9 (0, 0) hh, ← hu, ← ht, List.getElem?_take, if_pos (by omega)]
    simp
theorem infoStr : (Try.prog.info? 9).map (fun i => (i.zero, i.size, decide (i.bytes ≤ 1000))) = some (some (.string ⟨#[]⟩), 1, true) := by kernel_rfl
theorem append_str {w : World} {base : Nat} {v : Value} {ss : List ByteArray} (h : SRow w base v ss) (x : ByteArray) (hn : ss.length ≤ 1000000) (hbase : base ≤ w.heap.size) :
    ∃ v' w', Sem.run Try.prog (Builtin.append_ #[42, 42] 42 #[v, .slice (some ⟨w.heap.size, 0, none⟩) 1 1]) (w.alloc (.cells #[.string x] 9)) = .ok v' w' ∧ SRow w' base v' (ss ++ [x]) ∧ (w.alloc (.cells #[.string x] 9)).grownBy w' v.ownBlock := by
  have hinf := infoStr
  cases hi : Try.prog.info? 9 with
  | none => rw [hi] at hinf; simp at hinf
  | some i =>
    rw [hi] at hinf
    simp at hinf
    obtain ⟨i1, i2, i3⟩ := hinf
    have hb : ∀ (a b : Nat), a ≤ 1000001 → b ≤ 1000 → a * b ≤ 140737488355328 := fun a b h1 h2 => Nat.le_trans (Nat.mul_le_mul h1 h2) (by omega)
    obtain ⟨v', w', hr, ho, hg, _, _⟩ := run_append_own_at (P := Try.prog) (w.alloc (.cells #[.string x] 9)) base 42 42 9 i _ 1 i.bytes Try.underlying42 hi i1 i2 rfl rfl (by omega) v ss.length (strs ss) (h.below ((Below.refl _ _).alloc (Nat.le_refl _) _)) ⟨w.heap.size, 0, none⟩ 1 1 (strs [x]) rfl (by
      intro j u hu
      rw [Addr.add_lit, Nat.zero_add, cell_of_row _ w.heap.size j #[.string x] 9 (0, 0) (heap_alloc_new w _), ← hu, show strs [x] = [Value.string x] from rfl]
      simp) (by
      intro u hu
      simp [strs] at hu
      subst hu
      rfl) (by simp only [maxLen]; omega) (hb _ _ (by omega) i3) (by simp; omega)
    refine ⟨v', w', hr, ?_, hg⟩
    unfold SRow
    rw [List.length_append, show strs (ss ++ [x]) = strs ss ++ strs [x] by simp [strs]]
    exact ho

/-- a sector's bytes as a string. -/
def look (m : Mod) (k : Nat) : ByteArray := ⟨(pad m.size (m.cont ones k)).toArray⟩
def looks (m : Mod) : List ByteArray := (List.range m.n).map (look m)
set_option maxRecDepth 100000 in
theorem sectors_any {a : Nat → Prop} {w0 w : World} {p : Nat} {m : Mod} (h : OwnA a w0 w p m) (hw : m.waits ≤ 1000000) (hdk : m.dark = false) (hn : m.n ≤ 600) :
    Calls Try.prog 18 #[.pointer (some ⟨p, 0, none⟩), .int .i64 0, .int .i64 (m.n : Nat)] w fun e w' => ∃ v, e = .returned v ∧ SRow w' w.heap.size v (looks m) ∧ Below w.heap.size w w' := by
  have H := Lib.hid h.own
  have SN := Lib.hid (SRow.new w)
  have B0 := Lib.hid ((Below.refl w.heap.size w).alloc (Nat.le_refl _) (.cells #[] 9))
  clear h
  go_enter Try.func18, Try.ntmps18
  go_wp2_with fail
  generalize w.alloc (.cells #[] 9) = w1 at *
  go_loopg [7, 8, 9, 10] (m.n + 1) (fun j s7 s8 s9 s10 wr => ∃ k : Nat, k ≤ m.n ∧ m.n < k + j ∧ s8 = .int .i64 (k : Nat) ∧ SRow wr w.heap.size s7 ((List.range k).map (look m)) ∧ Below w.heap.size w wr)
  case atStart => exact ⟨0, by omega, by omega, rfl, SN.out, B0.out⟩
  case round =>
    obtain ⟨k, hk, hj, rfl, hr, hb⟩ := hrel
    have HR := Lib.hid hr
    have HB := Lib.hid hb
    clear hr hb SN B0
    by_cases hlt : k < m.n
    · have hlti : (k : Int) < (m.n : Int) := by omega
      have RD := Lib.hid ((H.out.below HB.out).read hw hdk k hlt)
      go_wp2_with fail
      refine RD.out.mono ?_
      rintro e w5 ⟨g, rfl, h1, h2, h3, h4, -⟩
      have CV := conv_bytes h2.holds0 m.size
      rw [h3] at CV
      have hb5 := below_next HB.out h4
      have hr5 := HR.out.below h4
      obtain ⟨v', w6, hap, hr6, hg6⟩ := append_str hr5 (look m k) (by simp; omega) hb5.size
      have B6 := Lib.hid (below_grown (hb5.alloc hb5.size _) hg6 (fun b hb => (hr5.block b hb).1))
      have HAP := Lib.hid hap
      have R6 := Lib.hid hr6
      have CV' : Sem.run Try.prog (convert 35 9 (.slice (some ⟨g, 0, none⟩) m.size m.size)) w5 = .ok (.string (look m k)) w5 := CV
      generalize hsq : look m k = s at *
      have HSQ := Lib.hid hsq
      clear hsq hap hr6 hg6 hb5 hr5 h1 h2 h3 h4 CV RD
      go_wp2_with (at_builtin; refine Lib.wpList_append_run _ rfl (.tmp 24) (.tmp 27) 42 42 rfl _ _ rfl rfl _ _ HAP.out ?_)
      go_roundg (m.n - k)
      case measure => omega
      case rel => exact ⟨k + 1, by omega, by omega, rfl, by
        rw [List.range_succ, List.map_append, List.map_singleton, HSQ.out]
        exact R6.out, B6.out⟩
    · have hge : ¬ (k : Int) < (m.n : Int) := by omega
      have hkm : k = m.n := by omega
      subst hkm
      go_wp2_with fail
      go_ret
      exact ⟨_, rfl, HR.out, HB.out⟩
end Go.Proofs.Ythoihlebplmcoaa
