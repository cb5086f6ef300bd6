/- append to a journal's row, of bytes and of zeros. -/
import Derived.Test.YthoihlebplmcoaaJC
import Derived.Lib.AppendZerosOnto
import Derived.ArgAppend
namespace Go.Proofs.Ythoihlebplmcoaa
open Go.RowKit
set_option linter.unusedVariables false
theorem zeroCells_bytes (k : Nat) : (Builtin.zeroCells #[.int .u8 0] k).toList = List.replicate k (.int .u8 0) := by
  apply List.ext_getElem
  · simp [Builtin.zeroCells]
  · intro i h1 h2
    simp [Builtin.zeroCells, Nat.mod_one]
theorem encB_zeros (k : Nat) : encB (zeros k) = List.replicate k (.int .u8 0) := by simp [encB, zeros]
theorem append_zeros {w : World} {base g cap : Nat} {l : List UInt8} (h : Row w base (.slice (some ⟨g, 0, none⟩) l.length cap) l) (k : Nat) (z : Int) (hz : z = k) (hk : 0 < k) (hn : l.length + k ≤ 1000000) (hbase : base ≤ w.heap.size) :
    ∃ v' w', Sem.run Try.prog (Builtin.append_ #[35, 3] 35 #[.slice (some ⟨g, 0, none⟩) l.length cap, .int .i64 z]) w = .ok v' w' ∧ Row w' base v' (l ++ zeros k) ∧ w.grownBy w' (some g) ∧ (v'.ownBlock = some g ∨ v'.ownBlock = some w.heap.size) := by
  subst hz
  have hinf := info5
  cases hi : Try.prog.info? 5 with
  | none => rw [hi] at hinf; simp at hinf
  | some i =>
    rw [hi] at hinf
    simp at hinf
    obtain ⟨i1, i2, i3⟩ := hinf
    have hw : IntKind.i64.wrap (k : Int) = k := by rw [IntKind.wrap_i64]; omega
    have hneg : ¬ ((k : Int) < 0) := by omega
    have hk0 : k ≠ 0 := by omega
    have ht := Try.underlying35
    have htn := Try.underlying3
    have hlen : encB (l ++ zeros k) = encB l ++ List.replicate k (.int .u8 0) := by rw [encB_append, encB_zeros]
    have hll : (l ++ zeros k).length = l.length + k := by simp [zeros]
    have h48i : ¬ (281474976710656 < (k : Int) * (i.bytes : Int)) := by rw [i3]; omega
    have hns : ¬ (k * i.size = 0) := by rw [i2]; omega
    unfold Row at h ⊢
    rcases h.2 with ⟨e, _⟩ | ⟨g', cap', cur, e, hbg, hg, hnc, hcm, hcs, htake⟩
    · cases e
    · cases e
      by_cases hroom : l.length + k ≤ cap
      · have hst := run_storeCells_at Try.prog g (l.length * 1) 5 (List.replicate k (.int .u8 0)) 0 cur w hg (by simp; omega) (by intro v hv; rw [List.mem_replicate] at hv; rw [hv.2]; rfl)
        simp only [Nat.add_zero] at hst
        obtain ⟨nc, hncw⟩ : ∃ nc, nc = (cur.toList.take (l.length * 1) ++ List.replicate k (Value.int .u8 0) ++ cur.toList.drop (l.length * 1 + (List.replicate k (Value.int .u8 0)).length)).toArray := ⟨_, rfl⟩
        rw [← hncw] at hst
        refine ⟨.slice (some ⟨g, 0, none⟩) (l.length + k) cap, w.setRow g nc, ?_, ⟨?_, .inr ⟨g, cap, nc, ?_, hbg, setRow_heap w g cur _ 5 _ hg, ?_, hcm, ?_, ?_⟩⟩, ⟨rfl, rfl, rfl, by simp, fun k' _ hk' => setRow_other w g k' _ (fun e => hk' (by simp [e]))⟩, .inl rfl⟩
        · have hzc := zeroCells_bytes k
          have hk48 : ¬ (281474976710656 < (k : Int)) := by omega
          rw [Nat.mul_one] at hst
          simp [Builtin.append_, run_underlying ht, run_underlying htn, sizeOf, typeInfo, zeroValue, hi, i1, i2, i3, asInt, asIntOf, hw, hneg, hk0, hk48, hroom, Addr.add_lit, Value.cells, hzc, hst]
        · rw [hlen, List.length_append, encB_length, List.length_replicate, hll]; omega
        · rw [hll]
        · rw [hll]; exact hroom
        · rw [hncw]; simp at hcs ⊢; omega
        · rw [hll, hlen, hncw]
          have : (l.length + k) * 1 = (cur.toList.take (l.length * 1) ++ List.replicate k (Value.int .u8 0)).length := by rw [htake]; simp [encB_length]
          rw [this, htake]
          exact List.take_left
      · have holds : ∀ j u, (encB l)[j]? = some u → w.cell? ((⟨g, 0, none⟩ : Addr).add j) = some u := h.cells (g := g) rfl
        have hold : (Builtin.firstCells i.size l.length (.slice (some ⟨g, 0, none⟩) l.length cap)).run Try.prog w.drew = .ok (encB l).toArray w.drew := by
          rw [i2]
          exact run_firstCells_some (P := Try.prog) w.drew 1 l.length ⟨g, 0, none⟩ l.length cap (encB l) (by simp [encB_length]) holds
        have hr := Lib.run_append_grow_zeros (P := Try.prog) w 35 3 35 5 i (.int .u8 0) .i64 .i64 ht htn hi i1 (some ⟨g, 0, none⟩) l.length cap (encB l) hold k hk (by omega) (by omega) (by omega) (by rw [i3]; omega) (by rw [i3]; exact growslice_fits (by omega) (by omega))
        have hge := grownCap_ge w (l.length + k) cap 5
        have hcm2 : grownCap w (l.length + k) cap 5 ≤ maxLen := grownCap_le_maxLen w (l.length + k) cap 5 (by simp only [maxLen]; omega)
        have hzc : (Builtin.zeroCells (Value.int IntKind.u8 0).cells k).toList = List.replicate k (.int .u8 0) := zeroCells_bytes k
        refine ⟨_, _, hr, ⟨?_, .inr ⟨w.heap.size, _, _, by rw [hll], hbase, heap_alloc_new w.drew _, by rw [hll]; exact hge, hcm2, ?_, ?_⟩⟩, ⟨rfl, rfl, rfl, by simp, fun _ hk' _ => heap_alloc_old w.drew _ hk'⟩, .inr rfl⟩
        · rw [hlen, List.length_append, encB_length, List.length_replicate, hll]; omega
        · simp only [Array.size_append, List.size_toArray, size_zeroCells, encB_length, Value.cells]
          simp
          omega
        · rw [hll, hlen]
          simp only [Array.toList_append, hzc, List.append_assoc]
          rw [← List.append_assoc]
          have : (l.length + k) * 1 = (encB l ++ List.replicate k (Value.int .u8 0)).length := by simp [encB_length]
          rw [this]
          exact List.take_left
/-- which block a row stands in, and may grow in. -/
abbrev ob (A : Option Addr) : Option Nat := A.map (·.block)
theorem ob_own (A : Option Addr) (n c : Nat) : (Value.slice A n c).ownBlock = ob A := by cases A <;> rfl
theorem JRow.nil {w : World} {A : Option Addr} {c : Nat} {l : List UInt8} (h : JRow w A c l) (hA : A = none) : l = [] ∧ Row w 0 (.slice A l.length c) l ∨ l = [] ∧ c = 0 := by
  subst hA
  have hl : l = [] := holds_none h.held
  rcases h.own with o | o
  · exact .inl ⟨hl, o⟩
  · subst hl; exact .inr ⟨rfl, o⟩
/-- the longer row. -/
structure Longer (w w' : World) (A A' : Option Addr) (c' : Nat) (l : List UInt8) : Prop where
  row : Row w' 0 (.slice A' l.length c') l
  grown : w.grownBy w' (ob A)
  block : ob A' = ob A ∨ ∃ g, ob A' = some g ∧ w.heap.size ≤ g
theorem append_J {w : World} {A : Option Addr} {c : Nat} {l : List UInt8} (h : JRow w A c l) (B : Option Addr) (c2 : Nat) (m : List UInt8) (hm : Holds w B m) (hm0 : 0 < m.length) (hn : l.length + m.length ≤ 1000000) :
    ∃ A' c' w', Sem.run Try.prog (Builtin.append_ #[35, 35] 35 #[.slice A l.length c, .slice B m.length c2]) w = .ok (.slice A' (l.length + m.length) c') w' ∧ Longer w w' A A' c' (l ++ m) := by
  rcases h.own with o | o
  · obtain ⟨v', w', hr, ho, hg, hb⟩ := append_bytes o B c2 m hm hn (Nat.zero_le _)
    obtain ⟨A', c', rfl, -, -, -⟩ := ho.shape
    rw [List.length_append] at hr
    rw [ob_own, ob_own] at hb
    rw [ob_own] at hg
    exact ⟨A', c', w', hr, ho, hg, hb.imp id fun e => ⟨_, e, Nat.le_refl _⟩⟩
  · have hinf := info5
    cases hi : Try.prog.info? 5 with
    | none => rw [hi] at hinf; simp at hinf
    | some i =>
      rw [hi] at hinf
      simp at hinf
      obtain ⟨i1, i2, i3⟩ := hinf
      cases A with
      | none =>
        have hl : l = [] := holds_none h.held
        subst hl
        have o2 : Row w 0 (.slice none 0 0) [] := Row.nil _ _
        obtain ⟨v', w', hr, ho, hg, hb⟩ := append_bytes o2 B c2 m hm hn (Nat.zero_le _)
        obtain ⟨A', c', rfl, -, -, -⟩ := ho.shape
        rw [List.length_append] at hr
        rw [ob_own] at hb
        simp only [List.length_nil] at o
        subst o
        exact ⟨A', c', w', hr, ho, hg, hb.imp id fun e => ⟨_, e, Nat.le_refl _⟩⟩
      | some b =>
        cases B with
        | none =>
          have := holds_none hm
          subst this
          simp at hm0
        | some a =>
          obtain ⟨v', w', hr, ho, hg⟩ := Go.run_append_arg_grows (P := Try.prog) w 35 35 5 i _ 1 1 Try.underlying35 hi i1 i2 i3 rfl (by omega) b l.length c (encB l) (by simp [encB]) (holds_cells h.held) a m.length c2 (encB m) (by simp [encB]) (holds_cells hm) (by omega) (by simp only [maxLen]; omega) (by omega)
          have ho' : Row w' w.heap.size v' (l ++ m) := by
            unfold Row
            rw [List.length_append, encB_append]
            exact ho
          obtain ⟨A', c', rfl, -, -, -⟩ := ho'.shape
          rw [List.length_append] at hr
          refine ⟨A', c', w', hr, ho'.le (Nat.zero_le _), ⟨hg.os, hg.tape, hg.output, hg.size, fun k hk _ => hg.block k hk (by simp)⟩, ?_⟩
          cases hA : A' with
          | none => 
            rw [hA] at ho'
            have := (ho'.shape).choose_spec
            rcases ho'.2 with ⟨e, e2⟩ | ⟨g, cap, cur, e, _⟩
            · simp only [List.length_append] at e2
              omega
            · cases e
          | some x =>
            rw [hA] at ho'
            exact .inr ⟨x.block, rfl, ho'.block x.block rfl⟩
theorem zeros_none (A : Option Addr) (n c : Nat) (w : World) (hc : n ≤ c) : Sem.run Try.prog (Builtin.append_ #[35, 3] 35 #[.slice A n c, .int .i64 0]) w = .ok (.slice A n c) w := by
  have hinf := info5
  cases hi : Try.prog.info? 5 with
  | none => rw [hi] at hinf; simp at hinf
  | some i =>
    rw [hi] at hinf
    simp at hinf
    obtain ⟨i1, -, i3⟩ := hinf
    have ht := Try.underlying35
    have htn := Try.underlying3
    have hw : IntKind.i64.wrap 0 = 0 := rfl
    cases A <;> simp [Builtin.append_, run_underlying ht, run_underlying htn, sizeOf, typeInfo, zeroValue, hi, i1, i3, asInt, asIntOf, hw, hc, storeCells]
theorem zeros_J {w : World} {A : Option Addr} {c : Nat} {l : List UInt8} (h : JRow w A c l) (k : Nat) (hl0 : 0 < l.length) (hk : 0 < k) (hn : l.length + k ≤ 1000000) :
    ∃ A' c' w', Sem.run Try.prog (Builtin.append_ #[35, 3] 35 #[.slice A l.length c, .int .i64 (k : Nat)]) w = .ok (.slice A' (l.length + k) c') w' ∧ Longer w w' A A' c' (l ++ zeros k) := by
  have hll : (l ++ zeros k).length = l.length + k := by simp [zeros]
  obtain ⟨b, o0, hA, hblt, -⟩ := h.held 0 hl0
  rcases h.own with o | o
  · obtain ⟨g, rfl⟩ : ∃ g, A = some ⟨g, 0, none⟩ := by
      rcases o.2 with ⟨e, _⟩ | ⟨g, cap, cur, e, _⟩
      · rw [hA] at e; cases e
      · injection e with e; exact ⟨g, e⟩
    obtain ⟨v', w', hr, ho, hg, hb⟩ := append_zeros o k (k : Nat) rfl hk hn (Nat.zero_le _)
    obtain ⟨A', c', rfl, -, -, -⟩ := ho.shape
    rw [hll] at hr
    rw [ob_own] at hb
    exact ⟨A', c', w', hr, ho, hg, hb.imp id fun e => ⟨_, e, Nat.le_refl _⟩⟩
  · have hinf := info5
    cases hi : Try.prog.info? 5 with
    | none => rw [hi] at hinf; simp at hinf
    | some i =>
      rw [hi] at hinf
      simp at hinf
      obtain ⟨i1, i2, i3⟩ := hinf
      have ht := Try.underlying35
      have htn := Try.underlying3
      subst o
      have hold : (Builtin.firstCells i.size l.length (.slice A l.length l.length)).run Try.prog w.drew = .ok (encB l).toArray w.drew := by
        rw [i2, hA]
        rw [hA] at h
        exact run_firstCells_some (P := Try.prog) w.drew 1 l.length ⟨b, o0, none⟩ l.length l.length (encB l) (by simp [encB_length]) (holds_cells h.held)
      have hr := Lib.run_append_grow_zeros (P := Try.prog) w 35 3 35 5 i (.int .u8 0) .i64 .i64 ht htn hi i1 A l.length l.length (encB l) hold k hk (by omega) (by omega) (by omega) (by rw [i3]; omega) (by rw [i3]; exact growslice_fits (by omega) (by omega))
      have hge := grownCap_ge w (l.length + k) l.length 5
      have hcm2 : grownCap w (l.length + k) l.length 5 ≤ maxLen := grownCap_le_maxLen w (l.length + k) l.length 5 (by simp only [maxLen]; omega)
      have hzc : (Builtin.zeroCells (Value.int IntKind.u8 0).cells k).toList = List.replicate k (.int .u8 0) := zeroCells_bytes k
      have hlen : encB (l ++ zeros k) = encB l ++ List.replicate k (.int .u8 0) := by rw [encB_append, encB_zeros]
      refine ⟨_, _, _, hr, ⟨⟨?_, .inr ⟨w.heap.size, _, _, rfl, Nat.zero_le _, heap_alloc_new w.drew _, by rw [hll]; exact hge, hcm2, ?_, ?_⟩⟩, ⟨rfl, rfl, rfl, by simp, fun _ hk' _ => heap_alloc_old w.drew _ hk'⟩, .inr ⟨w.heap.size, rfl, Nat.le_refl _⟩⟩⟩
      · rw [hlen, List.length_append, encB_length, List.length_replicate, hll]; omega
      · simp only [Array.size_append, List.size_toArray, size_zeroCells, encB_length, Value.cells]
        simp
        omega
      · rw [hll, hlen]
        simp only [Array.toList_append, hzc, List.append_assoc]
        rw [← List.append_assoc]
        have : (l.length + k) * 1 = (encB l ++ List.replicate k (Value.int .u8 0)).length := by simp [encB_length]
        rw [this]
        exact List.take_left
end Go.Proofs.Ythoihlebplmcoaa
