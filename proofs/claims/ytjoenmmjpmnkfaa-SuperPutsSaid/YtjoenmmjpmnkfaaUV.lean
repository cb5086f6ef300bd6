/- append of zeros to a row of the call's own. -/
import Derived.Test.YtjoenmmjpmnkfaaMP1
import Derived.Lib.AppendZerosOnto
namespace Go.Proofs.Ytjoenmmjpmnkfaa
open Go.RowKit
theorem zeroCells_bytes (k : Nat) : (Builtin.zeroCells #[.int .u8 0] k).toList = List.replicate k (.int .u8 0) := by
  apply List.ext_getElem
  · simp [Builtin.zeroCells]
  · intro i h1 h2
    simp [Builtin.zeroCells, Nat.mod_one]
theorem encB_zeros (k : Nat) : encB (zeros k) = List.replicate k (.int .u8 0) := by simp [encB, zeros]
theorem append_zeros {w : World} {base g cap : Nat} {l : List UInt8} (h : Row w base (.slice (some ⟨g, 0, none⟩) l.length cap) l) (k : Nat) (z : Int) (hz : z = k) (hk : 0 < k) (hn : l.length + k ≤ 1000000) (hbase : base ≤ w.heap.size) :
    ∃ v' w', Sem.run Try.prog (Builtin.append_ #[33, 3] 33 #[.slice (some ⟨g, 0, none⟩) l.length cap, .int .i64 z]) w = .ok v' w' ∧ Row w' base v' (l ++ zeros k) ∧ w.grownBy w' (some g) := by
  subst hz
  have hinf := info5
  cases hi : Try.prog.info? 5 with
  | none => rw [hi] at hinf; simp at hinf
  | some i =>
    rw [hi] at hinf
    simp at hinf
    obtain ⟨i1, i2, i3⟩ := hinf
    have hw : IntKind.i64.wrap (k : Int) = k := by rw [IntKind.wrap_i64]; omega
    have hneg : ¬ ((k : Int) < 0) := by omega
    have hk0 : k ≠ 0 := by omega
    have ht := Try.underlying33
    have htn := Try.underlying3
    have hlen : encB (l ++ zeros k) = encB l ++ List.replicate k (.int .u8 0) := by rw [encB_append, encB_zeros]
    have hll : (l ++ zeros k).length = l.length + k := by simp [zeros]
    have h48i : ¬ (281474976710656 < (k : Int) * (i.bytes : Int)) := by rw [i3]; omega
    have hns : ¬ (k * i.size = 0) := by rw [i2]; omega
    unfold Row at h ⊢
    rcases h.2 with ⟨e, _⟩ | ⟨g', cap', cur, e, hbg, hg, hnc, hcm, hcs, htake⟩
    · cases e
    · cases e
      by_cases hroom : l.length + k ≤ cap
      · have hst := run_storeCells_at Try.prog g (l.length * 1) 5 (List.replicate k (.int .u8 0)) 0 cur w hg (by simp; omega) (by intro v hv; rw [List.mem_replicate] at hv; rw [hv.2]; rfl)
        simp only [Nat.add_zero] at hst
        obtain ⟨nc, hncw⟩ : ∃ nc, nc = (cur.toList.take (l.length * 1) ++ List.replicate k (Value.int .u8 0) ++ cur.toList.drop (l.length * 1 + (List.replicate k (Value.int .u8 0)).length)).toArray := ⟨_, rfl⟩
        rw [← hncw] at hst
        refine ⟨.slice (some ⟨g, 0, none⟩) (l.length + k) cap, w.setRow g nc, ?_, ⟨?_, .inr ⟨g, cap, nc, ?_, hbg, setRow_heap w g cur _ 5 _ hg, ?_, hcm, ?_, ?_⟩⟩, ⟨rfl, rfl, rfl, by simp, fun k' _ hk' => setRow_other w g k' _ (fun e => hk' (by simp [e]))⟩⟩
        · have hzc := zeroCells_bytes k
          have hk48 : ¬ (281474976710656 < (k : Int)) := by omega
          rw [Nat.mul_one] at hst
          simp [Builtin.append_, run_underlying ht, run_underlying htn, sizeOf, typeInfo, zeroValue, hi, i1, i2, i3, asInt, asIntOf, hw, hneg, hk0, hk48, hroom, Addr.add_lit, Value.cells, hzc, hst]
        · rw [hlen, List.length_append, encB_length, List.length_replicate, hll]; omega
        · rw [hll]
        · rw [hll]; exact hroom
        · rw [hncw]; simp at hcs ⊢; omega
        · rw [hll, hlen, hncw]
          have : (l.length + k) * 1 = (cur.toList.take (l.length * 1) ++ List.replicate k (Value.int .u8 0)).length := by rw [htake]; simp [encB_length]
          rw [this, htake]
          exact List.take_left
      · have holds : ∀ j u, (encB l)[j]? = some u → w.cell? ((⟨g, 0, none⟩ : Addr).add j) = some u := h.cells (g := g) rfl
        have hold : (Builtin.firstCells i.size l.length (.slice (some ⟨g, 0, none⟩) l.length cap)).run Try.prog w.drew = .ok (encB l).toArray w.drew := by
          rw [i2]
          exact run_firstCells_some (P := Try.prog) w.drew 1 l.length ⟨g, 0, none⟩ l.length cap (encB l) (by simp [encB_length]) holds
        have hr := Lib.run_append_grow_zeros (P := Try.prog) w 33 3 33 5 i (.int .u8 0) .i64 .i64 ht htn hi i1 (some ⟨g, 0, none⟩) l.length cap (encB l) hold k hk (by omega) (by omega) (by omega) (by rw [i3]; omega) (by rw [i3]; exact growslice_fits (by omega) (by omega))
        have hge := grownCap_ge w (l.length + k) cap 5
        have hcm2 : grownCap w (l.length + k) cap 5 ≤ maxLen := grownCap_le_maxLen w (l.length + k) cap 5 (by simp only [maxLen]; omega)
        have hzc : (Builtin.zeroCells (Value.int IntKind.u8 0).cells k).toList = List.replicate k (.int .u8 0) := zeroCells_bytes k
        refine ⟨_, _, hr, ⟨?_, .inr ⟨w.heap.size, _, _, by rw [hll], hbase, heap_alloc_new w.drew _, by rw [hll]; exact hge, hcm2, ?_, ?_⟩⟩, ⟨rfl, rfl, rfl, by simp, fun _ hk' _ => heap_alloc_old w.drew _ hk'⟩⟩
        · rw [hlen, List.length_append, encB_length, List.length_replicate, hll]; omega
        · simp only [Array.size_append, List.size_toArray, size_zeroCells, encB_length, Value.cells]
          simp
          omega
        · rw [hll, hlen]
          simp only [Array.toList_append, hzc, List.append_assoc]
          rw [← List.append_assoc]
          have : (l.length + k) * 1 = (encB l ++ List.replicate k (Value.int .u8 0)).length := by simp [encB_length]
          rw [this]
          exact List.take_left
end Go.Proofs.Ytjoenmmjpmnkfaa
