/- The reference's disk in memory; zeros; Seen. -/
import Derived.Test.YtmcgjlidfgbdfaaDKi
namespace Go.Proofs.Ytmcgjlidfgbdfaa
open Go.RowKit

def encR (ws : List (Nat × ByteArray)) : List Value := ws.flatMap fun x => [.int .i64 (x.1 : Nat), .string x.2]
theorem encR_length : ∀ ws : List (Nat × ByteArray), (encR ws).length = ws.length * 2
  | [] => rfl
  | x :: xs => by
    have := encR_length xs
    unfold encR at *
    rw [List.flatMap_cons, List.length_append, this, List.length_cons]
    simp only [List.length_cons, List.length_nil]
    omega
theorem encR_append (xs ys : List (Nat × ByteArray)) : encR (xs ++ ys) = encR xs ++ encR ys := by simp [encR]
theorem encR_at : ∀ (xs : List (Nat × ByteArray)) (i : Nat) (h : i < xs.length), (encR xs)[i * 2]? = some (.int .i64 (xs[i].1 : Nat)) ∧ (encR xs)[i * 2 + 1]? = some (.string xs[i].2)
  | [], i, h => absurd h (by simp)
  | x :: xs, 0, h => ⟨rfl, rfl⟩
  | x :: xs, i + 1, h => by
    have := encR_at xs i (by simpa using h)
    have e : encR (x :: xs) = Value.int .i64 (x.1 : Nat) :: .string x.2 :: encR xs := rfl
    rw [e]
    have e0 : (i + 1) * 2 = i * 2 + 1 + 1 := by omega
    rw [e0]
    simp only [List.getElem?_cons_succ, List.getElem_cons_succ]
    exact this
def RRow (w : World) (v : Value) (ws : List (Nat × ByteArray)) : Prop := w.ownsRow 0 59 2 v ws.length (encR ws)
theorem RRow.of_heap {w w' : World} {v : Value} {ws : List (Nat × ByteArray)} (h : RRow w v ws) (hb : ∀ b, v.ownBlock = some b → w'.heap[b]? = w.heap[b]?) : RRow w' v ws := ownsRow_of_heap h hb
theorem RRow.nil (w : World) : RRow w (.slice none 0 0) [] := World.ownsRow_nil _ _ _ _
theorem RRow.lt {w : World} {v : Value} {ws : List (Nat × ByteArray)} (h : RRow w v ws) {k : Nat} (hk : v.ownBlock = some k) : k < w.heap.size := by
  obtain ⟨cur, h1⟩ := row_kind h hk
  exact (Array.getElem?_eq_some_iff.1 h1).1
theorem RRow.below {w w' : World} {v : Value} {ws : List (Nat × ByteArray)} (h : RRow w v ws) (hb : Below w.heap.size w w') : RRow w' v ws := h.of_heap fun b e => hb.block b (h.lt e)
theorem RRow.shape {w : World} {v : Value} {ws : List (Nat × ByteArray)} (h : RRow w v ws) : ∃ A c, v = .slice A ws.length c ∧ ws.length ≤ c ∧ ∀ i (h : i < ws.length), ∃ g, A = some ⟨g, 0, none⟩ ∧ v.ownBlock = some g ∧ g < w.heap.size ∧ w.cell? ⟨g, i * 2, none⟩ = some (.int .i64 (ws[i].1 : Nat)) ∧ w.cell? ⟨g, i * 2 + 1, none⟩ = some (.string ws[i].2) := by
  obtain ⟨_, h2⟩ := h
  rcases h2 with ⟨rfl, h0⟩ | ⟨g, cap, cur, rfl, hb, hh, hn, hm, hs, ht⟩
  · exact ⟨none, 0, by rw [h0], by omega, fun i hi => absurd hi (by omega)⟩
  · refine ⟨_, cap, rfl, hn, fun i hi => ⟨g, rfl, rfl, (Array.getElem?_eq_some_iff.1 hh).1, ?_⟩⟩
    obtain ⟨k0, k1⟩ := encR_at ws i hi
    have key : ∀ j u, j < ws.length * 2 → (encR ws)[j]? = some u → w.cell? ⟨g, j, none⟩ = some u := by
      intro j u hj hu
      rw [cell_of_row w g j cur 59 (0, 0) hh, ← hu, ← ht, List.getElem?_take, if_pos hj]
      simp
    exact ⟨key _ _ (by omega) k0, key _ _ (by omega) k1⟩
theorem zeroR : (Try.prog.info? 59).map (fun i => (i.zero.map (fun z => z.cells.size), i.size, decide (i.bytes ≤ 1000))) = some (some 2, 2, true) := by kernel_rfl
theorem append_rw {w : World} {v : Value} {ws : List (Nat × ByteArray)} (h : RRow w v ws) (x : Nat × ByteArray) (hn : ws.length ≤ 1000000) :
    ∃ v' w', Sem.run Try.prog (Builtin.append_ #[36, 36] 36 #[v, .slice (some ⟨w.heap.size, 0, none⟩) 1 1]) (w.alloc (.cells #[.int .i64 (x.1 : Nat), .string x.2] 59)) = .ok v' w' ∧ RRow w' v' (ws ++ [x]) ∧ (w.alloc (.cells #[.int .i64 (x.1 : Nat), .string x.2] 59)).grownBy w' v.ownBlock ∧ ∀ k, v'.ownBlock = some k → v.ownBlock = some k ∨ w.heap.size ≤ k := by
  have hinf := zeroR
  cases hi : Try.prog.info? 59 with
  | none => rw [hi] at hinf; simp at hinf
  | some i =>
    rw [hi] at hinf
    simp at hinf
    obtain ⟨⟨z, hz, i1⟩, i2, i3⟩ := hinf
    have hb : ∀ (a b : Nat), a ≤ 1000001 → b ≤ 1000 → a * b ≤ 140737488355328 := fun a b h1 h2 => Nat.le_trans (Nat.mul_le_mul h1 h2) (by omega)
    obtain ⟨v', w', hr, ho, hg, _, hown⟩ := run_append_own_at (P := Try.prog) (w.alloc (.cells #[.int .i64 (x.1 : Nat), .string x.2] 59)) 0 36 36 59 i z 2 i.bytes Try.underlying36 hi hz i2 rfl i1 (by omega) v ws.length (encR ws) (h.of_heap fun b hb => Below.heap_alloc _ _ _ (h.lt hb)) ⟨w.heap.size, 0, none⟩ 1 1 (encR [x]) rfl (by
      intro j u hu
      rw [Addr.add_lit, Nat.zero_add, cell_of_row _ w.heap.size j #[.int .i64 (x.1 : Nat), .string x.2] 59 (0, 0) (heap_alloc_new w _), ← hu, show encR [x] = [Value.int .i64 (x.1 : Nat), .string x.2] from rfl]
      simp) (by
      intro u hu
      simp [encR] at hu
      rcases hu with rfl | rfl <;> rfl) (by simp only [maxLen]; omega) (hb _ _ (by omega) i3) (by simp)
    refine ⟨v', w', hr, ?_, hg, fun k hk => ?_⟩
    · unfold RRow
      rw [List.length_append, encR_append]
      exact ho
    · rcases hown with e | e
      · exact .inl (e ▸ hk)
      · rw [e] at hk
        injection hk with hk
        simp at hk
        exact .inr (by omega)
/-- append of a whole row of strings. -/
theorem append_strs {w : World} {base : Nat} {v : Value} {ss : List ByteArray} (h : SRow w base v ss) (g c : Nat) (ys : List ByteArray) (hys : ∀ i (h : i < ys.length), w.cell? ⟨g, i, none⟩ = some (.string ys[i])) (hn : ss.length + ys.length ≤ 1000000) (hbase : base ≤ w.heap.size) :
    ∃ v' w', Sem.run Try.prog (Builtin.append_ #[35, 35] 35 #[v, .slice (some ⟨g, 0, none⟩) ys.length c]) w = .ok v' w' ∧ SRow w' base v' (ss ++ ys) ∧ w.grownBy w' v.ownBlock := by
  have hinf := infoStr
  cases hi : Try.prog.info? 9 with
  | none => rw [hi] at hinf; simp at hinf
  | some i =>
    rw [hi] at hinf
    simp at hinf
    obtain ⟨i1, i2, i3⟩ := hinf
    have hb : ∀ (a b : Nat), a ≤ 1000001 → b ≤ 1000 → a * b ≤ 140737488355328 := fun a b h1 h2 => Nat.le_trans (Nat.mul_le_mul h1 h2) (by omega)
    obtain ⟨v', w', hr, ho, hg, _, _⟩ := run_append_own_at (P := Try.prog) w base 35 35 9 i _ 1 i.bytes Try.underlying35 hi i1 i2 rfl rfl (by omega) v ss.length (strs ss) h ⟨g, 0, none⟩ ys.length c (strs ys) (by simp [strs]) (by
      intro j u hu
      have hj : j < ys.length := by
        have := (List.getElem?_eq_some_iff.1 hu).1
        simpa [strs] using this
      rw [Addr.add_lit, Nat.zero_add, hys j hj, ← hu]
      simp [strs, hj]) (by
      intro u hu
      simp only [strs, List.mem_map] at hu
      obtain ⟨y, _, rfl⟩ := hu
      rfl) (by simp only [maxLen]; omega) (hb _ _ (by omega) i3) hbase
    refine ⟨v', w', hr, ?_, hg⟩
    unfold SRow
    rw [List.length_append, show strs (ss ++ ys) = strs ss ++ strs ys by simp [strs]]
    exact ho

/-! the reference's disk -/
structure Rf where
  p : Nat
  lv : Value
  last : List ByteArray
  size : Nat
  vw : Value
  ws : List (Nat × ByteArray)
  fuse : Int
  dark : Bool
  deeds : Nat
def rcells (r : Rf) : Array Value := #[r.lv, .int .i64 r.size, r.vw, .int .i64 r.fuse, .bool r.dark, .int .i64 r.deeds]
structure RefAt (w : World) (r : Rf) : Prop where
  top : Whole w r.p 38 (rcells r)
  last : SRow w 0 r.lv r.last
  waits : RRow w r.vw r.ws
  fit : ∀ x ∈ r.ws, x.1 < r.last.length
  few : r.last.length ≤ 1000
  many : r.ws.length ≤ 1000
/-- all the sectors, with the writes whose bit is set. -/
def seenFrom (p : Nat) : Nat → List (Nat × ByteArray) → List ByteArray → List ByteArray
  | _, [], out => out
  | k, x :: xs, out => seenFrom p (k + 1) xs (if bit p k then out.set x.1 x.2 else out)
def seenR (last : List ByteArray) (ws : List (Nat × ByteArray)) (p : Nat) : List ByteArray := seenFrom p 0 ws last
theorem seenFrom_length (p : Nat) : ∀ (k : Nat) (ws : List (Nat × ByteArray)) (out : List ByteArray), (seenFrom p k ws out).length = out.length
  | _, [], out => rfl
  | k, x :: xs, out => by
    unfold seenFrom
    rw [seenFrom_length p (k + 1) xs]
    split <;> simp
theorem seenFrom_snoc (p : Nat) (x : Nat × ByteArray) : ∀ (k : Nat) (ws : List (Nat × ByteArray)) (out : List ByteArray), seenFrom p k (ws ++ [x]) out = if bit p (k + ws.length) then (seenFrom p k ws out).set x.1 x.2 else seenFrom p k ws out
  | k, [], out => rfl
  | k, y :: ys, out => by
    rw [List.cons_append]
    unfold seenFrom
    rw [seenFrom_snoc p x (k + 1) ys, List.length_cons, show k + 1 + ys.length = k + (ys.length + 1) by omega]
theorem half_pow (p j : Nat) : p / 2 ^ j / 2 = p / 2 ^ (j + 1) := by rw [Nat.div_div_eq_div_mul, Nat.pow_succ]
theorem zeros_run (n : Nat) (z : Int) (hz : z = n) (hn : n ≤ 100000) (w : World) : Calls Try.prog 24 #[.int .i64 z] w fun e w' => e = .returned (.string ⟨(zeros n).toArray⟩) ∧ Below w.heap.size w w' := by
  subst hz
  have MK := fun W => make_bytes n n rfl hn W
  have hB : BB (w.alloc (.cells (encB (zeros n)).toArray 5)) w.heap.size (zeros n) := Whole.new _ _ _
  have bal : Below w.heap.size w (w.alloc (.cells (encB (zeros n)).toArray 5)) := (Below.refl _ _).alloc (Nat.le_refl _) _
  generalize hw1 : w.alloc (.cells (encB (zeros n)).toArray 5) = w1 at *
  have CV := conv_bytes hB.holds0 n
  rw [show (zeros n).length = n by simp [zeros]] at CV
  have BAL := Lib.hid bal
  clear hB bal
  go_enter Try.func24, Try.ntmps24
  go_wp2_with fail
  go_ret
  exact ⟨rfl, BAL.out⟩
end Go.Proofs.Ytmcgjlidfgbdfaa
