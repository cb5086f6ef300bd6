/- The reference's Write, taken. -/
import Derived.Test.YtmcgjlidfgbdfaaDRd
namespace Go.Proofs.Ytmcgjlidfgbdfaa
open Go.RowKit

theorem cat_pad (n : Nat) (b : List UInt8) : (⟨b.toArray⟩ : ByteArray) ++ ⟨(zeros (n - b.length)).toArray⟩ = padS n b := by
  apply ByteArray.ext
  simp [padS, pad, ByteArray.data_append]
set_option maxRecDepth 100000 in
set_option maxHeartbeats 4000000 in
theorem rwrite_at {w : World} {r : Rf} (h : RefAt w r) (hd : r.deeds ≤ 4611686018427387904) (hf : r.fuse ≤ 9223372036854775807) (hs : r.size ≤ 1024) (hmany : r.ws.length + 1 ≤ 1000) (k : Nat) (A : Option Addr) (c : Nat) (b : List UInt8) (hA : Holds w A b) (hAo : b = [] ∨ Off A (footR r)) (ht : rtakes r k b.length = 0) (hz : ¬ r.fuse = 0) :
    Calls Try.prog 25 #[.pointer (some ⟨r.p, 0, none⟩), .int .i64 (k : Nat), .slice A b.length c] w fun e w' => e = .returned (.int .i64 0) ∧ ∃ vw, RGoes w w' r (rwriteD (deedR r) k vw (padS r.size b)) := by
  have c0 := Whole.cell h.top 0
  have c1 := Whole.cell h.top 1
  have c4 := Whole.cell h.top 4
  simp only [rcells, List.getElem?_toArray, List.getElem?_cons_zero, List.getElem?_cons_succ] at c0 c1 c4
  obtain ⟨L, lc, eL, -, -⟩ := h.last.shape
  rw [eL] at c0
  have dd := rdeed_at h hd hf
  rw [show (!decide (r.fuse = 0)) = true by simp [hz]] at dd
  have DD := Lib.hid dd
  have hfew := h.few
  unfold rtakes at ht
  have hdk : r.dark = false := by
    cases hdd : r.dark with
    | false => rfl
    | true => rw [hdd] at ht; simp at ht
  rw [hdk] at ht c4
  have hno : ¬ ((k : Int) < 0 ∨ (r.last.length : Int) ≤ (k : Int) ∨ (r.size : Int) < (b.length : Int)) := fun e => by
    rw [if_neg (by simp), if_pos e] at ht
    omega
  have hk : k < r.last.length := by omega
  have hbs : b.length ≤ r.size := by omega
  have h1 : ¬ (k : Int) < 0 := by omega
  have h2 : ¬ (r.last.length : Int) ≤ (k : Int) := by omega
  have h3 : ¬ (r.size : Int) < (b.length : Int) := by omega
  have hsi : (r.size : Int) ≤ 1024 := by omega
  have HA := Lib.hid hA
  have HAO := Lib.hid hAo
  clear eL dd ht hno hz hdk h hA hAo
  go_enter Try.func25, Try.ntmps25
  go_wp2_with fail
  refine DD.out.mono ?_
  rintro e w2 ⟨rfl, hg⟩
  have G := Lib.hid hg
  obtain ⟨g1, g2, g3, g4⟩ := hg
  have hA2 : Holds w2 A b := by
    rcases HAO.out with e | ho
    · rw [e]; exact Holds.nil _ _
    · exact HA.out.touch g4 ho
  have e1 : (deedR r).p = r.p := deedR_p r
  have e2 : (deedR r).last = r.last := deedR_last r
  have e3 : (deedR r).ws = r.ws := deedR_ws r
  have e4 : (deedR r).size = r.size := deedR_size r
  have STEP := fun (w3 : World) (hb : Below w2.heap.size w2 w3) => rwrite_step g1 k (by rw [e2]; exact hk) hb (padS r.size b) (by rw [e3]; exact hmany)
  have t2 := Whole.cell g1.top 2
  rw [show (rcells (deedR r))[2]? = some (deedR r).vw from rfl] at t2
  have t1 := Whole.cell g1.top 1
  rw [show (rcells (deedR r))[1]? = some (.int .i64 ((deedR r).size : Nat)) from rfl, e4] at t1
  obtain ⟨a5, c5, e5, -, -⟩ := g1.waits.shape
  rw [e1] at t1 t2
  rw [e5] at t2
  rw [e1, e5] at STEP
  have hplt : r.p < w2.heap.size := e1 ▸ g1.plt
  generalize hDe : deedR r = D at *
  have HDE := Lib.hid hDe
  generalize D.ws.length = n5 at *
  clear hDe
  have cv0 := conv_bytes (w := w2.drew) (A := A) (l := b) (hA2.below (Below.refl _ _).drew) c
  have call : Calls Try.prog 24 #[.int .i64 (IntKind.i64.wrap ((r.size : Int) - (b.length : Int)))] w2.drew fun e w3 => e = .returned (.string ⟨(zeros (r.size - b.length)).toArray⟩) ∧ w3.cell? ⟨r.p, 2, none⟩ = some (.slice a5 n5 c5) ∧
      Sem.run Try.prog (convert 30 9 (.slice A b.length c)) w3 = .ok (.string ⟨b.toArray⟩) w3 ∧
      ∃ a' c' w4, Sem.run Try.prog (Builtin.append_ #[36, 36] 36 #[.slice a5 n5 c5, .slice (some ⟨w3.heap.size, 0, none⟩) 1 1]) (w3.alloc (.cells #[.int .i64 (k : Nat), .string (padS r.size b)] 59)) = .ok (.slice a' (n5 + 1) c') w4 ∧
      w4.cell? ⟨r.p, 2, none⟩ = some (.slice a5 n5 c5) ∧ w4.frozen? ⟨r.p, 2, none⟩ = false ∧
      Hid (∃ vw, RGoes w2 (w4.setCell ⟨r.p, 2, none⟩ (.slice a' (n5 + 1) c')) D (rwriteD D k vw (padS r.size b))) := by
    have b0 : Below w2.heap.size w2 w2.drew := (Below.refl _ _).drew
    refine (zeros_run (r.size - b.length) _ (by rw [IntWalk.i64_in _ (by omega)]; omega) (by omega) w2.drew).mono ?_
    rintro e w3 ⟨rfl, hb⟩
    have hb2 : Below w2.heap.size w2 w3 := below_next b0 hb
    obtain ⟨a', c', w4, s1, s2, s3, s4⟩ := STEP w3 hb2
    exact ⟨rfl, (hb2.cell (p := ⟨r.p, 2, none⟩) hplt).trans t2, conv_bytes (hA2.below hb2) c, a', c', w4, s1, s2, s3, Lib.hid ⟨_, s4⟩⟩
  have CALL := Lib.hid call
  have hcat := cat_pad r.size b
  have hcs : ¬ 9223372036854775807 < (⟨b.toArray⟩ : ByteArray).size + (⟨(zeros (r.size - b.length)).toArray⟩ : ByteArray).size := by
    simp [ByteArray.size, zeros]
    omega
  generalize hps : padS r.size b = ps at *
  have HPS := Lib.hid hps
  clear hps
  generalize (⟨(zeros (r.size - b.length)).toArray⟩ : ByteArray) = zs at *
  generalize (⟨b.toArray⟩ : ByteArray) = bs at *
  clear call STEP hA2 g1 g2 g3 g4 e1 e2 e3 e4 e5 DD HA HAO
  go_wp2_with fail
  go_region_law (first
    | (refine step_append_runI rfl _ _ 36 36 rfl _ _ ?h3 ?h4 s1 ?_; (case h3 => rfl); (case h4 => rfl))
    | (refine step_call_any rfl 24 #[.int .i64 (IntKind.i64.wrap ((r.size : Int) - (b.length : Int)))] ?h1 CALL.out ?_; (case h1 => kernel_rfl); rintro e w3 ⟨rfl, q1, q2, a', c', w4, s1, s2, s3, FIN⟩; have q5 : (w3.alloc (.cells #[.int .i64 (k : Nat), .string ps] 59)).cell? ⟨r.p, 2, none⟩ = some (.slice a5 n5 c5) := (((Below.refl _ w3).alloc (Nat.le_refl _) _).cell (p := ⟨r.p, 2, none⟩) (World.block_lt_of_cell? w3 _ q1)).trans q1; refine ⟨_, rfl, ?_⟩))
  all_goals
    clear q1 q2 q5 s1 s2 s3
    go_wp2_with fail
    go_ret
    obtain ⟨vw9, F9⟩ := FIN.out
    have G9 := G.out.trans F9
    have e9 := HDE.out
    subst e9
    have e8 := HPS.out
    subst e8
    exact ⟨rfl, vw9, G9⟩
end Go.Proofs.Ytmcgjlidfgbdfaa
