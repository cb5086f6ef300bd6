/- Plain: opening and committing, told by the records that stand. -/
import Derived.Test.YthoihlebplmcoaaJW
namespace Go.Proofs.Ythoihlebplmcoaa
open Go.RowKit
set_option linter.unusedVariables false
def seen (size fr : Nat) (c : Nat → List UInt8) (i : Nat) : List UInt8 := pad size (c (fr + i))
theorem pad_word (f e : Nat) (b : List UInt8) : pad (f + 4) (word4 e ++ b) = word4 e ++ pad f b := by
  unfold pad
  rw [List.append_assoc, List.length_append, word4_length, show f + 4 - (4 + b.length) = f - b.length by omega]
theorem word4_zero {e : Nat} (he : e < 4294967296) (h0 : e ≠ 0) (size : Nat) (hs : 4 ≤ size) : ((pad size []).take 4 == word4 e) = false := by
  have e1 : (pad size []).take 4 = [0, 0, 0, 0] := by
    unfold pad
    obtain ⟨k, rfl⟩ : ∃ k, size = 4 + k := ⟨size - 4, by omega⟩
    rw [List.nil_append, List.length_nil, Nat.sub_zero, zeros_add, List.take_append_of_le_length (by simp [zeros])]
    rfl
  rw [e1]
  cases hb : (([0, 0, 0, 0] : List UInt8) == word4 e) with
  | false => rfl
  | true =>
    exfalso
    have hb' : ([0, 0, 0, 0] : List UInt8) = word4 e := by simpa using hb
    have h := num4_word e he []
    rw [List.append_nil, ← hb'] at h
    exact h0 (by rw [← h]; rfl)
theorem opF_eq {m : Mod} {c : Nat → List UInt8} (h : Quiet m c) (fr tt e : Nat) : opF m fr tt e = fieldsOf (seen m.size fr c) e (tt - fr) := by
  unfold opF fldsC fieldsOf
  congr 1
  funext i
  unfold fldC secB seen
  rw [h.cont]
theorem hasC_at (c : Nat → List UInt8) (e n j : Nat) (hj : j < n) : hasC (fieldsOf c e n) j = ((c j).take 4 == word4 e) := by
  unfold hasC
  rw [fieldsOf_at c e n j hj]
  cases h : ((c j).take 4 == word4 e) <;> simp
theorem open_out {m : Mod} {c : Nat → List UInt8} (h : Quiet m c) (fr tt e f : Nat) (R : List (List UInt8)) (h1 : fr < tt) (h2 : tt ≤ m.n) (hs : m.size = f + 4) (hf : 60 ≤ f) (he : e < 4294967296) (h0 : e ≠ 0) (hR : ∀ b ∈ R, b.length ≤ 10000)
    (hlen : (rowR f e R).length ≤ (tt - fr) * f) (hst : Stands (seen m.size fr c) e f (tt - fr) (rowR f e R)) :
    standR e f (opR m fr tt e) = standN f 0 R ∧ opE m fr tt e = (rowR f e R).length ∧ (opR m fr tt e).take (opE m fr tt e) = rowR f e R ∧
    ((opM m fr tt e).2 = 0 → ∃ c', Quiet (opM m fr tt e).1 c' ∧ (opM m fr tt e).1.fused = m.fused ∧ Clean (seen m.size fr c') e f (tt - fr) (rowR f e R)) ∧
    ((opM m fr tt e).2 ≠ 0 → (opM m fr tt e).2 = 17 ∧ (opM m fr tt e).1.dark = true ∧ m.fused = true ∧ ∀ p, Stands (seen m.size fr fun k => (opM m fr tt e).1.cont p k) e f (tt - fr) (rowR f e R)) ∧
    (opM m fr tt e).1.n = m.n ∧ (opM m fr tt e).1.size = m.size := by
  obtain ⟨X, hX1, hX2⟩ := rowO_stands (by omega : 12 ≤ f) h0 hst hlen
  have hf4 : m.size - 4 = f := by omega
  have hopR : opR m fr tt e = rowR f e R ++ X := by unfold opR; rw [opF_eq h]; exact hX1
  have hsr : standR e f (opR m fr tt e) = standN f 0 R := by rw [hopR]; exact parseR f e (by omega) he R X hR hX2
  have hoE : opE m fr tt e = (rowR f e R).length := by unfold opE; rw [hf4, hsr]; exact lastEnd_standN f e (by omega) R
  have htk : (opR m fr tt e).take (opE m fr tt e) = rowR f e R := by rw [hoE, hopR, List.take_left]
  obtain ⟨K, hK⟩ : ∃ K, secs f (rowR f e R).length = K := ⟨_, rfl⟩
  have hlt := fun j => lt_secs (by omega : 12 ≤ f) (rowR f e R).length j
  have hup := secs_up (by omega : 12 ≤ f) (rowR f e R).length
  rw [hK] at hlt hup
  have hM : opM m fr tt e = clrF fr (hasC (fieldsOf (seen m.size fr c) e (tt - fr))) m false K (tt - fr - K) := by
    unfold opM
    rw [htk, opF_eq h, hf4]
    show clrF fr _ m false (secs f (rowR f e R).length) (tt - fr - secs f (rowR f e R).length) = _
    rw [hK]
  have hKn : K ≤ tt - fr := by
    have hdn := secs_down (by omega : 12 ≤ f) (rowR f e R).length
    rw [hK] at hdn
    have hh : K * f < (tt - fr + 1) * f := by rw [Nat.add_mul, Nat.one_mul]; omega
    have := Nat.lt_of_mul_lt_mul_right hh
    omega
  obtain ⟨c1, c2, c3, c4⟩ := clrF_out fr (hasC (fieldsOf (seen m.size fr c) e (tt - fr))) c (tt - fr - K) K m (fun _ => none) false h.mx (fun _ _ => rfl) (by omega) (fun _ => ⟨h, fun _ => rfl⟩)
  rw [← hM] at c1 c2 c3 c4
  have hadd := addN_at fr (hasC (fieldsOf (seen m.size fr c) e (tt - fr))) (tt - fr - K) K (fun _ => none)
  have hhas := fun j hj => hasC_at (seen m.size fr c) e (tt - fr) j hj
  generalize hasC (fieldsOf (seen m.size fr c) e (tt - fr)) = has at *
  have hz := word4_zero he h0 m.size (by omega)
  refine ⟨hsr, hoE, htk, fun hr => ?_, fun hr => ?_, c3, c4⟩
  · obtain ⟨d1, d2⟩ := c1 hr
    refine ⟨_, d1, d2, fun i hi => ?_, fun i hi hin => ?_⟩
    · have hiK := (hlt i).2 hi
      rw [← hst.has i hi]
      unfold seen over
      rw [hadd, if_neg (by omega)]
      rfl
    · have hiK : ¬ i < K := fun x => by have := (hlt i).1 x; omega
      unfold seen over
      rw [hadd]
      by_cases hh : has i = true
      · rw [if_pos ⟨by omega, by omega, hh⟩]
        exact hz
      · rw [if_neg (fun x => hh x.2.2)]
        rw [hhas i hin] at hh
        simpa [seen] using hh
  · obtain ⟨d1, d2, d3⟩ := c2 hr
    refine ⟨d1, d2.1, d3, fun p => ⟨fun i hi => ?_, fun hi hin => ?_⟩⟩
    · have hiK := (hlt i).2 hi
      rw [← hst.has i hi]
      simp only [seen]
      rcases d2.2 p (fr + i) with e1 | e1
      · rw [e1]
      · rw [hadd, if_neg (by omega)] at e1
        cases e1
    · simp only [seen]
      rcases d2.2 p (fr + beg f (rowR f e R).length / f) with e1 | e1
      · rw [e1]
        exact hst.stop hi hin
      · rw [hadd] at e1
        split at e1
        · injection e1 with e1
          rw [← e1]
          exact hz
        · cases e1
theorem rowN_append (f e : Nat) (hf : 12 ≤ f) : ∀ (n : Nat) (R S : List (List UInt8)), rowN f e n (R ++ S) = rowN f e n R ++ rowN f e (n + (rowN f e n R).length) S
  | n, [], S => by simp [rowN]
  | n, b :: R, S => by
    have h := rowN_cons_len f e n b R hf
    rw [h]
    simp only [List.cons_append, rowN]
    rw [rowN_append f e hf _ R S]
    simp only [List.append_assoc]
theorem rowR_more (f e : Nat) (hf : 12 ≤ f) (R S : List (List UInt8)) (hS : S ≠ []) : ∃ Y, rowR f e (R ++ S) = rowR f e R ++ zeros (beg f (rowR f e R).length - (rowR f e R).length) ++ Y ∧ 12 ≤ Y.length := by
  unfold rowR
  rw [rowN_append f e hf 0 R S]
  cases S with
  | nil => exact absurd rfl hS
  | cons b S =>
    simp only [Nat.zero_add, rowN]
    refine ⟨_, by rw [List.append_assoc], ?_⟩
    rw [List.length_append, sealed_length]
    omega
theorem commit_out {J : Jd} {m : Mod} {c : Nat → List UInt8} (h : Quiet m c) (n : Nat) (R S : List (List UInt8)) (hn : J.fr + n ≤ m.n) (hs : m.size = J.f + 4) (hf : 60 ≤ J.f)
    (hrow : J.row = rowR J.f J.e (R ++ S)) (hk : J.kept = (rowR J.f J.e R).length) (hS : S ≠ []) (hlen : J.row.length ≤ n * J.f) (hcl : Clean (seen m.size J.fr c) J.e J.f n (rowR J.f J.e R)) :
    beg J.f J.kept < J.row.length ∧
    ((wrM J m).2 = 0 → ∃ c', Quiet (wrM J m).1 c' ∧ (wrM J m).1.fused = m.fused ∧ Clean (seen m.size J.fr c') J.e J.f n J.row) ∧
    ((wrM J m).2 ≠ 0 → (wrM J m).2 = 17 ∧ (wrM J m).1.dark = true ∧ m.fused = true ∧ ∀ p, Stands (seen m.size J.fr fun k => (wrM J m).1.cont p k) J.e J.f n (rowR J.f J.e R) ∨ Stands (seen m.size J.fr fun k => (wrM J m).1.cont p k) J.e J.f n J.row) ∧
    (wrM J m).1.n = m.n ∧ (wrM J m).1.size = m.size := by
  obtain ⟨Y, hY1, hY2⟩ := rowR_more J.f J.e (by omega) R S hS
  have hbb := beg_bounds J.f (rowR J.f J.e R).length (by omega)
  rw [← hrow] at hY1
  generalize rowR J.f J.e R = r0 at *
  have hPl : (r0 ++ zeros (beg J.f r0.length - r0.length)).length = beg J.f r0.length := by rw [List.length_append, zeros_len]; omega
  have hl1 : J.row.length = beg J.f r0.length + Y.length := by rw [hY1, List.length_append, hPl]
  have hfirst : J.first * J.f ≤ beg J.f r0.length := by unfold Jd.first; rw [hk]; exact Nat.div_mul_le_self _ _
  have hfirst2 : beg J.f r0.length < (J.first + 1) * J.f := by
    have := Nat.lt_div_mul_add (a := beg J.f r0.length) (show 0 < J.f by omega)
    unfold Jd.first
    rw [hk, Nat.add_mul, Nat.one_mul]
    exact this
  have hlast := fun j => lt_secs (by omega : 12 ≤ J.f) J.row.length j
  have hla : J.last = secs J.f J.row.length := rfl
  rw [← hla] at hlast
  have hfl : J.first < J.last := (hlast _).2 (by omega)
  have hup := secs_up (by omega : 12 ≤ J.f) J.row.length
  have hdn := secs_down (by omega : 12 ≤ J.f) J.row.length
  rw [← hla] at hup hdn
  have hKn : J.last ≤ n := by
    have hh : J.last * J.f < (n + 1) * J.f := by rw [Nat.add_mul, Nat.one_mul]; omega
    have := Nat.lt_of_mul_lt_mul_right hh
    omega
  have hz : ∀ j, (J.sec j).length ≤ m.size := fun j => by
    unfold Jd.sec
    rw [List.length_append, word4_length, List.length_take]
    omega
  have hsec : ∀ j, pad m.size (J.sec j) = word4 J.e ++ pad J.f (chunk J.f J.row j) := fun j => by
    rw [hs]
    exact pad_word J.f J.e _
  -- below the first one nothing turns
  have hlow : ∀ j, j < J.first → j * J.f < r0.length ∧ pad J.f (chunk J.f r0 j) = pad J.f (chunk J.f J.row j) := fun j hj => by
    have h1 : (j + 1) * J.f ≤ J.first * J.f := Nat.mul_le_mul_right _ hj
    rw [Nat.add_mul, Nat.one_mul] at h1
    have h2 : j * J.f < r0.length := by omega
    refine ⟨h2, ?_⟩
    have e1 : chunk J.f J.row j = chunk J.f (r0 ++ zeros (beg J.f r0.length - r0.length)) j := by
      unfold chunk
      rw [hY1, List.drop_append_of_le_length (by omega), List.take_append_of_le_length (by rw [List.length_drop]; omega)]
    have e2 : (chunk J.f (r0 ++ zeros (beg J.f r0.length - r0.length)) j).length = J.f := by
      unfold chunk
      rw [List.length_take, List.length_drop]
      omega
    have e3 : pad J.f (chunk J.f J.row j) = chunk J.f (r0 ++ zeros (beg J.f r0.length - r0.length)) j := by
      rw [e1]
      unfold pad
      rw [e2, Nat.sub_self]
      simp [zeros]
    rw [e3]
    unfold chunk pad
    rw [List.drop_append_of_le_length (by omega), List.take_append, List.length_take, List.length_drop]
    congr 1
    unfold zeros
    rw [List.take_replicate]
    congr 1
    omega
  obtain ⟨w1, w2, w3, w4⟩ := wrM_out h (by omega) hfl hz
  have hnew : ∀ c' : Nat → List UInt8, (∀ j, c' (J.fr + j) = if J.first ≤ j ∧ j < J.last then J.sec j else c (J.fr + j)) → Clean (seen m.size J.fr c') J.e J.f n J.row := fun c' hc' => by
    refine ⟨fun i hi => ?_, fun i hi hin => ?_⟩
    · have hil := (hlast i).2 hi
      unfold seen
      rw [hc']
      by_cases hif : J.first ≤ i
      · rw [if_pos ⟨hif, hil⟩]
        exact hsec i
      · rw [if_neg (fun x => hif x.1)]
        obtain ⟨l1, l2⟩ := hlow i (by omega)
        rw [← l2]
        exact hcl.has i l1
    · have hil : ¬ i < J.last := fun x => by have := (hlast i).1 x; omega
      unfold seen
      rw [hc', if_neg (fun x => hil x.2)]
      exact hcl.none i (by omega) hin
  refine ⟨by rw [hk]; omega, fun hr => ?_, fun hr => ?_, w3, w4⟩
  · obtain ⟨c', d1, d2, d3⟩ := w1 hr
    exact ⟨c', d1, d2, hnew c' d3⟩
  · obtain ⟨d1, d2, d3, d4⟩ := w2 hr
    refine ⟨d1, d2, d3, fun p => ?_⟩
    rcases d4 p with hold | hn2
    · left
      have hbk : beg J.f r0.length / J.f = J.first := by unfold Jd.first; rw [hk]
      refine ⟨fun i hi => ?_, fun hi hin => ?_⟩
      · have hif : i ≤ J.first := by
          have hh : i * J.f < (J.first + 1) * J.f := by omega
          have := Nat.lt_of_mul_lt_mul_right hh
          omega
        rw [← hcl.has i hi]
        simp only [seen]
        rcases hold i with ⟨x, _⟩ | e1
        · omega
        · rw [e1]
      · rw [hbk] at hi hin ⊢
        simp only [seen]
        rcases hold J.first with ⟨x, _⟩ | e1
        · omega
        · rw [e1]
          exact hcl.none J.first hi hin
    · right
      exact (hnew _ hn2).stands
end Go.Proofs.Ythoihlebplmcoaa
