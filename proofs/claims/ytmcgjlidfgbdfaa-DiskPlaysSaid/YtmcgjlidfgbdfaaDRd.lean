/- The reference's Write. -/
import Derived.Test.YtmcgjlidfgbdfaaDRc
namespace Go.Proofs.Ytmcgjlidfgbdfaa
open Go.RowKit

def rtakes (r : Rf) (i n : Int) : Int := if r.dark then 17 else if i < 0 ∨ (r.last.length : Int) ≤ i ∨ (r.size : Int) < n then 1 else 0
set_option maxRecDepth 100000 in
theorem rwrite_err {w : World} {r : Rf} (h : RefAt w r) (i : Int) (A : Option Addr) (n c : Nat) (ht : ¬ rtakes r i n = 0) : Calls Try.prog 25 #[.pointer (some ⟨r.p, 0, none⟩), .int .i64 i, .slice A n c] w fun e w' => e = .returned (.int .i64 (rtakes r i n)) ∧ w' = w := by
  have c0 := Whole.cell h.top 0
  have c1 := Whole.cell h.top 1
  have c4 := Whole.cell h.top 4
  simp only [rcells, List.getElem?_toArray, List.getElem?_cons_zero, List.getElem?_cons_succ] at c0 c1 c4
  obtain ⟨L, lc, eL, -, -⟩ := h.last.shape
  rw [eL] at c0
  unfold rtakes at ht ⊢
  generalize r.last.length = n0 at *
  generalize r.dark = b at *
  clear h eL
  cases b with
  | true =>
    simp only [if_true]
    clear ht
    go_enter Try.func25, Try.ntmps25
    go_wp2_with fail
    go_ret
    exact ⟨rfl, rfl⟩
  | false =>
    simp only [if_false, Bool.false_eq_true] at ht ⊢
    have ho : i < 0 ∨ (n0 : Int) ≤ i ∨ (r.size : Int) < (n : Int) := by
      by_cases hh : i < 0 ∨ (n0 : Int) ≤ i ∨ (r.size : Int) < (n : Int)
      · exact hh
      · rw [if_neg hh] at ht; exact absurd rfl ht
    simp only [ho, if_true]
    clear ht
    by_cases h1 : i < 0
    · clear ho
      go_enter Try.func25, Try.ntmps25
      go_wp2_with fail
      go_ret
      exact ⟨rfl, rfl⟩
    · by_cases h2 : (n0 : Int) ≤ i
      · clear ho
        go_enter Try.func25, Try.ntmps25
        go_wp2_with fail
        go_ret
        exact ⟨rfl, rfl⟩
      · have h3 : (r.size : Int) < (n : Int) := by omega
        clear ho
        go_enter Try.func25, Try.ntmps25
        go_wp2_with fail
        go_ret
        exact ⟨rfl, rfl⟩
set_option maxRecDepth 100000 in
theorem rwrite_blown {w : World} {r : Rf} (h : RefAt w r) (hd : r.deeds ≤ 4611686018427387904) (i : Int) (A : Option Addr) (n c : Nat) (ht : rtakes r i n = 0) (hz : r.fuse = 0) : Calls Try.prog 25 #[.pointer (some ⟨r.p, 0, none⟩), .int .i64 i, .slice A n c] w fun e w' => e = .returned (.int .i64 17) ∧ RGoes w w' r (deedR r) := by
  have c0 := Whole.cell h.top 0
  have c1 := Whole.cell h.top 1
  have c4 := Whole.cell h.top 4
  simp only [rcells, List.getElem?_toArray, List.getElem?_cons_zero, List.getElem?_cons_succ] at c0 c1 c4
  obtain ⟨L, lc, eL, -, -⟩ := h.last.shape
  rw [eL] at c0
  have dd := rdeed_at h hd (by rw [hz]; omega)
  rw [show (!decide (r.fuse = 0)) = false by simp [hz]] at dd
  have DD := Lib.hid dd
  unfold rtakes at ht
  generalize r.last.length = n0 at *
  have hdk : r.dark = false := by
    cases hdd : r.dark with
    | false => rfl
    | true => rw [hdd] at ht; simp at ht
  rw [hdk] at ht c4
  have hno : ¬ (i < 0 ∨ (n0 : Int) ≤ i ∨ (r.size : Int) < (n : Int)) := fun e => by
    rw [if_neg (by simp), if_pos e] at ht
    omega
  have h1 : ¬ i < 0 := by omega
  have h2 : ¬ (n0 : Int) ≤ i := by omega
  have h3 : ¬ (r.size : Int) < (n : Int) := by omega
  clear h eL dd ht hno hz hdk
  go_enter Try.func25, Try.ntmps25
  go_wp2_with fail
  refine DD.out.mono ?_
  rintro e w1 ⟨rfl, hg⟩
  have G := Lib.hid hg
  clear hg
  go_wp2_with fail
  go_ret
  exact ⟨rfl, G.out⟩
def padS (n : Nat) (b : List UInt8) : ByteArray := ⟨(pad n b).toArray⟩
def rwriteD (r : Rf) (k : Nat) (vw : Value) (s : ByteArray) : Rf := { r with vw := vw, ws := r.ws ++ [(k, s)] }
theorem rwrite_step {w2 w3 : World} {r : Rf} (h : RefAt w2 r) (k : Nat) (hk : k < r.last.length) (hb : Below w2.heap.size w2 w3) (s : ByteArray) (hmany : r.ws.length + 1 ≤ 1000) :
    ∃ a' c' w4, Sem.run Try.prog (Builtin.append_ #[36, 36] 36 #[r.vw, .slice (some ⟨w3.heap.size, 0, none⟩) 1 1]) (w3.alloc (.cells #[.int .i64 (k : Nat), .string s] 59)) = .ok (.slice a' (r.ws.length + 1) c') w4 ∧
      w4.cell? ⟨r.p, 2, none⟩ = some r.vw ∧ w4.frozen? ⟨r.p, 2, none⟩ = false ∧
      RGoes w2 (w4.setCell ⟨r.p, 2, none⟩ (.slice a' (r.ws.length + 1) c')) r (rwriteD r k (.slice a' (r.ws.length + 1) c') s) := by
  have h3 := h.below hb
  obtain ⟨v', w4, hr, hw4, hg, hown⟩ := append_rw h3.waits (k, s) (by have := h3.many; omega)
  obtain ⟨a', c', ev, -, -⟩ := hw4.shape
  rw [List.length_append, List.length_singleton] at ev
  have balW : Below w3.heap.size w3 (w3.alloc (.cells #[.int .i64 (k : Nat), .string s] 59)) := (Below.refl _ _).alloc (Nat.le_refl _) _
  have hW := h3.below balW
  have hsz3 := hb.size
  have hpl := h.plt
  dsimp only at hr hg
  generalize hWe : w3.alloc (.cells #[.int .i64 (k : Nat), .string s] 59) = W at *
  have keep : ∀ g, g < W.heap.size → r.vw.ownBlock ≠ some g → w4.heap[g]? = W.heap[g]? := fun g h1 h2 => hg.block g h1 (fun e => h2 e.symm)
  have p4 : Whole w4 r.p 38 (rcells r) := (keep r.p hW.plt (fun e => hW.vp e rfl)).trans hW.top
  have vp : ∀ g, v'.ownBlock = some g → g ≠ r.p := fun g e e' => by
    rcases hown g e with h1 | h1
    · exact hW.vp h1 e'
    · omega
  refine ⟨a', c', w4, by rw [hr, ev], ?_, p4.frozen _, ?_⟩
  · rw [p4.cell]; rfl
  rw [← ev]
  have other : ∀ g, g ≠ r.p → (w4.setCell ⟨r.p, 2, none⟩ v').heap[g]? = w4.heap[g]? := fun g h1 => heap_set_other _ _ _ _ _ h1
  refine ⟨⟨p4.set_ 2 v', hW.last.of_heap fun g e => ?_, hw4.of_heap fun g e => other g (vp g e), ?_, h.few, by simp [rwriteD]; omega⟩, rfl, fun g hg' => ?_, ?_⟩
  · refine (other g (hW.lp e)).trans (keep g ?_ (fun e2 => ?_))
    · exact (hW.last.block g e).2
    · obtain ⟨cur, hc⟩ := row_kind hW.last e
      obtain ⟨cur', hc'⟩ := row_kind hW.waits e2
      rw [hc] at hc'
      simp at hc'
  · intro x hx
    rcases List.mem_append.1 hx with hx | hx
    · exact h.fit x hx
    · simp at hx; subst hx; exact hk
  · rcases footR_cases hg' with rfl | e
    · exact .inl footR_p
    · rcases hown g e with h1 | h1
      · exact .inl (by simp [footR, h1])
      · exact .inr (Nat.le_trans hsz3 h1)
  · have t1 : Touch (footR r) w2 W := (Touch.of_below hb (footR r)).belowTo balW
    exact (t1.grown hg (fun g e => .inl (by simp [footR, e]))).setCell (.inl footR_p) _
end Go.Proofs.Ytmcgjlidfgbdfaa
