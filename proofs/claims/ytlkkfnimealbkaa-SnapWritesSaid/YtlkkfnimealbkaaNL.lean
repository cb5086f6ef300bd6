/- partIn, pageIn. -/
import Derived.Test.YtlkkfnimealbkaaNK
namespace Go.Proofs.Ytlkkfnimealbkaa
open Go.RowKit
open Pag (Pg PgAt IsPage HF)
set_option linter.unusedVariables false
theorem Holds.farPart {w : World} {A : Option Addr} {l : List UInt8} (h : Holds w A l) {g : Nat} {u v : Value} (hg : Whole w g 73 #[u, v]) (hu : ∀ n, u ≠ .int .u8 n) (hv : ∀ n, v ≠ .int .u8 n) (i : Nat) (z : Value) : Holds (w.setCell ⟨g, i, none⟩ z) A l := fun j hj => by
  obtain ⟨b, o, e, hlt, hc⟩ := h j hj
  have hne : b ≠ g := fun e' => by
    subst e'
    have hx := hg.cell (o + j)
    rw [hc] at hx
    rcases Nat.lt_or_ge (o + j) 2 with h2 | h2
    · rcases Nat.lt_or_ge (o + j) 1 with h3 | h3
      · rw [show o + j = 0 by omega] at hx
        simp at hx
        exact hu _ hx.symm
      · rw [show o + j = 1 by omega] at hx
        simp at hx
        exact hv _ hx.symm
    · rw [Array.getElem?_eq_none (by simpa using h2)] at hx
      cases hx
  exact ⟨b, o, e, by simpa using hlt, (by rw [← hc]; exact World.cell?_of_block (heap_set_other _ _ _ _ _ hne))⟩
set_option maxRecDepth 100000 in
set_option maxHeartbeats 2000000 in
theorem partIn_any {w : World} {P : Pg} (h : PgAt w P) (i : Nat) (hi : i < P.xs.length) :
    Calls Try.prog 48 #[P.ptr, .int .i64 (i : Nat)] w fun e w' => ∃ B c', e = .returned (.tuple #[.agg #[.slice B (tellK P.xs[i].b).b.length c', .bool (tellK P.xs[i].b).last], .int .i64 (tellK P.xs[i].b).e]) ∧ Holds w' B (tellK P.xs[i].b).b ∧ Below w.heap.size w w' := by
  have hb0 : Below w.heap.size w (w.alloc (.cells #[.slice none 0 0, .bool false] 73)) := (Below.refl _ _).alloc (Nat.le_refl _) _
  have n0 := Whole.new w 73 #[.slice none 0 0, .bool false]
  have h1 := h.below hb0
  have f0 := n0.frozen 0
  have f1 := n0.frozen 1
  have c0 := n0.cell 0
  have c1 := n0.cell 1
  simp only [List.getElem?_toArray, List.getElem?_cons_zero, List.getElem?_cons_succ] at c0 c1
  have hused := Pag.used_at P.L i (by rw [show P.L.length = P.xs.length from Pag.bbs_len _]; exact hi)
  have hLi : P.L[i]'(by rw [show P.L.length = P.xs.length from Pag.bbs_len _]; exact hi) = P.xs[i].b := Pag.bbs_at _ _ _
  rw [hLi] at hused
  have hfit := h.fit
  have hsz := h.sz2
  clear h
  by_cases hb : P.xs[i].b = []
  · have GT := Lib.hid (Pag.get_empty h1 i hi hb)
    rw [hb]
    have FIN := Lib.hid (And.intro n0 hb0)
    clear h1 hb hused hLi hfit n0 hb0
    go_enter Try.func48, Try.ntmps48
    go_wp2_with fail
    refine GT.out.mono ?_
    rintro e w1 ⟨rfl, rfl⟩
    go_wp2_with fail
    refine bodyPost_ret (results_cs rfl _ _ w.heap.size (.slice none 0 0) (.bool false) (.int .i64 7) rfl rfl FIN.out.1) rfl ?_
    exact ⟨none, 0, rfl, Holds.nil _ _, FIN.out.2⟩
  · have GT := Lib.hid (Pag.get_ok h1 i hi hb)
    generalize P.xs[i].b = q at *
    obtain ⟨k, b, rfl⟩ : ∃ k b, q = k :: b := by
      cases q with
      | nil => exact absurd rfl hb
      | cons k b => exact ⟨k, b, rfl⟩
    have hbl : b.length ≤ 100000 := by simp at hused; omega
    have HB := Lib.hid (And.intro n0 hb0)
    clear h1 hb hused hLi hfit n0 hb0
    by_cases hk : k = 0
    · have e1 : (k == 0) = true := by rw [hk]; rfl
      have e2 : (k == 0 || k == 1) = true := by rw [hk]; rfl
      have HT : tellK (k :: b) = ⟨b, true, 0⟩ := by simp [tellK, hk]
      rw [HT]
      have PO := Lib.hid fun A c w1 (hh : Holds w1 A (k :: b)) (hc : b.length + 1 ≤ c) => partOf_any A c k b w1 hh hc hbl
      rw [e2, e1] at PO
      clear HT e1 e2 hk
      go_enter Try.func48, Try.ntmps48
      go_wp2_with fail
      refine GT.out.mono ?_
      rintro e w1 ⟨v, rfl, hr, hb1⟩
      obtain ⟨A, c, rfl, hh, hc, -⟩ := hr.shape
      have hb01 : Below w.heap.size w w1 := HB.out.2.trans (hb1.mono (by simp))
      have n1 := HB.out.1.below hb1 (by simp)
      have POH := Lib.hid (PO.out A c w1 hh (by simpa using hc))
      have H1 := Lib.hid (And.intro n1 hb01)
      clear hr hh hc PO hb1 n1 hb01 GT HB c0 c1 f0 f1
      rw [show (k :: b).length = b.length + 1 from rfl]
      go_wp2_with fail
      refine POH.out.mono ?_
      rintro e w2 ⟨B, c', rfl, hB, hb2⟩
      have hb3 : Below w2.heap.size w2 (w2.alloc (.cells #[.slice B b.length c', .bool true] 73)) := (Below.refl _ _).alloc (Nat.le_refl _) _
      have n2 := H1.out.1.below (hb2.trans (hb3.mono hb2.size)) H1.out.1.lt
      have m2 := Whole.new w2 73 #[.slice B b.length c', .bool true]
      have hbw : Below w.heap.size w (w2.alloc (.cells #[.slice B b.length c', .bool true] 73)) := H1.out.2.trans ((hb2.trans (hb3.mono hb2.size)).mono H1.out.2.size)
      have HB2 := hB.below hb3
      have x0 := m2.cell 0
      have x1 := m2.cell 1
      have g0 := n2.frozen 0
      have g1 := n2.frozen 1
      have y0 := n2.cell 0
      have y1 := n2.cell 1
      simp only [List.getElem?_toArray, List.getElem?_cons_zero, List.getElem?_cons_succ] at x0 x1 y0 y1
      have FIN : Hid (Whole (((w2.alloc (.cells #[.slice B b.length c', .bool true] 73)).setCell ⟨w.heap.size, 0, none⟩ (.slice B b.length c')).setCell ⟨w.heap.size, 1, none⟩ (.bool true)) w.heap.size 73 #[.slice B b.length c', .bool true] ∧ Below w.heap.size w (((w2.alloc (.cells #[.slice B b.length c', .bool true] 73)).setCell ⟨w.heap.size, 0, none⟩ (.slice B b.length c')).setCell ⟨w.heap.size, 1, none⟩ (.bool true)) ∧ Holds (((w2.alloc (.cells #[.slice B b.length c', .bool true] 73)).setCell ⟨w.heap.size, 0, none⟩ (.slice B b.length c')).setCell ⟨w.heap.size, 1, none⟩ (.bool true)) (B) (b : List UInt8)) := Lib.hid ⟨(n2.set_ 0 _).set_ 1 _, (hbw.setCell (p := ⟨w.heap.size, 0, none⟩) (Nat.le_refl _) _).setCell (p := ⟨w.heap.size, 1, none⟩) (Nat.le_refl _) _, (HB2.farPart n2 (by simp) (by simp) 0 _).farPart (u := .slice B b.length c') (v := .bool false) (n2.set_ 0 _) (by simp) (by simp) 1 _⟩
      clear hb3 n2 m2 hbw HB2 hB hb2 H1 POH
      go_wp2_with fail
      refine bodyPost_ret (results_cs rfl _ _ w.heap.size (.slice B b.length c') (.bool true) (.int .i64 0) rfl rfl FIN.out.1) rfl ?_
      exact ⟨_, _, rfl, FIN.out.2.2, FIN.out.2.1⟩
    · by_cases hk1 : k = 1
      · have e1 : (k == 0) = false := by rw [hk1]; rfl
        have e2 : (k == 0 || k == 1) = true := by rw [hk1]; rfl
        have HT : tellK (k :: b) = ⟨b, false, 0⟩ := by simp [tellK, hk1]
        rw [HT]
        have PO := Lib.hid fun A c w1 (hh : Holds w1 A (k :: b)) (hc : b.length + 1 ≤ c) => partOf_any A c k b w1 hh hc hbl
        rw [e2, e1] at PO
        clear HT e1 e2 hk hk1
        go_enter Try.func48, Try.ntmps48
        go_wp2_with fail
        refine GT.out.mono ?_
        rintro e w1 ⟨v, rfl, hr, hb1⟩
        obtain ⟨A, c, rfl, hh, hc, -⟩ := hr.shape
        have hb01 : Below w.heap.size w w1 := HB.out.2.trans (hb1.mono (by simp))
        have n1 := HB.out.1.below hb1 (by simp)
        have POH := Lib.hid (PO.out A c w1 hh (by simpa using hc))
        have H1 := Lib.hid (And.intro n1 hb01)
        clear hr hh hc PO hb1 n1 hb01 GT HB c0 c1 f0 f1
        rw [show (k :: b).length = b.length + 1 from rfl]
        go_wp2_with fail
        refine POH.out.mono ?_
        rintro e w2 ⟨B, c', rfl, hB, hb2⟩
        have hb3 : Below w2.heap.size w2 (w2.alloc (.cells #[.slice B b.length c', .bool false] 73)) := (Below.refl _ _).alloc (Nat.le_refl _) _
        have n2 := H1.out.1.below (hb2.trans (hb3.mono hb2.size)) H1.out.1.lt
        have m2 := Whole.new w2 73 #[.slice B b.length c', .bool false]
        have hbw : Below w.heap.size w (w2.alloc (.cells #[.slice B b.length c', .bool false] 73)) := H1.out.2.trans ((hb2.trans (hb3.mono hb2.size)).mono H1.out.2.size)
        have HB2 := hB.below hb3
        have x0 := m2.cell 0
        have x1 := m2.cell 1
        have g0 := n2.frozen 0
        have g1 := n2.frozen 1
        have y0 := n2.cell 0
        have y1 := n2.cell 1
        simp only [List.getElem?_toArray, List.getElem?_cons_zero, List.getElem?_cons_succ] at x0 x1 y0 y1
        have FIN : Hid (Whole (((w2.alloc (.cells #[.slice B b.length c', .bool false] 73)).setCell ⟨w.heap.size, 0, none⟩ (.slice B b.length c')).setCell ⟨w.heap.size, 1, none⟩ (.bool false)) w.heap.size 73 #[.slice B b.length c', .bool false] ∧ Below w.heap.size w (((w2.alloc (.cells #[.slice B b.length c', .bool false] 73)).setCell ⟨w.heap.size, 0, none⟩ (.slice B b.length c')).setCell ⟨w.heap.size, 1, none⟩ (.bool false)) ∧ Holds (((w2.alloc (.cells #[.slice B b.length c', .bool false] 73)).setCell ⟨w.heap.size, 0, none⟩ (.slice B b.length c')).setCell ⟨w.heap.size, 1, none⟩ (.bool false)) (B) (b : List UInt8)) := Lib.hid ⟨(n2.set_ 0 _).set_ 1 _, (hbw.setCell (p := ⟨w.heap.size, 0, none⟩) (Nat.le_refl _) _).setCell (p := ⟨w.heap.size, 1, none⟩) (Nat.le_refl _) _, (HB2.farPart n2 (by simp) (by simp) 0 _).farPart (u := .slice B b.length c') (v := .bool false) (n2.set_ 0 _) (by simp) (by simp) 1 _⟩
        clear hb3 n2 m2 hbw HB2 hB hb2 H1 POH
        go_wp2_with fail
        refine bodyPost_ret (results_cs rfl _ _ w.heap.size (.slice B b.length c') (.bool false) (.int .i64 0) rfl rfl FIN.out.1) rfl ?_
        exact ⟨_, _, rfl, FIN.out.2.2, FIN.out.2.1⟩
      · have e1 : (k == 0) = false := by simp [hk]
        have e2 : (k == 0 || k == 1) = false := by simp [hk, hk1]
        have HT : tellK (k :: b) = ⟨[], false, 7⟩ := by simp [tellK, hk, hk1]
        rw [HT]
        have PO := Lib.hid fun A c w1 (hh : Holds w1 A (k :: b)) (hc : b.length + 1 ≤ c) => partOf_any A c k b w1 hh hc hbl
        rw [e2, e1] at PO
        clear HT e1 e2 hk hk1
        go_enter Try.func48, Try.ntmps48
        go_wp2_with fail
        refine GT.out.mono ?_
        rintro e w1 ⟨v, rfl, hr, hb1⟩
        obtain ⟨A, c, rfl, hh, hc, -⟩ := hr.shape
        have hb01 : Below w.heap.size w w1 := HB.out.2.trans (hb1.mono (by simp))
        have n1 := HB.out.1.below hb1 (by simp)
        have POH := Lib.hid (PO.out A c w1 hh (by simpa using hc))
        have H1 := Lib.hid (And.intro n1 hb01)
        clear hr hh hc PO hb1 n1 hb01 GT HB c0 c1 f0 f1
        rw [show (k :: b).length = b.length + 1 from rfl]
        go_wp2_with fail
        refine POH.out.mono ?_
        rintro e w2 ⟨B, c', rfl, hB, hb2⟩
        have hb3 : Below w2.heap.size w2 (w2.alloc (.cells #[.slice B b.length c', .bool false] 73)) := (Below.refl _ _).alloc (Nat.le_refl _) _
        have n2 := H1.out.1.below (hb2.trans (hb3.mono hb2.size)) H1.out.1.lt
        have m2 := Whole.new w2 73 #[.slice B b.length c', .bool false]
        have hbw : Below w.heap.size w (w2.alloc (.cells #[.slice B b.length c', .bool false] 73)) := H1.out.2.trans ((hb2.trans (hb3.mono hb2.size)).mono H1.out.2.size)
        have HB2 := hB.below hb3
        have x0 := m2.cell 0
        have x1 := m2.cell 1
        have g0 := n2.frozen 0
        have g1 := n2.frozen 1
        have y0 := n2.cell 0
        have y1 := n2.cell 1
        simp only [List.getElem?_toArray, List.getElem?_cons_zero, List.getElem?_cons_succ] at x0 x1 y0 y1
        have FIN : Hid (Whole (((w2.alloc (.cells #[.slice B b.length c', .bool false] 73)).setCell ⟨w.heap.size, 0, none⟩ (.slice none 0 0)).setCell ⟨w.heap.size, 1, none⟩ (.bool false)) w.heap.size 73 #[.slice none 0 0, .bool false] ∧ Below w.heap.size w (((w2.alloc (.cells #[.slice B b.length c', .bool false] 73)).setCell ⟨w.heap.size, 0, none⟩ (.slice none 0 0)).setCell ⟨w.heap.size, 1, none⟩ (.bool false)) ∧ Holds (((w2.alloc (.cells #[.slice B b.length c', .bool false] 73)).setCell ⟨w.heap.size, 0, none⟩ (.slice none 0 0)).setCell ⟨w.heap.size, 1, none⟩ (.bool false)) (none) ([] : List UInt8)) := Lib.hid ⟨(n2.set_ 0 _).set_ 1 _, (hbw.setCell (p := ⟨w.heap.size, 0, none⟩) (Nat.le_refl _) _).setCell (p := ⟨w.heap.size, 1, none⟩) (Nat.le_refl _) _, Holds.nil _ _⟩
        clear hb3 n2 m2 hbw HB2 hB hb2 H1 POH
        go_wp2_with fail
        refine bodyPost_ret (results_cs rfl _ _ w.heap.size (.slice none 0 0) (.bool false) (.int .i64 7) rfl rfl FIN.out.1) rfl ?_
        exact ⟨_, _, rfl, FIN.out.2.2, FIN.out.2.1⟩
end Go.Proofs.Ytlkkfnimealbkaa
