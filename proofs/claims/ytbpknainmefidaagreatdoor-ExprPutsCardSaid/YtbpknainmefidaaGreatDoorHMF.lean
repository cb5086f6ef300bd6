import Derived.Test.YtbpknainmefidaaGreatDoorHME
import Derived.Test.YtbpknainmefidaaGreatDoorHMA
import Derived.Test.YtbpknainmefidaaGreatDoorWI
import Derived.Test.YtbpknainmefidaaGreatDoorHMC

/- fromLeft. -/
namespace Go.Proofs.YtbpknainmefidaaGreatDoor
open Go.RowKit Go.Lib
set_option linter.unusedVariables false
set_option linter.unusedSimpArgs false
set_option maxRecDepth 100000
open Ex (Tree)

/-- from the left: so many marks. -/
def leftT (y : Nat → Tree) (mk : Nat → List UInt8) : Nat → Tree
  | 0 => y 0
  | n + 1 => .node 5 (mk n) 0 0 [] [leftT y mk n, y (n + 1)]
structure LfAt (w0 w wr : World) (P : Nat) (A : Option Addr) (c : Nat) (L : List Lx.Tk) (i d B8 : Nat) (op : Int) (t : List UInt8) (vk vn : Int) (vs : List UInt8) (AX : Option Addr) (cX : Nat) (ks : List Tree) : Prop where
  p : PAt w0 wr P A c L i d
  box : Whole wr B8 26 #[.int .i64 op, .string (tx t), .int .i64 vk, .int .i64 vn, .string (tx vs), .slice AX ks.length cX]
  cap : ks.length ≤ cX
  kids : TreesIn (fun k => w.heap.size < k ∧ k ≠ B8) wr AX 0 ks
  res : Whole wr w.heap.size 26 #[.int .i64 0, .string (tx []), .int .i64 0, .int .i64 0, .string (tx []), .slice none 0 0]
  touch : Touch [P] w wr
  lt : w.heap.size < B8
theorem LfAt.below {w0 w wr w' : World} {P : Nat} {A : Option Addr} {c : Nat} {L : List Lx.Tk} {i d B8 : Nat} {op : Int} {t : List UInt8} {vk vn : Int} {vs : List UInt8} {AX : Option Addr} {cX : Nat} {ks : List Tree} (h : LfAt w0 w wr P A c L i d B8 op t vk vn vs AX cX ks) (hb : Below wr.heap.size wr w') : LfAt w0 w w' P A c L i d B8 op t vk vn vs AX cX ks :=
  ⟨h.p.below hb, h.box.below hb h.box.lt, h.cap, h.kids.below hb, h.res.below hb h.res.lt, h.touch.belowTo hb, h.lt⟩
/-- behind binary, the box is set. -/
theorem LfAt.step {w0 w wr w' : World} {P : Nat} {A : Option Addr} {c : Nat} {L : List Lx.Tk} {i d B8 : Nat} {op : Int} {t : List UInt8} {vk vn : Int} {vs : List UInt8} {AX : Option Addr} {cX : Nat} {ks : List Tree} (h : LfAt w0 w wr P A c L i d B8 op t vk vn vs AX cX ks) (hB : Base w0 w P A)
    {i' : Nat} (hp : PAt w0 w' P A c L i' d) (ht : Touch [P] wr w') {op' : Int} {t' : List UInt8} {vk' vn' : Int} {vs' : List UInt8} {A' : Option Addr} {c' : Nat} {ks' : List Tree} (hc : ks'.length ≤ c') (hk : TreesIn (fun k => (w.heap.size < k ∧ k ≠ B8 ∧ k < wr.heap.size) ∨ wr.heap.size ≤ k) w' A' 0 ks') :
    Whole w' B8 26 #[.int .i64 op, .string (tx t), .int .i64 vk, .int .i64 vn, .string (tx vs), .slice AX ks.length cX] ∧
    LfAt w0 w (set6Z w' B8 (.int .i64 op') (.string (tx t')) (.int .i64 vk') (.int .i64 vn') (.string (tx vs')) (.slice A' ks'.length c')) P A c L i' d B8 op' t' vk' vn' vs' A' c' ks' := by
  have hP := hB.P
  have hlt := h.lt
  have hbl := h.box.lt
  have hbox : Whole w' B8 26 #[.int .i64 op, .string (tx t), .int .i64 vk, .int .i64 vn, .string (tx vs), .slice AX ks.length cX] := (ht.block _ h.box.lt (by simp; omega)).trans h.box
  have hres : Whole w' w.heap.size 26 #[.int .i64 0, .string (tx []), .int .i64 0, .int .i64 0, .string (tx []), .slice none 0 0] := (ht.block _ h.res.lt (by simp; omega)).trans h.res
  have FT := set6Z_touch w' B8 (.int .i64 op') (.string (tx t')) (.int .i64 vk') (.int .i64 vn') (.string (tx vs')) (.slice A' ks'.length c')
  refine ⟨hbox, hp.new hB FT (by omega), set6Z_whole hbox _ _ _ _ _ _, hc, hk.moved fun k hk hlt' => ?_, (FT.block _ hres.lt (by simp; omega)).trans hres, (h.touch.trans ht (fun x hx => .inl hx)).trans FT (fun x hx => .inr (by simp at hx; omega)), hlt⟩
  have hk' : w.heap.size < k ∧ k ≠ B8 := by
    rcases hk with hk | hk
    · exact ⟨hk.1, hk.2.1⟩
    · exact ⟨by omega, by omega⟩
  exact ⟨FT.block k hlt' (by simp; exact hk'.2), hk'⟩

set_option maxHeartbeats 2000000 in
theorem left_ok {w0 : World} {P : Nat} {A : Option Addr} {c : Nat} {L : List Lx.Tk} {i d : Nat} (hL : L ≠ []) (hLn : L.length ≤ 1000000) (N : FuncId) (hN : ∀ W, Sem.run Tryz.prog (callFunc N #[.pointer (some ⟨P, 0, none⟩)]) W = .ok (.enter N #[.pointer (some ⟨P, 0, none⟩)]) W)
    (of_ : Int) (n : Nat) (y : Nat → Tree) (mk : Nat → List UInt8) (at_ : Nat → Nat) (h0 : Rule w0 P A c L N #[.pointer (some ⟨P, 0, none⟩)] i d (y 0) (at_ 0))
    (hs : ∀ j, j < n → Rule w0 P A c L N #[.pointer (some ⟨P, 0, none⟩)] (at_ j + 1) d (y (j + 1)) (at_ (j + 1)) ∧ Ex.lev (sgn (tk L (at_ j))) = of_ ∧ (tk L (at_ j)).text = mk j ∧ at_ j + 1 ≤ 1000000)
    (hend : Ex.lev (sgn (tk L (at_ n))) ≠ of_) (hat : at_ n ≤ 1000000) :
    Rule w0 P A c L 58 #[.pointer (some ⟨P, 0, none⟩), .int .i64 of_, .func (.func N) #[.pointer (some ⟨P, 0, none⟩)] #[]] i d (leftT y mk n) (at_ n) := by
  intro w h
  have b0 : Below w.heap.size w (w.alloc (.cells (ncells 0 [] 0 0 [] none 0 0) 26)) := (Below.refl _ _).alloc (Nat.le_refl _) _
  have k0 := Whole.new w 26 (ncells 0 [] 0 0 [] none 0 0)
  have CC := Lib.hid (h0 _ (h.below b0))
  have HB := Lib.hid (h.base hL)
  have hz : (w.alloc (.cells (ncells 0 [] 0 0 [] none 0 0) 26)).heap.size = w.heap.size + 1 := by simp
  unfold ncells at *
  have B0 := Lib.hid b0
  have K0 := Lib.hid k0
  have HZ := Lib.hid hz
  have HS := Lib.hid hs
  clear b0 k0 hz h h0 hs
  go_enter Tryz.func58, Tryz.ntmps58
  go_wp2_with fail
  refine CC.out.mono ?_
  generalize w.alloc (.cells #[.int .i64 0, .string (tx []), .int .i64 0, .int .i64 0, .string (tx []), .slice none 0 0] 26) = W1 at *
  rintro e W2 ⟨u, rfl, hu, hp, ht⟩
  obtain ⟨Y0, hY0⟩ : ∃ Y0, y 0 = Y0 := ⟨_, rfl⟩
  rw [hY0] at hu
  have HY0 := Lib.hid hY0
  clear hY0 CC
  cases Y0 with
  | node op t vk vn vs ks =>
  obtain ⟨A2, c2, rfl, hc2, hk2⟩ := hu
  have b3 : Below W2.heap.size W2 (W2.alloc (.cells (ncells op t vk vn vs A2 ks.length c2) 26)) := (Below.refl _ _).alloc (Nat.le_refl _) _
  have L0 : Hid (LfAt w0 w (W2.alloc (.cells (ncells op t vk vn vs A2 ks.length c2) 26)) P A c L (at_ 0) d W2.heap.size op t vk vn vs A2 c2 ks) := Lib.hid
    ⟨hp.below b3, Whole.new _ _ _, hc2, hk2.moved (fun k hk hlt => ⟨b3.block k hlt, by have := HZ.out; omega, by omega⟩), Whole.alloc (show Whole W2 w.heap.size _ _ from (ht.block _ K0.out.lt (by have := HB.out.P; simp; omega)).trans K0.out) _, ((Touch.of_below B0.out [P]).trans ht (fun x hx => .inl hx)).belowTo b3, by have := HZ.out; have := ht.size; omega⟩
  unfold ncells at *
  have HY : Hid (leftT y mk 0 = .node op t vk vn vs ks) := Lib.hid (by rw [leftT, HY0.out])
  clear b3 hk2 hc2 hp ht HY0
  go_wp2_with fail
  obtain ⟨B8, hB8⟩ : ∃ B8, W2.heap.size = B8 := ⟨_, rfl⟩
  rw [hB8] at L0 ⊢
  generalize W2.alloc (.cells #[.int .i64 op, .string (tx t), .int .i64 vk, .int .i64 vn, .string (tx vs), .slice A2 ks.length c2] 26) = W3 at *
  clear hB8 K0 HZ B0
  go_loopg [9] (n + 1) (fun j s9 wr => ∃ (k : Nat) (op : Int) (t : List UInt8) (vk vn : Int) (vs : List UInt8) (AX : Option Addr) (cX : Nat) (ks : List Tree), k ≤ n ∧ n < k + j ∧ s9 = .bool true ∧ Hid (leftT y mk k = .node op t vk vn vs ks) ∧ Hid (LfAt w0 w wr P A c L (at_ k) d B8 op t vk vn vs AX cX ks))
  case atStart => exact ⟨0, op, t, vk, vn, vs, A2, c2, ks, by omega, by omega, rfl, HY, L0⟩
  case round =>
    obtain ⟨k, op, t, vk, vn, vs, AX, cX, ks, hkn, hj, rfl, HYk, LF⟩ := hrel
    clear HY L0
    by_cases hlt : k < n
    · obtain ⟨hr, hl1, hm, hat1⟩ := HS.out k hlt
      have NX := Lib.hid (next_any LF.out.p (by omega) hLn)
      have HR := Lib.hid hr
      have HM := Lib.hid hm
      obtain ⟨tok, htok⟩ : ∃ tok, tk L (at_ k) = tok := ⟨_, rfl⟩
      rw [htok] at NX hl1
      have LV : Hid (∀ W, Calls Tryz.prog 38 #[.string (tx (sgn tok))] W fun e w' => e = .returned (.int .i64 of_) ∧ w' = W) := Lib.hid (fun W => by
        have := level_any (tx (sgn tok)) W
        rw [show (tx (sgn tok)).data.toList = sgn tok from rfl, hl1] at this
        exact this)
      clear hr hl1 hm htok
      go_wp2_with fail
      refine NX.out.mono ?_
      rintro e Wa ⟨rfl, hba⟩
      have SG := Lib.hid (sign_any tok Wa)
      go_wp2_with fail
      refine SG.out.mono ?_
      rintro e Wb ⟨rfl, hbb⟩
      have LVb := Lib.hid (LV.out Wb)
      go_wp2_with fail
      refine LVb.out.mono ?_
      rintro e Wc ⟨rfl, rfl⟩
      have LFc := Lib.hid ((LF.out.below hba).below hbb)
      obtain ⟨x0, x1, x2, x3, x4, x5⟩ := six_of LFc.out.box
      have BN := Lib.hid (binary_ok hL hLn hat1 N hN HR.out (mk k) HM.out (fun q => w.heap.size < q ∧ q ≠ B8 ∧ q < Wc.heap.size) Wc LFc.out.p _ (X := .node op t vk vn vs ks) ⟨AX, cX, rfl, LFc.out.cap, LFc.out.kids.moved fun q hq hlt => ⟨rfl, hq.1, hq.2, hlt⟩⟩ (fun q hq => ⟨hq.2.2, by have := HB.out.P; omega⟩))
      unfold ncells at BN
      clear hba hbb NX SG LV LVb LF
      go_wp2_with fail
      refine BN.out.mono ?_
      rintro e Wd ⟨u, rfl, ⟨A', c', rfl, hc', hk'⟩, hp', ht'⟩
      have hbox : Whole Wd B8 26 #[.int .i64 op, .string (tx t), .int .i64 vk, .int .i64 vn, .string (tx vs), .slice AX ks.length cX] := (LFc.out.step HB.out hp' ht' (op' := 5) (t' := mk k) (vk' := 0) (vn' := 0) (vs' := []) hc' hk').1
      have HLF : Hid (LfAt w0 w (set6Z Wd B8 (.int .i64 5) (.string (tx (mk k))) (.int .i64 0) (.int .i64 0) (.string (tx [])) (.slice A' 2 c')) P A c L (at_ (k + 1)) d B8 5 (mk k) 0 0 [] A' c' [.node op t vk vn vs ks, y (k + 1)]) := Lib.hid (LFc.out.step HB.out hp' ht' hc' hk').2
      obtain ⟨x0, x1, x2, x3, x4, x5⟩ := six_of hbox
      obtain ⟨y0, y1, y2, y3, y4, y5⟩ := frozen6 hbox
      have HYn : Hid (leftT y mk (k + 1) = .node 5 (mk k) 0 0 [] [.node op t vk vn vs ks, y (k + 1)]) := Lib.hid (by rw [leftT, HYk.out])
      clear hbox hp' ht' hk' hc' BN
      unfold ncells
      dsimp only [List.length_cons, List.length_nil]
      go_wp2_with fail
      go_roundg (n - k)
      case measure => omega
      case rel => exact ⟨k + 1, 5, mk k, 0, 0, [], A', c', _, by omega, by omega, rfl, HYn, HLF⟩
    · have hkn' : k = n := by omega
      subst hkn'
      have NX := Lib.hid (next_any LF.out.p hat hLn)
      obtain ⟨tok, htok⟩ : ∃ tok, tk L (at_ k) = tok := ⟨_, rfl⟩
      rw [htok] at NX hend
      obtain ⟨lv, hlv⟩ : ∃ lv, Ex.lev (sgn tok) = lv := ⟨_, rfl⟩
      have LV : Hid (∀ W, Calls Tryz.prog 38 #[.string (tx (sgn tok))] W fun e w' => e = .returned (.int .i64 lv) ∧ w' = W) := Lib.hid (fun W => by
        have := level_any (tx (sgn tok)) W
        rw [show (tx (sgn tok)).data.toList = sgn tok from rfl, hlv] at this
        exact this)
      rw [hlv] at hend
      have hend' : (lv == of_) = false := by simpa using hend
      clear hlv htok
      go_wp2_with fail
      refine NX.out.mono ?_
      rintro e Wa ⟨rfl, hba⟩
      have SG := Lib.hid (sign_any tok Wa)
      go_wp2_with fail
      refine SG.out.mono ?_
      rintro e Wb ⟨rfl, hbb⟩
      have LVb := Lib.hid (LV.out Wb)
      go_wp2_with fail
      refine LVb.out.mono ?_
      rintro e Wc ⟨rfl, rfl⟩
      have LFc := Lib.hid ((LF.out.below hba).below hbb)
      obtain ⟨x0, x1, x2, x3, x4, x5⟩ := six_of LFc.out.box
      obtain ⟨z0, z1, z2, z3, z4, z5⟩ := six_of LFc.out.res
      obtain ⟨y0, y1, y2, y3, y4, y5⟩ := frozen6 LFc.out.res
      have FIN := Lib.hid (set6Z_whole LFc.out.res (.int .i64 op) (.string (tx t)) (.int .i64 vk) (.int .i64 vn) (.string (tx vs)) (.slice AX ks.length cX))
      have FT := set6Z_touch Wc w.heap.size (.int .i64 op) (.string (tx t)) (.int .i64 vk) (.int .i64 vn) (.string (tx vs)) (.slice AX ks.length cX)
      have F1 := Lib.hid (LFc.out.p.new HB.out FT (Nat.le_refl _))
      have F2 := Lib.hid (LFc.out.touch.trans FT (fun x hx => .inr (by simp at hx; omega)))
      have F3 : Hid (TreesIn (w.heap.size ≤ ·) (set6Z Wc w.heap.size (.int .i64 op) (.string (tx t)) (.int .i64 vk) (.int .i64 vn) (.string (tx vs)) (.slice AX ks.length cX)) AX 0 ks) := Lib.hid (LFc.out.kids.moved fun q hq hlt => ⟨FT.block q hlt (by simp; omega), by omega⟩)
      clear FT hba hbb NX SG LV LVb LF
      go_wp2_with fail
      refine bodyPost_ret (results_two rfl _ _ w.heap.size _ _ _ _ rfl FIN.out Tryz.underlying26 rfl sizeExpr _ rfl) rfl ⟨_, rfl, ?_, F1.out, F2.out⟩
      rw [HYk.out]
      exact ⟨AX, cX, rfl, LFc.out.cap, F3.out⟩
end Go.Proofs.YtbpknainmefidaaGreatDoor

/- compared, without a comparison. -/
namespace Go.Proofs.YtbpknainmefidaaGreatDoor
open Go.RowKit Go.Lib
set_option linter.unusedVariables false
set_option linter.unusedSimpArgs false
set_option maxRecDepth 100000
open Ex (Tree)

set_option maxHeartbeats 2000000 in
theorem compared_no {w0 : World} {P : Nat} {A : Option Addr} {c : Nat} {L : List Lx.Tk} {i d : Nat} {T : Tree} {i' : Nat} (hL : L ≠ []) (hLn : L.length ≤ 1000000)
    (HC : Rule w0 P A c L 101 #[.pointer (some ⟨P, 0, none⟩)] i d T i') (hend : Ex.lev (sgn (tk L i')) ≠ 3) (hat : i' ≤ 1000000) :
    Rule w0 P A c L 87 #[.pointer (some ⟨P, 0, none⟩)] i d T i' := by
  intro w h
  have b0 : Below w.heap.size w (w.alloc (.cells (ncells 0 [] 0 0 [] none 0 0) 26)) := (Below.refl _ _).alloc (Nat.le_refl _) _
  have k0 := Whole.new w 26 (ncells 0 [] 0 0 [] none 0 0)
  have CC := Lib.hid (HC _ (h.below b0))
  have HB := Lib.hid (h.base hL)
  have hz : (w.alloc (.cells (ncells 0 [] 0 0 [] none 0 0) 26)).heap.size = w.heap.size + 1 := by simp
  unfold ncells at *
  have B0 := Lib.hid b0
  have K0 := Lib.hid k0
  have HZ := Lib.hid hz
  clear b0 k0 hz h HC
  go_enter Tryz.func87, Tryz.ntmps87
  go_wp2_with fail
  refine CC.out.mono ?_
  generalize w.alloc (.cells #[.int .i64 0, .string (tx []), .int .i64 0, .int .i64 0, .string (tx []), .slice none 0 0] 26) = W1 at *
  rintro e W2 ⟨u, rfl, hu, hp, ht⟩
  cases T with
  | node op t vk vn vs ks =>
  obtain ⟨A2, c2, rfl, hc2, hk2⟩ := hu
  have b3 : Below W2.heap.size W2 (W2.alloc (.cells (ncells op t vk vn vs A2 ks.length c2) 26)) := (Below.refl _ _).alloc (Nat.le_refl _) _
  have L0 : Hid (LfAt w0 w (W2.alloc (.cells (ncells op t vk vn vs A2 ks.length c2) 26)) P A c L i' d W2.heap.size op t vk vn vs A2 c2 ks) := Lib.hid
    ⟨hp.below b3, Whole.new _ _ _, hc2, hk2.moved (fun k hk hlt => ⟨b3.block k hlt, by have := HZ.out; omega, by omega⟩), Whole.alloc (show Whole W2 w.heap.size _ _ from (ht.block _ K0.out.lt (by have := HB.out.P; simp; omega)).trans K0.out) _, ((Touch.of_below B0.out [P]).trans ht (fun x hx => .inl hx)).belowTo b3, by have := HZ.out; have := ht.size; omega⟩
  unfold ncells at *
  clear b3 hk2 hc2 hp ht CC
  obtain ⟨B8, hB8⟩ : ∃ B8, W2.heap.size = B8 := ⟨_, rfl⟩
  have NX := Lib.hid (next_any L0.out.p hat hLn)
  obtain ⟨tok, htok⟩ : ∃ tok, tk L i' = tok := ⟨_, rfl⟩
  rw [htok] at NX hend
  obtain ⟨lv, hlv⟩ : ∃ lv, Ex.lev (sgn tok) = lv := ⟨_, rfl⟩
  have LV : Hid (∀ W, Calls Tryz.prog 38 #[.string (tx (sgn tok))] W fun e w' => e = .returned (.int .i64 lv) ∧ w' = W) := Lib.hid (fun W => by
    have := level_any (tx (sgn tok)) W
    rw [show (tx (sgn tok)).data.toList = sgn tok from rfl, hlv] at this
    exact this)
  rw [hlv] at hend
  have hend' : (lv != 3) = true := by simpa using hend
  clear hlv htok
  go_wp2_with fail
  rw [hB8] at L0
  refine NX.out.mono ?_
  generalize W2.alloc (.cells #[.int .i64 op, .string (tx t), .int .i64 vk, .int .i64 vn, .string (tx vs), .slice A2 ks.length c2] 26) = W3 at *
  rintro e Wa ⟨rfl, hba⟩
  have SG := Lib.hid (sign_any tok Wa)
  clear hB8
  go_wp2_with fail
  refine SG.out.mono ?_
  rintro e Wb ⟨rfl, hbb⟩
  have LVb := Lib.hid (LV.out Wb)
  go_wp2_with fail
  refine LVb.out.mono ?_
  rintro e Wc ⟨rfl, rfl⟩
  have LFc := Lib.hid ((L0.out.below hba).below hbb)
  obtain ⟨x0, x1, x2, x3, x4, x5⟩ := six_of LFc.out.box
  obtain ⟨z0, z1, z2, z3, z4, z5⟩ := six_of LFc.out.res
  obtain ⟨y0, y1, y2, y3, y4, y5⟩ := frozen6 LFc.out.res
  have FIN := Lib.hid (set6Z_whole LFc.out.res (.int .i64 op) (.string (tx t)) (.int .i64 vk) (.int .i64 vn) (.string (tx vs)) (.slice A2 ks.length c2))
  have FT := set6Z_touch Wc w.heap.size (.int .i64 op) (.string (tx t)) (.int .i64 vk) (.int .i64 vn) (.string (tx vs)) (.slice A2 ks.length c2)
  have F1 := Lib.hid (LFc.out.p.new HB.out FT (Nat.le_refl _))
  have F2 := Lib.hid (LFc.out.touch.trans FT (fun x hx => .inr (by simp at hx; omega)))
  have F3 : Hid (TreesIn (w.heap.size ≤ ·) (set6Z Wc w.heap.size (.int .i64 op) (.string (tx t)) (.int .i64 vk) (.int .i64 vn) (.string (tx vs)) (.slice A2 ks.length c2)) A2 0 ks) := Lib.hid (LFc.out.kids.moved fun q hq hlt => ⟨FT.block q hlt (by simp; omega), by omega⟩)
  clear FT hba hbb NX SG LV LVb L0
  go_wp2_with fail
  exact bodyPost_ret (results_two rfl _ _ w.heap.size _ _ _ _ rfl FIN.out Tryz.underlying26 rfl sizeExpr _ rfl) rfl ⟨_, rfl, ⟨A2, c2, rfl, LFc.out.cap, F3.out⟩, F1.out, F2.out⟩
theorem callOf {P : Nat} {W : World} : (Sem.run Tryz.prog (callFunc 59 #[.pointer (some ⟨P, 0, none⟩)]) W = .ok (.enter 59 #[.pointer (some ⟨P, 0, none⟩)]) W) ∧
    (Sem.run Tryz.prog (callFunc 78 #[.pointer (some ⟨P, 0, none⟩)]) W = .ok (.enter 78 #[.pointer (some ⟨P, 0, none⟩)]) W) ∧
    (Sem.run Tryz.prog (callFunc 87 #[.pointer (some ⟨P, 0, none⟩)]) W = .ok (.enter 87 #[.pointer (some ⟨P, 0, none⟩)]) W) ∧
    (Sem.run Tryz.prog (callFunc 113 #[.pointer (some ⟨P, 0, none⟩)]) W = .ok (.enter 113 #[.pointer (some ⟨P, 0, none⟩)]) W) ∧
    (Sem.run Tryz.prog (callFunc 127 #[.pointer (some ⟨P, 0, none⟩)]) W = .ok (.enter 127 #[.pointer (some ⟨P, 0, none⟩)]) W) ∧
    (Sem.run Tryz.prog (callFunc 139 #[.pointer (some ⟨P, 0, none⟩)]) W = .ok (.enter 139 #[.pointer (some ⟨P, 0, none⟩)]) W) :=
  ⟨by kernel_rfl, by kernel_rfl, by kernel_rfl, by kernel_rfl, by kernel_rfl, by kernel_rfl⟩
end Go.Proofs.YtbpknainmefidaaGreatDoor

/- At, where all goes well. -/
namespace Go.Proofs.YtbpknainmefidaaGreatDoor
open Go.RowKit Go.Lib
set_option linter.unusedVariables false
set_option linter.unusedSimpArgs false
set_option maxRecDepth 100000
open Ex (Tree)

theorem sizeFault : (Tryz.prog.info? 41).map (·.size) = some 2 := by kernel_rfl
theorem results_three {P : Program} {fn : Func} {p u q : Tmp} {ty ty' : TypeId} (h : fn.results = #[.cell p ty, .tmp u, .cell q ty']) (tmps : Array Value) (w : World) (g g' : Nat) (t t' : TypeId) (cs cs' : Array Value) (fr fr' : Nat × Nat) (d d' : TypeDesc)
    (hp : tmps.getD p undef = .pointer (some ⟨g, 0, none⟩)) (hg : w.heap[g]? = some (.cells cs t fr))
    (hu : P.underlying ty = some d) (hd : (match d with | .struct _ | .array _ _ => true | _ => false) = true) (hi : (P.info? ty).map (·.size) = some cs.size) (x : Value) (hx : tmps.getD u undef = x)
    (hp' : tmps.getD q undef = .pointer (some ⟨g', 0, none⟩)) (hg' : w.heap[g']? = some (.cells cs' t' fr'))
    (hu' : P.underlying ty' = some d') (hd' : (match d' with | .struct _ | .array _ _ => true | _ => false) = true) (hi' : (P.info? ty').map (·.size) = some cs'.size) :
    (results fn tmps).run P w = .ok (.tuple #[.agg cs, x, .agg cs']) w := by
  simp only [results, h]
  simp only [Array.getD_eq_getD_getElem?] at hp hp' hx
  simp [Sem.run_bind, Result.andThen, hp, hp', hx, asAddr, run_loadVar_row w g t ty cs fr d hg hu hd hi, run_loadVar_row w g' t' ty' cs' fr' d' hg' hu' hd' hi']

set_option maxHeartbeats 600000 in
theorem at_good {w : World} {A : Option Addr} {c : Nat} {L : List Lx.Tk} {T : Tree} {i' : Nat} (hL : L ≠ []) (hLn : L.length ≤ 1000000) (hc : L.length ≤ c) (hA : TAt w A L)
    (HR : Rule w (w.heap.size + 2) A c L 44 #[.pointer (some ⟨w.heap.size + 2, 0, none⟩)] 0 0 T i') (hd : Ex.depth T ≤ 30) (hn : Ex.count T ≤ 300) :
    Calls Tryz.prog 33 #[.slice A L.length c, .int .i64 0] w fun e w' => ∃ u, e = .returned (.tuple #[u, .int .i64 (i' : Nat), .agg #[.int .i64 0, .int .i64 0]]) ∧ NodeNew w.heap.size w' u T ∧ Below w.heap.size w w' := by
  have b0 : Below w.heap.size w (((w.alloc (.cells (ncells 0 [] 0 0 [] none 0 0) 26)).alloc (.cells #[.int .i64 0, .int .i64 0] 41)).alloc (.cells #[.slice A L.length c, .int .i64 0, .int .i64 0, .int .i64 0, .int .i64 0] 73)) := (((Below.refl _ _).alloc (Nat.le_refl _) _).alloc (by simp) _).alloc (by simp; omega) _
  have k0 := ((Whole.new w 26 (ncells 0 [] 0 0 [] none 0 0)).alloc (.cells #[.int .i64 0, .int .i64 0] 41)).alloc (.cells #[.slice A L.length c, .int .i64 0, .int .i64 0, .int .i64 0, .int .i64 0] 73)
  have k1 := (Whole.new (w.alloc (.cells (ncells 0 [] 0 0 [] none 0 0) 26)) 41 #[.int .i64 0, .int .i64 0]).alloc (.cells #[.slice A L.length c, .int .i64 0, .int .i64 0, .int .i64 0, .int .i64 0] 73)
  have k2 := Whole.new ((w.alloc (.cells (ncells 0 [] 0 0 [] none 0 0) 26)).alloc (.cells #[.int .i64 0, .int .i64 0] 41)) 73 #[.slice A L.length c, .int .i64 0, .int .i64 0, .int .i64 0, .int .i64 0]
  have hz : (((w.alloc (.cells (ncells 0 [] 0 0 [] none 0 0) 26)).alloc (.cells #[.int .i64 0, .int .i64 0] 41)).alloc (.cells #[.slice A L.length c, .int .i64 0, .int .i64 0, .int .i64 0, .int .i64 0] 73)).heap.size = w.heap.size + 3 := by simp
  simp only [World.size_alloc] at k1 k2
  have hfar : ∀ b o, A = some ⟨b, o, none⟩ → b < w.heap.size := fun b o e => by
    obtain ⟨b', o', e', hb, -⟩ := hA 0 (List.length_pos_iff.2 hL)
    rw [e] at e'; cases e'; exact hb
  have pa : PAt w (((w.alloc (.cells (ncells 0 [] 0 0 [] none 0 0) 26)).alloc (.cells #[.int .i64 0, .int .i64 0] 41)).alloc (.cells #[.slice A L.length c, .int .i64 0, .int .i64 0, .int .i64 0, .int .i64 0] 73)) (w.heap.size + 2) A c L 0 0 :=
    ⟨b0, by omega, k2, fun j hj => by
      obtain ⟨b, o, e, hb, q0, q1, q2⟩ := hA j hj
      exact ⟨b, o, e, Nat.lt_of_lt_of_le hb b0.size, (b0.cell hb).trans q0, (b0.cell hb).trans q1, (b0.cell hb).trans q2⟩, fun b o e => by have := hfar b o e; omega⟩
  unfold ncells at *
  go_enter Tryz.func33, Tryz.ntmps33
  go_wp2_with fail
  generalize ((w.alloc (.cells #[.int .i64 0, .string (tx []), .int .i64 0, .int .i64 0, .string (tx []), .slice none 0 0] 26)).alloc (.cells #[.int .i64 0, .int .i64 0] 41)).alloc (.cells #[.slice A L.length c, .int .i64 0, .int .i64 0, .int .i64 0, .int .i64 0] 73) = W1 at *
  have B0 := Lib.hid b0
  have K0 := Lib.hid k0
  have K1 := Lib.hid k1
  have HZ := Lib.hid hz
  have PA := Lib.hid pa
  have HB := Lib.hid hfar
  clear b0 k0 k1 k2 hz pa hfar hA
  have NX := Lib.hid (next_any PA.out (by omega) hLn)
  obtain ⟨⟨kd, tt, ta⟩, htok⟩ : ∃ tok, tk L 0 = tok := ⟨_, rfl⟩
  rw [htok] at NX
  have NX2 : Hid (Calls Tryz.prog 43 #[.pointer (some ⟨w.heap.size + 2, 0, none⟩)] W1 fun e w' => e = .returned (.agg #[.int .i64 (kd : Nat), .string (tx tt), .int .i64 (ta : Nat)]) ∧ Below W1.heap.size W1 w') := NX
  clear htok NX
  refine NX2.out.mono ?_
  rintro e W2 ⟨rfl, hb2⟩
  have hF := fieldTok2 (kd : Nat) (ta : Nat) (tx tt) W2
  have CC := Lib.hid (HR W2 (PA.out.below hb2))
  have B2 : Hid (Below w.heap.size w W2) := Lib.hid (B0.out.trans (hb2.mono B0.out.size))
  have K02 := Lib.hid (K0.out.below hb2 K0.out.lt)
  have K12 := Lib.hid (K1.out.below hb2 K1.out.lt)
  have HZ2 : Hid (w.heap.size + 3 ≤ W2.heap.size) := Lib.hid (by have := HZ.out; have := hb2.size; omega)
  clear hb2 NX2 K0 K1 PA
  go_wp2_with fail
  refine CC.out.mono ?_
  rintro e W3 ⟨u, rfl, hu, hp, ht⟩
  obtain ⟨Tr, hTr⟩ : ∃ Tr, T = Tr := ⟨_, rfl⟩
  subst hTr
  cases T with
  | node op t vk vn vs ks =>
  obtain ⟨AX, cX, rfl, hcX, hkX⟩ := hu
  have k03 : Whole W3 w.heap.size 26 #[.int .i64 0, .string (tx []), .int .i64 0, .int .i64 0, .string (tx []), .slice none 0 0] := (ht.block _ K02.out.lt (by simp)).trans K02.out
  have k13 : Whole W3 (w.heap.size + 1) 41 #[.int .i64 0, .int .i64 0] := (ht.block _ K12.out.lt (by simp)).trans K12.out
  have b4 : Below W3.heap.size W3 (W3.alloc (.cells (ncells op t vk vn vs AX ks.length cX) 26)) := (Below.refl _ _).alloc (Nat.le_refl _) _
  have k9 := Whole.new W3 26 (ncells op t vk vn vs AX ks.length cX)
  have nv : NodeV (W3.alloc (.cells (ncells op t vk vn vs AX ks.length cX) 26)) (.agg (ncells op t vk vn vs AX ks.length cX)) (.node op t vk vn vs ks) := ⟨AX, cX, rfl, hcX, (hkX.below b4).at⟩
  have DC := Lib.hid (callsIn_wide.1 (depth_in _ _ _ nv (by omega)))
  obtain ⟨dp, hdp⟩ : ∃ dp, Ex.depth (.node op t vk vn vs ks) = dp := ⟨_, rfl⟩
  obtain ⟨cn, hcn⟩ : ∃ cn, Ex.count (.node op t vk vn vs ks) = cn := ⟨_, rfl⟩
  rw [hdp] at DC hd
  have hd' : ¬ (30 : Int) < (dp : Int) := by omega
  have hn' : ¬ (300 : Int) < (cn : Int) := by omega
  have HCN : Hid (Ex.depth (.node op t vk vn vs ks) ≤ 1000000 ∧ Ex.count (.node op t vk vn vs ks) ≤ 1000000 ∧ Ex.count (.node op t vk vn vs ks) = cn) := Lib.hid (by omega)
  have NV := Lib.hid nv
  have p4 := hp.below b4
  have k04 := k03.below b4 k03.lt
  have k14 := k13.below b4 k13.lt
  have B4 : Hid (Below w.heap.size w (W3.alloc (.cells (ncells op t vk vn vs AX ks.length cX) 26))) := Lib.hid ((ht.fresh B2.out (fun k hk => by simp at hk; omega)).trans (b4.mono (Nat.le_trans B2.out.size ht.size)))
  have HKX : Hid (ks.length ≤ cX ∧ TreesIn (fun k => w.heap.size + 3 ≤ k) (W3.alloc (.cells (ncells op t vk vn vs AX ks.length cX) 26)) AX 0 ks) := Lib.hid ⟨hcX, hkX.moved fun k hk hlt => ⟨b4.block k hlt, by have := HZ2.out; omega⟩⟩
  unfold ncells at *
  obtain ⟨x0, x1, x2, x3, x4, x5⟩ := six_of k9
  have K04 := Lib.hid k04
  have K14 := Lib.hid k14
  have K9 := Lib.hid k9
  have P4 := Lib.hid p4
  clear k03 k13 b4 k9 nv p4 k04 k14 hkX hcX hp ht hF CC hdp hcn hd hn
  go_wp2_with fail
  refine DC.out.mono ?_
  generalize W3.alloc (.cells #[.int .i64 op, .string (tx t), .int .i64 vk, .int .i64 vn, .string (tx vs), .slice AX ks.length cX] 26) = W4 at *
  rintro e W5 ⟨rfl, hb5⟩
  have CN := callsIn_wide.1 (count_in _ _ W5 (NV.out.below hb5) HCN.out.1 HCN.out.2.1)
  rw [HCN.out.2.2] at CN
  have CNH := Lib.hid CN
  have K95 := Lib.hid (K9.out.below hb5 K9.out.lt)
  obtain ⟨x0, x1, x2, x3, x4, x5⟩ := six_of K95.out
  have HB5 := Lib.hid hb5
  clear CN hb5 DC
  go_wp2_with fail
  refine CNH.out.mono ?_
  rintro e W6 ⟨rfl, hb6⟩
  have B46 : Hid (Below W4.heap.size W4 W6) := Lib.hid (HB5.out.trans (hb6.mono HB5.out.size))
  have K96 := Lib.hid (K95.out.below hb6 K95.out.lt)
  have K06 := Lib.hid (K04.out.below B46.out K04.out.lt)
  have K16 := Lib.hid (K14.out.below B46.out K14.out.lt)
  have P6 := Lib.hid (P4.out.below B46.out)
  obtain ⟨x0, x1, x2, x3, x4, x5⟩ := six_of K96.out
  obtain ⟨z0, z1, z2, z3, z4, z5⟩ := six_of K06.out
  obtain ⟨y0, y1, y2, y3, y4, y5⟩ := frozen6 K06.out
  have v0 := K16.out.cell 0
  have v1 := K16.out.cell 1
  have u0 := K16.out.frozen 0
  have u1 := K16.out.frozen 1
  have p6 : W6.cell? ⟨w.heap.size + 2, 1, none⟩ = some (.int .i64 (i' : Nat)) := P6.out.cells.cell 1
  simp only [List.getElem?_toArray, List.getElem?_cons_zero, List.getElem?_cons_succ] at v0 v1
  clear hb6 CNH K95 K9 K04 K14
  go_wp2_with fail
  have FT := set6Z_touch W6 w.heap.size (.int .i64 op) (.string (tx t)) (.int .i64 vk) (.int .i64 vn) (.string (tx vs)) (.slice AX ks.length cX)
  have w0' : Whole (set6Z W6 w.heap.size (.int .i64 op) (.string (tx t)) (.int .i64 vk) (.int .i64 vn) (.string (tx vs)) (.slice AX ks.length cX)) w.heap.size 26 #[.int .i64 op, .string (tx t), .int .i64 vk, .int .i64 vn, .string (tx vs), .slice AX ks.length cX] := set6Z_whole K06.out _ _ _ _ _ _
  have w1' : Whole (set6Z W6 w.heap.size (.int .i64 op) (.string (tx t)) (.int .i64 vk) (.int .i64 vn) (.string (tx vs)) (.slice AX ks.length cX)) (w.heap.size + 1) 41 #[.int .i64 0, .int .i64 0] := (FT.block _ K16.out.lt (by simp)).trans K16.out
  have f0a := w0'.far (p := ⟨w.heap.size + 1, 0, none⟩) (fun h => absurd h (by simp)) (.int .i64 0)
  have f0b := (f0a.far (p := ⟨w.heap.size + 1, 1, none⟩) (fun h => absurd h (by simp)) (.int .i64 0)).drew
  have F0 := Lib.hid f0b
  have f1b := ((w1'.set_ 0 (.int .i64 0)).set_ 1 (.int .i64 0)).drew
  have F1 := Lib.hid f1b
  clear f0a f0b f1b
  have bF0 : Touch [w.heap.size, w.heap.size + 1] W6 _ := FT.mono (G := [w.heap.size, w.heap.size + 1]) (fun x hx => .inl (List.mem_cons.2 (.inl (List.mem_singleton.1 hx))))
  have bF1 := bF0.setCell (q := ⟨w.heap.size + 1, 0, none⟩) (.inl (by simp)) (.int .i64 0)
  have bF := (bF1.setCell (q := ⟨w.heap.size + 1, 1, none⟩) (.inl (by simp)) (.int .i64 0)).drew
  clear bF0 bF1
  have F2 := Lib.hid (bF.fresh (B4.out.trans (B46.out.mono B4.out.size)) (fun k hk => by simp at hk; omega))
  have F3 := Lib.hid ((HKX.out.2.below B46.out).moved (S' := (w.heap.size ≤ ·)) fun k hk hlt => ⟨bF.block k hlt (by simp; omega), by omega⟩)
  clear FT w0' w1' bF
  go_region_law (fail)
  all_goals
    go_wp2_with fail
    exact bodyPost_ret (results_three rfl _ _ w.heap.size (w.heap.size + 1) _ _ _ _ _ _ _ _ rfl F0.out Tryz.underlying26 rfl sizeExpr _ rfl rfl F1.out Tryz.underlying41 rfl sizeFault) rfl ⟨_, rfl, ⟨AX, cX, rfl, HKX.out.1, F3.out⟩, F2.out⟩
end Go.Proofs.YtbpknainmefidaaGreatDoor

/- Parse, where all goes well. -/
namespace Go.Proofs.YtbpknainmefidaaGreatDoor
open Go.RowKit Go.Lib
set_option linter.unusedVariables false
set_option linter.unusedSimpArgs false
set_option maxRecDepth 100000
open Ex (Tree)

theorem results_cells2 {P : Program} {fn : Func} {p q : Tmp} {ty ty' : TypeId} (h : fn.results = #[.cell p ty, .cell q ty']) (tmps : Array Value) (w : World) (g g' : Nat) (t t' : TypeId) (cs cs' : Array Value) (fr fr' : Nat × Nat) (d d' : TypeDesc)
    (hp : tmps.getD p undef = .pointer (some ⟨g, 0, none⟩)) (hg : w.heap[g]? = some (.cells cs t fr))
    (hu : P.underlying ty = some d) (hd : (match d with | .struct _ | .array _ _ => true | _ => false) = true) (hi : (P.info? ty).map (·.size) = some cs.size)
    (hp' : tmps.getD q undef = .pointer (some ⟨g', 0, none⟩)) (hg' : w.heap[g']? = some (.cells cs' t' fr'))
    (hu' : P.underlying ty' = some d') (hd' : (match d' with | .struct _ | .array _ _ => true | _ => false) = true) (hi' : (P.info? ty').map (·.size) = some cs'.size) :
    (results fn tmps).run P w = .ok (.tuple #[.agg cs, .agg cs']) w := by
  simp only [results, h]
  simp only [Array.getD_eq_getD_getElem?] at hp hp'
  simp [Sem.run_bind, Result.andThen, hp, hp', asAddr, run_loadVar_row w g t ty cs fr d hg hu hd hi, run_loadVar_row w g' t' ty' cs' fr' d' hg' hu' hd' hi']

set_option maxHeartbeats 600000 in
theorem parse_good (s : ByteArray) (L : List Lx.Tk) (hlx : Lx.lx s.data.toList = .ok L) (T : Tree) (i' : Nat) (w : World) (a : Addr) (m : Int) (hv : Env w a m) (hLn : L.length ≤ 1000000) (hi' : i' < L.length) (hk : L[i'].kind = 0) (hd : Ex.depth T ≤ 30) (hn : Ex.count T ≤ 300)
    (HR : ∀ (w1 : World) (P : Nat) (A : Option Addr) (c : Nat), Env w1 a m → Rule w1 P A c L 44 #[.pointer (some ⟨P, 0, none⟩)] 0 0 T i') :
    Calls Tryz.prog 23 #[.string s] w fun e w' => ∃ u, e = .returned (.tuple #[u, .agg #[.int .i64 0, .int .i64 0]]) ∧ NodeNew w.heap.size w' u T ∧ Below w.heap.size w w' := by
  have b0 : Below w.heap.size w ((w.alloc (.cells (ncells 0 [] 0 0 [] none 0 0) 26)).alloc (.cells #[.int .i64 0, .int .i64 0] 41)) := ((Below.refl _ _).alloc (Nat.le_refl _) _).alloc (by simp) _
  have k0 := (Whole.new w 26 (ncells 0 [] 0 0 [] none 0 0)).alloc (.cells #[.int .i64 0, .int .i64 0] 41)
  have k1 := Whole.new (w.alloc (.cells (ncells 0 [] 0 0 [] none 0 0) 26)) 41 #[.int .i64 0, .int .i64 0]
  have hz : ((w.alloc (.cells (ncells 0 [] 0 0 [] none 0 0) 26)).alloc (.cells #[.int .i64 0, .int .i64 0] 41)).heap.size = w.heap.size + 2 := by simp
  simp only [World.size_alloc] at k1
  unfold ncells at *
  have HV := Lib.hid hv
  go_enter Tryz.func23, Tryz.ntmps23
  go_wp2_with fail
  generalize (w.alloc (.cells #[.int .i64 0, .string (tx []), .int .i64 0, .int .i64 0, .string (tx []), .slice none 0 0] 26)).alloc (.cells #[.int .i64 0, .int .i64 0] 41) = W1 at *
  have B0 := Lib.hid b0
  have K0 := Lib.hid k0
  have K1 := Lib.hid k1
  have HZ := Lib.hid hz
  have LX := lex_any s W1 a m (HV.out.below b0)
  rw [hlx] at LX
  have LXH := Lib.hid LX
  clear b0 k0 k1 hz hv LX hlx
  refine LXH.out.mono ?_
  rintro e W2 ⟨A, c, rfl, hc, hA, hb2, hfar⟩
  have b3 : Below W1.heap.size W1 (W2.alloc (.cells #[.int .i64 0, .int .i64 0] 41)) := hb2.alloc hb2.size _
  have k5 := Whole.new W2 41 #[.int .i64 0, .int .i64 0]
  have hA3 := hA.below ((Below.refl W2.heap.size W2).alloc (Nat.le_refl _) (.cells #[.int .i64 0, .int .i64 0] 41))
  have q0 := k5.cell 0
  simp only [List.getElem?_toArray, List.getElem?_cons_zero, List.getElem?_cons_succ] at q0
  have HLN := Lib.hid (show L ≠ [] by rintro rfl; simp at hi')
  have AT := Lib.hid (at_good HLN.out hLn hc hA3 (HR _ _ A c (HV.out.below (B0.out.trans (b3.mono B0.out.size)))) hd hn)
  have B3 := Lib.hid b3
  have K03 := Lib.hid (K0.out.below b3 K0.out.lt)
  have K13 := Lib.hid (K1.out.below b3 K1.out.lt)
  have K5 := Lib.hid k5
  have HA3 := Lib.hid hA3
  have HZ3 : Hid (w.heap.size + 2 ≤ W2.heap.size) := Lib.hid (by have := HZ.out; have := hb2.size; omega)
  have HBW : Hid (∀ b o, A = some ⟨b, o, none⟩ → b < W2.heap.size) := Lib.hid (fun b o e => by
    obtain ⟨b', o', e', hb, -⟩ := hA i' hi'
    rw [e] at e'; cases e'; exact hb)
  clear b3 k5 hA3 hA hb2 hfar LXH K0 K1 HR hc hd hn
  have HW : Hid (∃ b o, A = some ⟨b, o, none⟩ ∧ b < (W2.alloc (.cells #[.int .i64 0, .int .i64 0] 41)).heap.size ∧ (W2.alloc (.cells #[.int .i64 0, .int .i64 0] 41)).cell? ⟨b, o + i' * 3, none⟩ = some (.int .i64 0)) := Lib.hid (by
    obtain ⟨b, o, e, hb, r0, -, -⟩ := HA3.out i' hi'
    rw [hk] at r0
    exact ⟨b, o, e, hb, r0⟩)
  clear hk
  have hi9 : (i' : Int) < (L.length : Int) := by omega
  go_wp2_with fail
  refine AT.out.mono ?_
  generalize W2.alloc (.cells #[.int .i64 0, .int .i64 0] 41) = W3 at *
  rintro e W4 ⟨u, rfl, hu, hb4⟩
  cases T with
  | node op t vk vn vs ks =>
  obtain ⟨AX, cX, rfl, hcX, hkX⟩ := hu
  obtain ⟨b, o, rfl, hbl, r0⟩ := HW.out
  have b5 : Below W3.heap.size W3 (W4.alloc (.cells (ncells op t vk vn vs AX ks.length cX) 26)) := hb4.alloc hb4.size _
  have k6 := Whole.new W4 26 (ncells op t vk vn vs AX ks.length cX)
  have k05 := K03.out.below b5 K03.out.lt
  have k15 := K13.out.below b5 K13.out.lt
  have k55 := K5.out.below b5 K5.out.lt
  have f0 := k55.frozen 0
  have f1 := k55.frozen 1
  have g0 := k55.cell 0
  have g1 := k55.cell 1
  simp only [List.getElem?_toArray, List.getElem?_cons_zero, List.getElem?_cons_succ] at g0 g1
  have hlt5 := K5.out.lt
  have hsz4 := hb4.size
  have bW : Touch [W2.heap.size] (W4.alloc (.cells (ncells op t vk vn vs AX ks.length cX) 26)) (((W4.alloc (.cells (ncells op t vk vn vs AX ks.length cX) 26)).setCell ⟨W2.heap.size, 0, none⟩ (.int .i64 0)).setCell ⟨W2.heap.size, 1, none⟩ (.int .i64 0)) := ((Touch.refl _ _).setCell (q := ⟨W2.heap.size, 0, none⟩) (.inl (List.mem_singleton.2 rfl)) (.int .i64 0)).setCell (q := ⟨W2.heap.size, 1, none⟩) (.inl (List.mem_singleton.2 rfl)) (.int .i64 0)
  have hs4 : (W4.alloc (.cells (ncells op t vk vn vs AX ks.length cX) 26)).heap.size = W4.heap.size + 1 := by simp
  have c55 := (k55.set_ 0 (.int .i64 0)).set_ 1 (.int .i64 0)
  unfold ncells at *
  obtain ⟨W5, hW5⟩ : ∃ W5, W4.alloc (.cells #[.int .i64 op, .string (tx t), .int .i64 vk, .int .i64 vn, .string (tx vs), .slice AX ks.length cX] 26) = W5 := ⟨_, rfl⟩
  rw [hW5] at b5 k6 k05 k15 k55 f0 f1 g0 g1 bW hs4 c55
  obtain ⟨W6, hW6⟩ : ∃ W6, (W5.setCell ⟨W2.heap.size, 0, none⟩ (.int .i64 0)).setCell ⟨W2.heap.size, 1, none⟩ (.int .i64 0) = W6 := ⟨_, rfl⟩
  rw [hW6] at bW c55
  have k66 : Whole W6 W4.heap.size 26 #[.int .i64 op, .string (tx t), .int .i64 vk, .int .i64 vn, .string (tx vs), .slice AX ks.length cX] := (bW.block _ k6.lt (by simp; omega)).trans k6
  have k06 : Whole W6 w.heap.size 26 #[.int .i64 0, .string (tx []), .int .i64 0, .int .i64 0, .string (tx []), .slice none 0 0] := (bW.block _ k05.lt (by have := HZ3.out; simp; omega)).trans k05
  have k16 : Whole W6 (w.heap.size + 1) 41 #[.int .i64 0, .int .i64 0] := (bW.block _ k15.lt (by have := HZ3.out; simp; omega)).trans k15
  have r6 : W6.cell? ⟨b, o + i' * 3, none⟩ = some (.int .i64 0) := by
    have hbe : b ≠ W2.heap.size := by have := HBW.out b o rfl; omega
    · have e1 : W6.cell? ⟨b, o + i' * 3, none⟩ = W5.cell? ⟨b, o + i' * 3, none⟩ := by simp only [World.cell?, bW.block b (Nat.lt_of_lt_of_le hbl b5.size) (by simpa using hbe)]
      rw [e1]; exact (b5.cell (p := ⟨b, o + i' * 3, none⟩) hbl).trans r0
  have z5 : W6.cell? ⟨W2.heap.size, 0, none⟩ = some (.int .i64 0) := c55.cell 0
  have z6 : W6.cell? ⟨W2.heap.size, 1, none⟩ = some (.int .i64 0) := c55.cell 1
  obtain ⟨x0, x1, x2, x3, x4, x5⟩ := six_of k66
  obtain ⟨m0, m1, m2, m3, m4, m5⟩ := six_of k06
  obtain ⟨y0, y1, y2, y3, y4, y5⟩ := frozen6 k06
  have v0 := k16.cell 0
  have v1 := k16.cell 1
  have u0 := k16.frozen 0
  have u1 := k16.frozen 1
  simp only [List.getElem?_toArray, List.getElem?_cons_zero, List.getElem?_cons_succ] at v0 v1
  have FT := set6Z_touch W6 w.heap.size (.int .i64 op) (.string (tx t)) (.int .i64 vk) (.int .i64 vn) (.string (tx vs)) (.slice AX ks.length cX)
  have w0' := set6Z_whole k06 (.int .i64 op) (.string (tx t)) (.int .i64 vk) (.int .i64 vn) (.string (tx vs)) (.slice AX ks.length cX)
  have w1' : Whole (set6Z W6 w.heap.size (.int .i64 op) (.string (tx t)) (.int .i64 vk) (.int .i64 vn) (.string (tx vs)) (.slice AX ks.length cX)) (w.heap.size + 1) 41 #[.int .i64 0, .int .i64 0] := (FT.block _ k16.lt (fun h => absurd (List.mem_singleton.1 h) (by omega))).trans k16
  have f0a := w0'.far (p := ⟨w.heap.size + 1, 0, none⟩) (fun h => absurd h (by simp)) (.int .i64 0)
  have f0b := f0a.far (p := ⟨w.heap.size + 1, 1, none⟩) (fun h => absurd h (by simp)) (.int .i64 0)
  have F0 := Lib.hid f0b
  have f1b := (w1'.set_ 0 (.int .i64 0)).set_ 1 (.int .i64 0)
  have F1 := Lib.hid f1b
  have bF0 : Touch [w.heap.size, w.heap.size + 1] W6 _ := FT.mono (G := [w.heap.size, w.heap.size + 1]) (fun x hx => .inl (List.mem_cons.2 (.inl (List.mem_singleton.1 hx))))
  have bF1 := bF0.setCell (q := ⟨w.heap.size + 1, 0, none⟩) (.inl (by simp)) (.int .i64 0)
  have bF := bF1.setCell (q := ⟨w.heap.size + 1, 1, none⟩) (.inl (by simp)) (.int .i64 0)
  have B6 : Below w.heap.size w W6 := bW.fresh (B0.out.trans ((B3.out.trans (b5.mono B3.out.size)).mono B0.out.size)) (fun k hk => by have := List.mem_singleton.1 hk; have := HZ3.out; omega)
  have F2 := Lib.hid (bF.fresh B6 (fun k hk => by simp at hk; omega))
  have hkX5 : TreesIn (fun k => W3.heap.size ≤ k) W5 AX 0 ks := hW5 ▸ (hkX.below ((Below.refl W4.heap.size W4).alloc (Nat.le_refl _) _))
  have F3 := Lib.hid ((hkX5.moved (S' := (W3.heap.size ≤ ·)) fun k hk hlt => ⟨bW.block k hlt (fun h => by have := List.mem_singleton.1 h; omega), hk⟩).moved (S' := (w.heap.size ≤ ·)) fun k hk hlt => ⟨bF.block k hlt (fun h => by simp at h; have := HZ3.out; omega), by have := HZ3.out; omega⟩)
  have HCX := Lib.hid hcX
  have HW6 := Lib.hid hW6
  clear FT w0' w1' f0a f0b f1b bF0 bF1 bF k66 k06 k16 k05 k15 k55 k6 b5 hb4 bW c55 hkX hkX5 hcX B6 AT hs4 hsz4 hlt5 hbl r0
  go_wp2_with fail
  exact bodyPost_ret (results_cells2 rfl _ _ w.heap.size (w.heap.size + 1) _ _ _ _ _ _ _ _ rfl F0.out Tryz.underlying26 rfl sizeExpr rfl F1.out Tryz.underlying41 rfl sizeFault) rfl ⟨_, rfl, ⟨AX, cX, rfl, HCX.out, F3.out⟩, F2.out⟩
end Go.Proofs.YtbpknainmefidaaGreatDoor

/- The chapter's example, read. -/
namespace Go.Proofs.YtbpknainmefidaaGreatDoor
open Go.RowKit Go.Lib
set_option linter.unusedVariables false
set_option linter.unusedSimpArgs false
set_option maxRecDepth 100000
open Ex (Tree)

abbrev exL : List Lx.Tk := [⟨1, [97], 0⟩, ⟨5, [43], 2⟩, ⟨3, [50], 4⟩, ⟨5, [42], 6⟩, ⟨1, [98], 8⟩, ⟨0, [], 9⟩]
theorem ex_lex : Lx.lx [97, 32, 43, 32, 50, 32, 42, 32, 98] = .ok exL := by decide
abbrev exB : Tree := .node 5 [42] 0 0 [] [.node 1 [] 1 2 [] [], .node 2 [98] 0 0 [] []]
abbrev exT : Tree := .node 5 [43] 0 0 [] [.node 2 [97] 0 0 [] [], exB]
theorem ex_told : told [50] = ⟨1, 2, [], 0⟩ := by kernel_rfl
theorem ex0 : leafT (tk exL 0) = .node 2 [97] 0 0 [] [] := by kernel_rfl
theorem ex2 : leafT (tk exL 2) = .node 1 [] 1 2 [] [] := by kernel_rfl
theorem ex4 : leafT (tk exL 4) = .node 2 [98] 0 0 [] [] := by kernel_rfl
theorem exLeaf0 : Leaf exL 0 := ⟨by decide, by decide, by decide, by decide, by decide, by rw [ex0]; simp [fitT, fitTs, maxLen], by rw [ex0]; kernel_rfl⟩
theorem exLeaf2 : Leaf exL 2 := ⟨by decide, by decide, by decide, by decide, by decide, by rw [ex2]; simp [fitT, fitTs, maxLen], by rw [ex2]; kernel_rfl⟩
theorem exLeaf4 : Leaf exL 4 := ⟨by decide, by decide, by decide, by decide, by decide, by rw [ex4]; simp [fitT, fitTs, maxLen], by rw [ex4]; kernel_rfl⟩

set_option maxHeartbeats 1000000 in
theorem ex_or {a : Addr} {m : Int} (w0 : World) (P : Nat) (A : Option Addr) (c : Nat) (hv : Env w0 a m) : Rule w0 P A c exL 44 #[.pointer (some ⟨P, 0, none⟩)] 0 0 exT 5 := by
  have hL : exL ≠ [] := by decide
  have hLn : exL.length ≤ 1000000 := by decide
  have neg : ∀ i, Leaf exL i → i + 1 ≤ 1000000 → sgn (tk exL i) ≠ [45] → Rule w0 P A c exL 127 #[.pointer (some ⟨P, 0, none⟩)] i 0 (leafT (tk exL i)) (i + 1) := fun i hl hi hs =>
    negative_ok hL (ahead_no hL hLn (by omega) [45] 3 139 hs (fun W => callOf.2.2.2.2.2) (single_leaf hv hl hi hLn))
  have n0 := neg 0 exLeaf0 (by decide) (by decide)
  have n2 := neg 2 exLeaf2 (by decide) (by decide)
  have n4 := neg 4 exLeaf4 (by decide) (by decide)
  rw [ex0] at n0
  rw [ex2] at n2
  rw [ex4] at n4
  have p0 : Rule w0 P A c exL 113 #[.pointer (some ⟨P, 0, none⟩)] 0 0 (.node 2 [97] 0 0 [] []) 1 :=
    product_ok hL (left_ok hL hLn 127 (fun W => callOf.2.2.2.2.1) 5 0 (fun _ => .node 2 [97] 0 0 [] []) (fun _ => []) (fun _ => 1) n0 (fun j hj => absurd hj (Nat.not_lt_zero _)) (by decide) (by decide))
  have p2 : Rule w0 P A c exL 113 #[.pointer (some ⟨P, 0, none⟩)] 2 0 exB 5 :=
    product_ok hL (left_ok hL hLn 127 (fun W => callOf.2.2.2.2.1) 5 1 (fun | 0 => .node 1 [] 1 2 [] [] | _ => .node 2 [98] 0 0 [] []) (fun _ => [42]) (fun | 0 => 3 | _ => 5) n2 (fun j hj => by
      have : j = 0 := by omega
      subst this
      exact ⟨n4, by decide, by decide, by decide⟩) (by decide) (by decide))
  have s0 : Rule w0 P A c exL 101 #[.pointer (some ⟨P, 0, none⟩)] 0 0 exT 5 :=
    sum_ok hL (left_ok hL hLn 113 (fun W => callOf.2.2.2.1) 4 1 (fun | 0 => .node 2 [97] 0 0 [] [] | _ => exB) (fun _ => [43]) (fun | 0 => 1 | _ => 5) p0 (fun j hj => by
      have : j = 0 := by omega
      subst this
      exact ⟨p2, by decide, by decide, by decide⟩) (by decide) (by decide))
  have c0 := compared_no hL hLn s0 (by decide) (by decide)
  have t0 : Rule w0 P A c exL 78 #[.pointer (some ⟨P, 0, none⟩)] 0 0 exT 5 := not_ok hL (ahead_no hL hLn (by omega) [110, 111, 116] 4 87 (by decide) (fun W => callOf.2.2.1) c0)
  have a0 : Rule w0 P A c exL 59 #[.pointer (some ⟨P, 0, none⟩)] 0 0 exT 5 :=
    and_ok hL (left_ok hL hLn 78 (fun W => callOf.2.1) 2 0 (fun _ => exT) (fun _ => []) (fun _ => 5) t0 (fun j hj => absurd hj (Nat.not_lt_zero _)) (by decide) (by decide))
  exact or_ok hL (left_ok hL hLn 59 (fun W => callOf.1) 1 0 (fun _ => exT) (fun _ => []) (fun _ => 5) a0 (fun j hj => absurd hj (Nat.not_lt_zero _)) (by decide) (by decide))
theorem ex_depth : Ex.depth exT = 3 := by kernel_rfl
theorem ex_count : Ex.count exT = 5 := by kernel_rfl
theorem ex_parse (w : World) (a : Addr) (m : Int) (hv : Env w a m) :
    Calls Tryz.prog 23 #[.string ⟨#[97, 32, 43, 32, 50, 32, 42, 32, 98]⟩] w fun e w' => ∃ u, e = .returned (.tuple #[u, .agg #[.int .i64 0, .int .i64 0]]) ∧ NodeNew w.heap.size w' u exT ∧ Below w.heap.size w w' :=
  parse_good _ exL ex_lex exT 5 w a m hv (by decide) (by decide) (by decide) (by rw [ex_depth]; decide) (by rw [ex_count]; decide) (fun w1 P A c h => ex_or w1 P A c h)
end Go.Proofs.YtbpknainmefidaaGreatDoor

/- awake. -/
namespace Go.Proofs.YtbpknainmefidaaGreatDoor
open Go.RowKit Go.Lib
set_option linter.unusedVariables false
set_option linter.unusedSimpArgs false
set_option maxRecDepth 100000
open Ex (Tree)

set_option maxHeartbeats 1000000 in
theorem awake_any (w : World) (a : Addr) (m : Int) (hv : Env w a m) : Calls Tryz.prog 5 #[] w fun e w' => e = .returned (.bool true) ∧ Below w.heap.size w w' := by
  have EP := Lib.hid (ex_parse w a m hv)
  go_enter Tryz.func5, Tryz.ntmps5
  go_wp2_with fail
  refine EP.out.mono ?_
  rintro e W1 ⟨u, rfl, ⟨A, c, rfl, hc, hk⟩, hb⟩
  have b2 : Below w.heap.size w ((W1.alloc (.cells (ncells 5 [43] 0 0 [] A 2 c) 26)).alloc (.cells #[.int .i64 0, .int .i64 0] 41)) := (hb.alloc hb.size _).alloc (by have := hb.size; simp; omega) _
  have b1 : Below W1.heap.size W1 ((W1.alloc (.cells (ncells 5 [43] 0 0 [] A 2 c) 26)).alloc (.cells #[.int .i64 0, .int .i64 0] 41)) := ((Below.refl _ _).alloc (Nat.le_refl _) _).alloc (by simp) _
  have k0 := (Whole.new W1 26 (ncells 5 [43] 0 0 [] A 2 c)).alloc (.cells #[.int .i64 0, .int .i64 0] 41)
  have k1 := Whole.new (W1.alloc (.cells (ncells 5 [43] 0 0 [] A 2 c) 26)) 41 #[.int .i64 0, .int .i64 0]
  simp only [World.size_alloc] at k1
  have nv : NodeV ((W1.alloc (.cells (ncells 5 [43] 0 0 [] A 2 c) 26)).alloc (.cells #[.int .i64 0, .int .i64 0] 41)) (.agg (ncells 5 [43] 0 0 [] A 2 c)) exT := ⟨A, c, rfl, hc, (hk.below b1).at⟩
  have CN := callsIn_wide.1 (count_in exT _ _ nv (by rw [ex_depth]; decide) (by rw [ex_count]; decide))
  rw [ex_count] at CN
  have CNH := Lib.hid CN
  obtain ⟨b, o, op, t, vk, vn, vs, l, B, n, hA, hx, q0, q1, q2, q3, q4, q5, -⟩ := TreesAt.kid (hk.below b1).at 1 (by decide)
  subst hA
  have ht : t = [42] := by
    have : exB = .node op t vk vn vs l := hx
    injection this with h1 h2; exact h2.symm
  subst ht
  unfold ncells at *
  obtain ⟨x0, x1, x2, x3, x4, x5⟩ := six_of k0
  have v0 := k1.cell 0
  simp only [List.getElem?_toArray, List.getElem?_cons_zero, List.getElem?_cons_succ] at v0
  have B2 := Lib.hid b2
  clear b2 b1 k0 k1 nv CN hk hb hx q0 q2 q3 q4 q5 EP
  go_wp2_with fail
  refine CNH.out.mono ?_
  rintro e W3 ⟨rfl, hb3⟩
  have B3 := Lib.hid (B2.out.trans (hb3.mono B2.out.size))
  clear CNH hb3 x0 x1 x2 x3 x4 x5 v0 q1
  go_wp2_with fail
  go_ret
  exact ⟨rfl, B3.out⟩
theorem laidOut : laidOutB Tryz.prog = true := by kernel_rfl
end Go.Proofs.YtbpknainmefidaaGreatDoor
