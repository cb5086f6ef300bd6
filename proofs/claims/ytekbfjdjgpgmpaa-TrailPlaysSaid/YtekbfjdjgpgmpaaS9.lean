/- TrailNests walked. -/
import Derived.Test.YtekbfjdjgpgmpaaS8
namespace Go.Proofs.Ytekbfjdjgpgmpaa
open Go.RowKit

theorem wpList_append_want {P : Program} (w : World) {ops : Array Oper} {rest : List Oper} {o : Oper} {a : Act} {Q : Exit → Act → World → Prop} (hw : Region.wanted o (yielded ops a.tmps) = true) (s x : Operand) (t tn : TypeId)
    (ho : o.op = .call { callee := .builtin .append, args := #[s, x], argTypes := #[t, tn] }) (vs vx : Value) (hs : a.eval s = vs) (hx : a.eval x = vx)
    {v' : Value} {w' : World} (hr : (Builtin.append_ #[t, tn] o.type #[vs, vx]).run P w = .ok v' w') (h : wpList P ops Q rest (a.put o.dst v') w') : wpList P ops Q (o :: rest) a w :=
  BigFrame.wpList_want hw fun _ hK => by
    unfold Oper.wp
    simp [execOp, ho, resolve, invoke, builtin, hs, hx, hr, Result.andThen]
    exact hK _ _ h

/-- where a walk is to stand still. -/
def Held (p : Prop) : Prop := p
theorem Held.go {p : Prop} (h : Held p) : p := h

theorem own_none {w : World} {B e z n c : Nat} {xs : List Value} (h : w.ownsRow B e z (.slice none n c) n xs) : n = 0 ∧ c = 0 := by
  rcases h.2 with ⟨h1, h2⟩ | ⟨g, cap, cur, h1, _⟩
  · cases h1; exact ⟨rfl, rfl⟩
  · cases h1

/-- three rows, appended and held together. -/
theorem nest_rows (ts : List ByteArray) (a b : Nat) (hab : a ≤ b) (hb : b ≤ ts.length) : (ts.drop b).reverse ++ ((ts.take b).drop a).reverse = (ts.drop a).reverse := by
  rw [← List.reverse_append]
  congr 1
  have h1 : ts.drop b = (ts.drop a).drop (b - a) := by rw [List.drop_drop]; congr 1; omega
  have h2 : (ts.take b).drop a = (ts.drop a).take (b - a) := by rw [List.drop_take]
  rw [h1, h2, List.take_append_drop]

/-- what the law's appends and its look at them come to. -/
theorem nest_facts (w6 : World) (ts : List ByteArray) (a b B1 B2 B3 : Nat) (hle : a ≤ b) (hbl : b ≤ ts.length) (hn : ts.length ≤ 200) (ap aq ar : Option Addr) (cp cq cr : Nat)
    (op6 : w6.ownsRow B1 9 1 (.slice ap (ts.length - b) cp) (ts.length - b) (texts (ts.drop b).reverse)) (oq6 : w6.ownsRow B2 9 1 (.slice aq (b - a) cq) (b - a) (texts ((ts.take b).drop a).reverse))
    (or6 : w6.ownsRow B3 9 1 (.slice ar (ts.length - a) cr) (ts.length - a) (texts (ts.drop a).reverse)) :
    ∃ a7 c7 w7 a8 c8 w8, (Builtin.append_ #[39, 39] 39 #[.slice (some ⟨w6.heap.size, 0, none⟩) 0 0, .slice ap (ts.length - b) cp]).run Try.prog (w6.alloc (.cells #[] 9)) = .ok (.slice a7 (ts.length - b) c7) w7 ∧
      (Builtin.append_ #[39, 39] 39 #[.slice a7 (ts.length - b) c7, .slice aq (b - a) cq]).run Try.prog w7 = .ok (.slice a8 (ts.length - a) c8) w8 ∧ Below w6.heap.size w6 w8 ∧
      Calls Try.prog 14 #[.slice a8 (ts.length - a) c8, .slice ar (ts.length - a) cr] w8 fun e w' => e = .returned (.bool true) ∧ Below w8.heap.size w8 w' := by
  have hal := (Below.refl w6.heap.size w6).alloc (Nat.le_refl _) (.cells #[] 9)
  have o0 : (w6.alloc (.cells #[] 9)).ownsRow w6.heap.size 9 1 (.slice (some ⟨w6.heap.size, 0, none⟩) 0 0) 0 (texts []) := World.ownsRow_made w6 #[] 0 (Nat.le_refl _) (Nat.zero_le _) rfl
  have hk1 : ∀ x, (Value.slice ap (ts.length - b) cp).ownBlock = some x → (w6.alloc (.cells #[] 9)).heap[x]? = w6.heap[x]? := fun x hx => hal.block x (op6.lt x hx).2
  have hp : (w6.alloc (.cells #[] 9)).ownsRow B1 9 1 (.slice ap (ts.length - b) cp) (ts.length - b) (texts (ts.drop b).reverse) := ownsRow_of_heap op6 hk1
  have hu1 : ∀ h : ap = none, ts.length - b = 0 ∧ cp = 0 := fun h => by subst h; exact own_none op6
  have hl1 : (ts.drop b).reverse.length = ts.length - b := by simp
  have hB1 : w6.heap.size ≤ (w6.alloc (.cells #[] 9)).heap.size := by simp
  obtain ⟨v7, w7, r7, o7, gr7⟩ := append_rows w6.heap.size _ 0 (ts.length - b) cp ap [] (ts.drop b).reverse _ o0 hu1 hl1 (Came.of_row hp) (by omega) hB1
  have b7 : Below w6.heap.size w6 w7 := hal.grown gr7 hB1 (fun x hx => by cases hx; exact Nat.le_refl _)
  rw [Nat.zero_add, List.nil_append] at o7
  obtain ⟨a7, c7, rfl⟩ := slice_shape o7
  have hq : w7.ownsRow B2 9 1 (.slice aq (b - a) cq) (b - a) (texts ((ts.take b).drop a).reverse) := ownsRow_of_heap oq6 fun x hx => b7.block x (oq6.lt x hx).2
  have hu2 : ∀ h : aq = none, b - a = 0 ∧ cq = 0 := fun h => by subst h; exact own_none oq6
  have hl2 : ((ts.take b).drop a).reverse.length = b - a := by rw [List.length_reverse, List.length_drop, List.length_take]; omega
  obtain ⟨v8, w8, r8, o8, gr8⟩ := append_rows w6.heap.size _ (ts.length - b) (b - a) cq aq _ ((ts.take b).drop a).reverse _ o7 hu2 hl2 (Came.of_row hq) (by omega) b7.size
  have b8 : Below w6.heap.size w6 w8 := b7.grown gr8 b7.size (fun x hx => (o7.lt x hx).1)
  have hlen : ts.length - b + (b - a) = ts.length - a := by omega
  rw [nest_rows ts a b hle hbl, hlen] at o8
  obtain ⟨a8, c8, rfl⟩ := slice_shape o8
  have or8 : w8.ownsRow B3 9 1 (.slice ar (ts.length - a) cr) (ts.length - a) (texts (ts.drop a).reverse) := ownsRow_of_heap or6 fun x hx => b8.block x (or6.lt x hx).2
  exact ⟨a7, c7, w7, a8, c8, w8, r7, r8, b8, same_eq a8 ar (ts.length - a) c8 cr _ w8 (by simp) (by omega) (Came.of_row o8) (Came.of_row or8)⟩

/-- marks at two places, ahead of a place. -/
def sel2 (a b i j : Nat) : List Nat := sel a i ++ sel b j

theorem sel_at (a : Nat) : sel a a = [] := by simp [sel]
theorem sel_up (a : Nat) : sel a (a + 1) = [a] := by simp [sel]
theorem sel_ne {a i : Nat} (h : i ≠ a) : sel a (i + 1) = sel a i := by unfold sel; split <;> split <;> first | rfl | omega
theorem sel_no {a i : Nat} (h : i ≤ a) : sel a i = [] := by unfold sel; split; omega; rfl
theorem sel_yes {a i : Nat} (h : a < i) : sel a i = [a] := by unfold sel; split; rfl; omega
theorem sel_len (a i : Nat) : (sel a i).length ≤ 1 := by unfold sel; split <;> simp
theorem sel2_len (a b i j : Nat) : (sel2 a b i j).length ≤ 2 := by
  have := sel_len a i
  have := sel_len b j
  simp only [sel2, List.length_append]; omega

set_option maxRecDepth 100000 in
set_option maxHeartbeats 1000000 in
theorem trailNests_any (v : Option Addr) (c : Nat) (ts : List ByteArray) (at_ more : Int) (w : World) (h : Came w v ts) (hat : (Lit.int .i64 at_).wf = true) (hmore : (Lit.int .i64 more).wf = true) : Calls Try.prog 6 #[.slice v ts.length c, .int .i64 at_, .int .i64 more] w fun e w' => e = .returned (.bool true) ∧ Below w.heap.size w w' := by
  have H := Lib.hid h
  clear h
  go_enter Try.func6, Try.ntmps6
  go_wp2_with fail
  refine (awake_any _).mono ?_
  rintro e w1 ⟨rfl, hb1⟩
  have B1 := Lib.hid hb1
  have H1 := Lib.hid (H.out.below hb1)
  clear hb1
  by_cases hn : (ts.length : Int) > 200
  · go_wp2_with fail
    go_ret
    exact ⟨rfl, B1.out⟩
  · have hn' : ts.length ≤ 200 := by omega
    obtain ⟨a, han, hka⟩ := rem_fact at_ ts.length hn'
    have hsub : (ts.length : Int) - (a : Int) = ((ts.length - a : Nat) : Int) := by omega
    obtain ⟨b', hbn, hkb⟩ := rem_fact more (ts.length - a) (by omega)
    go_wp2_with fail
    refine (new_ok _).mono ?_
    rintro e w2 ⟨rfl, hw2⟩
    go_wp2_with fail
    refine (new_ok _).mono ?_
    rintro e w3 ⟨rfl, hw3⟩
    have A2 : Hid (Pair w1 w1.heap.size (w1.heap.size + 1) w3 [] [] [] []) := by
      rw [hw3]
      exact Pair.new w1
    clear hw3 hw2 hat hmore hsub
    go_wp2_with fail
    obtain ⟨b, hbb⟩ : ∃ b, b = a + b' := ⟨_, rfl⟩
    have hab : (a : Int) + (b' : Int) = (b : Int) := by omega
    have hle : a ≤ b := by omega
    have hbl : b ≤ ts.length := by omega
    simp only [hka, hkb, hab]
    clear hka hkb hab hbb hbn han
    go_loopg [11] (ts.length + 1) (fun j s11 wr => ∃ i : Nat, i + j = ts.length + 1 ∧ s11 = .int .i64 (i : Nat) ∧ Pair w1 w1.heap.size (w1.heap.size + 1) wr (ts.take i) (sel2 a b i i) (ts.take i) (sel2 a b i i))
    case atStart => exact ⟨0, by omega, rfl, by simpa [sel2, sel] using A2.out⟩
    case round =>
      obtain ⟨i, hij, rfl, hm⟩ := hrel
      have M := Lib.hid hm
      have HIJ := Lib.hid hij
      clear hm hij A2
      by_cases h1 : (i : Int) ≤ (ts.length : Int)
      · go_upto_if 53 with fail
        go_cut [] (fun wc => Pair w1 w1.heap.size (w1.heap.size + 1) wc (ts.take i) (sel2 a b (i + 1) i) (ts.take i) (sel2 a b (i + 1) i))
        case first =>
          by_cases h2 : (i : Int) = (a : Int)
          · have hia : i = a := by omega
            subst hia
            have hli : (ts.take i).length = i := by rw [List.length_take]; omega
            go_wp2_with fail
            refine (M.out.mark (by have := sel2_len i b i i; omega) (by omega)).mono ?_
            rintro e wx ⟨rfl, m1⟩
            have M1 := Lib.hid m1.swap
            clear m1
            go_wp2_with fail
            refine (M1.out.mark (by have := sel2_len i b i i; omega) (by omega)).mono ?_
            rintro e wy ⟨rfl, m2⟩
            have M2 : Hid (Pair w1 w1.heap.size (w1.heap.size + 1) wy (ts.take i) (sel2 i b (i + 1) i) (ts.take i) (sel2 i b (i + 1) i)) := by
              have m3 := m2.swap
              rw [hli] at m3
              have e1 : sel2 i b i i ++ [i] = sel2 i b (i + 1) i := by simp only [sel2, sel_at, sel_up, sel_no hle]; rfl
              rw [e1] at m3
              exact m3
            clear m2
            go_wp2_with fail
            go_meet
            case rel => exact M2.out
          · have e1 : sel2 a b (i + 1) i = sel2 a b i i := by simp only [sel2, sel_ne (show i ≠ a by omega)]
            go_wp2_with fail
            go_meet
            case rel => rw [e1]; exact M.out
        case rest =>
          have N := Lib.hid hcut
          clear hcut M
          go_upto_if 60 with fail
          go_cut [] (fun wc => Pair w1 w1.heap.size (w1.heap.size + 1) wc (ts.take i) (sel2 a b (i + 1) (i + 1)) (ts.take i) (sel2 a b (i + 1) (i + 1)))
          case first =>
            by_cases h2 : (i : Int) = (b : Int)
            · have hib : i = b := by omega
              subst hib
              have hli : (ts.take i).length = i := by rw [List.length_take]; omega
              go_wp2_with fail
              refine (N.out.mark (by have := sel2_len a i (i + 1) i; omega) (by omega)).mono ?_
              rintro e wx ⟨rfl, m1⟩
              have M1 := Lib.hid m1.swap
              clear m1
              go_wp2_with fail
              refine (M1.out.mark (by have := sel2_len a i (i + 1) i; omega) (by omega)).mono ?_
              rintro e wy ⟨rfl, m2⟩
              have M2 : Hid (Pair w1 w1.heap.size (w1.heap.size + 1) wy (ts.take i) (sel2 a i (i + 1) (i + 1)) (ts.take i) (sel2 a i (i + 1) (i + 1))) := by
                have m3 := m2.swap
                rw [hli] at m3
                have e1 : sel2 a i (i + 1) i ++ [i] = sel2 a i (i + 1) (i + 1) := by simp only [sel2, sel_at, sel_up, List.append_nil]
                rw [e1] at m3
                exact m3
              clear m2
              go_wp2_with fail
              go_meet
              case rel => exact M2.out
            · have e1 : sel2 a b (i + 1) (i + 1) = sel2 a b (i + 1) i := by simp only [sel2, sel_ne (show i ≠ b by omega)]
              go_wp2_with fail
              go_meet
              case rel => rw [e1]; exact N.out
          case rest =>
            have O := Lib.hid hcut
            clear hcut N
            by_cases h3 : (i : Int) < (ts.length : Int)
            · have hi : i < ts.length := by omega
              obtain ⟨g, off, rfl, hb, hc⟩ := (H1.out.below O.out.out).cell i hi
              go_wp2_with fail
              refine (O.out.add ts[i] (by simp; omega)).mono ?_
              rintro e wx ⟨rfl, m1⟩
              have M1 := Lib.hid m1.swap
              obtain ⟨g', off', e', hb', hc'⟩ := (H1.out.below m1.out).cell i hi
              cases e'
              clear m1
              go_wp2_with fail
              refine (M1.out.add ts[i] (by simp; omega)).mono ?_
              rintro e wy ⟨rfl, m2⟩
              have M2 : Hid (Pair w1 w1.heap.size (w1.heap.size + 1) wy (ts.take (i + 1)) (sel2 a b (i + 1) (i + 1)) (ts.take (i + 1)) (sel2 a b (i + 1) (i + 1))) := by
                have m3 := m2.swap
                rw [take_succ' ts i hi] at m3
                exact m3
              clear m2
              go_wp2_with fail
              go_roundg (ts.length - i)
              case measure => have := HIJ.out; omega
              case rel => exact ⟨i + 1, by have := HIJ.out; omega, by simp, M2.out⟩
            · have M2 : Hid (Pair w1 w1.heap.size (w1.heap.size + 1) wc (ts.take (i + 1)) (sel2 a b (i + 1) (i + 1)) (ts.take (i + 1)) (sel2 a b (i + 1) (i + 1))) := by
                have := O.out
                rw [List.take_of_length_le (by omega)] at this ⊢
                exact this
              go_wp2_with fail
              go_roundg (ts.length - i)
              case measure => have := HIJ.out; omega
              case rel => exact ⟨i + 1, by have := HIJ.out; omega, by simp, M2.out⟩
      · have e1 : ts.take i = ts := List.take_of_length_le (by omega)
        have e2 : sel2 a b i i = [a, b] := by simp only [sel2, sel_yes (show a < i by omega), sel_yes (show b < i by omega)]; rfl
        have m := M.out
        rw [e1, e2] at m
        obtain ⟨F, G, f1, g1, bb, fF, fG, fd⟩ := m
        have ltF := f1.lt
        have ltG := g1.lt
        have F1 := Lib.hid f1
        clear M e1 e2
        go_wp2_with fail
        refine (cut_yes F1.out 1 1 b rfl rfl hbl (by omega)).mono ?_
        rintro e w4 ⟨vp, rfl, op, f2, t2⟩
        have g2 := g1.touch t2 (fun x hx hf => fd x hf hx)
        obtain ⟨ap, cp, rfl⟩ := slice_shape op
        have F2 : Hid (IsTrail w4 w1.heap.size F (ts.take b) [a]) := Lib.hid f2
        have lb : (ts.take b).length = b := by rw [List.length_take]; omega
        clear f1 F1 f2 g1
        have hs4 := t2.size
        go_wp2_with fail
        refine (cut_yes F2.out 0 0 a rfl rfl (by omega) (by omega)).mono ?_
        rintro e w5 ⟨vq, rfl, oq, f3, t3⟩
        rw [lb] at oq
        have g3 := g2.touch t3 (fun x hx hf => fd x hf hx)
        have op5 := ownsRow_of_heap op fun x hx => t3.block x (op.lt x hx).2 (fun hm => by have := ltF x hm; have := (op.lt x hx).1; omega)
        obtain ⟨aq, cq, rfl⟩ := slice_shape oq
        have G3 := Lib.hid g3
        clear F2 g2 op
        have hs5 := t3.size
        go_wp2_with fail
        refine (cut_yes G3.out 0 0 a rfl rfl (by omega) (by omega)).mono ?_
        rintro e w6 ⟨vr, rfl, or, g4, t4⟩
        have f4 := f3.touch t4 (fun x hx hf => fd x hx hf)
        have op6 := ownsRow_of_heap op5 fun x hx => t4.block x (op5.lt x hx).2 (fun hm => by have := ltG x hm; have := (op5.lt x hx).1; omega)
        have oq6 := ownsRow_of_heap oq fun x hx => t4.block x (oq.lt x hx).2 (fun hm => by have := ltG x hm; have := (oq.lt x hx).1; omega)
        obtain ⟨ar, cr, rfl⟩ := slice_shape or
        have B6 := Lib.hid (t4.fresh (t3.fresh (t2.fresh bb fF) fF) fG)
        clear G3 g3 op5 oq
        have hs6 := t4.size
        obtain ⟨a7, c7, w7, a8, c8, w8, r7, r8, b8, s8⟩ := nest_facts w6 ts a b _ _ _ hle hbl hn' ap aq ar cp cq cr op6 oq6 or
        have R7 := Lib.hid r7
        have R8 := Lib.hid r8
        have S8 := Lib.hid s8
        have N8 := Lib.hid (f4.below b8)
        have P8 := Lib.hid (g4.below b8)
        have B8 := Lib.hid (B6.out.trans (b8.mono B6.out.size))
        have la : (ts.take a).length = a := by rw [List.length_take]; omega
        have la2 : ((ts.take b).take a).length = a := by rw [List.length_take]; omega
        have hsub : (ts.length : Int) - (b : Int) = ((ts.length - b : Nat) : Int) := by omega
        clear r8 r7 s8 b8 op6 oq6 or f4 g4 t4 t3 t2 f3 bb fF fG fd ltF ltG hs4 hs5 hs6
        go_wp2_with (at_builtin; refine Held.go ?_)
        unfold Held
        refine wpList_append_want _ ?hw (.tmp 107) (.tmp 108) 39 39 ?ho _ _ ?hs ?hx R7.out ?_
        case hw => kernel_rfl
        case ho => rfl
        case hs => rfl
        case hx => rfl
        clear R7
        go_wp2_with (at_builtin; refine Held.go ?_)
        unfold Held
        refine wpList_append_want _ ?hw (.tmp 109) (.tmp 110) 39 39 ?ho _ _ ?hs ?hx R8.out ?_
        case hw => kernel_rfl
        case ho => rfl
        case hs => rfl
        case hx => rfl
        clear R8
        go_wp2_with fail
        refine S8.out.mono ?_
        rintro e w9 ⟨rfl, b9⟩
        have N9 := Lib.hid (N8.out.below b9)
        have P9 := Lib.hid (P8.out.below b9)
        have B9 := Lib.hid (B8.out.trans (b9.mono B8.out.size))
        clear b9 S8 N8 P8 B8
        go_wp2_with fail
        refine (len_ok N9.out).mono ?_
        rintro e wx ⟨rfl, rfl⟩
        rw [la2]
        clear N9
        go_wp2_with fail
        refine (len_ok P9.out).mono ?_
        rintro e wy ⟨rfl, rfl⟩
        rw [la]
        go_wp2_with fail
        refine (marks_ok P9.out).mono ?_
        rintro e wz ⟨rfl, rfl⟩
        clear P9
        go_wp2_with fail
        go_ret
        exact ⟨rfl, B1.out.trans (B9.out.mono B1.out.size)⟩
end Go.Proofs.Ytekbfjdjgpgmpaa
