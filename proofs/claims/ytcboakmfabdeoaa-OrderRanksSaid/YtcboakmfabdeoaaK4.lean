import Derived.Test.YtcboakmfabdeoaaM8

/- OrderRanks: the walk. -/
namespace Go.Proofs.Ytcboakmfabdeoaa
open Go.RowKit

/-- the key at a place has that place, and its own thing. -/
theorem place_facts {l : List Pr} (hs : Rising l) (i : Nat) (hi : i < l.length) : pos l l[i].1 = i ∧ gotten l l[i].1 = .tuple #[.string l[i].2, .bool true] := by
  have hk : key l i = l[i].1 := by simp [key, List.getElem?_eq_getElem hi]
  have h1 : pos l l[i].1 = i := pos_eq hs i _ (by omega) (fun t ht => by rw [← hk]; exact key_mono hs t i ht hi) (fun t ht htl => by
    rw [← hk]
    by_cases e : i = t
    · subst e; exact Int.le_refl _
    · have := key_mono hs i t (by omega) htl; omega)
  have h2 : hasB l l[i].1 = true := hasB_iff.2 ⟨l[i], List.getElem_mem hi, rfl⟩
  obtain ⟨hh, _, h3⟩ := val_at hs h2
  refine ⟨h1, ?_⟩
  rw [gotten_has h2, ← h3]
  simp only [h1]

theorem rise_step {l : List Pr} (hs : Rising l) (i : Nat) (hi : i + 1 < l.length) : l[i].1 < l[i + 1].1 :=
  List.pairwise_iff_getElem.1 hs i (i + 1) (by omega) hi (by omega)

set_option maxRecDepth 100000 in
set_option maxHeartbeats 1000000 in
theorem orderRanks_any (t : Int) (a : Option Addr) (c : Nat) (ds : List Deed) (w : World) (h : CameA w a ds) : Calls Try.prog 5 #[.int .i64 t, .slice a ds.length c] w fun e w' => e = .returned (.bool true) ∧ Below w.heap.size w w' := by
  have H := Lib.hid h
  clear h
  go_enter Try.func5, Try.ntmps5
  go_wp2_with fail
  refine (awake_any _).mono ?_
  rintro e w1 ⟨rfl, hb1⟩
  have B1 := Lib.hid hb1
  have H1 := Lib.hid (H.out.below hb1)
  clear hb1 H
  by_cases ht : t < 2 ∨ 64 < t
  · have NO := Lib.hid (new_no t w1 ht)
    go_wp2_with fail
    refine NO.out.mono ?_
    rintro e w2 ⟨rfl, rfl⟩
    go_wp2
    go_ret
    exact ⟨rfl, B1.out⟩
  · obtain ⟨T, rfl⟩ : ∃ T : Nat, t = T := ⟨t.toNat, by omega⟩
    have ht1 : ¬ (T : Int) < 2 := by omega
    have ht2 : ¬ (64 : Int) < (T : Int) := by omega
    have ht3 : ¬ (T : Int) > 64 := by omega
    have h2 : 2 ≤ T := by omega
    have h64 : T ≤ 64 := by omega
    clear ht
    go_wp2_with fail
    refine (new_ok T _ h2 h64).mono ?_
    rintro e w2 ⟨rfl, hw2⟩
    have P2 : Hid (Playing w1.heap.size T w1.heap.size (w1.heap.size + 1) w1 (w2.alloc (.cells #[.slice none 0 0] 31)) []) := by
      rw [hw2]; exact Lib.hid (Playing.new (Below.refl _ _))
    have hr : w1.heap.size + 1 = w2.heap.size := by rw [hw2, World.size_alloc]
    rw [hr] at P2
    clear hw2 hr
    go_wp2_with fail
    generalize w2.heap.size = r at *
    generalize hm : w1.heap.size = m at *
    generalize w2.alloc (.cells #[.slice none 0 0] 31) = w3 at *
    have HM := Lib.hid hm
    clear hm
    go_loopg [8] ds.length (fun j s8 wr => ∃ (i : Nat) (L : List Pr), i + j = ds.length ∧ i ≤ 300 ∧ s8 = .int .i64 (i : Nat) ∧ L.length ≤ i ∧ Playing m T m r w1 wr L)
    case atStart => exact ⟨0, [], by omega, by omega, rfl, Nat.le_refl _, P2.out⟩
    case round =>
      obtain ⟨i, L, hij, hi2, rfl, hL, hp⟩ := hrel
      have PL := Lib.hid hp
      have HIJ := Lib.hid hij
      have HL := Lib.hid hL
      clear hij hL hp P2
      by_cases h1 : (i : Int) < (ds.length : Int)
      · by_cases h3 : (i : Int) < 300
        · have hi : i < ds.length := by omega
          have BW : Below w1.heap.size w1 wr := by obtain ⟨_, _, _, b⟩ := PL.out; rw [HM.out]; exact b
          have HW := Lib.hid (H1.out.below BW)
          clear BW
          obtain ⟨b, off, rfl, hbs, k0, k1, k2⟩ := HW.out.cell i hi
          have HI := Lib.hid h1
          have HI2 := Lib.hid h3
          generalize ds[i].c = C at *
          generalize ds[i].k = K at *
          generalize ds[i].x = S at *
          have DO := Lib.hid (PL.out.does (by rw [HM.out]; exact Nat.le_refl _) C K S h2 h64 (by have := HL.out; omega))
          go_wp2_with fail
          refine DO.out.mono ?_
          rintro e w4 ⟨rfl, L', hL', P4⟩
          have hL2 : L'.length ≤ i + 1 := by have := HL.out; omega
          have HL4 := Lib.hid hL2
          have PP4 := Lib.hid P4
          clear P4 DO hL' hL2 k0 k1 k2 PL
          go_wp2_with fail
          go_roundg (ds.length - i - 1)
          case measure => have := HIJ.out; have := HI.out; omega
          case rel => exact ⟨i + 1, L', by have := HIJ.out; have := HI.out; omega, by have := HI2.out; omega, by simp, HL4.out, PP4.out⟩
        · skip
          obtain ⟨wl, hwl⟩ : ∃ wl, wl = wr := ⟨_, rfl⟩
          subst hwl
          go_wp2_with fail
          have M : Hid (∀ W, Touch [] wl W → ∃ rp fp, TreeM T m W L rp fp) := Lib.hid (fun W hW => by obtain ⟨G, ⟨rp, fp, _, h, _⟩, _⟩ := PL.out.touch hW (by rw [HM.out]; exact Nat.le_refl _); exact ⟨rp, fp, h⟩)
          have FB : Hid (∀ W, Touch [] wl W → Below w.heap.size w W) := Lib.hid (fun W hW => by obtain ⟨_, _, _, b⟩ := PL.out.touch hW (by rw [HM.out]; exact Nat.le_refl _); rw [← HM.out] at b; exact B1.out.trans (b.mono B1.out.size))
          have RS : Hid (Rising L) := Lib.hid (by obtain ⟨_, ⟨_, _, _, h, _⟩, _⟩ := PL.out; exact h.rising)
          have LL : Hid (L.length ≤ 300) := Lib.hid (by have := HL.out; omega)
          go_loopg [9, 10] L.length (fun j s9 s10 wq => ∃ (q : Nat) (z : Int), q + j = L.length ∧ s10 = .int .i64 (q : Nat) ∧ s9 = .int .i64 z ∧ (∀ p, p + 1 = q → ∀ x, L[p]? = some x → z = x.1) ∧ Touch [] wl wq)
          case atStart => exact ⟨0, 0, by omega, rfl, rfl, fun p hp => by omega, Touch.refl _ _⟩
          case round =>
            obtain ⟨q, z, hq, rfl, rfl, hz, hT⟩ := hrel
            have TQ := Lib.hid hT
            have HQ := Lib.hid hq
            have HZ := Lib.hid hz
            clear hT hq hz
            obtain ⟨rp, fp, tm⟩ := M.out _ TQ.out
            have LEN := Lib.hid tm.len
            have OUT := Lib.hid (tm.at_out L.length (.inr (Int.le_refl _)))
            by_cases hq2 : q < L.length
            · have hq3 : (q : Int) < (L.length : Int) := by omega
              have hq9 : (q : Int) < 300 := by have := LL.out; omega
              have AT := Lib.hid (tm.at_in q L[q] (List.getElem?_eq_getElem hq2) (by have := LL.out; omega))
              have PF := Lib.hid (place_facts RS.out q hq2)
              have GET : Hid (∀ W, Touch [] wl W → Calls Try.prog 14 #[.pointer (some ⟨m, 0, none⟩), .int .i64 L[q].1] W fun e w' => e = .returned (.tuple #[.string L[q].2, .bool true]) ∧ Touch [] W w') := Lib.hid (fun W hW => by
                obtain ⟨_, _, tm2⟩ := M.out W hW
                refine (tm2.get L[q].1 (by have := LL.out; omega)).mono ?_
                rintro e w' ⟨rfl, b⟩
                exact ⟨by rw [PF.out.2], Touch.of_below b []⟩)
              have RANK : Hid (∀ W, Touch [] wl W → Calls Try.prog 15 #[.pointer (some ⟨m, 0, none⟩), .int .i64 L[q].1] W fun e w' => e = .returned (.int .i64 (q : Nat)) ∧ Touch [] W w') := Lib.hid (fun W hW => by
                obtain ⟨_, _, tm2⟩ := M.out W hW
                refine (tm2.rank L[q].1 (by have := LL.out; omega)).mono ?_
                rintro e w' ⟨rfl, b⟩
                exact ⟨by rw [PF.out.1], Touch.of_below b []⟩)
              have NEXT : Hid (∀ p, p + 1 = q + 1 → ∀ x, L[p]? = some x → L[q].1 = x.1) := Lib.hid (fun p hp x hx => by
                have : p = q := by omega
                subst this
                rw [List.getElem?_eq_getElem hq2] at hx
                cases hx; rfl)
              have LAST : (q : Int) > 0 → z < L[q].1 := fun h0 => by
                obtain ⟨p, rfl⟩ : ∃ p, q = p + 1 := ⟨q - 1, by omega⟩
                have := HZ.out p rfl L[p] (List.getElem?_eq_getElem (by omega))
                have h5 := rise_step RS.out p hq2
                omega
              clear tm OUT
              generalize L[q].1 = X at *
              generalize L[q].2 = S at *
              go_wp2_with fail
              refine LEN.out.mono ?_
              rintro e wx ⟨rfl, rfl⟩
              go_wp2_with fail
              refine AT.out.mono ?_
              rintro e wa ⟨rfl, ba⟩
              have TA := Lib.hid (TQ.out.trans (Touch.of_below ba []) (by simp))
              clear ba AT LEN
              go_wp2_with fail
              refine (GET.out _ TA.out).mono ?_
              rintro e wb ⟨rfl, tb⟩
              have TB := Lib.hid (TA.out.trans tb (by simp))
              clear tb
              by_cases hq0 : (q : Int) > 0
              · have lz := LAST hq0
                have lz2 : ¬ X ≤ z := by omega
                clear LAST
                go_wp2_with fail
                refine (RANK.out _ TB.out).mono ?_
                rintro e wc ⟨rfl, tc⟩
                have TC := Lib.hid (TB.out.trans tc (by simp))
                clear tc
                go_wp2_with fail
                go_roundg (L.length - q - 1)
                case measure => have := HQ.out; omega
                case rel => exact ⟨q + 1, X, by omega, by go_num, rfl, NEXT.out, TC.out⟩
              · clear LAST
                go_wp2_with fail
                refine (RANK.out _ TB.out).mono ?_
                rintro e wc ⟨rfl, tc⟩
                have TC := Lib.hid (TB.out.trans tc (by simp))
                clear tc
                go_wp2_with fail
                go_roundg (L.length - q - 1)
                case measure => have := HQ.out; omega
                case rel => exact ⟨q + 1, X, by omega, by go_num, rfl, NEXT.out, TC.out⟩
            · have hq3 : ¬ (q : Int) < (L.length : Int) := by omega
              clear tm
              go_wp2_with fail
              refine LEN.out.mono ?_
              rintro e wx ⟨rfl, rfl⟩
              go_wp2_with fail
              refine LEN.out.mono ?_
              rintro e wx ⟨rfl, rfl⟩
              go_wp2_with fail
              refine OUT.out.mono ?_
              rintro e wx ⟨rfl, rfl⟩
              go_wp2_with fail
              go_ret
              exact ⟨rfl, FB.out _ TQ.out⟩
      · skip
        obtain ⟨wl, hwl⟩ : ∃ wl, wl = wr := ⟨_, rfl⟩
        subst hwl
        go_wp2_with fail
        have M : Hid (∀ W, Touch [] wl W → ∃ rp fp, TreeM T m W L rp fp) := Lib.hid (fun W hW => by obtain ⟨G, ⟨rp, fp, _, h, _⟩, _⟩ := PL.out.touch hW (by rw [HM.out]; exact Nat.le_refl _); exact ⟨rp, fp, h⟩)
        have FB : Hid (∀ W, Touch [] wl W → Below w.heap.size w W) := Lib.hid (fun W hW => by obtain ⟨_, _, _, b⟩ := PL.out.touch hW (by rw [HM.out]; exact Nat.le_refl _); rw [← HM.out] at b; exact B1.out.trans (b.mono B1.out.size))
        have RS : Hid (Rising L) := Lib.hid (by obtain ⟨_, ⟨_, _, _, h, _⟩, _⟩ := PL.out; exact h.rising)
        have LL : Hid (L.length ≤ 300) := Lib.hid (by have := HL.out; omega)
        go_loopg [9, 10] L.length (fun j s9 s10 wq => ∃ (q : Nat) (z : Int), q + j = L.length ∧ s10 = .int .i64 (q : Nat) ∧ s9 = .int .i64 z ∧ (∀ p, p + 1 = q → ∀ x, L[p]? = some x → z = x.1) ∧ Touch [] wl wq)
        case atStart => exact ⟨0, 0, by omega, rfl, rfl, fun p hp => by omega, Touch.refl _ _⟩
        case round =>
          obtain ⟨q, z, hq, rfl, rfl, hz, hT⟩ := hrel
          have TQ := Lib.hid hT
          have HQ := Lib.hid hq
          have HZ := Lib.hid hz
          clear hT hq hz
          obtain ⟨rp, fp, tm⟩ := M.out _ TQ.out
          have LEN := Lib.hid tm.len
          have OUT := Lib.hid (tm.at_out L.length (.inr (Int.le_refl _)))
          by_cases hq2 : q < L.length
          · have hq3 : (q : Int) < (L.length : Int) := by omega
            have hq9 : (q : Int) < 300 := by have := LL.out; omega
            have AT := Lib.hid (tm.at_in q L[q] (List.getElem?_eq_getElem hq2) (by have := LL.out; omega))
            have PF := Lib.hid (place_facts RS.out q hq2)
            have GET : Hid (∀ W, Touch [] wl W → Calls Try.prog 14 #[.pointer (some ⟨m, 0, none⟩), .int .i64 L[q].1] W fun e w' => e = .returned (.tuple #[.string L[q].2, .bool true]) ∧ Touch [] W w') := Lib.hid (fun W hW => by
              obtain ⟨_, _, tm2⟩ := M.out W hW
              refine (tm2.get L[q].1 (by have := LL.out; omega)).mono ?_
              rintro e w' ⟨rfl, b⟩
              exact ⟨by rw [PF.out.2], Touch.of_below b []⟩)
            have RANK : Hid (∀ W, Touch [] wl W → Calls Try.prog 15 #[.pointer (some ⟨m, 0, none⟩), .int .i64 L[q].1] W fun e w' => e = .returned (.int .i64 (q : Nat)) ∧ Touch [] W w') := Lib.hid (fun W hW => by
              obtain ⟨_, _, tm2⟩ := M.out W hW
              refine (tm2.rank L[q].1 (by have := LL.out; omega)).mono ?_
              rintro e w' ⟨rfl, b⟩
              exact ⟨by rw [PF.out.1], Touch.of_below b []⟩)
            have NEXT : Hid (∀ p, p + 1 = q + 1 → ∀ x, L[p]? = some x → L[q].1 = x.1) := Lib.hid (fun p hp x hx => by
              have : p = q := by omega
              subst this
              rw [List.getElem?_eq_getElem hq2] at hx
              cases hx; rfl)
            have LAST : (q : Int) > 0 → z < L[q].1 := fun h0 => by
              obtain ⟨p, rfl⟩ : ∃ p, q = p + 1 := ⟨q - 1, by omega⟩
              have := HZ.out p rfl L[p] (List.getElem?_eq_getElem (by omega))
              have h5 := rise_step RS.out p hq2
              omega
            clear tm OUT
            generalize L[q].1 = X at *
            generalize L[q].2 = S at *
            go_wp2_with fail
            refine LEN.out.mono ?_
            rintro e wx ⟨rfl, rfl⟩
            go_wp2_with fail
            refine AT.out.mono ?_
            rintro e wa ⟨rfl, ba⟩
            have TA := Lib.hid (TQ.out.trans (Touch.of_below ba []) (by simp))
            clear ba AT LEN
            go_wp2_with fail
            refine (GET.out _ TA.out).mono ?_
            rintro e wb ⟨rfl, tb⟩
            have TB := Lib.hid (TA.out.trans tb (by simp))
            clear tb
            by_cases hq0 : (q : Int) > 0
            · have lz := LAST hq0
              have lz2 : ¬ X ≤ z := by omega
              clear LAST
              go_wp2_with fail
              refine (RANK.out _ TB.out).mono ?_
              rintro e wc ⟨rfl, tc⟩
              have TC := Lib.hid (TB.out.trans tc (by simp))
              clear tc
              go_wp2_with fail
              go_roundg (L.length - q - 1)
              case measure => have := HQ.out; omega
              case rel => exact ⟨q + 1, X, by omega, by go_num, rfl, NEXT.out, TC.out⟩
            · clear LAST
              go_wp2_with fail
              refine (RANK.out _ TB.out).mono ?_
              rintro e wc ⟨rfl, tc⟩
              have TC := Lib.hid (TB.out.trans tc (by simp))
              clear tc
              go_wp2_with fail
              go_roundg (L.length - q - 1)
              case measure => have := HQ.out; omega
              case rel => exact ⟨q + 1, X, by omega, by go_num, rfl, NEXT.out, TC.out⟩
          · have hq3 : ¬ (q : Int) < (L.length : Int) := by omega
            clear tm
            go_wp2_with fail
            refine LEN.out.mono ?_
            rintro e wx ⟨rfl, rfl⟩
            go_wp2_with fail
            refine LEN.out.mono ?_
            rintro e wx ⟨rfl, rfl⟩
            go_wp2_with fail
            refine OUT.out.mono ?_
            rintro e wx ⟨rfl, rfl⟩
            go_wp2_with fail
            go_ret
            exact ⟨rfl, FB.out _ TQ.out⟩
end Go.Proofs.Ytcboakmfabdeoaa
