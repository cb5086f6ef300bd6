/- The binary search in a row of pairs. -/
import Derived.Test.YtcboakmfabdeoaaW1
import Derived.Lib.Hide
namespace Go.Proofs.Ytcboakmfabdeoaa
open Go.RowKit

/-- A row of pairs lies in block b from its beginning. -/
def RowP (w : World) (b : Nat) (l : List (Int × ByteArray)) : Prop :=
  ∀ j, j < l.length → w.cell? ⟨b, j * 2, none⟩ = some (.int .i64 (l[j]?.getD (0, ByteArray.empty)).1) ∧ w.cell? ⟨b, j * 2 + 1, none⟩ = some (.string (l[j]?.getD (0, ByteArray.empty)).2)

def Rising (l : List (Int × ByteArray)) : Prop := l.Pairwise (fun p q => p.1 < q.1)

def key (l : List (Int × ByteArray)) (j : Nat) : Int := (l[j]?.getD (0, ByteArray.empty)).1

/-- where k stands, or would stand. -/
def pos (l : List (Int × ByteArray)) (k : Int) : Nat := l.countP fun p => decide (p.1 < k)
def hasB (l : List (Int × ByteArray)) (k : Int) : Bool := l.any fun p => p.1 == k

theorem RowP.below {w w' : World} {b : Nat} {l : List (Int × ByteArray)} (hb : Below w.heap.size w w') (hlt : b < w.heap.size) (h : RowP w b l) : RowP w' b l := fun j hj =>
  ⟨(hb.cell (p := ⟨b, j * 2, none⟩) hlt).trans (h j hj).1, (hb.cell (p := ⟨b, j * 2 + 1, none⟩) hlt).trans (h j hj).2⟩

theorem key_mono {l : List (Int × ByteArray)} (hs : Rising l) (i j : Nat) (hij : i < j) (hj : j < l.length) : key l i < key l j := by
  have := List.pairwise_iff_getElem.1 hs i j (by omega) hj hij
  simpa [key, List.getElem?_eq_getElem (show i < l.length by omega), List.getElem?_eq_getElem hj] using this

theorem key_lt {l : List (Int × ByteArray)} (hs : Rising l) (m : Nat) (k : Int) (h : key l m < k) (hm : m < l.length) : ∀ t, t < m + 1 → key l t < k := fun t ht => by
  by_cases e : t = m
  · subst e; exact h
  · have := key_mono hs t m (by omega) hm; omega

theorem key_ge {l : List (Int × ByteArray)} (hs : Rising l) (m : Nat) (k : Int) (h : k ≤ key l m) : ∀ t, m ≤ t → t < l.length → k ≤ key l t := fun t ht htl => by
  by_cases e : t = m
  · subst e; exact h
  · have := key_mono hs m t (by omega) htl; omega

theorem pos_eq {l : List (Int × ByteArray)} (hs : Rising l) (i : Nat) (k : Int) (hi : i ≤ l.length) (h1 : ∀ t, t < i → key l t < k) (h2 : ∀ t, i ≤ t → t < l.length → k ≤ key l t) : pos l k = i := by
  unfold pos
  induction l generalizing i with
  | nil => simp at hi; simp [hi]
  | cons a r ih =>
    have hsr : Rising r := (List.pairwise_cons.1 hs).2
    cases i with
    | zero =>
      rw [List.countP_eq_zero]
      intro x hx
      obtain ⟨t, ht, rfl⟩ := List.getElem_of_mem hx
      have := h2 t (Nat.zero_le _) ht
      simp only [key, List.getElem?_eq_getElem ht, Option.getD_some] at this
      simp; omega
    | succ i =>
      have ha : a.1 < k := by simpa [key] using h1 0 (by omega)
      rw [List.countP_cons_of_pos (by simpa using ha)]
      rw [ih hsr i (by simpa using hi) (fun t ht => by simpa [key] using h1 (t + 1) (by omega)) (fun t h3 h4 => by simpa [key] using h2 (t + 1) (by omega) (by simpa using h4))]

theorem has_eq {l : List (Int × ByteArray)} (hs : Rising l) (i : Nat) (k : Int) (hi : i < l.length) (h1 : ∀ t, t < i → key l t < k) (h2 : k ≤ key l i) : hasB l k = decide (key l i = k) := by
  have hg : key l i = l[i].1 := by simp [key, List.getElem?_eq_getElem hi]
  by_cases h : key l i = k
  · rw [decide_eq_true h]
    unfold hasB
    rw [List.any_eq_true]
    exact ⟨l[i], List.getElem_mem hi, by rw [← hg]; simpa using h⟩
  · rw [decide_eq_false h]
    unfold hasB
    rw [List.any_eq_false]
    intro x hx
    obtain ⟨t, ht, rfl⟩ := List.getElem_of_mem hx
    have hgt : key l t = l[t].1 := by simp [key, List.getElem?_eq_getElem ht]
    rw [← hgt]
    by_cases c : t < i
    · have := h1 t c; simp; omega
    · by_cases c2 : t = i
      · subst c2; simpa using h
      · have := key_mono hs i t (by omega) ht; simp; omega

theorem has_none {l : List (Int × ByteArray)} (k : Int) (h1 : ∀ t, t < l.length → key l t < k) : hasB l k = false := by
  unfold hasB
  rw [List.any_eq_false]
  intro x hx
  obtain ⟨t, ht, rfl⟩ := List.getElem_of_mem hx
  have := h1 t ht
  simp only [key, List.getElem?_eq_getElem ht, Option.getD_some] at this
  simp; omega

theorem ret_pair {k : IntKind} {a b : Int} {p q : Bool} (h : a = b) (h2 : p = q) : Ending.returned (.tuple #[.int k a, .bool p]) = .returned (.tuple #[.int k b, .bool q]) := by rw [h, h2]

set_option maxHeartbeats 400000 in
theorem bsearch_some (b n cap : Nat) (l : List (Int × ByteArray)) (k : Int) (w : World) (hl : l.length = n) (hn : n ≤ 1000000) (hb : b < w.heap.size) (hr : RowP w b l) (hs : Rising l) :
    Calls Try.prog 56 #[.slice (some ⟨b, 0, none⟩) n cap, .int .i64 k, .func (.func 57) #[] #[]] w fun e w' => e = .returned (.tuple #[.int .i64 (pos l k), .bool (hasB l k)]) ∧ Below w.heap.size w w' := by
  go_enter Try.func56, Try.ntmps56
  go_wp2
  go_loopw [9, 10] (fun s9 s10 wr => ∃ lo hi : Nat, s9 = .int .i64 lo ∧ s10 = .int .i64 hi ∧ lo ≤ hi ∧ hi ≤ n ∧ Hid (∀ t, t < lo → key l t < k) ∧ Hid (∀ t, hi ≤ t → t < n → k ≤ key l t) ∧ Hid (Below w.heap.size w wr))
     (fun s9 s10 wr => (intOf s10).toNat - (intOf s9).toNat)
  case atStart => exact ⟨0, n, rfl, rfl, Nat.zero_le _, Nat.le_refl _, fun t ht => by omega, fun t h1 h2 => by omega, Below.refl _ _⟩
  case round =>
    obtain ⟨lo, hi, rfl, rfl, hlh, hin, H1, H2, HB⟩ := hrel
    have HR := Lib.hid hr
    have HS := Lib.hid hs
    have HL := Lib.hid hl
    clear hr hs hl
    by_cases hlt : lo < hi
    · obtain ⟨c1, c2⟩ := RowP.below HB.out hb HR.out ((lo + hi) / 2) (by rw [HL.out]; omega)
      have hkk : key l ((lo + hi) / 2) = (l[(lo + hi) / 2]?.getD (0, ByteArray.empty)).1 := rfl
      generalize (l[(lo + hi) / 2]?.getD (0, ByteArray.empty)).2 = ss at c2
      rw [← hkk] at c1
      clear hkk
      have e1 := fun (h : key l ((lo + hi) / 2) < k) t (ht : t < (lo + hi) / 2 + 1) => key_lt HS.out ((lo + hi) / 2) k h (by rw [HL.out]; omega) t ht
      have e2 := fun (h : k ≤ key l ((lo + hi) / 2)) t (ht : (lo + hi) / 2 ≤ t) (htn : t < n) => key_ge HS.out ((lo + hi) / 2) k h t ht (by rw [HL.out]; omega)
      have E1 := Lib.hid e1
      have E2 := Lib.hid e2
      clear e1 e2
      generalize key l ((lo + hi) / 2) = kk at c1 E1 E2
      by_cases hk : kk < k
      · have hd : decide (cmp3 kk k < 0) = true := by unfold cmp3; rw [if_pos hk]; rfl
        go_wp2_with (go_at_call 57; refine (place1_any _ _ _ _).mono ?_; rintro e w' ⟨rfl, rfl⟩)
        go_roundw
        case rel => exact ⟨(lo + hi) / 2 + 1, hi, by go_num, rfl, by omega, by omega, fun t ht => E1.out hk t ht, H2, HB.out.alloc (HB.out.size) _⟩
        case measure => simp [intOf]; omega
      · have hd : decide (cmp3 kk k < 0) = false := by unfold cmp3; rw [if_neg hk]; split <;> rfl
        go_wp2_with (go_at_call 57; refine (place1_any _ _ _ _).mono ?_; rintro e w' ⟨rfl, rfl⟩)
        go_roundw
        case rel => exact ⟨lo, (lo + hi) / 2, rfl, by go_num, by omega, by omega, H1, fun t ht htn => E2.out (by omega) t ht htn, HB.out.alloc (HB.out.size) _⟩
        case measure => simp [intOf]; omega
    · have hlo : lo = hi := by omega
      subst hlo
      have hp : pos l k = lo := pos_eq HS.out lo k (by rw [HL.out]; exact hin) H1.out (fun t a b => H2.out t a (by rw [← HL.out]; exact b))
      have HP := Lib.hid hp
      clear hp
      by_cases hln : lo < n
      · obtain ⟨c1, c2⟩ := RowP.below HB.out hb HR.out lo (by rw [HL.out]; exact hln)
        have hkk : key l lo = (l[lo]?.getD (0, ByteArray.empty)).1 := rfl
        generalize (l[lo]?.getD (0, ByteArray.empty)).2 = ss at c2
        rw [← hkk] at c1
        clear hkk
        have hh : hasB l k = decide (key l lo = k) := has_eq HS.out lo k (by rw [HL.out]; exact hln) H1.out (H2.out lo (Nat.le_refl _) hln)
        have HH := Lib.hid hh
        clear hh
        generalize key l lo = kk at c1 HH
        by_cases hk : kk = k
        · have hd : (cmp3 kk k == 0) = true := by unfold cmp3; simp [hk]
          go_wp2_with (go_at_call 57; refine (place1_any _ _ _ _).mono ?_; rintro e w' ⟨rfl, rfl⟩)
          go_ret2
          exact ⟨ret_pair (by rw [HP.out]) (by rw [HH.out]; subst hk; simp [cmp3]), HB.out.alloc (HB.out.size) _⟩
        · have hd : (cmp3 kk k == 0) = false := by unfold cmp3; split <;> (try split) <;> first | rfl | omega
          go_wp2_with (go_at_call 57; refine (place1_any _ _ _ _).mono ?_; rintro e w' ⟨rfl, rfl⟩)
          go_ret2
          exact ⟨ret_pair (by rw [HP.out]) (by rw [HH.out]; simp [hk]), HB.out.alloc (HB.out.size) _⟩
      · have hh : hasB l k = false := has_none k (fun t ht => H1.out t (by have := HL.out; omega))
        have HH := Lib.hid hh
        clear hh
        go_wp2_with fail
        go_ret2
        exact ⟨ret_pair (by rw [HP.out]) HH.out.symm, HB.out⟩

set_option maxHeartbeats 400000 in
theorem bsearch_none (a : Option Addr) (cap : Nat) (k : Int) (w : World) :
    Calls Try.prog 56 #[.slice a 0 cap, .int .i64 k, .func (.func 57) #[] #[]] w fun e w' => e = .returned (.tuple #[.int .i64 0, .bool false]) ∧ Below w.heap.size w w' := by
  go_enter Try.func56, Try.ntmps56
  go_wp2
  go_loopw [9, 10] (fun s9 s10 wr => s9 = .int .i64 0 ∧ s10 = .int .i64 0 ∧ wr = w) (fun _ _ _ => 0)
  case atStart => exact ⟨rfl, rfl, rfl⟩
  case round =>
    obtain ⟨rfl, rfl, rfl⟩ := hrel
    go_wp2_with fail
    go_ret2
    exact ⟨rfl, Below.refl _ _⟩
end Go.Proofs.Ytcboakmfabdeoaa
