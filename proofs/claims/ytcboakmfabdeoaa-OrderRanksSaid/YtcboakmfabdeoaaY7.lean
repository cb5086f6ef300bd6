/- fill: what it leaves behind. -/
import Derived.Test.YtcboakmfabdeoaaY6
namespace Go.Proofs.Ytcboakmfabdeoaa
open Go.RowKit

/-- kid j has a pair to spare, all keys stand as they stood. -/
def Filled (t h : Nat) (w : World) (p : Nat) (vp vk : Value) (sz : Nat) (P1 P2 : List Pr) (K1 K2 : List Kid) (z : Kid) (j : Nat) (W : World) : Prop :=
  ∃ vp' vk' Q1 Q2 J1 J2 u, Inn t h W p vp' vk' sz (Q1 ++ Q2) (J1 ++ u :: J2) ∧ Stepped w W (ifp p vp vk (K1 ++ z :: K2)) (ifp p vp' vk' (J1 ++ u :: J2)) ∧ J1.length = j ∧ Q1.length = j ∧ t ≤ u.c ∧ (P1 ++ P2).length ≤ (Q1 ++ Q2).length + 1 ∧
    joinL (J1.map Kid.l) Q1 ++ u.l ++ joinR Q2 (J2.map Kid.l) = joinL (K1.map Kid.l) P1 ++ z.l ++ joinR P2 (K2.map Kid.l) ∧
    (∀ q ∈ joinL (J1.map Kid.l) Q1, q ∈ joinL (K1.map Kid.l) P1) ∧ (∀ q ∈ joinR Q2 (J2.map Kid.l), q ∈ joinR P2 (K2.map Kid.l))

theorem filled_same {t h : Nat} {w W : World} {p : Nat} {vp vk : Value} {sz : Nat} {P1 P2 : List Pr} {K1 K2 : List Kid} {z : Kid} {i : Nat} (I : Inn t h w p vp vk sz (P1 ++ P2) (K1 ++ z :: K2)) (h1 : P1.length = i) (h2 : K1.length = i) (hz : t ≤ z.c) (T : Touch [] w W) :
    Filled t h w p vp vk sz P1 P2 K1 K2 z i W :=
  ⟨vp, vk, P1, P2, K1, K2, z, ⟨I.r.touch T (by simp), I.pr.touch T (by simp), I.kr.touch T (by simp), I.len, fun v hv => ⟨(I.hz v hv).1.touch T (by simp), (I.hz v hv).2⟩, I.nd⟩, ⟨T.mono (by simp), fun b hb => .inl hb⟩, h2, h1, hz, by omega, rfl, fun _ h => h, fun _ h => h⟩

/-- from w to W nothing has happened. -/
theorem Filled.from {t h : Nat} {w w1 W : World} {p : Nat} {vp vk : Value} {sz : Nat} {P1 P2 : List Pr} {K1 K2 : List Kid} {z : Kid} {j : Nat} (T : Touch [] w w1) (F : Filled t h w1 p vp vk sz P1 P2 K1 K2 z j W) : Filled t h w p vp vk sz P1 P2 K1 K2 z j W := by
  obtain ⟨vp', vk', Q1, Q2, J1, J2, u, a, b, c⟩ := F
  exact ⟨vp', vk', Q1, Q2, J1, J2, u, a, ⟨(T.mono (by simp)).trans b.touch (fun x hx => .inl hx), fun x hx => (b.own x hx).imp id (fun e => Nat.le_trans T.size e)⟩, c⟩

theorem filled_up {t h : Nat} {w W : World} {p : Nat} {vp vk : Value} {sz : Nat} {P1 P2 : List Pr} {K1 K2 : List Kid} {a z : Kid} {m : Pr} {i : Nat} (S : Shifted t h w p vp vk sz P1 P2 K1 K2 a z m true W) (h1 : P1.length + 1 = i) (h2 : K1.length + 1 = i) (hz : t - 1 ≤ z.c) (ht : 2 ≤ t) :
    Filled t h w p vp vk sz (P1 ++ [m]) P2 (K1 ++ [a]) K2 z i W := by
  obtain ⟨vp', vk', a', b', q, cs, I, St, hu, _⟩ := S
  obtain ⟨e1, e2, e3⟩ := hu rfl
  have hl : (K1.map Kid.l).length = P1.length := by simp; omega
  refine ⟨vp', vk', P1 ++ [q], P2, K1 ++ [a'], K2, b', by simpa using I, by simpa using St, by simp; omega, by simp; omega, by omega, by simp, ?_, ?_, fun _ h => h⟩
  · simp only [List.map_append, List.map_cons, List.map_nil]
    rw [joinL_snoc _ _ _ _ hl, joinL_snoc _ _ _ _ hl, e1, e2]
    simp
  · simp only [List.map_append, List.map_cons, List.map_nil]
    rw [joinL_snoc _ _ _ _ hl, joinL_snoc _ _ _ _ hl, e1]
    intro x hx
    simp only [List.mem_append, List.mem_singleton, List.mem_cons] at hx ⊢
    rcases hx with (hx | hx) | hx
    · exact .inl (.inl hx)
    · exact .inl (.inr (.inl hx))
    · exact .inl (.inr (.inr (.inl (by simpa using hx))))

theorem filled_down {t h : Nat} {w W : World} {p : Nat} {vp vk : Value} {sz : Nat} {P1 P2 : List Pr} {K1 K2 : List Kid} {z b : Kid} {m : Pr} {i : Nat} (S : Shifted t h w p vp vk sz P1 P2 K1 K2 z b m false W) (h1 : P1.length = i) (h2 : K1.length = i) (hz : t - 1 ≤ z.c) (ht : 2 ≤ t) :
    Filled t h w p vp vk sz P1 (m :: P2) K1 (b :: K2) z i W := by
  obtain ⟨vp', vk', a', b', q, cs, I, St, _, hu⟩ := S
  obtain ⟨e1, e2, e3⟩ := hu rfl
  refine ⟨vp', vk', P1, q :: P2, K1, b' :: K2, a', I, St, h2, h1, by omega, by simp, ?_, fun _ h => h, ?_⟩
  · simp only [List.map_cons, joinR]
    rw [e1, e2]
    simp
  · simp only [List.map_cons, joinR]
    rw [e2]
    intro x hx
    simp only [List.mem_append, List.mem_cons, List.cons_append, List.append_assoc] at hx ⊢
    rcases hx with hx | hx | hx
    · exact .inr (.inr (.inl hx))
    · exact .inr (.inr (.inr (.inl hx)))
    · exact .inr (.inr (.inr (.inr hx)))

theorem filled_left {t h : Nat} {w W : World} {p : Nat} {vp vk : Value} {sz : Nat} {P1 P2 : List Pr} {K1 K2 : List Kid} {a z : Kid} {m : Pr} {i : Nat} (S : MergedI t h w p vp vk sz P1 P2 K1 K2 a z m W) (h1 : P1.length = i) (h2 : K1.length = i) (ha : t - 1 ≤ a.c) (hz : t - 1 ≤ z.c) (ht : 2 ≤ t) :
    Filled t h w p vp vk sz (P1 ++ [m]) P2 (K1 ++ [a]) K2 z i W := by
  obtain ⟨vp', vk', y, I, St, e1, e2⟩ := S
  have hl : (K1.map Kid.l).length = P1.length := by simp; omega
  refine ⟨vp', vk', P1, P2, K1, K2, y, I, by simpa using St, h2, h1, by omega, by simp; omega, ?_, ?_, fun _ h => h⟩
  · simp only [List.map_append, List.map_cons, List.map_nil]
    rw [joinL_snoc _ _ _ _ hl, e1]
    simp
  · simp only [List.map_append, List.map_cons, List.map_nil]
    rw [joinL_snoc _ _ _ _ hl]
    intro x hx
    simp [hx]

theorem filled_right {t h : Nat} {w W : World} {p : Nat} {vp vk : Value} {sz : Nat} {P1 P2 : List Pr} {K1 K2 : List Kid} {z b : Kid} {m : Pr} {i : Nat} (S : MergedI t h w p vp vk sz P1 P2 K1 K2 z b m W) (h1 : P1.length = i) (h2 : K1.length = i) (hb : t - 1 ≤ b.c) (hz : t - 1 ≤ z.c) (ht : 2 ≤ t) :
    Filled t h w p vp vk sz P1 (m :: P2) K1 (b :: K2) z i W := by
  obtain ⟨vp', vk', y, I, St, e1, e2⟩ := S
  refine ⟨vp', vk', P1, P2, K1, K2, y, I, St, h2, h1, by omega, by simp; omega, ?_, fun _ h => h, ?_⟩
  · simp only [List.map_cons, joinR]
    rw [e1]
    simp
  · simp only [List.map_cons, joinR]
    intro x hx
    simp [hx]

/-- how many pairs a kid's node has, in memory. -/
theorem IsT.count {t : Nat} {w : World} {h : Nat} {x : Kid} (hx : IsT t w h x) : ∃ a c, w.cell? ⟨x.p, 0, none⟩ = some (.slice a x.c c) := by
  obtain ⟨n, e, g⟩ := hx.good
  subst e
  obtain ⟨a, c, hv⟩ := prow_slice g.ok.pr
  refine ⟨a, c, ?_⟩
  have := g.ok.r.c0
  rw [hv] at this
  rw [Nd.kid_p, Nd.kid_c]
  exact this

def FillPost (t h : Nat) (w : World) (p : Nat) (vp vk : Value) (sz : Nat) (P1 P2 : List Pr) (K1 K2 : List Kid) (z : Kid) (e : Ending) (W : World) : Prop :=
  ∃ j : Nat, e = .returned (.int .i64 j) ∧ Filled t h w p vp vk sz P1 P2 K1 K2 z j W

set_option maxHeartbeats 1000000 in
set_option maxRecDepth 100000 in
theorem fill_any {t h : Nat} {w : World} {p : Nat} {vp vk : Value} {sz : Nat} {P1 P2 : List Pr} {K1 K2 : List Kid} {z : Kid} (I : Inn t h w p vp vk sz (P1 ++ P2) (K1 ++ z :: K2)) (i : Nat) (h1 : P1.length = i) (h2 : K1.length = i) (h3 : 0 < (P1 ++ P2).length) (ht : 2 ≤ t) (ht2 : t ≤ 1000) (hn : (P1 ++ P2).length ≤ 400000) (hl : ∀ a ∈ K1 ++ z :: K2, ∀ b ∈ K1 ++ z :: K2, a.l.length + b.l.length ≤ 499999) (hzc : ∀ a ∈ K1 ++ z :: K2, a.c ≤ 400000) :
    Calls Try.prog 50 #[.pointer (some ⟨p, 0, none⟩), .int .i64 i, .int .i64 t] w fun e w' => FillPost t h w p vp vk sz P1 P2 K1 K2 z e w' := by
  have hlen := I.len
  obtain ⟨bk, ck, hvk⟩ := KRow.slice_of I.kr (by simp; omega)
  subst hvk
  have c1 := I.r.c1
  have kz := I.kr.cell i z (by rw [← h2]; simp)
  obtain ⟨az, cz, zc⟩ := (I.hz z (by simp)).1.count
  have hik : i < (K1 ++ z :: K2).length := by simp; omega
  have zcb := hzc z (by simp)
  have nkb : (K1 ++ z :: K2).length ≤ 400001 := by omega
  have HI := Lib.hid I
  have H1 := Lib.hid h1
  have H2 := Lib.hid h2
  have HL := Lib.hid hl
  have HZC := Lib.hid hzc
  have HLEN := Lib.hid hlen
  clear I h1 h2 hl hzc hlen
  generalize hnk : (K1 ++ z :: K2).length = nk at *
  have NK := Lib.hid hnk
  clear hnk
  by_cases hs : t ≤ z.c
  · have FIN := Lib.hid (filled_same HI.out H1.out H2.out hs (Touch.refl [] w))
    go_enter Try.func50, Try.ntmps50
    go_wp2_with fail
    refine (spare_yes z.p z.c cz t az _ zc (by omega) ht2 hs).mono ?_
    rintro e w' ⟨rfl, rfl⟩
    go_wp2_with fail
    go_ret
    exact ⟨i, rfl, FIN.out⟩
  · have hs2 : z.c < t := by omega
    have zc1 := (HI.out.hz z (by simp)).2
    by_cases hi : 0 < i
    · -- there is a left neighbour
      obtain ⟨K1', a, eK⟩ : ∃ K1' a, K1 = K1' ++ [a] := ⟨K1.dropLast, K1.getLast (by intro e; have := H2.out; rw [e] at this; simp at this; omega), (List.dropLast_concat_getLast _).symm⟩
      obtain ⟨P1', m, eP⟩ : ∃ P1' m, P1 = P1' ++ [m] := ⟨P1.dropLast, P1.getLast (by intro e; have := H1.out; rw [e] at this; simp at this; omega), (List.dropLast_concat_getLast _).symm⟩
      subst eK
      subst eP
      have hk' : K1'.length + 1 = i := by have := H2.out; simpa using this
      have hp' : P1'.length + 1 = i := by have := H1.out; simpa using this
      have hii : (i : Int) - 1 = ((K1'.length : Nat) : Int) := by omega
      have hii2 : K1'.length < nk := by omega
      have ka := HI.out.kr.cell K1'.length a (by simp)
      obtain ⟨aa, ca, ac⟩ := (HI.out.hz a (by simp)).1.count
      have acb := HZC.out a (by simp)
      have ac1 := (HI.out.hz a (by simp)).2
      have HI2 : Hid (Inn t h w p vp (.slice (some ⟨bk, 0, none⟩) nk ck) sz (P1' ++ m :: P2) (K1' ++ a :: z :: K2)) := Lib.hid (by simpa using HI.out)
      have hnn : (P1' ++ m :: P2).length ≤ 500000 := by have := hn; simp at this ⊢; omega
      have haz := HL.out a (by simp) z (by simp)
      have K'P : Hid (P1'.length = K1'.length) := Lib.hid (by omega)
      have KI : Hid (K1'.length + 1 = i) := Lib.hid hk'
      clear hk' hp'
      have MERGE : Hid (Calls Try.prog 52 #[.pointer (some ⟨p, 0, none⟩), .int .i64 (K1'.length : Nat)] w fun e w' => e = .returned (.tuple #[]) ∧ Filled t h w p vp (.slice (some ⟨bk, 0, none⟩) nk ck) sz (P1' ++ [m]) P2 (K1' ++ [a]) K2 z K1'.length w') :=
        Lib.hid ((HI2.out.merge K1'.length K'P.out rfl ht hnn (by omega)).mono fun e w' ⟨h1, h2⟩ => ⟨h1, filled_left h2 K'P.out rfl ac1 zc1 ht⟩)
      by_cases ha : t ≤ a.c
      · have UP : Hid (Calls Try.prog 66 #[.pointer (some ⟨p, 0, none⟩), .int .i64 (K1'.length : Nat)] w fun e w' => e = .returned (.tuple #[]) ∧ Filled t h w p vp (.slice (some ⟨bk, 0, none⟩) nk ck) sz (P1' ++ [m]) P2 (K1' ++ [a]) K2 z i w') :=
          Lib.hid ((HI2.out.shiftUp K1'.length K'P.out rfl ht ha hnn (by omega)).mono fun e w' ⟨h1, h2⟩ => ⟨h1, filled_up h2 (by rw [K'P.out]; exact KI.out) KI.out zc1 ht⟩)
        clear MERGE
        go_enter Try.func50, Try.ntmps50
        go_wp2_with fail
        refine (spare_no z.p z.c cz t az _ zc (by omega) ht2 hs2).mono ?_
        rintro e w' ⟨rfl, rfl⟩
        go_wp2_with fail
        refine (spare_yes a.p a.c ca t aa _ ac (by omega) ht2 ha).mono ?_
        rintro e w' ⟨rfl, rfl⟩
        go_wp2_with fail
        refine UP.out.mono ?_
        rintro e w' ⟨rfl, hf⟩
        have FIN := Lib.hid hf
        clear hf
        go_wp2_with fail
        go_ret
        exact ⟨i, rfl, FIN.out⟩
      · have ha2 : a.c < t := by omega
        cases K2 with
        | nil =>
          have hlast : (i : Int) + 1 = (nk : Int) := by have := NK.out; have := KI.out; simp at *; omega
          have HLAST := Lib.hid hlast
          have hlt : ¬ (i : Int) + 1 < (nk : Int) := by omega
          clear hlast
          go_enter Try.func50, Try.ntmps50
          go_wp2_with fail
          refine (spare_no z.p z.c cz t az _ zc (by omega) ht2 hs2).mono ?_
          rintro e w' ⟨rfl, rfl⟩
          go_wp2_with fail
          refine (spare_no a.p a.c ca t aa _ ac (by omega) ht2 ha2).mono ?_
          rintro e w' ⟨rfl, rfl⟩
          go_wp2_with fail
          refine MERGE.out.mono ?_
          rintro e w' ⟨rfl, hf⟩
          have FIN := Lib.hid hf
          clear hf
          go_wp2_with fail
          go_ret
          exact ⟨K1'.length, rfl, FIN.out⟩
        | cons b K2' =>
          obtain ⟨m2, P2', eP2⟩ : ∃ m2 P2', P2 = m2 :: P2' := by
            cases P2 with
            | nil => have := HI.out.len; have := KI.out; have := K'P.out; simp at *; omega
            | cons q r => exact ⟨q, r, rfl⟩
          subst eP2
          have b1 : w.cell? ⟨bk, i + 1, none⟩ = some (.pointer (some ⟨b.p, 0, none⟩)) := HI.out.kr.cell (i + 1) b (by rw [← H2.out, List.getElem?_append_right (by omega)]; simp)
          obtain ⟨ab, cb, bc⟩ := (HI.out.hz b (by simp)).1.count
          have bcb := HZC.out b (by simp)
          have bc1 := (HI.out.hz b (by simp)).2
          have hzb := HL.out z (by simp) b (by simp)
          have hik2 : i + 1 < nk := by rw [← NK.out]; have := KI.out; simp; omega
          have hik3 : (i : Int) + 1 < (nk : Int) := by omega
          by_cases hb : t ≤ b.c
          · have DOWN : Hid (Calls Try.prog 67 #[.pointer (some ⟨p, 0, none⟩), .int .i64 i] w fun e w' => e = .returned (.tuple #[]) ∧ Filled t h w p vp (.slice (some ⟨bk, 0, none⟩) nk ck) sz (P1' ++ [m]) (m2 :: P2') (K1' ++ [a]) (b :: K2') z i w') :=
              Lib.hid ((HI.out.shiftDown i H1.out H2.out ht hb (by omega) (by omega)).mono fun e w' ⟨h1, h2⟩ => ⟨h1, filled_down h2 H1.out H2.out zc1 ht⟩)
            clear MERGE
            go_enter Try.func50, Try.ntmps50
            go_wp2_with fail
            refine (spare_no z.p z.c cz t az _ zc (by omega) ht2 hs2).mono ?_
            rintro e w' ⟨rfl, rfl⟩
            go_wp2_with fail
            refine (spare_no a.p a.c ca t aa _ ac (by omega) ht2 ha2).mono ?_
            rintro e w' ⟨rfl, rfl⟩
            go_wp2_with fail
            refine (spare_yes b.p b.c cb t ab _ bc (by omega) ht2 hb).mono ?_
            rintro e w' ⟨rfl, rfl⟩
            go_wp2_with fail
            refine DOWN.out.mono ?_
            rintro e w' ⟨rfl, hf⟩
            have FIN := Lib.hid hf
            clear hf
            go_wp2_with fail
            go_ret
            exact ⟨i, rfl, FIN.out⟩
          · have hb2 : b.c < t := by omega
            go_enter Try.func50, Try.ntmps50
            go_wp2_with fail
            refine (spare_no z.p z.c cz t az _ zc (by omega) ht2 hs2).mono ?_
            rintro e w' ⟨rfl, rfl⟩
            go_wp2_with fail
            refine (spare_no a.p a.c ca t aa _ ac (by omega) ht2 ha2).mono ?_
            rintro e w' ⟨rfl, rfl⟩
            go_wp2_with fail
            refine (spare_no b.p b.c cb t ab _ bc (by omega) ht2 hb2).mono ?_
            rintro e w' ⟨rfl, rfl⟩
            go_wp2_with fail
            refine MERGE.out.mono ?_
            rintro e w' ⟨rfl, hf⟩
            have FIN := Lib.hid hf
            clear hf
            go_wp2_with fail
            go_ret
            exact ⟨K1'.length, rfl, FIN.out⟩
    · -- the first kid
      have i0 : i = 0 := by omega
      subst i0
      obtain rfl : K1 = [] := List.eq_nil_of_length_eq_zero H2.out
      obtain rfl : P1 = [] := List.eq_nil_of_length_eq_zero H1.out
      obtain ⟨m2, P2', eP2⟩ : ∃ m2 P2', P2 = m2 :: P2' := by
        cases P2 with
        | nil => simp at h3
        | cons q r => exact ⟨q, r, rfl⟩
      subst eP2
      obtain ⟨b, K2', eK2⟩ : ∃ b K2', K2 = b :: K2' := by
        cases K2 with
        | nil => have := HI.out.len; simp at this
        | cons q r => exact ⟨q, r, rfl⟩
      subst eK2
      have b1 : w.cell? ⟨bk, 1, none⟩ = some (.pointer (some ⟨b.p, 0, none⟩)) := HI.out.kr.cell 1 b (by simp)
      obtain ⟨ab, cb, bc⟩ := (HI.out.hz b (by simp)).1.count
      have bcb := HZC.out b (by simp)
      have bc1 := (HI.out.hz b (by simp)).2
      have hzb := HL.out z (by simp) b (by simp)
      have hik2 : 1 < nk := by rw [← NK.out]; simp
      have hik3 : (1 : Int) < (nk : Int) := by omega
      by_cases hb : t ≤ b.c
      · have DOWN : Hid (Calls Try.prog 67 #[.pointer (some ⟨p, 0, none⟩), .int .i64 0] w fun e w' => e = .returned (.tuple #[]) ∧ Filled t h w p vp (.slice (some ⟨bk, 0, none⟩) nk ck) sz [] (m2 :: P2') [] (b :: K2') z 0 w') :=
          Lib.hid ((HI.out.shiftDown 0 rfl rfl ht hb (by omega) (by omega)).mono fun e w' ⟨h1, h2⟩ => ⟨h1, filled_down h2 rfl rfl zc1 ht⟩)
        go_enter Try.func50, Try.ntmps50
        go_wp2_with fail
        refine (spare_no z.p z.c cz t az _ zc (by omega) ht2 hs2).mono ?_
        rintro e w' ⟨rfl, rfl⟩
        go_wp2_with fail
        refine (spare_yes b.p b.c cb t ab _ bc (by omega) ht2 hb).mono ?_
        rintro e w' ⟨rfl, rfl⟩
        go_wp2_with fail
        refine DOWN.out.mono ?_
        rintro e w' ⟨rfl, hf⟩
        have FIN := Lib.hid hf
        clear hf
        go_wp2_with fail
        go_ret
        exact ⟨0, rfl, FIN.out⟩
      · have hb2 : b.c < t := by omega
        have MERGE : Hid (Calls Try.prog 52 #[.pointer (some ⟨p, 0, none⟩), .int .i64 0] w fun e w' => e = .returned (.tuple #[]) ∧ Filled t h w p vp (.slice (some ⟨bk, 0, none⟩) nk ck) sz [] (m2 :: P2') [] (b :: K2') z 0 w') :=
          Lib.hid ((HI.out.merge 0 rfl rfl ht (by omega) (by omega)).mono fun e w' ⟨h1, h2⟩ => ⟨h1, filled_right h2 rfl rfl bc1 zc1 ht⟩)
        go_enter Try.func50, Try.ntmps50
        go_wp2_with fail
        refine (spare_no z.p z.c cz t az _ zc (by omega) ht2 hs2).mono ?_
        rintro e w' ⟨rfl, rfl⟩
        go_wp2_with fail
        refine (spare_no b.p b.c cb t ab _ bc (by omega) ht2 hb2).mono ?_
        rintro e w' ⟨rfl, rfl⟩
        go_wp2_with fail
        refine MERGE.out.mono ?_
        rintro e w' ⟨rfl, hf⟩
        have FIN := Lib.hid hf
        clear hf
        go_wp2_with fail
        go_ret
        exact ⟨0, rfl, FIN.out⟩
end Go.Proofs.Ytcboakmfabdeoaa
