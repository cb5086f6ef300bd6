import Derived.Test.YtlkkfnimealbkaaNS
/- Pages: the layer page, in a namespace of its own (made by mkpag.py out of PC1, PC2). -/
namespace Go.Proofs.Ytlkkfnimealbkaa.Pag
open Go.RowKit Go.Shelf Go.Proofs.Ytlkkfnimealbkaa
set_option linter.unusedVariables false
attribute [local go_sem] Oper.semAt_some
/- The reference's Room. -/
def strL (L : List (List UInt8)) : List ByteArray := L.map fun b => ⟨b.toArray⟩
theorem strL_len (L : List (List UInt8)) : (strL L).length = L.length := by simp [strL]
theorem strL_at (L : List (List UInt8)) (i : Nat) (h : i < (strL L).length) : (strL L)[i] = ⟨(L[i]'(by rw [strL_len] at h; exact h)).toArray⟩ := by simp [strL]
theorem bsize (b : List UInt8) : (⟨b.toArray⟩ : ByteArray).size = b.length := by
  show b.toArray.size = _
  simp
/-- the reference's slice of strings. -/
theorem _root_.Go.Proofs.Ytlkkfnimealbkaa.Strs.one {w : World} {A : Option Addr} {L : List (List UInt8)} (h : Strs w A (strL L)) (i : Nat) (hi : i < L.length) : ∃ g o, A = some ⟨g, o, none⟩ ∧ g < w.heap.size ∧ w.cell? ⟨g, o + i, none⟩ = some (.string ⟨L[i].toArray⟩) := by
  obtain ⟨g, o, h1, h2, h3⟩ := h i (by rw [strL_len]; exact hi)
  rw [strL_at] at h3
  exact ⟨g, o, h1, h2, h3⟩
set_option maxRecDepth 100000 in
set_option maxHeartbeats 1000000 in
theorem refRoom_any (A : Option Addr) (c : Nat) (L : List (List UInt8)) (size : Nat) (w : World) (h : Strs w A (strL L)) (hs : size ≤ 1024) (hl : L.length ≤ 1000) (hu : used L ≤ 1000000) :
    Calls Try.prog 26 #[.slice A L.length c, .int .i64 (size : Nat)] w fun e w' => e = .returned (.int .i64 ((size : Int) - 1 - 4 * (L.length : Int) - (used L : Nat))) ∧ w = w' := by
  have H := Lib.hid h
  have hsi : (size : Int) ≤ 1024 := by omega
  have hli : (L.length : Int) ≤ 1000 := by omega
  clear h
  go_enter Try.func26, Try.ntmps26
  go_wp2_with fail
  go_loopg [5, 6] (L.length + 1) (fun j s5 s6 wr => ∃ i : Nat, i ≤ L.length ∧ L.length < i + j ∧ s6 = .int .i64 (i : Nat) ∧ s5 = .int .i64 ((size : Int) - 1 - 4 * (i : Int) - (used (L.take i) : Nat)) ∧ wr = w)
  case atStart => exact ⟨0, by omega, by omega, rfl, by simp [used], rfl⟩
  case round =>
    obtain ⟨i, hi, hj, rfl, rfl, rfl⟩ := hrel
    by_cases hlt : i < L.length
    · have hlti : (i : Int) < (L.length : Int) := by omega
      obtain ⟨g, o, rfl, hg, hc⟩ := H.out.one i hlt
      have hus := Lib.hid (used_take_succ L i hlt)
      have hu2 := used_at L i hlt
      have hsz := bsize L[i]
      generalize L[i] = b at *
      have hszi : (((⟨b.toArray⟩ : ByteArray).size : Nat) : Int) = (b.length : Nat) := by rw [hsz]
      have hbl : (b.length : Int) ≤ 1000000 := by omega
      have hul : ((used (L.take i) : Nat) : Int) ≤ 1000000 := by omega
      generalize used (L.take i) = u at *
      clear hsz
      go_wp2_with fail
      go_roundg (L.length - i)
      case measure => omega
      case rel => exact ⟨i + 1, by omega, by omega, rfl, by rw [hus.out, Int.natCast_add]; congr 1; omega, rfl⟩
    · have hge : ¬ (i : Int) < (L.length : Int) := by omega
      have hin : i = L.length := by omega
      have hut : L.take i = L := List.take_of_length_le (by omega)
      rw [hut]
      subst hin
      go_wp2_with fail
      go_ret
      exact ⟨rfl, rfl⟩
/- The reference's Bytes. -/
theorem run_index_str (l : List UInt8) (k : Nat) (z : Int) (hz : z = k) (hk : k < l.length) (W : World) : Sem.run Try.prog (Instr.index 9 (.string ⟨l.toArray⟩) (.int .i64 z)) W = .ok (.int .u8 (l[k].toNat : Nat)) W := by
  subst hz
  have h0 : (0 : Int) ≤ (k : Int) := by omega
  have h1 : (⟨l.toArray⟩ : ByteArray)[k]? = some l[k] := by
    show (if h : k < (⟨l.toArray⟩ : ByteArray).size then some ((⟨l.toArray⟩ : ByteArray)[k]) else none) = _
    have hs : k < (⟨l.toArray⟩ : ByteArray).size := by show k < l.toArray.size; simpa using hk
    rw [dif_pos hs]
    rfl
  simp [Instr.index, run_underlying Try.underlying9, asIntOf, h1]
/-- four single stores. -/
structure Four (W : World) (g k : Nat) (S : List UInt8) (lo m : Nat) : Prop where
  c0 : ∃ z, W.cell? ⟨g, k, none⟩ = some (.int .u8 z)
  f0 : W.frozen? ⟨g, k, none⟩ = false
  c1 : ∃ z, (W.setCell ⟨g, k, none⟩ (.int .u8 ((lo : Int) % 256))).cell? ⟨g, k + 1, none⟩ = some (.int .u8 z)
  f1 : (W.setCell ⟨g, k, none⟩ (.int .u8 ((lo : Int) % 256))).frozen? ⟨g, k + 1, none⟩ = false
  c2 : ∃ z, ((W.setCell ⟨g, k, none⟩ (.int .u8 ((lo : Int) % 256))).setCell ⟨g, k + 1, none⟩ (.int .u8 ((lo : Int) / 256))).cell? ⟨g, k + 2, none⟩ = some (.int .u8 z)
  f2 : ((W.setCell ⟨g, k, none⟩ (.int .u8 ((lo : Int) % 256))).setCell ⟨g, k + 1, none⟩ (.int .u8 ((lo : Int) / 256))).frozen? ⟨g, k + 2, none⟩ = false
  c3 : ∃ z, (((W.setCell ⟨g, k, none⟩ (.int .u8 ((lo : Int) % 256))).setCell ⟨g, k + 1, none⟩ (.int .u8 ((lo : Int) / 256))).setCell ⟨g, k + 2, none⟩ (.int .u8 ((m : Int) % 256))).cell? ⟨g, k + 3, none⟩ = some (.int .u8 z)
  f3 : (((W.setCell ⟨g, k, none⟩ (.int .u8 ((lo : Int) % 256))).setCell ⟨g, k + 1, none⟩ (.int .u8 ((lo : Int) / 256))).setCell ⟨g, k + 2, none⟩ (.int .u8 ((m : Int) % 256))).frozen? ⟨g, k + 3, none⟩ = false
  last : BB ((((W.setCell ⟨g, k, none⟩ (.int .u8 ((lo : Int) % 256))).setCell ⟨g, k + 1, none⟩ (.int .u8 ((lo : Int) / 256))).setCell ⟨g, k + 2, none⟩ (.int .u8 ((m : Int) % 256))).setCell ⟨g, k + 3, none⟩ (.int .u8 ((m : Int) / 256))) g (lay (lay S k (w2 lo)) (k + 2) (w2 m))
theorem four {W : World} {g k : Nat} {S : List UInt8} {lo m : Nat} (h : BB W g S) (hk : k + 4 ≤ S.length) (hlo : lo < 65536) (hm : m < 65536) : Four W g k S lo m := by
  obtain ⟨e0, e1⟩ := w2_cells lo hlo
  obtain ⟨e2, e3⟩ := w2_cells m hm
  have h0 := h.set_ k (UInt8.ofNat (lo % 256))
  have h1 := h0.set_ (k + 1) (UInt8.ofNat (lo / 256))
  have h2 := h1.set_ (k + 2) (UInt8.ofNat (m % 256))
  have h3 := h2.set_ (k + 3) (UInt8.ofNat (m / 256))
  have l0 : (S.set k (UInt8.ofNat (lo % 256))).length = S.length := List.length_set
  have l1 : ((S.set k (UInt8.ofNat (lo % 256))).set (k + 1) (UInt8.ofNat (lo / 256))).length = S.length := by rw [List.length_set]; exact l0
  have l2 : (((S.set k (UInt8.ofNat (lo % 256))).set (k + 1) (UInt8.ofNat (lo / 256))).set (k + 2) (UInt8.ofNat (m % 256))).length = S.length := by rw [List.length_set]; exact l1
  rw [e0] at h0 h1 h2 h3
  rw [e1] at h1 h2 h3
  rw [e2] at h2 h3
  rw [e3] at h3
  refine ⟨⟨_, h.cell k (by omega)⟩, h.frozen k, ⟨_, h0.cell (k + 1) (by omega)⟩, h0.frozen _, ⟨_, h1.cell (k + 2) (by omega)⟩, h1.frozen _, ⟨_, h2.cell (k + 3) (by omega)⟩, h2.frozen _, ?_⟩
  rw [set_lay2 _ k _ _ (by omega), set_lay2 _ (k + 2) _ _ (by rw [lay_length _ _ _ (by simp; omega)]; omega)] at h3
  exact h3
theorem lay_set (S : List UInt8) (o : Nat) (b : List UInt8) (j : Nat) (hj : j < b.length) (hf : o + b.length ≤ S.length) : (lay S o (b.take j)).set (o + j) b[j] = lay S o (b.take (j + 1)) := by
  have hl : (b.take j).length = j := by rw [List.length_take]; omega
  rw [set_lay1 _ _ _ (by rw [lay_length _ _ _ (by omega)]; omega)]
  have := lay_more S o (b.take j) [b[j]] (by rw [hl]; simp; omega)
  rw [hl] at this
  rw [this, List.take_add_one, List.getElem?_eq_getElem hj]
  rfl
set_option maxRecDepth 100000 in
set_option maxHeartbeats 2000000 in
theorem refBytes_any (A : Option Addr) (c : Nat) (L : List (List UInt8)) (size : Nat) (w : World) (h : Strs w A (strL L)) (hs1 : 64 ≤ size) (hs : size ≤ 1024) (hl : L.length ≤ 250) (hf : 1 + 4 * L.length + used L ≤ size) :
    Calls Try.prog 14 #[.slice A L.length c, .int .i64 (size : Nat)] w fun e w' => ∃ g, e = .returned (.slice (some ⟨g, 0, none⟩) size size) ∧ w.heap.size ≤ g ∧ BB w' g (pageB size L) ∧ Below w.heap.size w w' := by
  have MK := fun W => make_bytes size size rfl (by omega) W
  have n0 : BB (w.alloc (.cells (encB (zeros size)).toArray 5)) w.heap.size (zeros size) := Whole.new _ _ _
  have nb : Below w.heap.size w (w.alloc (.cells (encB (zeros size)).toArray 5)) := (Below.refl _ _).alloc (Nat.le_refl _) _
  have HS := Lib.hid h
  have hsi : (0 : Int) < (size : Int) := by omega
  have hsi2 : (size : Int) ≤ 1024 := by omega
  have hli : (L.length : Int) ≤ 250 := by omega
  obtain ⟨z0, y0⟩ : ∃ z, (w.alloc (.cells (encB (zeros size)).toArray 5)).cell? ⟨w.heap.size, 0, none⟩ = some (.int .u8 z) := ⟨_, n0.cell 0 (by rw [zeros_len]; omega)⟩
  have yf := n0.frozen 0
  have n1 : BB (w.alloc (.cells ((encB (zeros size)).set 0 (.int .u8 (L.length : Nat))).toArray 5)) w.heap.size (stB size L.length []) := by
    have e : encB (stB size L.length []) = (encB (zeros size)).set 0 (.int .u8 (L.length : Nat)) := by
      rw [← stB_nil _ _ (by omega), show (Value.int .u8 (L.length : Nat)) = .int .u8 ((UInt8.ofNat L.length).toNat : Nat) by rw [UInt8.toNat_ofNat', Nat.mod_eq_of_lt (by omega)]]
      simp [encB, List.map_set]
    unfold BB
    rw [e]
    exact Whole.new _ _ _
  have nb1 : Below w.heap.size w (w.alloc (.cells ((encB (zeros size)).set 0 (.int .u8 (L.length : Nat))).toArray 5)) := (Below.refl _ _).alloc (Nat.le_refl _) _
  have N1 := Lib.hid n1
  have NB1 := Lib.hid nb1
  clear h n0 nb n1 nb1
  go_enter Try.func14, Try.ntmps14
  go_wp2_with fail
  generalize w.alloc (.cells ((encB (zeros size)).set 0 (.int .u8 (L.length : Nat))).toArray 5) = W1 at *
  clear y0 yf MK
  go_loopg [6, 7] (L.length + 1) (fun j s6 s7 wr => ∃ i : Nat, i ≤ L.length ∧ L.length < i + j ∧ s7 = .int .i64 (i : Nat) ∧ s6 = .int .i64 ((size - used (L.take i) : Nat) : Int) ∧ BB wr w.heap.size (stB size L.length (L.take i)) ∧ Below w.heap.size w wr)
  case atStart => exact ⟨0, by omega, by omega, rfl, by simp [used], by simpa using N1.out, NB1.out⟩
  case round =>
    obtain ⟨i, hi, hj, rfl, rfl, hb, hbl⟩ := hrel
    clear N1 NB1
    by_cases hlt : i < L.length
    · have hlti : (i : Int) < (L.length : Int) := by omega
      obtain ⟨ga, oa, rfl, hga, hca⟩ := HS.out.one i hlt
      have hcw := (hbl.cell (p := ⟨ga, oa + i, none⟩) hga).trans hca
      have hus := used_take_succ L i hlt
      have hu2 := used_at L i hlt
      have hti : (L.take i).length = i := by rw [List.length_take]; omega
      have htk : L.take (i + 1) = L.take i ++ [L[i]] := by rw [List.take_add_one, List.getElem?_eq_getElem hlt]; rfl
      have hSl : (stB size L.length (L.take i)).length = size := stB_length _ _ _ (by rw [hti]; omega)
      have hsz := bsize L[i]
      by_cases he : L[i] = []
      · have hbi : Hid (BB wr w.heap.size (stB size L.length (L.take (i + 1)))) := Lib.hid (by rw [htk, he, stB_skip _ _ _ (by rw [hti]; omega)]; exact hb)
        have hui : Hid (used (L.take (i + 1)) = used (L.take i)) := Lib.hid (by rw [hus, he]; simp)
        have hz0 : (((⟨L[i].toArray⟩ : ByteArray).size : Nat) : Int) = 0 := by rw [hsz, he]; rfl
        have HBL := Lib.hid hbl
        generalize (⟨L[i].toArray⟩ : ByteArray) = sb at *
        clear hb hus hu2 hti htk hSl hsz he hca hbl
        go_wp2_with fail
        go_roundg (L.length - i)
        case measure => omega
        case rel => exact ⟨i + 1, by omega, by omega, rfl, by rw [hui.out], hbi.out, HBL.out⟩
      · have hpos : 0 < L[i].length := List.length_pos_iff.2 he
        obtain ⟨en, hen⟩ : ∃ en, size - used (L.take i) = en := ⟨_, rfl⟩
        obtain ⟨lo, hlo⟩ : ∃ lo, en - L[i].length = lo := ⟨_, rfl⟩
        obtain ⟨k, hk⟩ : ∃ k, 1 + 4 * i = k := ⟨_, rfl⟩
        have hstep := stB_step size L.length (L.take i) L[i] (by rw [hti]; omega) lo (by rw [if_neg he]; omega)
        rw [hti, hk, ← htk] at hstep
        have FR := four hb (k := k) (lo := lo) (m := L[i].length) (by omega) (by omega) (by omega)
        have hnx : Hid (size - used (L.take (i + 1)) = lo) := Lib.hid (by rw [hus]; omega)
        have hloi : (en : Int) - (L[i].length : Nat) = (lo : Nat) := by omega
        have hk1 : 1 + 4 * (i : Int) = (k : Nat) := by omega
        have hk2 : 2 + 4 * (i : Int) = ((k + 1 : Nat) : Int) := by omega
        have hk3 : 3 + 4 * (i : Int) = ((k + 2 : Nat) : Int) := by omega
        have hk4 : 4 + 4 * (i : Int) = ((k + 3 : Nat) : Int) := by omega
        have hb1 : (k : Int) < (size : Int) := by omega
        have hb2 : ((k + 1 : Nat) : Int) < (size : Int) := by omega
        have hb3 : ((k + 2 : Nat) : Int) < (size : Int) := by omega
        have hb4 : ((k + 3 : Nat) : Int) < (size : Int) := by omega
        have hlom : lo + L[i].length ≤ size := by omega
        have hlo1 : (lo : Int) < 1024 := by omega
        have hm1 : (L[i].length : Int) ≤ 1024 := by omega
        have hm0 : ¬ (L[i].length : Int) = 0 := by omega
        have hszi : (((⟨L[i].toArray⟩ : ByteArray).size : Nat) : Int) = (L[i].length : Nat) := by rw [hsz]
        have l1 : (lay (lay (stB size L.length (L.take i)) k (w2 lo)) (k + 2) (w2 L[i].length)).length = size := by
          rw [lay_length _ _ _ (by rw [lay_length _ _ _ (by rw [w2_length]; omega), w2_length]; omega), lay_length _ _ _ (by rw [w2_length]; omega)]
          exact hSl
        have IX : Hid (∀ j : Nat, j < L[i].length → ∃ y : UInt8, (∀ (z : Int), z = j → ∀ W, Sem.run Try.prog (Instr.index 9 (.string ⟨L[i].toArray⟩) (.int .i64 z)) W = .ok (.int .u8 (y.toNat : Nat)) W) ∧ ∀ S : List UInt8, lo + L[i].length ≤ S.length → (lay S lo (L[i].take j)).set (lo + j) y = lay S lo (L[i].take (j + 1))) := Lib.hid fun j hj => ⟨L[i][j], fun z hz W => run_index_str L[i] j z hz hj W, fun S hf => lay_set S lo L[i] j hj hf⟩
        have hlb : Hid (L[i].take L[i].length = L[i]) := Lib.hid (List.take_of_length_le (Nat.le_refl _))
        have HFR := Lib.hid FR
        have f0 := FR.f0
        have f1 := FR.f1
        have f2 := FR.f2
        have f3 := FR.f3
        obtain ⟨z0, c0⟩ := FR.c0
        obtain ⟨z1, c1⟩ := FR.c1
        obtain ⟨z2, c2⟩ := FR.c2
        obtain ⟨z3, c3⟩ := FR.c3
        have HST := Lib.hid hstep
        have HBL := Lib.hid hbl
        have HB := Lib.hid hb
        clear hb hstep hus hu2 hti htk hSl hsz hca hbl FR hk he
        rw [hen]
        generalize used (L.take i) = u at *
        generalize hbv : L[i] = b at *
        generalize hbm : b.length = m at *
        go_wp2_with fail
        obtain ⟨W4, hW4⟩ : ∃ W4, W4 = (((wr.setCell ⟨w.heap.size, k, none⟩ (.int .u8 ((lo : Int) % 256))).setCell ⟨w.heap.size, k + 1, none⟩ (.int .u8 ((lo : Int) / 256))).setCell ⟨w.heap.size, k + 2, none⟩ (.int .u8 ((m : Int) % 256))).setCell ⟨w.heap.size, k + 3, none⟩ (.int .u8 ((m : Int) / 256)) := ⟨_, rfl⟩
        rw [← hW4]
        have HB4 : Hid (BB W4 w.heap.size (lay (lay (stB size L.length (L.take i)) k (w2 lo)) (k + 2) (w2 m))) := Lib.hid (by rw [hW4]; exact HFR.out.last)
        have HBL4 : Hid (Below w.heap.size w W4) := Lib.hid (by rw [hW4]; exact (((HBL.out.setCell (Nat.le_refl _) _).setCell (Nat.le_refl _) _).setCell (Nat.le_refl _) _).setCell (Nat.le_refl _) _)
        have HCA := Lib.hid (HS.out.one i hlt)
        rw [hbv] at HCA
        have HS4 := HST
        clear hW4 HFR HBL HB c0 c1 c2 c3 f0 f1 f2 f3 hcw HST
        generalize lay (lay (stB size L.length (L.take i)) k (w2 lo)) (k + 2) (w2 m) = S4 at *
        clear hk1 hk2 hk3 hk4 hb1 hb2 hb3 hb4 hloi
        go_loopg [8] (m + 1) (fun jj s8 wx => ∃ j : Nat, j ≤ m ∧ m < j + jj ∧ s8 = .int .i64 (j : Nat) ∧ BB wx w.heap.size (lay S4 lo (b.take j)) ∧ Below w.heap.size w wx)
        case atStart => exact ⟨0, by omega, by omega, rfl, by rw [List.take_zero, lay_nil]; exact HB4.out, HBL4.out⟩
        case round =>
          obtain ⟨j, hjm, hjj, rfl, hbx, hblx⟩ := hrel
          obtain ⟨g', o', eA, hg', hca'⟩ := HCA.out
          cases eA
          have hcx := (hblx.cell (p := ⟨ga, oa + i, none⟩) hg').trans hca'
          have lx : (lay S4 lo (b.take j)).length = size := by rw [lay_length _ _ _ (by rw [List.length_take]; omega)]; exact l1
          by_cases hjlt : j < m
          · have hji : (j : Int) < (m : Nat) := by omega
            obtain ⟨y, hy1, hy2⟩ := IX.out j hjlt
            have hix := hy1 j rfl
            have hset := hy2 S4 (by omega)
            obtain ⟨q, hq⟩ : ∃ q, lo + j = q := ⟨_, rfl⟩
            have hqi : (lo : Int) + (j : Int) = (q : Nat) := by omega
            have hqb : (q : Int) < (size : Int) := by omega
            obtain ⟨zq, cq⟩ : ∃ z, _ = some (Value.int .u8 z) := ⟨_, hbx.cell q (by omega)⟩
            have fq := hbx.frozen q
            have hb5 := hbx.set_ q y
            rw [hq] at hset
            rw [hset] at hb5
            have HB5 := Lib.hid hb5
            have HBL5 := Lib.hid (hblx.setCell (p := ⟨w.heap.size, q, none⟩) (Nat.le_refl _) (.int .u8 (y.toNat : Nat)))
            clear hbx hblx hb5 hset hy1 hy2 IX HB4 HBL4 hq
            go_wp2_with fail
            go_roundg (m - j)
            case measure => omega
            case rel => exact ⟨j + 1, by omega, by omega, rfl, HB5.out, HBL5.out⟩
          · have hjge : ¬ (j : Int) < (m : Nat) := by omega
            have hjm2 : j = m := by omega
            subst hjm2
            rw [hlb.out, HS4.out] at hbx
            have HBX := Lib.hid hbx
            have HBLX := Lib.hid hblx
            clear hbx hblx IX HB4 HBL4
            go_wp2_with fail
            go_roundg (L.length - i)
            case measure => omega
            case rel => exact ⟨i + 1, by omega, by omega, rfl, by rw [hnx.out], HBX.out, HBLX.out⟩
    · have hge : ¬ (i : Int) < (L.length : Int) := by omega
      have hut : L.take i = L := List.take_of_length_le (by omega)
      rw [hut] at hb ⊢
      have HB := Lib.hid (show BB wr w.heap.size (pageB size L) from hb)
      have HBL := Lib.hid hbl
      clear hb hbl
      go_wp2_with fail
      go_ret
      exact ⟨_, rfl, Nat.le_refl _, HB.out, HBL.out⟩
end Go.Proofs.Ytlkkfnimealbkaa.Pag
