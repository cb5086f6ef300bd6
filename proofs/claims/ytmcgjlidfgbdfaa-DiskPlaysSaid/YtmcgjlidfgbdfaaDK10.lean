/- Read. -/
import Derived.Test.YtmcgjlidfgbdfaaDK9
namespace Go.Proofs.Ytmcgjlidfgbdfaa
open Go.RowKit

def lay (l : List UInt8) (o : Nat) (x : List UInt8) : List UInt8 := l.take o ++ x ++ l.drop (o + x.length)
theorem splice_encB (l : List UInt8) (o : Nat) (x : List UInt8) : splice (encB l) o (encB x) = encB (lay l o x) := by
  simp [splice, lay, encB, List.map_take, List.map_drop]
/-- bytes, and zeros behind them. -/
def pad (n : Nat) (l : List UInt8) : List UInt8 := l ++ zeros (n - l.length)
theorem lay_pad (n : Nat) (l : List UInt8) : lay (zeros n) 0 l = pad n l := by
  simp [lay, pad, zeros, List.drop_replicate]
theorem pad_length (n : Nat) (l : List UInt8) (h : l.length ≤ n) : (pad n l).length = n := by simp [pad, zeros]; omega
theorem sizeB : (Try.prog.info? 5).map (·.size) = some 1 := by kernel_rfl
/-- a sector, as it is seen. -/
def readL (d : Dsk) (k : Nat) (h : k < d.secs.length) : List UInt8 := pad d.size (settleS ones d.secs[k]).l
theorem readL_length {w : World} {d : Dsk} (h : DiskAt w d) (k : Nat) (hk : k < d.secs.length) : (readL d k hk).length = d.size :=
  pad_length _ _ (settleS_ok (h.ok _ (List.getElem_mem hk)) ones 0).lfit

theorem read_nil (i : Int) (w : World) : Calls Try.prog 18 #[.pointer none, .int .i64 i] w fun e w' => e = .returned (.tuple #[.slice none 0 0, .int .i64 2]) ∧ w' = w := by
  have T := takes_nil i 0 w
  go_enter Try.func18, Try.ntmps18
  go_wp2_with fail
  refine T.mono ?_
  rintro e w1 ⟨rfl, rfl⟩
  go_wp2_with fail
  go_ret2
  exact ⟨rfl, rfl⟩
theorem read_err {w : World} {d : Dsk} (h : DiskAt w d) (i t : Int) (ht : takesOf d i 0 = t) (h0 : ¬ t = 0) : Calls Try.prog 18 #[.pointer (some ⟨d.p, 0, none⟩), .int .i64 i] w fun e w' => e = .returned (.tuple #[.slice none 0 0, .int .i64 t]) ∧ w' = w := by
  have T := takes_at h i 0
  rw [ht] at T
  replace T := Lib.hid T
  clear h ht
  go_enter Try.func18, Try.ntmps18
  go_wp2_with fail
  refine T.out.mono ?_
  rintro e w1 ⟨rfl, rfl⟩
  go_wp2_with fail
  go_ret2
  exact ⟨rfl, rfl⟩
theorem takes_ok {d : Dsk} (hd : d.dark = false) {k : Nat} (hk : k < d.secs.length) {n : Int} (hn : n ≤ d.size) : takesOf d k n = 0 := by
  unfold takesOf
  rw [hd, if_neg (by simp), if_neg (by omega)]
set_option maxRecDepth 100000 in
theorem read_at {w : World} {d : Dsk} (h : DiskAt w d) (hw : d.waits ≤ 1000000) (hd : d.dark = false) (k : Nat) (hk : k < d.secs.length) :
    Calls Try.prog 18 #[.pointer (some ⟨d.p, 0, none⟩), .int .i64 (k : Nat)] w fun e w' => ∃ g, e = .returned (.tuple #[.slice (some ⟨g, 0, none⟩) d.size d.size, .int .i64 0]) ∧ w.heap.size ≤ g ∧ BB w' g (readL d k hk) ∧ Below w.heap.size w w' := by
  have T := takes_at h (k : Nat) 0
  rw [takes_ok hd hk (by omega)] at T
  have c0 := h.c 0
  simp only [dcells, List.getElem?_toArray, List.getElem?_cons_zero] at c0
  have hsm := h.small
  have hsm' : (d.size : Int) ≤ 1024 := by omega
  have MK := fun W => make_bytes d.size d.size rfl (by omega) W
  have hkl : (k : Int) < (d.secs.length : Int) := by omega
  have hfew : (d.secs.length : Int) ≤ 600 := by have := h.few; omega
  have bal : Below w.heap.size w (w.alloc (.cells (encB (zeros d.size)).toArray 5)) := (Below.refl _ _).alloc (Nat.le_refl _) _
  have hB : BB (w.alloc (.cells (encB (zeros d.size)).toArray 5)) w.heap.size (zeros d.size) := Whole.new _ _ _
  have hsz1 : w.heap.size ≤ w.heap.size := Nat.le_refl _
  generalize hw1 : w.alloc (.cells (encB (zeros d.size)).toArray 5) = w1 at *
  have h1 := h.below bal
  have c1 := h1.c 1
  simp only [dcells, List.getElem?_toArray, List.getElem?_cons_zero, List.getElem?_cons_succ] at c1
  have hok := h1.ok _ (List.getElem_mem hk)
  obtain ⟨k0, k1⟩ := encS_at d.secs k hk
  have hcs := fun j => Whole.cell h1.sec j
  have L := left_at d.q (k * 2) d.secs[k].la d.secs[k].l.length d.secs[k].lc d.secs[k].wv d.secs[k].ws ones w1 ((hcs (k * 2)).trans (by simpa using k0)) ((hcs (k * 2 + 1)).trans (by simpa using k1)) h1.sec.lt hok.wrow (by have := hok.few; omega) (by decide)
  have e1 : leftV ones (.slice d.secs[k].la d.secs[k].l.length d.secs[k].lc) d.secs[k].ws = (settleS ones d.secs[k]).lv := settleS_lv ones d.secs[k]
  have hso := settleS_ok hok ones 0
  rw [e1, show ((ones : Nat) : Int) = 18446744073709551615 from rfl] at L
  have HG : Hid (readL d k hk = pad d.size (settleS ones d.secs[k]).l) := Lib.hid rfl
  generalize settleS ones d.secs[k] = S at *
  obtain ⟨A, c, eA, hA, -, -⟩ := hso.lrow.shape
  have hfit := hso.lfit
  injection eA with eA1 eA2 eA3
  subst eA1
  subst eA3
  dsimp only [Sec.lv] at L
  replace L := Lib.hid L
  replace T := Lib.hid T
  have HB := Lib.hid hB
  have HA := Lib.hid hA
  have BAL := Lib.hid bal
  clear h h1 hcs k0 k1 hok e1 hso hB hA bal hd eA2
  generalize S.l = l at *
  generalize S.la = la at *
  generalize S.lc = lc at *
  have hfit' : (l.length : Int) ≤ (d.size : Int) := by omega
  go_enter Try.func18, Try.ntmps18
  go_wp2_with fail
  refine T.out.mono ?_
  rintro e w' ⟨rfl, rfl⟩
  go_wp2_with fail
  refine L.out.mono ?_
  rintro e w2 ⟨rfl, hb2⟩
  have HB2 := Lib.hid (HB.out.below hb2)
  have HA2 := Lib.hid (HA.out.below hb2)
  have B2 := Lib.hid (below_next BAL.out hb2)
  clear hb2 MK
  have hsz := sizeB
  have hgg : w'.heap.size ≤ w'.heap.size := Nat.le_refl _
  go_wp2_with (
    (refine wpList_copy_splice rfl (.tmp 19) (.tmp 26) 30 30 rfl 5 Try.underlying30 hsz (some ⟨w'.heap.size, 0, none⟩) la d.size d.size l.length lc rfl rfl w'.heap.size 0 (encB (zeros d.size)) 5 HB2.out (encB l) ?h2 ?h3 ?h4 (encB_one _) w'.heap.size w' B2.out hgg ?_
     case h2 => (rw [encB_length]; exact (Nat.min_eq_left (by omega)).symm)
     case h3 =>
       intro hpos
       rw [encB_length] at hpos
       obtain ⟨bb, o, e1, _, _⟩ := HA2.out 0 hpos
       refine ⟨rfl, _, e1, fun j v hv => ?_⟩
       subst e1
       exact holds_cells HA2.out j v hv
     case h4 => (rw [encB_length, encB_length]; simp [zeros]; omega)
     intro w4 hw4 hb4))
  have BB4 : Hid (BB w4 w'.heap.size (pad d.size l)) := Lib.hid (by
    have := hw4.out
    rw [splice_encB, lay_pad] at this
    exact this)
  have B4 := Lib.hid hb4
  clear hw4 hb4 HB2 HA2 HB HA B2 BAL
  go_wp2_with fail
  go_ret2
  exact ⟨_, rfl, Nat.le_refl _, by rw [HG.out]; exact BB4.out, B4.out⟩
end Go.Proofs.Ytmcgjlidfgbdfaa
