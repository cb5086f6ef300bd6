/- Put of a key that is there, at any height. -/
import Derived.Test.YtcboakmfabdeoaaX2
namespace Go.Proofs.Ytcboakmfabdeoaa
open Go.RowKit

theorem ownsRow_cells {w : World} {base : Nat} {e : TypeId} {size : Nat} {v : Value} {n : Nat} {xs : List Value} (h : w.ownsRow base e size v n xs) {b : Nat} (hb : v.ownBlock = some b) : ∃ cs, w.heap[b]? = some (.cells cs e (0, 0)) := by
  rcases h.2 with ⟨rfl, _⟩ | ⟨g, cap, cur, rfl, _, hg, _⟩
  · cases hb
  · have : g = b := by simpa [Value.ownBlock] using hb
    subst this
    exact ⟨cur, hg⟩

theorem IsT.cells {t : Nat} {w : World} : ∀ {h : Nat} {x : Kid}, IsT t w h x → ∀ b ∈ x.fp, ∃ cs ty, w.heap[b]? = some (.cells cs ty (0, 0))
  | 0, x, ⟨vp, h1, h2, h3, h4⟩, b, hb => by
    rw [h3] at hb
    rcases List.mem_cons.1 hb with rfl | hb
    · exact ⟨_, _, h1⟩
    · obtain ⟨cs, h⟩ := ownsRow_cells h2 (b := b) (by simpa using hb)
      exact ⟨cs, _, h⟩
  | h + 1, x, ⟨vp, vk, ps, ks, h1, h2, h3, h4, h5, h6, h7, h8⟩, b, hb => by
    rw [h6] at hb
    rcases List.mem_cons.1 hb with rfl | hb
    · exact ⟨_, _, h1⟩
    · rcases List.mem_append.1 hb with hb | hb
      · rcases mem_rows.1 hb with e | e
        · obtain ⟨cs, h⟩ := ownsRow_cells h2 e
          exact ⟨cs, _, h⟩
        · obtain ⟨cs, h⟩ := ownsRow_cells h3 e
          exact ⟨cs, _, h⟩
      · obtain ⟨y, hy, hby⟩ := mem_fpAll.1 hb
        exact IsT.cells (h8 y hy).1 b hby

def SetPost (t m : Nat) (l : List Pr) (rp : Option Addr) (fp : List Nat) (k : Int) (s : ByteArray) (w w' : World) : Prop :=
  ∃ fp', TreeM t m w' (setv l k s) rp fp' ∧ fp'.Perm fp ∧ Touch (m :: fp) w w'

theorem set_done {t m : Nat} {w w1 : World} {h : Nat} {x : Kid} {k : Int} {s : ByteArray} (hm : TreeM t m w x.l (some ⟨x.p, 0, none⟩) x.fp) (hx : IsT t w h x) (hb : Below w.heap.size w w1) {g i : Nat} (hg : g ∈ x.fp)
    (hs : ∀ s w2, (∀ b ∈ x.fp, w2.heap[b]? = (w.setCell ⟨g, i * 2 + 1, none⟩ (.string s)).heap[b]?) → ∃ fp3 c3, IsT t w2 h ⟨x.p, setv x.l k s, fp3, c3⟩ ∧ fp3.Perm x.fp ∧ x.c ≤ c3) :
    SetPost t m x.l (some ⟨x.p, 0, none⟩) x.fp k s w (w1.setCell ⟨g, i * 2 + 1, none⟩ (.string s)) := by
  obtain ⟨cs, ty, hc⟩ := hx.cells g hg
  have glt := hx.lt g hg
  have hc1 : w1.heap[g]? = some (.cells cs ty (0, 0)) := (hb.block g glt).trans hc
  have hmf : m ∉ x.fp := (List.nodup_cons.1 hm.nodup).1
  have hmg : m ≠ g := fun e => hmf (e ▸ hg)
  obtain ⟨fp3, c3, i1, i2, i3⟩ := hs s (w1.setCell ⟨g, i * 2 + 1, none⟩ (.string s)) (fun b hbx => by
    by_cases e : b = g
    · subst e
      rw [heap_setCell_same w1 b _ cs ty _ hc1, heap_setCell_same w b _ cs ty _ hc]
    · rw [heap_setCell_other w1 _ b _ e, heap_setCell_other w _ b _ e]
      exact hb.block b (hx.lt b hbx))
  have mlt : m < w.heap.size := (Array.getElem?_eq_some_iff.1 hm.cell).1
  refine ⟨fp3, ⟨(heap_setCell_other w1 _ m _ hmg).trans ((hb.block m mlt).trans hm.cell), .inr ⟨h, ⟨x.p, setv x.l k s, fp3, c3⟩, rfl, i1, rfl, rfl⟩, ?_, setv_rising hm.rising k s, low_of (x := ⟨x.p, setv x.l k s, fp3, c3⟩) rfl i1 ((hm.lowRoot rfl hx).imp id (fun e => Nat.le_trans e i3))⟩, i2, ?_⟩
  · exact ((i2.cons m).nodup_iff).2 hm.nodup
  · exact (Touch.of_below hb (m :: x.fp)).setCell (.inl (by simp [hg])) _

set_option maxHeartbeats 1000000 in
set_option maxRecDepth 100000 in
theorem TreeM.put_has {t m : Nat} {w : World} {l : List Pr} {rp : Option Addr} {fp : List Nat} (h : TreeM t m w l rp fp) (k : Int) (s : ByteArray) (hn : l.length ≤ 1000000) (hk : hasB l k = true) :
    Calls Try.prog 16 #[.pointer (some ⟨m, 0, none⟩), .int .i64 k, .string s] w fun e w' => e = .returned (.tuple #[.string (valOf l k), .bool true]) ∧ SetPost t m l rp fp k s w w' := by
  have c1 : w.cell? ⟨m, 1, none⟩ = some (.pointer rp) := cell_of_row w m 1 _ _ _ h.cell
  obtain ⟨hh, x, rfl, hx, rfl, rfl⟩ : ∃ (h : Nat) (x : Kid), rp = some ⟨x.p, 0, none⟩ ∧ IsT t w h x ∧ x.l = l ∧ x.fp = fp := by
    rcases h.root with ⟨_, rfl, _⟩ | h1
    · simp [hasB] at hk
    · exact h1
  have HF := Lib.hid (find_any t hh x k w hx h.rising (List.nodup_cons.1 h.nodup).2 hn)
  have HM := Lib.hid h
  have HX := Lib.hid hx
  have HK := Lib.hid hk
  clear h hx hk
  go_enter Try.func16, Try.ntmps16
  go_wp2_with fail
  refine HF.out.mono ?_
  rintro e w1 ⟨hf, hw⟩
  rcases hf with ⟨h1, _⟩ | ⟨g, i, rfl, h1, h2, h3, h4, h5⟩
  · rw [HK.out] at h1; cases h1
  · obtain ⟨cs, ty, hc⟩ := HX.out.cells g h2
    have q1 : w1.cell? ⟨g, i * 2 + 1, none⟩ = some (.string (valOf x.l k)) := (hw.cell (p := ⟨g, i * 2 + 1, none⟩) (World.block_lt_of_cell? w _ h3)).trans h3
    have q2 : w1.frozen? ⟨g, i * 2 + 1, none⟩ = false := by
      have : w1.heap[g]? = some (.cells cs ty (0, 0)) := (hw.block g (HX.out.lt g h2)).trans hc
      simp [World.frozen?, this]
    have FIN := Lib.hid (set_done (s := s) HM.out HX.out hw h2 h5)
    clear h1 h2 h3 h4 h5 hw hc c1
    go_wp2
    go_ret2
    exact ⟨rfl, FIN.out⟩
end Go.Proofs.Ytcboakmfabdeoaa
