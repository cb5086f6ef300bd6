/- split at any height; roomy. -/
import Derived.Test.YtcboakmfabdeoaaXj
import Derived.Test.YtcboakmfabdeoaaWg
namespace Go.Proofs.Ytcboakmfabdeoaa
open Go.RowKit

theorem split_any (t h p i bk nk ck : Nat) (vp : Value) (sz : Nat) (P1 P2 : List Pr) (K1 K2 : List Kid) (x : Kid) (w : World) (ht : 2 ≤ t) (ht2 : t ≤ 1000) (hr : Rec w p vp (.slice (some ⟨bk, 0, none⟩) nk ck) sz) (hp : PRow w vp (P1 ++ P2)) (hk : KRow w (.slice (some ⟨bk, 0, none⟩) nk ck) (K1 ++ x :: K2))
    (h1 : K1.length = i) (h2 : P1.length = i) (hx : IsT t w h x) (hc : 2 * t ≤ x.c + 1) (hkn : nk ≤ 1000000) (hxl : x.l.length ≤ 500000) (hpl : (P1 ++ P2).length ≤ 1000000)
    (hd1 : ∀ b ∈ x.fp, b ≠ p ∧ b ≠ bk ∧ vp.ownBlock ≠ some b) (hd2 : p ≠ bk) (hd3 : vp.ownBlock ≠ some p) (hd4 : vp.ownBlock ≠ some bk) (hnx : x.fp.Nodup) :
    Calls Try.prog 46 #[.pointer (some ⟨p, 0, none⟩), .int .i64 i, .int .i64 t] w fun e w' => e = .returned (.tuple #[]) ∧ ∃ y z m vp' vk', Split t h p sz vp (.slice (some ⟨bk, 0, none⟩) nk ck) P1 P2 K1 K2 w w' x y z m vp' vk' := by
  cases h with
  | zero => exact split_leaf t p i bk nk ck vp sz P1 P2 K1 K2 x w ht ht2 hr hp hk h1 h2 hx hc hkn (by omega) hpl hd1 hd2 hd3 hd4 hnx
  | succ h => exact split_inner t h p i bk nk ck vp sz P1 P2 K1 K2 x w ht ht2 hr hp hk h1 h2 hx hc hkn hxl hpl hd1 hd2 hd3 hd4 hnx

/-- what roomy leaves behind. -/
def Roomy (t : Nat) (w : World) (x : Kid) (w' : World) (h' : Nat) (x' : Kid) : Prop :=
  IsT t w' h' x' ∧ x'.l = x.l ∧ Touch x.fp w w' ∧ x'.fp.Nodup ∧ (∀ b ∈ x'.fp, b ∈ x.fp ∨ w.heap.size ≤ b) ∧ ∀ h, IsT t w h x → (h = 0 ∨ 1 ≤ x.c) → (h' = 0 ∨ 1 ≤ x'.c)

/-- what roomy leaves behind, the new root at p. -/
def Roomy' (t h : Nat) (w : World) (x : Kid) (w' : World) (p : Nat) : Prop := ∃ x', Roomy t w x w' (h + 1) x' ∧ x'.p = p

theorem roomy_split {t h p bk ck : Nat} {w w1 W : World} {x y z : Kid} {m : Pr} {vp' vk' : Value} (hp : w.heap.size ≤ p) (hbk : w.heap.size ≤ bk) (T : Touch [] w w1) (S : Split t h p x.l.length (.slice none 0 0) (.slice (some ⟨bk, 0, none⟩) 1 ck) [] [] [] [] w1 W x y z m vp' vk') :
    Roomy t w x W (h + 1) ⟨p, join ([y, z].map Kid.l) [m], p :: (rows vp' vk' ++ fpAll [y, z]), [m].length⟩ := by
  have hj : join ([y, z].map Kid.l) [m] = x.l := by rw [S.ls]; simp [join, joinR]
  have hf : fpAll [y, z] = y.fp ++ z.fp := by simp [fpAll]
  have hs := T.size
  refine ⟨IsT.make ?_ S.hps S.hks rfl ?_, hj, ?_, ?_, ?_, fun _ _ _ => .inr (by simp)⟩
  · rw [hj]; exact S.hr
  · intro v hv
    simp at hv
    rcases hv with rfl | rfl
    · exact ⟨S.ty, S.cy⟩
    · exact ⟨S.tz, S.cz⟩
  · refine (T.mono (G := x.fp) (by simp)).trans S.touch (fun b hb => ?_)
    simp [rows, Value.ownBlock] at hb
    rcases hb with e | e | e
    · exact .inr (by omega)
    · exact .inr (by omega)
    · exact .inl e
  · rw [hf]; exact S.nodup
  · intro b hb
    rw [hf] at hb
    rcases List.mem_cons.1 hb with e | e
    · exact .inr (by omega)
    · rcases S.hf b e with e2 | e2
      · simp [rows, Value.ownBlock] at e2
        rcases e2 with e3 | e3
        · exact .inr (by omega)
        · exact .inl e3
      · exact .inr (by omega)

/-- the new root with its only kid. -/
theorem roomy_call {t h : Nat} {x : Kid} {w : World} (ht : 2 ≤ t) (ht2 : t ≤ 1000) (hx : IsT t w h x) (hn : x.l.length ≤ 500000) (hnd : x.fp.Nodup) (hc : 2 * t ≤ x.c + 1) :
    Calls Try.prog 46 #[.pointer (some ⟨w.heap.size + 1, 0, none⟩), .int .i64 0, .int .i64 t] ((w.alloc (.cells #[.pointer (some ⟨x.p, 0, none⟩)] 52)).alloc (.cells #[.slice none 0 0, .slice (some ⟨w.heap.size, 0, none⟩) 1 1, .int .i64 x.l.length] 68)) fun e w' =>
      e = .returned (.tuple #[]) ∧ Roomy' t h w x w' (w.heap.size + 1) := by
  have T : Touch [] w ((w.alloc (.cells #[.pointer (some ⟨x.p, 0, none⟩)] 52)).alloc (.cells #[.slice none 0 0, .slice (some ⟨w.heap.size, 0, none⟩) 1 1, .int .i64 x.l.length] 68)) := ((Touch.refl [] w).alloc _).alloc _
  have s1 : (w.alloc (.cells #[.pointer (some ⟨x.p, 0, none⟩)] 52)).heap.size = w.heap.size + 1 := by simp
  have hr := heap_alloc_new (w.alloc (.cells #[.pointer (some ⟨x.p, 0, none⟩)] 52)) (.cells #[.slice none 0 0, .slice (some ⟨w.heap.size, 0, none⟩) 1 1, .int .i64 x.l.length] 68)
  rw [s1] at hr
  have hb : ((w.alloc (.cells #[.pointer (some ⟨x.p, 0, none⟩)] 52)).alloc (.cells #[.slice none 0 0, .slice (some ⟨w.heap.size, 0, none⟩) 1 1, .int .i64 x.l.length] 68)).heap[w.heap.size]? = some (.cells #[.pointer (some ⟨x.p, 0, none⟩)] 52 (0, 0)) :=
    (Below.heap_alloc _ _ w.heap.size (by rw [s1]; omega)).trans (heap_alloc_new w _)
  have hk : KRow ((w.alloc (.cells #[.pointer (some ⟨x.p, 0, none⟩)] 52)).alloc (.cells #[.slice none 0 0, .slice (some ⟨w.heap.size, 0, none⟩) 1 1, .int .i64 x.l.length] 68)) (.slice (some ⟨w.heap.size, 0, none⟩) 1 1) ([] ++ x :: []) :=
    ⟨rfl, .inr ⟨w.heap.size, 1, _, rfl, Nat.zero_le _, hb, Nat.le_refl _, by unfold maxLen; omega, rfl, rfl⟩⟩
  refine (split_any t h (w.heap.size + 1) 0 w.heap.size 1 1 (.slice none 0 0) x.l.length [] [] [] [] x _ ht ht2 hr (World.ownsRow_nil _ _ _ _) hk rfl rfl (hx.touch T (by simp)) hc (by omega) hn (by simp) (fun b hb => ?_) (by omega) (by simp [Value.ownBlock]) (by simp [Value.ownBlock]) hnd).mono ?_
  · have := hx.lt b hb
    exact ⟨by omega, by omega, by simp [Value.ownBlock]⟩
  · rintro e w' ⟨rfl, y, z, m, vp', vk', S⟩
    exact ⟨rfl, _, roomy_split (by omega) (Nat.le_refl _) T S, rfl⟩

set_option maxHeartbeats 1000000 in
theorem roomy_any (t h : Nat) (x : Kid) (w : World) (ht : 2 ≤ t) (ht2 : t ≤ 1000) (hx : IsT t w h x) (hs : Rising x.l) (hn : x.l.length ≤ 500000) (hnd : x.fp.Nodup) :
    Calls Try.prog 33 #[.pointer (some ⟨x.p, 0, none⟩), .int .i64 t] w fun e w' => ∃ h' x', e = .returned (.pointer (some ⟨x'.p, 0, none⟩)) ∧ Roomy t w x w' h' x' := by
  obtain ⟨vp, vk, ps, r1, r2, r3, r4, r5, _⟩ := hx.node hs
  obtain ⟨a, na, ca, rfl, hna⟩ : ∃ a n c, vp = .slice a n c ∧ n = ps.length := by
    rcases r2.cases with ⟨h, h2⟩ | ⟨g, cap, cur, h, _⟩
    · exact ⟨none, 0, 0, h, by rw [h2]; rfl⟩
    · exact ⟨_, _, _, h, rfl⟩
  have c0 := r1.c0
  have c2 := r1.c2
  have x_lt := hx.lt _ hx.p_mem
  have HX := Lib.hid hx
  have HND := Lib.hid hnd
  have R5 := Lib.hid r5
  have NA := Lib.hid hna
  have hnn : na ≤ 1000000 := by omega
  clear hx hnd r1 r2 r3 r5 hna
  by_cases hf : na + 1 < 2 * t
  · go_enter Try.func33, Try.ntmps33
    go_wp2_with (go_at_call 45; refine (full_no x.p na ca t a _ c0 hnn ht2 hf).mono ?_; rintro e w' ⟨rfl, rfl⟩)
    go_ret
    exact ⟨h, x, rfl, HX.out, rfl, Touch.refl _ _, HND.out, fun b hb => .inl hb, fun h2 hx2 hc2 => by
      rcases hc2 with e | e
      · exact .inl ((hx2.same HX.out rfl).2 e)
      · exact .inr e⟩
  · go_enter Try.func33, Try.ntmps33
    go_wp2_with (go_at_call 45; refine (full_yes x.p na ca t a _ c0 hnn ht2 (by omega)).mono ?_; rintro e w' ⟨rfl, rfl⟩)
    refine (roomy_call ht ht2 HX.out hn HND.out (by rw [R5.out, ← NA.out]; omega)).mono ?_
    rintro e w' ⟨rfl, x', hx', hp'⟩
    have HR := Lib.hid hx'
    clear hx'
    go_wp2
    go_ret
    exact ⟨h + 1, x', by rw [hp']; rfl, HR.out⟩
end Go.Proofs.Ytcboakmfabdeoaa
