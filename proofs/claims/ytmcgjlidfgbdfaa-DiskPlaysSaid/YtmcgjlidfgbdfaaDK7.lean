/- left: what is left of a sector for a pattern. -/
import Derived.Test.YtmcgjlidfgbdfaaDK6
namespace Go.Proofs.Ytmcgjlidfgbdfaa
open Go.RowKit Go.Shelf
attribute [local go_sem] Oper.semAt_some

/-- is the bit of that number set? -/
def bit (p n : Nat) : Bool := decide (p / 2 ^ (n % 64) % 2 = 1)
def hit (p : Nat) (ws : List Wt) : Option Wt := ws.reverse.find? fun x => bit p x.n
def leftV (p : Nat) (lv : Value) (ws : List Wt) : Value := match hit p ws with | some x => x.v | none => lv
theorem odd_bit (m : Nat) (hm : m < 18446744073709551616) : (bits .and .u64 (m : Int) 1 == 1) = decide (m % 2 = 1) := by
  have h0 : bits .and .u64 (m : Int) 1 = ((m % 2 : Nat) : Int) := by
    have := u64_and_nat m 1 hm (by omega)
    rw [Nat.and_one_is_mod] at this
    exact this
  rw [h0, Bool.eq_iff_iff]
  simp only [beq_iff_eq, decide_eq_true_eq]
  omega
theorem bit_go (p n : Nat) (hp : p < 18446744073709551616) : (bits .and .u64 ((p : Int) / 2 ^ (n % 64)) 1 == 1) = bit p n := by
  have h := odd_bit (p / 2 ^ (n % 64)) (Nat.lt_of_le_of_lt (Nat.div_le_self _ _) hp)
  rw [Int.natCast_ediv, Int.natCast_pow] at h
  exact h
theorem find_none {α : Type} {f : α → Bool} {l : List α} (h : ∀ y ∈ l, f y = false) : l.find? f = none := by
  rw [List.find?_eq_none]
  intro x hx e
  rw [h x hx] at e
  cases e
theorem find_some {α : Type} {f : α → Bool} {l pre : List α} {x : α} (hp : pre ++ [x] <+: l) (h : ∀ y ∈ pre, f y = false) (hx : f x = true) : l.find? f = some x := by
  obtain ⟨r, rfl⟩ := hp
  rw [List.append_assoc, List.find?_append, find_none h]
  simp [hx]
theorem cell_of_box_l {W : World} {B : Nat} {v : Value} {t : TypeId} (h : W.heap[B]? = some (.cells #[v] t (0, 0))) : W.cell? ⟨B, 0, none⟩ = some v ∧ W.frozen? ⟨B, 0, none⟩ = false := by
  constructor <;> simp [World.cell?, World.frozen?, h]
theorem cell_new_l (W : World) (v : Value) (t : TypeId) : (W.alloc (.cells #[v] t)).cell? ⟨W.heap.size, 0, none⟩ = some v ∧ (W.alloc (.cells #[v] t)).frozen? ⟨W.heap.size, 0, none⟩ = false :=
  cell_of_box_l (World.alloc_heap_new W _)
theorem cell_alloc_l {W : World} {a : Addr} {v : Value} (o : Obj) (h : W.cell? a = some v) : (W.alloc o).cell? a = some v := cell_kept h (World.grownBy_alloc W o none) (fun r e => by cases e)
theorem frozen_alloc_l {W : World} {a : Addr} {v : Value} (o : Obj) (h : W.cell? a = some v) (hf : W.frozen? a = false) : (W.alloc o).frozen? a = false := (frozen_kept h (World.grownBy_alloc W o none) (fun r e => by cases e)).trans hf

set_option maxRecDepth 100000 in
set_option maxHeartbeats 2000000 in
theorem left_in (q o : Nat) (la : Option Addr) (n lc : Nat) (wv : Value) (ws : List Wt) (p : Nat) (w : World) (hl : w.cell? ⟨q, o, none⟩ = some (.slice la n lc)) (hc : w.cell? ⟨q, o + 1, none⟩ = some wv) (hq : q < w.heap.size) (hr : WRow w wv ws) (hlen : ws.length ≤ 1000000) (hp : p < 18446744073709551616) :
    CallsIn Fence.wide 5 Try.prog 29 #[.pointer (some ⟨q, o, none⟩), .int .u64 (p : Nat)] w fun e w' => e = .returned (leftV p (.slice la n lc) ws) ∧ Below w.heap.size w w' := by
  refine callsIn_of_wp_marks Try.func29 rfl trivial ?_ rfl
  simp only [Try.ntmps29, List.size_toArray, List.length_cons, List.length_nil, Nat.reduceAdd, Nat.reduceSub, Array.replicate_succ, Array.replicate_zero, List.push_toArray, List.append_toArray, List.nil_append, List.cons_append]
  gi_wp2_with ((try refine ⟨trivial, ?_⟩); gi_at_call 35; refine (waiting_in Fence.wide _ trivial rfl _ _).mono ?_; rintro e w' ⟨rfl, rfl⟩)
  have c0 := cell_new_l w (.int .u64 (p : Nat)) 31
  have c1 := cell_new_l (w.alloc (.cells #[.int .u64 (p : Nat)] 31)) (.slice none 0 0) 30
  have c2 := cell_new_l ((w.alloc (.cells #[.int .u64 (p : Nat)] 31)).alloc (.cells #[.slice none 0 0] 30)) (.pointer (some ⟨q, o, none⟩)) 65
  simp only [World.size_alloc] at c1 c2
  have hB0 : Below w.heap.size w (((w.alloc (.cells #[.int .u64 (p : Nat)] 31)).alloc (.cells #[.slice none 0 0] 30)).alloc (.cells #[.pointer (some ⟨q, o, none⟩)] 65)) := (((Below.refl _ w).alloc (Nat.le_refl _) _).alloc (by simp) _).alloc (by simp; omega) _
  have hsz : (((w.alloc (.cells #[.int .u64 (p : Nat)] 31)).alloc (.cells #[.slice none 0 0] 30)).alloc (.cells #[.pointer (some ⟨q, o, none⟩)] 65)).heap.size = w.heap.size + 3 := by simp
  have hS : Src (w.heap.size + 3) (((w.alloc (.cells #[.int .u64 (p : Nat)] 31)).alloc (.cells #[.slice none 0 0] 30)).alloc (.cells #[.pointer (some ⟨q, o, none⟩)] 65)) (w.heap.size + 1 + 1) q o wv ws :=
    ⟨c2.1, by omega, (hB0.cell (p := ⟨q, o + 1, none⟩) hq).trans hc, by omega, hr.of_heap (fun k hk => hB0.block k (hr.lt hk)), fun k hk => by have := hr.lt hk; omega⟩
  refine wpIn_rangeFunc_ownF rfl (by omega) (gf := 37) (lb := #[.pointer (some ⟨w.heap.size + 1 + 1, 0, none⟩)]) rfl trivial (enters_of Try.func37 (by kernel_rfl) rfl)
    (waiting_stops 4 (by omega) (w.heap.size + 1 + 1) (w.heap.size + 3) q o wv ws hlen _ hS (by omega)) belowK_t (belowK_b (by omega)) (Below.refl _ _) (fun _ => rfl)
    (fun pre W => ((∀ y ∈ pre, bit p y.n = false) ∧ W.cell? ⟨w.heap.size, 0, none⟩ = some (.int .u64 (p : Nat)) ∧ W.cell? ⟨w.heap.size + 1, 0, none⟩ = some (.slice none 0 0) ∧ W.frozen? ⟨w.heap.size + 1, 0, none⟩ = false) ∧ Below w.heap.size w W)
    (fun c pre W => (c = .ret ∧ ∃ pre0 x, pre = pre0 ++ [x] ∧ (∀ y ∈ pre0, bit p y.n = false) ∧ bit p x.n = true ∧ W.cell? ⟨w.heap.size + 1, 0, none⟩ = some (.slice x.a x.b.length x.c)) ∧ Below w.heap.size w W)
    (OwnFrom.and (Own.from (fun s A B row hs hg hr => ⟨hs.1, cell_kept hs.2.1 hg hr, cell_kept hs.2.2.1 hg hr, (frozen_kept hs.2.2.1 hg hr).trans hs.2.2.2⟩) _) (ownFrom_below (Nat.le_refl _) (by omega)))
    (fun c => OwnFrom.and (Own.from (fun s A B row hs hg hr => ⟨hs.1, let ⟨pre0, x, h1, h2, h3, h4⟩ := hs.2; ⟨pre0, x, h1, h2, h3, cell_kept h4 hg hr⟩⟩) _) (ownFrom_below (Nat.le_refl _) (by omega)))
    ⟨⟨by simp, cell_alloc_l _ (cell_alloc_l _ c0.1), cell_alloc_l _ c1.1, frozen_alloc_l _ c1.1 c1.2⟩, hB0⟩
    (fun x => { tmps := #[.pointer (some ⟨q, o, none⟩), .int .u64 (p : Nat), undef, .pointer (some ⟨w.heap.size, 0, none⟩), .pointer (some ⟨w.heap.size + 1, 0, none⟩), .int .i64 x.n, (.slice x.a x.b.length x.c), .pointer (some ⟨q, o, none⟩), .func (.func 37) #[] #[.pointer (some ⟨w.heap.size + 1 + 1, 0, none⟩)], .int .i64 x.n, (.slice x.a x.b.length x.c), undef, undef, undef, undef, undef, undef, undef, undef, undef, undef, undef], defers := [] }) ?assign ?body ?done ?stop
  case assign =>
    intro l x W K hK
    gi_wp2
    exact hK
  case body =>
    rintro l pre x W ⟨⟨hne, hcw, hcr, hfr⟩, hB⟩ _
    have hbit := bit_go p x.n hp
    cases hb : bit p x.n with
    | true =>
      rw [hb] at hbit
      have HBT := Lib.hid hb
      clear hb
      gi_wp2
      exact ⟨KeepsOthers.setCell _ _ _, ⟨rfl, pre, x, rfl, hne, HBT.out, World.cell?_setCell_same' _ _ _ (by rw [hcr]; rfl)⟩, hB.setCell (p := ⟨w.heap.size + 1, 0, none⟩) (by simp) _⟩
    | false =>
      rw [hb] at hbit
      have HBT := Lib.hid hb
      clear hb
      gi_wp2
      exact ⟨KeepsOthers.refl _, Below.refl _ _, ⟨fun y hy => (List.mem_append.1 hy).elim (hne y) (fun e => by simp at e; subst e; exact HBT.out), hcw, hcr, hfr⟩, hB⟩
  case done =>
    rintro D ys W hD rfl ⟨⟨hne, _, hcr, hfr⟩, hB⟩ hK
    have cl := (hB.cell (p := ⟨q, o, none⟩) hq).trans hl
    gi_wp2
    have hK' := (KeepsOthers.setCell W ⟨w.heap.size + 1, 0, none⟩ (.slice la n lc)).same D _ hK rfl
    refine ⟨by simp, .inl ⟨_, _, rfl, run_takeDeferred hK', ?_⟩⟩
    have hc5 := cell_kept (World.cell?_setCell_same' W ⟨w.heap.size + 1, 0, none⟩ (.slice la n lc) (by rw [hcr]; rfl)) (grownBy_putObj' _ D (.deferred none)) (fun r e => by cases e; exact ⟨_, hK', rfl⟩)
    refine ⟨.slice la n lc, ?_, ?_, (hB.setCell (p := ⟨w.heap.size + 1, 0, none⟩) (by simp) _).trans (belowK_b (w := w) (Nat.le_refl _) _ D _ _ (by simp at hD; omega) hK' rfl rfl)⟩
    · simp [results, Try.f29, go_sem, hc5]
    · unfold leftV hit
      rw [find_none hne]
  case stop =>
    rintro D c pre W hD hpre ⟨⟨rfl, hin⟩, hB⟩ hK
    obtain ⟨pre0, x, rfl, h2, h3, hcr⟩ := hin
    gi_wp2
    refine ⟨by simp, .inl ⟨_, _, rfl, run_takeDeferred hK, ?_⟩⟩
    have hc5 := cell_kept hcr (grownBy_putObj' _ D (.deferred none)) (fun r e => by cases e; exact ⟨_, hK, rfl⟩)
    refine ⟨.slice x.a x.b.length x.c, ?_, ?_, hB.trans (belowK_b (w := w) (Nat.le_refl _) W D _ _ (by simp at hD; omega) hK rfl rfl)⟩
    · simp [results, Try.f29, go_sem, hc5]
    · unfold leftV hit
      rw [find_some hpre h2 h3]
theorem left_at (q o : Nat) (la : Option Addr) (n lc : Nat) (wv : Value) (ws : List Wt) (p : Nat) (w : World) (hl : w.cell? ⟨q, o, none⟩ = some (.slice la n lc)) (hc : w.cell? ⟨q, o + 1, none⟩ = some wv) (hq : q < w.heap.size) (hr : WRow w wv ws) (hlen : ws.length ≤ 1000000) (hp : p < 18446744073709551616) :
    Calls Try.prog 29 #[.pointer (some ⟨q, o, none⟩), .int .u64 (p : Nat)] w fun e w' => e = .returned (leftV p (.slice la n lc) ws) ∧ Below w.heap.size w w' :=
  callsIn_wide.1 (left_in q o la n lc wv ws p w hl hc hq hr hlen hp)
end Go.Proofs.Ytmcgjlidfgbdfaa
