/- HasPrefix; the fields that are read. -/
import Derived.Test.YthoihlebplmcoaaJL
namespace Go.Proofs.Ythoihlebplmcoaa
open Go.RowKit Go.Shelf
set_option linter.unusedVariables false
theorem equal_any (A B : Option Addr) (c d : Nat) (a b : List UInt8) (w : World) (ha : Holds w A a) (hb : Holds w B b) :
    Calls Try.prog 62 #[.slice A a.length c, .slice B b.length d] w fun r w' => r = .returned (.bool (a == b)) ∧ w = w' := by
  have HA := conv_bytes ha c
  have HB := conv_bytes hb d
  clear ha hb
  go_enter Try.func62, Try.ntmps62
  go_wp2_with fail
  go_ret
  exact ⟨rfl, rfl⟩
theorem prefix_any (A B : Option Addr) (c d : Nat) (a b : List UInt8) (w : World) (ha : Holds w A a) (hb : Holds w B b) (hab : b.length ≤ a.length) (hac : a.length ≤ c) :
    Calls Try.prog 49 #[.slice A a.length c, .slice B b.length d] w fun r w' => r = .returned (.bool (a.take b.length == b)) ∧ w = w' := by
  have hl : (a.take b.length).length = b.length := by rw [List.length_take]; omega
  have EQ := equal_any A B c d (a.take b.length) b w (ha.take _) hb
  rw [hl] at EQ
  replace EQ := Lib.hid EQ
  have h1 : (b.length : Int) ≤ (a.length : Int) := by omega
  have h2 : (b.length : Int) ≤ (c : Int) := by omega
  clear ha hb
  go_enter Try.func49, Try.ntmps49
  go_wp2_with fail
  refine EQ.out.mono ?_
  rintro r w1 ⟨rfl, rfl⟩
  go_wp2_with fail
  go_ret
  exact ⟨rfl, rfl⟩
theorem make_bs (n : Nat) (z : Int) (hz : z = n) (hn : n ≤ 100000) (W : World) :
    Sem.run Try.prog (Instr.makeSlice 23 (.int .i64 z) (.int .i64 z)) W = .ok (.slice (some ⟨W.heap.size, 0, none⟩) n n) (W.alloc (.cells (Array.replicate n (FV none)) 35)) := by
  subst hz
  have hinf := infoBs
  cases hi : Try.prog.info? 35 with
  | none => rw [hi] at hinf; simp at hinf
  | some i =>
    rw [hi] at hinf
    simp at hinf
    obtain ⟨h1, h2, h3⟩ := hinf
    have := run_make (P := Try.prog) W 23 35 i _ Try.underlying23 hi h1 .i64 .i64 (n : Int) (n : Int) (by omega) (by omega) (by rw [h3]; omega) (by omega)
    rw [this, h2]
    have e : madeCells (Value.slice none 0 0).cells (n * 1) = Array.replicate n (FV none) := by
      apply Array.ext
      · simp [madeCells]
      · intro i h1 h2
        simp [madeCells, Value.cells, Nat.mod_one, FV]
    rw [show ((n : Int)).toNat = n by omega, e]
/-- a sector's bytes, as they are seen. -/
def secB (m : Mod) (k : Nat) : List UInt8 := pad m.size (m.cont ones k)
/-- the field of a sector, if it is of the epoch. -/
def fldC (m : Mod) (e k : Nat) : Option (List UInt8) := if (secB m k).take 4 == word4 e then some ((secB m k).drop 4) else none
def fldsC (m : Mod) (e fr n : Nat) : List (Option (List UInt8)) := (List.range n).map fun i => fldC m e (fr + i)
theorem fldsC_snoc (m : Mod) (e fr n : Nat) : fldsC m e fr (n + 1) = fldsC m e fr n ++ [fldC m e (fr + n)] := by simp [fldsC, List.range_succ]
theorem set_mid (a R : List Fld) (x : Fld) : (((a ++ none :: R).map FV).toArray).setIfInBounds a.length (FV x) = ((a ++ [x] ++ R).map FV).toArray := by
  simp
theorem bytes_set {w : World} {q i k : Nat} {cs : Array Value} {v : Value} (h : Bytes w k) (hq : Whole w q 35 cs) : Bytes (w.setCell ⟨q, i, none⟩ v) k ∧ k ≠ q := by
  have hne : k ≠ q := fun e => by subst e; exact not_bytes hq (by decide) h
  obtain ⟨cs', z, e⟩ := h
  exact ⟨⟨cs', z, (Below.heap_setCell w ⟨q, i, none⟩ v k hne).trans e⟩, hne⟩
theorem holds_set {w : World} {q i : Nat} {cs : Array Value} {v : Value} {A : Option Addr} {b : List UInt8} (h : Holds w A b) (hb : ∀ a : Addr, A = some a → Bytes w a.block) (hq : Whole w q 35 cs) : Holds (w.setCell ⟨q, i, none⟩ v) A b :=
  h.touch (F := [q]) (Touch.one (by simp)) fun p hp hm => (bytes_set (i := i) (v := v) (hb p hp) hq).2 (by simpa using hm)
set_option maxRecDepth 100000 in
set_option maxHeartbeats 2000000 in
theorem fields_any {w0 w : World} {J : Jd} {m : Mod} (h : JP w0 w J m) (hdk : m.dark = false) (hw : m.waits ≤ 1000000) :
    Calls Try.prog 30 #[J.ptr] w fun r w' => ∃ q l, r = .returned (.tuple #[.slice (some ⟨q, 0, none⟩) l.length l.length, .int .i64 0]) ∧ l.map (Option.map Prod.snd) = fldsC m J.e J.fr (J.tt - J.fr) ∧ FAt w' q l ∧ Below w.heap.size w w' := by
  have hok := h.ok
  have h1 := hok.lo
  have h2 := hok.hi
  have h3 := hok.n
  have c1 := h.is.c1
  have c2 := h.is.c2
  have H := Lib.hid h
  clear h
  obtain ⟨n, hn⟩ : ∃ n, J.tt - J.fr = n := ⟨_, rfl⟩
  have hni : (J.tt : Int) - (J.fr : Int) = (n : Nat) := by omega
  have MK := fun W => make_bs n n rfl (by omega) W
  have hnb : (n : Int) ≤ 600 := by omega
  rw [hn]
  go_enter Try.func30, Try.ntmps30
  go_wp2_with fail
  go_still_tail 9, (by kernel_rfl)
  change wpList _ _ _ _ _ (World.drew _)
  go_wp2_with fail
  rw [MK]
  go_wp2_with fail
  have b1 : Below w.heap.size w (w.alloc (.cells (Array.replicate n (FV none)) 35)).drew := ((Below.refl _ _).alloc (Nat.le_refl _) _).drew
  have q1 : Whole (w.alloc (.cells (Array.replicate n (FV none)) 35)).drew w.heap.size 35 ((([] : List Fld) ++ List.replicate n none).map FV).toArray := by
    have := Whole.drew (Whole.new w 35 (Array.replicate n (FV none)))
    simpa using this
  go_loopg [20] (n + 1) (fun j s20 wr => ∃ (i : Nat) (ls : List Fld), i ≤ n ∧ n < i + j ∧ s20 = .int .i64 (i : Nat) ∧ ls.length = i ∧ Whole wr w.heap.size 35 ((ls ++ List.replicate (n - i) none).map FV).toArray ∧ (∀ g b, some (g, b) ∈ ls → Holds wr (some ⟨g, 4, none⟩) b ∧ Bytes wr g ∧ 0 < b.length ∧ b.length ≤ 1020) ∧ ls.map (Option.map Prod.snd) = fldsC m J.e J.fr i ∧ Below w.heap.size w wr)
  case atStart => exact ⟨0, [], by omega, by omega, rfl, rfl, by simpa using q1, fun _ _ hm => absurd hm (by simp), rfl, b1⟩
  case round =>
    clear b1 q1 MK
    obtain ⟨i, ls, hi, hj, rfl, hlen, hq, hfa, hls, hb⟩ := hrel
    by_cases hlt : i < n
    · have hlti : (i : Int) < (n : Int) := by omega
      have P := Lib.hid (H.out.below hb)
      have hbd : Below wr.heap.size wr wr.drew := (Below.refl _ _).drew
      have RD := (P.out.below hbd).own.own.read hw hdk (J.fr + i) (by omega)
      rw [Int.natCast_add] at RD
      replace RD := Lib.hid RD
      go_wp2_with fail
      have QD : Hid (wr.drew.cell? ⟨J.p, 0, none⟩ = some (.pointer (some ⟨J.dp, 0, none⟩)) ∧ wr.drew.cell? ⟨J.p, 1, none⟩ = some (.int .i64 (J.fr : Nat))) := Lib.hid ⟨P.out.is.c0, P.out.is.c1⟩
      have hwrap : IntKind.i64.wrap ((J.fr : Nat) + (i : Nat)) = ((J.fr : Nat) + (i : Nat) : Int) := IntWalk.i64_in _ (by omega)
      refine wp_region_held_drew (S := fun W => W.cell? ⟨J.p, 0, none⟩ = some (.pointer (some ⟨J.dp, 0, none⟩)) ∧ W.cell? ⟨J.p, 1, none⟩ = some (.int .i64 (J.fr : Nat))) (by kernel_rfl) QD.out (fun _ => ?_)
      refine wpAnyH_take (i := 0) (oi := { dst := some 24, op := Op.move (Operand.tmp 0), type := 30, pos := "sector.go:21", after := #[], guard := none }) (v := ?_) rfl (by kernel_rfl) (by kernel_rfl) (by kernel_rfl) (fun _ _ _ h => h) (Or.inl ⟨by rfl, ?_⟩) QD.out ?_
      rotate_left
      · (intro w hw; obtain ⟨e0, e1⟩ := hw; go_simp; try with_reducible rfl)
      simp only [Act.put, List.setIfInBounds_toArray, List.set_cons_zero, List.set_cons_succ]
      refine wpAnyH_take (i := 1) (oi := { dst := some 25, op := Op.nilCheck (Operand.tmp 24), type := 0, pos := "sector.go:21", after := #[{ on := 0, ground := Ground.data }], guard := none }) (v := ?_) rfl (by kernel_rfl) (by kernel_rfl) (by kernel_rfl) (fun _ _ _ h => h) (Or.inl ⟨by rfl, ?_⟩) QD.out ?_
      rotate_left
      · (intro w hw; obtain ⟨e0, e1⟩ := hw; go_simp; try with_reducible rfl)
      simp only [Act.put, List.setIfInBounds_toArray, List.set_cons_zero, List.set_cons_succ]
      refine wpAnyH_take (i := 2) (oi := { dst := some 26, op := Op.fieldAddr 57 (Operand.tmp 25) 0, type := 0, pos := "sector.go:21", after := #[{ on := 1, ground := Ground.data }], guard := none }) (v := ?_) rfl (by kernel_rfl) (by kernel_rfl) (by kernel_rfl) (fun _ _ _ h => h) (Or.inl ⟨by rfl, ?_⟩) QD.out ?_
      rotate_left
      · (intro w hw; obtain ⟨e0, e1⟩ := hw; go_simp; try with_reducible rfl)
      simp only [Act.put, List.setIfInBounds_toArray, List.set_cons_zero, List.set_cons_succ]
      refine wpAnyH_take (i := 3) (oi := { dst := some 27, op := Op.load 26 (Operand.tmp 26), type := 26, pos := "sector.go:21", after := #[{ on := 2, ground := Ground.data }], guard := none }) (v := ?_) rfl (by kernel_rfl) (by kernel_rfl) (by kernel_rfl) (fun _ _ _ h => h) (Or.inl ⟨by rfl, ?_⟩) QD.out ?_
      rotate_left
      · (intro w hw; obtain ⟨e0, e1⟩ := hw; go_simp; try with_reducible rfl)
      simp only [Act.put, List.setIfInBounds_toArray, List.set_cons_zero, List.set_cons_succ]
      refine wpAnyH_take (i := 4) (oi := { dst := some 28, op := Op.move (Operand.tmp 0), type := 30, pos := "sector.go:21", after := #[], guard := none }) (v := ?_) rfl (by kernel_rfl) (by kernel_rfl) (by kernel_rfl) (fun _ _ _ h => h) (Or.inl ⟨by rfl, ?_⟩) QD.out ?_
      rotate_left
      · (intro w hw; obtain ⟨e0, e1⟩ := hw; go_simp; try with_reducible rfl)
      simp only [Act.put, List.setIfInBounds_toArray, List.set_cons_zero, List.set_cons_succ]
      refine wpAnyH_take (i := 5) (oi := { dst := some 29, op := Op.nilCheck (Operand.tmp 28), type := 0, pos := "sector.go:21", after := #[{ on := 4, ground := Ground.data }], guard := none }) (v := ?_) rfl (by kernel_rfl) (by kernel_rfl) (by kernel_rfl) (fun _ _ _ h => h) (Or.inl ⟨by rfl, ?_⟩) QD.out ?_
      rotate_left
      · (intro w hw; obtain ⟨e0, e1⟩ := hw; go_simp; try with_reducible rfl)
      simp only [Act.put, List.setIfInBounds_toArray, List.set_cons_zero, List.set_cons_succ]
      refine wpAnyH_take (i := 6) (oi := { dst := some 30, op := Op.fieldAddr 57 (Operand.tmp 29) 1, type := 0, pos := "sector.go:21", after := #[{ on := 5, ground := Ground.data }], guard := none }) (v := ?_) rfl (by kernel_rfl) (by kernel_rfl) (by kernel_rfl) (fun _ _ _ h => h) (Or.inl ⟨by rfl, ?_⟩) QD.out ?_
      rotate_left
      · (intro w hw; obtain ⟨e0, e1⟩ := hw; go_simp; try with_reducible rfl)
      simp only [Act.put, List.setIfInBounds_toArray, List.set_cons_zero, List.set_cons_succ]
      refine wpAnyH_take (i := 7) (oi := { dst := some 31, op := Op.load 3 (Operand.tmp 30), type := 3, pos := "sector.go:21", after := #[{ on := 6, ground := Ground.data }], guard := none }) (v := ?_) rfl (by kernel_rfl) (by kernel_rfl) (by kernel_rfl) (fun _ _ _ h => h) (Or.inl ⟨by rfl, ?_⟩) QD.out ?_
      rotate_left
      · (intro w hw; obtain ⟨e0, e1⟩ := hw; go_simp; try with_reducible rfl)
      simp only [Act.put, List.setIfInBounds_toArray, List.set_cons_zero, List.set_cons_succ]
      refine wpAnyH_take (i := 8) (oi := { dst := some 32, op := Op.move (Operand.tmp 5), type := 3, pos := "sector.go:21", after := #[], guard := none }) (v := ?_) rfl (by kernel_rfl) (by kernel_rfl) (by kernel_rfl) (fun _ _ _ h => h) (Or.inl ⟨by rfl, ?_⟩) QD.out ?_
      rotate_left
      · (intro w hw; obtain ⟨e0, e1⟩ := hw; go_simp; try with_reducible rfl)
      simp only [Act.put, List.setIfInBounds_toArray, List.set_cons_zero, List.set_cons_succ]
      refine wpAnyH_take (i := 9) (oi := { dst := some 33, op := Op.binOp BinOp.add 3 (Operand.tmp 31) (Operand.tmp 32) 3, type := 3, pos := "sector.go:21", after := #[{ on := 7, ground := Ground.data }, { on := 8, ground := Ground.data }], guard := none }) (v := .int .i64 ((J.fr : Nat) + (i : Nat))) rfl (by kernel_rfl) (by kernel_rfl) (by kernel_rfl) (fun _ _ _ h => h) (Or.inl ⟨by rfl, ?_⟩) QD.out ?_
      · (intro w hw; obtain ⟨e0, e1⟩ := hw; go_simp; try rw [hwrap])
      simp only [Act.put, List.setIfInBounds_toArray, List.set_cons_zero, List.set_cons_succ]
      refine wpAnyH_ready (rs := [10]) (by kernel_rfl) (by simp) ?_
      refine AllReadyH.cons (o := { dst := some 34, op := Op.call { callee := Callee.value (Operand.func 45), args := #[Operand.tmp 27, Operand.tmp 33], argTypes := #[26, 3] }, type := 75, pos := "sector.go:21", after := #[{ on := 3, ground := Ground.data }, { on := 9, ground := Ground.data }], guard := none }) rfl (fun K hK => ?_) AllReadyH.nil
      go_simp
      refine RD.out.mono ?_
      rintro r w1 ⟨g, rfl, hg, hbb, hlb, hb1, -⟩
      have Q1 : Hid (w1.cell? ⟨J.p, 0, none⟩ = some (.pointer (some ⟨J.dp, 0, none⟩)) ∧ w1.cell? ⟨J.p, 1, none⟩ = some (.int .i64 (J.fr : Nat))) := Lib.hid (by
        obtain ⟨y0, y1⟩ := QD.out
        exact ⟨(hb1.cell (p := ⟨J.p, 0, none⟩) (World.block_lt_of_cell? _ _ y0)).trans y0, (hb1.cell (p := ⟨J.p, 1, none⟩) (World.block_lt_of_cell? _ _ y1)).trans y1⟩)
      refine hK.out _ _ Q1.out (fun _ => ?_)
      clear hK K
      try simp only [Act.put, List.setIfInBounds_toArray, List.set_cons_zero, List.set_cons_succ]
      refine wpAnyH_take (i := 11) (oi := { dst := some 23, op := Op.move (Operand.tmp 34), type := 75, pos := "sector.go:21", after := #[{ on := 10, ground := Ground.data }], guard := none }) (v := ?_) rfl (by kernel_rfl) (by kernel_rfl) (by kernel_rfl) (fun _ _ _ h => h) (Or.inl ⟨by rfl, ?_⟩) Q1.out ?_
      rotate_left
      · (intro w hw; obtain ⟨e0, e1⟩ := hw; go_simp; try with_reducible rfl)
      simp only [Act.put, List.setIfInBounds_toArray, List.set_cons_zero, List.set_cons_succ]
      refine wpAnyH_take (i := 12) (oi := { dst := some 35, op := Op.extract (Operand.tmp 23) 0, type := 35, pos := "sector.go:21", after := #[{ on := 11, ground := Ground.data }], guard := none }) (v := ?_) rfl (by kernel_rfl) (by kernel_rfl) (by kernel_rfl) (fun _ _ _ h => h) (Or.inl ⟨by rfl, ?_⟩) Q1.out ?_
      rotate_left
      · (intro w hw; obtain ⟨e0, e1⟩ := hw; go_simp; try with_reducible rfl)
      simp only [Act.put, List.setIfInBounds_toArray, List.set_cons_zero, List.set_cons_succ]
      refine wpAnyH_take (i := 13) (oi := { dst := some 36, op := Op.extract (Operand.tmp 23) 1, type := 27, pos := "sector.go:21", after := #[{ on := 11, ground := Ground.data }, { on := 14, ground := Ground.gcOnly Departure.lateStores }], guard := none }) (v := ?_) rfl (by kernel_rfl) (by kernel_rfl) (by kernel_rfl) (fun _ _ _ h => h) (Or.inl ⟨by rfl, ?_⟩) Q1.out ?_
      rotate_left
      · (intro w hw; obtain ⟨e0, e1⟩ := hw; go_simp; try with_reducible rfl)
      simp only [Act.put, List.setIfInBounds_toArray, List.set_cons_zero, List.set_cons_succ]
      refine wpAnyH_take (i := 14) (oi := { dst := some 6, op := Op.assign (Operand.tmp 35), type := 35, pos := "sector.go:21", after := #[{ on := 12, ground := Ground.data }, { on := 10, ground := Ground.chain }, { on := 0, ground := Ground.phase }, { on := 1, ground := Ground.phase }, { on := 2, ground := Ground.phase }, { on := 3, ground := Ground.phase }, { on := 4, ground := Ground.phase }, { on := 5, ground := Ground.phase }, { on := 6, ground := Ground.phase }, { on := 7, ground := Ground.phase }, { on := 8, ground := Ground.phase }, { on := 9, ground := Ground.phase }, { on := 10, ground := Ground.phase }, { on := 11, ground := Ground.phase }, { on := 12, ground := Ground.phase }, { on := 13, ground := Ground.textOnly Departure.lateStores }], guard := none }) (v := ?_) rfl (by kernel_rfl) (by kernel_rfl) (by kernel_rfl) (fun _ _ _ h => h) (Or.inl ⟨by rfl, ?_⟩) Q1.out ?_
      rotate_left
      · (intro w hw; obtain ⟨e0, e1⟩ := hw; go_simp; try with_reducible rfl)
      simp only [Act.put, List.setIfInBounds_toArray, List.set_cons_zero, List.set_cons_succ]
      refine wpAnyH_take (i := 15) (oi := { dst := some 7, op := Op.assign (Operand.tmp 36), type := 27, pos := "sector.go:21", after := #[{ on := 13, ground := Ground.data }, { on := 14, ground := Ground.chain }, { on := 0, ground := Ground.phase }, { on := 1, ground := Ground.phase }, { on := 2, ground := Ground.phase }, { on := 3, ground := Ground.phase }, { on := 4, ground := Ground.phase }, { on := 5, ground := Ground.phase }, { on := 6, ground := Ground.phase }, { on := 7, ground := Ground.phase }, { on := 8, ground := Ground.phase }, { on := 9, ground := Ground.phase }, { on := 10, ground := Ground.phase }, { on := 11, ground := Ground.phase }, { on := 12, ground := Ground.phase }, { on := 13, ground := Ground.phase }, { on := 14, ground := Ground.phase }], guard := none }) (v := ?_) rfl (by kernel_rfl) (by kernel_rfl) (by kernel_rfl) (fun _ _ _ h => h) (Or.inl ⟨by rfl, ?_⟩) Q1.out ?_
      rotate_left
      · (intro w hw; obtain ⟨e0, e1⟩ := hw; go_simp; try with_reducible rfl)
      simp only [Act.put, List.setIfInBounds_toArray, List.set_cons_zero, List.set_cons_succ]
      refine wpAnyH_done (by kernel_rfl) ?_ _
      clear hwrap QD Q1 c1
      have hb1' : Below wr.heap.size wr w1 := below_next hbd hb1
      have P1 := Lib.hid (P.out.below hb1')
      have BB1 := Lib.hid (show BB w1 g (secB m (J.fr + i)) from hbb)
      have hlb1 : (secB m (J.fr + i)).length = m.size := hlb
      have MA := Lib.hid (mark_any J.p J.e hok.e w1 P1.out.is.c4)
      have HQ := Lib.hid (hq.below hb1' hq.lt)
      have HFA : Hid (∀ g b, some (g, b) ∈ ls → Holds w1 (some ⟨g, 4, none⟩) b ∧ Bytes w1 g ∧ 0 < b.length ∧ b.length ≤ 1020) := Lib.hid fun g b hm => by
        obtain ⟨a1, a2, a3⟩ := hfa g b hm
        exact ⟨a1.below hb1', a2.below hb1', a3⟩
      have HB1 := Lib.hid (below_next hb hb1')
      have hgw : w.heap.size ≤ g := Nat.le_trans hb.size hg
      clear hbd hb1 hbb hlb RD P hq hfa hb hb1'
      go_wp2_with fail
      with_reducible refine MA.out.mono ?_
      rintro r w2 ⟨g2, rfl, hg2, hbb2, hb2⟩
      have hsz1 : 64 ≤ m.size := by have := hok.size; have := hok.f1; omega
      have hsz2 : m.size ≤ 1024 := by have := hok.size; have := hok.f2; omega
      have PR := prefix_any (some ⟨g, 0, none⟩) (some ⟨g2, 0, none⟩) m.size 4 (secB m (J.fr + i)) (word4 J.e) w2 (BB1.out.below hb2).holds0 hbb2.holds0 (by rw [hlb1, word4_length]; omega) (by rw [hlb1]; omega)
      rw [hlb1, word4_length] at PR
      replace PR := Lib.hid PR
      have BB2 := Lib.hid (BB1.out.below hb2)
      have HQ2 := Lib.hid (HQ.out.below hb2 HQ.out.lt)
      have HFA2 : Hid (∀ g b, some (g, b) ∈ ls → Holds w2 (some ⟨g, 4, none⟩) b ∧ Bytes w2 g ∧ 0 < b.length ∧ b.length ≤ 1020) := Lib.hid fun g b hm => by
        obtain ⟨a1, a2, a3⟩ := HFA.out g b hm
        exact ⟨a1.below hb2, a2.below hb2, a3⟩
      have HB2 := Lib.hid (below_next HB1.out hb2)
      clear hg2 hbb2 hb2 MA HQ HFA HB1 BB1
      go_wp2_with fail
      with_reducible refine PR.out.mono ?_
      rintro r w3 ⟨rfl, rfl⟩
      have HLS := Lib.hid (fldsC_snoc m J.e J.fr i)
      unfold fldC at HLS
      have hrep : List.replicate (n - i) (none : Fld) = none :: List.replicate (n - (i + 1)) none := by
        rw [show n - i = (n - (i + 1)) + 1 by omega, List.replicate_succ]
      cases hpre : ((secB m (J.fr + i)).take 4 == word4 J.e) with
      | true =>
        rw [hpre, if_pos rfl] at HLS
        have hszi : (4 : Int) ≤ (m.size : Int) := by omega
        have ci := HQ2.out.cell i
        have fi := HQ2.out.frozen i
        rw [hrep] at ci
        simp only [List.map_append, List.map_cons, List.getElem?_toArray] at ci
        rw [List.getElem?_append_right (by simp [hlen])] at ci
        simp only [List.length_map, hlen, Nat.sub_self, List.getElem?_cons_zero] at ci
        go_wp2_with fail
        have hbl : ((secB m (J.fr + i)).drop 4).length = m.size - 4 := by rw [List.length_drop, hlb1]
        have hFV : (.slice (some ⟨g, 4, none⟩) (m.size - 4) (m.size - 4) : Value) = FV (some (g, (secB m (J.fr + i)).drop 4)) := by
          show _ = Value.slice (some ⟨g, 4, none⟩) ((secB m (J.fr + i)).drop 4).length ((secB m (J.fr + i)).drop 4).length
          rw [hbl]
        have hBg : Bytes w2 g := ⟨_, _, BB2.out⟩
        go_roundg (n - i)
        case measure => omega
        case rel =>
          refine ⟨i + 1, ls ++ [some (g, (secB m (J.fr + i)).drop 4)], by omega, by omega, by go_num, by simp [hlen], ?_, ?_, ?_, HB2.out.setCell (p := ⟨w.heap.size, i, none⟩) (Nat.le_refl _) _⟩
          · have := HQ2.out.set_ i (.slice (some ⟨g, 4, none⟩) (m.size - 4) (m.size - 4))
            rw [hrep] at this
            conv at this => arg 4; rw [hFV, ← hlen, set_mid]
            rw [hlen] at this
            exact this
          · intro g' b hm
            rcases List.mem_append.1 hm with hm | hm
            · obtain ⟨a1, a2, a3⟩ := HFA2.out g' b hm
              exact ⟨holds_set a1 (fun a e => by cases e; exact a2) HQ2.out, (bytes_set a2 HQ2.out).1, a3⟩
            · simp at hm
              obtain ⟨rfl, rfl⟩ := hm
              exact ⟨holds_set (BB2.out.holds 4) (fun a e => by cases e; exact hBg) HQ2.out, (bytes_set hBg HQ2.out).1, by rw [hbl]; omega, by rw [hbl]; omega⟩
          · rw [List.map_append, hls, HLS.out]
            rfl
      | false =>
        rw [hpre, if_neg (by simp)] at HLS
        go_wp2_with fail
        go_roundg (n - i)
        case measure => omega
        case rel =>
          refine ⟨i + 1, ls ++ [none], by omega, by omega, by go_num, by simp [hlen], ?_, ?_, ?_, HB2.out⟩
          · have := HQ2.out
            rw [hrep] at this
            simpa using this
          · intro g b hm
            rcases List.mem_append.1 hm with hm | hm
            · exact HFA2.out g b hm
            · simp at hm
          · rw [List.map_append, hls, HLS.out]
            rfl
    · have hin : i = n := by omega
      subst hin
      have FIN : Hid (ls.map (Option.map Prod.snd) = fldsC m J.e J.fr i ∧ FAt wr w.heap.size ls ∧ Below w.heap.size w wr) := Lib.hid ⟨hls, ⟨by simpa using hq, hfa⟩, hb⟩
      have hlti : ¬ (i : Int) < (i : Int) := by omega
      clear hq hfa hls hb
      go_wp2_with fail
      go_ret2
      exact ⟨_, ls, by rw [hlen]; rfl, FIN.out⟩
end Go.Proofs.Ythoihlebplmcoaa
