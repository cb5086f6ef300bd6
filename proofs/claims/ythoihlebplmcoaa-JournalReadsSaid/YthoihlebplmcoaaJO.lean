/- Open. -/
import Derived.Test.YthoihlebplmcoaaJN
namespace Go.Proofs.Ythoihlebplmcoaa
open Go.RowKit Go.Shelf
set_option linter.unusedVariables false
theorem jopen_none (fr tt : Int) (e : Nat) (w : World) : Calls Try.prog 9 #[.pointer none, .int .i64 fr, .int .i64 tt, .int .u32 (e : Nat)] w fun r w' => r = .returned (.tuple #[.pointer none, .int .i64 2]) ∧ w = w' := by
  go_enter Try.func9, Try.ntmps9
  go_wp2_with fail
  go_ret2
  exact ⟨rfl, rfl⟩
set_option maxRecDepth 100000 in
theorem jopen_bad {w0 w : World} {p : Nat} {m : Mod} (h : OwnD w0 w p m) (fr tt : Int) (e : Nat) (hb : fr < 0 ∨ tt ≤ fr ∨ (m.n : Int) < tt) : Calls Try.prog 9 #[.pointer (some ⟨p, 0, none⟩), .int .i64 fr, .int .i64 tt, .int .u32 (e : Nat)] w fun r w' => r = .returned (.tuple #[.pointer none, .int .i64 1]) ∧ w = w' := by
  obtain ⟨F, h1, _⟩ := h
  have S := Lib.hid (h1.sectors.mono fun _ _ hh => And.intro hh.1 hh.2.symm)
  clear h1
  by_cases h0 : fr < 0
  · go_enter Try.func9, Try.ntmps9
    go_wp2_with fail
    go_ret2
    exact ⟨rfl, rfl⟩
  · by_cases h1 : tt ≤ fr
    · go_enter Try.func9, Try.ntmps9
      go_wp2_with fail
      go_ret2
      exact ⟨rfl, rfl⟩
    · have h2 : (m.n : Int) < tt := by omega
      go_enter Try.func9, Try.ntmps9
      go_wp2_with fail
      refine S.out.mono ?_
      rintro r w1 ⟨rfl, rfl⟩
      go_wp2_with fail
      go_ret2
      exact ⟨rfl, rfl⟩
/-- the row of the fields, as long as they are of the epoch. -/
def rowO : List (Option (List UInt8)) → List UInt8
  | [] => []
  | none :: _ => []
  | some b :: l => b ++ rowO l
theorem rowF_eq : ∀ l : List Fld, rowF l = rowO (l.map (Option.map Prod.snd))
  | [] => rfl
  | none :: _ => rfl
  | some (_, b) :: l => by
    show b ++ rowF l = b ++ _
    rw [rowF_eq l]
def hasC (l : List (Option (List UInt8))) (i : Nat) : Bool := match l[i]? with | some (some _) => true | _ => false
theorem hasF_eq (l : List Fld) : hasF l = hasC (l.map (Option.map Prod.snd)) := by
  funext i
  unfold hasF hasC
  rw [List.getElem?_map]
  cases l[i]? with
  | none => rfl
  | some x => cases x <;> rfl
/-- the fields that are seen, the row, and where its last record ends. -/
def opF (m : Mod) (fr tt e : Nat) : List (Option (List UInt8)) := fldsC m e fr (tt - fr)
def opR (m : Mod) (fr tt e : Nat) : List UInt8 := rowO (opF m fr tt e)
def opE (m : Mod) (fr tt e : Nat) : Nat := lastEnd (standR e (m.size - 4) (opR m fr tt e))
/-- the journal that is opened. -/
def opJ (m : Mod) (p dp fr tt e : Nat) (A : Option Addr) : Jd := ⟨p, dp, fr, tt, m.size - 4, e, A, opE m fr tt e, (opR m fr tt e).take (opE m fr tt e), opE m fr tt e, 0⟩
def opM (m : Mod) (fr tt e : Nat) : Mod × Int := clrF fr (hasC (opF m fr tt e)) m false ((((opR m fr tt e).take (opE m fr tt e)).length + (m.size - 4) - 1) / (m.size - 4)) (tt - fr - (((opR m fr tt e).take (opE m fr tt e)).length + (m.size - 4) - 1) / (m.size - 4))
theorem JP.found {w0 w w' : World} {J J' : Jd} {m : Mod} (h : JP w0 w J m) (hw : JIs w' J') (hr : JRow w' J'.A J'.c J'.row) (hn : ∀ k, ob J'.A = some k → w.heap.size ≤ k) (ht : Touch [J.p] w w') (e1 : J'.p = J.p) (e2 : J'.dp = J.dp) (ok : J'.Ok m.n m.size) : JP w0 w' J' m := by
  have h1 : OwnA (fun k => J'.v.ownBlock = some k) w0 w J.dp m := h.own.avoid fun k hk => .inr (hn k (by unfold Jd.v at hk; rw [ob_own] at hk; exact hk))
  refine ⟨?_, hw, e1 ▸ h.new, fun k hk => Nat.le_trans h.own.bel.size (hn k (by unfold Jd.v at hk; rw [ob_own] at hk; exact hk)), hr, ok⟩
  rw [e2]
  exact h1.touch ht fun k hk => by
    have : k = J.p := by simpa using hk
    subst this
    exact ⟨h.new, .inr ⟨_, _, _, h.is, by decide, by decide, by decide, by decide⟩⟩
theorem fldsC_each (m : Mod) (e fr n : Nat) (hs : ∀ k, (secB m k).length = m.size) : ∀ b, some b ∈ fldsC m e fr n → b.length = m.size - 4 := fun b hb => by
  unfold fldsC at hb
  obtain ⟨i, _, hi⟩ := List.mem_map.1 hb
  unfold fldC at hi
  split at hi
  · injection hi with hi
    rw [← hi, List.length_drop, hs]
  · cases hi
theorem secB_len {w0 w : World} {p : Nat} {m : Mod} (h : OwnD w0 w p m) (k : Nat) : (secB m k).length = m.size := by
  obtain ⟨F, ⟨d, h1, _, rfl, _⟩, _⟩ := h
  unfold secB
  show (pad d.size (contAt ones d k)).length = d.size
  by_cases hk : k < d.secs.length
  · have e : readL d k hk = pad d.size (contAt ones d k) := by
      unfold readL contAt
      rw [List.getElem?_eq_getElem hk]
    rw [← e]
    exact readL_length h1 k hk
  · have e : contAt ones d k = [] := by
      unfold contAt
      rw [List.getElem?_eq_none (by omega)]
    rw [e]
    simp [pad, zeros]
theorem rowO_len (f : Nat) : ∀ l : List (Option (List UInt8)), (∀ b, some b ∈ l → b.length ≤ f) → (rowO l).length ≤ l.length * f
  | [], _ => Nat.zero_le _
  | none :: l, _ => Nat.zero_le _
  | some b :: l, h => by
    have := rowO_len f l fun b hm => h b (List.mem_cons_of_mem _ hm)
    have := h b List.mem_cons_self
    simp only [rowO, List.length_append, List.length_cons, Nat.add_mul, Nat.one_mul]
    omega
/-- what is told of an opening. -/
def Opened (w0 w : World) (dp : Nat) (m : Mod) (fr tt e : Nat) (M : Mod × Int) (r : Ending) (w' : World) : Prop := if M.2 = 0 then ∃ p A, r = .returned (.tuple #[.pointer (some ⟨p, 0, none⟩), .int .i64 0]) ∧ w.heap.size ≤ p ∧ JP w0 w' (opJ m p dp fr tt e A) M.1 ∧ (∀ k, ob A = some k → w.heap.size ≤ k) else r = .returned (.tuple #[.pointer none, .int .i64 M.2]) ∧ OwnA (fun _ => False) w0 w' dp M.1
set_option maxRecDepth 100000 in
set_option maxHeartbeats 2000000 in
theorem jopen_good {w0 w : World} {dp : Nat} {m : Mod} (h : OwnA (fun _ => False) w0 w dp m) (fr tt e : Nat) (h1 : fr < tt) (h2 : tt ≤ m.n) (h3 : m.n ≤ 98) (hs1 : 64 ≤ m.size) (hs2 : m.size ≤ 1024) (he : e < 4294967296) (hl : LowS m 700) (hdk : m.dark = false) :
    Calls Try.prog 9 #[.pointer (some ⟨dp, 0, none⟩), .int .i64 (fr : Nat), .int .i64 (tt : Nat), .int .u32 (e : Nat)] w fun r w' => Still w w' ∧ Opened w0 w dp m fr tt e (opM m fr tt e) r w' := by
  have h4 : (fr : Int) < (tt : Int) := by omega
  have h5 : (tt : Int) ≤ (m.n : Int) := by omega
  have h6 : 0 ≤ (fr : Int) := by omega
  have S := Lib.hid (by obtain ⟨F, hF, _⟩ := h.own; exact (hF.sectors.mono fun _ _ hh => And.intro hh.1 hh.2.symm))
  have Z := Lib.hid (by obtain ⟨F, hF, _⟩ := h.own; exact (hF.size.mono fun _ _ hh => And.intro hh.1 hh.2.symm))
  have hsi : (m.size : Int) ≤ 1024 := by omega
  have hsi2 : (64 : Int) ≤ (m.size : Int) := by omega
  have H := Lib.hid h
  clear h
  go_enter Try.func9, Try.ntmps9
  go_wp2_with fail
  refine S.out.mono ?_
  rintro r w1 ⟨rfl, rfl⟩
  go_wp2_with fail
  refine Z.out.mono ?_
  rintro r w1 ⟨rfl, rfl⟩
  go_wp2_with fail
  obtain ⟨w1, hw1⟩ : ∃ w1, w1 = w.alloc (.cells #[.pointer (some ⟨dp, 0, none⟩), .int .i64 (fr : Nat), .int .i64 (tt : Nat), .int .i64 ((m.size : Nat) - 4), .int .u32 (e : Nat), .slice none 0 0, .int .i64 0, .int .i64 0] 57) := ⟨_, rfl⟩
  rw [← hw1]
  have b1 : Below w.heap.size w w1 := by rw [hw1]; exact (Below.refl _ _).alloc (Nat.le_refl _) _
  have hok : (⟨w.heap.size, dp, fr, tt, m.size - 4, e, none, 0, [], 0, 0⟩ : Jd).Ok m.n m.size := ⟨h1, h2, by omega, by show m.size = m.size - 4 + 4; omega, by show 60 ≤ m.size - 4; omega, by show m.size - 4 ≤ 1020; omega, he, by simp⟩
  have P1 : Hid (JP w0 w1 ⟨w.heap.size, dp, fr, tt, m.size - 4, e, none, 0, [], 0, 0⟩ m) := Lib.hid (by
    refine ⟨(H.out.below b1).avoid (fun k hk => by cases hk), ?_, H.out.bel.size, (fun k hk => by cases hk), ⟨Holds.nil _ _, Nat.le_refl _, Nat.zero_le _, (fun a ha => by cases ha), .inr rfl⟩, hok⟩
    rw [hw1]
    have e4 : ((m.size - 4 : Nat) : Int) = (m.size : Int) - 4 := by omega
    show Whole _ w.heap.size 57 #[_, _, _, .int .i64 ((m.size - 4 : Nat) : Int), _, _, _, _]
    rw [e4]
    exact Whole.new w _ _)
  have FI := Lib.hid (fields_any P1.out hdk (by have := hl.waits; omega))
  have hsec : ∀ k, (secB m k).length = m.size := fun k => by
    exact secB_len H.out.own k
  have B1 := Lib.hid b1
  clear hw1 b1 S Z
  with_reducible refine FI.out.mono ?_
  rintro r w2 ⟨q, l, rfl, hls, hfa, hb2⟩
  have hll : l.length = tt - fr := by
    have := congrArg List.length hls
    simpa [fldsC] using this
  have hln : l.length ≤ 98 := by omega
  have HLL := Lib.hid hll
  have P2 := Lib.hid (P1.out.below hb2)
  have F2 := Lib.hid hfa
  have HLS := Lib.hid hls
  have B2 := Lib.hid (below_next B1.out hb2)
  have hrl : rowF l = opR m fr tt e := by rw [rowF_eq, hls]; rfl
  have hrlen : (opR m fr tt e).length ≤ 100000 := by
    have h := rowO_len 1020 (opF m fr tt e) fun b hb => by
      have := fldsC_each m e fr (tt - fr) hsec b hb
      omega
    have h' : (opF m fr tt e).length = tt - fr := by simp [opF, fldsC]
    unfold opR
    have : (opF m fr tt e).length * 1020 ≤ 98 * 1020 := Nat.mul_le_mul_right _ (by omega)
    omega
  have FD := callsIn_wide.1 (find_in P2.out.is he hok.f1 hok.f2 q l hfa (by rw [hrl]; exact hrlen) (by omega))
  rw [hrl] at FD
  replace FD := Lib.hid FD
  clear hls hfa hb2 FI P1 B1 hll
  go_wp2_with fail
  with_reducible refine FD.out.mono ?_
  rintro r w3 ⟨⟨v, rfl⟩, A, hj3, hr3, ha3, ht3⟩
  have hE : lastEnd (standR e (m.size - 4) (opR m fr tt e)) = opE m fr tt e := rfl
  rw [hE] at hj3 hr3
  have hok3 : (opJ m w.heap.size dp fr tt e A).Ok m.n m.size := ⟨hok.lo, hok.hi, hok.n, hok.size, hok.f1, hok.f2, hok.e, by
    show ((opR m fr tt e).take _).length ≤ _
    rw [List.length_take]
    omega⟩
  have P3 : Hid (JP w0 w3 (opJ m w.heap.size dp fr tt e A) m) := Lib.hid (P2.out.found (J' := opJ m w.heap.size dp fr tt e A) hj3 hr3 ha3 ht3 rfl rfl hok3)
  have hB3 : Below w.heap.size w w3 := Touch.fresh B2.out ht3 fun x hx => by
    have : x = w.heap.size := by simpa using hx
    omega
  have hqp : q ≠ w.heap.size := fun e => by
    subst e
    have h1 := P2.out.is
    have h2 := F2.out.whole
    unfold JIs Whole at h1
    unfold Whole at h2
    rw [h1] at h2
    simp at h2
  have F3 : FAt w3 q l := by
    refine ⟨(ht3.block q F2.out.whole.lt (by simpa using hqp)).trans F2.out.whole, fun g b hm => ?_⟩
    obtain ⟨a1, a2, a3⟩ := F2.out.each g b hm
    have hgp : g ≠ w.heap.size := fun e => by
      subst e
      exact P2.out.p_bytes a2
    refine ⟨a1.touch ht3 fun x hx hxm => ?_, ?_, a3⟩
    · cases hx
      exact hgp (by simpa using hxm)
    · obtain ⟨cs, z, e⟩ := a2
      exact ⟨cs, z, (ht3.block g (Array.getElem?_eq_some_iff.1 e).1 (by simpa using hgp)).trans e⟩
  have CL := clear_any P3.out q l F3 (by omega) hl
  rw [hasF_eq, HLS.out, show l.length - _ = tt - fr - _ by rw [HLL.out]] at CL
  have hM : clrF (opJ m w.heap.size dp fr tt e A).fr (hasC (fldsC m e fr (tt - fr))) m false (opJ m w.heap.size dp fr tt e A).last (tt - fr - (opJ m w.heap.size dp fr tt e A).last) = opM m fr tt e := rfl
  rw [hM, show (opJ m w.heap.size dp fr tt e A).ptr = .pointer (some ⟨w.heap.size, 0, none⟩) from rfl] at CL
  replace CL := Lib.hid CL
  have hA3 : ∀ k, ob A = some k → w.heap.size ≤ k := fun k hk => Nat.le_trans B2.out.size (ha3 k hk)
  have S3 := Lib.hid (And.intro (Still.of_below hB3) hA3)
  clear hj3 hr3 ha3 ht3 hB3 F3 hM P2 F2 B2 FD hA3
  obtain ⟨M, hMM⟩ : ∃ M, opM m fr tt e = M := ⟨_, rfl⟩
  rw [hMM] at CL
  have HM := Lib.hid hMM
  clear hMM
  go_wp2_with fail
  with_reducible refine CL.out.mono ?_
  rintro r w4 ⟨rfl, p4, s4⟩
  have P4 := Lib.hid p4
  have S4 := Lib.hid (S3.out.1.trans s4)
  clear p4 s4 CL P3
  by_cases hr : M.2 = 0
  · rw [hr]
    go_wp2_with fail
    go_ret2
    refine ⟨S4.out, ?_⟩
    unfold Opened
    rw [HM.out, if_pos hr]
    exact ⟨_, A, rfl, Nat.le_refl _, P4.out, S3.out.2⟩
  · have hrb : (M.2 == 0) = false := by simpa using hr
    go_wp2_with fail
    go_ret2
    refine ⟨S4.out, ?_⟩
    unfold Opened
    rw [HM.out, if_neg hr]
    exact ⟨rfl, P4.out.own.avoid fun k hk => hk.elim⟩
end Go.Proofs.Ythoihlebplmcoaa
