/- A dark disk's fields; clear. -/
import Derived.Test.YthoihlebplmcoaaJM
namespace Go.Proofs.Ythoihlebplmcoaa
open Go.RowKit Go.Shelf
set_option linter.unusedVariables false
set_option maxRecDepth 100000 in
set_option maxHeartbeats 2000000 in
theorem fields_dark {w0 w : World} {J : Jd} {m : Mod} (h : JP w0 w J m) (hdk : m.dark = true) :
    Calls Try.prog 30 #[J.ptr] w fun r w' => r = .returned (.tuple #[.slice none 0 0, .int .i64 17]) ∧ Below w.heap.size w w' := by
  have hok := h.ok
  have h1 := hok.lo
  have h2 := hok.hi
  have h3 := hok.n
  have c1 := h.is.c1
  have c2 := h.is.c2
  have H := Lib.hid h
  clear h
  obtain ⟨n, hn⟩ : ∃ n, J.tt - J.fr = n := ⟨_, rfl⟩
  have hni : (J.tt : Int) - (J.fr : Int) = (n : Nat) := by omega
  have MK := fun W => make_bs n n rfl (by omega) W
  have hnb : (n : Int) ≤ 600 := by omega
  have hn0 : 0 < n := by omega
  go_enter Try.func30, Try.ntmps30
  go_wp2_with fail
  go_still_tail 9, (by kernel_rfl)
  change wpList _ _ _ _ _ (World.drew _)
  go_wp2_with fail
  rw [MK]
  go_wp2_with fail
  have b1 : Below w.heap.size w (w.alloc (.cells (Array.replicate n (FV none)) 35)).drew := ((Below.refl _ _).alloc (Nat.le_refl _) _).drew
  go_loopg [20] 1 (fun j s20 wr => j = 1 ∧ s20 = .int .i64 0 ∧ Below w.heap.size w wr)
  case atStart => exact ⟨rfl, rfl, b1⟩
  case round =>
    clear b1 MK
    obtain ⟨hj, rfl, hb⟩ := hrel
    have hlti : (0 : Int) < (n : Int) := by omega
    have P := Lib.hid (H.out.below hb)
    have hbd : ∀ k, Below wr.heap.size wr (wr.drewN k) := fun k => below_drewN (Below.refl _ _) k
    have RD : Hid (∀ k, Calls Try.prog 45 #[.pointer (some ⟨J.dp, 0, none⟩), .int .i64 (J.fr : Nat)] (wr.drewN k) fun e w' => e = .returned (.tuple #[.slice none 0 0, .int .i64 17]) ∧ w' = wr.drewN k) := Lib.hid fun k => by
      obtain ⟨F, hF, _⟩ := (P.out.below (hbd k)).own.own
      exact hF.readErr (J.fr : Nat) 17 (by unfold Mod.takes; rw [hdk]; rfl) (by decide)
    have c0 := P.out.is.c0
    have c1 := P.out.is.c1
    have HB := Lib.hid hb
    clear hb
    go_wp2_with fail
    go_quiet ((go_at_call 45; exact Calls.quiet_of_same (RD.out _)))
    go_wp2_with fail
    go_ret2
    exact ⟨rfl, below_drewN HB.out _⟩
/-- sectors of the epoch behind the records are written full of 0, until one may not be; then the disk is flushed, if there are any. -/
def clrF (fr : Nat) (has : Nat → Bool) : Mod → Bool → Nat → Nat → Mod × Int
  | m, wt, _, 0 => if wt then (m.flush, m.flushR) else (m, 0)
  | m, wt, i, n + 1 => if has i then (if m.writeR ((fr + i : Nat) : Int) (0 : Nat) = 0 then clrF fr has (m.write ((fr + i : Nat) : Int) []) true (i + 1) n else (m.write ((fr + i : Nat) : Int) [], m.writeR ((fr + i : Nat) : Int) (0 : Nat))) else clrF fr has m wt (i + 1) n
def hasF (l : List Fld) (i : Nat) : Bool := match l[i]? with | some (some _) => true | _ => false
set_option maxRecDepth 100000 in
set_option maxHeartbeats 2000000 in
theorem clear_any {w0 w : World} {J : Jd} {m : Mod} (h : JP w0 w J m) (q : Nat) (l : List Fld) (hF : FAt w q l) (hn : l.length ≤ 600) (hl : LowS m 700) :
    Calls Try.prog 32 #[J.ptr, .slice (some ⟨q, 0, none⟩) l.length l.length] w fun r w' => r = .returned (.int .i64 (clrF J.fr (hasF l) m false J.last (l.length - J.last)).2) ∧ JP w0 w' J (clrF J.fr (hasF l) m false J.last (l.length - J.last)).1 ∧ Still w w' := by
  have hok := h.ok
  have hf1 := hok.f1
  have hf2 := hok.f2
  have hlen := hok.len
  have hfr := hok.lo
  have htt := hok.hi
  have hmn := hok.n
  have BE := Lib.hid (behind_q J.p J.f J.row.length J.c J.A w h.is.c3 h.is.c5 hf1 hf2 (by omega))
  rw [show (J.row.length + J.f - 1) / J.f = J.last from rfl] at BE
  have hlast : J.last ≤ 700000 := by
    have h1 : J.last * 60 ≤ J.last * J.f := Nat.mul_le_mul_left _ hf1
    have h2 : J.last * J.f ≤ J.row.length + J.f - 1 := Nat.div_mul_le_self _ _
    omega
  have H := Lib.hid h
  have HF := Lib.hid hF
  clear h hF
  go_enter Try.func32, Try.ntmps32
  go_wp2_with fail
  with_reducible refine BE.out.mono ?_
  rintro r w1 ⟨rfl, k1, hk1⟩
  obtain ⟨p1, s1⟩ := H.out.rd hk1
  have P1 := Lib.hid p1
  have S1 := Lib.hid s1
  have F1 := Lib.hid (HF.out.still s1)
  clear p1 s1 hk1 BE H HF
  go_wp2_with fail
  go_loopg [5, 6] (J.last + 701) (fun j s5 s6 wr => ∃ (i : Nat) (M : Mod) (wt : Bool), J.last ≤ i ∧ (i ≤ l.length ∨ i = J.last) ∧ J.last + 700 < i + j ∧ s6 = .int .i64 (i : Nat) ∧ s5 = .bool wt ∧ JP w0 wr J M ∧ FAt wr q l ∧ Still w wr ∧ LowS M (700 - (i - J.last)) ∧ clrF J.fr (hasF l) m false J.last (l.length - J.last) = clrF J.fr (hasF l) M wt i (l.length - i))
  case atStart => exact ⟨J.last, m, false, Nat.le_refl _, .inr rfl, by omega, rfl, rfl, P1.out, F1.out, S1.out, hl.mono (by omega), rfl⟩
  case round =>
    obtain ⟨i, M, wt, hi1, hi2, hj, rfl, rfl, hp, hfa, hs, hlw, he⟩ := hrel
    have HE := Lib.hid he
    have HS := Lib.hid hs
    have HP := Lib.hid hp
    have HFA := Lib.hid hfa
    have HLW := Lib.hid hlw
    clear he hs hp hfa hlw P1 S1 F1 hl
    by_cases hlt : i < l.length
    · have hlti : (i : Int) < (l.length : Int) := by omega
      have ci : wr.cell? ⟨q, i, none⟩ = some (FV l[i]) := by
        rw [HFA.out.whole.cell i]
        simp [hlt]
      have st : clrF J.fr (hasF l) M wt i (l.length - i) = if hasF l i then (if M.writeR ((J.fr + i : Nat) : Int) (0 : Nat) = 0 then clrF J.fr (hasF l) (M.write ((J.fr + i : Nat) : Int) []) true (i + 1) (l.length - (i + 1)) else (M.write ((J.fr + i : Nat) : Int) [], M.writeR ((J.fr + i : Nat) : Int) (0 : Nat))) else clrF J.fr (hasF l) M wt (i + 1) (l.length - (i + 1)) := by
        rw [show l.length - i = l.length - (i + 1) + 1 by omega]
        rfl
      cases hli : l[i] with
      | none =>
        rw [hli] at ci
        simp only [FV] at ci
        have hq := fun W => Lib.run_eql_slice_nil (P := Try.prog) W 35 5 none 0 0 0 0 Try.underlying35
        have hh : hasF l i = false := by unfold hasF; rw [List.getElem?_eq_getElem hlt, hli]
        rw [hh, if_neg (by simp)] at st
        have NE := Lib.hid (HE.out.trans st)
        clear st hh HE
        go_wp2_with fail
        go_roundg (J.last + 700 - i)
        case measure => omega
        case rel => exact ⟨i + 1, M, wt, by omega, .inl hlt, by omega, by go_num, rfl, HP.out, HFA.out, HS.out, HLW.out.mono (by omega), NE.out⟩
      | some y =>
        obtain ⟨g, b⟩ := y
        rw [hli] at ci
        simp only [FV] at ci
        have hq := fun W => Lib.run_eql_slice_nil (P := Try.prog) W 35 5 (some ⟨g, 4, none⟩) b.length b.length 0 0 Try.underlying35
        have hh : hasF l i = true := by unfold hasF; rw [List.getElem?_eq_getElem hlt, hli]
        rw [hh, if_pos rfl] at st
        have c0 := HP.out.is.c0
        have c1 := HP.out.is.c1
        have hbd : Below wr.heap.size wr wr.drew := (Below.refl _ _).drew
        have hbS := Still.of_below hbd
        have hlow : M.Low := (HLW.out.mono (by omega : 1 ≤ _)).low
        have WR := (HP.out.below hbd).own.writeA (HP.out.below hbd).a hlow ((J.fr + i : Nat) : Int) none 0 [] (Holds.nil _ _) (.inl rfl)
        rw [show (([] : List UInt8).length : Int) = ((0 : Nat) : Int) from rfl, Int.natCast_add] at WR
        rw [Int.natCast_add] at st
        replace WR := Lib.hid WR
        have ST := Lib.hid st
        have NX : Hid (∀ w', OwnA (fun k => J.v.ownBlock = some k) w0 w' J.dp (M.write ((J.fr : Nat) + (i : Nat)) []) → Still wr.drew w' → JP w0 w' J (M.write ((J.fr : Nat) + (i : Nat)) []) ∧ FAt w' q l ∧ Still w w') := Lib.hid fun w' ho hs => ⟨(HP.out.below hbd).next ho hs (mod_write_n _ _ _).1 (mod_write_n _ _ _).2, (HFA.out.still hbS).still hs, HS.out.trans (hbS.trans hs)⟩
        have HLN : Hid (LowS (M.write ((J.fr : Nat) + (i : Nat)) []) (700 - (i + 1 - J.last))) := Lib.hid ((HLW.out.mono (by omega)).write _ _)
        clear st hh hbd hbS HP HFA HS HLW
        generalize M.write ((J.fr : Nat) + (i : Nat)) [] = M2 at *
        generalize M.writeR ((J.fr : Nat) + (i : Nat)) ((0 : Nat) : Int) = r2 at *
        go_wp2_with fail
        go_still_tail 10, (by kernel_rfl)
        change wpList _ _ _ _ _ (World.drew _)
        go_wp2_with fail
        refine WR.out.mono ?_
        rintro r w2 ⟨rfl, o2, s2⟩
        obtain ⟨n1, n2, n3⟩ := NX.out w2 o2 s2
        have N1 := Lib.hid n1
        have N2 := Lib.hid n2
        have N3 := Lib.hid n3
        clear n1 n2 n3 o2 s2 WR NX c0 c1 ci
        by_cases hr : r2 = 0
        · rw [if_pos hr] at ST
          have NE := Lib.hid (HE.out.trans ST.out)
          subst hr
          clear HE ST
          go_wp2_with fail
          go_roundg (J.last + 700 - i)
          case measure => omega
          case rel => exact ⟨i + 1, M2, true, by omega, .inl hlt, by omega, by go_num, rfl, N1.out, N2.out, N3.out, HLN.out, NE.out⟩
        · rw [if_neg hr] at ST
          have FIN := Lib.hid (HE.out.trans ST.out)
          have hrb : (r2 == 0) = false := by simpa using hr
          clear HE ST hr
          go_wp2_with fail
          go_ret
          rw [FIN.out]
          exact ⟨rfl, N1.out, N3.out⟩
    · have hlti : ¬ (i : Int) < (l.length : Int) := by omega
      have st : clrF J.fr (hasF l) M wt i (l.length - i) = if wt then (M.flush, M.flushR) else (M, 0) := by
        rw [show l.length - i = 0 by omega]
        rfl
      cases wt with
      | false =>
        rw [if_neg (by simp)] at st
        have FIN := Lib.hid (HE.out.trans st)
        clear st HE
        go_wp2_with fail
        go_ret
        rw [FIN.out]
        exact ⟨rfl, HP.out, HS.out⟩
      | true =>
        rw [if_pos rfl] at st
        have FIN := Lib.hid (HE.out.trans st)
        have FL := Lib.hid (HP.out.flushP (HLW.out.mono (by omega : 1 ≤ _)).low)
        have c0 := HP.out.is.c0
        clear st HE HP HLW
        go_wp2_with fail
        with_reducible refine FL.out.mono ?_
        rintro r w2 ⟨rfl, p2, s2⟩
        have P2 := Lib.hid (And.intro p2 (HS.out.trans s2))
        clear p2 s2 FL c0 HS
        go_wp2_with fail
        go_ret
        rw [FIN.out]
        exact ⟨rfl, P2.out⟩
end Go.Proofs.Ythoihlebplmcoaa
