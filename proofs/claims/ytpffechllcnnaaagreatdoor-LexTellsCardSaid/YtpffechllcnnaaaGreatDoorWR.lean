/- The reference's Lex, walked. -/
import Derived.Test.YtpffechllcnnaaaGreatDoorWR0
import Derived.Deep.CutRange
import Derived.Deep.DeepCutAuto
import Derived.Deep.CutBlock
namespace Go.Proofs.YtpffechllcnnaaaGreatDoor
open Go.RowKit Go.Lib
set_option linter.unusedVariables false

/-- what an arm leaves behind. -/
def Armed (w0 : World) (g p : Nat) (x : Lx.Wd) (s7 s9 : Value) (wc : World) : Prop :=
  s9 = .int .i64 (x.err : Nat) ∧ Below w0.heap.size w0 wc ∧ (x.err = 0 → s7 = .int .i64 ((p + x.n : Nat) : Int) ∧ Whole wc g 34 #[.int .i64 (x.kind : Nat), .string (str x.text), .int .i64 (p : Nat)])
/-- the token's block, as an arm sets it. -/
theorem tok_two {w0 w : World} {g p : Nat} {k : Int} {x : ByteArray} (h : Whole w g 34 #[.int .i64 k, .string x, .int .i64 (p : Nat)]) (hb : Below w0.heap.size w0 w) (hg : w0.heap.size ≤ g) (k' : Int) (x' : ByteArray) :
    Whole ((w.setCell ⟨g, 0, none⟩ (.int .i64 k')).setCell ⟨g, 1, none⟩ (.string x')).drew g 34 #[.int .i64 k', .string x', .int .i64 (p : Nat)] ∧ Below w0.heap.size w0 ((w.setCell ⟨g, 0, none⟩ (.int .i64 k')).setCell ⟨g, 1, none⟩ (.string x')).drew :=
  ⟨(h.set_ 0 (.int .i64 k')).set_ 1 (.string x'), ((hb.setCell (p := ⟨g, 0, none⟩) hg _).setCell (p := ⟨g, 1, none⟩) hg _).drew⟩
theorem tok_kind {w0 w : World} {g p : Nat} {k : Int} {x : ByteArray} (h : Whole w g 34 #[.int .i64 k, .string x, .int .i64 (p : Nat)]) (hb : Below w0.heap.size w0 w) (hg : w0.heap.size ≤ g) (k' : Int) :
    Whole (w.setCell ⟨g, 0, none⟩ (.int .i64 k')) g 34 #[.int .i64 k', .string x, .int .i64 (p : Nat)] ∧ Below w0.heap.size w0 (w.setCell ⟨g, 0, none⟩ (.int .i64 k')) :=
  ⟨h.set_ 0 (.int .i64 k'), hb.setCell (p := ⟨g, 0, none⟩) hg _⟩
theorem tok_text {w0 w : World} {g p : Nat} {k : Int} {x : ByteArray} (h : Whole w g 34 #[.int .i64 k, .string x, .int .i64 (p : Nat)]) (hb : Below w0.heap.size w0 w) (hg : w0.heap.size ≤ g) (x' : ByteArray) :
    Whole (w.setCell ⟨g, 1, none⟩ (.string x')) g 34 #[.int .i64 k, .string x', .int .i64 (p : Nat)] ∧ Below w0.heap.size w0 (w.setCell ⟨g, 1, none⟩ (.string x')) :=
  ⟨h.set_ 1 (.string x'), hb.setCell (p := ⟨g, 1, none⟩) hg _⟩
theorem armed_bad {w0 wc : World} {g p : Nat} {x : Lx.Wd} {s7 : Value} (he : x.err ≠ 0) (hb : Below w0.heap.size w0 wc) : Armed w0 g p x s7 (.int .i64 (x.err : Nat)) wc := ⟨rfl, hb, fun h => absurd h he⟩
theorem armed_ok {w0 wc : World} {g p : Nat} {x : Lx.Wd} {E : Nat} (he : x.err = 0) (hb : Below w0.heap.size w0 wc) (hE : E = p + x.n) (hw : Whole wc g 34 #[.int .i64 (x.kind : Nat), .string (str x.text), .int .i64 (p : Nat)]) : Armed w0 g p x (.int .i64 (E : Nat)) (.int .i64 0) wc :=
  ⟨by rw [he]; rfl, hb, fun _ => ⟨by rw [hE], hw⟩⟩
def TextEnd (s : ByteArray) (p k : Nat) (b : List UInt8) : Prop := Lx.QAt s.data.toList p b k ∧ k ≤ s.size ∧ (s.size ≤ k ∨ ∃ r, s.data.toList.drop k = 39 :: r ∧ r.head? ≠ some 39)
def hasC (l : List UInt8) (c : UInt8) : Bool := l.contains c
theorem blank_iff (c : UInt8) : Lx.blank c = true ↔ ((c.toNat : Int) = 32 ∨ (c.toNat : Int) = 9) ∨ (c.toNat : Int) = 10 := by
  have := Lx.all_bytes (fun c => (Lx.blank c == ((c.toNat == 32 || c.toNat == 9) || c.toNat == 10))) (by decide +kernel) c
  simp only [beq_iff_eq] at this
  rw [this]
  simp only [Bool.or_eq_true, beq_iff_eq]
  omega
theorem u8_eqn {c : UInt8} {n : Nat} (hn : n < 256) : ((c.toNat : Int) = (n : Int)) ↔ c = UInt8.ofNat n := by
  constructor
  · intro h; apply UInt8.toNat_inj.1; rw [UInt8.toNat_ofNat']; omega
  · rintro rfl; rw [UInt8.toNat_ofNat']; omega
set_option maxRecDepth 100000 in
set_option maxHeartbeats 40000000 in
theorem refLex_short (s : ByteArray) (w : World) (hs : s.size ≤ 4000) :
    Calls Tryz.prog 9 #[.string s] w fun e w' => LexPost w (Lx.lx s.data.toList) e w' := by
  have hs2 : decide ((4000 : Int) < (s.size : Int)) = false := by simp; omega
  have hs3 : (s.size : Int) ≤ 4000 := by omega
  have b0 : Below w.heap.size w (w.alloc (.cells #[.int .i64 0, .int .i64 0] 26)) := (Below.refl _ _).alloc (Nat.le_refl _) _
  have W0 : Hid (Whole ((w.alloc (.cells #[.int .i64 0, .int .i64 0] 26)).alloc (.cells #[] 34)) w.heap.size 26 #[.int .i64 0, .int .i64 0]) := Lib.hid (Whole.alloc (Whole.new _ _ _) _)
  have B0 := Lib.hid (b0.alloc b0.size (.cells #[] 34))
  have R0 : Hid (TRow ((w.alloc (.cells #[.int .i64 0, .int .i64 0] 26)).alloc (.cells #[] 34)) (w.heap.size + 1) (.slice (some ⟨w.heap.size + 1, 0, none⟩) 0 0) []) := Lib.hid (by
    have := TRow.new (w.alloc (.cells #[.int .i64 0, .int .i64 0] 26))
    rw [World.size_alloc] at this
    exact this)
  have A0 : Hid (Lx.RAt s.data.toList [] 0) := Lib.hid (Lx.RAt.start (by rw [list_size]; exact hs))
  clear b0
  go_enter Tryz.func9, Tryz.ntmps9
  go_wp2_with fail
  generalize (w.alloc (.cells #[.int .i64 0, .int .i64 0] 26)).alloc (.cells #[] 34) = w1 at *
  go_loopg [4, 5] (s.size + 1) (fun j s4 s5 wr => ∃ (p : Nat) (A : List Lx.Tk), p ≤ s.size ∧ s.size < p + j ∧ s5 = .int .i64 (p : Nat) ∧ Hid (Lx.RAt s.data.toList A p) ∧ Hid (TRow wr (w.heap.size + 1) s4 A) ∧ Hid (Below w.heap.size w wr) ∧ Hid (Whole wr w.heap.size 26 #[.int .i64 0, .int .i64 0]))
  case atStart => exact ⟨0, [], by omega, by omega, rfl, A0, R0, B0, W0⟩
  case round =>
    clear A0 B0 W0 R0
    obtain ⟨p, A, hp, hj, rfl, HA, HT, HB, HW⟩ := hrel
    by_cases hlt : p < s.size
    · have hlt' : (p : Int) < (s.size : Int) := by omega
      have hp9 : (p : Int) < 4001 := by omega
      obtain ⟨c, hc⟩ : ∃ c, c = s[p] := ⟨_, rfl⟩
      obtain ⟨r, hd⟩ : ∃ r, s.data.toList.drop p = c :: r := ⟨_, by rw [hc]; exact drop_at s p hlt⟩
      have HD := Lib.hid hd
      have hcb := Lib.hid (blank_iff c)
      have hsp : s[p].toNat = c.toNat := by rw [hc]
      clear hc
      by_cases hb : Lx.blank c = true
      · -- a blank
        have HA2 := Lib.hid (HA.out.blank hd hb)
        have hcs := hcb.out.1 hb
        clear hd HA hb hcb HD
        by_cases h32 : (c.toNat : Int) = 32
        · have b1 : ((c.toNat : Int) == 32) = true := by rw [beq_iff_eq]; exact h32
          clear h32 hcs
          as_aux_lemma =>
          go_wp2_with fail
          go_roundg (s.size - p)
          case measure => omega
          case rel => exact ⟨p + 1, A, by omega, by omega, by go_num, HA2, HT, HB, HW⟩
        · have b1 : ((c.toNat : Int) == 32) = false := by rw [beq_eq_false_iff_ne]; exact h32
          by_cases h9 : (c.toNat : Int) = 9
          · have b2 : ((c.toNat : Int) == 9) = true := by rw [beq_iff_eq]; exact h9
            clear h32 h9 hcs
            as_aux_lemma =>
            go_wp2_with fail
            go_roundg (s.size - p)
            case measure => omega
            case rel => exact ⟨p + 1, A, by omega, by omega, by go_num, HA2, HT, HB, HW⟩
          · have b2 : ((c.toNat : Int) == 9) = false := by rw [beq_eq_false_iff_ne]; exact h9
            have b3 : ((c.toNat : Int) == 10) = true := by rw [beq_iff_eq]; omega
            clear h32 h9 hcs
            as_aux_lemma =>
            go_wp2_with fail
            go_roundg (s.size - p)
            case measure => omega
            case rel => exact ⟨p + 1, A, by omega, by omega, by go_num, HA2, HT, HB, HW⟩
      · have b1 : ((c.toNat : Int) == 32) = false := by rw [beq_eq_false_iff_ne]; exact fun e => hb (hcb.out.2 (.inl (.inl e)))
        have b2 : ((c.toNat : Int) == 9) = false := by rw [beq_eq_false_iff_ne]; exact fun e => hb (hcb.out.2 (.inl (.inr e)))
        have b3 : ((c.toNat : Int) == 10) = false := by rw [beq_eq_false_iff_ne]; exact fun e => hb (hcb.out.2 (.inr e))
        by_cases h35 : c = 35
        · -- a note
          have b4 : ((c.toNat : Int) == 35) = true := by rw [beq_iff_eq, h35]; rfl
          have HA2 := Lib.hid (HA.out.note (by rw [hd, h35]))
          have hE := Lx.far_le Lx.line s p hp
          have hE1 : 1 ≤ ((s.data.toList.drop p).takeWhile Lx.line).length := by rw [hd, h35, List.takeWhile_cons_of_pos (by decide)]; simp
          obtain ⟨E, hEe⟩ : ∃ E, E = p + ((s.data.toList.drop p).takeWhile Lx.line).length := ⟨_, rfl⟩
          rw [← hEe] at HA2 hE
          have hEp : p < E := by omega
          have HE := Lib.hid hEe
          clear hd HA hb hcb HD h35 hEe hE1
          go_upto_block 2 with fail
          go_cut [5] from 19 to 240 (fun s5 wc => s5 = .int .i64 (E : Nat) ∧ wc = wr)
          case first =>
            as_aux_lemma =>
            go_wp2_with fail
            go_loopg [5] (s.size + 1) (fun j s5 wq => ∃ k : Nat, p ≤ k ∧ k ≤ s.size ∧ s.size < k + j ∧ s5 = .int .i64 (k : Nat) ∧ Hid (k + ((s.data.toList.drop k).takeWhile Lx.line).length = E) ∧ wq = wr)
            case atStart => exact ⟨p, by omega, by omega, by omega, rfl, Lib.hid HE.out.symm, rfl⟩
            case round =>
              obtain ⟨k, hk1, hk2, hj2, rfl, HK, rfl⟩ := hrel
              by_cases hkl : k < s.size
              · have hkl' : (k : Int) < (s.size : Int) := by omega
                have hk9 : (k : Int) < 4001 := by omega
                by_cases h10 : s[k] = 10
                · have b5 : ((s[k].toNat : Int) != 10) = false := by rw [bne_eq_false_iff_eq, h10]; rfl
                  have HKE : Hid (k = E) := Lib.hid (by have := HK.out; rw [Lx.far_stop Lx.line s k hkl (by rw [h10]; decide)] at this; omega)
                  clear h10 HK
                  go_wp2_with fail
                  go_meet
                  case rel => exact ⟨by rw [HKE.out], rfl⟩
                · have b5 : ((s[k].toNat : Int) != 10) = true := by
                    rw [bne_iff_ne]; intro e; apply h10; apply UInt8.toNat_inj.1; show s[k].toNat = 10; omega
                  have HK2 : Hid (k + 1 + ((s.data.toList.drop (k + 1)).takeWhile Lx.line).length = E) := Lib.hid (by
                    have := HK.out; rw [Lx.far_step Lx.line s k hkl (by simpa [Lx.line] using h10)] at this; omega)
                  clear h10 HK
                  go_wp2_with fail
                  go_roundg (s.size - k)
                  case measure => omega
                  case rel => exact ⟨k + 1, by omega, by omega, by omega, by go_num, HK2, rfl⟩
              · have hkl' : ¬ (k : Int) < (s.size : Int) := by omega
                have HKE : Hid (k = E) := Lib.hid (by have := HK.out; rw [Lx.far_end Lx.line s k (by omega)] at this; omega)
                clear HK
                go_wp2_with fail
                go_meet
                case rel => exact ⟨by rw [HKE.out], rfl⟩
          case rest =>
            as_aux_lemma =>
            obtain ⟨rfl, rfl⟩ := hcut
            go_wp2_with fail
            go_roundg (s.size - p)
            case measure => omega
            case rel => exact ⟨E, A, by omega, by omega, rfl, HA2, HT, HB, HW⟩
        · -- a word
          have b4 : ((c.toNat : Int) == 35) = false := by
            rw [beq_eq_false_iff_ne]; intro e; apply h35; apply UInt8.toNat_inj.1; show c.toNat = 35; omega
          have HN := Lib.hid (HA.out.word hd hb h35)
          have LC := Lib.hid (letter_any c (wr.alloc (tokObj ⟨0, [], p⟩)))
          have LC2 : Hid (Calls Tryz.prog 19 #[.int .u8 (c.toNat : Nat)] (wr.alloc (.cells #[.int .i64 0, .string ⟨#[]⟩, .int .i64 (p : Nat)] 34)) fun e w' => e = .returned (.bool (Lx.low c)) ∧ wr.alloc (.cells #[.int .i64 0, .string ⟨#[]⟩, .int .i64 (p : Nat)] 34) = w') := LC
          have K0 : Hid (Whole (wr.alloc (.cells #[.int .i64 0, .string ⟨#[]⟩, .int .i64 (p : Nat)] 34)) wr.heap.size 34 #[.int .i64 0, .string ⟨#[]⟩, .int .i64 (p : Nat)]) := Lib.hid (Whole.new _ _ _)
          have D0 : Hid (Below wr.heap.size wr (wr.alloc (.cells #[.int .i64 0, .string ⟨#[]⟩, .int .i64 (p : Nat)] 34))) := Lib.hid ((Below.refl _ _).alloc (Nat.le_refl _) _)
          clear LC hcb
          have HHB := Lib.hid hb
          have HH35 := Lib.hid h35
          clear hb h35 hd
          go_wp2_with fail
          refine (LC2.out).mono ?_
          rintro e w' ⟨rfl, hw'⟩
          subst hw'
          generalize wr.alloc (.cells #[.int .i64 0, .string ⟨#[]⟩, .int .i64 (p : Nat)] 34) = w2 at *
          clear LC2
          go_upto_if 56 with fail
          go_cut [7, 9, 10, 11, 12, 13] from 19 to 240 (fun s7 s9 s10 s11 s12 s13 wc => Armed wr wr.heap.size p (Lx.word (c :: r)) s7 s9 wc)
          case first =>
            by_cases hl : Lx.low c = true
            · rw [hl]
              have hx : Lx.word (c :: r) = Lx.nameW ((s.data.toList.drop p).takeWhile Lx.nm) := by
                rw [HD.out, List.takeWhile_cons_of_pos (by simp [Lx.nm, hl])]
                simp only [Lx.word, if_pos hl]
              have hE := Lx.far_le Lx.nm s p hp
              have hX := Lx.cut_tw Lx.nm s p
              have ht0 : ((s.data.toList.drop p).takeWhile Lx.nm).length ≤ 4000 := by omega
              have hE1 : 1 ≤ ((s.data.toList.drop p).takeWhile Lx.nm).length := by rw [HD.out, List.takeWhile_cons_of_pos (by simp [Lx.nm, hl])]; simp
              obtain ⟨E, hEe⟩ : ∃ E, E = p + ((s.data.toList.drop p).takeWhile Lx.nm).length := ⟨_, rfl⟩
              rw [← hEe] at hX hE
              have hEp : p < E := by omega
              have HE := Lib.hid hEe
              have hx2 : ((s.data.toList.drop p).takeWhile Lx.nm).length = E - p := by omega
              have HX2 := Lib.hid hx2
              have HX := Lib.hid hX
              have HWX := Lib.hid hx
              clear hx hEe hE1 hx2 hX HN
              generalize (s.data.toList.drop p).takeWhile Lx.nm = t at HX HX2 ht0 HWX
              go_upto_block 4 with fail
              clear hl
              go_cut [7] from 19 to 240 (fun s7 wc => s7 = .int .i64 (E : Nat) ∧ wc = w2)
              case first =>
                as_aux_lemma =>
                go_wp2_with fail
                go_loopg [7] (s.size + 1) (fun j s7 wq => ∃ k : Nat, p ≤ k ∧ k ≤ s.size ∧ s.size < k + j ∧ s7 = .int .i64 (k : Nat) ∧ Hid (k + ((s.data.toList.drop k).takeWhile Lx.nm).length = E) ∧ wq = w2)
                case atStart => exact ⟨p, by omega, by omega, by omega, rfl, Lib.hid HE.out.symm, rfl⟩
                case round =>
                  obtain ⟨k, hk1, hk2, hj2, rfl, HK, rfl⟩ := hrel
                  by_cases hkl : k < s.size
                  · have hkl' : (k : Int) < (s.size : Int) := by omega
                    have hk9 : (k : Int) < 4001 := by omega
                    have LC := Lib.hid (letter_any s[k] wr)
                    have DC := Lib.hid (digit_any s[k] wr)
                    have HS : Hid (Lx.nm s[k] = true → k + 1 + ((s.data.toList.drop (k + 1)).takeWhile Lx.nm).length = E) := Lib.hid (fun h => by
                      have := HK.out; rw [Lx.far_step Lx.nm s k hkl h] at this; omega)
                    have HF : Hid (Lx.nm s[k] = false → k = E) := Lib.hid (fun h => by
                      have := HK.out; rw [Lx.far_stop Lx.nm s k hkl h] at this; omega)
                    clear HK
                    cases hl : Lx.low s[k]
                    · rw [hl] at LC
                      cases hdg : dig s[k]
                      · rw [hdg] at DC
                        by_cases h95 : s[k] = 95
                        · have b1 : ((s[k].toNat : Int) == 95) = true := by rw [beq_iff_eq, h95]; rfl
                          have HI2 := Lib.hid (HS.out (by rw [Lx.nm, h95]; decide))
                          clear hl hdg h95 HS HF
                          go_wp2_with fail
                          refine (LC.out).mono ?_
                          rintro e w' ⟨rfl, rfl⟩
                          go_wp2_with fail
                          refine (DC.out).mono ?_
                          rintro e w' ⟨rfl, rfl⟩
                          go_wp2_with fail
                          go_roundg (s.size - k)
                          case measure => omega
                          case rel => exact ⟨k + 1, by omega, by omega, by omega, by go_num, HI2, rfl⟩
                        · have b1 : ((s[k].toNat : Int) == 95) = false := by
                            rw [beq_eq_false_iff_ne]; intro e; apply h95; apply UInt8.toNat_inj.1; show s[k].toNat = 95; omega
                          have HKE := Lib.hid (HF.out (by rw [Lx.nm, hl, hdg]; simpa using h95))
                          clear hl hdg h95 HS HF
                          go_wp2_with fail
                          refine (LC.out).mono ?_
                          rintro e w' ⟨rfl, rfl⟩
                          go_wp2_with fail
                          refine (DC.out).mono ?_
                          rintro e w' ⟨rfl, rfl⟩
                          go_wp2_with fail
                          go_meet
                          case rel => exact ⟨by rw [HKE.out], rfl⟩
                      · rw [hdg] at DC
                        have HI2 := Lib.hid (HS.out (by rw [Lx.nm, hdg]; simp))
                        clear hl hdg HS HF
                        go_wp2_with fail
                        refine (LC.out).mono ?_
                        rintro e w' ⟨rfl, rfl⟩
                        go_wp2_with fail
                        refine (DC.out).mono ?_
                        rintro e w' ⟨rfl, rfl⟩
                        go_wp2_with fail
                        go_roundg (s.size - k)
                        case measure => omega
                        case rel => exact ⟨k + 1, by omega, by omega, by omega, by go_num, HI2, rfl⟩
                    · rw [hl] at LC
                      have HI2 := Lib.hid (HS.out (by rw [Lx.nm, hl]; simp))
                      clear hl HS HF
                      go_wp2_with fail
                      refine (LC.out).mono ?_
                      rintro e w' ⟨rfl, rfl⟩
                      go_wp2_with fail
                      go_roundg (s.size - k)
                      case measure => omega
                      case rel => exact ⟨k + 1, by omega, by omega, by omega, by go_num, HI2, rfl⟩
                  · have hkl' : ¬ (k : Int) < (s.size : Int) := by omega
                    have HKE : Hid (k = E) := Lib.hid (by have := HK.out; rw [Lx.far_end Lx.nm s k (by omega)] at this; omega)
                    clear HK
                    go_wp2_with fail
                    go_meet
                    case rel => exact ⟨by rw [HKE.out], rfl⟩
              case rest =>
                as_aux_lemma =>
                obtain ⟨rfl, rfl⟩ := hcut
                go_wp2_with fail
                have k0 := K0.out.cell 0
                have k1 := K0.out.cell 1
                simp only [List.getElem?_toArray, List.getElem?_cons_zero, List.getElem?_cons_succ] at k0 k1
                have f0 := K0.out.frozen 0
                have f1 := K0.out.frozen 1
                have hEp' : (p : Int) ≤ (E : Int) := by omega
                have hE' : (E : Int) ≤ (s.size : Int) := by omega
                go_region_with (fail)
                obtain ⟨t1, t2⟩ := tok_two K0.out D0.out (Nat.le_refl _) 1 (s.extract p E)
                generalize ((wc.setCell ⟨wr.heap.size, 0, none⟩ (.int .i64 1)).setCell ⟨wr.heap.size, 1, none⟩ (.string (s.extract p E))).drew = w3 at *
                clear k0 k1 f0 f1 K0 D0
                have k1 := t1.cell 1
                simp only [List.getElem?_toArray, List.getElem?_cons_zero, List.getElem?_cons_succ] at k1
                have RV := Lib.hid (refReserved_any (s.extract p E) w3)
                have HK1 := Lib.hid t1
                have HD1 := Lib.hid t2
                clear t1 t2
                rw [show (s.extract p E).data.toList = t by rw [HX.out]] at RV
                cases hr : Lx.res t
                · rw [hr] at RV
                  have HR := Lib.hid hr
                  clear hr
                  go_wp2_with fail
                  refine (RV.out).mono ?_
                  rintro e w4 ⟨rfl, hb4⟩
                  have HK4 := Lib.hid (Whole.below HK1.out hb4 (Whole.lt HK1.out))
                  have HD4 := Lib.hid (bstep HD1.out hb4)
                  clear hb4 RV HK1 HD1 k1
                  by_cases h16 : 16 < t.length
                  · have d1 : (16 : Int) < (E : Int) - (p : Int) := by have := HX2.out; omega
                    have HA1 : Hid ((Lx.word (c :: r)).err = 3) := Lib.hid (by rw [HWX.out]; simp [Lx.nameW, HR.out, h16])
                    clear h16
                    go_wp2_with fail
                    go_meet
                    case rel =>
                      have h := @armed_bad wr w4 wr.heap.size p (Lx.word (c :: r)) (.int .i64 (E : Nat)) (by rw [HA1.out]; decide) HD4.out
                      rw [HA1.out] at h
                      exact h
                  · have d1 : ¬ (16 : Int) < (E : Int) - (p : Int) := by have := HX2.out; omega
                    have HA1 : Hid (Lx.word (c :: r) = ⟨1, E - p, t, 0⟩) := Lib.hid (by
                      have h17 : ¬ 16 < E - p := by have := HX2.out; omega
                      rw [HWX.out]; simp only [Lx.nameW, HR.out, HX2.out, if_neg h17]; rfl)
                    clear h16
                    go_wp2_with fail
                    go_meet
                    case rel => exact armed_ok (by rw [HA1.out]) HD4.out (by rw [HA1.out]; show E = p + (E - p); omega) (by rw [HA1.out]; have := HK4.out; rw [HX.out] at this; exact this)
                · rw [hr] at RV
                  have HR := Lib.hid hr
                  clear hr
                  go_wp2_with fail
                  refine (RV.out).mono ?_
                  rintro e w4 ⟨rfl, hb4⟩
                  have hk4 := Whole.below HK1.out hb4 (Whole.lt HK1.out)
                  have m0 := hk4.cell 0
                  simp only [List.getElem?_toArray, List.getElem?_cons_zero] at m0
                  have f0 := hk4.frozen 0
                  have HT4 := Lib.hid (tok_kind hk4 (bstep HD1.out hb4) (Nat.le_refl _) 2)
                  have HA1 : Hid (Lx.word (c :: r) = ⟨2, E - p, t, 0⟩) := Lib.hid (by rw [HWX.out]; simp [Lx.nameW, HR.out, HX2.out])
                  clear hb4 RV HK1 HD1 k1 hk4
                  go_wp2_with fail
                  go_meet
                  case rel => exact armed_ok (by rw [HA1.out]) HT4.out.2 (by rw [HA1.out]; show E = p + (E - p); omega) (by rw [HA1.out]; have := HT4.out.1; rw [HX.out] at this; exact this)
            · have hl' : Lx.low c = false := by simpa using hl
              rw [hl']
              have DC0 := Lib.hid (digit_any c w2)
              by_cases hdc : dig c = true
              · rw [hdc] at DC0
                have hx : Lx.word (c :: r) = Lx.numW ((s.data.toList.drop p).takeWhile dig) := by
                  rw [HD.out, List.takeWhile_cons_of_pos hdc]
                  simp only [Lx.word, if_neg hl, if_pos hdc]
                have hE := Lx.far_le dig s p hp
                have hX := Lx.cut_tw dig s p
                have ht0 : ((s.data.toList.drop p).takeWhile dig).length ≤ 4000 := by omega
                have hE1 : 1 ≤ ((s.data.toList.drop p).takeWhile dig).length := by rw [HD.out, List.takeWhile_cons_of_pos hdc]; simp
                obtain ⟨E, hEe⟩ : ∃ E, E = p + ((s.data.toList.drop p).takeWhile dig).length := ⟨_, rfl⟩
                rw [← hEe] at hX hE
                have hEp : p < E := by omega
                have HE := Lib.hid hEe
                have hx2 : ((s.data.toList.drop p).takeWhile dig).length = E - p := by omega
                have HX2 := Lib.hid hx2
                have HX := Lib.hid hX
                have HWX := Lib.hid hx
                clear hx hEe hE1 hx2 hX HN hl hl' hdc
                generalize (s.data.toList.drop p).takeWhile dig = t at HX HX2 ht0 HWX
                go_wp2_with fail
                refine (DC0.out).mono ?_
                rintro e w' ⟨rfl, hw'⟩
                subst hw'
                clear DC0
                go_upto_block 6 with fail
                go_cut [7] from 19 to 240 (fun s7 wc => s7 = .int .i64 (E : Nat) ∧ wc = w2)
                case first =>
                  as_aux_lemma =>
                  go_wp2_with fail
                  go_loopg [7] (s.size + 1) (fun j s7 wq => ∃ k : Nat, p ≤ k ∧ k ≤ s.size ∧ s.size < k + j ∧ s7 = .int .i64 (k : Nat) ∧ Hid (k + ((s.data.toList.drop k).takeWhile dig).length = E) ∧ wq = w2)
                  case atStart => exact ⟨p, by omega, by omega, by omega, rfl, Lib.hid HE.out.symm, rfl⟩
                  case round =>
                    obtain ⟨k, hk1, hk2, hj2, rfl, HK, rfl⟩ := hrel
                    by_cases hkl : k < s.size
                    · have hkl' : (k : Int) < (s.size : Int) := by omega
                      have hk9 : (k : Int) < 4001 := by omega
                      have DC := Lib.hid (digit_any s[k] wr)
                      have HS : Hid (dig s[k] = true → k + 1 + ((s.data.toList.drop (k + 1)).takeWhile dig).length = E) := Lib.hid (fun h => by
                        have := HK.out; rw [Lx.far_step dig s k hkl h] at this; omega)
                      have HF : Hid (dig s[k] = false → k = E) := Lib.hid (fun h => by
                        have := HK.out; rw [Lx.far_stop dig s k hkl h] at this; omega)
                      clear HK
                      cases hdg : dig s[k]
                      · rw [hdg] at DC
                        have HKE := Lib.hid (HF.out hdg)
                        clear hdg HS HF
                        go_wp2_with fail
                        refine (DC.out).mono ?_
                        rintro e w' ⟨rfl, rfl⟩
                        go_wp2_with fail
                        go_meet
                        case rel => exact ⟨by rw [HKE.out], rfl⟩
                      · rw [hdg] at DC
                        have HI2 := Lib.hid (HS.out hdg)
                        clear hdg HS HF
                        go_wp2_with fail
                        refine (DC.out).mono ?_
                        rintro e w' ⟨rfl, rfl⟩
                        go_wp2_with fail
                        go_roundg (s.size - k)
                        case measure => omega
                        case rel => exact ⟨k + 1, by omega, by omega, by omega, by go_num, HI2, rfl⟩
                    · have hkl' : ¬ (k : Int) < (s.size : Int) := by omega
                      have HKE : Hid (k = E) := Lib.hid (by have := HK.out; rw [Lx.far_end dig s k (by omega)] at this; omega)
                      clear HK
                      go_wp2_with fail
                      go_meet
                      case rel => exact ⟨by rw [HKE.out], rfl⟩
                case rest =>
                  as_aux_lemma =>
                  obtain ⟨rfl, rfl⟩ := hcut
                  go_wp2_with fail
                  have k0 := K0.out.cell 0
                  have k1 := K0.out.cell 1
                  simp only [List.getElem?_toArray, List.getElem?_cons_zero, List.getElem?_cons_succ] at k0 k1
                  have f0 := K0.out.frozen 0
                  have f1 := K0.out.frozen 1
                  have hEp' : (p : Int) ≤ (E : Int) := by omega
                  have hE' : (E : Int) ≤ (s.size : Int) := by omega
                  go_region_with (fail)
                  obtain ⟨t1, t2⟩ := tok_two K0.out D0.out (Nat.le_refl _) 3 (s.extract p E)
                  generalize ((wc.setCell ⟨wr.heap.size, 0, none⟩ (.int .i64 3)).setCell ⟨wr.heap.size, 1, none⟩ (.string (s.extract p E))).drew = w3 at *
                  clear k0 k1 f0 f1 K0 D0
                  have k1 := t1.cell 1
                  simp only [List.getElem?_toArray, List.getElem?_cons_zero, List.getElem?_cons_succ] at k1
                  have RV := Lib.hid (refread_any (s.extract p E) w3 (by rw [HX.out, str_size]; omega))
                  have HK1 := Lib.hid t1
                  have HD1 := Lib.hid t2
                  clear t1 t2
                  rw [show (s.extract p E).data.toList = t by rw [HX.out]] at RV
                  rcases Lx.numErr_re t with ⟨h1, h2⟩ | ⟨h1, h2⟩ | ⟨h1, h2⟩
                  · rw [h1] at RV
                    have HA1 : Hid (Lx.word (c :: r) = ⟨3, E - p, t, 0⟩) := Lib.hid (by rw [HWX.out]; simp [Lx.numW, h2, HX2.out])
                    clear h1 h2
                    generalize rv t = z at *
                    go_wp2_with fail
                    refine (RV.out).mono ?_
                    rintro e w4 ⟨rfl, hb4⟩
                    have HK4 := Lib.hid (Whole.below HK1.out hb4 (Whole.lt HK1.out))
                    have HD4 := Lib.hid (bstep HD1.out hb4)
                    clear hb4 RV HK1 HD1 k1
                    go_wp2_with fail
                    go_meet
                    case rel => exact armed_ok (by rw [HA1.out]) HD4.out (by rw [HA1.out]; show E = p + (E - p); omega) (by rw [HA1.out]; have := HK4.out; rw [HX.out] at this; exact this)
                  · rw [h1] at RV
                    have HA1 : Hid ((Lx.word (c :: r)).err = 4) := Lib.hid (by rw [HWX.out]; simp [Lx.numW, h2])
                    clear h1 h2
                    generalize rv t = z at *
                    go_wp2_with fail
                    refine (RV.out).mono ?_
                    rintro e w4 ⟨rfl, hb4⟩
                    have HD4 := Lib.hid (bstep HD1.out hb4)
                    clear hb4 RV HK1 HD1 k1
                    go_wp2_with fail
                    go_meet
                    case rel =>
                      have h := @armed_bad wr w4 wr.heap.size p (Lx.word (c :: r)) (.int .i64 (E : Nat)) (by rw [HA1.out]; decide) HD4.out
                      rw [HA1.out] at h
                      exact h
                  · rw [h1] at RV
                    have HA1 : Hid ((Lx.word (c :: r)).err = 7) := Lib.hid (by rw [HWX.out]; simp [Lx.numW, h2])
                    clear h1 h2
                    generalize rv t = z at *
                    go_wp2_with fail
                    refine (RV.out).mono ?_
                    rintro e w4 ⟨rfl, hb4⟩
                    have HD4 := Lib.hid (bstep HD1.out hb4)
                    clear hb4 RV HK1 HD1 k1
                    go_wp2_with fail
                    go_meet
                    case rel =>
                      have h := @armed_bad wr w4 wr.heap.size p (Lx.word (c :: r)) (.int .i64 (E : Nat)) (by rw [HA1.out]; decide) HD4.out
                      rw [HA1.out] at h
                      exact h
              · have hdc' : dig c = false := by simpa using hdc
                rw [hdc'] at DC0
                go_wp2_with fail
                refine (DC0.out).mono ?_
                rintro e w' ⟨rfl, hw'⟩
                subst hw'
                clear DC0
                by_cases hq39 : c = 39
                · have bq : ((c.toNat : Int) == 39) = true := by rw [beq_iff_eq]; exact u8_eq.2 hq39
                  have hx : Lx.word (c :: r) = Lx.textW (Lx.qt (s.data.toList.drop (p + 1))) := by
                    rw [(Lx.drop_len HD.out).2]
                    simp only [Lx.word, if_neg hl, if_neg hdc, if_pos hq39]
                  have HWX := Lib.hid hx
                  have R5 : Hid (Row (w2.alloc (.cells #[] 5)) (wr.heap.size + 1) (.slice (some ⟨w2.heap.size, 0, none⟩) 0 0) []) := Lib.hid ⟨rfl, .inr ⟨w2.heap.size, 0, #[], rfl, K0.out.lt, heap_alloc_new w2 _, Nat.le_refl _, Nat.zero_le _, rfl, rfl⟩⟩
                  have K5 := Lib.hid (K0.out.alloc (.cells #[] 5))
                  have D5 := Lib.hid (D0.out.alloc D0.out.size (.cells #[] 5))
                  have Q5 := Lib.hid (Lx.QAt.start s.data.toList p)
                  clear hl hl' hdc hdc' hq39 hx HN K0 D0
                  go_upto_block 8 with fail
                  generalize w2.alloc (.cells #[] 5) = w3 at *
                  go_cut [7, 10] from 19 to 240 (fun s7 s10 wc => ∃ (k : Nat) (b : List UInt8), s7 = .int .i64 (k : Nat) ∧ TextEnd s p k b ∧ Row wc (wr.heap.size + 1) s10 b ∧ Below wr.heap.size wr wc ∧ Whole wc wr.heap.size 34 #[.int .i64 0, .string ⟨#[]⟩, .int .i64 (p : Nat)])
                  case first =>
                    as_aux_lemma =>
                    obtain ⟨g, hg⟩ : ∃ g, g = wr.heap.size := ⟨_, rfl⟩
                    have HG := Lib.hid hg
                    obtain ⟨w00, hw00⟩ : ∃ w00, w00 = wr := ⟨_, rfl⟩
                    rw [← hw00] at D5
                    have HW00 := Lib.hid hw00
                    clear hw00
                    rw [← hg] at K5 R5
                    have HG2 : Hid (g = w00.heap.size) := Lib.hid (by rw [HW00.out]; exact HG.out)
                    clear hg
                    go_wp2_with fail
                    go_loopg [7, 10] (s.size + 1) (fun j s7 s10 wq => ∃ (k : Nat) (b : List UInt8), k ≤ s.size ∧ s.size < k + j ∧ s7 = .int .i64 (k : Nat) ∧ Hid (Lx.QAt s.data.toList p b k) ∧ Hid (Row wq (g + 1) s10 b) ∧ Hid (Below w00.heap.size w00 wq) ∧ Hid (Whole wq g 34 #[.int .i64 0, .string ⟨#[]⟩, .int .i64 (p : Nat)]))
                    case atStart => exact ⟨p + 1, [], by omega, by omega, by go_num, Q5, R5, D5, K5⟩
                    case round =>
                      clear Q5 R5 D5 K5
                      obtain ⟨k, b, hk2, hj2, rfl, HQ, HR, HD6, HK6⟩ := hrel
                      by_cases hkl : k < s.size
                      · have hkl' : (k : Int) < (s.size : Int) := by omega
                        have hk9 : (k : Int) < 4001 := by omega
                        have HDK := Lib.hid (drop_at s k hkl)
                        have hbl : b.length ≤ 4000 := by have := HQ.out.2.2; omega
                        obtain ⟨A5, c5, rfl, -, -, -⟩ := HR.out.shape
                        -- a byte comes
                        have hbb : BB (wr.alloc (.cells #[.int .u8 (s[k].toNat : Nat)] 5)) wr.heap.size [s[k]] := Whole.new _ _ _
                        have hra : Row (wr.alloc (.cells #[.int .u8 (s[k].toNat : Nat)] 5)) (g + 1) (.slice A5 b.length c5) b := HR.out.alloc _
                        have hown := hra.block
                        obtain ⟨v', u4, hap, hrw, hgr, -⟩ := append_bytes hra (some ⟨wr.heap.size, 0, none⟩) 1 [s[k]] hbb.holds0 (by simp; omega) (by have := HK6.out.lt; simp; omega)
                        have hd4 := below_grown (HD6.out.alloc HD6.out.size (.cells #[.int .u8 (s[k].toNat : Nat)] 5)) hgr (fun j hj => by have := hown j hj; have := HG2.out; omega)
                        have hk4 : Whole u4 g 34 #[.int .i64 0, .string ⟨#[]⟩, .int .i64 (p : Nat)] := by
                          have h1 := Whole.alloc HK6.out (.cells #[.int .u8 (s[k].toNat : Nat)] 5)
                          unfold Whole at *
                          rw [hgr.block g (Array.getElem?_eq_some_iff.1 h1).1 (fun e => by have := hown _ e.symm; omega)]
                          exact h1
                        rw [show ([s[k]] : List UInt8).length = 1 from rfl] at hap
                        have HAP := Lib.hid hap
                        have HR4 := Lib.hid hrw
                        have HD4 := Lib.hid hd4
                        have HK4 := Lib.hid hk4
                        clear hap hrw hd4 hk4 hgr hown hra hbb
                        by_cases h39 : s[k] = 39
                        · have b1 : ((s[k].toNat : Int) != 39) = false := by rw [bne_eq_false_iff_eq]; exact u8_eq.2 h39
                          have b2 : ((s[k].toNat : Int) == 39) = true := by rw [beq_iff_eq]; exact u8_eq.2 h39
                          by_cases hl2 : k + 1 < s.size
                          · have hl2' : ((k : Int) + 1) < (s.size : Int) := by omega
                            have HDK2 := Lib.hid (drop_at s (k + 1) hl2)
                            by_cases h2 : s[k + 1] = 39
                            · have b3 : ((s[k + 1].toNat : Int) == 39) = true := by rw [beq_iff_eq]; exact u8_eq.2 h2
                              have HQ4 : Hid (Lx.QAt s.data.toList p (b ++ [s[k]]) (k + 1 + 1)) := Lib.hid (by
                                have := HQ.out.mark (r := s.data.toList.drop (k + 1 + 1)) (by rw [HDK.out, HDK2.out, h39, h2])
                                rw [h39]; exact this)
                              clear h39 h2 HQ HR HD6 HK6
                              go_wp2_with (at_builtin; refine Lib.wpList_append_run _ rfl (.tmp 152) (.tmp 156) 49 49 rfl _ _ rfl rfl _ _ HAP.out ?_)
                              go_roundg (s.size - k)
                              case measure => omega
                              case rel => exact ⟨k + 1 + 1, b ++ [s[k]], by omega, by omega, by go_num, HQ4, HR4, HD4, HK4⟩
                            · have b3 : ((s[k + 1].toNat : Int) == 39) = false := by rw [beq_eq_false_iff_ne]; exact fun e => h2 (u8_eq.1 e)
                              have HTE : Hid (TextEnd s p k b) := Lib.hid ⟨HQ.out, hk2, .inr ⟨_, by rw [HDK.out, h39], by rw [HDK2.out]; simpa using h2⟩⟩
                              clear h39 h2 HQ HAP HR4 HD4 HK4
                              go_wp2_with fail
                              go_meet
                              case rel => exact ⟨k, b, rfl, HTE.out, by rw [← HG.out]; exact HR.out, by rw [← HW00.out]; exact HD6.out, by rw [← HG.out]; exact HK6.out⟩
                          · have hl2' : ¬ ((k : Int) + 1) < (s.size : Int) := by omega
                            have HTE : Hid (TextEnd s p k b) := Lib.hid ⟨HQ.out, hk2, .inr ⟨_, by rw [HDK.out, h39], by rw [List.drop_of_length_le (by rw [list_size]; omega)]; simp⟩⟩
                            clear h39 HQ HAP HR4 HD4 HK4
                            go_wp2_with fail
                            go_meet
                            case rel => exact ⟨k, b, rfl, HTE.out, by rw [← HG.out]; exact HR.out, by rw [← HW00.out]; exact HD6.out, by rw [← HG.out]; exact HK6.out⟩
                        · have b1 : ((s[k].toNat : Int) != 39) = true := by rw [bne_iff_ne]; exact fun e => h39 (u8_eq.1 e)
                          have b2 : ((s[k].toNat : Int) == 39) = false := by rw [beq_eq_false_iff_ne]; exact fun e => h39 (u8_eq.1 e)
                          have HQ4 : Hid (Lx.QAt s.data.toList p (b ++ [s[k]]) (k + 1)) := Lib.hid (HQ.out.byte HDK.out h39)
                          clear h39 HQ HR HD6 HK6
                          go_wp2_with (at_builtin; refine Lib.wpList_append_run _ rfl (.tmp 152) (.tmp 156) 49 49 rfl _ _ rfl rfl _ _ HAP.out ?_)
                          go_roundg (s.size - k)
                          case measure => omega
                          case rel => exact ⟨k + 1, b ++ [s[k]], by omega, by omega, by go_num, HQ4, HR4, HD4, HK4⟩
                      · have hkl' : ¬ (k : Int) < (s.size : Int) := by omega
                        have HTE : Hid (TextEnd s p k b) := Lib.hid ⟨HQ.out, hk2, .inl (by omega)⟩
                        clear HQ
                        go_wp2_with fail
                        go_meet
                        case rel => exact ⟨k, b, rfl, HTE.out, by rw [← HG.out]; exact HR.out, by rw [← HW00.out]; exact HD6.out, by rw [← HG.out]; exact HK6.out⟩
                  case rest =>
                    as_aux_lemma =>
                    obtain ⟨k, b, rfl, hte, hrw, hdd, hkk⟩ := hcut
                    have HTE := Lib.hid hte
                    have hk2 : k ≤ s.size := hte.2.1
                    have hpk : p + 1 ≤ k := hte.1.2.1
                    have hbl : b.length ≤ 4000 := by have := hte.1.2.2; omega
                    obtain ⟨A5, c5, rfl, hH, -, -⟩ := hrw.shape
                    have hcv := conv_bytes (w := wc.drew) hH c5
                    have hrw2 : Row (wc.setCell ⟨wr.heap.size, 0, none⟩ (.int .i64 4)) (wr.heap.size + 1) (.slice A5 b.length c5) b := ownsRow_of_heap hrw fun bb hb => Below.heap_setCell _ _ _ _ (by have := hrw.block bb hb; show bb ≠ wr.heap.size; omega)
                    obtain ⟨A6, c6, e6, hH2, -, -⟩ := hrw2.shape
                    cases e6
                    have hcv2 := conv_bytes (w := (wc.setCell ⟨wr.heap.size, 0, none⟩ (.int .i64 4)).drew) hH2 c5
                    have k0 := hkk.cell 0
                    have k1 := hkk.cell 1
                    simp only [List.getElem?_toArray, List.getElem?_cons_zero, List.getElem?_cons_succ] at k0 k1
                    have f0 := hkk.frozen 0
                    have f1 := hkk.frozen 1
                    clear Q5 R5 D5 K5 hte hrw hH hrw2 hH2
                    go_upto_region 38 with fail
                    go_cut [167] from 19 to 240 (fun s167 wd => wd = ((wc.setCell ⟨wr.heap.size, 0, none⟩ (.int .i64 4)).setCell ⟨wr.heap.size, 1, none⟩ (.string (str b))).drew)
                    case first =>
                      go_region_with (fail)
                      all_goals (go_wp2_with fail; go_meet; exact rfl)
                    have hcut2 := hcut
                    clear hcut hcv hcv2
                    subst hcut2
                    obtain ⟨t1, t2⟩ := tok_two hkk hdd (Nat.le_refl _) 4 (str b)
                    generalize ((wc.setCell ⟨wr.heap.size, 0, none⟩ (.int .i64 4)).setCell ⟨wr.heap.size, 1, none⟩ (.string (str b))).drew = w5 at *
                    have HK1 := Lib.hid t1
                    have HD1 := Lib.hid t2
                    clear t1 t2 k0 k1 f0 f1 hkk hdd
                    by_cases hkl : k < s.size
                    · have hkl' : ¬ (k : Int) ≥ (s.size : Int) := by omega
                      have hkl2 : (k : Int) < (s.size : Int) := by omega
                      obtain ⟨r2, hr1, hr2⟩ : ∃ r, s.data.toList.drop k = 39 :: r ∧ r.head? ≠ some 39 := by
                        rcases HTE.out.2.2 with h | h
                        · omega
                        · exact h
                      have hw := HTE.out.1.end_ hr1 hr2
                      by_cases h200 : 200 < b.length
                      · have d1 : (200 : Int) < (b.length : Int) := by omega
                        have HA1 : Hid ((Lx.word (c :: r)).err = 3) := Lib.hid (by rw [HWX.out, hw]; simp [h200])
                        clear h200 hw hr1 hr2
                        go_wp2_with fail
                        go_meet
                        case rel =>
                          have h := @armed_bad wr w5 wr.heap.size p (Lx.word (c :: r)) (.int .i64 ((k : Int) + 1)) (by rw [HA1.out]; decide) HD1.out
                          rw [HA1.out] at h
                          exact h
                      · have d1 : ¬ (200 : Int) < (b.length : Int) := by omega
                        have HA1 : Hid (Lx.word (c :: r) = ⟨4, k + 1 - p, b, 0⟩) := Lib.hid (by rw [HWX.out, hw, if_neg h200])
                        clear h200 hw hr1 hr2
                        go_wp2_with fail
                        go_meet
                        case rel => exact armed_ok (E := k + 1) (by rw [HA1.out]) HD1.out (by rw [HA1.out]; show k + 1 = p + (k + 1 - p); omega) (by rw [HA1.out]; exact HK1.out)
                    · have hkl' : (k : Int) ≥ (s.size : Int) := by omega
                      have hw := HTE.out.1.none (List.drop_of_length_le (by rw [list_size]; omega))
                      have HA1 : Hid ((Lx.word (c :: r)).err = 7) := Lib.hid (by rw [HWX.out, hw])
                      clear hw
                      go_wp2_with fail
                      go_meet
                      case rel =>
                        have h := @armed_bad wr w5 wr.heap.size p (Lx.word (c :: r)) (.int .i64 ((k : Int) + 1)) (by rw [HA1.out]; decide) HD1.out
                        rw [HA1.out] at h
                        exact h
                · have bq : ((c.toNat : Int) == 39) = false := by rw [beq_eq_false_iff_ne]; exact fun e => hq39 (u8_eq.1 e)
                  have HR0 := Lib.hid (Lx.drop_len HD.out).2
                  have HLEN : Hid (s.size = p + r.length + 1) := Lib.hid (by have := (Lx.drop_len HD.out).1; rwa [list_size] at this)
                  have hx : Lx.word (c :: r) = markW c r := by
                    simp only [Lx.word, if_neg hl, if_neg hdc, if_neg hq39, markW]
                  have HWX := Lib.hid hx
                  have k0 := K0.out.cell 0
                  have k1 := K0.out.cell 1
                  simp only [List.getElem?_toArray, List.getElem?_cons_zero, List.getElem?_cons_succ] at k0 k1
                  have f0 := K0.out.frozen 0
                  have f1 := K0.out.frozen 1
                  obtain ⟨t1, t2⟩ := tok_kind K0.out D0.out (Nat.le_refl _) 5
                  obtain ⟨two, htwo⟩ : ∃ two : Bool, two = (Lx.pre2 c && r.head? == some 61) := ⟨_, rfl⟩
                  obtain ⟨E, hE⟩ : ∃ E, E = if two = true then p + 2 else p + 1 := ⟨_, rfl⟩
                  have hEs : E ≤ s.size := by
                    have hlen := HLEN.out
                    rw [hE]
                    split
                    · rename_i h
                      rw [htwo] at h
                      cases r with
                      | nil => simp at h
                      | cons d r => simp at hlen; omega
                    · omega
                  have hE2 : (((E : Int) - (p : Int)) == 2) = two := by
                    rw [hE]
                    cases two
                    · simp only [Bool.false_eq_true, if_false]; rw [beq_eq_false_iff_ne]; omega
                    · simp only [if_true]; rw [beq_iff_eq]; omega
                  have HE2 := Lib.hid hE2
                  have hpE : p ≤ E := by rw [hE]; split <;> omega
                  have HTWO := Lib.hid htwo
                  have HE := Lib.hid hE
                  clear hl hl' hdc hdc' hq39 hx HN htwo hE hE2
                  go_upto_region 46 with fail
                  clear k0 k1 f0 f1
                  generalize w2.setCell ⟨wr.heap.size, 0, none⟩ (.int .i64 5) = w3 at *
                  clear K0 D0
                  have HT1 := Lib.hid t1
                  have HT2 := Lib.hid t2
                  clear t1 t2
                  go_cut [203] from 19 to 240 (fun s203 wc => s203 = .bool two ∧ wc = w3)
                  case first =>
                    as_aux_lemma =>
                    by_cases h1 : p + 1 < s.size
                    · have h1' : ((p : Int) + 1) < (s.size : Int) := by omega
                      have HHD : Hid (r.head? = some s[p + 1]) := Lib.hid (by rw [← HR0.out, drop_at s (p + 1) h1]; rfl)
                      by_cases h2 : s[p + 1] = 61
                      · have b1 : ((s[p + 1].toNat : Int) == 61) = true := by rw [beq_iff_eq, h2]; rfl
                        have HT : Hid (two = Lx.pre2 c) := Lib.hid (by rw [HTWO.out, HHD.out, h2]; simp)
                        clear h2
                        by_cases c1 : c = 60
                        · have b2 : ((c.toNat : Int) == 60) = true := by rw [beq_iff_eq, c1]; rfl
                          have HTT : Hid (two = true) := Lib.hid (by rw [HT.out, c1]; decide)
                          clear c1
                          go_wp2_with fail
                          go_meet
                          case rel => exact ⟨by rw [HTT.out], rfl⟩
                        · have b2 : ((c.toNat : Int) == 60) = false := by rw [beq_eq_false_iff_ne]; exact fun e => c1 ((u8_eqn (n := 60) (by decide)).1 e)
                          by_cases c2 : c = 62
                          · have b3 : ((c.toNat : Int) == 62) = true := by rw [beq_iff_eq, c2]; rfl
                            have HTT : Hid (two = true) := Lib.hid (by rw [HT.out, c2]; decide)
                            clear c1 c2
                            go_wp2_with fail
                            go_meet
                            case rel => exact ⟨by rw [HTT.out], rfl⟩
                          · have b3 : ((c.toNat : Int) == 62) = false := by rw [beq_eq_false_iff_ne]; exact fun e => c2 ((u8_eqn (n := 62) (by decide)).1 e)
                            by_cases c3 : c = 33
                            · have b4' : ((c.toNat : Int) == 33) = true := by rw [beq_iff_eq, c3]; rfl
                              have HTT : Hid (two = true) := Lib.hid (by rw [HT.out, c3]; decide)
                              clear c1 c2 c3
                              go_wp2_with fail
                              go_meet
                              case rel => exact ⟨by rw [HTT.out], rfl⟩
                            · have b4' : ((c.toNat : Int) == 33) = false := by rw [beq_eq_false_iff_ne]; exact fun e => c3 ((u8_eqn (n := 33) (by decide)).1 e)
                              have HTT : Hid (two = false) := Lib.hid (by rw [HT.out]; simp [Lx.pre2, c1, c2, c3])
                              clear c1 c2 c3
                              go_wp2_with fail
                              go_meet
                              case rel => exact ⟨by rw [HTT.out], rfl⟩
                      · have b1 : ((s[p + 1].toNat : Int) == 61) = false := by rw [beq_eq_false_iff_ne]; exact fun e => h2 ((u8_eqn (n := 61) (by decide)).1 e)
                        have HTT : Hid (two = false) := Lib.hid (by rw [HTWO.out, HHD.out]; simp [h2])
                        clear h2
                        go_wp2_with fail
                        go_meet
                        case rel => exact ⟨by rw [HTT.out], rfl⟩
                    · have h1' : ¬ ((p : Int) + 1) < (s.size : Int) := by omega
                      have HTT : Hid (two = false) := Lib.hid (by
                        rw [HTWO.out, ← HR0.out, List.drop_of_length_le (by rw [list_size]; omega)]; simp)
                      go_wp2_with fail
                      go_meet
                      case rel => exact ⟨by rw [HTT.out], rfl⟩
                  case rest =>
                    obtain ⟨rfl, rfl⟩ := hcut
                    go_upto_if 203 with fail
                    go_cut [7] from 19 to 240 (fun s7 wd => s7 = .int .i64 (E : Nat) ∧ wd = wc)
                    case first =>
                      as_aux_lemma =>
                      have HEE := HE
                      cases two
                      · have HE3 : Hid (E = p + 1) := Lib.hid (by rw [HEE.out]; rfl)
                        go_wp2_with fail
                        go_meet
                        case rel => exact ⟨by rw [HE3.out]; go_num, rfl⟩
                      · have HE3 : Hid (E = p + 2) := Lib.hid (by rw [HEE.out]; rfl)
                        go_wp2_with fail
                        go_meet
                        case rel => exact ⟨by rw [HE3.out]; go_num, rfl⟩
                    obtain ⟨rfl, hwd⟩ := hcut
                    subst hwd
                    have k1 := HT1.out.cell 1
                    simp only [List.getElem?_toArray, List.getElem?_cons_zero, List.getElem?_cons_succ] at k1
                    have f1 := HT1.out.frozen 1
                    have hpE' : (p : Int) ≤ (E : Int) := by omega
                    have hEs' : (E : Int) ≤ (s.size : Int) := by omega
                    obtain ⟨t1, t2⟩ := tok_text HT1.out HT2.out (Nat.le_refl _) (s.extract p E)
                    have HU1 := Lib.hid t1
                    have HU2 := Lib.hid t2
                    clear t1 t2
                    have hE2 := HE2.out
                    go_upto_block 10 with fail
                    clear k1 f1 hE2
                    generalize wc.setCell ⟨wr.heap.size, 1, none⟩ (.string (s.extract p E)) = w5 at *
                    obtain ⟨S, hS⟩ : ∃ S : ByteArray, S = ⟨#[40, 41, 44, 59, 61, 60, 62, 43, 45, 42, 47, 37, 38, 58]⟩ := ⟨_, rfl⟩
                    rw [← hS]
                    have HSL : Hid (S.data.toList = Lx.singlesL) := Lib.hid (by rw [hS]; rfl)
                    have hSz : S.size = 14 := by rw [hS]; rfl
                    clear hS
                    go_cut [11, 13] from 19 to 240 (fun s11 s13 we => s11 = .bool (two || Lx.single c) ∧ we = w5)
                    case first =>
                      as_aux_lemma =>
                      have HSZ := Lib.hid hSz
                      go_wp2_with fail
                      go_loopg [11, 13] 15 (fun j s11 s13 wq => ∃ i : Nat, i ≤ 14 ∧ 14 < i + j ∧ s13 = .int .i64 (i : Nat) ∧ s11 = .bool (two || hasC (S.data.toList.take i) c) ∧ wq = w5)
                      case atStart => exact ⟨0, by omega, by omega, rfl, by simp [hasC], rfl⟩
                      case round =>
                        obtain ⟨i, hi, hj2, rfl, rfl, rfl⟩ := hrel
                        by_cases hlt6 : i < 14
                        · have hlt6' : (i : Int) < 14 := by omega
                          have hiS : i < S.size := by rw [HSZ.out]; exact hlt6
                          have hiS' : (i : Int) < (S.size : Int) := by omega
                          have HTK : Hid ((two || hasC (S.data.toList.take (i + 1)) c) = ((two || hasC (S.data.toList.take i) c) || (S[i] == c))) := Lib.hid (by
                            rw [hasC, hasC, take_snoc' S i hiS, List.contains_append, Bool.or_assoc]
                            congr 2
                            simp only [List.contains_cons, List.contains_nil, Bool.or_false]
                            rw [Bool.eq_iff_iff]; simp only [beq_iff_eq]; exact eq_comm)
                          have HCC : Hid (((S[i].toNat : Int) == (c.toNat : Int)) = (S[i] == c)) := Lib.hid (by
                            rw [Bool.eq_iff_iff]; simp only [beq_iff_eq]
                            constructor
                            · intro h; apply UInt8.toNat_inj.1; omega
                            · rintro h; rw [h])
                          have HC2 : Hid ((S[i].toNat == c.toNat) = (S[i] == c)) := Lib.hid (by
                            rw [Bool.eq_iff_iff]; simp only [beq_iff_eq]
                            exact UInt8.toNat_inj)
                          clear hSz
                          generalize hbb : (two || hasC (S.data.toList.take i) c) = bb at *
                          have HBB := Lib.hid hbb
                          clear hbb
                          cases bb
                          · cases hsc : (S[i] == c)
                            · have q1 := HCC.out
                              have q2 := HC2.out
                              rw [hsc] at q1 q2
                              have HTK2 := Lib.hid (HTK.out.trans (by rw [hsc]; rfl : (false || (S[i] == c)) = false))
                              clear hsc
                              go_wp2_with fail
                              go_roundg (14 - i)
                              case measure => omega
                              case rel => exact ⟨i + 1, by omega, by omega, by go_num, by rw [HTK2.out], rfl⟩
                            · have q1 := HCC.out
                              have q2 := HC2.out
                              rw [hsc] at q1 q2
                              have HTK2 := Lib.hid (HTK.out.trans (by rw [hsc]; rfl : (false || (S[i] == c)) = true))
                              clear hsc
                              go_wp2_with fail
                              go_roundg (14 - i)
                              case measure => omega
                              case rel => exact ⟨i + 1, by omega, by omega, by go_num, by rw [HTK2.out], rfl⟩
                          · have HTK2 := Lib.hid (HTK.out.trans (Bool.true_or _))
                            go_wp2_with fail
                            go_roundg (14 - i)
                            case measure => omega
                            case rel => exact ⟨i + 1, by omega, by omega, by go_num, by rw [HTK2.out], rfl⟩
                        · have hlt6' : ¬ (i : Int) < 14 := by omega
                          have HFIN : Hid ((two || hasC (S.data.toList.take i) c) = (two || Lx.single c)) := Lib.hid (by
                            rw [hasC, List.take_of_length_le (by rw [list_size, HSZ.out]; omega), HSL.out]; rfl)
                          have hnS : ¬ (i : Int) < (S.size : Int) := by rw [HSZ.out]; omega
                          clear hSz
                          go_wp2_with fail
                          go_meet
                          case rel => exact ⟨by rw [HFIN.out], rfl⟩
                    as_aux_lemma =>
                    obtain ⟨rfl, hwe⟩ := hcut
                    subst hwe
                    clear hSz HSL
                    cases htw : two
                    · subst htw
                      have HE3 : Hid (E = p + 1) := Lib.hid (by rw [HE.out]; rfl)
                      cases hsg : Lx.single c
                      · have HA1 : Hid ((Lx.word (c :: r)).err = 7) := Lib.hid (by rw [HWX.out]; simp only [markW, ← HTWO.out, hsg]; rfl)
                        clear hsg
                        go_wp2_with fail
                        go_meet
                        case rel =>
                          have h := @armed_bad wr _ wr.heap.size p (Lx.word (c :: r)) (.int .i64 (E : Nat)) (by rw [HA1.out]; decide) HU2.out
                          rw [HA1.out] at h
                          exact h
                      · have HA1 : Hid (Lx.word (c :: r) = ⟨5, 1, [c], 0⟩) := Lib.hid (by rw [HWX.out]; simp only [markW, ← HTWO.out, hsg]; rfl)
                        have HX : Hid (s.extract p E = str [c]) := Lib.hid (by
                          apply ByteArray.ext
                          apply Array.ext'
                          rw [Lx.cut_str, HE3.out, HD.out, Nat.add_sub_cancel_left]; rfl)
                        clear hsg
                        go_wp2_with fail
                        go_meet
                        case rel => exact armed_ok (by rw [HA1.out]) HU2.out (by rw [HA1.out]; exact HE3.out) (by rw [HA1.out]; have := HU1.out; rw [HX.out] at this; exact this)
                    · subst htw
                      have HE3 : Hid (E = p + 2) := Lib.hid (by rw [HE.out]; rfl)
                      have HA1 : Hid (Lx.word (c :: r) = ⟨5, 2, [c, 61], 0⟩) := Lib.hid (by rw [HWX.out]; simp only [markW, ← HTWO.out]; rfl)
                      have HX : Hid (s.extract p E = str [c, 61]) := Lib.hid (by
                        have h61 : r.head? = some 61 := by
                          have := HTWO.out.symm
                          simp only [Bool.and_eq_true, beq_iff_eq] at this
                          exact this.2
                        apply ByteArray.ext
                        apply Array.ext'
                        rw [Lx.cut_str, HE3.out, HD.out, Nat.add_sub_cancel_left]
                        cases r with
                        | nil => cases h61
                        | cons d r => cases h61; rfl)
                      go_wp2_with fail
                      go_meet
                      case rel => exact armed_ok (by rw [HA1.out]) HU2.out (by rw [HA1.out]; exact HE3.out) (by rw [HA1.out]; have := HU1.out; rw [HX.out] at this; exact this)
          case rest =>
            obtain ⟨rfl, hbc, hok⟩ := hcut
            as_aux_lemma =>
            by_cases he : (Lx.word (c :: r)).err = 0
            · obtain ⟨rfl, hwk⟩ := hok he
              obtain ⟨n1, n2, n3⟩ := HN.out.2 he
              rw [list_size] at n2
              clear hok HN HHB HH35 HD
              rw [he]
              clear he
              generalize Lx.word (c :: r) = x at *
              obtain ⟨K, N, X, E⟩ := x
              dsimp only at hwk n1 n2 n3
              have ht1 : A.length ≤ 10000 := by have := HA.out.2.2; omega
              have hown := HT.out.block
              have hT3 := HT.out.below hbc
              obtain ⟨v5, u4, hap, hvr, hgr⟩ := append_tok hT3 ⟨K, X, p⟩ ht1 (by have := HW.out.lt; have := hbc.size; omega)
              have B3 := bstep HB.out hbc
              have B4 := Lib.hid (below_grown (bstep B3 ((Below.refl _ _).alloc (Nat.le_refl _) (tokObj ⟨K, X, p⟩))) hgr (fun k hk => by have := (hown k hk).1; omega))
              have hW4 : Whole u4 w.heap.size 26 #[.int .i64 0, .int .i64 0] := by
                have h1 := Whole.alloc (Whole.below HW.out hbc (Whole.lt HW.out)) (tokObj ⟨K, X, p⟩)
                unfold Whole at *
                rw [hgr.block w.heap.size (Array.getElem?_eq_some_iff.1 h1).1 (fun e => by have := (hown _ e.symm).1; omega)]
                exact h1
              have c0 := hwk.cell 0
              have c1 := hwk.cell 1
              have c2 := hwk.cell 2
              simp only [List.getElem?_toArray, List.getElem?_cons_zero, List.getElem?_cons_succ] at c0 c1 c2
              have HAP := Lib.hid hap
              have HV4 := Lib.hid hvr
              have HW4 := Lib.hid hW4
              have N3 := Lib.hid n3
              clear hap hvr hW4 hgr hT3 hown B3 HB HW HT n3 hwk hbc K0 D0
              go_wp2_with (at_builtin; refine Lib.wpList_append_run _ rfl (.tmp 236) (.tmp 238) 23 23 rfl _ _ rfl rfl _ _ HAP.out ?_)
              go_roundg (s.size - p)
              case measure => omega
              case rel => exact ⟨p + N, A ++ [⟨K, X, p⟩], by omega, by omega, by go_num, N3, HV4, B4, HW4⟩
            · have HBAD := Lib.hid (HN.out.1 he)
              have W3 := Lib.hid (Whole.below HW.out hbc (Whole.lt HW.out))
              have B3 := Lib.hid (bstep HB.out hbc)
              clear hok HN HHB HH35 HD hbc K0 D0 HT HA
              generalize (Lx.word (c :: r)).err = E at *
              have hE1 : ((E : Int) == 0) = false := by rw [beq_eq_false_iff_ne]; omega
              have hE2 : ((E : Int) != 0) = true := by rw [bne_iff_ne]; omega
              have d0 := Whole.cell W3.out 0
              have d1 := Whole.cell W3.out 1
              simp only [List.getElem?_toArray, List.getElem?_cons_zero, List.getElem?_cons_succ] at d0 d1
              have f0 := Whole.frozen W3.out 0
              have f1 := Whole.frozen W3.out 1
              clear he HB HW
              go_wp2
              obtain ⟨W, hW, hb, q1, q2⟩ := fault_end W3.out B3.out (Nat.le_refl _) (E : Nat) (p : Nat)
              rw [← hW]
              exact bodyPost_ret (v := .tuple #[.slice none 0 0, flt (E : Nat) (p : Nat)]) (by simp [results, Tryz.results9, go_sem, q1, q2]) rfl (LexPost.bad HBAD.out ⟨rfl, hb⟩)
    · have hlt' : ¬ (p : Int) < (s.size : Int) := by omega
      as_aux_lemma =>
      have hpe : p = s.size := by omega
      have HD := Lib.hid (HA.out.done (by rw [list_size]; exact hpe))
      have ht1 : A.length ≤ 10000 := by have := HA.out.2.2; omega
      have hown := HT.out.block
      obtain ⟨v5, u4, hap, hvr, hgr⟩ := append_tok HT.out ⟨0, [], s.size⟩ ht1 HW.out.lt
      have B4 := Lib.hid (below_grown (bstep HB.out ((Below.refl _ _).alloc (Nat.le_refl _) (tokObj ⟨0, [], s.size⟩))) hgr (fun k hk => by have := (hown k hk).1; omega))
      have hW4 : Whole u4 w.heap.size 26 #[.int .i64 0, .int .i64 0] := by
        have h1 := Whole.alloc HW.out (tokObj ⟨0, [], s.size⟩)
        unfold Whole at *
        rw [hgr.block w.heap.size (Array.getElem?_eq_some_iff.1 h1).1 (fun e => by have := (hown _ e.symm).1; omega)]
        exact h1
      have hap2 : Sem.run Tryz.prog (Builtin.append_ #[23, 23] 23 #[_, .slice (some ⟨wr.heap.size, 0, none⟩) 1 1]) (wr.alloc (.cells #[.int .i64 0, .string ⟨#[]⟩, .int .i64 (s.size : Nat)] 34)) = .ok v5 u4 := hap
      have HAP := Lib.hid hap2
      have HV4 := Lib.hid hvr
      have W3 := Lib.hid hW4
      have d0 := Whole.cell W3.out 0
      have d1 := Whole.cell W3.out 1
      simp only [List.getElem?_toArray, List.getElem?_cons_zero, List.getElem?_cons_succ] at d0 d1
      have f0 := Whole.frozen W3.out 0
      have f1 := Whole.frozen W3.out 1
      clear hap hap2 hvr hgr hW4 hown HT HB HW HA hpe
      go_wp2_with (at_builtin; refine Lib.wpList_append_run _ rfl (.tmp 241) (.tmp 245) 23 23 rfl _ _ rfl rfl _ _ HAP.out ?_)
      obtain ⟨W, hW, hb, q1, q2⟩ := fault_end W3.out B4.out (Nat.le_refl _) 0 0
      have hrow : TRow W (w.heap.size + 1) v5 (A ++ [⟨0, [], s.size⟩]) := ownsRow_of_heap HV4.out fun b hb => by
        have := (HV4.out.block b hb).1
        rw [hW, Below.heap_setCell _ _ _ _ (by show b ≠ w.heap.size; omega), Below.heap_setCell _ _ _ _ (by show b ≠ w.heap.size; omega)]
      rw [← hW]
      clear hW
      obtain ⟨A', c', rfl, hc, hT, hbase⟩ := hrow.shape
      have hpost : LexPost w (Lx.lx s.data.toList) (.returned (.tuple #[.slice A' (A ++ [(⟨0, [], s.size⟩ : Lx.Tk)]).length c', flt 0 0])) W := LexPost.ok (by rw [HD.out, list_size]) ⟨A', c', rfl, hc, hT, hb, fun b o e => by have := hbase b o e; omega⟩
      exact bodyPost_ret (v := .tuple #[.slice A' (A ++ [(⟨0, [], s.size⟩ : Lx.Tk)]).length c', flt 0 0]) (by simp [results, Tryz.results9, go_sem, q1, q2]) rfl hpost
set_option maxRecDepth 100000 in
theorem refLex_long (s : ByteArray) (w : World) (hs : 4000 < s.size) :
    Calls Tryz.prog 9 #[.string s] w fun e w' => LexBad w 3 0 e w' := by
  have hs2 : (4000 : Int) < (s.size : Int) := by omega
  go_enter Tryz.func9, Tryz.ntmps9
  go_wp2
  exact bodyPost_ret (v := .tuple #[.slice none 0 0, flt 3 0]) (by simp [results, Tryz.results9, go_sem]) rfl ⟨rfl, (Below.refl _ _).alloc (Nat.le_refl _) _⟩
/-- the reference's Lex. -/
theorem refLex_any (s : ByteArray) (w : World) :
    Calls Tryz.prog 9 #[.string s] w fun e w' => LexPost w (Lx.lx s.data.toList) e w' := by
  by_cases h : 4000 < s.size
  · exact (refLex_long s w h).mono fun e w' k => LexPost.bad (c := 3) (p := 0) (by rw [Lx.lx, if_pos (by rw [list_size]; exact h)]) k
  · exact refLex_short s w (by omega)
end Go.Proofs.YtpffechllcnnaaaGreatDoor
