/- The reference's GetRow. -/
import Derived.Test.YtmpiknaoocflcaaG5
import Derived.Test.YtmpiknaoocflcaaG6
import Derived.Test.YtmpiknaoocflcaaT3
namespace Go.Proofs.Ytmpiknaoocflcaa
open Go.RowKit

/-- what the reference's GetRow tells. -/
def GotRow (w : World) (n : Nat) (want : Option (List Tri × List UInt8)) (e : Ending) (w' : World) : Prop :=
  Below w.heap.size w w' ∧ match want with
  | some (vs, l') => ∃ v, e = .returned (.tuple #[v, .int .i64 ((n - l'.length : Nat) : Int), .bool true]) ∧ VRow w' w.heap.size v vs
  | none => e = .returned (.tuple #[.slice none 0 0, .int .i64 0, .bool false])
theorem GotRow.no {w w' : World} {n : Nat} {want : Option (List Tri × List UInt8)} (h : want = none) (hb : Below w.heap.size w w') : GotRow w n want (.returned (.tuple #[.slice none 0 0, .int .i64 0, .bool false])) w' := by
  subst h; exact ⟨hb, rfl⟩
theorem VRow.le {w : World} {base base' : Nat} {v : Value} {xs : List Tri} (h : VRow w base v xs) (hb : base' ≤ base) : VRow w base' v xs :=
  ⟨h.1, h.2.imp id fun ⟨g, cap, cur, hv, hg, r⟩ => ⟨g, cap, cur, hv, Nat.le_trans hb hg, r⟩⟩
set_option maxRecDepth 100000 in
set_option maxHeartbeats 1000000 in
theorem refGetRow (B : Option Addr) (c : Nat) (l : List UInt8) (p0 : Nat) (w : World) (h : Holds w B l) (hc : l.length ≤ c) (hl : l.length ≤ 3000) (hp0 : p0 ≤ l.length) :
    Calls Try.prog 32 #[.slice B l.length c, .int .i64 (p0 : Nat)] w (GotRow w l.length (rowOf (l.drop p0))) := by
  have RG := Lib.hid (refGetUint B c l p0 w h hl hp0)
  have H := Lib.hid h
  clear h
  go_enter Try.func32, Try.ntmps32
  go_wp2_with fail
  refine RG.out.mono ?_
  rintro e w1' ⟨rfl, k, rfl⟩
  have bk := below_drewN (Below.refl w.heap.size w) k
  cases hq : numOf (l.drop p0) with
  | none =>
    have HF : Hid (rowOf (l.drop p0) = none) := Lib.hid (by unfold rowOf; rw [hq])
    have BK := Lib.hid bk
    clear hq RG bk
    dsimp only [Placed]
    go_wp2_with fail
    go_ret3
    exact GotRow.no HF.out BK.out
  | some p =>
    obtain ⟨m, l'⟩ := p
    have hm := (numOf_conv hq).2
    obtain ⟨Q, hQ, rfl, hQ2⟩ := placed_drop hq hp0
    have HR : Hid (rowOf (l.drop p0) = if 1000 < m then none else valsOf m (l.drop Q)) := Lib.hid (by unfold rowOf; rw [hq])
    have BK := Lib.hid bk
    clear hq RG bk
    dsimp only [Placed]
    rw [hQ2]
    clear hQ2
    have hl9 : (l.length : Int) ≤ 3000 := by omega
    have hQ9 : (Q : Int) ≤ (l.length : Int) := by omega
    by_cases h1 : 1000 < m
    · have h1' : (1000 : Int) < (m : Int) := by omega
      have HF : Hid (rowOf (l.drop p0) = none) := Lib.hid (by rw [HR.out, if_pos h1])
      clear hm
      go_wp2_with fail
      go_ret3
      exact GotRow.no HF.out BK.out
    · have h1' : ¬ (1000 : Int) < (m : Int) := by omega
      have NEW := Lib.hid (VRow.new (w.drewN k))
      have bn : Hid (Below (w.drewN k).heap.size (w.drewN k) ((w.drewN k).alloc (.cells #[] 42))) := Lib.hid ((Below.refl _ _).alloc (Nat.le_refl _) _)
      clear hm
      go_wp2_with fail
      go_loopg [8, 10, 11] (m + 1) (fun j s8 s10 s11 wr => ∃ (i q : Nat) (vs : List Tri), i ≤ m ∧ m < i + j ∧ q ≤ l.length ∧ s8 = .int .i64 (q : Nat) ∧ s11 = .int .u64 (i : Nat) ∧ valsOf i (l.drop Q) = some (vs, l.drop q) ∧ VRow wr w.heap.size s10 vs ∧ Below w.heap.size w wr)
      case atStart => exact ⟨0, Q, [], by omega, by omega, hQ, rfl, rfl, rfl, NEW.out, below_next BK.out bn.out⟩
      case round =>
        obtain ⟨i, q, vs, hi, hj, hq, rfl, rfl, hvs, hvr, hb⟩ := hrel
        clear NEW bn
        have hvl := valsOf_length i _ _ _ hvs
        have HVS := Lib.hid hvs
        have HVR := Lib.hid hvr
        have HBW := Lib.hid hb
        clear hvs hvr hb
        by_cases hend : i = m
        · have hno : ¬ (i : Int) < (m : Int) := by omega
          have HF : Hid (rowOf (l.drop p0) = some (vs, l.drop q)) := Lib.hid (by rw [HR.out, if_neg h1, ← hend]; exact HVS.out)
          have HL : Hid (l.length - (l.drop q).length = q) := Lib.hid (by rw [List.length_drop]; omega)
          clear hend
          go_wp2_with fail
          go_ret3
          refine ⟨HBW.out, ?_⟩
          rw [HF.out]
          exact ⟨_, by rw [HL.out]; rfl, HVR.out⟩
        · have hlt : (i : Int) < (m : Int) := by omega
          have hi9 : (i : Int) < 2000 := by omega
          have GV := Lib.hid (refGetValue B c l q wr (H.out.below HBW.out) hc hl hq)
          go_wp2_with fail
          refine GV.out.mono ?_
          rintro e w2 ⟨rfl, hb2⟩
          cases hw : valOf (l.drop q) with
          | none =>
            have HF : Hid (rowOf (l.drop p0) = none) := Lib.hid (by
              rw [HR.out, if_neg h1]
              refine valsOf_none (i + 1) _ ?_ m (by omega)
              unfold valsOf
              rw [HVS.out]
              simp only
              rw [hw])
            have B2 := Lib.hid ((below_next HBW.out hb2).alloc (below_next HBW.out hb2).size (.cells #[.int .i64 0, .int .i64 0, .string ⟨#[]⟩] 42))
            clear hw GV hb2
            dsimp only [Placed, tval, Val.val]
            go_wp2_with fail
            go_ret3
            exact GotRow.no HF.out B2.out
          | some p =>
            obtain ⟨⟨kk, n, s⟩, l2⟩ := p
            obtain ⟨q', hq', rfl, hq2⟩ := drop_of_append (valOf_conv hw).1 hq
            have HS : Hid (valsOf (i + 1) (l.drop Q) = some (vs ++ [(kk, n, s)], l.drop q')) := Lib.hid (by
              unfold valsOf
              rw [HVS.out]
              simp only
              rw [hw])
            have bal : Below w2.heap.size w2 (w2.alloc (.cells #[.int .i64 kk, .int .i64 n, .string s] 42)) := (Below.refl _ _).alloc (Nat.le_refl _) _
            have hW3 : Whole (w2.alloc (.cells #[.int .i64 kk, .int .i64 n, .string s] 42)) w2.heap.size 42 #[.int .i64 kk, .int .i64 n, .string s] := Whole.new _ _ _
            generalize hw3 : w2.alloc (.cells #[.int .i64 kk, .int .i64 n, .string s] 42) = w3 at *
            have hb3 := below_next hb2 bal
            obtain ⟨v5, u4, hap, hvr4, hgr⟩ := append_val (HVR.out.below hb3) (kk, n, s) (by omega) (below_next HBW.out hb3).size
            have hown := (HVR.out.below hb3).block
            have B14 := Lib.hid (below_grown ((below_next HBW.out hb3).alloc (below_next HBW.out hb3).size _) hgr (fun j hj => (hown j hj).1))
            have HAP := Lib.hid hap
            have HV4 := Lib.hid hvr4
            have e0 := hW3.cell 0
            have e1 := hW3.cell 1
            have e2 := hW3.cell 2
            simp only [List.getElem?_toArray, List.getElem?_cons_zero, List.getElem?_cons_succ] at e0 e1 e2
            clear hw GV hb2 hb3 bal hW3 hap hvr4 hgr hown
            dsimp only [Placed, tval, Val.val]
            rw [hq2]
            clear hq2
            go_wp2_with (at_builtin; refine Lib.wpList_append_run _ rfl (.tmp 43) (.tmp 45) 40 40 rfl _ _ rfl rfl _ _ HAP.out ?_)
            go_roundg (m - i)
            case measure => omega
            case rel => exact ⟨i + 1, q', vs ++ [(kk, n, s)], by omega, by omega, hq', rfl, rfl, HS.out, HV4.out, B14.out⟩
end Go.Proofs.Ytmpiknaoocflcaa
