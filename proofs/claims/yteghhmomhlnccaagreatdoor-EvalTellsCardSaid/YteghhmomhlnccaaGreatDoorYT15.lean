import Derived.Test.YteghhmomhlnccaaGreatDoorYT12
import Derived.Test.YteghhmomhlnccaaGreatDoorYT6
import Derived.Test.YteghhmomhlnccaaGreatDoorYT14
import Derived.Test.YteghhmomhlnccaaGreatDoorYT10
import Derived.Test.YteghhmomhlnccaaGreatDoorRows
import Derived.Test.YteghhmomhlnccaaGreatDoorYT3
import Derived.WalkKit
import Derived.ProofKit
import Derived.OpenShut
import Derived.IntWalk
import Derived.Lib.Hide
set_option linter.unusedVariables false
set_option linter.unusedSimpArgs false
set_option maxRecDepth 100000
set_option maxHeartbeats 100000000
open Go.RowKit Go.Lib
namespace Go.Proofs.YteghhmomhlnccaaGreatDoor
attribute [local go_sem ↓] eqVal neqVal
open Ev (V R Pl)
abbrev vv (v:V):Value:=.agg (vcells v)
abbrev outR (r:R):Value:=.tuple #[vv r.v,.int .i64 r.e]
theorem same_z {v:V} (h:Pl v):same v.k v.n (tx v.s) 0 0 ⟨#[]⟩=decide (v.k=0):=by
 rw [Bool.eq_iff_iff,same_iff,decide_eq_true_iff]
 constructor
 ·exact fun h=>h.1
 ·intro h0; have:=h.null h0; subst this; exact ⟨rfl,rfl,rfl⟩
theorem same_b {v:V} (h:Pl v) (x:Int):same v.k v.n (tx v.s) 3 x ⟨#[]⟩=decide (v.k=3∧v.n=x):=by
 rw [Bool.eq_iff_iff,same_iff,decide_eq_true_iff]
 constructor
 ·exact fun h=>⟨h.1,h.2.1⟩
 ·rintro ⟨h1,h2⟩; exact ⟨h1,h2,by rw [(h.truth h1).2]⟩
theorem sizeVal:(Tryz.prog.info? 23).map (·.size)=some 3:=by kernel_rfl
theorem fin_R {fn:Func} {p u:Tmp} (h:fn.results=#[.cell p 23,.tmp u]) {a:Act} {w W:World} {g:Nat} {k n k0 n0:Int} {s s0:ByteArray} {e:Int} (hp:a.tmps.getD p undef=.pointer (some ⟨g,0,none⟩)) (hu:a.tmps.getD u undef=.int .i64 e) (hd:a.defers=[]) (hr:Row3 W g k0 n0 s0) (hb:Below w.heap.size w W) (hg:w.heap.size≤g) {r:R} (hR:outR r=.tuple #[val k n s,.int .i64 e]) :
  bodyPost Tryz.prog fn (fun e w'=>e=.returned (outR r)∧Below w.heap.size w w') .ret a (((W.setCell ⟨g,0,none⟩ (.int .i64 k)).setCell ⟨g,1,none⟩ (.int .i64 n)).setCell ⟨g,2,none⟩ (.string s)):=
 bodyPost_ret (results_two h _ _ g _ _ _ _ hp (hr.set3 k n s) Tryz.underlying23 rfl sizeVal _ hu) hd ⟨by rw [hR],((hb.setCell (p:=⟨g,0,none⟩) hg _).setCell (p:=⟨g,1,none⟩) hg _).setCell (p:=⟨g,2,none⟩) hg _⟩
theorem are1_any (v:V) (q:Int) (w:World):Calls Tryz.prog 66 #[vv v,.int .i64 q] w fun e w'=>e=.returned (.bool (decide (v.k=q∨v.k=0)))∧Below w.heap.size w w':=by
 obtain ⟨k,n,s⟩:=v
 have B0:Hid (Below w.heap.size w (w.alloc (.cells (vcells ⟨k,n,s⟩) 23))):=hid ((Below.refl _ _).alloc (Nat.le_refl _) _)
 obtain ⟨c0,c1,c2⟩:=(Row3.new w k n (tx s)).holds
 unfold vcells at *
 dsimp only at *
 by_cases h1:k=q
 ·have HD:Hid (decide (k=q∨k=0)=true):=hid (by simp [h1])
  have h1':(k == q)=true:=by simpa using h1
  clear h1
  go_enter Tryz.func66,Tryz.ntmps66
  go_wp2_with fail
  go_ret
  exact ⟨retB2 HD.out.symm,B0.out⟩
 ·have h1':(k == q)=false:=by simpa using h1
  by_cases h2:k=0
  ·have HD:Hid (decide (k=q∨k=0)=true):=hid (by simp [h2])
   have h2':(k == 0)=true:=by simpa using h2
   clear h1 h2
   go_enter Tryz.func66,Tryz.ntmps66
   go_wp2_with fail
   go_ret
   exact ⟨retB2 HD.out.symm,B0.out⟩
  ·have HD:Hid (decide (k=q∨k=0)=false):=hid (by simp [h1,h2])
   have h2':(k == 0)=false:=by simpa using h2
   clear h1 h2
   go_enter Tryz.func66,Tryz.ntmps66
   go_wp2_with fail
   go_ret
   exact ⟨retB2 HD.out.symm,B0.out⟩
def Ev.areB:List V→List Int→Bool
 | [],[]=>true
 | v :: l,q :: m=>decide (v.k=q∨v.k=0) && Ev.areB l m
 | _,_=>false
theorem Ev.areB_iff:∀ (l:List V) (m:List Int),Ev.areB l m=true ↔ l.length=m.length∧∀ i (h:i < l.length) (h2:i < m.length),l[i].k=m[i]∨l[i].k=0
 | [],[]=>by simp [Ev.areB]
 | [],_ :: _=>by simp [Ev.areB]
 | _ :: _,[]=>by simp [Ev.areB]
 | v :: l,q :: m=>by
  rw [Ev.areB,Bool.and_eq_true,decide_eq_true_iff,Ev.areB_iff l m]
  constructor
  ·rintro ⟨h1,h2,h3⟩
   refine ⟨by simp [h2],fun i hi hi2=>?_⟩
   cases i with
   | zero=>exact h1
   | succ i=>exact h3 i (by simpa using hi) (by simpa using hi2)
  ·rintro ⟨h1,h2⟩
   exact ⟨h2 0 (by simp) (by simp),by simpa using h1,fun i hi hi2=>h2 (i + 1) (by simpa using hi) (by simpa using hi2)⟩
theorem Ev.areB_len {l:List V} {m:List Int} (h:l.length ≠ m.length):Ev.areB l m=false:=by
 rw [Bool.eq_false_iff]; intro e; exact h ((Ev.areB_iff l m).1 e).1
theorem Ev.areB_at {l:List V} {m:List Int} (i:Nat) (h:i < l.length) (h2:i < m.length) (hq:¬ (l[i].k=m[i]∨l[i].k=0)):Ev.areB l m=false:=by
 rw [Bool.eq_false_iff]; intro e; exact hq (((Ev.areB_iff l m).1 e).2 i h h2)
theorem equalV_any (L:List V) (K:List Int) (A AK:Option Addr) (c ck:Nat) (w:World) (hA:ValsAt w A L) (hK:IntsAt w AK K) (hn:L.length≤1000000) :
  Calls Tryz.prog 65 #[.slice A L.length c,.slice AK K.length ck,.func (.func 66) #[] #[]] w fun e w'=>e=.returned (.bool (Ev.areB L K))∧Below w.heap.size w w':=by
 by_cases hl:L.length=K.length
 ·have HL:=hid hl
  have hn9:(L.length:Int)≤1000000:=by omega
  obtain ⟨n,hn'⟩:∃ n,L.length=n:=⟨_,rfl⟩
  rw [← hl]
  rw [hn'] at hn9 ⊢
  have HN:=hid hn'
  clear hl hn' hn
  go_enter Tryz.func65,Tryz.ntmps65
  go_wp2_with fail
  go_loopg [7,8,9,17] (n + 1) (fun j s7 s8 s9 s17 wr=>∃ i:Nat,i≤n∧n < i + j∧s17=.int .i64 (i:Nat)∧Hid (∀ k (h1:k < L.length) (h2:k < K.length),k < i→L[k].k=K[k]∨L[k].k=0)∧Hid (Below w.heap.size w wr))
  case atStart=>exact ⟨0,by omega,by omega,rfl,hid (fun k _ _ h=>absurd h (Nat.not_lt_zero _)),hid (Below.refl _ _)⟩
  case round=>
   obtain ⟨i,hi,hj,rfl,HE,HB⟩:=hrel
   by_cases hlt:i < n
   ·have hlt':(i:Int) < (n:Int):=by omega
    have hik:i < L.length:=by rw [HN.out]; exact hlt
    have hil:i < K.length:=by rw [← HL.out]; exact hik
    obtain ⟨b,o,rfl,hx,c0,c1,c2⟩:=(hA.below HB.out) i hik
    obtain ⟨x,hx'⟩:∃ x,L[i]=x:=⟨_,rfl⟩
    rw [hx'] at c0 c1 c2
    have b1:Below wr.heap.size wr (wr.alloc (.cells (vcells x) 23)):=(Below.refl _ _).alloc (Nat.le_refl _) _
    obtain ⟨d0,d1,d2⟩:=(Row3.new wr x.k x.n (tx x.s)).holds
    obtain ⟨b',o',rfl,hy,e0⟩:=(hK.below (bstep HB.out b1)) i hil
    obtain ⟨q,hq'⟩:∃ q,K[i]=q:=⟨_,rfl⟩
    rw [hq'] at e0
    have HCC:=hid (fun W=>are1_any x q W)
    have B1:=hid b1
    have HX:=hid hx'
    have HQ:=hid hq'
    clear hx hy hx' hq' b1
    unfold vv vcells at *
    go_wp2_with fail
    refine (HCC.out _).mono ?_
    rintro e w2 ⟨rfl,hb⟩
    have HB2:=hid (bstep (bstep HB.out B1.out) hb)
    clear hb HCC B1 c0 c1 c2 d0 d1 d2 e0
    cases hq:decide (x.k=q∨x.k=0)
    ·have HF:=hid (Ev.areB_at i hik hil (by rw [HX.out,HQ.out]; exact of_decide_eq_false hq))
     go_wp2_with fail
     go_ret
     exact ⟨by rw [HF.out]; rfl,HB2.out⟩
    ·have HE2:Hid (∀ k (h1:k < L.length) (h2:k < K.length),k < i + 1→L[k].k=K[k]∨L[k].k=0):=hid (fun k h1 h2 h3=>by
      by_cases hki:k=i
      ·subst hki; rw [HX.out,HQ.out]; exact of_decide_eq_true hq
      ·exact HE.out k h1 h2 (by omega))
     clear HE
     go_wp2_with fail
     go_roundg (n - i)
     case measure=>omega
     case rel=>exact ⟨i + 1,by omega,by omega,by go_num,HE2,HB2⟩
   ·have hlt':¬ (i:Int) < (n:Int):=by omega
    have HF:Hid (Ev.areB L K=true):=hid ((Ev.areB_iff L K).2 ⟨HL.out,fun k h1 h2=>HE.out k h1 h2 (by have:=HN.out; omega)⟩)
    go_wp2_with fail
    go_ret
    exact ⟨by rw [HF.out]; rfl,HB.out⟩
 ·have HF:=hid (Ev.areB_len hl)
  have hl':((L.length:Int) != (K.length:Int))=true:=by rw [bne_iff_ne]; omega
  clear hl
  go_enter Tryz.func65,Tryz.ntmps65
  go_wp2_with fail
  go_ret
  exact ⟨by rw [HF.out]; rfl,Below.refl _ _⟩
theorem are_any (L:List V) (K:List Int) (A AK:Option Addr) (c ck:Nat) (w:World) (hA:ValsAt w A L) (hK:IntsAt w AK K) (hn:L.length≤1000000) :
  Calls Tryz.prog 34 #[.slice A L.length c,.slice AK K.length ck] w fun e w'=>e=.returned (.bool (Ev.areB L K))∧Below w.heap.size w w':=by
 have H:=hid (equalV_any L K A AK c ck w hA hK hn)
 clear hA hK hn
 generalize L.length=l at *
 generalize K.length=m at *
 go_enter Tryz.func34,Tryz.ntmps34
 go_wp2_with fail
 refine H.out.mono ?_
 rintro e w2 ⟨rfl,hb⟩
 go_wp2_with fail
 go_ret
 exact ⟨rfl,hb⟩
theorem efail_any (c:Int) (w:World):Calls Tryz.prog 59 #[.int .i64 c] w fun e w'=>e=.returned (outR (Ev.err c))∧Below w.heap.size w w':=by
 have R0:=hid (Row3.new w 0 0 ⟨#[]⟩)
 have B0:=hid ((Below.refl w.heap.size w).alloc (Nat.le_refl _) (.cells #[.int .i64 0,.int .i64 0,.string ⟨#[]⟩] 23))
 go_enter Tryz.func59,Tryz.ntmps59
 go_wp2_with fail
 refine (null_any _).mono ?_
 rintro e w1 ⟨rfl,hb1⟩
 have R1:=hid (R0.out.below hb1 R0.out.lt)
 have B1:=hid (bstep B0.out hb1)
 clear hb1 R0 B0
 obtain ⟨d1,d2,d3⟩:=R1.out.holds
 have f0:=R1.out.frozen 0
 have f1:=R1.out.frozen 1
 have f2:=R1.out.frozen 2
 go_wp2_with fail
 exact fin_R Tryz.results59 rfl rfl rfl R1.out B1.out (Nat.le_refl _) rfl
end Go.Proofs.YteghhmomhlnccaaGreatDoor
namespace Go.Proofs.YteghhmomhlnccaaGreatDoor
theorem add_any (a b:Int) (w:World) (ha:Fits a) (hb:Fits b) :
  Calls Tryz.prog 140 #[.int .i64 a,.int .i64 b] w fun e w'=>e=.returned (.tuple #[.int .i64 (sv (a + b)),.int .i64 (se (a + b))])∧w=w':=by
 obtain ⟨a1,a2⟩:=ha
 obtain ⟨b1,b2⟩:=hb
 by_cases hf:Fits (a + b)
 ·have hv:sv (a + b)=a + b:=if_pos hf
  have he:se (a + b)=0:=if_pos hf
  rw [hv,he]
  clear hv he
  obtain ⟨f1,f2⟩:=hf
  by_cases h1:b > 0
  ·have h2:¬ a > 9223372036854775807 - b:=by omega
   go_enter Tryz.func140,Tryz.ntmps140
   go_wp2
   go_ret2
   exact ⟨rfl,rfl⟩
  ·by_cases h3:b < 0
   ·have h2:¬ a < -9223372036854775808 - b:=by omega
    go_enter Tryz.func140,Tryz.ntmps140
    go_wp2
    go_ret2
    exact ⟨rfl,rfl⟩
   ·go_enter Tryz.func140,Tryz.ntmps140
    go_wp2
    go_ret2
    exact ⟨rfl,rfl⟩
 ·have hv:sv (a + b)=0:=if_neg hf
  have he:se (a + b)=4:=if_neg hf
  rw [hv,he]
  clear hv he
  unfold Fits at hf
  by_cases h1:b > 0
  ·have h2:a > 9223372036854775807 - b:=by omega
   go_enter Tryz.func140,Tryz.ntmps140
   go_wp2
   go_ret2
   exact ⟨rfl,rfl⟩
  ·have h3:b < 0:=by omega
   have h2:a < -9223372036854775808 - b:=by omega
   go_enter Tryz.func140,Tryz.ntmps140
   go_wp2
   go_ret2
   exact ⟨rfl,rfl⟩
end Go.Proofs.YteghhmomhlnccaaGreatDoor
namespace Go.Proofs.YteghhmomhlnccaaGreatDoor
theorem tdiv_bd (M b:Int) (_hM:0≤M) (_hb:b ≠ 0) : -M≤Int.tdiv M b∧Int.tdiv M b≤M:=by
 have h:=Int.natAbs_tdiv_le_natAbs M b
 omega
theorem tdiv_neg_right (M b:Int) (hM:0≤M) (_hb:b < 0):Int.tdiv M b=-(M / (-b)):=by
 have:b=-(-b):=by omega
 rw [this,Int.tdiv_neg,Int.tdiv_eq_ediv_of_nonneg hM,Int.neg_neg]
theorem fits_pp {a b:Int} (h1:a > 0) (h2:b > 0):decide (a≤9223372036854775807 / b)=decide (Fits (a * b)):=by
 rw [decide_eq_decide,Int.le_ediv_iff_mul_le h2]
 have:=Int.mul_pos h1 h2
 unfold Fits; omega
theorem fits_nn {a b:Int} (h1:a < 0) (h2:b < 0):decide (wrap64 (Int.tdiv 9223372036854775807 b)≤a)=decide (Fits (a * b)):=by
 have hb:=tdiv_bd 9223372036854775807 b (by decide) (by omega)
 rw [IntWalk.wrap64_in _ (by omega),tdiv_neg_right _ b (by decide) h2,decide_eq_decide]
 have hh:(-(9223372036854775807 / -b)≤a) ↔ (-a≤9223372036854775807 / -b):=by omega
 rw [hh,Int.le_ediv_iff_mul_le (by omega),Int.neg_mul_neg]
 have:=Int.mul_pos_of_neg_of_neg h1 h2
 unfold Fits; omega
theorem fits_np {a b:Int} (h1:a < 0) (h2:b > 0):decide (wrap64 (-Int.tdiv 9223372036854775808 b)≤a)=decide (Fits (a * b)):=by
 have e:Int.tdiv 9223372036854775808 b=9223372036854775808 / b:=Int.tdiv_eq_ediv_of_nonneg (by decide)
 have l1:0≤9223372036854775808 / b:=Int.ediv_nonneg (by decide) (by omega)
 have l2:=Int.ediv_le_self b (a:=9223372036854775808) (by decide)
 rw [e,IntWalk.wrap64_in _ (by omega),decide_eq_decide]
 have hh:(-(9223372036854775808 / b)≤a) ↔ (-a≤9223372036854775808 / b):=by omega
 rw [hh,Int.le_ediv_iff_mul_le h2,Int.neg_mul]
 have:=Int.mul_neg_of_neg_of_pos h1 h2
 unfold Fits; omega
theorem fits_any (a b:Int) (w:World) (ha:Fits a) (hb:Fits b) :
  Calls Tryz.prog 161 #[.int .i64 a,.int .i64 b] w fun e w'=>e=.returned (.bool (decide (Fits (a * b))))∧w=w':=by
 obtain ⟨a1,a2⟩:=ha
 obtain ⟨b1,b2⟩:=hb
 by_cases h1:a > 0
 ·by_cases h2:b > 0
  ·rw [← fits_pp h1 h2]
   go_enter Tryz.func161,Tryz.ntmps161
   go_wp2
   go_ret
   exact ⟨rfl,rfl⟩
  ·have h3:¬ a < 0:=by omega
   by_cases h4:b < 0
   ·rw [Int.mul_comm,← fits_np h4 h1]
    go_enter Tryz.func161,Tryz.ntmps161
    go_wp2
    go_ret
    exact ⟨rfl,rfl⟩
   ·obtain rfl:b=0:=by omega
    have e:decide (Fits (a * 0))=true:=by rw [Int.mul_zero]; decide
    rw [e]
    clear e h2 h4 b1 b2
    go_enter Tryz.func161,Tryz.ntmps161
    go_wp2
    go_ret
    exact ⟨rfl,rfl⟩
 ·by_cases h2:a < 0
  ·by_cases h3:b < 0
   ·rw [← fits_nn h2 h3]
    go_enter Tryz.func161,Tryz.ntmps161
    go_wp2
    go_ret
    exact ⟨rfl,rfl⟩
   ·by_cases h4:b > 0
    ·rw [← fits_np h2 h4]
     go_enter Tryz.func161,Tryz.ntmps161
     go_wp2
     go_ret
     exact ⟨rfl,rfl⟩
    ·obtain rfl:b=0:=by omega
     have e:decide (Fits (a * 0))=true:=by rw [Int.mul_zero]; decide
     rw [e]
     clear e h4 h3 b1 b2
     go_enter Tryz.func161,Tryz.ntmps161
     go_wp2
     go_ret
     exact ⟨rfl,rfl⟩
  ·obtain rfl:a=0:=by omega
   have e:decide (Fits (0 * b))=true:=by rw [Int.zero_mul]; decide
   rw [e]
   clear e h1 h2 a1 a2
   go_enter Tryz.func161,Tryz.ntmps161
   go_wp2
   go_ret
   exact ⟨rfl,rfl⟩
theorem mul_any (a b:Int) (w:World) (ha:Fits a) (hb:Fits b) :
  Calls Tryz.prog 142 #[.int .i64 a,.int .i64 b] w fun e w'=>e=.returned (.tuple #[.int .i64 (sv (a * b)),.int .i64 (se (a * b))])∧w=w':=by
 by_cases hf:Fits (a * b)
 ·have hv:sv (a * b)=a * b:=if_pos hf
  have he:se (a * b)=0:=if_pos hf
  rw [hv,he]
  have H:decide (Fits (a * b))=true:=decide_eq_true hf
  have K:=fun w=>fits_any a b w ha hb
  rw [H] at K
  have K':=hid K
  clear hv he H K ha hb
  obtain ⟨f1,f2⟩:=hf
  go_enter Tryz.func142,Tryz.ntmps142
  go_wp2_with (go_at_call 161; refine (K'.out _).mono ?_; rintro e w' ⟨rfl,rfl⟩)
  go_ret2
  exact ⟨rfl,rfl⟩
 ·have hv:sv (a * b)=0:=if_neg hf
  have he:se (a * b)=4:=if_neg hf
  rw [hv,he]
  have H:decide (Fits (a * b))=false:=decide_eq_false hf
  have K:=fun w=>fits_any a b w ha hb
  rw [H] at K
  have K':=hid K
  clear hv he H K ha hb hf
  go_enter Tryz.func142,Tryz.ntmps142
  go_wp2_with (go_at_call 161; refine (K'.out _).mono ?_; rintro e w' ⟨rfl,rfl⟩)
  go_ret2
  exact ⟨rfl,rfl⟩
theorem sub_any (a b:Int) (w:World) (ha:Fits a) (hb:Fits b) :
  Calls Tryz.prog 141 #[.int .i64 a,.int .i64 b] w fun e w'=>e=.returned (.tuple #[.int .i64 (sv (a - b)),.int .i64 (se (a - b))])∧w=w':=by
 obtain ⟨a1,a2⟩:=ha
 obtain ⟨b1,b2⟩:=hb
 by_cases hf:Fits (a - b)
 ·have hv:sv (a - b)=a - b:=if_pos hf
  have he:se (a - b)=0:=if_pos hf
  rw [hv,he]
  clear hv he
  obtain ⟨f1,f2⟩:=hf
  by_cases h1:b < 0
  ·have h2:¬ a > 9223372036854775807 + b:=by omega
   have h4:¬ b > 0:=by omega
   go_enter Tryz.func141,Tryz.ntmps141
   go_wp2
   go_ret2
   exact ⟨rfl,rfl⟩
  ·by_cases h3:b > 0
   ·have h2:¬ a < -9223372036854775808 + b:=by omega
    go_enter Tryz.func141,Tryz.ntmps141
    go_wp2
    go_ret2
    exact ⟨rfl,rfl⟩
   ·go_enter Tryz.func141,Tryz.ntmps141
    go_wp2
    go_ret2
    exact ⟨rfl,rfl⟩
 ·have hv:sv (a - b)=0:=if_neg hf
  have he:se (a - b)=4:=if_neg hf
  rw [hv,he]
  clear hv he
  unfold Fits at hf
  by_cases h1:b < 0
  ·have h2:a > 9223372036854775807 + b:=by omega
   go_enter Tryz.func141,Tryz.ntmps141
   go_wp2
   go_ret2
   exact ⟨rfl,rfl⟩
  ·have h3:b > 0:=by omega
   have h2:a < -9223372036854775808 + b:=by omega
   go_enter Tryz.func141,Tryz.ntmps141
   go_wp2
   go_ret2
   exact ⟨rfl,rfl⟩
theorem fits0:Fits 0:=by decide
theorem neg_any (a:Int) (w:World) (ha:Fits a) :
  Calls Tryz.prog 122 #[.int .i64 a] w fun e w'=>e=.returned (.tuple #[.int .i64 (sv (-a)),.int .i64 (se (-a))])∧w=w':=by
 have K:=fun w=>sub_any 0 a w fits0 ha
 rw [Int.zero_sub] at K
 have K':=hid K
 clear K ha
 go_enter Tryz.func122,Tryz.ntmps122
 go_wp2_with (go_at_call 141; refine (K'.out _).mono ?_; rintro e w' ⟨rfl,rfl⟩)
 go_ret2
 exact ⟨rfl,rfl⟩
theorem div_any (a b:Int) (w:World) (ha:Fits a) (hb:Fits b) (h0:b ≠ 0) :
  Calls Tryz.prog 143 #[.int .i64 a,.int .i64 b] w fun e w'=>e=.returned (.tuple #[.int .i64 (sv (a.tdiv b)),.int .i64 (se (a.tdiv b))])∧w=w':=by
 obtain ⟨a1,a2⟩:=ha
 obtain ⟨b1,b2⟩:=hb
 by_cases hs:a=-9223372036854775808∧b=-1
 ·obtain ⟨rfl,rfl⟩:=hs
  have hv:sv ((-9223372036854775808:Int).tdiv (-1))=0:=by decide
  have he:se ((-9223372036854775808:Int).tdiv (-1))=4:=by decide
  rw [hv,he]
  clear hv he a1 a2 b1 b2 h0
  go_enter Tryz.func143,Tryz.ntmps143
  go_wp2
  go_ret2
  exact ⟨rfl,rfl⟩
 ·have hf:Fits (a.tdiv b):=by
   have h:=Int.natAbs_tdiv_le_natAbs a b
   by_cases e:a=-9223372036854775808
   ·have hb1:b ≠ -1:=fun e'=>hs ⟨e,e'⟩
    subst e
    by_cases hb2:b > 0
    ·have e2:Int.tdiv (-9223372036854775808) b=-(9223372036854775808 / b):=by
      rw [show (-9223372036854775808:Int)=-(9223372036854775808) from rfl,Int.neg_tdiv,Int.tdiv_eq_ediv_of_nonneg (by decide)]
     have l1:0≤9223372036854775808 / b:=Int.ediv_nonneg (by decide) (by omega)
     have l2:=Int.ediv_le_self b (a:=9223372036854775808) (by decide)
     rw [e2]; unfold Fits; omega
    ·have e2:Int.tdiv (-9223372036854775808) b=9223372036854775808 / (-b):=by
      rw [show (-9223372036854775808:Int)=-(9223372036854775808) from rfl,show b=-(-b) by omega,Int.neg_tdiv,Int.tdiv_neg,Int.neg_neg,Int.tdiv_eq_ediv_of_nonneg (by decide),Int.neg_neg]
     have l1:0≤9223372036854775808 / (-b):=Int.ediv_nonneg (by decide) (by omega)
     have l2:9223372036854775808 / (-b)≤4611686018427387904:=by
      have q1:=Int.ediv_mul_le 9223372036854775808 (show (-b) ≠ 0 by omega)
      have q2:=Int.mul_le_mul_of_nonneg_left (show (2:Int)≤-b by omega) l1
      omega
     rw [e2]; unfold Fits; omega
   ·unfold Fits; omega
  have hv:sv (a.tdiv b)=a.tdiv b:=if_pos hf
  have he:se (a.tdiv b)=0:=if_pos hf
  rw [hv,he]
  obtain ⟨f1,f2⟩:=hf
  have hw:wrap64 (a.tdiv b)=a.tdiv b:=IntWalk.wrap64_in _ ⟨f1,f2⟩
  have HW:=hid hw
  clear hv he hw
  by_cases e:a=-9223372036854775808
  ·have hb1:¬ b=-1:=fun e'=>hs ⟨e,e'⟩
   clear hs
   subst e
   go_enter Tryz.func143,Tryz.ntmps143
   go_wp2
   go_ret2
   exact ⟨by first | rfl | (have:=HW.out; simp_all),rfl⟩
  ·clear hs
   go_enter Tryz.func143,Tryz.ntmps143
   go_wp2
   go_ret2
   exact ⟨by first | rfl | (have:=HW.out; simp_all),rfl⟩
theorem div_zero (a:Int) (w:World) :
  Calls Tryz.prog 143 #[.int .i64 a,.int .i64 0] w fun e w'=>e=.returned (.tuple #[.int .i64 0,.int .i64 5])∧w=w':=by
 go_enter Tryz.func143,Tryz.ntmps143
 go_wp2
 go_ret2
 exact ⟨rfl,rfl⟩
theorem rem_zero (a:Int) (w:World) :
  Calls Tryz.prog 144 #[.int .i64 a,.int .i64 0] w fun e w'=>e=.returned (.tuple #[.int .i64 0,.int .i64 5])∧w=w':=by
 go_enter Tryz.func144,Tryz.ntmps144
 go_wp2
 go_ret2
 exact ⟨rfl,rfl⟩
theorem rem_any (a b:Int) (w:World) (ha:Fits a) (hb:Fits b) (h0:b ≠ 0) :
  Calls Tryz.prog 144 #[.int .i64 a,.int .i64 b] w fun e w'=>e=.returned (.tuple #[.int .i64 (a.tmod b),.int .i64 0])∧w=w':=by
 obtain ⟨a1,a2⟩:=ha
 obtain ⟨b1,b2⟩:=hb
 by_cases hs:b=-1
 ·subst hs
  have e:a.tmod (-1)=0:=by rw [Int.tmod_neg,Int.tmod_one]
  rw [e]
  clear e h0 b1 b2
  go_enter Tryz.func144,Tryz.ntmps144
  go_wp2
  go_ret2
  exact ⟨rfl,rfl⟩
 ·have hf:Fits (a.tmod b):=by
   have h:=Int.natAbs_tmod a b
   have h2:=Nat.mod_le a.natAbs b.natAbs
   have h3:a.natAbs % b.natAbs < b.natAbs:=Nat.mod_lt _ (by omega)
   unfold Fits; omega
  obtain ⟨f1,f2⟩:=hf
  have hw:wrap64 (a.tmod b)=a.tmod b:=IntWalk.wrap64_in _ ⟨f1,f2⟩
  have HW:=hid hw
  clear hw
  go_enter Tryz.func144,Tryz.ntmps144
  go_wp2
  go_ret2
  exact ⟨by first | rfl | (have:=HW.out; simp_all),rfl⟩
end Go.Proofs.YteghhmomhlnccaaGreatDoor
