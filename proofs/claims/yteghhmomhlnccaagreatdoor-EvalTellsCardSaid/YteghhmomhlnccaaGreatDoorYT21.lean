import Derived.Test.YteghhmomhlnccaaGreatDoorYT18
import Derived.Test.YteghhmomhlnccaaGreatDoorYT7
import Derived.Test.YteghhmomhlnccaaGreatDoorYT1
import Derived.Test.YteghhmomhlnccaaGreatDoorYT19
set_option linter.unusedVariables false
set_option linter.unusedSimpArgs false
set_option maxRecDepth 100000
set_option maxHeartbeats 100000000
open Go.RowKit Go.Lib
namespace Go.Proofs.YteghhmomhlnccaaGreatDoor
attribute [local go_sem ↓] eqVal neqVal
open Ev (V R Pl)
theorem signed_neg (t:List UInt8) (a:V) (A:Option Addr) (c:Nat) (w:World) (hV:ValsAt w A [a]) (ha:Pl a) (hna:a.k ≠ 0) (ad:Addr) (mx:Int) (hE:Env w ad mx) :
  Calls Tryz.prog 93 #[.int .i64 3,.slice A 1 c] w fun e w'=>e=.returned (outR (Ev.un 3 t a))∧Below w.heap.size w w':=by
 have b0:=(Below.refl w.heap.size w).alloc (Nat.le_refl _) (.cells #[.int .i64 0,.int .i64 0,.string ⟨#[]⟩] 23)
 have r0:=Row3.new w 0 0 ⟨#[]⟩
 have hV1:=hV.below b0
 have HE:=hid (hE.below b0)
 obtain ⟨B,O,rfl,hB,x0,x1,x2⟩:=vals_one hV1
 have HBB:Hid (B < w.heap.size):=hid (by obtain ⟨b',o',e,h,-⟩:=hV 0 (by simp); cases e; exact h)
 clear hB hE
 have AT:=hid (fun U g hU hK=>are_one2 a 1 (some ⟨B,O,none⟩) c _ U g hV1 hU hK)
 have HD:Hid (decide (a.k=1∨a.k=0)=decide (a.k=1)):=hid (by rw [Bool.eq_iff_iff]; simp; omega)
 rw [HD.out] at AT
 have FIN:Hid (a.k=1→Ev.un 3 t a=Ev.wholeR (sv (-a.n)) (se (-a.n))):=hid (fun h=>by rw [Ev.un,if_pos rfl,if_pos h,Ev.whole_num])
 have BAD:Hid (¬ (a.k=1)→Ev.un 3 t a=Ev.err 10):=hid (fun h=>by rw [Ev.un,if_pos rfl,if_neg h])
 have HF:Hid (a.k=1→Fits a.n):=hid (fun h=>(ha.number h).1)
 obtain ⟨ka,na,sa⟩:=a
 dsimp only at *
 clear hV hna ha HD
 by_cases hk:ka=1
 ·have HR:=hid (FIN.out hk)
  have HDD:Hid (decide (ka=1)=true):=hid (by simpa using hk)
  rw [HDD.out] at AT
  clear FIN BAD
  obtain ⟨W1,hW1⟩:∃ W1,w.alloc (.cells #[.int .i64 0,.int .i64 0,.string ⟨#[]⟩] 23)=W1:=⟨_,rfl⟩
  rw [hW1] at b0 r0 hV1 x0 x1 x2 AT HE
  have B0:=hid b0
  have R0:=hid r0
  have HV1:=hid hV1
  have HBW:Hid (B < W1.heap.size):=hid (by have:=HBB.out; have:=r0.lt; omega)
  clear b0 r0 hV1
  go_enter Tryz.func93,Tryz.ntmps93
  go_wp2_with fail
  refine (AT.out _ _ (by first | exact (Below.refl _ _).alloc (Nat.le_refl _) _ | exact ((Below.refl _ _).alloc (Nat.le_refl _) _).drew) (by exact Whole.new W1 _ _)).mono ?_
  rintro e W2 ⟨rfl,hb2⟩
  have R2:=hid (R0.out.below hb2 R0.out.lt)
  have B2:=hid (B0.out.trans (hb2.mono B0.out.size))
  have x0':=(hb2.cell (p:=⟨B,O,none⟩) HBW.out).trans x0
  have x1':=(hb2.cell (p:=⟨B,O + 1,none⟩) HBW.out).trans x1
  have x2':=(hb2.cell (p:=⟨B,O + 2,none⟩) HBW.out).trans x2
  have NG:=hid (fun W=>neg_any na W (HF.out hk))
  have WH:=hid (fun n c W (hW:Below W2.heap.size W2 W)=>call_over hW (whole_any n c W))
  unfold outR vv vcells at WH
  clear hb2 AT hk x0 x1 x2
  go_wp2_with fail
  refine (NG.out _).mono ?_
  rintro e W3 ⟨rfl,rfl⟩
  go_wp2_with fail
  refine (WH.out _ _ _ (Below.refl _ _)).mono ?_
  rintro e W5 ⟨rfl,hb5⟩
  have R5:=hid (R2.out.below hb5 R2.out.lt)
  obtain ⟨d1,d2,d3⟩:=R5.out.holds
  have f0:=R5.out.frozen 0
  have f1:=R5.out.frozen 1
  have f2:=R5.out.frozen 2
  have B5:=hid (B2.out.trans (hb5.mono B2.out.size))
  all_goals
   go_wp2_with fail
   exact fin_R Tryz.results93 rfl rfl rfl R5.out B5.out (Nat.le_refl _) (by rw [HR.out])
 ·have HR:=hid (BAD.out hk)
  have HDD:Hid (decide (ka=1)=false):=hid (by simpa using hk)
  rw [HDD.out] at AT
  clear FIN BAD hk
  obtain ⟨W1,hW1⟩:∃ W1,w.alloc (.cells #[.int .i64 0,.int .i64 0,.string ⟨#[]⟩] 23)=W1:=⟨_,rfl⟩
  rw [hW1] at b0 r0 hV1 x0 x1 x2 AT HE
  have B0:=hid b0
  have R0:=hid r0
  have HV1:=hid hV1
  have HBW:Hid (B < W1.heap.size):=hid (by have:=HBB.out; have:=r0.lt; omega)
  clear b0 r0 hV1
  go_enter Tryz.func93,Tryz.ntmps93
  go_wp2_with fail
  refine (AT.out _ _ (by first | exact (Below.refl _ _).alloc (Nat.le_refl _) _ | exact ((Below.refl _ _).alloc (Nat.le_refl _) _).drew) (by exact Whole.new W1 _ _)).mono ?_
  rintro e W2 ⟨rfl,hb2⟩
  have R2:=hid (R0.out.below hb2 R0.out.lt)
  have B2:=hid (B0.out.trans (hb2.mono B0.out.size))
  clear x0 x1 x2 AT
  go_wp2_with fail
  refine (efail_any _ _).mono ?_
  rintro e w3 ⟨rfl,hb3⟩
  have R3:=hid (R2.out.below hb3 R2.out.lt)
  have B3:=hid (bstep B2.out hb3)
  clear hb3
  obtain ⟨d1,d2,d3⟩:=R3.out.holds
  have f0:=R3.out.frozen 0
  have f1:=R3.out.frozen 1
  have f2:=R3.out.frozen 2
  unfold outR vv vcells Ev.err Ev.z
  go_wp2_with fail
  exact fin_R Tryz.results93 rfl rfl rfl R3.out B3.out (Nat.le_refl _) (by rw [HR.out]; rfl)
theorem signed_not (t:List UInt8) (a:V) (A:Option Addr) (c:Nat) (w:World) (hV:ValsAt w A [a]) (ha:Pl a) (hna:a.k ≠ 0) (ad:Addr) (mx:Int) (hE:Env w ad mx) :
  Calls Tryz.prog 93 #[.int .i64 4,.slice A 1 c] w fun e w'=>e=.returned (outR (Ev.un 4 t a))∧Below w.heap.size w w':=by
 have b0:=(Below.refl w.heap.size w).alloc (Nat.le_refl _) (.cells #[.int .i64 0,.int .i64 0,.string ⟨#[]⟩] 23)
 have r0:=Row3.new w 0 0 ⟨#[]⟩
 have hV1:=hV.below b0
 have HE:=hid (hE.below b0)
 obtain ⟨B,O,rfl,hB,x0,x1,x2⟩:=vals_one hV1
 have HBB:Hid (B < w.heap.size):=hid (by obtain ⟨b',o',e,h,-⟩:=hV 0 (by simp); cases e; exact h)
 clear hB hE
 have AT:=hid (fun U g hU hK=>are_one2 a 3 (some ⟨B,O,none⟩) c _ U g hV1 hU hK)
 have HD:Hid (decide (a.k=3∨a.k=0)=decide (a.k=3)):=hid (by rw [Bool.eq_iff_iff]; simp; omega)
 rw [HD.out] at AT
 have FIN:Hid (a.k=3→Ev.un 4 t a=Ev.ok (Ev.tru (same a.k a.n (tx a.s) 3 0 ⟨#[]⟩))):=hid (fun h=>by rw [Ev.un,if_neg (by decide),if_pos rfl,if_pos h,same_b ha 0]; simp [h])
 have BAD:Hid (¬ (a.k=3)→Ev.un 4 t a=Ev.err 10):=hid (fun h=>by rw [Ev.un,if_neg (by decide),if_pos rfl,if_neg h])
 obtain ⟨ka,na,sa⟩:=a
 dsimp only at *
 clear hV hna ha HD
 by_cases hk:ka=3
 ·have HR:=hid (FIN.out hk)
  have HDD:Hid (decide (ka=3)=true):=hid (by simpa using hk)
  rw [HDD.out] at AT
  clear FIN BAD
  obtain ⟨W1,hW1⟩:∃ W1,w.alloc (.cells #[.int .i64 0,.int .i64 0,.string ⟨#[]⟩] 23)=W1:=⟨_,rfl⟩
  rw [hW1] at b0 r0 hV1 x0 x1 x2 AT HE
  have B0:=hid b0
  have R0:=hid r0
  have HV1:=hid hV1
  have HBW:Hid (B < W1.heap.size):=hid (by have:=HBB.out; have:=r0.lt; omega)
  clear b0 r0 hV1
  go_enter Tryz.func93,Tryz.ntmps93
  go_wp2_with fail
  refine (AT.out _ _ (by first | exact (Below.refl _ _).alloc (Nat.le_refl _) _ | exact ((Below.refl _ _).alloc (Nat.le_refl _) _).drew) (by exact Whole.new W1 _ _)).mono ?_
  rintro e W2 ⟨rfl,hb2⟩
  have R2:=hid (R0.out.below hb2 R0.out.lt)
  have B2:=hid (B0.out.trans (hb2.mono B0.out.size))
  have x0':=(hb2.cell (p:=⟨B,O,none⟩) HBW.out).trans x0
  have x1':=(hb2.cell (p:=⟨B,O + 1,none⟩) HBW.out).trans x1
  have x2':=(hb2.cell (p:=⟨B,O + 2,none⟩) HBW.out).trans x2
  have BF:=hid (fun W (hW:Below W2.heap.size W2 W)=>call_over hW (bool_false W))
  have BO:=hid (fun b W (hW:Below W2.heap.size W2 W)=>(bool_any b W).mono (fun e w' h=>(⟨h.1,bstep hW h.2⟩:e=.returned (val 3 (bit b) ⟨#[]⟩)∧Below W2.heap.size W2 w')))
  have HBW2:Hid (B < W2.heap.size):=hid (by have:=HBW.out; have:=hb2.size; omega)
  clear hb2 AT hk x0 x1 x2
  go_upto_region 4 with fail
  have XX:Hid (∀ W,Below W2.heap.size W2 W→W.cell? ⟨B,O,none⟩=some (.int .i64 ka)∧W.cell? ⟨B,O + 1,none⟩=some (.int .i64 na)∧W.cell? ⟨B,O + 2,none⟩=some (.string (tx sa))):=hid (fun W hW=>⟨(hW.cell (p:=⟨B,O,none⟩) HBW2.out).trans x0',(hW.cell (p:=⟨B,O + 1,none⟩) HBW2.out).trans x1',(hW.cell (p:=⟨B,O + 2,none⟩) HBW2.out).trans x2'⟩)
  go_region_with (first
   | (go_at_call 29; refine (BF.out _ (by first | exact below_drewN (Below.refl _ _) _ | exact (Below.refl _ _).drew | exact Below.refl _ _)).mono ?_; rintro e W3 ⟨rfl,hb3⟩; obtain ⟨z0,z1,z2⟩:=XX.out W3 hb3)
   | (go_at_call 29; refine (BO.out _ _ (by first | exact hb3 | exact hb3.drew | exact below_drewN hb3 _)).mono ?_; rintro e W5 ⟨rfl,hb5⟩; have R5:=hid (R2.out.below hb5 R2.out.lt); obtain ⟨d1,d2,d3⟩:=R5.out.holds; have f0:=R5.out.frozen 0; have f1:=R5.out.frozen 1; have f2:=R5.out.frozen 2; have B5:=hid (B2.out.trans (hb5.mono B2.out.size))))
  all_goals
   go_wp2_with fail
   exact fin_R Tryz.results93 rfl rfl rfl R5.out B5.out (Nat.le_refl _) (by rw [HR.out,← bit_tru]; rfl)
 ·have HR:=hid (BAD.out hk)
  have HDD:Hid (decide (ka=3)=false):=hid (by simpa using hk)
  rw [HDD.out] at AT
  clear FIN BAD hk
  obtain ⟨W1,hW1⟩:∃ W1,w.alloc (.cells #[.int .i64 0,.int .i64 0,.string ⟨#[]⟩] 23)=W1:=⟨_,rfl⟩
  rw [hW1] at b0 r0 hV1 x0 x1 x2 AT HE
  have B0:=hid b0
  have R0:=hid r0
  have HV1:=hid hV1
  have HBW:Hid (B < W1.heap.size):=hid (by have:=HBB.out; have:=r0.lt; omega)
  clear b0 r0 hV1
  go_enter Tryz.func93,Tryz.ntmps93
  go_wp2_with fail
  refine (AT.out _ _ (by first | exact (Below.refl _ _).alloc (Nat.le_refl _) _ | exact ((Below.refl _ _).alloc (Nat.le_refl _) _).drew) (by exact Whole.new W1 _ _)).mono ?_
  rintro e W2 ⟨rfl,hb2⟩
  have R2:=hid (R0.out.below hb2 R0.out.lt)
  have B2:=hid (B0.out.trans (hb2.mono B0.out.size))
  clear x0 x1 x2 AT
  go_wp2_with fail
  refine (efail_any _ _).mono ?_
  rintro e w3 ⟨rfl,hb3⟩
  have R3:=hid (R2.out.below hb3 R2.out.lt)
  have B3:=hid (bstep B2.out hb3)
  clear hb3
  obtain ⟨d1,d2,d3⟩:=R3.out.holds
  have f0:=R3.out.frozen 0
  have f1:=R3.out.frozen 1
  have f2:=R3.out.frozen 2
  unfold outR vv vcells Ev.err Ev.z
  go_wp2_with fail
  exact fin_R Tryz.results93 rfl rfl rfl R3.out B3.out (Nat.le_refl _) (by rw [HR.out]; rfl)
end Go.Proofs.YteghhmomhlnccaaGreatDoor
namespace Go.Proofs.YteghhmomhlnccaaGreatDoor
attribute [local go_sem ↓] eqVal neqVal
open Ev (V R Pl)
theorem tx_take (l:List UInt8) (k:Nat) (h:k≤l.length):(tx l).extract 0 k=tx (l.take k):=by
 apply ByteArray.ext
 rw [ByteArray.data_extract]
 show l.toArray.extract 0 k=(l.take k).toArray
 simp
theorem tx_drop (l:List UInt8) (k:Nat):(tx l).extract k l.length=tx (l.drop k):=by
 apply ByteArray.ext
 rw [ByteArray.data_extract]
 show l.toArray.extract k l.length=(l.drop k).toArray
 simp [List.take_of_length_le]
theorem cutN_le (n:Int) (l:Nat):Ev.cutN n l≤l:=by
 unfold Ev.cutN
 by_cases h1:n < 0
 ·rw [if_pos h1]; omega
 ·rw [if_neg h1]
  by_cases h2:n < (l:Int)
  ·rw [if_pos h2]; omega
  ·rw [if_neg h2]; omega
theorem called_len  (a:V) (A:Option Addr) (c:Nat) (w:World) (hV:ValsAt w A [a]) (ha:Pl a) (hna:a.k ≠ 0) (ad:Addr) (mx:Int) (hE:Env w ad mx) :
  Calls Tryz.prog 92 #[.string (tx [108,101,110]),.slice A 1 c] w fun e w'=>e=.returned (outR (Ev.un 6 [108,101,110] a))∧Below w.heap.size w w':=by
 have b0:=(Below.refl w.heap.size w).alloc (Nat.le_refl _) (.cells #[.int .i64 0,.int .i64 0,.string ⟨#[]⟩] 23)
 have r0:=Row3.new w 0 0 ⟨#[]⟩
 have hV1:=hV.below b0
 have HE:=hid (hE.below b0)
 obtain ⟨B,O,rfl,hB,x0,x1,x2⟩:=vals_one hV1
 have HBB:Hid (B < w.heap.size):=hid (by obtain ⟨b',o',e,h,-⟩:=hV 0 (by simp); cases e; exact h)
 clear hB hE
 have AT:=hid (fun U g hU hK=>are_one2 a 2 (some ⟨B,O,none⟩) c _ U g hV1 hU hK)
 have HD:Hid (decide (a.k=2∨a.k=0)=decide (a.k=2)):=hid (by rw [Bool.eq_iff_iff]; simp; omega)
 rw [HD.out] at AT
 have FIN:Hid (a.k=2→Ev.un 6 [108,101,110] a=Ev.ok ⟨1,(a.s.length:Nat),[]⟩):=hid (fun h=>by rw [Ev.un,if_neg (by decide),if_neg (by decide),if_neg (by decide),if_pos h,if_pos rfl])
 have BAD:Hid (¬ (a.k=2)→Ev.un 6 [108,101,110] a=Ev.err 10):=hid (fun h=>by rw [Ev.un,if_neg (by decide),if_neg (by decide),if_neg (by decide),if_neg h])
 have HS:Hid ((tx a.s).size=a.s.length):=hid (by simp [ByteArray.size,tx])
 obtain ⟨ka,na,sa⟩:=a
 dsimp only at *
 clear hV hna ha HD
 by_cases hk:ka=2
 ·have HR:=hid (FIN.out hk)
  have HDD:Hid (decide (ka=2)=true):=hid (by simpa using hk)
  rw [HDD.out] at AT
  clear FIN BAD
  obtain ⟨W1,hW1⟩:∃ W1,w.alloc (.cells #[.int .i64 0,.int .i64 0,.string ⟨#[]⟩] 23)=W1:=⟨_,rfl⟩
  rw [hW1] at b0 r0 hV1 x0 x1 x2 AT HE
  have B0:=hid b0
  have R0:=hid r0
  have HV1:=hid hV1
  have HBW:Hid (B < W1.heap.size):=hid (by have:=HBB.out; have:=r0.lt; omega)
  clear b0 r0 hV1
  go_enter Tryz.func92,Tryz.ntmps92
  go_wp2_with fail
  refine (AT.out _ _ (by first | exact (Below.refl _ _).alloc (Nat.le_refl _) _ | exact ((Below.refl _ _).alloc (Nat.le_refl _) _).drew) (by exact Whole.new W1 _ _)).mono ?_
  rintro e W2 ⟨rfl,hb2⟩
  have R2:=hid (R0.out.below hb2 R0.out.lt)
  have B2:=hid (B0.out.trans (hb2.mono B0.out.size))
  have x0':=(hb2.cell (p:=⟨B,O,none⟩) HBW.out).trans x0
  have x1':=(hb2.cell (p:=⟨B,O + 1,none⟩) HBW.out).trans x1
  have x2':=(hb2.cell (p:=⟨B,O + 2,none⟩) HBW.out).trans x2
  have IN:=hid (fun n W (hW:Below W2.heap.size W2 W)=>call_over hW (int_any n W))
  clear hb2 AT hk x0 x1 x2
  go_wp2_with fail
  refine (IN.out _ _ (Below.refl _ _)).mono ?_
  rintro e W5 ⟨rfl,hb5⟩
  have R5:=hid (R2.out.below hb5 R2.out.lt)
  obtain ⟨d1,d2,d3⟩:=R5.out.holds
  have f0:=R5.out.frozen 0
  have f1:=R5.out.frozen 1
  have f2:=R5.out.frozen 2
  have B5:=hid (B2.out.trans (hb5.mono B2.out.size))
  all_goals
   go_wp2_with fail
   exact fin_R Tryz.results92 rfl rfl rfl R5.out B5.out (Nat.le_refl _) (by rw [HR.out]; rfl)
 ·have HR:=hid (BAD.out hk)
  have HDD:Hid (decide (ka=2)=false):=hid (by simpa using hk)
  rw [HDD.out] at AT
  clear FIN BAD hk
  obtain ⟨W1,hW1⟩:∃ W1,w.alloc (.cells #[.int .i64 0,.int .i64 0,.string ⟨#[]⟩] 23)=W1:=⟨_,rfl⟩
  rw [hW1] at b0 r0 hV1 x0 x1 x2 AT HE
  have B0:=hid b0
  have R0:=hid r0
  have HV1:=hid hV1
  have HBW:Hid (B < W1.heap.size):=hid (by have:=HBB.out; have:=r0.lt; omega)
  clear b0 r0 hV1
  go_enter Tryz.func92,Tryz.ntmps92
  go_wp2_with fail
  refine (AT.out _ _ (by first | exact (Below.refl _ _).alloc (Nat.le_refl _) _ | exact ((Below.refl _ _).alloc (Nat.le_refl _) _).drew) (by exact Whole.new W1 _ _)).mono ?_
  rintro e W2 ⟨rfl,hb2⟩
  have R2:=hid (R0.out.below hb2 R0.out.lt)
  have B2:=hid (B0.out.trans (hb2.mono B0.out.size))
  clear x0 x1 x2 AT
  go_wp2_with fail
  refine (efail_any _ _).mono ?_
  rintro e w3 ⟨rfl,hb3⟩
  have R3:=hid (R2.out.below hb3 R2.out.lt)
  have B3:=hid (bstep B2.out hb3)
  clear hb3
  obtain ⟨d1,d2,d3⟩:=R3.out.holds
  have f0:=R3.out.frozen 0
  have f1:=R3.out.frozen 1
  have f2:=R3.out.frozen 2
  unfold outR vv vcells Ev.err Ev.z
  go_wp2_with fail
  exact fin_R Tryz.results92 rfl rfl rfl R3.out B3.out (Nat.le_refl _) (by rw [HR.out]; rfl)
theorem called_str  (a:V) (A:Option Addr) (c:Nat) (w:World) (hV:ValsAt w A [a]) (ha:Pl a) (hna:a.k ≠ 0) (ad:Addr) (mx:Int) (hE:Env w ad mx) :
  Calls Tryz.prog 92 #[.string (tx [115,116,114]),.slice A 1 c] w fun e w'=>e=.returned (outR (Ev.un 6 [115,116,114] a))∧Below w.heap.size w w':=by
 have b0:=(Below.refl w.heap.size w).alloc (Nat.le_refl _) (.cells #[.int .i64 0,.int .i64 0,.string ⟨#[]⟩] 23)
 have r0:=Row3.new w 0 0 ⟨#[]⟩
 have hV1:=hV.below b0
 have HE:=hid (hE.below b0)
 obtain ⟨B,O,rfl,hB,x0,x1,x2⟩:=vals_one hV1
 have HBB:Hid (B < w.heap.size):=hid (by obtain ⟨b',o',e,h,-⟩:=hV 0 (by simp); cases e; exact h)
 clear hB hE
 have AT:=hid (fun U g hU hK=>are_one2 a 1 (some ⟨B,O,none⟩) c _ U g hV1 hU hK)
 have HD:Hid (decide (a.k=1∨a.k=0)=decide (a.k=1)):=hid (by rw [Bool.eq_iff_iff]; simp; omega)
 rw [HD.out] at AT
 have FIN:Hid (a.k=1→Ev.un 6 [115,116,114] a=Ev.ok ⟨2,0,itoa a.n⟩):=hid (fun h=>by rw [Ev.un,if_neg (by decide),if_neg (by decide),if_pos rfl,if_pos h])
 have BAD:Hid (¬ (a.k=1)→Ev.un 6 [115,116,114] a=Ev.err 10):=hid (fun h=>by rw [Ev.un,if_neg (by decide),if_neg (by decide),if_pos rfl,if_neg h])
 have HF:Hid (a.k=1→Fits a.n):=hid (fun h=>(ha.number h).1)
 obtain ⟨ka,na,sa⟩:=a
 dsimp only at *
 clear hV hna ha HD
 by_cases hk:ka=1
 ·have HR:=hid (FIN.out hk)
  have HDD:Hid (decide (ka=1)=true):=hid (by simpa using hk)
  rw [HDD.out] at AT
  clear FIN BAD
  obtain ⟨W1,hW1⟩:∃ W1,w.alloc (.cells #[.int .i64 0,.int .i64 0,.string ⟨#[]⟩] 23)=W1:=⟨_,rfl⟩
  rw [hW1] at b0 r0 hV1 x0 x1 x2 AT HE
  have B0:=hid b0
  have R0:=hid r0
  have HV1:=hid hV1
  have HBW:Hid (B < W1.heap.size):=hid (by have:=HBB.out; have:=r0.lt; omega)
  clear b0 r0 hV1
  go_enter Tryz.func92,Tryz.ntmps92
  go_wp2_with fail
  refine (AT.out _ _ (by first | exact (Below.refl _ _).alloc (Nat.le_refl _) _ | exact ((Below.refl _ _).alloc (Nat.le_refl _) _).drew) (by exact Whole.new W1 _ _)).mono ?_
  rintro e W2 ⟨rfl,hb2⟩
  have R2:=hid (R0.out.below hb2 R0.out.lt)
  have B2:=hid (B0.out.trans (hb2.mono B0.out.size))
  have x0':=(hb2.cell (p:=⟨B,O,none⟩) HBW.out).trans x0
  have x1':=(hb2.cell (p:=⟨B,O + 1,none⟩) HBW.out).trans x1
  have x2':=(hb2.cell (p:=⟨B,O + 2,none⟩) HBW.out).trans x2
  have HE2:=hid (HE.out.below hb2)
  have HFN:=HF.out hk
  have PR:=hid (print_any na W2 HFN HE2.out.tab)
  have TS:=hid (fun W (hW:Below W2.heap.size W2 W)=>call_over hW (text_small (tx (itoa na)) W (by have:=itoa_length_le na HFN.1 HFN.2; have h2:(tx (itoa na)).size=(itoa na).length:=by simp [ByteArray.size,tx]
                                                                                                            omega)))
  clear hb2 AT hk x0 x1 x2 HFN
  go_wp2_with fail
  refine PR.out.mono ?_
  rintro e W3 ⟨rfl,hb3⟩
  go_wp2_with fail
  refine (TS.out _ hb3).mono ?_
  rintro e W5 ⟨rfl,hb5⟩
  have R5:=hid (R2.out.below hb5 R2.out.lt)
  obtain ⟨d1,d2,d3⟩:=R5.out.holds
  have f0:=R5.out.frozen 0
  have f1:=R5.out.frozen 1
  have f2:=R5.out.frozen 2
  have B5:=hid (B2.out.trans (hb5.mono B2.out.size))
  all_goals
   go_wp2_with fail
   exact fin_R Tryz.results92 rfl rfl rfl R5.out B5.out (Nat.le_refl _) (by rw [HR.out]; rfl)
 ·have HR:=hid (BAD.out hk)
  have HDD:Hid (decide (ka=1)=false):=hid (by simpa using hk)
  rw [HDD.out] at AT
  clear FIN BAD hk
  obtain ⟨W1,hW1⟩:∃ W1,w.alloc (.cells #[.int .i64 0,.int .i64 0,.string ⟨#[]⟩] 23)=W1:=⟨_,rfl⟩
  rw [hW1] at b0 r0 hV1 x0 x1 x2 AT HE
  have B0:=hid b0
  have R0:=hid r0
  have HV1:=hid hV1
  have HBW:Hid (B < W1.heap.size):=hid (by have:=HBB.out; have:=r0.lt; omega)
  clear b0 r0 hV1
  go_enter Tryz.func92,Tryz.ntmps92
  go_wp2_with fail
  refine (AT.out _ _ (by first | exact (Below.refl _ _).alloc (Nat.le_refl _) _ | exact ((Below.refl _ _).alloc (Nat.le_refl _) _).drew) (by exact Whole.new W1 _ _)).mono ?_
  rintro e W2 ⟨rfl,hb2⟩
  have R2:=hid (R0.out.below hb2 R0.out.lt)
  have B2:=hid (B0.out.trans (hb2.mono B0.out.size))
  clear x0 x1 x2 AT
  go_wp2_with fail
  refine (efail_any _ _).mono ?_
  rintro e w3 ⟨rfl,hb3⟩
  have R3:=hid (R2.out.below hb3 R2.out.lt)
  have B3:=hid (bstep B2.out hb3)
  clear hb3
  obtain ⟨d1,d2,d3⟩:=R3.out.holds
  have f0:=R3.out.frozen 0
  have f1:=R3.out.frozen 1
  have f2:=R3.out.frozen 2
  unfold outR vv vcells Ev.err Ev.z
  go_wp2_with fail
  exact fin_R Tryz.results92 rfl rfl rfl R3.out B3.out (Nat.le_refl _) (by rw [HR.out]; rfl)
theorem called_num  (a:V) (A:Option Addr) (c:Nat) (w:World) (hV:ValsAt w A [a]) (ha:Pl a) (hna:a.k ≠ 0) (ad:Addr) (mx:Int) (hE:Env w ad mx) :
  Calls Tryz.prog 92 #[.string (tx [110,117,109]),.slice A 1 c] w fun e w'=>e=.returned (outR (Ev.un 6 [110,117,109] a))∧Below w.heap.size w w':=by
 have b0:=(Below.refl w.heap.size w).alloc (Nat.le_refl _) (.cells #[.int .i64 0,.int .i64 0,.string ⟨#[]⟩] 23)
 have r0:=Row3.new w 0 0 ⟨#[]⟩
 have hV1:=hV.below b0
 have HE:=hid (hE.below b0)
 obtain ⟨B,O,rfl,hB,x0,x1,x2⟩:=vals_one hV1
 have HBB:Hid (B < w.heap.size):=hid (by obtain ⟨b',o',e,h,-⟩:=hV 0 (by simp); cases e; exact h)
 clear hB hE
 have AT:=hid (fun U g hU hK=>are_one2 a 2 (some ⟨B,O,none⟩) c _ U g hV1 hU hK)
 have HD:Hid (decide (a.k=2∨a.k=0)=decide (a.k=2)):=hid (by rw [Bool.eq_iff_iff]; simp; omega)
 rw [HD.out] at AT
 have FIN:Hid (a.k=2→Ev.un 6 [110,117,109] a=Ev.wholeR (rv a.s) (re a.s)):=hid (fun h=>by rw [Ev.un,if_neg (by decide),if_neg (by decide),if_neg (by decide),if_pos h,if_neg (by decide)]; rfl)
 have BAD:Hid (¬ (a.k=2)→Ev.un 6 [110,117,109] a=Ev.err 10):=hid (fun h=>by rw [Ev.un,if_neg (by decide),if_neg (by decide),if_neg (by decide),if_neg h])
 have HS:Hid ((tx a.s).size≤200):=hid (pl_size ha).1
 obtain ⟨ka,na,sa⟩:=a
 dsimp only at *
 clear hV hna ha HD
 by_cases hk:ka=2
 ·have HR:=hid (FIN.out hk)
  have HDD:Hid (decide (ka=2)=true):=hid (by simpa using hk)
  rw [HDD.out] at AT
  clear FIN BAD
  obtain ⟨W1,hW1⟩:∃ W1,w.alloc (.cells #[.int .i64 0,.int .i64 0,.string ⟨#[]⟩] 23)=W1:=⟨_,rfl⟩
  rw [hW1] at b0 r0 hV1 x0 x1 x2 AT HE
  have B0:=hid b0
  have R0:=hid r0
  have HV1:=hid hV1
  have HBW:Hid (B < W1.heap.size):=hid (by have:=HBB.out; have:=r0.lt; omega)
  clear b0 r0 hV1
  go_enter Tryz.func92,Tryz.ntmps92
  go_wp2_with fail
  refine (AT.out _ _ (by first | exact (Below.refl _ _).alloc (Nat.le_refl _) _ | exact ((Below.refl _ _).alloc (Nat.le_refl _) _).drew) (by exact Whole.new W1 _ _)).mono ?_
  rintro e W2 ⟨rfl,hb2⟩
  have R2:=hid (R0.out.below hb2 R0.out.lt)
  have B2:=hid (B0.out.trans (hb2.mono B0.out.size))
  have x0':=(hb2.cell (p:=⟨B,O,none⟩) HBW.out).trans x0
  have x1':=(hb2.cell (p:=⟨B,O + 1,none⟩) HBW.out).trans x1
  have x2':=(hb2.cell (p:=⟨B,O + 2,none⟩) HBW.out).trans x2
  have HE2:=hid (HE.out.below hb2)
  have RD:=hid (read_any (tx sa) W2 (by have:=HS.out; omega) ad HE2.out.cell HE2.out.var)
  have WH:=hid (fun n c W (hW:Below W2.heap.size W2 W)=>call_over hW (whole_any n c W))
  unfold outR vv vcells at WH
  have HSD:Hid ((tx sa).data.toList=sa):=hid (by simp [tx])
  rw [HSD.out] at RD
  clear hb2 AT hk x0 x1 x2
  go_wp2_with fail
  refine RD.out.mono ?_
  rintro e W3 ⟨rfl,hb3⟩
  go_wp2_with fail
  refine (WH.out _ _ _ hb3).mono ?_
  rintro e W5 ⟨rfl,hb5⟩
  have R5:=hid (R2.out.below hb5 R2.out.lt)
  obtain ⟨d1,d2,d3⟩:=R5.out.holds
  have f0:=R5.out.frozen 0
  have f1:=R5.out.frozen 1
  have f2:=R5.out.frozen 2
  have B5:=hid (B2.out.trans (hb5.mono B2.out.size))
  all_goals
   go_wp2_with fail
   exact fin_R Tryz.results92 rfl rfl rfl R5.out B5.out (Nat.le_refl _) (by rw [HR.out])
 ·have HR:=hid (BAD.out hk)
  have HDD:Hid (decide (ka=2)=false):=hid (by simpa using hk)
  rw [HDD.out] at AT
  clear FIN BAD hk
  obtain ⟨W1,hW1⟩:∃ W1,w.alloc (.cells #[.int .i64 0,.int .i64 0,.string ⟨#[]⟩] 23)=W1:=⟨_,rfl⟩
  rw [hW1] at b0 r0 hV1 x0 x1 x2 AT HE
  have B0:=hid b0
  have R0:=hid r0
  have HV1:=hid hV1
  have HBW:Hid (B < W1.heap.size):=hid (by have:=HBB.out; have:=r0.lt; omega)
  clear b0 r0 hV1
  go_enter Tryz.func92,Tryz.ntmps92
  go_wp2_with fail
  refine (AT.out _ _ (by first | exact (Below.refl _ _).alloc (Nat.le_refl _) _ | exact ((Below.refl _ _).alloc (Nat.le_refl _) _).drew) (by exact Whole.new W1 _ _)).mono ?_
  rintro e W2 ⟨rfl,hb2⟩
  have R2:=hid (R0.out.below hb2 R0.out.lt)
  have B2:=hid (B0.out.trans (hb2.mono B0.out.size))
  clear x0 x1 x2 AT
  go_wp2_with fail
  refine (efail_any _ _).mono ?_
  rintro e w3 ⟨rfl,hb3⟩
  have R3:=hid (R2.out.below hb3 R2.out.lt)
  have B3:=hid (bstep B2.out hb3)
  clear hb3
  obtain ⟨d1,d2,d3⟩:=R3.out.holds
  have f0:=R3.out.frozen 0
  have f1:=R3.out.frozen 1
  have f2:=R3.out.frozen 2
  unfold outR vv vcells Ev.err Ev.z
  go_wp2_with fail
  exact fin_R Tryz.results92 rfl rfl rfl R3.out B3.out (Nat.le_refl _) (by rw [HR.out]; rfl)
end Go.Proofs.YteghhmomhlnccaaGreatDoor
namespace Go.Proofs.YteghhmomhlnccaaGreatDoor
attribute [local go_sem ↓] eqVal neqVal
open Ev (V R Pl)
theorem called_left  (a b:V) (A:Option Addr) (c:Nat) (w:World) (hV:ValsAt w A [a,b]) (ha:Pl a) (hb:Pl b) (hna:a.k ≠ 0) (hnb:b.k ≠ 0) (ad:Addr) (mx:Int) (hE:Env w ad mx) :
  Calls Tryz.prog 92 #[.string (tx [108,101,102,116]),.slice A 2 c] w fun e w'=>e=.returned (outR (Ev.side [108,101,102,116] a b))∧Below w.heap.size w w':=by
 have b0:=(Below.refl w.heap.size w).alloc (Nat.le_refl _) (.cells #[.int .i64 0,.int .i64 0,.string ⟨#[]⟩] 23)
 have r0:=Row3.new w 0 0 ⟨#[]⟩
 have hV1:=hV.below b0
 have HE:=hid (hE.below b0)
 obtain ⟨B,O,rfl,hB,⟨x0,x1,x2⟩,y0,y1,y2⟩:=vals_two hV1
 have HBB:Hid (B < w.heap.size):=hid (by obtain ⟨b',o',e,h,-⟩:=hV 0 (by simp); cases e; exact h)
 clear hB hE
 have AT:=hid (fun U g hU hK=>are_two2 a b 2 1 (some ⟨B,O,none⟩) c _ U g hV1 hU hK)
 have HD:Hid ((decide (a.k=2∨a.k=0) && decide (b.k=1∨b.k=0))=decide (a.k=2∧b.k=1)):=hid (by rw [Bool.eq_iff_iff]; simp; omega)
 rw [HD.out] at AT
 have FIN:Hid (a.k=2∧b.k=1→Ev.side [108,101,102,116] a b=Ev.ok ⟨2,0,a.s.take (Ev.cutN b.n a.s.length)⟩):=hid (fun h=>by rw [Ev.side,if_pos h,if_pos rfl])
 have BAD:Hid (¬ (a.k=2∧b.k=1)→Ev.side [108,101,102,116] a b=Ev.err 10):=hid (fun h=>by rw [Ev.side,if_neg h])
 have HS:Hid ((tx a.s).size=a.s.length):=hid (by simp [ByteArray.size,tx])
 have HL:Hid (a.s.length≤200):=hid (pl_size ha).2
 obtain ⟨ka,na,sa⟩:=a
 obtain ⟨kb,nb,sb⟩:=b
 dsimp only at *
 clear hV hna ha HD hb hnb
 by_cases hk:ka=2∧kb=1
 ·have HR:=hid (FIN.out hk)
  have HDD:Hid (decide (ka=2∧kb=1)=true):=hid (by simpa using hk)
  rw [HDD.out] at AT
  clear FIN BAD
  obtain ⟨W1,hW1⟩:∃ W1,w.alloc (.cells #[.int .i64 0,.int .i64 0,.string ⟨#[]⟩] 23)=W1:=⟨_,rfl⟩
  rw [hW1] at b0 r0 hV1 x0 x1 x2 y0 y1 y2 AT HE
  have B0:=hid b0
  have R0:=hid r0
  have HV1:=hid hV1
  have HBW:Hid (B < W1.heap.size):=hid (by have:=HBB.out; have:=r0.lt; omega)
  clear b0 r0 hV1
  go_enter Tryz.func92,Tryz.ntmps92
  go_wp2_with fail
  refine (AT.out _ _ (by first | exact (Below.refl _ _).alloc (Nat.le_refl _) _ | exact ((Below.refl _ _).alloc (Nat.le_refl _) _).drew) (by exact Whole.new W1 _ _)).mono ?_
  rintro e W2 ⟨rfl,hb2⟩
  have R2:=hid (R0.out.below hb2 R0.out.lt)
  have B2:=hid (B0.out.trans (hb2.mono B0.out.size))
  have x0':=(hb2.cell (p:=⟨B,O,none⟩) HBW.out).trans x0
  have x1':=(hb2.cell (p:=⟨B,O + 1,none⟩) HBW.out).trans x1
  have x2':=(hb2.cell (p:=⟨B,O + 2,none⟩) HBW.out).trans x2
  have y0':=(hb2.cell (p:=⟨B,O + 3,none⟩) HBW.out).trans y0
  have y1':=(hb2.cell (p:=⟨B,O + 3 + 1,none⟩) HBW.out).trans y1
  have y2':=(hb2.cell (p:=⟨B,O + 3 + 2,none⟩) HBW.out).trans y2
  clear y0 y1 y2
  obtain ⟨m,hm⟩:∃ m,sa.length=m:=⟨_,rfl⟩
  have HM:=hid hm
  have WI:=hid (fun W=>within_any nb m W)
  obtain ⟨q,hq⟩:∃ q,Ev.cutN nb m=q:=⟨_,rfl⟩
  have hql:q≤m:=by rw [← hq]; exact cutN_le nb m
  have HQL:=hid hql
  rw [hm,hq] at HR
  rw [hq] at WI
  have hm9:m≤200:=by have:=HL.out; omega
  have HTX:Hid ((tx sa).extract 0 q=tx (sa.take q)):=hid (by exact tx_take sa q (by omega))
  have HTZ:Hid ((tx (sa.take q)).size=(sa.take q).length):=hid (by simp [ByteArray.size,tx])
  have TS:=hid (fun W (hW:Below W2.heap.size W2 W)=>call_over hW (text_small ((tx sa).extract 0 q) W (by rw [HTX.out,HTZ.out]; have:=HL.out; rw [List.length_take]; omega)))
  have hsz:((tx sa).size:Int)=(m:Int):=by have:=HS.out; omega
  have hsn:(tx sa).size=m:=by have:=HS.out; omega
  clear hb2 AT hk x0 x1 x2 hm hq
  go_upto_region 8 with fail
  go_region_with (first
   | (go_at_call 121; refine (WI.out _).mono ?_; rintro e W3 ⟨rfl,hw3⟩; subst hw3)
   | (go_at_call 64; refine (TS.out _ (by first | exact below_drewN (Below.refl _ _) _ | exact (Below.refl _ _).drew | exact Below.refl _ _)).mono ?_; rintro e W5 ⟨rfl,hb5⟩; have R5:=hid (R2.out.below hb5 R2.out.lt); obtain ⟨d1,d2,d3⟩:=R5.out.holds; have f0:=R5.out.frozen 0; have f1:=R5.out.frozen 1; have f2:=R5.out.frozen 2; have B5:=hid (B2.out.trans (hb5.mono B2.out.size))))
  all_goals
   go_wp2_with fail
   exact fin_R Tryz.results92 rfl rfl rfl R5.out B5.out (Nat.le_refl _) (by rw [HR.out,HTX.out]; rfl)
 ·have HR:=hid (BAD.out hk)
  have HDD:Hid (decide (ka=2∧kb=1)=false):=hid (by simpa using hk)
  rw [HDD.out] at AT
  clear FIN BAD hk
  obtain ⟨W1,hW1⟩:∃ W1,w.alloc (.cells #[.int .i64 0,.int .i64 0,.string ⟨#[]⟩] 23)=W1:=⟨_,rfl⟩
  rw [hW1] at b0 r0 hV1 x0 x1 x2 y0 y1 y2 AT HE
  have B0:=hid b0
  have R0:=hid r0
  have HV1:=hid hV1
  have HBW:Hid (B < W1.heap.size):=hid (by have:=HBB.out; have:=r0.lt; omega)
  clear b0 r0 hV1
  go_enter Tryz.func92,Tryz.ntmps92
  go_wp2_with fail
  refine (AT.out _ _ (by first | exact (Below.refl _ _).alloc (Nat.le_refl _) _ | exact ((Below.refl _ _).alloc (Nat.le_refl _) _).drew) (by exact Whole.new W1 _ _)).mono ?_
  rintro e W2 ⟨rfl,hb2⟩
  have R2:=hid (R0.out.below hb2 R0.out.lt)
  have B2:=hid (B0.out.trans (hb2.mono B0.out.size))
  clear x0 x1 x2 AT y0 y1 y2
  go_wp2_with fail
  refine (efail_any _ _).mono ?_
  rintro e w3 ⟨rfl,hb3⟩
  have R3:=hid (R2.out.below hb3 R2.out.lt)
  have B3:=hid (bstep B2.out hb3)
  clear hb3
  obtain ⟨d1,d2,d3⟩:=R3.out.holds
  have f0:=R3.out.frozen 0
  have f1:=R3.out.frozen 1
  have f2:=R3.out.frozen 2
  unfold outR vv vcells Ev.err Ev.z
  go_wp2_with fail
  exact fin_R Tryz.results92 rfl rfl rfl R3.out B3.out (Nat.le_refl _) (by rw [HR.out]; rfl)
end Go.Proofs.YteghhmomhlnccaaGreatDoor
namespace Go.Proofs.YteghhmomhlnccaaGreatDoor
attribute [local go_sem ↓] eqVal neqVal
open Ev (V R Pl)
theorem called_right  (a b:V) (A:Option Addr) (c:Nat) (w:World) (hV:ValsAt w A [a,b]) (ha:Pl a) (hb:Pl b) (hna:a.k ≠ 0) (hnb:b.k ≠ 0) (ad:Addr) (mx:Int) (hE:Env w ad mx) :
  Calls Tryz.prog 92 #[.string (tx [114,105,103,104,116]),.slice A 2 c] w fun e w'=>e=.returned (outR (Ev.side [114,105,103,104,116] a b))∧Below w.heap.size w w':=by
 have b0:=(Below.refl w.heap.size w).alloc (Nat.le_refl _) (.cells #[.int .i64 0,.int .i64 0,.string ⟨#[]⟩] 23)
 have r0:=Row3.new w 0 0 ⟨#[]⟩
 have hV1:=hV.below b0
 have HE:=hid (hE.below b0)
 obtain ⟨B,O,rfl,hB,⟨x0,x1,x2⟩,y0,y1,y2⟩:=vals_two hV1
 have HBB:Hid (B < w.heap.size):=hid (by obtain ⟨b',o',e,h,-⟩:=hV 0 (by simp); cases e; exact h)
 clear hB hE
 have AT:=hid (fun U g hU hK=>are_two2 a b 2 1 (some ⟨B,O,none⟩) c _ U g hV1 hU hK)
 have HD:Hid ((decide (a.k=2∨a.k=0) && decide (b.k=1∨b.k=0))=decide (a.k=2∧b.k=1)):=hid (by rw [Bool.eq_iff_iff]; simp; omega)
 rw [HD.out] at AT
 have FIN:Hid (a.k=2∧b.k=1→Ev.side [114,105,103,104,116] a b=Ev.ok ⟨2,0,a.s.drop (a.s.length - Ev.cutN b.n a.s.length)⟩):=hid (fun h=>by rw [Ev.side,if_pos h,if_neg (by decide)])
 have BAD:Hid (¬ (a.k=2∧b.k=1)→Ev.side [114,105,103,104,116] a b=Ev.err 10):=hid (fun h=>by rw [Ev.side,if_neg h])
 have HS:Hid ((tx a.s).size=a.s.length):=hid (by simp [ByteArray.size,tx])
 have HL:Hid (a.s.length≤200):=hid (pl_size ha).2
 obtain ⟨ka,na,sa⟩:=a
 obtain ⟨kb,nb,sb⟩:=b
 dsimp only at *
 clear hV hna ha HD hb hnb
 by_cases hk:ka=2∧kb=1
 ·have HR:=hid (FIN.out hk)
  have HDD:Hid (decide (ka=2∧kb=1)=true):=hid (by simpa using hk)
  rw [HDD.out] at AT
  clear FIN BAD
  obtain ⟨W1,hW1⟩:∃ W1,w.alloc (.cells #[.int .i64 0,.int .i64 0,.string ⟨#[]⟩] 23)=W1:=⟨_,rfl⟩
  rw [hW1] at b0 r0 hV1 x0 x1 x2 y0 y1 y2 AT HE
  have B0:=hid b0
  have R0:=hid r0
  have HV1:=hid hV1
  have HBW:Hid (B < W1.heap.size):=hid (by have:=HBB.out; have:=r0.lt; omega)
  clear b0 r0 hV1
  go_enter Tryz.func92,Tryz.ntmps92
  go_wp2_with fail
  refine (AT.out _ _ (by first | exact (Below.refl _ _).alloc (Nat.le_refl _) _ | exact ((Below.refl _ _).alloc (Nat.le_refl _) _).drew) (by exact Whole.new W1 _ _)).mono ?_
  rintro e W2 ⟨rfl,hb2⟩
  have R2:=hid (R0.out.below hb2 R0.out.lt)
  have B2:=hid (B0.out.trans (hb2.mono B0.out.size))
  have HX0:=hid x0
  have HX1:=hid x1
  have HX2:=hid x2
  have HY0:=hid y0
  have HY1:=hid y1
  have HY2:=hid y2
  have x0':=(hb2.cell (p:=⟨B,O,none⟩) HBW.out).trans x0
  have x1':=(hb2.cell (p:=⟨B,O + 1,none⟩) HBW.out).trans x1
  have x2':=(hb2.cell (p:=⟨B,O + 2,none⟩) HBW.out).trans x2
  have y0':=(hb2.cell (p:=⟨B,O + 3,none⟩) HBW.out).trans y0
  have y1':=(hb2.cell (p:=⟨B,O + 3 + 1,none⟩) HBW.out).trans y1
  have y2':=(hb2.cell (p:=⟨B,O + 3 + 2,none⟩) HBW.out).trans y2
  clear y0 y1 y2
  obtain ⟨m,hm⟩:∃ m,sa.length=m:=⟨_,rfl⟩
  have HM:=hid hm
  have WI:=hid (fun W=>within_any nb m W)
  obtain ⟨q,hq⟩:∃ q,Ev.cutN nb m=q:=⟨_,rfl⟩
  have hql:q≤m:=by rw [← hq]; exact cutN_le nb m
  have HQL:=hid hql
  rw [hm,hq] at HR
  rw [hq] at WI
  obtain ⟨r,hrq⟩:∃ r,m - q=r:=⟨_,rfl⟩
  rw [hrq] at HR
  have hm9:m≤200:=by have:=HL.out; omega
  have HTX:Hid ((tx sa).extract r m=tx (sa.drop r)):=hid (by rw [← HM.out]; exact tx_drop sa _)
  have HTZ:Hid ((tx (sa.drop r)).size=(sa.drop r).length):=hid (by simp [ByteArray.size,tx])
  have TS:=hid (fun W (hW:Below W2.heap.size W2 W)=>call_over hW (text_small ((tx sa).extract r m) W (by rw [HTX.out,HTZ.out]; have:=HL.out; rw [List.length_drop]; omega)))
  have hsz:((tx sa).size:Int)=(m:Int):=by have:=HS.out; omega
  have hsn:(tx sa).size=m:=by have:=HS.out; omega
  have hmq:(m:Int) - (q:Int)=(r:Nat):=by omega
  have hr9:(r:Int)≤(m:Int):=by omega
  have hm9i:(m:Int)≤200:=by omega
  have hq9i:(r:Int)≤200:=by omega
  have hwr:IntKind.i64.wrap ((r:Nat):Int)=(r:Nat):=by rw [IntKind.wrap_i64]; omega
  clear hrq
  have WI2:Hid (∀ U,Calls Tryz.prog 121 #[.int .i64 nb,.int .i64 (m:Nat)] U fun e w'=>e=.returned (.int .i64 (q:Nat))∧Below U.heap.size U w'):=hid (fun U=>(WI.out U).mono (fun e w' h=>⟨h.1,by rw [h.2]; exact Below.refl _ _⟩))
  have TS2:=hid (fun U=>text_small ((tx sa).extract r m) U (by rw [HTX.out,HTZ.out]; have:=HL.out; rw [List.length_drop]; omega))
  have BW2:=hb2.mono (Nat.le_of_lt R0.out.lt)
  have Q1:Hid (BW w W2):=hid B2.out
  have KK:Hid (∀ U,BW w U→(U.cell? ⟨B,O,none⟩=some (.int .i64 ka)∧U.cell? ⟨B,O + 1,none⟩=some (.int .i64 na)∧U.cell? ⟨B,O + 2,none⟩=some (.string (tx sa)))∧U.cell? ⟨B,O + 3,none⟩=some (.int .i64 kb)∧U.cell? ⟨B,O + 3 + 1,none⟩=some (.int .i64 nb)∧U.cell? ⟨B,O + 3 + 2,none⟩=some (.string (tx sb))):=hid (fun U hU=>by
   have e:=fun k=>(hU.cell (p:=⟨B,k,none⟩) HBB.out).trans (B0.out.cell (p:=⟨B,k,none⟩) HBB.out).symm
   exact ⟨⟨(e _).trans HX0.out,(e _).trans HX1.out,(e _).trans HX2.out⟩,(e _).trans HY0.out,(e _).trans HY1.out,(e _).trans HY2.out⟩)
  clear hb2 AT hk hm hq x0 x1 x2 x0' x1' x2' y0' y1' y2' WI TS BW2
  go_upto_region 10 with fail
  have QD:Hid (BW w W2.drew):=hid Q1.out.drew
  refine wp_region_held_drew (S:=fun U=>BW w U) (by kernel_rfl) QD.out (fun _=>?_)
  refine qTk 0 (v:=?_) QD.out ?_ ?_
  rotate_left
  ·(intro W hw; go_simp; try with_reducible rfl)
  refine qTk 1 (v:=?_) QD.out ?_ ?_
  rotate_left
  ·(intro W hw; go_simp; try with_reducible rfl)
  refine qTk 2 (v:=?_) QD.out ?_ ?_
  rotate_left
  ·(intro W hw; go_simp; try with_reducible rfl)
  refine qTk 3 (v:=?_) QD.out ?_ ?_
  rotate_left
  ·(intro W hw; obtain ⟨⟨p0,p1,p2⟩,p3,p4,p5⟩:=KK.out W hw; go_simp; try with_reducible rfl)
  refine qTk 4 (v:=?_) QD.out ?_ ?_
  rotate_left
  ·(intro W hw; go_simp; try with_reducible rfl)
  refine qTk 5 (v:=?_) QD.out ?_ ?_
  rotate_left
  ·(intro W hw; go_simp; try with_reducible rfl)
  refine qTk 6 (v:=?_) QD.out ?_ ?_
  rotate_left
  ·(intro W hw; go_simp; try with_reducible rfl)
  refine qTk 7 (v:=?_) QD.out ?_ ?_
  rotate_left
  ·(intro W hw; obtain ⟨⟨p0,p1,p2⟩,p3,p4,p5⟩:=KK.out W hw; go_simp; try with_reducible rfl)
  refine qTk 8 (v:=?_) QD.out ?_ ?_
  rotate_left
  ·(intro W hw; go_simp; try with_reducible rfl)
  refine qTk 9 (v:=?_) QD.out ?_ ?_
  rotate_left
  ·(intro W hw; go_simp; try with_reducible rfl)
  refine qTk 10 (v:=?_) QD.out ?_ ?_
  rotate_left
  ·(intro W hw; go_simp; try with_reducible rfl)
  refine qTk 11 (v:=?_) QD.out ?_ ?_
  rotate_left
  ·(intro W hw; go_simp; try with_reducible rfl)
  refine qTk 12 (v:=?_) QD.out ?_ ?_
  rotate_left
  ·(intro W hw; obtain ⟨⟨p0,p1,p2⟩,p3,p4,p5⟩:=KK.out W hw; go_simp; try with_reducible rfl)
  refine qTk 13 (v:=?_) QD.out ?_ ?_
  rotate_left
  ·(intro W hw; go_simp; try with_reducible rfl)
  refine qTk 14 (v:=?_) QD.out ?_ ?_
  rotate_left
  ·(intro W hw; go_simp; try with_reducible rfl)
  refine qTk 15 (v:=?_) QD.out ?_ ?_
  rotate_left
  ·(intro W hw; go_simp; try with_reducible rfl)
  refine qTk 16 (v:=?_) QD.out ?_ ?_
  rotate_left
  ·(intro W hw; obtain ⟨⟨p0,p1,p2⟩,p3,p4,p5⟩:=KK.out W hw; go_simp; try with_reducible rfl)
  refine qTk 17 (v:=?_) QD.out ?_ ?_
  rotate_left
  ·(intro W hw; go_simp; try with_reducible rfl)
  refine qTr1 18 (fun K hK=>?_)
  go_simp
  refine (WI2.out _).mono ?_
  rintro e V1 ⟨rfl,hv1⟩
  have QV1:=hid (QD.out.call hv1)
  have ZB1:=Row3.below (w':=V1) (g:=w.heap.size) (k:=0) (n:=0) (s:=⟨#[]⟩) (by exact R2.out) hv1 (by exact R2.out.lt)
  obtain ⟨z0,z1,z2⟩:=ZB1.holds
  have f0:=ZB1.frozen 0
  have f1:=ZB1.frozen 1
  have f2:=ZB1.frozen 2
  refine hK.out _ _ QV1.out (fun _=>?_)
  clear hK K
  refine qTk 19 (v:=?_) QV1.out ?_ ?_
  rotate_left
  ·(intro W hw; go_simp; try with_reducible rfl)
  refine qTk 20 (v:=?_) QV1.out ?_ ?_
  rotate_left
  ·(intro W hw; go_simp; try with_reducible rfl)
  refine qTr1 21 (fun K hK=>?_)
  go_simp
  refine (TS2.out _).mono ?_
  rintro e V2 ⟨rfl,hv2⟩
  have QV2:=hid (QV1.out.call hv2)
  have ZB2:=Row3.below (w':=V2) (g:=w.heap.size) (k:=0) (n:=0) (s:=⟨#[]⟩) (by exact ZB1) hv2 (by exact ZB1.lt)
  obtain ⟨z0,z1,z2⟩:=ZB2.holds
  have f0:=ZB2.frozen 0
  have f1:=ZB2.frozen 1
  have f2:=ZB2.frozen 2
  refine hK.out _ _ QV2.out (fun _=>?_)
  clear hK K
  refine qTr1 22 (fun K hK=>?_)
  go_simp
  have QS:=hid (QV2.out.set3 (g:=w.heap.size) (by first | omega | exact Nat.le_refl _) (.int .i64 2) (.int .i64 0) (.string ((tx sa).extract r m)))
  have FW:=hid (ZB2.set3 2 0 ((tx sa).extract r m))
  refine hK.out _ _ QS.out (fun _=>?_)
  clear hK K
  refine qTk 23 (v:=?_) QS.out ?_ ?_
  rotate_left
  ·(intro W hw; go_simp; try with_reducible rfl)
  refine wpAnyH_done (by kernel_rfl) ?_ _
  try simp only  [Act.put,List.setIfInBounds_toArray,List.set_cons_zero,List.set_cons_succ]
  go_wp2_with fail
  exact fin_R2 Tryz.results92 rfl rfl rfl FW.out QS.out (by rw [HR.out,HTX.out]; rfl)
 ·have HR:=hid (BAD.out hk)
  have HDD:Hid (decide (ka=2∧kb=1)=false):=hid (by simpa using hk)
  rw [HDD.out] at AT
  clear FIN BAD hk
  obtain ⟨W1,hW1⟩:∃ W1,w.alloc (.cells #[.int .i64 0,.int .i64 0,.string ⟨#[]⟩] 23)=W1:=⟨_,rfl⟩
  rw [hW1] at b0 r0 hV1 x0 x1 x2 y0 y1 y2 AT HE
  have B0:=hid b0
  have R0:=hid r0
  have HV1:=hid hV1
  have HBW:Hid (B < W1.heap.size):=hid (by have:=HBB.out; have:=r0.lt; omega)
  clear b0 r0 hV1
  go_enter Tryz.func92,Tryz.ntmps92
  go_wp2_with fail
  refine (AT.out _ _ (by first | exact (Below.refl _ _).alloc (Nat.le_refl _) _ | exact ((Below.refl _ _).alloc (Nat.le_refl _) _).drew) (by exact Whole.new W1 _ _)).mono ?_
  rintro e W2 ⟨rfl,hb2⟩
  have R2:=hid (R0.out.below hb2 R0.out.lt)
  have B2:=hid (B0.out.trans (hb2.mono B0.out.size))
  clear x0 x1 x2 AT y0 y1 y2
  go_wp2_with fail
  refine (efail_any _ _).mono ?_
  rintro e w3 ⟨rfl,hb3⟩
  have R3:=hid (R2.out.below hb3 R2.out.lt)
  have B3:=hid (bstep B2.out hb3)
  clear hb3
  obtain ⟨d1,d2,d3⟩:=R3.out.holds
  have f0:=R3.out.frozen 0
  have f1:=R3.out.frozen 1
  have f2:=R3.out.frozen 2
  unfold outR vv vcells Ev.err Ev.z
  go_wp2_with fail
  exact fin_R Tryz.results92 rfl rfl rfl R3.out B3.out (Nat.le_refl _) (by rw [HR.out]; rfl)
end Go.Proofs.YteghhmomhlnccaaGreatDoor
