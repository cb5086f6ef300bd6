import Derived.Test.YteghhmomhlnccaaGreatDoorYT18
import Derived.StillTailTactics
set_option linter.unusedVariables false
set_option linter.unusedSimpArgs false
set_option maxRecDepth 100000
set_option maxHeartbeats 100000000
open Go.RowKit Go.Lib
namespace Go.Proofs.YteghhmomhlnccaaGreatDoor
attribute [local go_sem ↓] eqVal neqVal
open Ev (V R Pl)
theorem marked_c0 (t:List UInt8) (a b:V) (A:Option Addr) (c:Nat) (w:World) (hV:ValsAt w A [a,b]) (ha:Pl a) (hb:Pl b) (hna:a.k ≠ 0) (hnb:b.k ≠ 0) (t0:(t == [61])=true) :
  Calls Tryz.prog 91 #[.string (tx t),.slice A 2 c] w fun e w'=>e=.returned (outR (Ev.bin t a b))∧Below w.heap.size w w':=by
 have b0:=(Below.refl w.heap.size w).alloc (Nat.le_refl _) (.cells #[.int .i64 0,.int .i64 0,.string ⟨#[]⟩] 23)
 have r0:=Row3.new w 0 0 ⟨#[]⟩
 have hV1:=hV.below b0
 obtain ⟨B,O,rfl,hB,⟨x0,x1,x2⟩,y0,y1,y2⟩:=vals_two hV1
 have HBB:Hid (B < w.heap.size):=hid (by obtain ⟨b',o',e,h,-⟩:=hV 0 (by simp); cases e; exact h)
 clear hB
 have HL:Hid (Ex.lev t=3):=hid (Ev.lev3.2 (by first | exact .inl (by simpa using t0) | exact .inr (.inl (by simpa using t1)) | exact .inr (.inr (.inl (by simpa using t2))) | exact .inr (.inr (.inr (.inl (by simpa using t3)))) | exact .inr (.inr (.inr (.inr (.inl (by simpa using t4))))) | exact .inr (.inr (.inr (.inr (.inr (by simpa using t5)))))))
 have AT:=hid (fun U g hU hK=>are_two2 a b a.k a.k (some ⟨B,O,none⟩) c _ U g hV1 hU hK)
 have HD:Hid ((decide (a.k=a.k∨a.k=0) && decide (b.k=a.k∨b.k=0))=decide (a.k=b.k)):=hid (by rw [Bool.eq_iff_iff]; simp; omega)
 rw [HD.out] at AT
 have FIN:Hid (a.k=b.k→Ev.bin t a b=Ev.ok (Ev.tru (Ev.standB t (cmpV a.k a.n (tx a.s) b.k b.n (tx b.s))))):=hid (fun h=>by rw [Ev.bin,if_pos HL.out,if_pos h,Ev.cmp_stands t ha hb])
 have BAD:Hid (¬ a.k=b.k→Ev.bin t a b=Ev.err 10):=hid (fun h=>by rw [Ev.bin,if_pos HL.out,if_neg h])
 have CMP:=hid (fun W=>compare_any a.k a.n (tx a.s) b.k b.n (tx b.s) W (by have:=(pl_size ha).1; omega) (by have:=(pl_size hb).1; omega))
 obtain ⟨ka,na,sa⟩:=a
 obtain ⟨kb,nb,sb⟩:=b
 dsimp only at *
 clear hV hna hnb ha hb HL HD
 by_cases hk:ka=kb
 ·have HR:=hid (FIN.out hk)
  have HDD:Hid (decide (ka=kb)=true):=hid (by simpa using hk)
  rw [HDD.out] at AT
  clear FIN BAD hk
  obtain ⟨W1,hW1⟩:∃ W1,w.alloc (.cells #[.int .i64 0,.int .i64 0,.string ⟨#[]⟩] 23)=W1:=⟨_,rfl⟩
  rw [hW1] at b0 r0 hV1 x0 x1 x2 y0 y1 y2 AT
  have B0:=hid b0
  have R0:=hid r0
  have HV1:=hid hV1
  have HBW:Hid (B < W1.heap.size):=hid (by have:=HBB.out; have:=r0.lt; omega)
  clear b0 r0 hV1
  go_enter Tryz.func91,Tryz.ntmps91
  go_upto_region 10 with fail
  go_cut [42] from 32 to 42 (fun s42 wc=>s42=.bool true∧Hid (Below W1.heap.size W1 wc))
  case first=>
   go_region_with (go_at_call 34; refine (AT.out _ _ (by first | exact ((Below.refl _ _).alloc (Nat.le_refl _) _).drew | exact (Below.refl _ _).alloc (Nat.le_refl _) _ | exact below_drewN ((Below.refl _ _).alloc (Nat.le_refl _) _) _ | exact below_drewN (((Below.refl _ _).alloc (Nat.le_refl _) _).drew) _) (by exact Whole.new W1 _ _)).mono ?_; rintro e W2 ⟨rfl,hb2⟩)
   all_goals
    go_wp2_with fail
    go_meet
    case rel=>exact ⟨rfl,hid hb2⟩
  case rest=>
   obtain ⟨rfl,HB2⟩:=hcut
   obtain ⟨W2,rfl⟩:∃ W2,W2=wc:=⟨wc,rfl⟩
   have hb2:=HB2.out
   have R2:=hid (R0.out.below hb2 R0.out.lt)
   have B2:=hid (B0.out.trans (hb2.mono B0.out.size))
   have x0':=(hb2.cell (p:=⟨B,O,none⟩) HBW.out).trans x0
   have x1':=(hb2.cell (p:=⟨B,O + 1,none⟩) HBW.out).trans x1
   have x2':=(hb2.cell (p:=⟨B,O + 2,none⟩) HBW.out).trans x2
   have y0':=(hb2.cell (p:=⟨B,O + 3,none⟩) HBW.out).trans y0
   have y1':=(hb2.cell (p:=⟨B,O + 3 + 1,none⟩) HBW.out).trans y1
   have y2':=(hb2.cell (p:=⟨B,O + 3 + 2,none⟩) HBW.out).trans y2
   clear x0 x1 x2 y0 y1 y2
   generalize cmpV ka na (tx sa) kb nb (tx sb)=o at *
   have CM:=hid (fun W (hW:Below W2.heap.size W2 W)=>call_over hW (CMP.out W))
   have ST:=hid (stands_any t o)
   have BO:=hid (fun W (hW:Below W2.heap.size W2 W)=>(bool_any (Ev.standB t o) W).mono (fun e w' h=>(⟨h.1,bstep hW h.2⟩:e=.returned (val 3 (bit (Ev.standB t o)) ⟨#[]⟩)∧Below W2.heap.size W2 w')))
   clear hb2 AT CMP
   go_upto_region 11 with fail
   go_region_with (first
    | (go_at_call 115; refine (CM.out _ (by first | exact below_drewN (Below.refl _ _) _ | exact (Below.refl _ _).drew | exact Below.refl _ _)).mono ?_; rintro e W3 ⟨rfl,hb3⟩)
    | (go_at_call 114; refine (ST.out _).mono ?_; rintro e W4 ⟨rfl,rfl⟩)
    | (go_at_call 29; refine (BO.out _ (by first | exact hb3 | exact hb3.drew | exact below_drewN hb3 _)).mono ?_; rintro e W5 ⟨rfl,hb5⟩; have R5:=hid (R2.out.below hb5 R2.out.lt); obtain ⟨d1,d2,d3⟩:=R5.out.holds; have f0:=R5.out.frozen 0; have f1:=R5.out.frozen 1; have f2:=R5.out.frozen 2; have B5:=hid (B2.out.trans (hb5.mono B2.out.size))))
   all_goals
    go_wp2_with fail
    exact fin_R Tryz.results91 rfl rfl rfl R5.out B5.out (Nat.le_refl _) (by rw [HR.out,← bit_tru]; rfl)
 ·have HR:=hid (BAD.out hk)
  have HDD:Hid (decide (ka=kb)=false):=hid (by simpa using hk)
  rw [HDD.out] at AT
  clear FIN BAD hk CMP
  obtain ⟨W1,hW1⟩:∃ W1,w.alloc (.cells #[.int .i64 0,.int .i64 0,.string ⟨#[]⟩] 23)=W1:=⟨_,rfl⟩
  rw [hW1] at b0 r0 hV1 x0 x1 x2 y0 y1 y2 AT
  have B0:=hid b0
  have R0:=hid r0
  have HV1:=hid hV1
  have HBW:Hid (B < W1.heap.size):=hid (by have:=HBB.out; have:=r0.lt; omega)
  clear b0 r0 hV1
  go_enter Tryz.func91,Tryz.ntmps91
  go_upto_region 10 with fail
  go_cut [42] from 32 to 42 (fun s42 wc=>s42=.bool false∧Hid (Below W1.heap.size W1 wc))
  case first=>
   go_region_with (go_at_call 34; refine (AT.out _ _ (by first | exact ((Below.refl _ _).alloc (Nat.le_refl _) _).drew | exact (Below.refl _ _).alloc (Nat.le_refl _) _ | exact below_drewN ((Below.refl _ _).alloc (Nat.le_refl _) _) _ | exact below_drewN (((Below.refl _ _).alloc (Nat.le_refl _) _).drew) _) (by exact Whole.new W1 _ _)).mono ?_; rintro e W2 ⟨rfl,hb2⟩)
   all_goals
    go_wp2_with fail
    go_meet
    case rel=>exact ⟨rfl,hid hb2⟩
  case rest=>
   obtain ⟨rfl,HB2⟩:=hcut
   obtain ⟨W2,rfl⟩:∃ W2,W2=wc:=⟨wc,rfl⟩
   have hb2:=HB2.out
   have R2:=hid (R0.out.below hb2 R0.out.lt)
   have B2:=hid (B0.out.trans (hb2.mono B0.out.size))
   clear x0 x1 x2 y0 y1 y2 AT
   go_wp2_with fail
   refine (efail_any _ _).mono ?_
   rintro e w3 ⟨rfl,hb3⟩
   have R3:=hid (R2.out.below hb3 R2.out.lt)
   have B3:=hid (bstep B2.out hb3)
   clear hb3
   obtain ⟨d1,d2,d3⟩:=R3.out.holds
   have f0:=R3.out.frozen 0
   have f1:=R3.out.frozen 1
   have f2:=R3.out.frozen 2
   unfold outR vv vcells Ev.err Ev.z
   go_wp2_with fail
   exact fin_R Tryz.results91 rfl rfl rfl R3.out B3.out (Nat.le_refl _) (by rw [HR.out]; rfl)
end Go.Proofs.YteghhmomhlnccaaGreatDoor
namespace Go.Proofs.YteghhmomhlnccaaGreatDoor
attribute [local go_sem ↓] eqVal neqVal
open Ev (V R Pl)
theorem marked_c1 (t:List UInt8) (a b:V) (A:Option Addr) (c:Nat) (w:World) (hV:ValsAt w A [a,b]) (ha:Pl a) (hb:Pl b) (hna:a.k ≠ 0) (hnb:b.k ≠ 0) (t0:(t == [61])=false) (t1:(t == [33,61])=true) :
  Calls Tryz.prog 91 #[.string (tx t),.slice A 2 c] w fun e w'=>e=.returned (outR (Ev.bin t a b))∧Below w.heap.size w w':=by
 have b0:=(Below.refl w.heap.size w).alloc (Nat.le_refl _) (.cells #[.int .i64 0,.int .i64 0,.string ⟨#[]⟩] 23)
 have r0:=Row3.new w 0 0 ⟨#[]⟩
 have hV1:=hV.below b0
 obtain ⟨B,O,rfl,hB,⟨x0,x1,x2⟩,y0,y1,y2⟩:=vals_two hV1
 have HBB:Hid (B < w.heap.size):=hid (by obtain ⟨b',o',e,h,-⟩:=hV 0 (by simp); cases e; exact h)
 clear hB
 have HL:Hid (Ex.lev t=3):=hid (Ev.lev3.2 (by first | exact .inl (by simpa using t0) | exact .inr (.inl (by simpa using t1)) | exact .inr (.inr (.inl (by simpa using t2))) | exact .inr (.inr (.inr (.inl (by simpa using t3)))) | exact .inr (.inr (.inr (.inr (.inl (by simpa using t4))))) | exact .inr (.inr (.inr (.inr (.inr (by simpa using t5)))))))
 have AT:=hid (fun U g hU hK=>are_two2 a b a.k a.k (some ⟨B,O,none⟩) c _ U g hV1 hU hK)
 have HD:Hid ((decide (a.k=a.k∨a.k=0) && decide (b.k=a.k∨b.k=0))=decide (a.k=b.k)):=hid (by rw [Bool.eq_iff_iff]; simp; omega)
 rw [HD.out] at AT
 have FIN:Hid (a.k=b.k→Ev.bin t a b=Ev.ok (Ev.tru (Ev.standB t (cmpV a.k a.n (tx a.s) b.k b.n (tx b.s))))):=hid (fun h=>by rw [Ev.bin,if_pos HL.out,if_pos h,Ev.cmp_stands t ha hb])
 have BAD:Hid (¬ a.k=b.k→Ev.bin t a b=Ev.err 10):=hid (fun h=>by rw [Ev.bin,if_pos HL.out,if_neg h])
 have CMP:=hid (fun W=>compare_any a.k a.n (tx a.s) b.k b.n (tx b.s) W (by have:=(pl_size ha).1; omega) (by have:=(pl_size hb).1; omega))
 obtain ⟨ka,na,sa⟩:=a
 obtain ⟨kb,nb,sb⟩:=b
 dsimp only at *
 clear hV hna hnb ha hb HL HD
 by_cases hk:ka=kb
 ·have HR:=hid (FIN.out hk)
  have HDD:Hid (decide (ka=kb)=true):=hid (by simpa using hk)
  rw [HDD.out] at AT
  clear FIN BAD hk
  obtain ⟨W1,hW1⟩:∃ W1,w.alloc (.cells #[.int .i64 0,.int .i64 0,.string ⟨#[]⟩] 23)=W1:=⟨_,rfl⟩
  rw [hW1] at b0 r0 hV1 x0 x1 x2 y0 y1 y2 AT
  have B0:=hid b0
  have R0:=hid r0
  have HV1:=hid hV1
  have HBW:Hid (B < W1.heap.size):=hid (by have:=HBB.out; have:=r0.lt; omega)
  clear b0 r0 hV1
  go_enter Tryz.func91,Tryz.ntmps91
  go_upto_region 10 with fail
  go_cut [42] from 32 to 42 (fun s42 wc=>s42=.bool true∧Hid (Below W1.heap.size W1 wc))
  case first=>
   go_region_with (go_at_call 34; refine (AT.out _ _ (by first | exact ((Below.refl _ _).alloc (Nat.le_refl _) _).drew | exact (Below.refl _ _).alloc (Nat.le_refl _) _ | exact below_drewN ((Below.refl _ _).alloc (Nat.le_refl _) _) _ | exact below_drewN (((Below.refl _ _).alloc (Nat.le_refl _) _).drew) _) (by exact Whole.new W1 _ _)).mono ?_; rintro e W2 ⟨rfl,hb2⟩)
   all_goals
    go_wp2_with fail
    go_meet
    case rel=>exact ⟨rfl,hid hb2⟩
  case rest=>
   obtain ⟨rfl,HB2⟩:=hcut
   obtain ⟨W2,rfl⟩:∃ W2,W2=wc:=⟨wc,rfl⟩
   have hb2:=HB2.out
   have R2:=hid (R0.out.below hb2 R0.out.lt)
   have B2:=hid (B0.out.trans (hb2.mono B0.out.size))
   have x0':=(hb2.cell (p:=⟨B,O,none⟩) HBW.out).trans x0
   have x1':=(hb2.cell (p:=⟨B,O + 1,none⟩) HBW.out).trans x1
   have x2':=(hb2.cell (p:=⟨B,O + 2,none⟩) HBW.out).trans x2
   have y0':=(hb2.cell (p:=⟨B,O + 3,none⟩) HBW.out).trans y0
   have y1':=(hb2.cell (p:=⟨B,O + 3 + 1,none⟩) HBW.out).trans y1
   have y2':=(hb2.cell (p:=⟨B,O + 3 + 2,none⟩) HBW.out).trans y2
   clear x0 x1 x2 y0 y1 y2
   generalize cmpV ka na (tx sa) kb nb (tx sb)=o at *
   have CM:=hid (fun W (hW:Below W2.heap.size W2 W)=>call_over hW (CMP.out W))
   have ST:=hid (stands_any t o)
   have BO:=hid (fun W (hW:Below W2.heap.size W2 W)=>(bool_any (Ev.standB t o) W).mono (fun e w' h=>(⟨h.1,bstep hW h.2⟩:e=.returned (val 3 (bit (Ev.standB t o)) ⟨#[]⟩)∧Below W2.heap.size W2 w')))
   clear hb2 AT CMP
   go_upto_region 11 with fail
   go_region_with (first
    | (go_at_call 115; refine (CM.out _ (by first | exact below_drewN (Below.refl _ _) _ | exact (Below.refl _ _).drew | exact Below.refl _ _)).mono ?_; rintro e W3 ⟨rfl,hb3⟩)
    | (go_at_call 114; refine (ST.out _).mono ?_; rintro e W4 ⟨rfl,rfl⟩)
    | (go_at_call 29; refine (BO.out _ (by first | exact hb3 | exact hb3.drew | exact below_drewN hb3 _)).mono ?_; rintro e W5 ⟨rfl,hb5⟩; have R5:=hid (R2.out.below hb5 R2.out.lt); obtain ⟨d1,d2,d3⟩:=R5.out.holds; have f0:=R5.out.frozen 0; have f1:=R5.out.frozen 1; have f2:=R5.out.frozen 2; have B5:=hid (B2.out.trans (hb5.mono B2.out.size))))
   all_goals
    go_wp2_with fail
    exact fin_R Tryz.results91 rfl rfl rfl R5.out B5.out (Nat.le_refl _) (by rw [HR.out,← bit_tru]; rfl)
 ·have HR:=hid (BAD.out hk)
  have HDD:Hid (decide (ka=kb)=false):=hid (by simpa using hk)
  rw [HDD.out] at AT
  clear FIN BAD hk CMP
  obtain ⟨W1,hW1⟩:∃ W1,w.alloc (.cells #[.int .i64 0,.int .i64 0,.string ⟨#[]⟩] 23)=W1:=⟨_,rfl⟩
  rw [hW1] at b0 r0 hV1 x0 x1 x2 y0 y1 y2 AT
  have B0:=hid b0
  have R0:=hid r0
  have HV1:=hid hV1
  have HBW:Hid (B < W1.heap.size):=hid (by have:=HBB.out; have:=r0.lt; omega)
  clear b0 r0 hV1
  go_enter Tryz.func91,Tryz.ntmps91
  go_upto_region 10 with fail
  go_cut [42] from 32 to 42 (fun s42 wc=>s42=.bool false∧Hid (Below W1.heap.size W1 wc))
  case first=>
   go_region_with (go_at_call 34; refine (AT.out _ _ (by first | exact ((Below.refl _ _).alloc (Nat.le_refl _) _).drew | exact (Below.refl _ _).alloc (Nat.le_refl _) _ | exact below_drewN ((Below.refl _ _).alloc (Nat.le_refl _) _) _ | exact below_drewN (((Below.refl _ _).alloc (Nat.le_refl _) _).drew) _) (by exact Whole.new W1 _ _)).mono ?_; rintro e W2 ⟨rfl,hb2⟩)
   all_goals
    go_wp2_with fail
    go_meet
    case rel=>exact ⟨rfl,hid hb2⟩
  case rest=>
   obtain ⟨rfl,HB2⟩:=hcut
   obtain ⟨W2,rfl⟩:∃ W2,W2=wc:=⟨wc,rfl⟩
   have hb2:=HB2.out
   have R2:=hid (R0.out.below hb2 R0.out.lt)
   have B2:=hid (B0.out.trans (hb2.mono B0.out.size))
   clear x0 x1 x2 y0 y1 y2 AT
   go_wp2_with fail
   refine (efail_any _ _).mono ?_
   rintro e w3 ⟨rfl,hb3⟩
   have R3:=hid (R2.out.below hb3 R2.out.lt)
   have B3:=hid (bstep B2.out hb3)
   clear hb3
   obtain ⟨d1,d2,d3⟩:=R3.out.holds
   have f0:=R3.out.frozen 0
   have f1:=R3.out.frozen 1
   have f2:=R3.out.frozen 2
   unfold outR vv vcells Ev.err Ev.z
   go_wp2_with fail
   exact fin_R Tryz.results91 rfl rfl rfl R3.out B3.out (Nat.le_refl _) (by rw [HR.out]; rfl)
end Go.Proofs.YteghhmomhlnccaaGreatDoor
namespace Go.Proofs.YteghhmomhlnccaaGreatDoor
attribute [local go_sem ↓] eqVal neqVal
open Ev (V R Pl)
theorem marked_c2 (t:List UInt8) (a b:V) (A:Option Addr) (c:Nat) (w:World) (hV:ValsAt w A [a,b]) (ha:Pl a) (hb:Pl b) (hna:a.k ≠ 0) (hnb:b.k ≠ 0) (t0:(t == [61])=false) (t1:(t == [33,61])=false) (t2:(t == [60])=true) :
  Calls Tryz.prog 91 #[.string (tx t),.slice A 2 c] w fun e w'=>e=.returned (outR (Ev.bin t a b))∧Below w.heap.size w w':=by
 have b0:=(Below.refl w.heap.size w).alloc (Nat.le_refl _) (.cells #[.int .i64 0,.int .i64 0,.string ⟨#[]⟩] 23)
 have r0:=Row3.new w 0 0 ⟨#[]⟩
 have hV1:=hV.below b0
 obtain ⟨B,O,rfl,hB,⟨x0,x1,x2⟩,y0,y1,y2⟩:=vals_two hV1
 have HBB:Hid (B < w.heap.size):=hid (by obtain ⟨b',o',e,h,-⟩:=hV 0 (by simp); cases e; exact h)
 clear hB
 have HL:Hid (Ex.lev t=3):=hid (Ev.lev3.2 (by first | exact .inl (by simpa using t0) | exact .inr (.inl (by simpa using t1)) | exact .inr (.inr (.inl (by simpa using t2))) | exact .inr (.inr (.inr (.inl (by simpa using t3)))) | exact .inr (.inr (.inr (.inr (.inl (by simpa using t4))))) | exact .inr (.inr (.inr (.inr (.inr (by simpa using t5)))))))
 have AT:=hid (fun U g hU hK=>are_two2 a b a.k a.k (some ⟨B,O,none⟩) c _ U g hV1 hU hK)
 have HD:Hid ((decide (a.k=a.k∨a.k=0) && decide (b.k=a.k∨b.k=0))=decide (a.k=b.k)):=hid (by rw [Bool.eq_iff_iff]; simp; omega)
 rw [HD.out] at AT
 have FIN:Hid (a.k=b.k→Ev.bin t a b=Ev.ok (Ev.tru (Ev.standB t (cmpV a.k a.n (tx a.s) b.k b.n (tx b.s))))):=hid (fun h=>by rw [Ev.bin,if_pos HL.out,if_pos h,Ev.cmp_stands t ha hb])
 have BAD:Hid (¬ a.k=b.k→Ev.bin t a b=Ev.err 10):=hid (fun h=>by rw [Ev.bin,if_pos HL.out,if_neg h])
 have CMP:=hid (fun W=>compare_any a.k a.n (tx a.s) b.k b.n (tx b.s) W (by have:=(pl_size ha).1; omega) (by have:=(pl_size hb).1; omega))
 obtain ⟨ka,na,sa⟩:=a
 obtain ⟨kb,nb,sb⟩:=b
 dsimp only at *
 clear hV hna hnb ha hb HL HD
 by_cases hk:ka=kb
 ·have HR:=hid (FIN.out hk)
  have HDD:Hid (decide (ka=kb)=true):=hid (by simpa using hk)
  rw [HDD.out] at AT
  clear FIN BAD hk
  obtain ⟨W1,hW1⟩:∃ W1,w.alloc (.cells #[.int .i64 0,.int .i64 0,.string ⟨#[]⟩] 23)=W1:=⟨_,rfl⟩
  rw [hW1] at b0 r0 hV1 x0 x1 x2 y0 y1 y2 AT
  have B0:=hid b0
  have R0:=hid r0
  have HV1:=hid hV1
  have HBW:Hid (B < W1.heap.size):=hid (by have:=HBB.out; have:=r0.lt; omega)
  clear b0 r0 hV1
  go_enter Tryz.func91,Tryz.ntmps91
  go_upto_region 10 with fail
  go_cut [42] from 32 to 42 (fun s42 wc=>s42=.bool true∧Hid (Below W1.heap.size W1 wc))
  case first=>
   go_region_with (go_at_call 34; refine (AT.out _ _ (by first | exact ((Below.refl _ _).alloc (Nat.le_refl _) _).drew | exact (Below.refl _ _).alloc (Nat.le_refl _) _ | exact below_drewN ((Below.refl _ _).alloc (Nat.le_refl _) _) _ | exact below_drewN (((Below.refl _ _).alloc (Nat.le_refl _) _).drew) _) (by exact Whole.new W1 _ _)).mono ?_; rintro e W2 ⟨rfl,hb2⟩)
   all_goals
    go_wp2_with fail
    go_meet
    case rel=>exact ⟨rfl,hid hb2⟩
  case rest=>
   obtain ⟨rfl,HB2⟩:=hcut
   obtain ⟨W2,rfl⟩:∃ W2,W2=wc:=⟨wc,rfl⟩
   have hb2:=HB2.out
   have R2:=hid (R0.out.below hb2 R0.out.lt)
   have B2:=hid (B0.out.trans (hb2.mono B0.out.size))
   have x0':=(hb2.cell (p:=⟨B,O,none⟩) HBW.out).trans x0
   have x1':=(hb2.cell (p:=⟨B,O + 1,none⟩) HBW.out).trans x1
   have x2':=(hb2.cell (p:=⟨B,O + 2,none⟩) HBW.out).trans x2
   have y0':=(hb2.cell (p:=⟨B,O + 3,none⟩) HBW.out).trans y0
   have y1':=(hb2.cell (p:=⟨B,O + 3 + 1,none⟩) HBW.out).trans y1
   have y2':=(hb2.cell (p:=⟨B,O + 3 + 2,none⟩) HBW.out).trans y2
   clear x0 x1 x2 y0 y1 y2
   generalize cmpV ka na (tx sa) kb nb (tx sb)=o at *
   have CM:=hid (fun W (hW:Below W2.heap.size W2 W)=>call_over hW (CMP.out W))
   have ST:=hid (stands_any t o)
   have BO:=hid (fun W (hW:Below W2.heap.size W2 W)=>(bool_any (Ev.standB t o) W).mono (fun e w' h=>(⟨h.1,bstep hW h.2⟩:e=.returned (val 3 (bit (Ev.standB t o)) ⟨#[]⟩)∧Below W2.heap.size W2 w')))
   clear hb2 AT CMP
   go_upto_region 11 with fail
   go_region_with (first
    | (go_at_call 115; refine (CM.out _ (by first | exact below_drewN (Below.refl _ _) _ | exact (Below.refl _ _).drew | exact Below.refl _ _)).mono ?_; rintro e W3 ⟨rfl,hb3⟩)
    | (go_at_call 114; refine (ST.out _).mono ?_; rintro e W4 ⟨rfl,rfl⟩)
    | (go_at_call 29; refine (BO.out _ (by first | exact hb3 | exact hb3.drew | exact below_drewN hb3 _)).mono ?_; rintro e W5 ⟨rfl,hb5⟩; have R5:=hid (R2.out.below hb5 R2.out.lt); obtain ⟨d1,d2,d3⟩:=R5.out.holds; have f0:=R5.out.frozen 0; have f1:=R5.out.frozen 1; have f2:=R5.out.frozen 2; have B5:=hid (B2.out.trans (hb5.mono B2.out.size))))
   all_goals
    go_wp2_with fail
    exact fin_R Tryz.results91 rfl rfl rfl R5.out B5.out (Nat.le_refl _) (by rw [HR.out,← bit_tru]; rfl)
 ·have HR:=hid (BAD.out hk)
  have HDD:Hid (decide (ka=kb)=false):=hid (by simpa using hk)
  rw [HDD.out] at AT
  clear FIN BAD hk CMP
  obtain ⟨W1,hW1⟩:∃ W1,w.alloc (.cells #[.int .i64 0,.int .i64 0,.string ⟨#[]⟩] 23)=W1:=⟨_,rfl⟩
  rw [hW1] at b0 r0 hV1 x0 x1 x2 y0 y1 y2 AT
  have B0:=hid b0
  have R0:=hid r0
  have HV1:=hid hV1
  have HBW:Hid (B < W1.heap.size):=hid (by have:=HBB.out; have:=r0.lt; omega)
  clear b0 r0 hV1
  go_enter Tryz.func91,Tryz.ntmps91
  go_upto_region 10 with fail
  go_cut [42] from 32 to 42 (fun s42 wc=>s42=.bool false∧Hid (Below W1.heap.size W1 wc))
  case first=>
   go_region_with (go_at_call 34; refine (AT.out _ _ (by first | exact ((Below.refl _ _).alloc (Nat.le_refl _) _).drew | exact (Below.refl _ _).alloc (Nat.le_refl _) _ | exact below_drewN ((Below.refl _ _).alloc (Nat.le_refl _) _) _ | exact below_drewN (((Below.refl _ _).alloc (Nat.le_refl _) _).drew) _) (by exact Whole.new W1 _ _)).mono ?_; rintro e W2 ⟨rfl,hb2⟩)
   all_goals
    go_wp2_with fail
    go_meet
    case rel=>exact ⟨rfl,hid hb2⟩
  case rest=>
   obtain ⟨rfl,HB2⟩:=hcut
   obtain ⟨W2,rfl⟩:∃ W2,W2=wc:=⟨wc,rfl⟩
   have hb2:=HB2.out
   have R2:=hid (R0.out.below hb2 R0.out.lt)
   have B2:=hid (B0.out.trans (hb2.mono B0.out.size))
   clear x0 x1 x2 y0 y1 y2 AT
   go_wp2_with fail
   refine (efail_any _ _).mono ?_
   rintro e w3 ⟨rfl,hb3⟩
   have R3:=hid (R2.out.below hb3 R2.out.lt)
   have B3:=hid (bstep B2.out hb3)
   clear hb3
   obtain ⟨d1,d2,d3⟩:=R3.out.holds
   have f0:=R3.out.frozen 0
   have f1:=R3.out.frozen 1
   have f2:=R3.out.frozen 2
   unfold outR vv vcells Ev.err Ev.z
   go_wp2_with fail
   exact fin_R Tryz.results91 rfl rfl rfl R3.out B3.out (Nat.le_refl _) (by rw [HR.out]; rfl)
end Go.Proofs.YteghhmomhlnccaaGreatDoor
namespace Go.Proofs.YteghhmomhlnccaaGreatDoor
attribute [local go_sem ↓] eqVal neqVal
open Ev (V R Pl)
theorem marked_c3 (t:List UInt8) (a b:V) (A:Option Addr) (c:Nat) (w:World) (hV:ValsAt w A [a,b]) (ha:Pl a) (hb:Pl b) (hna:a.k ≠ 0) (hnb:b.k ≠ 0) (t0:(t == [61])=false) (t1:(t == [33,61])=false) (t2:(t == [60])=false) (t3:(t == [60,61])=true) :
  Calls Tryz.prog 91 #[.string (tx t),.slice A 2 c] w fun e w'=>e=.returned (outR (Ev.bin t a b))∧Below w.heap.size w w':=by
 have b0:=(Below.refl w.heap.size w).alloc (Nat.le_refl _) (.cells #[.int .i64 0,.int .i64 0,.string ⟨#[]⟩] 23)
 have r0:=Row3.new w 0 0 ⟨#[]⟩
 have hV1:=hV.below b0
 obtain ⟨B,O,rfl,hB,⟨x0,x1,x2⟩,y0,y1,y2⟩:=vals_two hV1
 have HBB:Hid (B < w.heap.size):=hid (by obtain ⟨b',o',e,h,-⟩:=hV 0 (by simp); cases e; exact h)
 clear hB
 have HL:Hid (Ex.lev t=3):=hid (Ev.lev3.2 (by first | exact .inl (by simpa using t0) | exact .inr (.inl (by simpa using t1)) | exact .inr (.inr (.inl (by simpa using t2))) | exact .inr (.inr (.inr (.inl (by simpa using t3)))) | exact .inr (.inr (.inr (.inr (.inl (by simpa using t4))))) | exact .inr (.inr (.inr (.inr (.inr (by simpa using t5)))))))
 have AT:=hid (fun U g hU hK=>are_two2 a b a.k a.k (some ⟨B,O,none⟩) c _ U g hV1 hU hK)
 have HD:Hid ((decide (a.k=a.k∨a.k=0) && decide (b.k=a.k∨b.k=0))=decide (a.k=b.k)):=hid (by rw [Bool.eq_iff_iff]; simp; omega)
 rw [HD.out] at AT
 have FIN:Hid (a.k=b.k→Ev.bin t a b=Ev.ok (Ev.tru (Ev.standB t (cmpV a.k a.n (tx a.s) b.k b.n (tx b.s))))):=hid (fun h=>by rw [Ev.bin,if_pos HL.out,if_pos h,Ev.cmp_stands t ha hb])
 have BAD:Hid (¬ a.k=b.k→Ev.bin t a b=Ev.err 10):=hid (fun h=>by rw [Ev.bin,if_pos HL.out,if_neg h])
 have CMP:=hid (fun W=>compare_any a.k a.n (tx a.s) b.k b.n (tx b.s) W (by have:=(pl_size ha).1; omega) (by have:=(pl_size hb).1; omega))
 obtain ⟨ka,na,sa⟩:=a
 obtain ⟨kb,nb,sb⟩:=b
 dsimp only at *
 clear hV hna hnb ha hb HL HD
 by_cases hk:ka=kb
 ·have HR:=hid (FIN.out hk)
  have HDD:Hid (decide (ka=kb)=true):=hid (by simpa using hk)
  rw [HDD.out] at AT
  clear FIN BAD hk
  obtain ⟨W1,hW1⟩:∃ W1,w.alloc (.cells #[.int .i64 0,.int .i64 0,.string ⟨#[]⟩] 23)=W1:=⟨_,rfl⟩
  rw [hW1] at b0 r0 hV1 x0 x1 x2 y0 y1 y2 AT
  have B0:=hid b0
  have R0:=hid r0
  have HV1:=hid hV1
  have HBW:Hid (B < W1.heap.size):=hid (by have:=HBB.out; have:=r0.lt; omega)
  clear b0 r0 hV1
  go_enter Tryz.func91,Tryz.ntmps91
  go_upto_region 10 with fail
  go_cut [42] from 32 to 42 (fun s42 wc=>s42=.bool true∧Hid (Below W1.heap.size W1 wc))
  case first=>
   go_region_with (go_at_call 34; refine (AT.out _ _ (by first | exact ((Below.refl _ _).alloc (Nat.le_refl _) _).drew | exact (Below.refl _ _).alloc (Nat.le_refl _) _ | exact below_drewN ((Below.refl _ _).alloc (Nat.le_refl _) _) _ | exact below_drewN (((Below.refl _ _).alloc (Nat.le_refl _) _).drew) _) (by exact Whole.new W1 _ _)).mono ?_; rintro e W2 ⟨rfl,hb2⟩)
   all_goals
    go_wp2_with fail
    go_meet
    case rel=>exact ⟨rfl,hid hb2⟩
  case rest=>
   obtain ⟨rfl,HB2⟩:=hcut
   obtain ⟨W2,rfl⟩:∃ W2,W2=wc:=⟨wc,rfl⟩
   have hb2:=HB2.out
   have R2:=hid (R0.out.below hb2 R0.out.lt)
   have B2:=hid (B0.out.trans (hb2.mono B0.out.size))
   have x0':=(hb2.cell (p:=⟨B,O,none⟩) HBW.out).trans x0
   have x1':=(hb2.cell (p:=⟨B,O + 1,none⟩) HBW.out).trans x1
   have x2':=(hb2.cell (p:=⟨B,O + 2,none⟩) HBW.out).trans x2
   have y0':=(hb2.cell (p:=⟨B,O + 3,none⟩) HBW.out).trans y0
   have y1':=(hb2.cell (p:=⟨B,O + 3 + 1,none⟩) HBW.out).trans y1
   have y2':=(hb2.cell (p:=⟨B,O + 3 + 2,none⟩) HBW.out).trans y2
   clear x0 x1 x2 y0 y1 y2
   generalize cmpV ka na (tx sa) kb nb (tx sb)=o at *
   have CM:=hid (fun W (hW:Below W2.heap.size W2 W)=>call_over hW (CMP.out W))
   have ST:=hid (stands_any t o)
   have BO:=hid (fun W (hW:Below W2.heap.size W2 W)=>(bool_any (Ev.standB t o) W).mono (fun e w' h=>(⟨h.1,bstep hW h.2⟩:e=.returned (val 3 (bit (Ev.standB t o)) ⟨#[]⟩)∧Below W2.heap.size W2 w')))
   clear hb2 AT CMP
   go_upto_region 11 with fail
   go_region_with (first
    | (go_at_call 115; refine (CM.out _ (by first | exact below_drewN (Below.refl _ _) _ | exact (Below.refl _ _).drew | exact Below.refl _ _)).mono ?_; rintro e W3 ⟨rfl,hb3⟩)
    | (go_at_call 114; refine (ST.out _).mono ?_; rintro e W4 ⟨rfl,rfl⟩)
    | (go_at_call 29; refine (BO.out _ (by first | exact hb3 | exact hb3.drew | exact below_drewN hb3 _)).mono ?_; rintro e W5 ⟨rfl,hb5⟩; have R5:=hid (R2.out.below hb5 R2.out.lt); obtain ⟨d1,d2,d3⟩:=R5.out.holds; have f0:=R5.out.frozen 0; have f1:=R5.out.frozen 1; have f2:=R5.out.frozen 2; have B5:=hid (B2.out.trans (hb5.mono B2.out.size))))
   all_goals
    go_wp2_with fail
    exact fin_R Tryz.results91 rfl rfl rfl R5.out B5.out (Nat.le_refl _) (by rw [HR.out,← bit_tru]; rfl)
 ·have HR:=hid (BAD.out hk)
  have HDD:Hid (decide (ka=kb)=false):=hid (by simpa using hk)
  rw [HDD.out] at AT
  clear FIN BAD hk CMP
  obtain ⟨W1,hW1⟩:∃ W1,w.alloc (.cells #[.int .i64 0,.int .i64 0,.string ⟨#[]⟩] 23)=W1:=⟨_,rfl⟩
  rw [hW1] at b0 r0 hV1 x0 x1 x2 y0 y1 y2 AT
  have B0:=hid b0
  have R0:=hid r0
  have HV1:=hid hV1
  have HBW:Hid (B < W1.heap.size):=hid (by have:=HBB.out; have:=r0.lt; omega)
  clear b0 r0 hV1
  go_enter Tryz.func91,Tryz.ntmps91
  go_upto_region 10 with fail
  go_cut [42] from 32 to 42 (fun s42 wc=>s42=.bool false∧Hid (Below W1.heap.size W1 wc))
  case first=>
   go_region_with (go_at_call 34; refine (AT.out _ _ (by first | exact ((Below.refl _ _).alloc (Nat.le_refl _) _).drew | exact (Below.refl _ _).alloc (Nat.le_refl _) _ | exact below_drewN ((Below.refl _ _).alloc (Nat.le_refl _) _) _ | exact below_drewN (((Below.refl _ _).alloc (Nat.le_refl _) _).drew) _) (by exact Whole.new W1 _ _)).mono ?_; rintro e W2 ⟨rfl,hb2⟩)
   all_goals
    go_wp2_with fail
    go_meet
    case rel=>exact ⟨rfl,hid hb2⟩
  case rest=>
   obtain ⟨rfl,HB2⟩:=hcut
   obtain ⟨W2,rfl⟩:∃ W2,W2=wc:=⟨wc,rfl⟩
   have hb2:=HB2.out
   have R2:=hid (R0.out.below hb2 R0.out.lt)
   have B2:=hid (B0.out.trans (hb2.mono B0.out.size))
   clear x0 x1 x2 y0 y1 y2 AT
   go_wp2_with fail
   refine (efail_any _ _).mono ?_
   rintro e w3 ⟨rfl,hb3⟩
   have R3:=hid (R2.out.below hb3 R2.out.lt)
   have B3:=hid (bstep B2.out hb3)
   clear hb3
   obtain ⟨d1,d2,d3⟩:=R3.out.holds
   have f0:=R3.out.frozen 0
   have f1:=R3.out.frozen 1
   have f2:=R3.out.frozen 2
   unfold outR vv vcells Ev.err Ev.z
   go_wp2_with fail
   exact fin_R Tryz.results91 rfl rfl rfl R3.out B3.out (Nat.le_refl _) (by rw [HR.out]; rfl)
end Go.Proofs.YteghhmomhlnccaaGreatDoor
namespace Go.Proofs.YteghhmomhlnccaaGreatDoor
attribute [local go_sem ↓] eqVal neqVal
open Ev (V R Pl)
theorem marked_c4 (t:List UInt8) (a b:V) (A:Option Addr) (c:Nat) (w:World) (hV:ValsAt w A [a,b]) (ha:Pl a) (hb:Pl b) (hna:a.k ≠ 0) (hnb:b.k ≠ 0) (t0:(t == [61])=false) (t1:(t == [33,61])=false) (t2:(t == [60])=false) (t3:(t == [60,61])=false) (t4:(t == [62])=true) :
  Calls Tryz.prog 91 #[.string (tx t),.slice A 2 c] w fun e w'=>e=.returned (outR (Ev.bin t a b))∧Below w.heap.size w w':=by
 have b0:=(Below.refl w.heap.size w).alloc (Nat.le_refl _) (.cells #[.int .i64 0,.int .i64 0,.string ⟨#[]⟩] 23)
 have r0:=Row3.new w 0 0 ⟨#[]⟩
 have hV1:=hV.below b0
 obtain ⟨B,O,rfl,hB,⟨x0,x1,x2⟩,y0,y1,y2⟩:=vals_two hV1
 have HBB:Hid (B < w.heap.size):=hid (by obtain ⟨b',o',e,h,-⟩:=hV 0 (by simp); cases e; exact h)
 clear hB
 have HL:Hid (Ex.lev t=3):=hid (Ev.lev3.2 (by first | exact .inl (by simpa using t0) | exact .inr (.inl (by simpa using t1)) | exact .inr (.inr (.inl (by simpa using t2))) | exact .inr (.inr (.inr (.inl (by simpa using t3)))) | exact .inr (.inr (.inr (.inr (.inl (by simpa using t4))))) | exact .inr (.inr (.inr (.inr (.inr (by simpa using t5)))))))
 have AT:=hid (fun U g hU hK=>are_two2 a b a.k a.k (some ⟨B,O,none⟩) c _ U g hV1 hU hK)
 have HD:Hid ((decide (a.k=a.k∨a.k=0) && decide (b.k=a.k∨b.k=0))=decide (a.k=b.k)):=hid (by rw [Bool.eq_iff_iff]; simp; omega)
 rw [HD.out] at AT
 have FIN:Hid (a.k=b.k→Ev.bin t a b=Ev.ok (Ev.tru (Ev.standB t (cmpV a.k a.n (tx a.s) b.k b.n (tx b.s))))):=hid (fun h=>by rw [Ev.bin,if_pos HL.out,if_pos h,Ev.cmp_stands t ha hb])
 have BAD:Hid (¬ a.k=b.k→Ev.bin t a b=Ev.err 10):=hid (fun h=>by rw [Ev.bin,if_pos HL.out,if_neg h])
 have CMP:=hid (fun W=>compare_any a.k a.n (tx a.s) b.k b.n (tx b.s) W (by have:=(pl_size ha).1; omega) (by have:=(pl_size hb).1; omega))
 obtain ⟨ka,na,sa⟩:=a
 obtain ⟨kb,nb,sb⟩:=b
 dsimp only at *
 clear hV hna hnb ha hb HL HD
 by_cases hk:ka=kb
 ·have HR:=hid (FIN.out hk)
  have HDD:Hid (decide (ka=kb)=true):=hid (by simpa using hk)
  rw [HDD.out] at AT
  clear FIN BAD hk
  obtain ⟨W1,hW1⟩:∃ W1,w.alloc (.cells #[.int .i64 0,.int .i64 0,.string ⟨#[]⟩] 23)=W1:=⟨_,rfl⟩
  rw [hW1] at b0 r0 hV1 x0 x1 x2 y0 y1 y2 AT
  have B0:=hid b0
  have R0:=hid r0
  have HV1:=hid hV1
  have HBW:Hid (B < W1.heap.size):=hid (by have:=HBB.out; have:=r0.lt; omega)
  clear b0 r0 hV1
  go_enter Tryz.func91,Tryz.ntmps91
  go_upto_region 10 with fail
  go_cut [42] from 32 to 42 (fun s42 wc=>s42=.bool true∧Hid (Below W1.heap.size W1 wc))
  case first=>
   go_region_with (go_at_call 34; refine (AT.out _ _ (by first | exact ((Below.refl _ _).alloc (Nat.le_refl _) _).drew | exact (Below.refl _ _).alloc (Nat.le_refl _) _ | exact below_drewN ((Below.refl _ _).alloc (Nat.le_refl _) _) _ | exact below_drewN (((Below.refl _ _).alloc (Nat.le_refl _) _).drew) _) (by exact Whole.new W1 _ _)).mono ?_; rintro e W2 ⟨rfl,hb2⟩)
   all_goals
    go_wp2_with fail
    go_meet
    case rel=>exact ⟨rfl,hid hb2⟩
  case rest=>
   obtain ⟨rfl,HB2⟩:=hcut
   obtain ⟨W2,rfl⟩:∃ W2,W2=wc:=⟨wc,rfl⟩
   have hb2:=HB2.out
   have R2:=hid (R0.out.below hb2 R0.out.lt)
   have B2:=hid (B0.out.trans (hb2.mono B0.out.size))
   have x0':=(hb2.cell (p:=⟨B,O,none⟩) HBW.out).trans x0
   have x1':=(hb2.cell (p:=⟨B,O + 1,none⟩) HBW.out).trans x1
   have x2':=(hb2.cell (p:=⟨B,O + 2,none⟩) HBW.out).trans x2
   have y0':=(hb2.cell (p:=⟨B,O + 3,none⟩) HBW.out).trans y0
   have y1':=(hb2.cell (p:=⟨B,O + 3 + 1,none⟩) HBW.out).trans y1
   have y2':=(hb2.cell (p:=⟨B,O + 3 + 2,none⟩) HBW.out).trans y2
   clear x0 x1 x2 y0 y1 y2
   generalize cmpV ka na (tx sa) kb nb (tx sb)=o at *
   have CM:=hid (fun W (hW:Below W2.heap.size W2 W)=>call_over hW (CMP.out W))
   have ST:=hid (stands_any t o)
   have BO:=hid (fun W (hW:Below W2.heap.size W2 W)=>(bool_any (Ev.standB t o) W).mono (fun e w' h=>(⟨h.1,bstep hW h.2⟩:e=.returned (val 3 (bit (Ev.standB t o)) ⟨#[]⟩)∧Below W2.heap.size W2 w')))
   clear hb2 AT CMP
   go_upto_region 11 with fail
   go_region_with (first
    | (go_at_call 115; refine (CM.out _ (by first | exact below_drewN (Below.refl _ _) _ | exact (Below.refl _ _).drew | exact Below.refl _ _)).mono ?_; rintro e W3 ⟨rfl,hb3⟩)
    | (go_at_call 114; refine (ST.out _).mono ?_; rintro e W4 ⟨rfl,rfl⟩)
    | (go_at_call 29; refine (BO.out _ (by first | exact hb3 | exact hb3.drew | exact below_drewN hb3 _)).mono ?_; rintro e W5 ⟨rfl,hb5⟩; have R5:=hid (R2.out.below hb5 R2.out.lt); obtain ⟨d1,d2,d3⟩:=R5.out.holds; have f0:=R5.out.frozen 0; have f1:=R5.out.frozen 1; have f2:=R5.out.frozen 2; have B5:=hid (B2.out.trans (hb5.mono B2.out.size))))
   all_goals
    go_wp2_with fail
    exact fin_R Tryz.results91 rfl rfl rfl R5.out B5.out (Nat.le_refl _) (by rw [HR.out,← bit_tru]; rfl)
 ·have HR:=hid (BAD.out hk)
  have HDD:Hid (decide (ka=kb)=false):=hid (by simpa using hk)
  rw [HDD.out] at AT
  clear FIN BAD hk CMP
  obtain ⟨W1,hW1⟩:∃ W1,w.alloc (.cells #[.int .i64 0,.int .i64 0,.string ⟨#[]⟩] 23)=W1:=⟨_,rfl⟩
  rw [hW1] at b0 r0 hV1 x0 x1 x2 y0 y1 y2 AT
  have B0:=hid b0
  have R0:=hid r0
  have HV1:=hid hV1
  have HBW:Hid (B < W1.heap.size):=hid (by have:=HBB.out; have:=r0.lt; omega)
  clear b0 r0 hV1
  go_enter Tryz.func91,Tryz.ntmps91
  go_upto_region 10 with fail
  go_cut [42] from 32 to 42 (fun s42 wc=>s42=.bool false∧Hid (Below W1.heap.size W1 wc))
  case first=>
   go_region_with (go_at_call 34; refine (AT.out _ _ (by first | exact ((Below.refl _ _).alloc (Nat.le_refl _) _).drew | exact (Below.refl _ _).alloc (Nat.le_refl _) _ | exact below_drewN ((Below.refl _ _).alloc (Nat.le_refl _) _) _ | exact below_drewN (((Below.refl _ _).alloc (Nat.le_refl _) _).drew) _) (by exact Whole.new W1 _ _)).mono ?_; rintro e W2 ⟨rfl,hb2⟩)
   all_goals
    go_wp2_with fail
    go_meet
    case rel=>exact ⟨rfl,hid hb2⟩
  case rest=>
   obtain ⟨rfl,HB2⟩:=hcut
   obtain ⟨W2,rfl⟩:∃ W2,W2=wc:=⟨wc,rfl⟩
   have hb2:=HB2.out
   have R2:=hid (R0.out.below hb2 R0.out.lt)
   have B2:=hid (B0.out.trans (hb2.mono B0.out.size))
   clear x0 x1 x2 y0 y1 y2 AT
   go_wp2_with fail
   refine (efail_any _ _).mono ?_
   rintro e w3 ⟨rfl,hb3⟩
   have R3:=hid (R2.out.below hb3 R2.out.lt)
   have B3:=hid (bstep B2.out hb3)
   clear hb3
   obtain ⟨d1,d2,d3⟩:=R3.out.holds
   have f0:=R3.out.frozen 0
   have f1:=R3.out.frozen 1
   have f2:=R3.out.frozen 2
   unfold outR vv vcells Ev.err Ev.z
   go_wp2_with fail
   exact fin_R Tryz.results91 rfl rfl rfl R3.out B3.out (Nat.le_refl _) (by rw [HR.out]; rfl)
end Go.Proofs.YteghhmomhlnccaaGreatDoor
namespace Go.Proofs.YteghhmomhlnccaaGreatDoor
attribute [local go_sem ↓] eqVal neqVal
open Ev (V R Pl)
theorem marked_c5 (t:List UInt8) (a b:V) (A:Option Addr) (c:Nat) (w:World) (hV:ValsAt w A [a,b]) (ha:Pl a) (hb:Pl b) (hna:a.k ≠ 0) (hnb:b.k ≠ 0) (t0:(t == [61])=false) (t1:(t == [33,61])=false) (t2:(t == [60])=false) (t3:(t == [60,61])=false) (t4:(t == [62])=false) (t5:(t == [62,61])=true) :
  Calls Tryz.prog 91 #[.string (tx t),.slice A 2 c] w fun e w'=>e=.returned (outR (Ev.bin t a b))∧Below w.heap.size w w':=by
 have b0:=(Below.refl w.heap.size w).alloc (Nat.le_refl _) (.cells #[.int .i64 0,.int .i64 0,.string ⟨#[]⟩] 23)
 have r0:=Row3.new w 0 0 ⟨#[]⟩
 have hV1:=hV.below b0
 obtain ⟨B,O,rfl,hB,⟨x0,x1,x2⟩,y0,y1,y2⟩:=vals_two hV1
 have HBB:Hid (B < w.heap.size):=hid (by obtain ⟨b',o',e,h,-⟩:=hV 0 (by simp); cases e; exact h)
 clear hB
 have HL:Hid (Ex.lev t=3):=hid (Ev.lev3.2 (by first | exact .inl (by simpa using t0) | exact .inr (.inl (by simpa using t1)) | exact .inr (.inr (.inl (by simpa using t2))) | exact .inr (.inr (.inr (.inl (by simpa using t3)))) | exact .inr (.inr (.inr (.inr (.inl (by simpa using t4))))) | exact .inr (.inr (.inr (.inr (.inr (by simpa using t5)))))))
 have AT:=hid (fun U g hU hK=>are_two2 a b a.k a.k (some ⟨B,O,none⟩) c _ U g hV1 hU hK)
 have HD:Hid ((decide (a.k=a.k∨a.k=0) && decide (b.k=a.k∨b.k=0))=decide (a.k=b.k)):=hid (by rw [Bool.eq_iff_iff]; simp; omega)
 rw [HD.out] at AT
 have FIN:Hid (a.k=b.k→Ev.bin t a b=Ev.ok (Ev.tru (Ev.standB t (cmpV a.k a.n (tx a.s) b.k b.n (tx b.s))))):=hid (fun h=>by rw [Ev.bin,if_pos HL.out,if_pos h,Ev.cmp_stands t ha hb])
 have BAD:Hid (¬ a.k=b.k→Ev.bin t a b=Ev.err 10):=hid (fun h=>by rw [Ev.bin,if_pos HL.out,if_neg h])
 have CMP:=hid (fun W=>compare_any a.k a.n (tx a.s) b.k b.n (tx b.s) W (by have:=(pl_size ha).1; omega) (by have:=(pl_size hb).1; omega))
 obtain ⟨ka,na,sa⟩:=a
 obtain ⟨kb,nb,sb⟩:=b
 dsimp only at *
 clear hV hna hnb ha hb HL HD
 by_cases hk:ka=kb
 ·have HR:=hid (FIN.out hk)
  have HDD:Hid (decide (ka=kb)=true):=hid (by simpa using hk)
  rw [HDD.out] at AT
  clear FIN BAD hk
  obtain ⟨W1,hW1⟩:∃ W1,w.alloc (.cells #[.int .i64 0,.int .i64 0,.string ⟨#[]⟩] 23)=W1:=⟨_,rfl⟩
  rw [hW1] at b0 r0 hV1 x0 x1 x2 y0 y1 y2 AT
  have B0:=hid b0
  have R0:=hid r0
  have HV1:=hid hV1
  have HBW:Hid (B < W1.heap.size):=hid (by have:=HBB.out; have:=r0.lt; omega)
  clear b0 r0 hV1
  go_enter Tryz.func91,Tryz.ntmps91
  go_upto_region 10 with fail
  go_cut [42] from 32 to 42 (fun s42 wc=>s42=.bool true∧Hid (Below W1.heap.size W1 wc))
  case first=>
   go_region_with (go_at_call 34; refine (AT.out _ _ (by first | exact ((Below.refl _ _).alloc (Nat.le_refl _) _).drew | exact (Below.refl _ _).alloc (Nat.le_refl _) _ | exact below_drewN ((Below.refl _ _).alloc (Nat.le_refl _) _) _ | exact below_drewN (((Below.refl _ _).alloc (Nat.le_refl _) _).drew) _) (by exact Whole.new W1 _ _)).mono ?_; rintro e W2 ⟨rfl,hb2⟩)
   all_goals
    go_wp2_with fail
    go_meet
    case rel=>exact ⟨rfl,hid hb2⟩
  case rest=>
   obtain ⟨rfl,HB2⟩:=hcut
   obtain ⟨W2,rfl⟩:∃ W2,W2=wc:=⟨wc,rfl⟩
   have hb2:=HB2.out
   have R2:=hid (R0.out.below hb2 R0.out.lt)
   have B2:=hid (B0.out.trans (hb2.mono B0.out.size))
   have x0':=(hb2.cell (p:=⟨B,O,none⟩) HBW.out).trans x0
   have x1':=(hb2.cell (p:=⟨B,O + 1,none⟩) HBW.out).trans x1
   have x2':=(hb2.cell (p:=⟨B,O + 2,none⟩) HBW.out).trans x2
   have y0':=(hb2.cell (p:=⟨B,O + 3,none⟩) HBW.out).trans y0
   have y1':=(hb2.cell (p:=⟨B,O + 3 + 1,none⟩) HBW.out).trans y1
   have y2':=(hb2.cell (p:=⟨B,O + 3 + 2,none⟩) HBW.out).trans y2
   clear x0 x1 x2 y0 y1 y2
   generalize cmpV ka na (tx sa) kb nb (tx sb)=o at *
   have CM:=hid (fun W (hW:Below W2.heap.size W2 W)=>call_over hW (CMP.out W))
   have ST:=hid (stands_any t o)
   have BO:=hid (fun W (hW:Below W2.heap.size W2 W)=>(bool_any (Ev.standB t o) W).mono (fun e w' h=>(⟨h.1,bstep hW h.2⟩:e=.returned (val 3 (bit (Ev.standB t o)) ⟨#[]⟩)∧Below W2.heap.size W2 w')))
   clear hb2 AT CMP
   go_upto_region 11 with fail
   go_region_with (first
    | (go_at_call 115; refine (CM.out _ (by first | exact below_drewN (Below.refl _ _) _ | exact (Below.refl _ _).drew | exact Below.refl _ _)).mono ?_; rintro e W3 ⟨rfl,hb3⟩)
    | (go_at_call 114; refine (ST.out _).mono ?_; rintro e W4 ⟨rfl,rfl⟩)
    | (go_at_call 29; refine (BO.out _ (by first | exact hb3 | exact hb3.drew | exact below_drewN hb3 _)).mono ?_; rintro e W5 ⟨rfl,hb5⟩; have R5:=hid (R2.out.below hb5 R2.out.lt); obtain ⟨d1,d2,d3⟩:=R5.out.holds; have f0:=R5.out.frozen 0; have f1:=R5.out.frozen 1; have f2:=R5.out.frozen 2; have B5:=hid (B2.out.trans (hb5.mono B2.out.size))))
   all_goals
    go_wp2_with fail
    exact fin_R Tryz.results91 rfl rfl rfl R5.out B5.out (Nat.le_refl _) (by rw [HR.out,← bit_tru]; rfl)
 ·have HR:=hid (BAD.out hk)
  have HDD:Hid (decide (ka=kb)=false):=hid (by simpa using hk)
  rw [HDD.out] at AT
  clear FIN BAD hk CMP
  obtain ⟨W1,hW1⟩:∃ W1,w.alloc (.cells #[.int .i64 0,.int .i64 0,.string ⟨#[]⟩] 23)=W1:=⟨_,rfl⟩
  rw [hW1] at b0 r0 hV1 x0 x1 x2 y0 y1 y2 AT
  have B0:=hid b0
  have R0:=hid r0
  have HV1:=hid hV1
  have HBW:Hid (B < W1.heap.size):=hid (by have:=HBB.out; have:=r0.lt; omega)
  clear b0 r0 hV1
  go_enter Tryz.func91,Tryz.ntmps91
  go_upto_region 10 with fail
  go_cut [42] from 32 to 42 (fun s42 wc=>s42=.bool false∧Hid (Below W1.heap.size W1 wc))
  case first=>
   go_region_with (go_at_call 34; refine (AT.out _ _ (by first | exact ((Below.refl _ _).alloc (Nat.le_refl _) _).drew | exact (Below.refl _ _).alloc (Nat.le_refl _) _ | exact below_drewN ((Below.refl _ _).alloc (Nat.le_refl _) _) _ | exact below_drewN (((Below.refl _ _).alloc (Nat.le_refl _) _).drew) _) (by exact Whole.new W1 _ _)).mono ?_; rintro e W2 ⟨rfl,hb2⟩)
   all_goals
    go_wp2_with fail
    go_meet
    case rel=>exact ⟨rfl,hid hb2⟩
  case rest=>
   obtain ⟨rfl,HB2⟩:=hcut
   obtain ⟨W2,rfl⟩:∃ W2,W2=wc:=⟨wc,rfl⟩
   have hb2:=HB2.out
   have R2:=hid (R0.out.below hb2 R0.out.lt)
   have B2:=hid (B0.out.trans (hb2.mono B0.out.size))
   clear x0 x1 x2 y0 y1 y2 AT
   go_wp2_with fail
   refine (efail_any _ _).mono ?_
   rintro e w3 ⟨rfl,hb3⟩
   have R3:=hid (R2.out.below hb3 R2.out.lt)
   have B3:=hid (bstep B2.out hb3)
   clear hb3
   obtain ⟨d1,d2,d3⟩:=R3.out.holds
   have f0:=R3.out.frozen 0
   have f1:=R3.out.frozen 1
   have f2:=R3.out.frozen 2
   unfold outR vv vcells Ev.err Ev.z
   go_wp2_with fail
   exact fin_R Tryz.results91 rfl rfl rfl R3.out B3.out (Nat.le_refl _) (by rw [HR.out]; rfl)
end Go.Proofs.YteghhmomhlnccaaGreatDoor
namespace Go.Proofs.YteghhmomhlnccaaGreatDoor
attribute [local go_sem ↓] eqVal neqVal
open Ev (V R Pl)
theorem marked_any (t:List UInt8) (a b:V) (A:Option Addr) (c:Nat) (w:World) (hV:ValsAt w A [a,b]) (ha:Pl a) (hb:Pl b) (hna:a.k ≠ 0) (hnb:b.k ≠ 0) :
  Calls Tryz.prog 91 #[.string (tx t),.slice A 2 c] w fun e w'=>e=.returned (outR (Ev.bin t a b))∧Below w.heap.size w w':=by
 by_cases h:Ex.lev t=3
 ·cases t0:(t == [61])
  case true=>exact marked_c0 t a b A c w hV ha hb hna hnb t0
  cases t1:(t == [33,61])
  case true=>exact marked_c1 t a b A c w hV ha hb hna hnb t0 t1
  cases t2:(t == [60])
  case true=>exact marked_c2 t a b A c w hV ha hb hna hnb t0 t1 t2
  cases t3:(t == [60,61])
  case true=>exact marked_c3 t a b A c w hV ha hb hna hnb t0 t1 t2 t3
  cases t4:(t == [62])
  case true=>exact marked_c4 t a b A c w hV ha hb hna hnb t0 t1 t2 t3 t4
  cases t5:(t == [62,61])
  case true=>exact marked_c5 t a b A c w hV ha hb hna hnb t0 t1 t2 t3 t4 t5
  exfalso
  rw [Ev.lev3] at h
  simp_all
 ·cases h6:(t == [38])
  ·exact marked_num t a b A c w hV ha hb hna hnb h h6
  ·exact marked_and t a b A c w hV ha hb hna hnb h h6
end Go.Proofs.YteghhmomhlnccaaGreatDoor
