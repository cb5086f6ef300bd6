import Derived.Test.YteghhmomhlnccaaGreatDoorYT26
import Derived.Test.YteghhmomhlnccaaGreatDoorYT27
import Derived.Deep.RegionHeld3
import Derived.Deep.DrawnRows
set_option linter.unusedVariables false
set_option linter.unusedSimpArgs false
set_option maxRecDepth 100000
set_option maxHeartbeats 100000000
open Go.RowKit Go.Lib
namespace Go.Proofs.YteghhmomhlnccaaGreatDoor
structure Wide4 (x0 x1 y0 y1 l00 h00 l01 h01 o1 g1 c2 l10 h10 p1 g2 c3 l11 h11 p2 g3 c4:Int):Prop where
 a1:x0 * y0 % 4294967296=l00
 a2:x0 * y0 / 4294967296=h00
 a3:x0 * y1 % 4294967296=l01
 a4:x0 * y1 / 4294967296=h01
 a5:(x0 * y1 + h00) % 4294967296=o1
 a6:(l01 + h00) / 4294967296=g1
 a7:g1 + h01=c2
 b1:x1 * y0 % 4294967296=l10
 b2:x1 * y0 / 4294967296=h10
 b3:(o1 + x1 * y0) % 4294967296=p1
 b4:(o1 + l10) / 4294967296=g2
 b5:g2 + h10=c3
 b6:x1 * y1 % 4294967296=l11
 b7:x1 * y1 / 4294967296=h11
 b8:(c2 + l11 + c3) % 4294967296=p2
 b9:(c2 + l11 + c3) / 4294967296=g3
 b10:g3 + h11=c4
theorem wide4 (x0 x1 y0 y1:Int) (hx0:Part x0) (hx1:Part x1) (hy0:Part y0) (hy1:Part y1) :
  ∃ l00 h00 l01 h01 o1 g1 c2 l10 h10 p1 g2 c3 l11 h11 p2 g3 c4:Int,Wide4 x0 x1 y0 y1 l00 h00 l01 h01 o1 g1 c2 l10 h10 p1 g2 c3 l11 h11 p2 g3 c4 ∧
   (Part l00∧Part h00∧Part l01∧Part h01∧Part o1∧(0≤g1∧g1≤1)∧Part c2∧Part l10∧Part h10∧Part p1∧(0≤g2∧g2≤1)∧Part c3∧Part l11∧Part h11∧Part p2∧(0≤g3∧g3≤2)∧Part c4) ∧
   (0≤x0 * y0∧x0 * y0≤18446744065119617025)∧(0≤x0 * y1∧x0 * y1≤18446744065119617025)∧(0≤x1 * y0∧x1 * y0≤18446744065119617025)∧(0≤x1 * y1∧x1 * y1≤18446744065119617025) ∧
   size l00 p1 p2 c4 0=(x0 + 4294967296 * x1) * (y0 + 4294967296 * y1):=by
 have pr:∀ x y:Int,Part x→Part y→0≤x * y∧x * y≤18446744065119617025:=fun x y ⟨a,b⟩ ⟨c,d⟩=>
  ⟨Int.mul_nonneg a c,Int.mul_le_mul b d c (by decide)⟩
 have r00:=pr x0 y0 hx0 hy0
 have r01:=pr x0 y1 hx0 hy1
 have r10:=pr x1 y0 hx1 hy0
 have r11:=pr x1 y1 hx1 hy1
 have ex:(x0 + 4294967296 * x1) * (y0 + 4294967296 * y1)=x0 * y0 + 4294967296 * (x0 * y1) + 4294967296 * (x1 * y0) + 18446744073709551616 * (x1 * y1):=by
  rw [Int.add_mul,Int.mul_add,Int.mul_add,Int.mul_left_comm x0,Int.mul_assoc 4294967296 x1 y0,Int.mul_assoc 4294967296 x1,Int.mul_left_comm x1]
  omega
 refine ⟨_,_,_,_,_,_,_,_,_,_,_,_,_,_,_,_,_,⟨rfl,rfl,rfl,rfl,rfl,rfl,rfl,rfl,rfl,rfl,rfl,rfl,rfl,rfl,rfl,rfl,rfl⟩,?_,r00,r01,r10,r11,?_⟩
 ·generalize x0 * y0=m00 at *
  generalize x0 * y1=m01 at *
  generalize x1 * y0=m10 at *
  generalize x1 * y1=m11 at *
  unfold Part
  clear ex pr hx0 hx1 hy0 hy1
  refine ⟨?_,?_,?_,?_,?_,?_,?_,?_,?_,?_,?_,?_,?_,?_,?_,?_,?_⟩ <;> omega
 ·rw [ex]
  generalize x0 * y0=m00 at *
  generalize x0 * y1=m01 at *
  generalize x1 * y0=m10 at *
  generalize x1 * y1=m11 at *
  unfold size
  clear ex pr hx0 hx1 hy0 hy1
  omega
theorem wmul_pp (s t:Bool) (x0 x1 y0 y1:Int) (w:World) (hx0:Part x0) (hx1:Part x1) (hy0:Part y0) (hy1:Part y1)
  (l00 h00 l01 h01 o1 g1 c2 l10 h10 p1 g2 c3 l11 h11 p2 g3 c4:Int) (HW:Hid (Wide4 x0 x1 y0 y1 l00 h00 l01 h01 o1 g1 c2 l10 h10 p1 g2 c3 l11 h11 p2 g3 c4))
  (HP:Part l00∧Part h00∧Part l01∧Part h01∧Part o1∧(0≤g1∧g1≤1)∧Part c2∧Part l10∧Part h10∧Part p1∧(0≤g2∧g2≤1)∧Part c3∧Part l11∧Part h11∧Part p2∧(0≤g3∧g3≤2)∧Part c4)
  (r00:0≤x0 * y0∧x0 * y0≤18446744065119617025) (r01:0≤x0 * y1∧x0 * y1≤18446744065119617025) (r10:0≤x1 * y0∧x1 * y0≤18446744065119617025) (r11:0≤x1 * y1∧x1 * y1≤18446744065119617025)
  (k2:0 < c2) (k4:0 < c4) :
  Calls Tryz.prog 71 #[wide s x0 x1 0 0 0,wide t y0 y1 0 0 0] w fun e w'=>e=.returned (wide (!s == t) l00 p1 p2 c4 0)∧Below w.heap.size w w':=by
 obtain ⟨a0,b0⟩:=hx0
 obtain ⟨a1,b1⟩:=hx1
 obtain ⟨c0,d0⟩:=hy0
 obtain ⟨c1,d1⟩:=hy1
 obtain ⟨⟨v0,w0⟩,⟨v1,w1⟩,⟨v2,w2⟩,⟨v3,w3⟩,⟨v4,w4⟩,⟨v5,w5⟩,⟨v6,w6⟩,⟨v7,w7⟩,⟨v8,w8⟩,⟨v9,w9⟩,⟨v10,w10⟩,⟨v11,w11⟩,⟨v12,w12⟩,⟨v13,w13⟩,⟨v14,w14⟩,⟨v15,w15⟩,⟨v16,w16⟩⟩:=HP
 obtain ⟨r1,r2⟩:=r00
 obtain ⟨r3,r4⟩:=r01
 obtain ⟨r5,r6⟩:=r10
 obtain ⟨r7,r8⟩:=r11
 have Z0:Hid (l00 / 4294967296=0):=hid (Int.ediv_eq_zero_of_lt v0 (by omega))
 have Z1:Hid (h00 % 4294967296=h00):=hid (Int.emod_eq_of_lt v1 (by omega))
 have Z2:Hid (h00 / 4294967296=0):=hid (Int.ediv_eq_zero_of_lt v1 (by omega))
 have Z3:Hid (c2 % 4294967296=c2):=hid (Int.emod_eq_of_lt v6 (by omega))
 have Z4:Hid (c2 / 4294967296=0):=hid (Int.ediv_eq_zero_of_lt v6 (by omega))
 have Z5:Hid (c3 % 4294967296=c3):=hid (Int.emod_eq_of_lt v11 (by omega))
 have Z6:Hid (c3 / 4294967296=0):=hid (Int.ediv_eq_zero_of_lt v11 (by omega))
 have Z7:Hid (c4 % 4294967296=c4):=hid (Int.emod_eq_of_lt v16 (by omega))
 have Z8:Hid (c4 / 4294967296=0):=hid (Int.ediv_eq_zero_of_lt v16 (by omega))
 have BB:Hid (Below w.heap.size w ((((w.alloc (.cells #[.bool s,.int .u64 x0,.int .u64 x1,.int .u64 0,.int .u64 0,.int .u64 0] 73)).alloc (.cells #[.bool t,.int .u64 y0,.int .u64 y1,.int .u64 0,.int .u64 0,.int .u64 0] 73)).alloc (.cells #[.bool false,.int .u64 0,.int .u64 0,.int .u64 0,.int .u64 0,.int .u64 0] 73)).alloc (.cells #[.bool (!s == t),.int .u64 0,.int .u64 0,.int .u64 0,.int .u64 0,.int .u64 0] 73))):=
  hid (((((Below.refl _ _).alloc (Nat.le_refl _) _).alloc (by simp) _).alloc (by simp; omega) _).alloc (by simp; omega) _)
 go_enter Tryz.func71,Tryz.ntmps71
 go_wp2
 refine wp_loop_rounds 3 ?_
 rw [rounds_succ]
 go_wp2
 refine wp_loop_rounds 4 ?_
 rw [rounds_succ]
 go_wp2
 go_quiet (fail)
 go_wp2
 rw [HW.out.a1,HW.out.a2,Z0.out,Int.zero_add]
 rw [rounds_succ]
 go_wp2
 go_quiet (fail)
 go_wp2
--S1
 rw [HW.out.a3,HW.out.a4,Z1.out,Z2.out,HW.out.a5,HW.out.a6,Int.add_zero,HW.out.a7]
 rw [rounds_succ]
 go_wp2
 rw [Z3.out,Z4.out]
 rw [rounds_succ]
 go_wp2
 rw [rounds_succ]
 go_wp2
 refine wp_loop_rounds 4 ?_
 rw [rounds_succ]
 go_wp2
 go_quiet (fail)
 go_wp2
 rw [HW.out.b1,HW.out.b2,HW.out.b3,HW.out.b4,HW.out.b5]
 rw [rounds_succ]
 go_wp2
 go_quiet (fail)
 go_wp2
 rw [HW.out.b6,HW.out.b7,Z5.out,Z6.out,HW.out.b8,HW.out.b9,Int.add_zero,HW.out.b10]
 rw [rounds_succ]
 go_wp2
 rw [Z7.out,Z8.out]
 rw [rounds_succ]
 go_wp2
 refine world_gen (fun W'=>Two w W' (w.heap.size + 1 + 1) (w.heap.size + 1 + 1 + 1) (!s == t) false l00 p1 p2 c4 0) ?_ ?_
 ·refine ⟨?_,?_,by omega,?_⟩
  ·refine heap_setCell_same _ _ 4 #[.bool (!s == t),.int .u64 l00,.int .u64 p1,.int .u64 p2,.int .u64 0,.int .u64 0] 73 _ ?_
   refine draw_same _ _ _ 3 #[.bool (!s == t),.int .u64 l00,.int .u64 p1,.int .u64 c2,.int .u64 0,.int .u64 0] 73 _ ?_
   refine draw_same _ _ _ 2 #[.bool (!s == t),.int .u64 l00,.int .u64 o1,.int .u64 c2,.int .u64 0,.int .u64 0] 73 _ ?_
   refine heap_setCell_same _ _ 3 #[.bool (!s == t),.int .u64 l00,.int .u64 o1,.int .u64 0,.int .u64 0,.int .u64 0] 73 _ ?_
   refine draw_same _ _ _ 2 #[.bool (!s == t),.int .u64 l00,.int .u64 0,.int .u64 0,.int .u64 0,.int .u64 0] 73 _ ?_
   refine draw_same _ _ _ 1 #[.bool (!s == t),.int .u64 0,.int .u64 0,.int .u64 0,.int .u64 0,.int .u64 0] 73 _ ?_
   exact alloc_at _ _ _ (by simp)
  ·repeat (first | rw [World.heap_drewN] | rw [heap_setCell_other _ _ _ _ (by simp)])
   rw [heap_alloc_old _ _ (by simp)]
   exact alloc_at _ _ _ (by simp)
  ·repeat (first | with_reducible exact BB.out | with_reducible refine below_drewN ?_ _ | with_reducible refine Below.setCell ?_ (by simp; omega) _)
 intro W TW
 have r0':=cell_of_row W _ 0 _ _ _ TW.from'
 have r1':=cell_of_row W _ 1 _ _ _ TW.from'
 have r2':=cell_of_row W _ 2 _ _ _ TW.from'
 have r3':=cell_of_row W _ 3 _ _ _ TW.from'
 have r4':=cell_of_row W _ 4 _ _ _ TW.from'
 have r5':=cell_of_row W _ 5 _ _ _ TW.from'
 have t0':=cell_of_row W _ 0 _ _ _ TW.to
 have t1':=cell_of_row W _ 1 _ _ _ TW.to
 have t2':=cell_of_row W _ 2 _ _ _ TW.to
 have t3':=cell_of_row W _ 3 _ _ _ TW.to
 have t4':=cell_of_row W _ 4 _ _ _ TW.to
 have t5':=cell_of_row W _ 5 _ _ _ TW.to
 have u0':∀ o,W.frozen? ⟨w.heap.size + 1 + 1,o,none⟩=false:=fun o=>by simp [World.frozen?,TW.to]
 have TT:=hid TW
 clear TW
 simp only [List.getElem?_toArray,List.getElem?_cons_zero,List.getElem?_cons_succ] at r0' r1' r2' r3' r4' r5' t0' t1' t2' t3' t4' t5'
 rw [rounds_succ]
 go_wp2
 refine bodyPost_ret (v:=wide (!s == t) l00 p1 p2 c4 0) (gives Tryz.results71 _ _ (w.heap.size + 1 + 1) (!s == t) l00 p1 p2 c4 0 rfl (six _ _ _ 73 TT.out.to rfl _ _ _ _ _ _)) rfl ⟨rfl,TT.out.end' _ _ _ _ _ _⟩
theorem wmul_pz (s t:Bool) (x0 x1 y0 y1:Int) (w:World) (hx0:Part x0) (hx1:Part x1) (hy0:Part y0) (hy1:Part y1)
  (l00 h00 l01 h01 o1 g1 c2 l10 h10 p1 g2 c3 l11 h11 p2 g3 c4:Int) (HW:Hid (Wide4 x0 x1 y0 y1 l00 h00 l01 h01 o1 g1 c2 l10 h10 p1 g2 c3 l11 h11 p2 g3 c4))
  (HP:Part l00∧Part h00∧Part l01∧Part h01∧Part o1∧(0≤g1∧g1≤1)∧Part c2∧Part l10∧Part h10∧Part p1∧(0≤g2∧g2≤1)∧Part c3∧Part l11∧Part h11∧Part p2∧(0≤g3∧g3≤2)∧Part c4)
  (r00:0≤x0 * y0∧x0 * y0≤18446744065119617025) (r01:0≤x0 * y1∧x0 * y1≤18446744065119617025) (r10:0≤x1 * y0∧x1 * y0≤18446744065119617025) (r11:0≤x1 * y1∧x1 * y1≤18446744065119617025)
  (k2:0 < c2) (k4:c4=0) :
  Calls Tryz.prog 71 #[wide s x0 x1 0 0 0,wide t y0 y1 0 0 0] w fun e w'=>e=.returned (wide (!s == t) l00 p1 p2 c4 0)∧Below w.heap.size w w':=by
 obtain ⟨a0,b0⟩:=hx0
 obtain ⟨a1,b1⟩:=hx1
 obtain ⟨c0,d0⟩:=hy0
 obtain ⟨c1,d1⟩:=hy1
 obtain ⟨⟨v0,w0⟩,⟨v1,w1⟩,⟨v2,w2⟩,⟨v3,w3⟩,⟨v4,w4⟩,⟨v5,w5⟩,⟨v6,w6⟩,⟨v7,w7⟩,⟨v8,w8⟩,⟨v9,w9⟩,⟨v10,w10⟩,⟨v11,w11⟩,⟨v12,w12⟩,⟨v13,w13⟩,⟨v14,w14⟩,⟨v15,w15⟩,⟨v16,w16⟩⟩:=HP
 obtain ⟨r1,r2⟩:=r00
 obtain ⟨r3,r4⟩:=r01
 obtain ⟨r5,r6⟩:=r10
 obtain ⟨r7,r8⟩:=r11
 have Z0:Hid (l00 / 4294967296=0):=hid (Int.ediv_eq_zero_of_lt v0 (by omega))
 have Z1:Hid (h00 % 4294967296=h00):=hid (Int.emod_eq_of_lt v1 (by omega))
 have Z2:Hid (h00 / 4294967296=0):=hid (Int.ediv_eq_zero_of_lt v1 (by omega))
 have Z3:Hid (c2 % 4294967296=c2):=hid (Int.emod_eq_of_lt v6 (by omega))
 have Z4:Hid (c2 / 4294967296=0):=hid (Int.ediv_eq_zero_of_lt v6 (by omega))
 have Z5:Hid (c3 % 4294967296=c3):=hid (Int.emod_eq_of_lt v11 (by omega))
 have Z6:Hid (c3 / 4294967296=0):=hid (Int.ediv_eq_zero_of_lt v11 (by omega))
 have Z7:Hid (c4 % 4294967296=c4):=hid (Int.emod_eq_of_lt v16 (by omega))
 have Z8:Hid (c4 / 4294967296=0):=hid (Int.ediv_eq_zero_of_lt v16 (by omega))
 subst k4
 have BB:Hid (Below w.heap.size w ((((w.alloc (.cells #[.bool s,.int .u64 x0,.int .u64 x1,.int .u64 0,.int .u64 0,.int .u64 0] 73)).alloc (.cells #[.bool t,.int .u64 y0,.int .u64 y1,.int .u64 0,.int .u64 0,.int .u64 0] 73)).alloc (.cells #[.bool false,.int .u64 0,.int .u64 0,.int .u64 0,.int .u64 0,.int .u64 0] 73)).alloc (.cells #[.bool (!s == t),.int .u64 0,.int .u64 0,.int .u64 0,.int .u64 0,.int .u64 0] 73))):=
  hid (((((Below.refl _ _).alloc (Nat.le_refl _) _).alloc (by simp) _).alloc (by simp; omega) _).alloc (by simp; omega) _)
 go_enter Tryz.func71,Tryz.ntmps71
 go_wp2
 refine wp_loop_rounds 3 ?_
 rw [rounds_succ]
 go_wp2
 refine wp_loop_rounds 4 ?_
 rw [rounds_succ]
 go_wp2
 go_quiet (fail)
 go_wp2
 rw [HW.out.a1,HW.out.a2,Z0.out,Int.zero_add]
 rw [rounds_succ]
 go_wp2
 go_quiet (fail)
 go_wp2
--S1
 rw [HW.out.a3,HW.out.a4,Z1.out,Z2.out,HW.out.a5,HW.out.a6,Int.add_zero,HW.out.a7]
 rw [rounds_succ]
 go_wp2
 rw [Z3.out,Z4.out]
 rw [rounds_succ]
 go_wp2
 rw [rounds_succ]
 go_wp2
 refine wp_loop_rounds 4 ?_
 rw [rounds_succ]
 go_wp2
 go_quiet (fail)
 go_wp2
 rw [HW.out.b1,HW.out.b2,HW.out.b3,HW.out.b4,HW.out.b5]
 rw [rounds_succ]
 go_wp2
 go_quiet (fail)
 go_wp2
 rw [HW.out.b6,HW.out.b7,Z5.out,Z6.out,HW.out.b8,HW.out.b9,Int.add_zero,HW.out.b10]
 rw [rounds_succ]
 go_wp2
 refine world_gen (fun W'=>Two w W' (w.heap.size + 1 + 1) (w.heap.size + 1 + 1 + 1) (!s == t) false l00 p1 p2 0 0) ?_ ?_
 ·refine ⟨?_,?_,by omega,?_⟩
  ·refine draw_same _ _ _ 3 #[.bool (!s == t),.int .u64 l00,.int .u64 p1,.int .u64 c2,.int .u64 0,.int .u64 0] 73 _ ?_
   refine draw_same _ _ _ 2 #[.bool (!s == t),.int .u64 l00,.int .u64 o1,.int .u64 c2,.int .u64 0,.int .u64 0] 73 _ ?_
   refine heap_setCell_same _ _ 3 #[.bool (!s == t),.int .u64 l00,.int .u64 o1,.int .u64 0,.int .u64 0,.int .u64 0] 73 _ ?_
   refine draw_same _ _ _ 2 #[.bool (!s == t),.int .u64 l00,.int .u64 0,.int .u64 0,.int .u64 0,.int .u64 0] 73 _ ?_
   refine draw_same _ _ _ 1 #[.bool (!s == t),.int .u64 0,.int .u64 0,.int .u64 0,.int .u64 0,.int .u64 0] 73 _ ?_
   exact alloc_at _ _ _ (by simp)
  ·repeat (first | rw [World.heap_drewN] | rw [heap_setCell_other _ _ _ _ (by simp)])
   rw [heap_alloc_old _ _ (by simp)]
   exact alloc_at _ _ _ (by simp)
  ·repeat (first | with_reducible exact BB.out | with_reducible refine below_drewN ?_ _ | with_reducible refine Below.setCell ?_ (by simp; omega) _)
 intro W TW
 have r0':=cell_of_row W _ 0 _ _ _ TW.from'
 have r1':=cell_of_row W _ 1 _ _ _ TW.from'
 have r2':=cell_of_row W _ 2 _ _ _ TW.from'
 have r3':=cell_of_row W _ 3 _ _ _ TW.from'
 have r4':=cell_of_row W _ 4 _ _ _ TW.from'
 have r5':=cell_of_row W _ 5 _ _ _ TW.from'
 have t0':=cell_of_row W _ 0 _ _ _ TW.to
 have t1':=cell_of_row W _ 1 _ _ _ TW.to
 have t2':=cell_of_row W _ 2 _ _ _ TW.to
 have t3':=cell_of_row W _ 3 _ _ _ TW.to
 have t4':=cell_of_row W _ 4 _ _ _ TW.to
 have t5':=cell_of_row W _ 5 _ _ _ TW.to
 have u0':∀ o,W.frozen? ⟨w.heap.size + 1 + 1,o,none⟩=false:=fun o=>by simp [World.frozen?,TW.to]
 have TT:=hid TW
 clear TW
 simp only [List.getElem?_toArray,List.getElem?_cons_zero,List.getElem?_cons_succ] at r0' r1' r2' r3' r4' r5' t0' t1' t2' t3' t4' t5'
 rw [rounds_succ]
 go_wp2
 refine bodyPost_ret (v:=wide (!s == t) l00 p1 p2 0 0) (gives Tryz.results71 _ _ (w.heap.size + 1 + 1) (!s == t) l00 p1 p2 0 0 rfl (six _ _ _ 73 TT.out.to rfl _ _ _ _ _ _)) rfl ⟨rfl,TT.out.end' _ _ _ _ _ _⟩
theorem wmul_zp (s t:Bool) (x0 x1 y0 y1:Int) (w:World) (hx0:Part x0) (hx1:Part x1) (hy0:Part y0) (hy1:Part y1)
  (l00 h00 l01 h01 o1 g1 c2 l10 h10 p1 g2 c3 l11 h11 p2 g3 c4:Int) (HW:Hid (Wide4 x0 x1 y0 y1 l00 h00 l01 h01 o1 g1 c2 l10 h10 p1 g2 c3 l11 h11 p2 g3 c4))
  (HP:Part l00∧Part h00∧Part l01∧Part h01∧Part o1∧(0≤g1∧g1≤1)∧Part c2∧Part l10∧Part h10∧Part p1∧(0≤g2∧g2≤1)∧Part c3∧Part l11∧Part h11∧Part p2∧(0≤g3∧g3≤2)∧Part c4)
  (r00:0≤x0 * y0∧x0 * y0≤18446744065119617025) (r01:0≤x0 * y1∧x0 * y1≤18446744065119617025) (r10:0≤x1 * y0∧x1 * y0≤18446744065119617025) (r11:0≤x1 * y1∧x1 * y1≤18446744065119617025)
  (k2:c2=0) (k4:0 < c4) :
  Calls Tryz.prog 71 #[wide s x0 x1 0 0 0,wide t y0 y1 0 0 0] w fun e w'=>e=.returned (wide (!s == t) l00 p1 p2 c4 0)∧Below w.heap.size w w':=by
 obtain ⟨a0,b0⟩:=hx0
 obtain ⟨a1,b1⟩:=hx1
 obtain ⟨c0,d0⟩:=hy0
 obtain ⟨c1,d1⟩:=hy1
 obtain ⟨⟨v0,w0⟩,⟨v1,w1⟩,⟨v2,w2⟩,⟨v3,w3⟩,⟨v4,w4⟩,⟨v5,w5⟩,⟨v6,w6⟩,⟨v7,w7⟩,⟨v8,w8⟩,⟨v9,w9⟩,⟨v10,w10⟩,⟨v11,w11⟩,⟨v12,w12⟩,⟨v13,w13⟩,⟨v14,w14⟩,⟨v15,w15⟩,⟨v16,w16⟩⟩:=HP
 obtain ⟨r1,r2⟩:=r00
 obtain ⟨r3,r4⟩:=r01
 obtain ⟨r5,r6⟩:=r10
 obtain ⟨r7,r8⟩:=r11
 have Z0:Hid (l00 / 4294967296=0):=hid (Int.ediv_eq_zero_of_lt v0 (by omega))
 have Z1:Hid (h00 % 4294967296=h00):=hid (Int.emod_eq_of_lt v1 (by omega))
 have Z2:Hid (h00 / 4294967296=0):=hid (Int.ediv_eq_zero_of_lt v1 (by omega))
 have Z3:Hid (c2 % 4294967296=c2):=hid (Int.emod_eq_of_lt v6 (by omega))
 have Z4:Hid (c2 / 4294967296=0):=hid (Int.ediv_eq_zero_of_lt v6 (by omega))
 have Z5:Hid (c3 % 4294967296=c3):=hid (Int.emod_eq_of_lt v11 (by omega))
 have Z6:Hid (c3 / 4294967296=0):=hid (Int.ediv_eq_zero_of_lt v11 (by omega))
 have Z7:Hid (c4 % 4294967296=c4):=hid (Int.emod_eq_of_lt v16 (by omega))
 have Z8:Hid (c4 / 4294967296=0):=hid (Int.ediv_eq_zero_of_lt v16 (by omega))
 subst k2
 have Z9:Hid ((x1 * y1 + c3) % 4294967296=p2):=hid (by have h1:=HW.out.b6; have h2:=HW.out.b8; clear HW; generalize x1 * y1=m11 at *; omega)
 have ZA:Hid ((l11 + c3) / 4294967296=g3):=hid (by have h2:=HW.out.b9; rwa [Int.zero_add] at h2)
 have BB:Hid (Below w.heap.size w ((((w.alloc (.cells #[.bool s,.int .u64 x0,.int .u64 x1,.int .u64 0,.int .u64 0,.int .u64 0] 73)).alloc (.cells #[.bool t,.int .u64 y0,.int .u64 y1,.int .u64 0,.int .u64 0,.int .u64 0] 73)).alloc (.cells #[.bool false,.int .u64 0,.int .u64 0,.int .u64 0,.int .u64 0,.int .u64 0] 73)).alloc (.cells #[.bool (!s == t),.int .u64 0,.int .u64 0,.int .u64 0,.int .u64 0,.int .u64 0] 73))):=
  hid (((((Below.refl _ _).alloc (Nat.le_refl _) _).alloc (by simp) _).alloc (by simp; omega) _).alloc (by simp; omega) _)
 go_enter Tryz.func71,Tryz.ntmps71
 go_wp2
 refine wp_loop_rounds 3 ?_
 rw [rounds_succ]
 go_wp2
 refine wp_loop_rounds 4 ?_
 rw [rounds_succ]
 go_wp2
 go_quiet (fail)
 go_wp2
 rw [HW.out.a1,HW.out.a2,Z0.out,Int.zero_add]
 rw [rounds_succ]
 go_wp2
 go_quiet (fail)
 go_wp2
--S1
 rw [HW.out.a3,HW.out.a4,Z1.out,Z2.out,HW.out.a5,HW.out.a6,Int.add_zero,HW.out.a7]
 rw [rounds_succ]
 go_wp2
 rw [rounds_succ]
 go_wp2
 refine wp_loop_rounds 4 ?_
 rw [rounds_succ]
 go_wp2
 go_quiet (fail)
 go_wp2
 rw [HW.out.b1,HW.out.b2,HW.out.b3,HW.out.b4,HW.out.b5]
 rw [rounds_succ]
 go_wp2
 go_quiet (fail)
 go_wp2
 rw [Z9.out,HW.out.b6,HW.out.b7,Z5.out,Z6.out,ZA.out,Int.add_zero,HW.out.b10]
 rw [rounds_succ]
 go_wp2
 rw [Z7.out,Z8.out]
 rw [rounds_succ]
 go_wp2
 refine world_gen (fun W'=>Two w W' (w.heap.size + 1 + 1) (w.heap.size + 1 + 1 + 1) (!s == t) false l00 p1 p2 c4 0) ?_ ?_
 ·refine ⟨?_,?_,by omega,?_⟩
  ·refine heap_setCell_same _ _ 4 #[.bool (!s == t),.int .u64 l00,.int .u64 p1,.int .u64 p2,.int .u64 0,.int .u64 0] 73 _ ?_
   refine draw_same _ _ _ 3 #[.bool (!s == t),.int .u64 l00,.int .u64 p1,.int .u64 0,.int .u64 0,.int .u64 0] 73 _ ?_
   refine draw_same _ _ _ 2 #[.bool (!s == t),.int .u64 l00,.int .u64 o1,.int .u64 0,.int .u64 0,.int .u64 0] 73 _ ?_
   refine draw_same _ _ _ 2 #[.bool (!s == t),.int .u64 l00,.int .u64 0,.int .u64 0,.int .u64 0,.int .u64 0] 73 _ ?_
   refine draw_same _ _ _ 1 #[.bool (!s == t),.int .u64 0,.int .u64 0,.int .u64 0,.int .u64 0,.int .u64 0] 73 _ ?_
   exact alloc_at _ _ _ (by simp)
  ·repeat (first | rw [World.heap_drewN] | rw [heap_setCell_other _ _ _ _ (by simp)])
   rw [heap_alloc_old _ _ (by simp)]
   exact alloc_at _ _ _ (by simp)
  ·repeat (first | with_reducible exact BB.out | with_reducible refine below_drewN ?_ _ | with_reducible refine Below.setCell ?_ (by simp; omega) _)
 intro W TW
 have r0':=cell_of_row W _ 0 _ _ _ TW.from'
 have r1':=cell_of_row W _ 1 _ _ _ TW.from'
 have r2':=cell_of_row W _ 2 _ _ _ TW.from'
 have r3':=cell_of_row W _ 3 _ _ _ TW.from'
 have r4':=cell_of_row W _ 4 _ _ _ TW.from'
 have r5':=cell_of_row W _ 5 _ _ _ TW.from'
 have t0':=cell_of_row W _ 0 _ _ _ TW.to
 have t1':=cell_of_row W _ 1 _ _ _ TW.to
 have t2':=cell_of_row W _ 2 _ _ _ TW.to
 have t3':=cell_of_row W _ 3 _ _ _ TW.to
 have t4':=cell_of_row W _ 4 _ _ _ TW.to
 have t5':=cell_of_row W _ 5 _ _ _ TW.to
 have u0':∀ o,W.frozen? ⟨w.heap.size + 1 + 1,o,none⟩=false:=fun o=>by simp [World.frozen?,TW.to]
 have TT:=hid TW
 clear TW
 simp only [List.getElem?_toArray,List.getElem?_cons_zero,List.getElem?_cons_succ] at r0' r1' r2' r3' r4' r5' t0' t1' t2' t3' t4' t5'
 rw [rounds_succ]
 go_wp2
 refine bodyPost_ret (v:=wide (!s == t) l00 p1 p2 c4 0) (gives Tryz.results71 _ _ (w.heap.size + 1 + 1) (!s == t) l00 p1 p2 c4 0 rfl (six _ _ _ 73 TT.out.to rfl _ _ _ _ _ _)) rfl ⟨rfl,TT.out.end' _ _ _ _ _ _⟩
theorem wmul_zz (s t:Bool) (x0 x1 y0 y1:Int) (w:World) (hx0:Part x0) (hx1:Part x1) (hy0:Part y0) (hy1:Part y1)
  (l00 h00 l01 h01 o1 g1 c2 l10 h10 p1 g2 c3 l11 h11 p2 g3 c4:Int) (HW:Hid (Wide4 x0 x1 y0 y1 l00 h00 l01 h01 o1 g1 c2 l10 h10 p1 g2 c3 l11 h11 p2 g3 c4))
  (HP:Part l00∧Part h00∧Part l01∧Part h01∧Part o1∧(0≤g1∧g1≤1)∧Part c2∧Part l10∧Part h10∧Part p1∧(0≤g2∧g2≤1)∧Part c3∧Part l11∧Part h11∧Part p2∧(0≤g3∧g3≤2)∧Part c4)
  (r00:0≤x0 * y0∧x0 * y0≤18446744065119617025) (r01:0≤x0 * y1∧x0 * y1≤18446744065119617025) (r10:0≤x1 * y0∧x1 * y0≤18446744065119617025) (r11:0≤x1 * y1∧x1 * y1≤18446744065119617025)
  (k2:c2=0) (k4:c4=0) :
  Calls Tryz.prog 71 #[wide s x0 x1 0 0 0,wide t y0 y1 0 0 0] w fun e w'=>e=.returned (wide (!s == t) l00 p1 p2 c4 0)∧Below w.heap.size w w':=by
 obtain ⟨a0,b0⟩:=hx0
 obtain ⟨a1,b1⟩:=hx1
 obtain ⟨c0,d0⟩:=hy0
 obtain ⟨c1,d1⟩:=hy1
 obtain ⟨⟨v0,w0⟩,⟨v1,w1⟩,⟨v2,w2⟩,⟨v3,w3⟩,⟨v4,w4⟩,⟨v5,w5⟩,⟨v6,w6⟩,⟨v7,w7⟩,⟨v8,w8⟩,⟨v9,w9⟩,⟨v10,w10⟩,⟨v11,w11⟩,⟨v12,w12⟩,⟨v13,w13⟩,⟨v14,w14⟩,⟨v15,w15⟩,⟨v16,w16⟩⟩:=HP
 obtain ⟨r1,r2⟩:=r00
 obtain ⟨r3,r4⟩:=r01
 obtain ⟨r5,r6⟩:=r10
 obtain ⟨r7,r8⟩:=r11
 have Z0:Hid (l00 / 4294967296=0):=hid (Int.ediv_eq_zero_of_lt v0 (by omega))
 have Z1:Hid (h00 % 4294967296=h00):=hid (Int.emod_eq_of_lt v1 (by omega))
 have Z2:Hid (h00 / 4294967296=0):=hid (Int.ediv_eq_zero_of_lt v1 (by omega))
 have Z3:Hid (c2 % 4294967296=c2):=hid (Int.emod_eq_of_lt v6 (by omega))
 have Z4:Hid (c2 / 4294967296=0):=hid (Int.ediv_eq_zero_of_lt v6 (by omega))
 have Z5:Hid (c3 % 4294967296=c3):=hid (Int.emod_eq_of_lt v11 (by omega))
 have Z6:Hid (c3 / 4294967296=0):=hid (Int.ediv_eq_zero_of_lt v11 (by omega))
 have Z7:Hid (c4 % 4294967296=c4):=hid (Int.emod_eq_of_lt v16 (by omega))
 have Z8:Hid (c4 / 4294967296=0):=hid (Int.ediv_eq_zero_of_lt v16 (by omega))
 subst k2
 subst k4
 have Z9:Hid ((x1 * y1 + c3) % 4294967296=p2):=hid (by have h1:=HW.out.b6; have h2:=HW.out.b8; clear HW; generalize x1 * y1=m11 at *; omega)
 have ZA:Hid ((l11 + c3) / 4294967296=g3):=hid (by have h2:=HW.out.b9; rwa [Int.zero_add] at h2)
 have BB:Hid (Below w.heap.size w ((((w.alloc (.cells #[.bool s,.int .u64 x0,.int .u64 x1,.int .u64 0,.int .u64 0,.int .u64 0] 73)).alloc (.cells #[.bool t,.int .u64 y0,.int .u64 y1,.int .u64 0,.int .u64 0,.int .u64 0] 73)).alloc (.cells #[.bool false,.int .u64 0,.int .u64 0,.int .u64 0,.int .u64 0,.int .u64 0] 73)).alloc (.cells #[.bool (!s == t),.int .u64 0,.int .u64 0,.int .u64 0,.int .u64 0,.int .u64 0] 73))):=
  hid (((((Below.refl _ _).alloc (Nat.le_refl _) _).alloc (by simp) _).alloc (by simp; omega) _).alloc (by simp; omega) _)
 go_enter Tryz.func71,Tryz.ntmps71
 go_wp2
 refine wp_loop_rounds 3 ?_
 rw [rounds_succ]
 go_wp2
 refine wp_loop_rounds 4 ?_
 rw [rounds_succ]
 go_wp2
 go_quiet (fail)
 go_wp2
 rw [HW.out.a1,HW.out.a2,Z0.out,Int.zero_add]
 rw [rounds_succ]
 go_wp2
 go_quiet (fail)
 go_wp2
--S1
 rw [HW.out.a3,HW.out.a4,Z1.out,Z2.out,HW.out.a5,HW.out.a6,Int.add_zero,HW.out.a7]
 rw [rounds_succ]
 go_wp2
 rw [rounds_succ]
 go_wp2
 refine wp_loop_rounds 4 ?_
 rw [rounds_succ]
 go_wp2
 go_quiet (fail)
 go_wp2
 rw [HW.out.b1,HW.out.b2,HW.out.b3,HW.out.b4,HW.out.b5]
 rw [rounds_succ]
 go_wp2
 go_quiet (fail)
 go_wp2
 rw [Z9.out,HW.out.b6,HW.out.b7,Z5.out,Z6.out,ZA.out,Int.add_zero,HW.out.b10]
 rw [rounds_succ]
 go_wp2
 refine world_gen (fun W'=>Two w W' (w.heap.size + 1 + 1) (w.heap.size + 1 + 1 + 1) (!s == t) false l00 p1 p2 0 0) ?_ ?_
 ·refine ⟨?_,?_,by omega,?_⟩
  ·refine draw_same _ _ _ 3 #[.bool (!s == t),.int .u64 l00,.int .u64 p1,.int .u64 0,.int .u64 0,.int .u64 0] 73 _ ?_
   refine draw_same _ _ _ 2 #[.bool (!s == t),.int .u64 l00,.int .u64 o1,.int .u64 0,.int .u64 0,.int .u64 0] 73 _ ?_
   refine draw_same _ _ _ 2 #[.bool (!s == t),.int .u64 l00,.int .u64 0,.int .u64 0,.int .u64 0,.int .u64 0] 73 _ ?_
   refine draw_same _ _ _ 1 #[.bool (!s == t),.int .u64 0,.int .u64 0,.int .u64 0,.int .u64 0,.int .u64 0] 73 _ ?_
   exact alloc_at _ _ _ (by simp)
  ·repeat (first | rw [World.heap_drewN] | rw [heap_setCell_other _ _ _ _ (by simp)])
   rw [heap_alloc_old _ _ (by simp)]
   exact alloc_at _ _ _ (by simp)
  ·repeat (first | with_reducible exact BB.out | with_reducible refine below_drewN ?_ _ | with_reducible refine Below.setCell ?_ (by simp; omega) _)
 intro W TW
 have r0':=cell_of_row W _ 0 _ _ _ TW.from'
 have r1':=cell_of_row W _ 1 _ _ _ TW.from'
 have r2':=cell_of_row W _ 2 _ _ _ TW.from'
 have r3':=cell_of_row W _ 3 _ _ _ TW.from'
 have r4':=cell_of_row W _ 4 _ _ _ TW.from'
 have r5':=cell_of_row W _ 5 _ _ _ TW.from'
 have t0':=cell_of_row W _ 0 _ _ _ TW.to
 have t1':=cell_of_row W _ 1 _ _ _ TW.to
 have t2':=cell_of_row W _ 2 _ _ _ TW.to
 have t3':=cell_of_row W _ 3 _ _ _ TW.to
 have t4':=cell_of_row W _ 4 _ _ _ TW.to
 have t5':=cell_of_row W _ 5 _ _ _ TW.to
 have u0':∀ o,W.frozen? ⟨w.heap.size + 1 + 1,o,none⟩=false:=fun o=>by simp [World.frozen?,TW.to]
 have TT:=hid TW
 clear TW
 simp only [List.getElem?_toArray,List.getElem?_cons_zero,List.getElem?_cons_succ] at r0' r1' r2' r3' r4' r5' t0' t1' t2' t3' t4' t5'
 rw [rounds_succ]
 go_wp2
 refine bodyPost_ret (v:=wide (!s == t) l00 p1 p2 0 0) (gives Tryz.results71 _ _ (w.heap.size + 1 + 1) (!s == t) l00 p1 p2 0 0 rfl (six _ _ _ 73 TT.out.to rfl _ _ _ _ _ _)) rfl ⟨rfl,TT.out.end' _ _ _ _ _ _⟩
end Go.Proofs.YteghhmomhlnccaaGreatDoor
namespace Go.Proofs.YteghhmomhlnccaaGreatDoor
theorem part0:Part 0:=by unfold Part; omega
def Ten (v:Int) (w:World) (e:Ending) (w':World):Prop:=∃ q0 q1 q2:Int,Part q0∧Part q1∧(0≤q2∧q2≤1000)∧size q0 q1 q2 0 0=10 * v∧e=.returned (wide false q0 q1 q2 0 0)∧Below w.heap.size w w'
theorem mul_ten (x0 x1:Int) (w:World) (hx0:Part x0) (hx1:Part x1):Calls Tryz.prog 71 #[wide false x0 x1 0 0 0,wide false 10 0 0 0 0] w (Ten (x0 + 4294967296 * x1) w):=by
 have hy0:Part 10:=⟨by decide,by decide⟩
 obtain ⟨l00,h00,l01,h01,o1,g1,c2,l10,h10,p1,g2,c3,l11,h11,p2,g3,c4,HW,HP,r00,r01,r10,r11,hs⟩:=wide4 x0 x1 10 0 hx0 hx1 hy0 part0
 have hp:=HP
 obtain ⟨q0,-,-,-,-,-,q2',-,-,q1,-,-,-,-,q2,-,q3⟩:=hp
 have goal:Calls Tryz.prog 71 #[wide false x0 x1 0 0 0,wide false 10 0 0 0 0] w fun e w'=>e=.returned (wide (!false == false) l00 p1 p2 c4 0)∧Below w.heap.size w w':=by
  obtain ⟨z1,z2⟩:=q2'
  obtain ⟨z3,z4⟩:=q3
  by_cases k2:0 < c2
  ·by_cases k4:0 < c4
   ·exact wmul_pp false false x0 x1 10 0 w hx0 hx1 hy0 part0 l00 h00 l01 h01 o1 g1 c2 l10 h10 p1 g2 c3 l11 h11 p2 g3 c4 (hid HW) HP r00 r01 r10 r11 k2 k4
   ·exact wmul_pz false false x0 x1 10 0 w hx0 hx1 hy0 part0 l00 h00 l01 h01 o1 g1 c2 l10 h10 p1 g2 c3 l11 h11 p2 g3 c4 (hid HW) HP r00 r01 r10 r11 k2 (by omega)
  ·by_cases k4:0 < c4
   ·exact wmul_zp false false x0 x1 10 0 w hx0 hx1 hy0 part0 l00 h00 l01 h01 o1 g1 c2 l10 h10 p1 g2 c3 l11 h11 p2 g3 c4 (hid HW) HP r00 r01 r10 r11 (by omega) k4
   ·exact wmul_zz false false x0 x1 10 0 w hx0 hx1 hy0 part0 l00 h00 l01 h01 o1 g1 c2 l10 h10 p1 g2 c3 l11 h11 p2 g3 c4 (hid HW) HP r00 r01 r10 r11 (by omega) (by omega)
 obtain ⟨s0,s1⟩:=hx0
 obtain ⟨s2,s3⟩:=hx1
 obtain ⟨s4,s5⟩:=q0
 obtain ⟨s6,s7⟩:=q1
 obtain ⟨s8,s9⟩:=q2
 obtain ⟨s10,s11⟩:=q3
 have hs2:size l00 p1 p2 c4 0=10 * (x0 + 4294967296 * x1):=by rw [hs]; omega
 have hc4:c4=0:=by unfold size at hs2; omega
 subst hc4
 refine goal.mono ?_
 rintro e w' ⟨rfl,hb⟩
 refine ⟨l00,p1,p2,⟨s4,s5⟩,⟨s6,s7⟩,⟨s8,?_⟩,hs2,rfl,hb⟩
 unfold size at hs2; omega
theorem add_digit (x0 x1 x2 y0:Int) (w:World) (hx0:Part x0) (hx1:Part x1) (hx2:0≤x2∧x2≤1000) (hy0:Part y0) :
  Calls Tryz.prog 70 #[wide false x0 x1 x2 0 0,wide false y0 0 0 0 0] w fun e w'=>∃ q0 q1 q2:Int,(Part q0∧Part q1∧Part q2∧size q0 q1 q2 0 0=size x0 x1 x2 0 0 + y0)∧e=.returned (wide false q0 q1 q2 0 0)∧Below w.heap.size w w':=
 wadd_more x0 x1 x2 y0 w hx0 hx1 hx2 hy0
end Go.Proofs.YteghhmomhlnccaaGreatDoor
namespace Go.Proofs.YteghhmomhlnccaaGreatDoor
def Says (v:Value) (n:Int):Prop:=∃ (s:Bool) (q0 q1 q2 q3:Int),v=wide s q0 q1 q2 q3 0∧Part q0∧Part q1∧Part q2∧Part q3∧n=signed s (size q0 q1 q2 q3 0)
def Says2 (v:Value) (n:Int):Prop:=∃ (s:Bool) (q0 q1:Int),v=wide s q0 q1 0 0 0∧Part q0∧Part q1∧n=signed s (q0 + 4294967296 * q1)
def GivesWide (n:Int) (w:World) (e:Ending) (w':World):Prop:=∃ v,e=.returned v∧Says v n∧Below w.heap.size w w'
def GivesWide2 (n:Int) (w:World) (e:Ending) (w':World):Prop:=∃ v,e=.returned v∧Says2 v n∧Below w.heap.size w w'
theorem wadd_says (u v:Value) (a b:Int) (w:World) (hu:Says2 u a) (hv:Says2 v b):Calls Tryz.prog 70 #[u,v] w (GivesWide (a + b) w):=by
 obtain ⟨s,x0,x1,rfl,hx0,hx1,rfl⟩:=hu
 obtain ⟨t,y0,y1,rfl,hy0,hy1,rfl⟩:=hv
 have g0:=hx0
 have g1:=hx1
 have g2:=hy0
 have g3:=hy1
 obtain ⟨a0,b0⟩:=g0
 obtain ⟨a1,b1⟩:=g1
 obtain ⟨c0,d0⟩:=g2
 obtain ⟨c1,d1⟩:=g3
 by_cases hst:t=s
 ·subst hst
  refine (wadd_same t x0 x1 y0 y1 w hx0 hx1 hy0 hy1).mono ?_
  rintro e w' ⟨q0,q1,q2,⟨h0,h1,h2,h3⟩,rfl,hb⟩
  refine ⟨_,rfl,⟨t,q0,q1,q2,0,rfl,h0,h1,h2,part0,?_⟩,hb⟩
  rw [h3]
  cases t <;> simp only [signed,if_true,Bool.false_eq_true,if_false] <;> omega
 ·obtain rfl:t=!s:=by cases s <;> cases t <;> simp_all
  by_cases hge:y0 + 4294967296 * y1≤x0 + 4294967296 * x1
  ·refine (wadd_ge s x0 x1 y0 y1 w hx0 hx1 hy0 hy1 hge).mono ?_
   rintro e w' ⟨q0,q1,⟨h0,h1,h3⟩,rfl,hb⟩
   refine ⟨_,rfl,⟨s,q0,q1,0,0,rfl,h0,h1,part0,part0,?_⟩,hb⟩
   rw [h3]
   cases s <;> simp only [signed,if_true,Bool.false_eq_true,if_false,Bool.not_true,Bool.not_false] <;> omega
  ·refine (wadd_lt s x0 x1 y0 y1 w hx0 hx1 hy0 hy1 (by omega)).mono ?_
   rintro e w' ⟨q0,q1,⟨h0,h1,h3⟩,rfl,hb⟩
   refine ⟨_,rfl,⟨!s,q0,q1,0,0,rfl,h0,h1,part0,part0,?_⟩,hb⟩
   rw [h3]
   cases s <;> simp only [signed,if_true,Bool.false_eq_true,if_false,Bool.not_true,Bool.not_false] <;> omega
theorem wmul_says (u v:Value) (a b:Int) (w:World) (hu:Says2 u a) (hv:Says2 v b):Calls Tryz.prog 71 #[u,v] w (GivesWide (a * b) w):=by
 obtain ⟨s,x0,x1,rfl,hx0,hx1,rfl⟩:=hu
 obtain ⟨t,y0,y1,rfl,hy0,hy1,rfl⟩:=hv
 obtain ⟨l00,h00,l01,h01,o1,g1,c2,l10,h10,p1,g2,c3,l11,h11,p2,g3,c4,HW,HP,r00,r01,r10,r11,hs⟩:=wide4 x0 x1 y0 y1 hx0 hx1 hy0 hy1
 have e:signed s (x0 + 4294967296 * x1) * signed t (y0 + 4294967296 * y1)=signed (!s == t) ((x0 + 4294967296 * x1) * (y0 + 4294967296 * y1)):=by
  cases s <;> cases t <;> simp [signed,Int.neg_mul,Int.mul_neg]
 have hp:=HP
 obtain ⟨q0,-,-,-,-,-,q2',-,-,q1,-,-,-,-,q2,-,q3⟩:=hp
 have goal:Calls Tryz.prog 71 #[wide s x0 x1 0 0 0,wide t y0 y1 0 0 0] w fun e w'=>e=.returned (wide (!s == t) l00 p1 p2 c4 0)∧Below w.heap.size w w':=by
  obtain ⟨z1,z2⟩:=q2'
  obtain ⟨z3,z4⟩:=q3
  by_cases k2:0 < c2
  ·by_cases k4:0 < c4
   ·exact wmul_pp s t x0 x1 y0 y1 w hx0 hx1 hy0 hy1 l00 h00 l01 h01 o1 g1 c2 l10 h10 p1 g2 c3 l11 h11 p2 g3 c4 (hid HW) HP r00 r01 r10 r11 k2 k4
   ·exact wmul_pz s t x0 x1 y0 y1 w hx0 hx1 hy0 hy1 l00 h00 l01 h01 o1 g1 c2 l10 h10 p1 g2 c3 l11 h11 p2 g3 c4 (hid HW) HP r00 r01 r10 r11 k2 (by omega)
  ·by_cases k4:0 < c4
   ·exact wmul_zp s t x0 x1 y0 y1 w hx0 hx1 hy0 hy1 l00 h00 l01 h01 o1 g1 c2 l10 h10 p1 g2 c3 l11 h11 p2 g3 c4 (hid HW) HP r00 r01 r10 r11 (by omega) k4
   ·exact wmul_zz s t x0 x1 y0 y1 w hx0 hx1 hy0 hy1 l00 h00 l01 h01 o1 g1 c2 l10 h10 p1 g2 c3 l11 h11 p2 g3 c4 (hid HW) HP r00 r01 r10 r11 (by omega) (by omega)
 refine goal.mono ?_
 rintro e' w' ⟨rfl,hb⟩
 exact ⟨_,rfl,⟨_,_,_,_,_,rfl,q0,q1,q2,q3,by rw [hs,e]⟩,hb⟩
theorem wneg_says (u:Value) (a:Int) (w:World) (hu:Says2 u a):Calls Tryz.prog 41 #[u] w (GivesWide2 (-a) w):=by
 obtain ⟨s,x0,x1,rfl,hx0,hx1,rfl⟩:=hu
 refine (wneg_any s x0 x1 0 0 0 w).mono ?_
 rintro e w' ⟨rfl,hb⟩
 refine ⟨_,rfl,⟨_,_,_,rfl,hx0,hx1,?_⟩,hb⟩
 cases s <;> simp [signed]
theorem of_says (a:Int) (w:World) (ha:Fits a):Calls Tryz.prog 42 #[.int .i64 a] w (GivesWide2 a w):=by
 obtain ⟨a1,a2⟩:=ha
 by_cases h:0≤a
 ·refine (of_pos a w h a2).mono ?_
  rintro e w' ⟨rfl,hb⟩
  refine ⟨_,rfl,⟨_,_,_,rfl,⟨by omega,by omega⟩,⟨by omega,by omega⟩,?_⟩,hb⟩
  simp only [signed,Bool.false_eq_true,if_false]; omega
 ·have K:=of_neg (-a) w (by omega) (by omega)
  rw [Int.neg_neg] at K
  refine K.mono ?_
  rintro e w' ⟨rfl,hb⟩
  refine ⟨_,rfl,⟨_,_,_,rfl,⟨by omega,by omega⟩,⟨by omega,by omega⟩,?_⟩,hb⟩
  simp only [signed,if_true]; omega
theorem Says2.wide {v:Value} {n:Int} (h:Says2 v n):Says v n:=by
 obtain ⟨s,q0,q1,rfl,h0,h1,rfl⟩:=h
 exact ⟨s,q0,q1,0,0,rfl,h0,h1,part0,part0,by unfold size; simp⟩
end Go.Proofs.YteghhmomhlnccaaGreatDoor
