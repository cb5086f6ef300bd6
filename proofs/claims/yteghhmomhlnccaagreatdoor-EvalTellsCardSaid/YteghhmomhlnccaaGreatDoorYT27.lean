import Derived.Test.YteghhmomhlnccaaGreatDoorYT26
set_option linter.unusedVariables false
set_option linter.unusedSimpArgs false
set_option maxRecDepth 100000
set_option maxHeartbeats 100000000
open Go.RowKit Go.Lib
namespace Go.Proofs.YteghhmomhlnccaaGreatDoor
theorem wadd_same (s:Bool) (x0 x1 y0 y1:Int) (w:World) (hx0:Part x0) (hx1:Part x1) (hy0:Part y0) (hy1:Part y1) :
  Calls Tryz.prog 70 #[wide s x0 x1 0 0 0,wide s y0 y1 0 0 0] w fun e w'=>∃ q0 q1 q2:Int,(Part q0∧Part q1∧Part q2∧size q0 q1 q2 0 0=(x0 + 4294967296 * x1) + (y0 + 4294967296 * y1))∧e=.returned (wide s q0 q1 q2 0 0)∧Below w.heap.size w w':=by
 obtain ⟨a0,b0⟩:=hx0
 obtain ⟨a1,b1⟩:=hx1
 obtain ⟨c0,d0⟩:=hy0
 obtain ⟨c1,d1⟩:=hy1
 obtain ⟨q0,k0,e1,e2,f1,f2,f3,f4⟩:=carry (x0 + y0) 8589934590 (by omega) (by omega)
 obtain ⟨q1,k1,e3,e4,f5,f6,f7,f8⟩:=carry (x1 + y1 + k0) 8589934591 (by omega) (by omega)
 have F:Hid ((Part q0∧Part q1∧Part k1∧size q0 q1 k1 0 0=(x0 + 4294967296 * x1) + (y0 + 4294967296 * y1))):=
  hid ⟨f1,f5,⟨f6,by omega⟩,by unfold size; omega⟩
 have B:Below w.heap.size w ((((w.alloc (.cells #[.bool s,.int .u64 x0,.int .u64 x1,.int .u64 0,.int .u64 0,.int .u64 0] 73)).alloc (.cells #[.bool s,.int .u64 y0,.int .u64 y1,.int .u64 0,.int .u64 0,.int .u64 0] 73)).alloc (.cells #[.bool false,.int .u64 0,.int .u64 0,.int .u64 0,.int .u64 0,.int .u64 0] 73)).alloc (.cells #[.bool s,.int .u64 0,.int .u64 0,.int .u64 0,.int .u64 0,.int .u64 0] 73)):=
  ((((Below.refl _ _).alloc (Nat.le_refl _) _).alloc (by simp) _).alloc (by simp; omega) _).alloc (by simp; omega) _
 have BB:=hid B
 have E1:=hid e1
 have E2:=hid e2
 have E3:=hid e3
 have E4:=hid e4
 have g1:k0≤1:=by omega
 have g2:k1≤1:=by omega
 clear e1 e2 e3 e4 f1 f3 f4 f5 f7 f8 B
 go_enter Tryz.func70,Tryz.ntmps70
 go_wp2
 refine wp_loop_rounds 6 ?_
 rw [rounds_succ]
 go_wp2
 go_quiet (fail)
 go_wp2
 rw [E1.out,E2.out]
 rw [rounds_succ]
 go_wp2
 go_quiet (fail)
 go_wp2
 rw [E3.out,E4.out]
 rw [rounds_succ]
 go_wp2
 go_quiet (fail)
 go_wp2
 rw [Int.emod_eq_of_lt f6 (show k1 < 4294967296 by omega),Int.ediv_eq_zero_of_lt f6 (show k1 < 4294967296 by omega)]
 rw [rounds_succ]
 go_wp2
 go_quiet (fail)
 go_wp2
 rw [rounds_succ]
 go_wp2
 go_quiet (fail)
 go_wp2
 rw [rounds_succ]
 go_wp2
 refine bodyPost_ret (v:=wide s q0 q1 k1 0 0) (gives Tryz.results70 _ _ (w.heap.size + 1 + 1) s q0 q1 k1 0 0 rfl (six _ _ #[.bool false,.int .u64 0,.int .u64 0,.int .u64 0,.int .u64 0,.int .u64 0] 73 ?_ rfl _ _ _ _ _ _)) rfl ⟨_,_,_,F.out,rfl,?_⟩
 ·repeat (first | rw [World.heap_drewN] | rw [heap_setCell_other _ _ _ _ (by simp)])
  rw [heap_alloc_old _ _ (by simp)]
  exact alloc_at _ _ _ (by simp)
 repeat (first | with_reducible exact BB.out | with_reducible refine below_drewN ?_ _ | with_reducible refine Below.setCell ?_ (by simp; omega) _)
end Go.Proofs.YteghhmomhlnccaaGreatDoor
namespace Go.Proofs.YteghhmomhlnccaaGreatDoor
theorem wadd_ge (s:Bool) (x0 x1 y0 y1:Int) (w:World) (hx0:Part x0) (hx1:Part x1) (hy0:Part y0) (hy1:Part y1) (hge:y0 + 4294967296 * y1≤x0 + 4294967296 * x1) :
  Calls Tryz.prog 70 #[wide s x0 x1 0 0 0,wide (!s) y0 y1 0 0 0] w fun e w'=>∃ q0 q1:Int,(Part q0∧Part q1∧size q0 q1 0 0 0=(x0 + 4294967296 * x1) - (y0 + 4294967296 * y1))∧e=.returned (wide s q0 q1 0 0 0)∧Below w.heap.size w w':=by
 have K:=fun w=>less_any x0 x1 y0 y1 w hx0 hx1 hy0 hy1
 rw [decide_eq_false (by omega)] at K
 have K':=hid K
 clear K
 obtain ⟨a0,b0⟩:=hx0
 obtain ⟨a1,b1⟩:=hx1
 obtain ⟨c0,d0⟩:=hy0
 obtain ⟨c1,d1⟩:=hy1
 obtain ⟨q0,k0,e1,e2,f1,f2,f3,f4⟩:=carry (4294967296 + x0 - y0) 8589934591 (by omega) (by omega)
 have g1:k0≤1:=by omega
 obtain ⟨q1,k1,e3,e4,f5,f6,f7,f8⟩:=carry (4294967296 + x1 - y1 - (1 - k0)) 8589934591 (by omega) (by omega)
 obtain ⟨u0,u1⟩:=f1
 obtain ⟨u2,u3⟩:=f5
 obtain rfl:k1=1:=by omega
 have F:Hid ((Part q0∧Part q1∧size q0 q1 0 0 0=(x0 + 4294967296 * x1) - (y0 + 4294967296 * y1))):=
  hid ⟨⟨u0,u1⟩,⟨u2,u3⟩,by unfold size; omega⟩
 have E1:=hid e1
 have E2:=hid e2
 have E3:=hid e3
 have E4:=hid e4
 clear e1 e2 e3 e4 f3 f4 f6 f7 f8 hge
 cases s
 ·-- one
  go_enter Tryz.func70,Tryz.ntmps70
  go_wp2_with fail
  refine (K'.out _).mono ?_
  rintro e wl ⟨rfl,hb⟩
  obtain ⟨hc,hf⟩:=bcell hb
  have hz:=hb.size
  have HB:=hid hb
  have BL:=hid (show Below w.heap.size w wl from (((((Below.refl _ _).alloc (Nat.le_refl _) _).alloc (by simp) _).alloc (by simp; omega) _).alloc (by simp; omega) _).trans (hb.mono (by simp; omega)))
  clear hb
  simp only [World.size_alloc] at hz
  go_wp2_with fail
  refine wp_loop_rounds 6 ?_
  rw [rounds_succ]
  go_wp2
  go_quiet (fail)
  go_wp2
  rw [E1.out,E2.out]
  rw [rounds_succ]
  go_wp2
  go_quiet (fail)
  go_wp2
  rw [E3.out,E4.out,show (1:Int) - 1=0 from rfl]
  rw [rounds_succ]
  go_wp2
  go_quiet (fail)
  go_wp2
  rw [rounds_succ]
  go_wp2
  go_quiet (fail)
  go_wp2
  rw [rounds_succ]
  go_wp2
  go_quiet (fail)
  go_wp2
  refine world_gen (fun W'=>Two w W' (w.heap.size + 1 + 1) (w.heap.size + 1 + 1 + 1) false false q0 q1 0 0 0) ?_ ?_
  ·refine ⟨?_,?_,by omega,?_⟩
   ·refine five _ _ _ _ (.int .u64 0) (.int .u64 0) (.int .u64 0) (.int .u64 0) (.int .u64 0) ?_ _ _ _ _ _ _ _ _ _ _
    rw [HB.out.block _ (by simp)]
    exact alloc_at _ _ _ (by simp)
   ·repeat (first | rw [World.heap_drewN] | rw [heap_setCell_other _ _ _ _ (by simp)])
    rw [HB.out.block _ (by simp)]
    rw [heap_alloc_old _ _ (by simp)]
    exact alloc_at _ _ _ (by simp)
   ·repeat (first | with_reducible exact BL.out | with_reducible refine below_drewN ?_ _ | with_reducible refine Below.setCell ?_ (by simp; omega) _)
  ·intro W TW
   have r0:=cell_of_row W _ 0 _ _ _ TW.from'
   have r1:=cell_of_row W _ 1 _ _ _ TW.from'
   have r2:=cell_of_row W _ 2 _ _ _ TW.from'
   have r3:=cell_of_row W _ 3 _ _ _ TW.from'
   have r4:=cell_of_row W _ 4 _ _ _ TW.from'
   have r5:=cell_of_row W _ 5 _ _ _ TW.from'
   have t0:=cell_of_row W _ 0 _ _ _ TW.to
   have t1:=cell_of_row W _ 1 _ _ _ TW.to
   have t2:=cell_of_row W _ 2 _ _ _ TW.to
   have t3:=cell_of_row W _ 3 _ _ _ TW.to
   have t4:=cell_of_row W _ 4 _ _ _ TW.to
   have t5:=cell_of_row W _ 5 _ _ _ TW.to
   have u0:∀ o,W.frozen? ⟨w.heap.size + 1 + 1,o,none⟩=false:=fun o=>by simp [World.frozen?,TW.to]
   have TT:=hid TW
   clear hc hf HB BL TW
   simp only [List.getElem?_toArray,List.getElem?_cons_zero,List.getElem?_cons_succ] at r0 r1 r2 r3 r4 r5 t0 t1 t2 t3 t4 t5
   rw [rounds_succ]
   go_wp2
   refine bodyPost_ret (v:=wide false q0 q1 0 0 0) (gives Tryz.results70 _ _ (w.heap.size + 1 + 1) false q0 q1 0 0 0 rfl (six _ _ _ 73 TT.out.to rfl _ _ _ _ _ _)) rfl ⟨_,_,F.out,rfl,TT.out.end' _ _ _ _ _ _⟩
 ·-- other
  go_enter Tryz.func70,Tryz.ntmps70
  go_wp2_with fail
  refine (K'.out _).mono ?_
  rintro e wl ⟨rfl,hb⟩
  obtain ⟨hc,hf⟩:=bcell hb
  have hz:=hb.size
  have HB:=hid hb
  have BL:=hid (show Below w.heap.size w wl from (((((Below.refl _ _).alloc (Nat.le_refl _) _).alloc (by simp) _).alloc (by simp; omega) _).alloc (by simp; omega) _).trans (hb.mono (by simp; omega)))
  clear hb
  simp only [World.size_alloc] at hz
  go_wp2_with fail
  refine wp_loop_rounds 6 ?_
  rw [rounds_succ]
  go_wp2
  go_quiet (fail)
  go_wp2
  rw [E1.out,E2.out]
  rw [rounds_succ]
  go_wp2
  go_quiet (fail)
  go_wp2
  rw [E3.out,E4.out,show (1:Int) - 1=0 from rfl]
  rw [rounds_succ]
  go_wp2
  go_quiet (fail)
  go_wp2
  rw [rounds_succ]
  go_wp2
  go_quiet (fail)
  go_wp2
  rw [rounds_succ]
  go_wp2
  go_quiet (fail)
  go_wp2
  refine world_gen (fun W'=>Two w W' (w.heap.size + 1 + 1) (w.heap.size + 1 + 1 + 1) true false q0 q1 0 0 0) ?_ ?_
  ·refine ⟨?_,?_,by omega,?_⟩
   ·refine five _ _ _ _ (.int .u64 0) (.int .u64 0) (.int .u64 0) (.int .u64 0) (.int .u64 0) ?_ _ _ _ _ _ _ _ _ _ _
    rw [HB.out.block _ (by simp)]
    exact alloc_at _ _ _ (by simp)
   ·repeat (first | rw [World.heap_drewN] | rw [heap_setCell_other _ _ _ _ (by simp)])
    rw [HB.out.block _ (by simp)]
    rw [heap_alloc_old _ _ (by simp)]
    exact alloc_at _ _ _ (by simp)
   ·repeat (first | with_reducible exact BL.out | with_reducible refine below_drewN ?_ _ | with_reducible refine Below.setCell ?_ (by simp; omega) _)
  ·intro W TW
   have r0:=cell_of_row W _ 0 _ _ _ TW.from'
   have r1:=cell_of_row W _ 1 _ _ _ TW.from'
   have r2:=cell_of_row W _ 2 _ _ _ TW.from'
   have r3:=cell_of_row W _ 3 _ _ _ TW.from'
   have r4:=cell_of_row W _ 4 _ _ _ TW.from'
   have r5:=cell_of_row W _ 5 _ _ _ TW.from'
   have t0:=cell_of_row W _ 0 _ _ _ TW.to
   have t1:=cell_of_row W _ 1 _ _ _ TW.to
   have t2:=cell_of_row W _ 2 _ _ _ TW.to
   have t3:=cell_of_row W _ 3 _ _ _ TW.to
   have t4:=cell_of_row W _ 4 _ _ _ TW.to
   have t5:=cell_of_row W _ 5 _ _ _ TW.to
   have u0:∀ o,W.frozen? ⟨w.heap.size + 1 + 1,o,none⟩=false:=fun o=>by simp [World.frozen?,TW.to]
   have TT:=hid TW
   clear hc hf HB BL TW
   simp only [List.getElem?_toArray,List.getElem?_cons_zero,List.getElem?_cons_succ] at r0 r1 r2 r3 r4 r5 t0 t1 t2 t3 t4 t5
   rw [rounds_succ]
   go_wp2
   refine bodyPost_ret (v:=wide true q0 q1 0 0 0) (gives Tryz.results70 _ _ (w.heap.size + 1 + 1) true q0 q1 0 0 0 rfl (six _ _ _ 73 TT.out.to rfl _ _ _ _ _ _)) rfl ⟨_,_,F.out,rfl,TT.out.end' _ _ _ _ _ _⟩
end Go.Proofs.YteghhmomhlnccaaGreatDoor
namespace Go.Proofs.YteghhmomhlnccaaGreatDoor
structure Four (w W:World) (g:Nat) (s u:Bool) (x0 x1 y0 y1:Int):Prop where
 r1:W.heap[g]?=some (.cells #[.bool s,.int .u64 x0,.int .u64 x1,.int .u64 0,.int .u64 0,.int .u64 0] 73 (0,0))
 r2:W.heap[g + 1]?=some (.cells #[.bool u,.int .u64 y0,.int .u64 y1,.int .u64 0,.int .u64 0,.int .u64 0] 73 (0,0))
 r3:W.heap[g + 1 + 1]?=some (.cells #[.bool false,.int .u64 0,.int .u64 0,.int .u64 0,.int .u64 0,.int .u64 0] 73 (0,0))
 r4:W.heap[g + 1 + 1 + 1]?=some (.cells #[.bool s,.int .u64 0,.int .u64 0,.int .u64 0,.int .u64 0,.int .u64 0] 73 (0,0))
 below:Below w.heap.size w W
theorem Four.all {w W:World} {g:Nat} {s u:Bool} {x0 x1 y0 y1:Int} (h:Four w W g s u x0 x1 y0 y1) :
  W.cell? ⟨g,0,none⟩=some (.bool s)∧W.cell? ⟨g,1,none⟩=some (.int .u64 x0)∧W.cell? ⟨g,2,none⟩=some (.int .u64 x1)∧W.cell? ⟨g,3,none⟩=some (.int .u64 0)∧W.cell? ⟨g,4,none⟩=some (.int .u64 0)∧W.cell? ⟨g,5,none⟩=some (.int .u64 0)∧W.cell? ⟨g + 1,0,none⟩=some (.bool u)∧W.cell? ⟨g + 1,1,none⟩=some (.int .u64 y0)∧W.cell? ⟨g + 1,2,none⟩=some (.int .u64 y1)∧W.cell? ⟨g + 1,3,none⟩=some (.int .u64 0)∧W.cell? ⟨g + 1,4,none⟩=some (.int .u64 0)∧W.cell? ⟨g + 1,5,none⟩=some (.int .u64 0)∧W.cell? ⟨g + 1 + 1 + 1,0,none⟩=some (.bool s)∧W.cell? ⟨g + 1 + 1 + 1,1,none⟩=some (.int .u64 0)∧W.cell? ⟨g + 1 + 1 + 1,2,none⟩=some (.int .u64 0)∧W.cell? ⟨g + 1 + 1 + 1,3,none⟩=some (.int .u64 0)∧W.cell? ⟨g + 1 + 1 + 1,4,none⟩=some (.int .u64 0)∧W.cell? ⟨g + 1 + 1 + 1,5,none⟩=some (.int .u64 0)∧(∀ o,W.frozen? ⟨g,o,none⟩=false)∧(∀ o,W.frozen? ⟨g + 1,o,none⟩=false)∧(∀ o,W.frozen? ⟨g + 1 + 1 + 1,o,none⟩=false):=
 ⟨cell_of_row W _ 0 _ _ _ h.r1,cell_of_row W _ 1 _ _ _ h.r1,cell_of_row W _ 2 _ _ _ h.r1,cell_of_row W _ 3 _ _ _ h.r1,cell_of_row W _ 4 _ _ _ h.r1,cell_of_row W _ 5 _ _ _ h.r1,cell_of_row W _ 0 _ _ _ h.r2,cell_of_row W _ 1 _ _ _ h.r2,cell_of_row W _ 2 _ _ _ h.r2,cell_of_row W _ 3 _ _ _ h.r2,cell_of_row W _ 4 _ _ _ h.r2,cell_of_row W _ 5 _ _ _ h.r2,cell_of_row W _ 0 _ _ _ h.r4,cell_of_row W _ 1 _ _ _ h.r4,cell_of_row W _ 2 _ _ _ h.r4,cell_of_row W _ 3 _ _ _ h.r4,cell_of_row W _ 4 _ _ _ h.r4,cell_of_row W _ 5 _ _ _ h.r4,fun o=>by simp [World.frozen?,h.r1],fun o=>by simp [World.frozen?,h.r2],fun o=>by simp [World.frozen?,h.r4]⟩
theorem Four.swap {w W:World} {g:Nat} {s u:Bool} {x0 x1 y0 y1:Int} (h:Four w W g s u x0 x1 y0 y1) (hg:w.heap.size≤g) :
  Four w (((((((((((((W.setCell ⟨g,0,none⟩ (.bool u)).setCell ⟨g,1,none⟩ (.int .u64 y0)).setCell ⟨g,2,none⟩ (.int .u64 y1)).setCell ⟨g,3,none⟩ (.int .u64 0)).setCell ⟨g,4,none⟩ (.int .u64 0)).setCell ⟨g,5,none⟩ (.int .u64 0)).setCell ⟨g + 1,0,none⟩ (.bool s)).setCell ⟨g + 1,1,none⟩ (.int .u64 x0)).setCell ⟨g + 1,2,none⟩ (.int .u64 x1)).setCell ⟨g + 1,3,none⟩ (.int .u64 0)).setCell ⟨g + 1,4,none⟩ (.int .u64 0)).setCell ⟨g + 1,5,none⟩ (.int .u64 0)).setCell ⟨g + 1 + 1 + 1,0,none⟩ (.bool u)) g u s y0 y1 x0 x1:=by
 refine ⟨?_,?_,?_,?_,?_⟩
 ·rw [heap_setCell_other _ _ _ _ (by simp; omega)]
  iterate 6 rw [heap_setCell_other _ _ _ _ (by simp)]
  exact six _ _ _ 73 h.r1 rfl _ _ _ _ _ _
 ·rw [heap_setCell_other _ _ _ _ (by simp)]
  refine six _ _ #[.bool u,.int .u64 y0,.int .u64 y1,.int .u64 0,.int .u64 0,.int .u64 0] 73 ?_ rfl _ _ _ _ _ _
  iterate 6 rw [heap_setCell_other _ _ _ _ (by simp)]
  exact h.r2
 ·iterate 13 rw [heap_setCell_other _ _ _ _ (by simp; try omega)]
  exact h.r3
 ·refine (heap_setCell_same _ _ _ #[.bool s,.int .u64 0,.int .u64 0,.int .u64 0,.int .u64 0,.int .u64 0] 73 _ ?_)
  iterate 12 rw [heap_setCell_other _ _ _ _ (by simp; try omega)]
  exact h.r4
 ·have h0:=h.below
  iterate 13 refine Below.setCell ?_ (by first | exact hg | exact Nat.le_succ_of_le hg | exact Nat.le_trans hg (by simp only []; omega)) _
  exact h0
theorem wadd_lt (s:Bool) (x0 x1 y0 y1:Int) (w:World) (hx0:Part x0) (hx1:Part x1) (hy0:Part y0) (hy1:Part y1) (hge:x0 + 4294967296 * x1 < y0 + 4294967296 * y1) :
  Calls Tryz.prog 70 #[wide s x0 x1 0 0 0,wide (!s) y0 y1 0 0 0] w fun e w'=>∃ q0 q1:Int,(Part q0∧Part q1∧size q0 q1 0 0 0=(y0 + 4294967296 * y1) - (x0 + 4294967296 * x1))∧e=.returned (wide (!s) q0 q1 0 0 0)∧Below w.heap.size w w':=by
 have K:=fun w=>less_any x0 x1 y0 y1 w hx0 hx1 hy0 hy1
 rw [decide_eq_true (by omega)] at K
 have K':=hid K
 clear K
 obtain ⟨a0,b0⟩:=hx0
 obtain ⟨a1,b1⟩:=hx1
 obtain ⟨c0,d0⟩:=hy0
 obtain ⟨c1,d1⟩:=hy1
 obtain ⟨q0,k0,e1,e2,f1,f2,f3,f4⟩:=carry (4294967296 + y0 - x0) 8589934591 (by omega) (by omega)
 have g1:k0≤1:=by omega
 obtain ⟨q1,k1,e3,e4,f5,f6,f7,f8⟩:=carry (4294967296 + y1 - x1 - (1 - k0)) 8589934591 (by omega) (by omega)
 obtain ⟨u0,u1⟩:=f1
 obtain ⟨u2,u3⟩:=f5
 obtain rfl:k1=1:=by omega
 have F:Hid ((Part q0∧Part q1∧size q0 q1 0 0 0=(y0 + 4294967296 * y1) - (x0 + 4294967296 * x1))):=
  hid ⟨⟨u0,u1⟩,⟨u2,u3⟩,by unfold size; omega⟩
 have E1:=hid e1
 have E2:=hid e2
 have E3:=hid e3
 have E4:=hid e4
 clear e1 e2 e3 e4 f3 f4 f6 f7 f8 hge
 cases s
 ·-- one
  go_enter Tryz.func70,Tryz.ntmps70
  go_wp2_with fail
  refine (K'.out _).mono ?_
  rintro e wl ⟨rfl,hb⟩
  refine world_gen (fun W'=>Four w W' w.heap.size false true x0 x1 y0 y1) ?_ ?_
  ·refine ⟨?_,?_,?_,?_,?_⟩
   ·rw [hb.block _ (by simp only [World.size_alloc]; omega),heap_alloc_old _ _ (by simp only [World.size_alloc]; omega),heap_alloc_old _ _ (by simp only [World.size_alloc]; omega),heap_alloc_old _ _ (by simp only [World.size_alloc]; omega)]
    exact heap_alloc_new _ _
   ·rw [hb.block _ (by simp only [World.size_alloc]; omega),heap_alloc_old _ _ (by simp only [World.size_alloc]; omega),heap_alloc_old _ _ (by simp only [World.size_alloc]; omega)]
    exact alloc_at _ _ _ (by simp)
   ·rw [hb.block _ (by simp),heap_alloc_old _ _ (by simp)]
    exact alloc_at _ _ _ (by simp)
   ·rw [hb.block _ (by simp)]
    exact alloc_at _ _ _ (by simp)
   ·exact (((((Below.refl _ _).alloc (Nat.le_refl _) _).alloc (by simp) _).alloc (by simp; omega) _).alloc (by simp; omega) _).trans (hb.mono (by simp; omega))
  clear hb wl
  intro wl FG
  obtain ⟨c0',c1',c2',c3',c4',c5',d0',d1',d2',d3',d4',d5',e0',e1',e2',e3',e4',e5',ga',gb',go'⟩:=FG.all
  have GG:=hid FG
  clear FG
  go_wp2_with fail
  refine world_gen (fun W'=>Four w W' w.heap.size true false y0 y1 x0 x1) ?_ ?_
  ·exact GG.out.swap (Nat.le_refl _)
  intro W0 FW
  obtain ⟨a0',a1',a2',a3',a4',a5',b0',b1',b2',b3',b4',b5',o0',o1',o2',o3',o4',o5',fa',fb',fo'⟩:=FW.all
  have FF:=hid FW
  clear FW GG c0' c1' c2' c3' c4' c5' d0' d1' d2' d3' d4' d5' e0' e1' e2' e3' e4' e5' ga' gb' go'
  refine wp_loop_rounds 6 ?_
  rw [rounds_succ]
  go_wp2
  go_quiet (fail)
  go_wp2
  rw [E1.out,E2.out]
  rw [rounds_succ]
  go_wp2
  go_quiet (fail)
  go_wp2
  rw [E3.out,E4.out,show (1:Int) - 1=0 from rfl]
  rw [rounds_succ]
  go_wp2
  go_quiet (fail)
  go_wp2
  rw [rounds_succ]
  go_wp2
  go_quiet (fail)
  go_wp2
  rw [rounds_succ]
  go_wp2
  go_quiet (fail)
  go_wp2
  refine world_gen (fun W'=>Two w W' (w.heap.size + 1 + 1) (w.heap.size + 1 + 1 + 1) true false q0 q1 0 0 0) ?_ ?_
  ·refine ⟨?_,?_,by omega,?_⟩
   ·refine five _ _ _ _ (.int .u64 0) (.int .u64 0) (.int .u64 0) (.int .u64 0) (.int .u64 0) ?_ _ _ _ _ _ _ _ _ _ _
    exact FF.out.r4
   ·repeat (first | rw [World.heap_drewN] | rw [heap_setCell_other _ _ _ _ (by simp)])
    exact FF.out.r3
   ·repeat (first | with_reducible exact FF.out.below | with_reducible refine below_drewN ?_ _ | with_reducible refine Below.setCell ?_ (by simp; omega) _)
  ·intro W TW
   have r0:=cell_of_row W _ 0 _ _ _ TW.from'
   have r1:=cell_of_row W _ 1 _ _ _ TW.from'
   have r2:=cell_of_row W _ 2 _ _ _ TW.from'
   have r3:=cell_of_row W _ 3 _ _ _ TW.from'
   have r4:=cell_of_row W _ 4 _ _ _ TW.from'
   have r5:=cell_of_row W _ 5 _ _ _ TW.from'
   have t0:=cell_of_row W _ 0 _ _ _ TW.to
   have t1:=cell_of_row W _ 1 _ _ _ TW.to
   have t2:=cell_of_row W _ 2 _ _ _ TW.to
   have t3:=cell_of_row W _ 3 _ _ _ TW.to
   have t4:=cell_of_row W _ 4 _ _ _ TW.to
   have t5:=cell_of_row W _ 5 _ _ _ TW.to
   have u0:∀ o,W.frozen? ⟨w.heap.size + 1 + 1,o,none⟩=false:=fun o=>by simp [World.frozen?,TW.to]
   have TT:=hid TW
   clear TW FF a0' a1' a2' a3' a4' a5' b0' b1' b2' b3' b4' b5' o0' o1' o2' o3' o4' o5' fa' fb' fo'
   simp only [List.getElem?_toArray,List.getElem?_cons_zero,List.getElem?_cons_succ] at r0 r1 r2 r3 r4 r5 t0 t1 t2 t3 t4 t5
   rw [rounds_succ]
   go_wp2
   refine bodyPost_ret (v:=wide true q0 q1 0 0 0) (gives Tryz.results70 _ _ (w.heap.size + 1 + 1) true q0 q1 0 0 0 rfl (six _ _ _ 73 TT.out.to rfl _ _ _ _ _ _)) rfl ⟨_,_,F.out,rfl,TT.out.end' _ _ _ _ _ _⟩
 ·-- other
  go_enter Tryz.func70,Tryz.ntmps70
  go_wp2_with fail
  refine (K'.out _).mono ?_
  rintro e wl ⟨rfl,hb⟩
  refine world_gen (fun W'=>Four w W' w.heap.size true false x0 x1 y0 y1) ?_ ?_
  ·refine ⟨?_,?_,?_,?_,?_⟩
   ·rw [hb.block _ (by simp only [World.size_alloc]; omega),heap_alloc_old _ _ (by simp only [World.size_alloc]; omega),heap_alloc_old _ _ (by simp only [World.size_alloc]; omega),heap_alloc_old _ _ (by simp only [World.size_alloc]; omega)]
    exact heap_alloc_new _ _
   ·rw [hb.block _ (by simp only [World.size_alloc]; omega),heap_alloc_old _ _ (by simp only [World.size_alloc]; omega),heap_alloc_old _ _ (by simp only [World.size_alloc]; omega)]
    exact alloc_at _ _ _ (by simp)
   ·rw [hb.block _ (by simp),heap_alloc_old _ _ (by simp)]
    exact alloc_at _ _ _ (by simp)
   ·rw [hb.block _ (by simp)]
    exact alloc_at _ _ _ (by simp)
   ·exact (((((Below.refl _ _).alloc (Nat.le_refl _) _).alloc (by simp) _).alloc (by simp; omega) _).alloc (by simp; omega) _).trans (hb.mono (by simp; omega))
  clear hb wl
  intro wl FG
  obtain ⟨c0',c1',c2',c3',c4',c5',d0',d1',d2',d3',d4',d5',e0',e1',e2',e3',e4',e5',ga',gb',go'⟩:=FG.all
  have GG:=hid FG
  clear FG
  go_wp2_with fail
  refine world_gen (fun W'=>Four w W' w.heap.size false true y0 y1 x0 x1) ?_ ?_
  ·exact GG.out.swap (Nat.le_refl _)
  intro W0 FW
  obtain ⟨a0',a1',a2',a3',a4',a5',b0',b1',b2',b3',b4',b5',o0',o1',o2',o3',o4',o5',fa',fb',fo'⟩:=FW.all
  have FF:=hid FW
  clear FW GG c0' c1' c2' c3' c4' c5' d0' d1' d2' d3' d4' d5' e0' e1' e2' e3' e4' e5' ga' gb' go'
  refine wp_loop_rounds 6 ?_
  rw [rounds_succ]
  go_wp2
  go_quiet (fail)
  go_wp2
  rw [E1.out,E2.out]
  rw [rounds_succ]
  go_wp2
  go_quiet (fail)
  go_wp2
  rw [E3.out,E4.out,show (1:Int) - 1=0 from rfl]
  rw [rounds_succ]
  go_wp2
  go_quiet (fail)
  go_wp2
  rw [rounds_succ]
  go_wp2
  go_quiet (fail)
  go_wp2
  rw [rounds_succ]
  go_wp2
  go_quiet (fail)
  go_wp2
  refine world_gen (fun W'=>Two w W' (w.heap.size + 1 + 1) (w.heap.size + 1 + 1 + 1) false false q0 q1 0 0 0) ?_ ?_
  ·refine ⟨?_,?_,by omega,?_⟩
   ·refine five _ _ _ _ (.int .u64 0) (.int .u64 0) (.int .u64 0) (.int .u64 0) (.int .u64 0) ?_ _ _ _ _ _ _ _ _ _ _
    exact FF.out.r4
   ·repeat (first | rw [World.heap_drewN] | rw [heap_setCell_other _ _ _ _ (by simp)])
    exact FF.out.r3
   ·repeat (first | with_reducible exact FF.out.below | with_reducible refine below_drewN ?_ _ | with_reducible refine Below.setCell ?_ (by simp; omega) _)
  ·intro W TW
   have r0:=cell_of_row W _ 0 _ _ _ TW.from'
   have r1:=cell_of_row W _ 1 _ _ _ TW.from'
   have r2:=cell_of_row W _ 2 _ _ _ TW.from'
   have r3:=cell_of_row W _ 3 _ _ _ TW.from'
   have r4:=cell_of_row W _ 4 _ _ _ TW.from'
   have r5:=cell_of_row W _ 5 _ _ _ TW.from'
   have t0:=cell_of_row W _ 0 _ _ _ TW.to
   have t1:=cell_of_row W _ 1 _ _ _ TW.to
   have t2:=cell_of_row W _ 2 _ _ _ TW.to
   have t3:=cell_of_row W _ 3 _ _ _ TW.to
   have t4:=cell_of_row W _ 4 _ _ _ TW.to
   have t5:=cell_of_row W _ 5 _ _ _ TW.to
   have u0:∀ o,W.frozen? ⟨w.heap.size + 1 + 1,o,none⟩=false:=fun o=>by simp [World.frozen?,TW.to]
   have TT:=hid TW
   clear TW FF a0' a1' a2' a3' a4' a5' b0' b1' b2' b3' b4' b5' o0' o1' o2' o3' o4' o5' fa' fb' fo'
   simp only [List.getElem?_toArray,List.getElem?_cons_zero,List.getElem?_cons_succ] at r0 r1 r2 r3 r4 r5 t0 t1 t2 t3 t4 t5
   rw [rounds_succ]
   go_wp2
   refine bodyPost_ret (v:=wide false q0 q1 0 0 0) (gives Tryz.results70 _ _ (w.heap.size + 1 + 1) false q0 q1 0 0 0 rfl (six _ _ _ 73 TT.out.to rfl _ _ _ _ _ _)) rfl ⟨_,_,F.out,rfl,TT.out.end' _ _ _ _ _ _⟩
end Go.Proofs.YteghhmomhlnccaaGreatDoor
