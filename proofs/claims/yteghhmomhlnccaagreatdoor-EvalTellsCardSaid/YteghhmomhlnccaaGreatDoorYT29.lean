import Derived.Test.YteghhmomhlnccaaGreatDoorYT28
set_option linter.unusedVariables false
set_option linter.unusedSimpArgs false
set_option maxRecDepth 100000
set_option maxHeartbeats 100000000
open Go.RowKit Go.Lib
namespace Go.Proofs.YteghhmomhlnccaaGreatDoor
theorem run_two (P:Program) (w:World) (a b:Addr) (ty:TypeId) (u v:Value) (h1:(loadVar ty a).run P w=.ok u w) (h2:(loadVar ty b).run P w=.ok v w) (fn:Func) (p q:Tmp) (h:fn.results=#[.cell p ty,.cell q ty]) (tmps:Array Value)
  (hp:tmps.getD p undef=.pointer (some a)) (hq:tmps.getD q undef=.pointer (some b)):(results fn tmps).run P w=.ok (.tuple #[u,v]) w:=by
 have hp':tmps[p]?.getD undef=.pointer (some a):=by simpa using hp
 have hq':tmps[q]?.getD undef=.pointer (some b):=by simpa using hq
 simp [results,h,hp',hq',asAddr,h1,h2]
structure Duo (w W:World) (p q r1 r2:Nat) (s t:Bool) (x0 x1 y0 y1:Int):Prop where
 f1:W.heap[r1]?=some (.cells #[.bool s,.int .u64 x0,.int .u64 x1,.int .u64 0,.int .u64 0,.int .u64 0] 73 (0,0))
 f2:W.heap[r2]?=some (.cells #[.bool t,.int .u64 y0,.int .u64 y1,.int .u64 0,.int .u64 0,.int .u64 0] 73 (0,0))
 t1:W.heap[p]?=some (.cells #[.bool false,.int .u64 0,.int .u64 0,.int .u64 0,.int .u64 0,.int .u64 0] 73 (0,0))
 t2:W.heap[q]?=some (.cells #[.bool false,.int .u64 0,.int .u64 0,.int .u64 0,.int .u64 0,.int .u64 0] 73 (0,0))
 le1:w.heap.size≤p
 le2:w.heap.size≤q
 below:Below w.heap.size w W
theorem heap_drawn (w:World):w.drew.heap=w.heap:=rfl
theorem Duo.stored {w W:World} {p q r1 r2:Nat} {s t:Bool} {x0 x1 y0 y1:Int} (h:Duo w W p q r1 r2 s t x0 x1 y0 y1) (hpq:¬ p=q) (v0 v1 v2 v3 v4 v5 u0 u1 u2 u3 u4 u5:Value) :
  ((((((((((((W.setCell ⟨p,0,none⟩ v0).setCell ⟨p,1,none⟩ v1).setCell ⟨p,2,none⟩ v2).setCell ⟨p,3,none⟩ v3).setCell ⟨p,4,none⟩ v4).setCell ⟨p,5,none⟩ v5).setCell ⟨q,0,none⟩ u0).setCell ⟨q,1,none⟩ u1).setCell ⟨q,2,none⟩ u2).setCell ⟨q,3,none⟩ u3).setCell ⟨q,4,none⟩ u4).setCell ⟨q,5,none⟩ u5).drew.heap[p]?=some (.cells #[v0,v1,v2,v3,v4,v5] 73 (0,0))∧((((((((((((W.setCell ⟨p,0,none⟩ v0).setCell ⟨p,1,none⟩ v1).setCell ⟨p,2,none⟩ v2).setCell ⟨p,3,none⟩ v3).setCell ⟨p,4,none⟩ v4).setCell ⟨p,5,none⟩ v5).setCell ⟨q,0,none⟩ u0).setCell ⟨q,1,none⟩ u1).setCell ⟨q,2,none⟩ u2).setCell ⟨q,3,none⟩ u3).setCell ⟨q,4,none⟩ u4).setCell ⟨q,5,none⟩ u5).drew.heap[q]?=some (.cells #[u0,u1,u2,u3,u4,u5] 73 (0,0))∧Below w.heap.size w ((((((((((((W.setCell ⟨p,0,none⟩ v0).setCell ⟨p,1,none⟩ v1).setCell ⟨p,2,none⟩ v2).setCell ⟨p,3,none⟩ v3).setCell ⟨p,4,none⟩ v4).setCell ⟨p,5,none⟩ v5).setCell ⟨q,0,none⟩ u0).setCell ⟨q,1,none⟩ u1).setCell ⟨q,2,none⟩ u2).setCell ⟨q,3,none⟩ u3).setCell ⟨q,4,none⟩ u4).setCell ⟨q,5,none⟩ u5).drew:=by
 refine ⟨?_,?_,?_⟩
 ·rw [heap_drawn]
  iterate 6 rw [heap_setCell_other _ _ _ _ (show p ≠ q from hpq)]
  exact six _ _ _ 73 h.t1 rfl _ _ _ _ _ _
 ·rw [heap_drawn]
  refine six _ _ #[.bool false,.int .u64 0,.int .u64 0,.int .u64 0,.int .u64 0,.int .u64 0] 73 ?_ rfl _ _ _ _ _ _
  iterate 6 rw [heap_setCell_other _ _ _ _ (show q ≠ p from fun e=>hpq e.symm)]
  exact h.t2
 ·refine Below.drew ?_
  have h0:=h.below
  iterate 6 refine Below.setCell ?_ h.le2 _
  iterate 6 refine Below.setCell ?_ h.le1 _
  exact h0
theorem load_row (w:World) (g:Nat) (s:Bool) (q0 q1 q2 q3 q4:Int) (hg:w.heap[g]?=some (.cells #[.bool s,.int .u64 q0,.int .u64 q1,.int .u64 q2,.int .u64 q3,.int .u64 q4] 73 (0,0))) :
  (loadVar 73 ⟨g,0,none⟩).run Tryz.prog w=.ok (wide s q0 q1 q2 q3 q4) w:=
 run_loadVar_row w g 73 73 _ (0,0) _ hg Tryz.underlying73 rfl (by kernel_rfl)
theorem divide_walk (a b:Int) (w:World) (ha:Fits a) (hb:Fits b) (h0:b ≠ 0) :
  Calls Tryz.prog 72 #[.int .i64 a,.int .i64 b] w fun e w'=>∃ u v,e=.returned (.tuple #[u,v])∧(Says2 u (a.tdiv b)∧Says2 v (a.tmod b))∧Below w.heap.size w w':=by
 have HA:=hid ha
 have HB:=hid hb
 have H0:=hid h0
 clear ha hb h0
 go_enter Tryz.func72,Tryz.ntmps72
 go_wp2_with fail
 refine (of_says a _ HA.out).mono ?_
 rintro e w1 ⟨v1,rfl,⟨s,x0,x1,rfl,hx0,hx1,hea⟩,hb1⟩
 have B1:=hid hb1
 have EA:=hid hea
 clear hb1 hea
 go_wp2_with fail
 refine (of_says b _ HB.out).mono ?_
 rintro e w2 ⟨v2,rfl,⟨t,y0,y1,rfl,hy0,hy1,heb⟩,hb2⟩
 have B2:=hid hb2
 have EB:=hid heb
 have hv:1≤y1 * 4294967296 + y0:=by
  obtain ⟨c0,d0⟩:=hy0
  obtain ⟨c1,d1⟩:=hy1
  have:=H0.out
  by_cases hz:y1 * 4294967296 + y0=0
  ·exfalso; apply this; rw [heb,show y0 + 4294967296 * y1=0 by omega]; cases t <;> rfl
  ·omega
 clear hb2 heb
 obtain ⟨a0,b0⟩:=hx0
 obtain ⟨a1,b1⟩:=hx1
 obtain ⟨c0,d0⟩:=hy0
 obtain ⟨c1,d1⟩:=hy1
 go_wp2
 go_quiet (fail)
 go_wp2
 go_quiet (fail)
 have q1:0≤(x1 * 4294967296 + x0) / (y1 * 4294967296 + y0):=Int.ediv_nonneg (by omega) (by omega)
 have q2:(x1 * 4294967296 + x0) / (y1 * 4294967296 + y0)≤x1 * 4294967296 + x0:=Int.ediv_le_self _ (by omega)
 have q3:0≤(x1 * 4294967296 + x0) % (y1 * 4294967296 + y0):=Int.emod_nonneg _ (by omega)
 have q4:(x1 * 4294967296 + x0) % (y1 * 4294967296 + y0) < y1 * 4294967296 + y0:=Int.emod_lt_of_pos _ (by omega)
 have QF:Hid (Says2 (wide (!s == t) ((x1 * 4294967296 + x0) / (y1 * 4294967296 + y0) % 4294967296) ((x1 * 4294967296 + x0) / (y1 * 4294967296 + y0) / 4294967296) 0 0 0) (a.tdiv b) ∧
   Says2 (wide s ((x1 * 4294967296 + x0) % (y1 * 4294967296 + y0) % 4294967296) ((x1 * 4294967296 + x0) % (y1 * 4294967296 + y0) / 4294967296) 0 0 0) (a.tmod b)):=hid (by
  have ea:=EA.out
  have eb:=EB.out
  have h1:(x0 + 4294967296 * x1)=x1 * 4294967296 + x0:=by omega
  have h2:(y0 + 4294967296 * y1)=y1 * 4294967296 + y0:=by omega
  rw [h1] at ea
  rw [h2] at eb
  generalize x1 * 4294967296 + x0=m at *
  generalize y1 * 4294967296 + y0=n at *
  have hm:0≤m:=by omega
  refine ⟨⟨_,_,_,rfl,⟨by omega,by omega⟩,⟨by omega,by omega⟩,?_⟩,⟨_,_,_,rfl,⟨by omega,by omega⟩,⟨by omega,by omega⟩,?_⟩⟩
  ·have h3:m / n % 4294967296 + 4294967296 * (m / n / 4294967296)=m / n:=by omega
   rw [h3,ea,eb,← Int.tdiv_eq_ediv_of_nonneg hm]
   cases s <;> cases t <;> simp [signed,Int.neg_tdiv,Int.tdiv_neg]
  ·have h3:m % n % 4294967296 + 4294967296 * (m % n / 4294967296)=m % n:=by omega
   rw [h3,ea,eb,← Int.tmod_eq_emod_of_nonneg hm]
   cases s <;> cases t <;> simp [signed,Int.neg_tmod,Int.tmod_neg])
 have l1:w.heap.size + 1 + 1≤w2.heap.size:=by
  have h1:=B1.out.size
  have h2:=B2.out.size
  simp only [World.size_alloc] at h1 h2
  omega
 have l2:w.heap.size + 1 + 1≤w1.heap.size:=by
  have h1:=B1.out.size
  simp only [World.size_alloc] at h1
  omega
 have RA:Hid (w2.heap[w.heap.size]?=some (.cells #[.bool false,.int .u64 0,.int .u64 0,.int .u64 0,.int .u64 0,.int .u64 0] 73 (0,0))):=hid (by
  rw [B2.out.block _ (by omega),B1.out.block _ (by simp only [World.size_alloc]; omega),heap_alloc_old _ _ (by simp only [World.size_alloc]; omega)]
  exact heap_alloc_new _ _)
 have RB:Hid (w2.heap[w.heap.size + 1]?=some (.cells #[.bool false,.int .u64 0,.int .u64 0,.int .u64 0,.int .u64 0,.int .u64 0] 73 (0,0))):=hid (by
  rw [B2.out.block _ (by omega),B1.out.block _ (by simp only [World.size_alloc]; omega)]
  exact alloc_at _ _ _ (by simp))
 have RC:Hid (Below w.heap.size w w2):=hid (((((Below.refl _ _).alloc (Nat.le_refl _) _).alloc (by simp) _).trans (B1.out.mono (by simp only [World.size_alloc]; omega))).trans (B2.out.mono (by omega)))
 go_wp2
 generalize (x1 * 4294967296 + x0) / (y1 * 4294967296 + y0)=m at *
 generalize (x1 * 4294967296 + x0) % (y1 * 4294967296 + y0)=n at *
 refine world_gen (fun W'=>Duo w W' w.heap.size (w.heap.size + 1) (w2.heap.size + 1 + 1) (w2.heap.size + 1 + 1 + 1) (!s == t) s (m % 4294967296) (m / 4294967296) (n % 4294967296) (n / 4294967296)) ?_ ?_
 ·refine ⟨?_,?_,?_,?_,Nat.le_refl _,by omega,?_⟩
  ·rw [heap_alloc_old _ _ (by simp)]
   exact alloc_at _ _ _ (by simp)
  ·exact alloc_at _ _ _ (by simp)
  ·iterate 2 rw [heap_alloc_old _ _ (by first | omega | (simp only [World.size_alloc,World.heap_drewN]; omega))]
   rw [World.heap_drewN]
   iterate 2 rw [heap_alloc_old _ _ (by first | omega | (simp only [World.size_alloc]; omega))]
   exact RA.out
  ·iterate 2 rw [heap_alloc_old _ _ (by first | omega | (simp only [World.size_alloc,World.heap_drewN]; omega))]
   rw [World.heap_drewN]
   iterate 2 rw [heap_alloc_old _ _ (by first | omega | (simp only [World.size_alloc]; omega))]
   exact RB.out
  ·exact ((below_drewN ((RC.out.alloc (by omega) _).alloc (by simp only [World.size_alloc]; omega) _) _).alloc (by simp only [World.size_alloc,World.heap_drewN]; omega) _).alloc (by simp only [World.size_alloc,World.heap_drewN]; omega) _
 intro W DW
 have n1:¬ w.heap.size=w2.heap.size + 1 + 1:=by omega
 have n2:¬ w.heap.size=w2.heap.size + 1 + 1 + 1:=by omega
 have n3:¬ w.heap.size + 1=w2.heap.size + 1 + 1:=by omega
 have n4:¬ w.heap.size + 1=w2.heap.size + 1 + 1 + 1:=by omega
 have n5:¬ w.heap.size=w.heap.size + 1:=by omega
 have n6:w.heap.size≤w.heap.size + 1:=by omega
 have le0:=Nat.le_refl w.heap.size
 generalize w2.heap.size + 1 + 1 + 1=r2 at *
 generalize w2.heap.size + 1 + 1=r1 at *
 generalize hq:w.heap.size + 1=q at *
 generalize hp:w.heap.size=p at *
 have HQ:=hid hq
 have HP:=hid hp
 clear hp hq
 have a0':=cell_of_row W _ 0 _ _ _ DW.f1
 have a1':=cell_of_row W _ 1 _ _ _ DW.f1
 have a2':=cell_of_row W _ 2 _ _ _ DW.f1
 have a3':=cell_of_row W _ 3 _ _ _ DW.f1
 have a4':=cell_of_row W _ 4 _ _ _ DW.f1
 have a5':=cell_of_row W _ 5 _ _ _ DW.f1
 have b0':=cell_of_row W _ 0 _ _ _ DW.f2
 have b1':=cell_of_row W _ 1 _ _ _ DW.f2
 have b2':=cell_of_row W _ 2 _ _ _ DW.f2
 have b3':=cell_of_row W _ 3 _ _ _ DW.f2
 have b4':=cell_of_row W _ 4 _ _ _ DW.f2
 have b5':=cell_of_row W _ 5 _ _ _ DW.f2
 have c0':=cell_of_row W _ 0 _ _ _ DW.t1
 have c1':=cell_of_row W _ 1 _ _ _ DW.t1
 have c2':=cell_of_row W _ 2 _ _ _ DW.t1
 have c3':=cell_of_row W _ 3 _ _ _ DW.t1
 have c4':=cell_of_row W _ 4 _ _ _ DW.t1
 have c5':=cell_of_row W _ 5 _ _ _ DW.t1
 have d0':=cell_of_row W _ 0 _ _ _ DW.t2
 have d1':=cell_of_row W _ 1 _ _ _ DW.t2
 have d2':=cell_of_row W _ 2 _ _ _ DW.t2
 have d3':=cell_of_row W _ 3 _ _ _ DW.t2
 have d4':=cell_of_row W _ 4 _ _ _ DW.t2
 have d5':=cell_of_row W _ 5 _ _ _ DW.t2
 have e1:∀ o,W.frozen? ⟨p,o,none⟩=false:=fun o=>by simp [World.frozen?,DW.t1]
 have e2:∀ o,W.frozen? ⟨q,o,none⟩=false:=fun o=>by simp [World.frozen?,DW.t2]
 have DD:=hid DW
 clear DW
 simp only [List.getElem?_toArray,List.getElem?_cons_zero,List.getElem?_cons_succ] at a0' a1' a2' a3' a4' a5' b0' b1' b2' b3' b4' b5' c0' c1' c2' c3' c4' c5' d0' d1' d2' d3' d4' d5'
 go_region
 all_goals (
  obtain ⟨g1,g2,g3⟩:=DD.out.stored n5 (.bool (!s == t)) (.int .u64 (m % 4294967296)) (.int .u64 (m / 4294967296)) (.int .u64 0) (.int .u64 0) (.int .u64 0) (.bool s) (.int .u64 (n % 4294967296)) (.int .u64 (n / 4294967296)) (.int .u64 0) (.int .u64 0) (.int .u64 0)
  have G1:=hid g1
  have G2:=hid g2
  have G3:=hid g3
  clear g1 g2 g3
  go_wp2
  exact bodyPost_ret (v:=.tuple #[wide (!s == t) (m % 4294967296) (m / 4294967296) 0 0 0,wide s (n % 4294967296) (n / 4294967296) 0 0 0]) (run_two Tryz.prog _ ⟨p,0,none⟩ ⟨q,0,none⟩ 73 _ _ (load_row _ p _ _ _ _ _ _ G1.out) (load_row _ q _ _ _ _ _ _ G2.out) _ 4 5 Tryz.results72 _ rfl rfl) rfl ⟨_,_,rfl,QF.out,G3.out⟩)
end Go.Proofs.YteghhmomhlnccaaGreatDoor
