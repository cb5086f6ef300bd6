import Derived.Test.YteghhmomhlnccaaGreatDoorYT4
import Derived.Test.YteghhmomhlnccaaGreatDoorYT8
import Derived.Test.YteghhmomhlnccaaGreatDoorYT3
import Derived.Test.YteghhmomhlnccaaGreatDoorYT9
import Derived.Test.YteghhmomhlnccaaGreatDoorYT5
import Derived.Maps.OwnIn
import Derived.Maps.OwnSet
set_option linter.unusedVariables false
set_option linter.unusedSimpArgs false
set_option maxRecDepth 100000
set_option maxHeartbeats 100000000
open Go.RowKit Go.Lib
namespace Go.Proofs.YteghhmomhlnccaaGreatDoor
attribute [local go_sem ↓] eqVal neqVal
theorem rightVal_any (k n:Int) (s:ByteArray) (w:World) (hs:s.size≤9223372036854775807) :
  Calls Tryz.prog 85 #[val k n s] w fun e w'=>e=.returned (.bool (valB k n s))∧Below w.heap.size w w':=by
 have H0:Hid (w.heap.size < (w.alloc (.cells #[.int .i64 k,.int .i64 n,.string s] 23)).heap.size∧Whole (w.alloc (.cells #[.int .i64 k,.int .i64 n,.string s] 23)) w.heap.size 23 #[.int .i64 k,.int .i64 n,.string s]):=hid ⟨by simp,Whole.new _ _ _⟩
 have B0:Hid (Below w.heap.size w (w.alloc (.cells #[.int .i64 k,.int .i64 n,.string s] 23))):=hid ((Below.refl _ _).alloc (Nat.le_refl _) _)
 have PP:=hid (plain_any k n s (w.alloc (.cells #[.int .i64 k,.int .i64 n,.string s] 23)) hs)
 go_enter Tryz.func85,Tryz.ntmps85
 go_wp2_with fail
 refine (PP.out).mono ?_
 rintro e w1 ⟨rfl,hb1⟩
 have B1:=hid (bstep B0.out hb1)
 have W1:=H0.out.2.below hb1 H0.out.1
 have c0:=W1.cell 0
 have c1:=W1.cell 1
 simp only [List.getElem?_toArray,List.getElem?_cons_zero,List.getElem?_cons_succ] at c0 c1
 clear hb1 W1 PP
 cases hp:plainB k n s
 ·have E:Hid (valB k n s=false):=hid (by simp [valB,hp])
  go_wp2_with fail
  go_ret
  exact ⟨retB2 E.out.symm,B1.out⟩
 ·by_cases h1:k=1
  ·subst h1
   have E:Hid (valB 1 n s=decide (0≤n)):=hid (by simp [valB,hp])
   go_wp2_with fail
   go_ret
   exact ⟨retB2 E.out.symm,B1.out⟩
  ·have E:Hid (valB k n s=true):=hid (by simp [valB,hp,h1])
   have h1':(k != 1)=true:=by simpa using h1
   go_wp2_with fail
   go_ret
   exact ⟨retB2 E.out.symm,B1.out⟩
theorem six_below {w w':World} {g:Nat} {op:Int} {t:List UInt8} {vk vn:Int} {vs:List UInt8} {A:Option Addr} {n c:Nat} (h:(w.cell? ⟨g,0,none⟩=some (.int .i64 op)∧w.cell? ⟨g,1,none⟩=some (.string (tx t))∧w.cell? ⟨g,2,none⟩=some (.int .i64 vk)∧w.cell? ⟨g,3,none⟩=some (.int .i64 vn)∧w.cell? ⟨g,4,none⟩=some (.string (tx vs))∧w.cell? ⟨g,5,none⟩=some (.slice A n c))) (hb:Below w.heap.size w w') (hg:g < w.heap.size):(w'.cell? ⟨g,0,none⟩=some (.int .i64 op)∧w'.cell? ⟨g,1,none⟩=some (.string (tx t))∧w'.cell? ⟨g,2,none⟩=some (.int .i64 vk)∧w'.cell? ⟨g,3,none⟩=some (.int .i64 vn)∧w'.cell? ⟨g,4,none⟩=some (.string (tx vs))∧w'.cell? ⟨g,5,none⟩=some (.slice A n c)):=
 ⟨(hb.cell (p:=⟨g,0,none⟩) hg).trans h.1,(hb.cell (p:=⟨g,1,none⟩) hg).trans h.2.1,(hb.cell (p:=⟨g,2,none⟩) hg).trans h.2.2.1,(hb.cell (p:=⟨g,3,none⟩) hg).trans h.2.2.2.1,(hb.cell (p:=⟨g,4,none⟩) hg).trans h.2.2.2.2.1,(hb.cell (p:=⟨g,5,none⟩) hg).trans h.2.2.2.2.2⟩
theorem six_of {w:World} {g:Nat} {op:Int} {t:List UInt8} {vk vn:Int} {vs:List UInt8} {A:Option Addr} {n c:Nat} (h:Whole w g 26 (ncells op t vk vn vs A n c)):(w.cell? ⟨g,0,none⟩=some (.int .i64 op)∧w.cell? ⟨g,1,none⟩=some (.string (tx t))∧w.cell? ⟨g,2,none⟩=some (.int .i64 vk)∧w.cell? ⟨g,3,none⟩=some (.int .i64 vn)∧w.cell? ⟨g,4,none⟩=some (.string (tx vs))∧w.cell? ⟨g,5,none⟩=some (.slice A n c)):=
 ⟨by rw [h.cell]; rfl,by rw [h.cell]; rfl,by rw [h.cell]; rfl,by rw [h.cell]; rfl,by rw [h.cell]; rfl,by rw [h.cell]; rfl⟩
theorem six_lt {w:World} {g:Nat} {op:Int} {t:List UInt8} {vk vn:Int} {vs:List UInt8} {A:Option Addr} {n c:Nat} (h:(w.cell? ⟨g,0,none⟩=some (.int .i64 op)∧w.cell? ⟨g,1,none⟩=some (.string (tx t))∧w.cell? ⟨g,2,none⟩=some (.int .i64 vk)∧w.cell? ⟨g,3,none⟩=some (.int .i64 vn)∧w.cell? ⟨g,4,none⟩=some (.string (tx vs))∧w.cell? ⟨g,5,none⟩=some (.slice A n c))):g < w.heap.size:=World.block_lt_of_cell? w _ h.1
theorem rightNode_any (op:Int) (t:List UInt8) (vk vn:Int) (vs:List UInt8) (A:Option Addr) (n c:Nat) (w:World) (a:Addr) (m:Int) (hv:Env w a m) (hs:(tx vs).size≤9223372036854775807) :
  Calls Tryz.prog 52 #[.agg (ncells op t vk vn vs A n c)] w fun e w'=>e=.returned (.bool (nodeB op t vk vn vs n))∧Below w.heap.size w w':=by
 have H0:=hid (six_of (Whole.new w 26 (ncells op t vk vn vs A n c)))
 have B0:Hid (Below w.heap.size w (w.alloc (.cells (ncells op t vk vn vs A n c) 26))):=hid ((Below.refl _ _).alloc (Nat.le_refl _) _)
 unfold ncells at *
 have HV:=hid hv
 clear hv
 go_enter Tryz.func52,Tryz.ntmps52
 go_wp2_with fail
 generalize w.alloc (.cells #[.int .i64 op,.string (tx t),.int .i64 vk,.int .i64 vn,.string (tx vs),.slice A n c] 26)=W0 at *
 obtain ⟨c0,c1,c2,c3,c4,c5⟩:=H0.out
 go_region_held3 (fun w'=>w'.cell? ⟨w.heap.size,0,none⟩=some (.int .i64 op)∧w'.cell? ⟨w.heap.size,1,none⟩=some (.string (tx t))∧w'.cell? ⟨w.heap.size,2,none⟩=some (.int .i64 vk)∧w'.cell? ⟨w.heap.size,3,none⟩=some (.int .i64 vn)∧w'.cell? ⟨w.heap.size,4,none⟩=some (.string (tx vs))∧w'.cell? ⟨w.heap.size,5,none⟩=some (.slice A n c)) (first | go_keep | (exact six_below (by assumption) hb2 (six_lt (by assumption))))
  (first
   | (go_at_call 26; (with_reducible refine (null_any _).mono ?_); rintro e w2 ⟨rfl,hb2⟩))
 have HB2:=hid (bstep B0.out (bdrew1 hb2))
 clear hb2 H0 B0
 generalize hq2:same vk vn (tx vs) 0 0 ⟨#[]⟩=q2
 generalize hq1:t.isEmpty=q1
 have HV2:=hid (HV.out.below HB2.out)
 have E1:Hid (op=1→nodeB op t vk vn vs n=(q1 && (valB vk vn (tx vs) && ((n:Int) == 0)))):=hid (fun h=>by rw [nodeB,if_pos h,hq1])
 have E2:Hid (op=2→nodeB op t vk vn vs n=(Lx.isName t && (q2 && ((n:Int) == 0)))):=hid (fun h=>by subst h; rw [nodeB,if_neg (by decide),if_pos rfl,hq2])
 have E3:Hid (op=3∨op=4→nodeB op t vk vn vs n=(q1 && (q2 && ((n:Int) == 1)))):=hid (fun h=>by rw [nodeB,if_neg (by omega),if_neg (by omega),if_pos h,hq1,hq2])
 have E5:Hid (op=5→nodeB op t vk vn vs n=(!(Ex.lev t == 0) && (q2 && ((n:Int) == 2)))):=hid (fun h=>by subst h; rw [nodeB,if_neg (by decide),if_neg (by decide),if_neg (by decide),if_pos rfl,hq2])
 have E6:Hid (op=6→nodeB op t vk vn vs n=(((n:Int) == Ex.arity t) && q2)):=hid (fun h=>by subst h; rw [nodeB,if_neg (by decide),if_neg (by decide),if_neg (by decide),if_neg (by decide),if_pos rfl,hq2])
 have E0:Hid (op ≠ 1→op ≠ 2→op ≠ 3→op ≠ 4→op ≠ 5→op ≠ 6→nodeB op t vk vn vs n=false):=hid (fun h1 h2 h3 h4 h5 h6=>by rw [nodeB,if_neg h1,if_neg h2,if_neg (by omega),if_neg h5,if_neg h6])
 clear hq1 hq2
 by_cases h1:op=1
 ·have E:=hid (E1.out h1)
  clear E0 E1 E2 E3 E5 E6
  subst h1
  cases q1
  ·go_wp2_with fail
   go_ret
   exact ⟨retB2 (by rw [E.out]; rfl),HB2.out⟩
  ·have PV:=hid (rightVal_any vk vn (tx vs) w2 hs)
   go_wp2_with fail
   refine PV.out.mono ?_
   rintro e w3 ⟨rfl,hb3⟩
   have HB3:=hid (bstep HB2.out hb3)
   clear hb3
   cases hvb:valB vk vn (tx vs)
   ·have E':Hid (nodeB 1 t vk vn vs n=false):=hid (by rw [E.out,hvb]; rfl)
    go_wp2_with fail
    go_ret
    exact ⟨retB2 E'.out.symm,HB3.out⟩
   ·have E':Hid (nodeB 1 t vk vn vs n=((n:Int) == 0)):=hid (by rw [E.out,hvb]; simp)
    go_wp2_with fail
    go_ret
    exact ⟨retB2 E'.out.symm,HB3.out⟩
 by_cases h2:op=2
 ·have E:=hid (E2.out h2)
  clear E0 E1 E2 E3 E5 E6 h1
  subst h2
  have PV:=hid (lexName_any (tx t) w2 a m HV2.out)
  go_wp2_with fail
  refine PV.out.mono ?_
  rintro e w3 ⟨rfl,hb3⟩
  have HB3:=hid (bstep HB2.out hb3)
  clear hb3
  have E':Hid (nodeB 2 t vk vn vs n=(Lx.isName (tx t).data.toList && (q2 && ((n:Int) == 0)))):=E
  generalize Lx.isName (tx t).data.toList=q3 at *
  cases q3 <;> cases q2 <;> (go_wp2_with fail; go_ret; exact ⟨retB2 (by rw [E'.out]; simp),HB3.out⟩)
 by_cases h3:op=3
 ·have E:=hid (E3.out (.inl h3))
  clear E0 E1 E2 E3 E5 E6 h1 h2
  subst h3
  cases q1 <;> cases q2 <;> (go_wp2_with fail; go_ret; exact ⟨retB2 (by rw [E.out]; simp),HB2.out⟩)
 by_cases h4:op=4
 ·have E:=hid (E3.out (.inr h4))
  clear E0 E1 E2 E3 E5 E6 h1 h2 h3
  subst h4
  cases q1 <;> cases q2 <;> (go_wp2_with fail; go_ret; exact ⟨retB2 (by rw [E.out]; simp),HB2.out⟩)
 by_cases h5:op=5
 ·have E:=hid (E5.out h5)
  clear E0 E1 E2 E3 E5 E6 h1 h2 h3 h4
  subst h5
  have PV:=hid (level_any (tx t) w2)
  go_wp2_with fail
  refine PV.out.mono ?_
  rintro e w3 ⟨rfl,rfl⟩
  have E':Hid (nodeB 5 t vk vn vs n=(!(Ex.lev (tx t).data.toList == 0) && (q2 && ((n:Int) == 2)))):=E
  generalize Ex.lev (tx t).data.toList=q3 at *
  by_cases hq:q3=0
  ·subst hq
   cases q2 <;> (go_wp2_with fail; go_ret; exact ⟨retB2 (by rw [E'.out]; simp),HB2.out⟩)
  ·have hq':(q3 != 0)=true:=by simpa using hq
   cases q2 <;> (go_wp2_with fail; go_ret; exact ⟨retB2 (by rw [E'.out]; simp [hq]),HB2.out⟩)
 by_cases h6:op=6
 ·have E:=hid (E6.out h6)
  clear E0 E1 E2 E3 E5 E6 h1 h2 h3 h4 h5
  subst h6
  have PV:=hid (arity_any (tx t) w2)
  go_wp2_with fail
  refine PV.out.mono ?_
  rintro e w3 ⟨rfl,rfl⟩
  have E':Hid (nodeB 6 t vk vn vs n=(((n:Int) == Ex.arity (tx t).data.toList) && q2)):=E
  generalize Ex.arity (tx t).data.toList=q3 at *
  generalize hq:((n:Int) == q3)=q4 at *
  cases q4 <;> cases q2 <;> (go_wp2_with fail; go_ret; exact ⟨retB2 (by rw [E'.out]; simp),HB2.out⟩)
 ·have E:=hid (E0.out h1 h2 h3 h4 h5 h6)
  clear E0 E1 E2 E3 E5 E6
  have k1:(op == 1)=false:=by simpa using h1
  have k2:(op == 2)=false:=by simpa using h2
  have k3:(op == 3)=false:=by simpa using h3
  have k4:(op == 4)=false:=by simpa using h4
  have k5:(op == 5)=false:=by simpa using h5
  have k6:(op == 6)=false:=by simpa using h6
  clear h1 h2 h3 h4 h5 h6
  go_wp2_with fail
  go_ret
  exact ⟨retB2 E.out.symm,HB2.out⟩
end Go.Proofs.YteghhmomhlnccaaGreatDoor
namespace Go.Proofs.YteghhmomhlnccaaGreatDoor
open Go.RowKit Go.Lib Go.Shelf
attribute [local go_sem] Oper.semAt_some
open Ex (Tree)
theorem whole_own {B:Nat} {W W':World} {row:Option Nat} {g:Nat} {t:TypeId} {cs:Array Value} (h:Whole W g t cs) (hg:W.grownBy W' row) (hr:∀ r,row=some r→B≤r∧∃ o:Obj,W.heap[r]?=some o∧o.isCells=false):Whole W' g t cs:=
 (hg.block g h.lt (fun e=>by
  obtain ⟨-,o,ho,hc⟩:=hr _ e.symm
  unfold Whole at h
  rw [h] at ho
  cases ho
  simp [Obj.isCells] at hc)).trans h
theorem below_own {B:Nat} {w W W':World} {row:Option Nat} (h:Below w.heap.size w W) (hg:W.grownBy W' row) (hr:∀ r,row=some r→B≤r∧∃ o:Obj,W.heap[r]?=some o∧o.isCells=false) (hB:w.heap.size≤B):Below w.heap.size w W':=h.grown hg h.size (fun k e=>by have:=(hr k e).1; omega)
theorem keepsFrom_below {B:Nat} {W W':World} (h:Below W.heap.size W W'):KeepsFrom B W W':=⟨h.size,fun k o _ ho _=>(h.block k (Array.getElem?_eq_some_iff.1 ho).1).trans ho⟩
mutual
theorem fit_seq (d:Nat):∀ (x:Tree),fitT x→∀ q ∈ Ex.seq d x,fitT q.1
 | .node op t vk vn vs ks,h,q,hq=>by
  rw [Ex.seq] at hq
  rcases List.mem_cons.1 hq with rfl | hq
  ·exact h
  ·rw [fitT] at h
   exact fit_seqs (d + 1) ks h.2.2 q hq
theorem fit_seqs (d:Nat):∀ (l:List Tree),fitTs l→∀ q ∈ Ex.seqs d l,fitT q.1
 | [],h,q,hq=>by rw [Ex.seqs] at hq; cases hq
 | x :: l,h,q,hq=>by
  rw [fitTs] at h
  rw [Ex.seqs] at hq
  rcases List.mem_append.1 hq with hq | hq
  ·exact fit_seq d x h.1 q hq
  ·exact fit_seqs d l h.2 q hq
end
def RgtI (w:World) (T:Tree) (pre:List Nd) (G:List Nat) (W:World):Prop:=
 G=[w.heap.size + 1 + 1]∧Whole W (w.heap.size + 1 + 1) 3 #[.int .i64 (pre.length:Nat)]∧Whole W (w.heap.size + 1) 4 #[.bool false]∧Below w.heap.size w W∧pre.length≤300∧(∀ q ∈ prs pre,q.2≤30∧q.1.is nodeB=true)∧w.heap.size + 3≤W.heap.size
theorem rgtI_abides {w:World} {T:Tree} {B:Nat} (hB:w.heap.size + 3≤B) (s:List Nd) (G H:List Nat) (W W':World) (h:RgtI w T s G W) (ht:Touch H W W') (hH:∀ k ∈ H,B≤k∧k ∉ G):RgtI w T s G W':=by
 obtain ⟨rfl,h1,h2,h3,h4,h5,h6⟩:=h
 exact ⟨rfl,(ht.block _ h1.lt fun hk=>(hH _ hk).2 (by simp)).trans h1,(ht.block _ h2.lt fun hk=>by have:=(hH _ hk).1; omega).trans h2,ht.fresh h3 fun k hk=>by have:=(hH k hk).1; omega,h4,h5,by have:=ht.size; omega⟩
theorem right_in (T:Tree) (v:Value) (w:World) (h:NodeV w v T) (hf:fitT T) (hd:Ex.depth T≤1000000) (a:Addr) (m:Int) (hv:Env w a m) :
  CallsIn Fence.wide 5 Tryz.prog 25 #[v] w fun e w'=>e=.returned (.bool (Ex.rightB nodeB T))∧Below w.heap.size w w':=by
 cases T with
 | node op t vk vn vs ks=>
 obtain ⟨A,c,rfl,hcc,hk⟩:=h
 obtain ⟨T,hT⟩:∃ T,(.node op t vk vn vs ks:Tree)=T:=⟨_,rfl⟩
 rw [hT] at hd hf ⊢
 refine callsIn_of_wp_marks Tryz.func25 rfl trivial ?_ rfl
 simp only [Tryz.ntmps25,List.size_toArray,List.length_cons,List.length_nil,Nat.reduceAdd,Nat.reduceSub,Array.replicate_succ,Array.replicate_zero,List.push_toArray,List.append_toArray,List.nil_append,List.cons_append]
 unfold ncells
 gi_wp2_with ((try refine ⟨trivial,?_⟩); gi_at_call 51; refine (nodes_in Fence.wide _ trivial rfl _ _ _ _ _ _ _).mono ?_; rintro e w' ⟨rfl,rfl⟩)
 have b0:Below w.heap.size w ((((w.alloc (.cells (ncells op t vk vn vs A ks.length c) 26)).alloc (.cells #[.bool false] 4)).alloc (.cells #[.int .i64 0] 3)).alloc (.cells (ncells op t vk vn vs A ks.length c) 26)):=((((Below.refl _ w).alloc (Nat.le_refl _) _).alloc (by simp) _).alloc (by simp; omega) _).alloc (by simp; omega) _
 have k0:=((Whole.new (w.alloc (.cells (ncells op t vk vn vs A ks.length c) 26)) 4 #[.bool false]).alloc (.cells #[.int .i64 0] 3)).alloc (.cells (ncells op t vk vn vs A ks.length c) 26)
 have k1:=(Whole.new ((w.alloc (.cells (ncells op t vk vn vs A ks.length c) 26)).alloc (.cells #[.bool false] 4)) 3 #[.int .i64 0]).alloc (.cells (ncells op t vk vn vs A ks.length c) 26)
 have k2:=Whole.new (((w.alloc (.cells (ncells op t vk vn vs A ks.length c) 26)).alloc (.cells #[.bool false] 4)).alloc (.cells #[.int .i64 0] 3)) 26 (ncells op t vk vn vs A ks.length c)
 simp only [World.size_alloc] at k0 k1 k2
 unfold ncells at b0 k0 k1 k2
 have hz0:((((w.alloc (.cells #[.int .i64 op,.string (tx t),.int .i64 vk,.int .i64 vn,.string (tx vs),.slice A ks.length c] 26)).alloc (.cells #[.bool false] 4)).alloc (.cells #[.int .i64 0] 3)).alloc (.cells #[.int .i64 op,.string (tx t),.int .i64 vk,.int .i64 vn,.string (tx vs),.slice A ks.length c] 26)).heap.size=w.heap.size + 4:=by simp only [World.size_alloc]
 generalize ((((w.alloc (.cells #[.int .i64 op,.string (tx t),.int .i64 vk,.int .i64 vn,.string (tx vs),.slice A ks.length c] 26)).alloc (.cells #[.bool false] 4)).alloc (.cells #[.int .i64 0] 3)).alloc (.cells #[.int .i64 op,.string (tx t),.int .i64 vk,.int .i64 vn,.string (tx vs),.slice A ks.length c] 26))=W0 at *
 refine wpIn_rangeFunc_G rfl (by omega) (gf:=84) rfl trivial (enters_of Tryz.func84 (by kernel_rfl) rfl)
  (nodes_seq 4 (by omega) (w.heap.size + 1 + 1 + 1) w W0 T hd A c op t vk vn vs ks hT.symm hcc hk b0 k2) (Below.refl _ _) b0.size (by simp) (fun _=>rfl)
  (RgtI w T) (fun s G H W W' h ht hH=>rgtI_abides (by omega) s G H W W' h ht hH)
  (fun s G W h k hk=>by
   obtain ⟨rfl,h1,-⟩:=h
   have:k=w.heap.size + 1 + 1:=by simpa using hk
   subst this
   exact ⟨by omega,h1.lt,by simp,_,h1,rfl⟩)
  (fun c _ W=>c=.ret∧Below w.heap.size w W∧Whole W (w.heap.size + 1) 4 #[.bool false]∧Ex.rightB nodeB T=false)
  (fun c s W W' row h hg hr=>⟨h.1,below_own h.2.1 hg hr b0.size,whole_own h.2.2.1 hg hr,h.2.2.2⟩) ⟨_,rfl,k1,k0,b0,Nat.zero_le _,by simp [prs],by omega⟩
  (fun pre x a' W=>prs (pre ++ [x]) <+: Ex.seq 1 T∧∃ Bx op' t' vk' vn' vs' A' n' c',x.t.is nodeB=nodeB op' t' vk' vn' vs' n'∧(tx vs').size≤9223372036854775807∧Whole W Bx 26 (ncells op' t' vk' vn' vs' A' n' c')∧a'={ tmps:=#[.agg #[.int .i64 op,.string (tx t),.int .i64 vk,.int .i64 vn,.string (tx vs),.slice A ks.length c],.pointer (some ⟨w.heap.size,0,none⟩),.pointer (some ⟨w.heap.size + 1,0,none⟩),.pointer (some ⟨w.heap.size + 1 + 1,0,none⟩),.pointer (some ⟨Bx,0,none⟩),.int .i64 (x.d:Nat),.agg #[.int .i64 op,.string (tx t),.int .i64 vk,.int .i64 vn,.string (tx vs),.slice A ks.length c],.func (.func 84) #[] #[.pointer (some ⟨w.heap.size + 1 + 1 + 1,0,none⟩)],x.v,.int .i64 (x.d:Nat),undef,undef,undef,undef,undef,undef,undef,undef,undef,undef,undef,undef,undef],defers:=[] })
  (fun pre x a' _ W W' row h hg hr=>by
   obtain ⟨h1,Bx,op',t',vk',vn',vs',A',n',c',h2,h3,h4,h5⟩:=h
   exact ⟨h1,Bx,op',t',vk',vn',vs',A',n',c',h2,h3,whole_own h4 hg hr,h5⟩) ?assign ?body ?done ?stop
 case assign=>
  rintro l pre G x W K hI hx hK
  obtain ⟨xv,xt,xd⟩:=x
  obtain ⟨hx1,hx2⟩:=hx
  cases xt with
  | node op' t' vk' vn' vs' ks'=>
  obtain ⟨A',c',rfl,-,-⟩:=hx2
  unfold encN ncells
  dsimp only
  gi_wp2
  have hfx:=fit_seq 1 T hf _ (hx1.subset (show ((.node op' t' vk' vn' vs' ks':Tree),xd) ∈ prs pre ++ [(.node op' t' vk' vn' vs' ks',xd)] by simp))
  rw [fitT] at hfx
  refine hK _ _ ((Below.refl _ _).alloc (Nat.le_refl _) _) ⟨by rw [prs_snoc]; exact hx1,W.heap.size,op',t',vk',vn',vs',A',ks'.length,c',rfl,?_,Whole.new _ _ _,rfl⟩
  have:=hfx.2.1
  simp only [maxLen] at this
  simpa [ByteArray.size] using this
 case body=>
  rintro l pre G x a' W ⟨rfl,h1,h2,h3,h4,h5,h6⟩ ⟨hp,Bx,op',t',vk',vn',vs',A',n',c',hx,hsz,hbx,rfl⟩
  have hlen:(prs (pre ++ [x])).length=pre.length + 1:=by rw [prs_len,List.length_append]; rfl
  have e0:=h1.cell 0
  have e1:=h1.frozen 0
  have e2:=h2.cell 0
  have e3:=h2.frozen 0
  simp only [List.getElem?_toArray,List.getElem?_cons_zero] at e0 e2
  have hne:Bx ≠ w.heap.size + 1 + 1:=fun e=>by subst e; unfold Whole at h1 hbx; rw [h1] at hbx; cases hbx
  have hne2:Bx ≠ w.heap.size + 1:=fun e=>by subst e; unfold Whole at h2 hbx; rw [h2] at hbx; cases hbx
  have N1:=h1.set_ 0 (.int .i64 ((pre.length:Int) + 1))
  have N2:=h2.far (p:=⟨w.heap.size + 1 + 1,0,none⟩) (by simp) (.int .i64 ((pre.length:Int) + 1))
  have N3:=hbx.far (p:=⟨w.heap.size + 1 + 1,0,none⟩) hne (.int .i64 ((pre.length:Int) + 1))
  have T1:Touch [w.heap.size + 1 + 1] W (W.setCell ⟨w.heap.size + 1 + 1,0,none⟩ (.int .i64 ((pre.length:Int) + 1))):=Touch.one (by simp)
  have B1:Below w.heap.size w (W.setCell ⟨w.heap.size + 1 + 1,0,none⟩ (.int .i64 ((pre.length:Int) + 1))):=h3.setCell (p:=⟨w.heap.size + 1 + 1,0,none⟩) (by show _≤w.heap.size + 1 + 1; omega) _
  have K1:KeepsFrom W0.heap.size W (W.setCell ⟨w.heap.size + 1 + 1,0,none⟩ (.int .i64 ((pre.length:Int) + 1))):=(KeepsOthers.setCell _ _ _).from _
  obtain ⟨W1,hW1⟩:∃ W1,W.setCell ⟨w.heap.size + 1 + 1,0,none⟩ (.int .i64 ((pre.length:Int) + 1))=W1:=⟨_,rfl⟩
  rw [hW1] at N1 N2 N3 T1 B1 K1
  have hl9:(pre.length:Int)≤300:=by omega
  have HP:=hid hp
  have HL:=hid hlen
  have H5:=hid h5
  have HX:=hid hx
  have HT1:=hid T1
  have HB1:=hid B1
  have HK1:=hid K1
  have HN1:=hid N1
  have HN2:=hid N2
  have f0:=N1.cell 0
  have f2:=N2.cell 0
  have f3:=N2.frozen 0
  obtain ⟨d0,d1,d2,d3,d4,d5⟩:=six_of N3
  simp only [List.getElem?_toArray,List.getElem?_cons_zero,Array.setIfInBounds] at f0 f2
  have BAD:∀ W2,Below W1.heap.size W1 W2→Ex.rightB nodeB T=false→roundPost W0.heap.size (RgtI w T) (fun c _ W=>c=.ret∧Below w.heap.size w W∧Whole W (w.heap.size + 1) 4 #[.bool false]∧Ex.rightB nodeB T=false) (pre ++ [x]) [w.heap.size + 1 + 1] W .ret { tmps:=#[],defers:=[] } (W2.setCell ⟨w.heap.size + 1,0,none⟩ (.bool false)):=by
   intro W2 hb hbad
   exact ⟨(HK1.out.trans (keepsFrom_below hb)).trans ((KeepsOthers.setCell _ _ _).from _),rfl,(HB1.out.trans (hb.mono HB1.out.size)).setCell (p:=⟨w.heap.size + 1,0,none⟩) (by show _≤w.heap.size + 1; omega) _,(HN2.out.below hb HN2.out.lt).set_ 0 _,hbad⟩
  have HBAD:=hid BAD
  have HVW:=hid (hv.below HB1.out)
  clear h1 h2 h3 hbx N1 N2 N3 T1 B1 K1 hp hlen h5 hx BAD
  by_cases g1:pre.length=300
  ·have HF:Hid (Ex.rightB nodeB T=false):=hid (Ex.right_not nodeB T HP.out (.inl (by rw [HL.out]; omega)))
   have g1':(300:Int) < (pre.length:Int) + 1:=by omega
   clear g1 hl9
   gi_wp2
   refine ⟨trivial,?_⟩
   gi_wp2
   exact HBAD.out W1 (Below.refl _ _) HF.out
  ·have g1':¬ (300:Int) < (pre.length:Int) + 1:=by omega
   by_cases g2:30 < x.d
   ·have HF:Hid (Ex.rightB nodeB T=false):=hid (Ex.right_not nodeB T HP.out (.inr ⟨(x.t,x.d),by rw [prs_snoc]; simp,.inl g2⟩))
    have g2':(30:Int) < (x.d:Int):=by omega
    gi_wp2
    refine ⟨trivial,?_⟩
    gi_wp2
    exact HBAD.out W1 (Below.refl _ _) HF.out
   ·have g2':¬ (30:Int) < (x.d:Int):=by omega
    have RN:=hid (rightNode_any op' t' vk' vn' vs' A' n' c' W1 a m HVW.out hsz)
    have hll:((pre ++ [x]).length:Int)=(pre.length:Int) + 1:=by rw [List.length_append]; rfl
    have HG:Hid (pre.length + 1≤300∧x.d≤30):=hid ⟨by omega,by omega⟩
    have HLL:=hid hll
    clear g1 g2 hll
    gi_wp2
    refine ⟨trivial,?_⟩
    refine (CallsIn.inRound l (callsIn_wide.2 RN.out)).mono ?_
    rintro e W2 ⟨rfl,hb2⟩
    have HB2:=hid hb2
    have m2:=(HN2.out.below hb2 HN2.out.lt).frozen 0
    clear hb2
    cases hq:nodeB op' t' vk' vn' vs' n'
    ·have HF:Hid (Ex.rightB nodeB T=false):=hid (Ex.right_not nodeB T HP.out (.inr ⟨(x.t,x.d),by rw [prs_snoc]; simp,.inr (by rw [HX.out,hq])⟩))
     have m1:=(HN2.out.below HB2.out HN2.out.lt).cell 0
     simp only [List.getElem?_toArray,List.getElem?_cons_zero] at m1
     gi_wp2
     exact HBAD.out W2 HB2.out HF.out
    ·have HQ:=hid hq
     clear hq
     gi_wp2
     refine ⟨HT1.out.belowTo HB2.out,_,⟨rfl,?_,HN2.out.below HB2.out HN2.out.lt,HB1.out.trans (HB2.out.mono HB1.out.size),?_,?_,?_⟩,fun k hk=>.inl hk⟩
     ·have:=HN1.out.below HB2.out HN1.out.lt
      rw [HLL.out]
      exact this
     ·rw [List.length_append]; exact HG.out.1
     ·intro q hq
      rw [prs_snoc] at hq
      rcases List.mem_append.1 hq with hq | hq
      ·exact H5.out q hq
      ·have:q=(x.t,x.d):=by simpa using hq
       subst this
       exact ⟨HG.out.2,by rw [HX.out]; exact HQ.out⟩
     ·have:=HT1.out.size; have:=HB2.out.size; omega
 case done=>
  rintro D ys G W hD hS ⟨rfl,h1,h2,h3,h4,h5,h6⟩ hK
  have e0:=h2.cell 0
  have e1:=h2.frozen 0
  simp only [List.getElem?_toArray,List.getElem?_cons_zero] at e0
  have hS:=hid hS
  gi_wp2
  have hne:D ≠ w.heap.size + 1:=fun e=>by unfold Whole at h2; rw [← e,hK] at h2; cases h2
  have hK':(W.setCell ⟨w.heap.size + 1,0,none⟩ (.bool true)).heap[D]?=some (.deferred (some [])):=(heap_set_other _ _ _ _ _ hne).trans hK
  refine ⟨by simp,.inl ⟨_,_,rfl,run_takeDeferred hK',?_⟩⟩
  have hc5:=(whole_own (B:=0) (h2.set_ 0 (.bool true)) (grownBy_putObj' _ D (.deferred none)) (fun r e=>by cases e; exact ⟨Nat.zero_le _,_,hK',rfl⟩)).cell 0
  simp only [List.getElem?_toArray,List.getElem?_cons_zero,Array.setIfInBounds] at hc5
  refine ⟨.bool true,?_,?_,(h3.setCell (p:=⟨w.heap.size + 1,0,none⟩) (by show _≤w.heap.size + 1; omega) _).trans (belowK_b (w:=w) (Nat.le_refl _) _ D _ _ (by omega) hK' rfl rfl)⟩
  ·simp [results,Tryz.results25,go_sem,hc5]
  ·rw [Ex.right_all nodeB T (by rw [← hS.out,prs_len]; exact h4) (fun q hq=>h5 q (by rw [hS.out]; exact hq))]
 case stop=>
  rintro D c pre W hD ⟨rfl,h1,h2,h3⟩ hK
  have e0:=h2.cell 0
  simp only [List.getElem?_toArray,List.getElem?_cons_zero] at e0
  gi_wp2
  refine ⟨by simp,.inl ⟨_,_,rfl,run_takeDeferred hK,?_⟩⟩
  have hc5:=(whole_own (B:=0) h2 (grownBy_putObj' _ D (.deferred none)) (fun r e=>by cases e; exact ⟨Nat.zero_le _,_,hK,rfl⟩)).cell 0
  simp only [List.getElem?_toArray,List.getElem?_cons_zero] at hc5
  refine ⟨.bool false,?_,by rw [h3],h1.trans (belowK_b (w:=w) (Nat.le_refl _) _ D _ _ (by have:=b0.size; omega) hK rfl rfl)⟩
  simp [results,Tryz.results25,go_sem,hc5]
end Go.Proofs.YteghhmomhlnccaaGreatDoor
namespace Go.Proofs.YteghhmomhlnccaaGreatDoor
open Go.RowKit Go.Lib Go.Shelf
theorem keyedS:Maps.Keyed Tryz.prog 9:=Maps.string_keyed Tryz.underlying9
def SetAt (W:World) (b n:Nat) (L:List (List UInt8)):Prop:=∃ D:DataW Unit,W.ownsMap Tryz.prog 9 unitElem b n D∧∀ t,Maps.has D (.string t)=L.contains t
theorem SetAt.made (w:World):SetAt (w.alloc (.map #[] 0)) w.heap.size 0 []:=⟨_,World.ownsMap_made w _ _ _,fun t=>rfl⟩
theorem SetAt.lt {W:World} {b n:Nat} {L:List (List UInt8)} (h:SetAt W b n L):b < W.heap.size:=let ⟨_,h1,_⟩:=h; h1.lt
theorem SetAt.moved {W W':World} {b n:Nat} {L:List (List UInt8)} (h:SetAt W b n L) (hb:W'.heap[b]?=W.heap[b]?):SetAt W' b n L:=by
 obtain ⟨D,⟨es,clock,h1,h2⟩,h3⟩:=h
 exact ⟨D,⟨es,clock,hb.trans h1,h2⟩,h3⟩
theorem key_str {t:List UInt8} (ht:t.length≤maxLen):keyOf Tryz.prog 9 (.string (tx t))=some (.string t):=by
 have h:(tx t).size≤maxLen:=by simpa [ByteArray.size] using ht
 simp [keyOf,mapKey,Tryz.underlying9,h]
theorem zeroUnit (W:World):(zeroValue 97).run Tryz.prog W=.ok (.agg #[]) W:=Tryz.zeroValue97 W
theorem SetAt.look {W:World} {b n:Nat} {L:List (List UInt8)} (h:SetAt W b n L) {t:List UInt8} (ht:t.length≤maxLen):(Instr.lookup 96 (.map (some b)) (.string (tx t)) true).run Tryz.prog W=.ok (.tuple #[.agg #[],.bool (L.contains t)]) W:=by
 obtain ⟨D,h1,h2⟩:=h
 obtain ⟨v,ps,hr,hv⟩:=h1.look_ok keyedS Tryz.underlying96 (zeroUnit W) unitElem_mk (key_str ht)
 obtain ⟨rfl,_⟩:=unitElem_inv hv
 rw [hr,h2]
theorem SetAt.store {W:World} {b n:Nat} {L:List (List UInt8)} (h:SetAt W b n L) {t:List UInt8} (ht:t.length≤maxLen) (hn:n≤1000000) :
  ∃ W',(Instr.mapUpdate 96 (.map (some b)) (.string (tx t)) (.agg #[])).run Tryz.prog W=.ok () W'∧SetAt W' b (n + 1) (L ++ [t])∧Touch [b] W W':=by
 obtain ⟨D,h1,h2⟩:=h
 obtain ⟨W',hr,ho,hg⟩:=h1.update keyedS Tryz.underlying96 (by simp only [maxLen]; omega) (key_str ht) unitElem_mk
 refine ⟨W',hr,⟨_,ho,fun t'=>?_⟩,Touch.of_grown hg⟩
 by_cases e:t'=t
 ·subst e
  rw [Maps.has_put_same h1.isMap (by trivial)]
  simp
 ·rw [Maps.has_put_other (by intro h; cases h; exact e rfl),h2]
  simp [e]
end Go.Proofs.YteghhmomhlnccaaGreatDoor
namespace Go.Proofs.YteghhmomhlnccaaGreatDoor
open Go.RowKit Go.Lib Go.Shelf
attribute [local go_sem] Oper.semAt_some
open Ex (Tree)
end Go.Proofs.YteghhmomhlnccaaGreatDoor
