import Derived.Test.YteghhmomhlnccaaGreatDoorYT11
import Derived.Test.YteghhmomhlnccaaGreatDoorYT4
import Derived.Test.YteghhmomhlnccaaGreatDoorYT10
import Derived.Deep.CutRange
import Derived.Deep.DeepCutAuto
import Derived.Deep.CutBlock
import Derived.Laws.Rows
set_option linter.unusedVariables false
set_option linter.unusedSimpArgs false
set_option maxRecDepth 100000
set_option maxHeartbeats 100000000
open Go.RowKit Go.Lib
namespace Go.Proofs.YteghhmomhlnccaaGreatDoor
open Ev (V)
def ValsAt (w:World) (A:Option Addr) (l:List V):Prop:=∀ i (h:i < l.length),∃ b o,A=some ⟨b,o,none⟩∧b < w.heap.size∧w.cell? ⟨b,o + i * 3,none⟩=some (.int .i64 l[i].k)∧w.cell? ⟨b,o + i * 3 + 1,none⟩=some (.int .i64 l[i].n)∧w.cell? ⟨b,o + i * 3 + 2,none⟩=some (.string (tx l[i].s))
abbrev vcells (v:V):Array Value:=#[.int .i64 v.k,.int .i64 v.n,.string (tx v.s)]
theorem ValsAt.below {w w':World} {A:Option Addr} {l:List V} (h:ValsAt w A l) (hb:Below w.heap.size w w'):ValsAt w' A l:=fun i hi=>by
 obtain ⟨b,o,e,h1,h2,h3,h4⟩:=h i hi
 exact ⟨b,o,e,Nat.lt_of_lt_of_le h1 hb.size,(hb.cell (p:=⟨b,o + i * 3,none⟩) h1).trans h2,(hb.cell (p:=⟨b,o + i * 3 + 1,none⟩) h1).trans h3,(hb.cell (p:=⟨b,o + i * 3 + 2,none⟩) h1).trans h4⟩
theorem ValsAt.nil (w:World) (A:Option Addr):ValsAt w A []:=fun i hi=>absurd hi (Nat.not_lt_zero _)
def fitV (l:List V):Prop:=∀ v ∈ l,v.s.length≤maxLen∧Fits v.n
theorem choose_val {n:Nat} {R:Nat→V→Prop} (h:∀ i,i < n→∃ x,R i x):∃ l:List V,l.length=n∧∀ i (hi:i < l.length),R i l[i]:=by
 induction n with
 | zero=>exact ⟨[],rfl,fun i hi=>absurd hi (by simp)⟩
 | succ n ih=>
  obtain ⟨l,h1,h2⟩:=ih fun i hi=>h i (by omega)
  obtain ⟨x,hx⟩:=h n (by omega)
  refine ⟨l ++ [x],by simp [h1],fun i hi=>?_⟩
  by_cases e:i < l.length
  ·rw [List.getElem_append_left e]; exact h2 i e
  ·have:i=n:=by simp at hi; omega
   subst this
   rw [List.getElem_append_right (by omega)]
   simpa [h1] using hx
section
open Go.Deep Go.Joins Go.WideShapes Go.ChangeShapes
variable {H : Type} {enc : TypeId × Value → H} {W : World} {base : Nat} {spare : Nat → Bool} {held : Bool}
theorem opens_val {fuel:Nat} {cs:List Value} {x:DataW H × List MemPlace} (h:DataW.trod enc Tryz.prog W base spare held fuel 23 cs=some x):∃ v:V,cs=(vcells v).toList∧v.s.length≤maxLen∧Fits v.n:=by
 obtain ⟨y0,y1,y2,f,-,hl,h0,h1,h2⟩:=trod_struct3 Tryz.underlying23 h
 rw [cellsVal] at hl
 match cs,hl with
 | [c0,c1,c2],_=>
  have z0:Tryz.prog.cellsOf 3=1:=by kernel_rfl
  have z1:Tryz.prog.cellsOf 2=1:=by kernel_rfl
  have z2:Tryz.prog.cellsOf 9=1:=by kernel_rfl
  simp only [z0,z1,z2,List.drop,List.take] at h0 h1 h2
  obtain ⟨k,e0,-,-⟩:=DataW.trod_int Tryz.underlying3 h0
  obtain ⟨n,e1,-,w1⟩:=DataW.trod_int Tryz.underlying2 h1
  obtain ⟨s,e2,-,w2⟩:=DataW.trod_string Tryz.underlying9 h2
  cases e0; cases e1; cases e2
  have b1:=bounds_i64 w1
  refine ⟨⟨k,n,s.data.toList⟩,by simp [vcells,tx],?_,by unfold Fits; show _≤n∧n≤_; omega⟩
  have:s.data.toList.length=s.size:=by simp
  show s.data.toList.length≤maxLen
  omega
theorem opens_vals {fuel:Nat} {cs:List Value} {x:DataW H × List MemPlace} (h:DataW.trod enc Tryz.prog W base spare held fuel 28 cs=some x):∃ (l:List V) (A:Option Addr) (c:Nat),cs=[.slice A l.length c]∧l.length≤c∧c≤maxLen∧ValsAt W A l∧fitV l∧(A=none→c=0):=by
 rcases DataW.trod_slice Tryz.underlying28 h with ⟨hcs,_⟩ | ⟨a,len,cap,elems,rest,m,rfl,hcs,-,-,hle,hmx,hln,hel,-⟩
 ·cases hcs
  exact ⟨[],none,0,rfl,Nat.le_refl _,Nat.zero_le _,ValsAt.nil _ _,fun c hc=>absurd hc (by simp),fun _=>rfl⟩
 ·cases hcs
  have hk:∀ i,i < len→∃ x:V,(∃ b o,a=⟨b,o,none⟩∧b < W.heap.size∧W.cell? ⟨b,o + i * 3,none⟩=some (.int .i64 x.k)∧W.cell? ⟨b,o + i * 3 + 1,none⟩=some (.int .i64 x.n)∧W.cell? ⟨b,o + i * 3 + 2,none⟩=some (.string (tx x.s)))∧(x.s.length≤maxLen∧Fits x.n):=by
   intro i hi
   have hh:=hel i hi
   rw [cellsVal,List.getElem?_eq_getElem (by omega)] at hh
   obtain ⟨cs',h5,h6⟩:=Option.bind_eq_some_iff.1 hh
   obtain ⟨x,rfl,k4⟩:=opens_val h6
   obtain ⟨_,_,hat⟩:=World.cells?_some h5
   obtain ⟨b,o,spot⟩:=a
   have q0:=hat 0 (by show 0 < 3; omega)
   have q1:=hat 1 (by show 1 < 3; omega)
   have q2:=hat 2 (by show 2 < 3; omega)
   rw [Go.Deep.add_add] at q0 q1 q2
   have hspot:spot=none:=by
    have hh:=hel 0 (by omega)
    rw [cellsVal,List.getElem?_eq_getElem (by omega)] at hh
    obtain ⟨cs2,h52,h62⟩:=Option.bind_eq_some_iff.1 hh
    obtain ⟨x2,rfl,-⟩:=opens_val h62
    obtain ⟨_,_,hat2⟩:=World.cells?_some h52
    have:=World.cell?_spot (hat2 0 (by show 0 < 3; omega))
    simpa [Addr.add] using this
   subst hspot
   rw [Addr.add_lit] at q0 q1 q2
   exact ⟨x,⟨b,o,rfl,World.block_lt_of_cell? W _ q0,by simpa using q0,by simpa [Nat.add_assoc] using q1,by simpa [Nat.add_assoc] using q2⟩,k4⟩
  obtain ⟨l,hl1,hl2⟩:=choose_val hk
  refine ⟨l,some a,cap,by rw [hl1],by omega,hmx,fun i hi=>?_,fun c hc=>?_,fun h=>by cases h⟩
  ·obtain ⟨b,o,rfl,k⟩:=(hl2 i hi).1
   exact ⟨b,o,rfl,k⟩
  ·obtain ⟨i,hi,rfl⟩:=List.getElem_of_mem hc
   exact (hl2 i hi).2
theorem open_vals {r:Reach} {b0:Nat} {v:Value} {d:DataW H} {p:List MemPlace} (hv:Value.okWide Tryz.prog W r b0 28 v) (h:DataW.Trod enc Tryz.prog W base spare held 28 v d p):∃ (l:List V) (A:Option Addr) (c:Nat),v=.slice A l.length c∧l.length≤c∧c≤maxLen∧ValsAt W A l∧fitV l∧(A=none→c=0):=by
 obtain ⟨A,n,c,rfl⟩:∃ A n c,v=.slice A n c:=okWide_slice Tryz.underlying28 hv
 obtain ⟨fuel,hf⟩:=h
 obtain ⟨l,A',c',hcs,h1,h2,h3,h4⟩:=opens_vals hf
 refine ⟨l,A',c',?_,h1,h2,h3,h4⟩
 simpa [Value.cells] using hcs
end
def valCells (l:List V):List Value:=l.flatMap fun v=>[.int .i64 v.k,.int .i64 v.n,.string (tx v.s)]
theorem valCells_len:∀ l:List V,(valCells l).length=l.length * 3
 | []=>rfl
 | c :: l=>by
  have:=valCells_len l
  rw [valCells,List.flatMap_cons,← valCells,List.length_append,this]
  simp only [List.length_cons,List.length_nil]; omega
theorem valCells_at:∀ (l:List V) (i:Nat) (h:i < l.length),(valCells l)[i * 3]?=some (.int .i64 l[i].k)∧(valCells l)[i * 3 + 1]?=some (.int .i64 l[i].n)∧(valCells l)[i * 3 + 2]?=some (.string (tx l[i].s))
 | c :: l,0,h=>⟨rfl,rfl,rfl⟩
 | c :: l,i + 1,h=>by
  have:=valCells_at l i (by simpa using h)
  rw [valCells,List.flatMap_cons,← valCells,show (i + 1) * 3=i * 3 + 1 + 1 + 1 by omega]
  exact this
theorem valCells_one (l:List V):∀ v ∈ valCells l,v.oneCell'=true:=by
 intro v hv
 rw [valCells,List.mem_flatMap] at hv
 obtain ⟨c,-,hc⟩:=hv
 simp only [List.mem_cons,List.not_mem_nil,or_false] at hc
 rcases hc with rfl | rfl | rfl <;> rfl
theorem valCells_append (l m:List V):valCells (l ++ m)=valCells l ++ valCells m:=by rw [valCells,List.flatMap_append]; rfl
theorem ValsAt.cells {w:World} {b o:Nat} {l:List V} (h:ValsAt w (some ⟨b,o,none⟩) l):∀ j u,(valCells l)[j]?=some u→w.cell? ⟨b,o + j,none⟩=some u:=by
 intro j u hu
 have hj:j < l.length * 3:=by rw [← valCells_len]; exact (List.getElem?_eq_some_iff.1 hu).1
 obtain ⟨b',o',e,h1,h2,h3,h4⟩:=h (j / 3) (by omega)
 cases e
 obtain ⟨k1,k2,k3⟩:=valCells_at l (j / 3) (by omega)
 have hm:j % 3=0∨j % 3=1∨j % 3=2:=by omega
 rcases hm with hm | hm | hm
 ·rw [show j / 3 * 3=j by omega] at k1 h2
  rw [h2,← k1,hu]
 ·rw [show j / 3 * 3 + 1=j by omega] at k2
  rw [show o + j / 3 * 3 + 1=o + j by omega] at h3
  rw [h3,← k2,hu]
 ·rw [show j / 3 * 3 + 2=j by omega] at k3
  rw [show o + j / 3 * 3 + 2=o + j by omega] at h4
  rw [h4,← k3,hu]
theorem ValsAt.of_cells {w:World} {b o:Nat} {l:List V} (hb:b < w.heap.size) (h:∀ j u,(valCells l)[j]?=some u→w.cell? ⟨b,o + j,none⟩=some u):ValsAt w (some ⟨b,o,none⟩) l:=fun i hi=>by
 obtain ⟨k1,k2,k3⟩:=valCells_at l i hi
 exact ⟨b,o,rfl,hb,h _ _ k1,by have:=h _ _ k2; rwa [← Nat.add_assoc] at this,by have:=h _ _ k3; rwa [← Nat.add_assoc] at this⟩
def RowV (w:World) (base:Nat) (v:Value) (l:List V):Prop:=w.ownsRow base 23 3 v l.length (valCells l)
theorem RowV.new (w:World):RowV (w.alloc (.cells #[] 23)) w.heap.size (.slice (some ⟨w.heap.size,0,none⟩) 0 0) []:=
 ⟨rfl,.inr ⟨w.heap.size,0,#[],rfl,Nat.le_refl _,heap_alloc_new w _,Nat.le_refl _,Nat.zero_le _,rfl,rfl⟩⟩
theorem RowV.of_heap {w w':World} {base:Nat} {v:Value} {l:List V} (h:RowV w base v l) (hv:∀ k,v.ownBlock=some k→w'.heap[k]?=w.heap[k]?):RowV w' base v l:=ownsRow_of_heap h hv
theorem RowV.block {w:World} {base:Nat} {v:Value} {l:List V} (h:RowV w base v l):∀ k,v.ownBlock=some k→base≤k∧k < w.heap.size:=fun k e=>by
 obtain ⟨cur,hc⟩:=row_kind h e
 exact ⟨own_ge h e,(Array.getElem?_eq_some_iff.1 hc).1⟩
theorem RowV.below {w w':World} {base:Nat} {v:Value} {l:List V} (h:RowV w base v l) (hb:Below w.heap.size w w'):RowV w' base v l:=h.of_heap fun k e=>hb.block k (h.block k e).2
theorem RowV.shape {w:World} {base:Nat} {v:Value} {l:List V} (h:RowV w base v l):∃ A c,v=.slice A l.length c∧l.length≤c∧c≤maxLen∧ValsAt w A l:=by
 rcases h.2 with ⟨rfl,h0⟩ | ⟨g,cap,cur,rfl,hb,hh,hn,hm,hs,ht⟩
 ·have:l=[]:=List.eq_nil_of_length_eq_zero h0
  subst this
  exact ⟨none,0,rfl,Nat.le_refl _,Nat.zero_le _,ValsAt.nil _ _⟩
 ·refine ⟨_,cap,rfl,hn,hm,ValsAt.of_cells (Array.getElem?_eq_some_iff.1 hh).1 fun j u hu=>?_⟩
  have hj:j < l.length * 3:=by rw [← valCells_len]; exact (List.getElem?_eq_some_iff.1 hu).1
  rw [Nat.zero_add,cell_of_row w g j cur 23 (0,0) hh,← hu,← ht,List.getElem?_take,if_pos (by omega)]
  simp
theorem infoValue:(Tryz.prog.info? 23).map (fun i=>(i.zero.map (fun z=>z.cells.size),i.size,decide (i.bytes≤1000)))=some (some 3,3,true):=by kernel_rfl
theorem append_vals {w:World} {base:Nat} {v:Value} {l m:List V} (h:RowV w base v l) {A:Option Addr} {c:Nat} (hm:ValsAt w A m) (hn:l.length + m.length≤1000000) (hbase:base≤w.heap.size) :
  ∃ v' w',Sem.run Tryz.prog (Builtin.append_ #[28,28] 28 #[v,.slice A m.length c]) w=.ok v' w'∧RowV w' base v' (l ++ m)∧Touch v.ownBlock.toList w w'∧(v'.ownBlock=v.ownBlock∨v'.ownBlock=some w.heap.size):=by
 have hinf:=infoValue
 cases hi:Tryz.prog.info? 23 with
 | none=>rw [hi] at hinf; simp at hinf
 | some i=>
  rw [hi] at hinf
  simp at hinf
  obtain ⟨⟨z,hz,i1⟩,i2,i3⟩:=hinf
  have hb:∀ (a b:Nat),a≤1000001→b≤1000→a * b≤140737488355328:=fun a b h1 h2=>Nat.le_trans (Nat.mul_le_mul h1 h2) (by omega)
  cases A with
  | none=>
   have hm0:m=[]:=by
    cases m with
    | nil=>rfl
    | cons x r=>obtain ⟨b,o,e,_⟩:=hm 0 (by simp); cases e
   subst hm0
   refine ⟨v,w,?_,by simpa using h,Touch.refl _ _,.inl rfl⟩
   rcases h.2 with ⟨rfl,_⟩ | ⟨g,cap,cur,rfl,_,_,hnc,_⟩
   ·simp [Builtin.append_,run_underlying Tryz.underlying28,sizeOf,typeInfo,hi,Builtin.lenOf,Builtin.firstCells]
   ·simp [Builtin.append_,run_underlying Tryz.underlying28,sizeOf,typeInfo,hi,Builtin.lenOf,Builtin.firstCells,hnc,storeCells]
  | some a=>
   have key:∀ j u,(valCells m)[j]?=some u→w.cell? (a.add j)=some u:=fun j u hu=>by
    have hj:j < m.length * 3:=by rw [← valCells_len]; exact (List.getElem?_eq_some_iff.1 hu).1
    obtain ⟨b,o,e,_⟩:=hm 0 (by omega)
    cases e
    rw [Addr.add_lit]
    exact hm.cells j u hu
   obtain ⟨v',w',hr,ho,hg,_,hb'⟩:=run_append_own_at (P:=Tryz.prog) w base 28 28 23 i z 3 i.bytes Tryz.underlying28 hi hz i2 rfl i1 (by omega) v l.length (valCells l) h a m.length c (valCells m) (valCells_len m) key (valCells_one m) (by simp only [maxLen]; omega) (hb _ _ (by omega) i3) hbase
   exact ⟨v',w',hr,by unfold RowV; rw [List.length_append,valCells_append]; exact ho,Touch.of_grown hg,hb'⟩
end Go.Proofs.YteghhmomhlnccaaGreatDoor
namespace Go.Proofs.YteghhmomhlnccaaGreatDoor
open Ex (Tree)
structure NmAt (w:World) (T:Tree) (j:Nat) (s3 s4:Value) (wr:World) (N:List (List UInt8)) (td:List Tree) (At:Option Addr) (ct:Nat):Prop where
 meas:Ex.counts td < j
 all:Ex.once N (Ex.flats td)=Ex.names T
 row:SRow wr w.heap.size s3 (N.map tx)
 val:s4=.slice At td.length ct
 cap:td.length≤ct
 src:SrcT (· < w.heap.size) wr At td
 far:∀ b o,At=some ⟨b,o,none⟩→s3.ownBlock ≠ some b∧b < wr.heap.size
 below:Below w.heap.size w wr
 few:N.length + Ex.counts td≤500000
end Go.Proofs.YteghhmomhlnccaaGreatDoor
namespace Go.Proofs.YteghhmomhlnccaaGreatDoor
open Ex (Tree)
def NodeNew (B:Nat) (w:World) (v:Value):Tree→Prop
 | .node op t vk vn vs ks=>∃ A c,v=.agg (ncells op t vk vn vs A ks.length c)∧ks.length≤c∧TreesIn (B≤·) w A 0 ks
theorem NodeNew.node {B:Nat} {w:World} {v:Value} : ∀ {x:Tree},NodeNew B w v x→NodeV w v x
 | .node op t vk vn vs ks,⟨A,c,e,hc,hk⟩=>⟨A,c,e,hc,hk.at⟩
theorem NodeNew.le {B B':Nat} (hB:B'≤B) {w:World} {v:Value} : ∀ {x:Tree},NodeNew B w v x→NodeNew B' w v x
 | .node op t vk vn vs ks,⟨A,c,e,hc,hk⟩=>⟨A,c,e,hc,hk.moved fun k h _=>⟨rfl,Nat.le_trans hB h⟩⟩
theorem NodeNew.below {B:Nat} {w w':World} (hb:Below w.heap.size w w') {v:Value} : ∀ {x:Tree},NodeNew B w v x→NodeNew B w' v x
 | .node op t vk vn vs ks,⟨A,c,e,hc,hk⟩=>⟨A,c,e,hc,hk.below hb⟩
theorem SrcT.empty {S:Nat→Prop} {w:World} {l:List Tree} (h:SrcT S w none l):l=[]:=by
 cases l with
 | nil=>rfl
 | cons x r=>
  cases x with
  | node op t vk vn vs ks=>
  obtain ⟨b,o,B,c,e,-⟩:=h.head
  cases e
theorem set6 {xs r:List Value} {a0 a1 a2 a3 a4 a5:Value} (u0 u1 u2 u3 u4 u5:Value) {n:Nat} (hn:xs.length=n) :
  ((((((xs ++ a0 :: a1 :: a2 :: a3 :: a4 :: a5 :: r).set n u0).set (n + 1) u1).set (n + 2) u2).set (n + 3) u3).set (n + 4) u4).set (n + 5) u5=xs ++ u0 :: u1 :: u2 :: u3 :: u4 :: u5 :: r:=by
 subst hn
 simp [List.set_append_right]
abbrev set6W (w:World) (g p:Nat) (u0 u1 u2 u3 u4 u5:Value):World:=(((((w.setCell ⟨g,p,none⟩ u0).setCell ⟨g,p + 1,none⟩ u1).setCell ⟨g,p + 2,none⟩ u2).setCell ⟨g,p + 3,none⟩ u3).setCell ⟨g,p + 4,none⟩ u4).setCell ⟨g,p + 5,none⟩ u5
theorem set6_touch (w:World) (g p:Nat) (u0 u1 u2 u3 u4 u5:Value):Touch [g] w (set6W w g p u0 u1 u2 u3 u4 u5):=
 ((((((Touch.refl _ _).setCell (q:=⟨g,p,none⟩) (.inl (by simp)) u0).setCell (q:=⟨g,p + 1,none⟩) (.inl (by simp)) u1).setCell (q:=⟨g,p + 2,none⟩) (.inl (by simp)) u2).setCell (q:=⟨g,p + 3,none⟩) (.inl (by simp)) u3).setCell (q:=⟨g,p + 4,none⟩) (.inl (by simp)) u4).setCell (q:=⟨g,p + 5,none⟩) (.inl (by simp)) u5
abbrev set6Z (w:World) (g:Nat) (u0 u1 u2 u3 u4 u5:Value):World:=(((((w.setCell ⟨g,0,none⟩ u0).setCell ⟨g,1,none⟩ u1).setCell ⟨g,2,none⟩ u2).setCell ⟨g,3,none⟩ u3).setCell ⟨g,4,none⟩ u4).setCell ⟨g,5,none⟩ u5
theorem set6Z_touch (w:World) (g:Nat) (u0 u1 u2 u3 u4 u5:Value):Touch [g] w (set6Z w g u0 u1 u2 u3 u4 u5):=
 ((((((Touch.refl _ _).setCell (q:=⟨g,0,none⟩) (.inl (by simp)) u0).setCell (q:=⟨g,1,none⟩) (.inl (by simp)) u1).setCell (q:=⟨g,2,none⟩) (.inl (by simp)) u2).setCell (q:=⟨g,3,none⟩) (.inl (by simp)) u3).setCell (q:=⟨g,4,none⟩) (.inl (by simp)) u4).setCell (q:=⟨g,5,none⟩) (.inl (by simp)) u5
theorem set6Z_whole {w:World} {g:Nat} {t:TypeId} {a0 a1 a2 a3 a4 a5:Value} (h:Whole w g t #[a0,a1,a2,a3,a4,a5]) (u0 u1 u2 u3 u4 u5:Value):Whole (set6Z w g u0 u1 u2 u3 u4 u5) g t #[u0,u1,u2,u3,u4,u5]:=
 (((((h.set_ 0 u0).set_ 1 u1).set_ 2 u2).set_ 3 u3).set_ 4 u4).set_ 5 u5
theorem sizeExpr:(Tryz.prog.info? 26).map (·.size)=some 6:=by kernel_rfl
theorem frozen6 {w:World} {g:Nat} {t:TypeId} {cs:Array Value} (h:Whole w g t cs):w.frozen? ⟨g,0,none⟩=false∧w.frozen? ⟨g,1,none⟩=false∧w.frozen? ⟨g,2,none⟩=false∧w.frozen? ⟨g,3,none⟩=false∧w.frozen? ⟨g,4,none⟩=false∧w.frozen? ⟨g,5,none⟩=false:=⟨h.frozen _,h.frozen _,h.frozen _,h.frozen _,h.frozen _,h.frozen _⟩
structure KidsAt (w0:World) (B g:Nat) (wr:World) (done left:List Tree):Prop where
 row:∃ cur xs ys,Whole wr g 26 cur∧cur.toList.take ((done.length + left.length) * 6)=xs ++ ys∧CellsT (fun k=>B≤k∧k ≠ g) wr xs done∧CellsT (· < w0.heap.size) wr ys left
 own:B≤g
 old:w0.heap.size≤B
theorem KidsAt.moved {w0 wr w':World} {B g:Nat} {done left:List Tree} (h:KidsAt w0 B g wr done left) {H:List Nat} (ht:Touch H wr w') (hH:∀ k ∈ H,w0.heap.size≤k∧(k < B∨wr.heap.size≤k)):KidsAt w0 B g w' done left:=by
 obtain ⟨⟨cur,xs,ys,h1,h2,h3,h4⟩,h5,h6⟩:=h
 have hf:∀ k,k < wr.heap.size→(k < w0.heap.size∨B≤k)→w'.heap[k]?=wr.heap[k]?:=fun k hk hkB=>ht.block k hk (fun hh=>by have:=hH k hh; omega)
 exact ⟨⟨cur,xs,ys,(hf g h1.lt (.inr h5)).trans h1,h2,h3.moved fun k hk hlt=>⟨hf k hlt (.inr hk.1),hk⟩,h4.moved fun k hk hlt=>⟨hf k hlt (.inl hk),hk⟩⟩,h5,h6⟩
theorem KidsAt.below {w0 wr w':World} {B g:Nat} {done left:List Tree} (h:KidsAt w0 B g wr done left) (hb:Below wr.heap.size wr w'):KidsAt w0 B g w' done left:=h.moved (Touch.of_below hb []) (by simp)
theorem KidsAt.next {w0 wr:World} {B g:Nat} {done left:List Tree} {op:Int} {t:List UInt8} {vk vn:Int} {vs:List UInt8} {ks:List Tree} (h:KidsAt w0 B g wr done (.node op t vk vn vs ks :: left)) :
  ∃ C c,wr.cell? ⟨g,done.length * 6,none⟩=some (.int .i64 op)∧wr.cell? ⟨g,done.length * 6 + 1,none⟩=some (.string (tx t))∧wr.cell? ⟨g,done.length * 6 + 2,none⟩=some (.int .i64 vk)∧wr.cell? ⟨g,done.length * 6 + 3,none⟩=some (.int .i64 vn)∧wr.cell? ⟨g,done.length * 6 + 4,none⟩=some (.string (tx vs)) ∧
   wr.cell? ⟨g,done.length * 6 + 5,none⟩=some (.slice C ks.length c)∧NodeV wr (.agg (ncells op t vk vn vs C ks.length c)) (.node op t vk vn vs ks)∧∀ j,wr.frozen? ⟨g,j,none⟩=false:=by
 obtain ⟨⟨cur,xs,ys,h1,h2,h3,h4⟩,h5,h6⟩:=h
 obtain ⟨C,c,r,rfl,hc,hk,hr⟩:=h4
 have hl:=h3.length
 have key:∀ j u,j < 6→(Value.int IntKind.i64 op :: .string (tx t) :: .int .i64 vk :: .int .i64 vn :: .string (tx vs) :: .slice C ks.length c :: r)[j]?=some u→wr.cell? ⟨g,done.length * 6 + j,none⟩=some u:=fun j u hj hu=>by
  rw [h1.cell]
  have e:=congrArg (fun l=>l[done.length * 6 + j]?) h2
  try simp only at e
  rw [List.getElem?_take,if_pos (by rw [List.length_cons]; omega),List.getElem?_append_right (by omega),show done.length * 6 + j - xs.length=j by omega,hu] at e
  simpa using e
 exact ⟨C,c,by simpa using key 0 _ (by omega) rfl,key 1 _ (by omega) rfl,key 2 _ (by omega) rfl,key 3 _ (by omega) rfl,key 4 _ (by omega) rfl,key 5 _ (by omega) rfl,⟨C,c,rfl,hc,hk.at⟩,fun j=>h1.frozen j⟩
theorem KidsAt.set_ {w0 wr:World} {B g:Nat} {done left:List Tree} {x:Tree} (h:KidsAt w0 B g wr done (x :: left)) {op:Int} {t:List UInt8} {vk vn:Int} {vs:List UInt8} {ks:List Tree} {C:Option Addr} {c:Nat} (hc:ks.length≤c) (hk:TreesIn (fun k=>B≤k∧k ≠ g) wr C 0 ks) :
  KidsAt w0 B g (set6W wr g (done.length * 6) (.int .i64 op) (.string (tx t)) (.int .i64 vk) (.int .i64 vn) (.string (tx vs)) (.slice C ks.length c)) (done ++ [.node op t vk vn vs ks]) left:=by
 cases x with
 | node op' t' vk' vn' vs' ks'=>
 obtain ⟨⟨cur,xs,ys,h1,h2,h3,h4⟩,h5,h6⟩:=h
 obtain ⟨C',c',r,rfl,hc',hk',hr⟩:=h4
 have hl:=h3.length
 have hT:=set6_touch wr g (done.length * 6) (.int .i64 op) (.string (tx t)) (.int .i64 vk) (.int .i64 vn) (.string (tx vs)) (.slice C ks.length c)
 have hf:∀ k,k ≠ g→(set6W wr g (done.length * 6) (.int .i64 op) (.string (tx t)) (.int .i64 vk) (.int .i64 vn) (.string (tx vs)) (.slice C ks.length c)).heap[k]?=wr.heap[k]?:=fun k hk=>by
  unfold set6W
  simp only [heap_set_other _ _ _ _ _ hk]
 have hW:=(((((h1.set_ (done.length * 6) (.int .i64 op)).set_ (done.length * 6 + 1) (.string (tx t))).set_ (done.length * 6 + 2) (.int .i64 vk)).set_ (done.length * 6 + 3) (.int .i64 vn)).set_ (done.length * 6 + 4) (.string (tx vs))).set_ (done.length * 6 + 5) (.slice C ks.length c)
 refine ⟨⟨_,xs ++ [.int .i64 op,.string (tx t),.int .i64 vk,.int .i64 vn,.string (tx vs),.slice C ks.length c],r,hW,?_,?_,?_⟩,h5,h6⟩
 ·simp only [Array.toList_setIfInBounds,List.take_set]
  rw [List.length_append,List.length_singleton,show (done.length + 1 + left.length) * 6=(done.length + (Tree.node op' t' vk' vn' vs' ks' :: left).length) * 6 by rw [List.length_cons]; omega,h2,set6 _ _ _ _ _ _ hl]
  simp
 ·refine CellsT.append (h3.moved fun k hk _=>⟨hf k hk.2,hk⟩) ⟨C,c,[],rfl,hc,hk.moved fun k hk _=>⟨hf k hk.2,hk⟩,rfl⟩
 ·exact hr.moved fun k hk _=>⟨hf k (by omega),hk⟩
theorem KidsAt.all {w0 wr:World} {B g:Nat} {done:List Tree} (h:KidsAt w0 B g wr done []):TreesIn (B≤·) wr (some ⟨g,0,none⟩) 0 done:=by
 obtain ⟨⟨cur,xs,ys,h1,h2,h3,h4⟩,h5,h6⟩:=h
 have hl:=h3.length
 rw [show ys=[] from h4,List.append_nil] at h2
 refine (h3.trees h1.lt 0 fun j u hu=>?_).moved fun k hk _=>⟨rfl,hk.elim (·.1) (fun e=>by rw [e]; exact h5)⟩
 have hj:j < xs.length:=(List.getElem?_eq_some_iff.1 hu).1
 rw [Nat.zero_add,h1.cell,← hu,← h2,List.getElem?_take,if_pos (by simp; omega)]
 simp
theorem RowT.kids {w0 w:World} {B:Nat} {v:Value} {l:List Tree} (h:RowT (· < w0.heap.size) w B v l) (hB:w0.heap.size≤B):(l=[]∧v=.slice none 0 0)∨∃ g cap,v=.slice (some ⟨g,0,none⟩) l.length cap∧l.length≤cap∧KidsAt w0 B g w [] l:=by
 obtain ⟨xs,h1,h2,h3⟩:=h
 rcases h1.2 with ⟨rfl,h0⟩ | ⟨g,cap,cur,rfl,hb,hh,hn,hm,hs,ht⟩
 ·exact .inl ⟨List.eq_nil_of_length_eq_zero h0,rfl⟩
 ·exact .inr ⟨g,cap,rfl,hn,⟨⟨cur,[],xs,hh,by simpa using ht,rfl,h2⟩,hb,hB⟩⟩
theorem KidsAt.lt {w0 wr:World} {B g:Nat} {done left:List Tree} (h:KidsAt w0 B g wr done left):g < wr.heap.size:=let ⟨⟨_,_,_,h1,_⟩,_,_⟩:=h; h1.lt
end Go.Proofs.YteghhmomhlnccaaGreatDoor
