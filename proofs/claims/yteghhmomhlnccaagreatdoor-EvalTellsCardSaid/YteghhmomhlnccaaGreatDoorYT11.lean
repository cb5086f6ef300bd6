import Derived.Test.YteghhmomhlnccaaGreatDoorYT4
import Derived.Test.YteghhmomhlnccaaGreatDoorYT10
import Derived.Test.YteghhmomhlnccaaGreatDoorYT3
import Derived.Lib.ItoaLen
set_option linter.unusedVariables false
set_option linter.unusedSimpArgs false
set_option maxRecDepth 100000
set_option maxHeartbeats 100000000
open Go.RowKit Go.Lib
namespace Go.Proofs.YteghhmomhlnccaaGreatDoor
open Ex (Tree)
abbrev Col:=List UInt8 × Int
namespace Kd
def ix (C:List Col) (n:List UInt8):Option Nat:=C.findIdx? (fun c=>c.1 == n)
def ixV:Option Nat→Int
 | none=>-1
 | some i=>i
def fk (C:List Col) (n:List UInt8):Option Int:=(C.find? (fun c=>c.1 == n)).map (·.2)
theorem ix_some {C:List Col} {n:List UInt8} {i:Nat} (h:i < C.length) (h1:C[i].1=n) (h2:∀ j (hj:j < C.length),j < i→C[j].1 ≠ n):ix C n=some i:=by
 rw [ix,List.findIdx?_eq_some_iff_getElem]
 exact ⟨h,by simpa using h1,fun j hj=>by simpa using h2 j (by omega) hj⟩
theorem ix_none {C:List Col} {n:List UInt8} (h2:∀ j (hj:j < C.length),C[j].1 ≠ n):ix C n=none:=by
 rw [ix,List.findIdx?_eq_none_iff]
 intro x hx
 obtain ⟨j,hj,rfl⟩:=List.getElem_of_mem hx
 simpa using h2 j hj
theorem ix_spec {C:List Col} {n:List UInt8} {i:Nat} (h:ix C n=some i):∃ hi:i < C.length,C[i].1=n∧∀ j (hj:j < C.length),j < i→C[j].1 ≠ n:=by
 rw [ix,List.findIdx?_eq_some_iff_getElem] at h
 obtain ⟨h1,h2,h3⟩:=h
 exact ⟨h1,by simpa using h2,fun j hj hji=>by simpa using h3 j hji⟩
def goodAt (C:List Col) (i:Nat):Prop:=∃ h:i < C.length,Lx.isName C[i].1=true∧1≤C[i].2∧C[i].2≤3∧∀ j (hj:j < C.length),j < i→C[j].1 ≠ C[i].1
def Good (C:List Col):Prop:=∀ i,i < C.length→goodAt C i
theorem good_iff (C:List Col):Good C ↔ (∀ c ∈ C,Lx.isName c.1=true∧1≤c.2∧c.2≤3)∧(C.map (·.1)).Nodup:=by
 constructor
 ·intro h
  refine ⟨fun c hc=>?_,?_⟩
  ·obtain ⟨i,hi,rfl⟩:=List.getElem_of_mem hc
   obtain ⟨_,h1,h2,h3,-⟩:=h i hi
   exact ⟨h1,h2,h3⟩
  ·rw [List.Nodup,List.pairwise_iff_getElem]
   intro i j hi hj hij
   obtain ⟨_,-,-,-,h4⟩:=h j (by simpa using hj)
   simpa using h4 i (by simpa using hi) hij
 ·rintro ⟨h1,h2⟩ i hi
  obtain ⟨a,b,c⟩:=h1 _ (List.getElem_mem hi)
  refine ⟨hi,a,b,c,fun j hj hji=>?_⟩
  rw [List.Nodup,List.pairwise_iff_getElem] at h2
  have:=h2 j i (by rw [List.length_map]; exact hj) (by rw [List.length_map]; exact hi) hji
  rw [List.getElem_map,List.getElem_map] at this
  exact this
def stepK (ask kind one:Int):Option Int:=
 if ask=-1 then (if kind=(if one=0 then kind else one)∨kind=0 then some (if one=0 then kind else one) else none)
 else if kind=ask∨kind=0 then some one else none
def ovr (asks kinds:List Int):Nat→Option Int
 | 0=>some 0
 | i + 1=>match ovr asks kinds i with
  | none=>none
  | some one=>stepK (asks.getD i 0) (kinds.getD i 0) one
def over (g:Int) (asks kinds:List Int):Int × Int:=match ovr asks kinds kinds.length with
 | none=>(0,10)
 | some one=>if g=-1 then (one,0) else (g,0)
def shT (t:List UInt8):Int × List Int:=
 bif t == [111,114] then (3,[3,3]) else
 bif t == [97,110,100] then (3,[3,3]) else
 bif t == [61] then (3,[-1,-1]) else
 bif t == [33,61] then (3,[-1,-1]) else
 bif t == [60] then (3,[-1,-1]) else
 bif t == [60,61] then (3,[-1,-1]) else
 bif t == [62] then (3,[-1,-1]) else
 bif t == [62,61] then (3,[-1,-1]) else
 bif t == [43] then (1,[1,1]) else
 bif t == [45] then (1,[1,1]) else
 bif t == [42] then (1,[1,1]) else
 bif t == [47] then (1,[1,1]) else
 bif t == [37] then (1,[1,1]) else
 bif t == [38] then (2,[2,2]) else
 bif t == [108,101,110] then (1,[2]) else
 bif t == [110,117,109] then (1,[2]) else
 bif t == [115,116,114] then (2,[1]) else
 bif t == [108,101,102,116] then (2,[2,1]) else
 bif t == [114,105,103,104,116] then (2,[2,1]) else
 bif t == [105,115,110,117,108,108] then (3,[-1]) else
 bif t == [110,118,108] then (-1,[-1,-1]) else
 (-1,[3,-1,-1])
def sh (op:Int) (t:List UInt8):Int × List Int:=if op=3 then (1,[1]) else if op=4 then (3,[3]) else shT t
mutual
def kd (C:List Col):Tree→Int × Int
 | .node op t vk vn vs ks=>
  if op=1 then (vk,0) else
  if op=2 then (match fk C t with
   | none=>(0,9)
   | some k=>(k,0)) else
  (if (kds C ks).1=0 then over (sh op t).1 (sh op t).2 (kds C ks).2 else (0,(kds C ks).1))
def kds (C:List Col):List Tree→Int × List Int
 | []=>(0,[])
 | x :: l=>if (kd C x).2=0 then ((kds C l).1,(kd C x).1 :: (kds C l).2) else ((kd C x).2,[])
end
end Kd
end Go.Proofs.YteghhmomhlnccaaGreatDoor
namespace Go.Proofs.YteghhmomhlnccaaGreatDoor
def ColsAt (w:World) (A:Option Addr) (C:List Col):Prop:=∀ i (h:i < C.length),∃ b o,A=some ⟨b,o,none⟩∧b < w.heap.size∧w.cell? ⟨b,o + i * 2,none⟩=some (.string (tx C[i].1))∧w.cell? ⟨b,o + i * 2 + 1,none⟩=some (.int .i64 C[i].2)
abbrev ncol (c:Col):Array Value:=#[.string (tx c.1),.int .i64 c.2]
theorem ColsAt.below {w w':World} {A:Option Addr} {C:List Col} (h:ColsAt w A C) (hb:Below w.heap.size w w'):ColsAt w' A C:=fun i hi=>by
 obtain ⟨b,o,e,h1,h2,h3⟩:=h i hi
 exact ⟨b,o,e,Nat.lt_of_lt_of_le h1 hb.size,(hb.cell (p:=⟨b,o + i * 2,none⟩) h1).trans h2,(hb.cell (p:=⟨b,o + i * 2 + 1,none⟩) h1).trans h3⟩
theorem ColsAt.nil (w:World) (A:Option Addr):ColsAt w A []:=fun i hi=>absurd hi (Nat.not_lt_zero _)
theorem ColsAt.drop {w:World} {b o:Nat} {C:List Col} (h:ColsAt w (some ⟨b,o,none⟩) C) (n:Nat):ColsAt w (some ⟨b,o + n * 2,none⟩) (C.drop n):=fun i hi=>by
 rw [List.length_drop] at hi
 obtain ⟨b',o',e,h1,h2,h3⟩:=h (n + i) (by omega)
 cases e
 refine ⟨b,o + n * 2,rfl,h1,?_,?_⟩
 ·rw [show o + n * 2 + i * 2=o + (n + i) * 2 by omega,h2,List.getElem_drop]
 ·rw [show o + n * 2 + i * 2 + 1=o + (n + i) * 2 + 1 by omega,h3,List.getElem_drop]
theorem ColsAt.take {w:World} {A:Option Addr} {C:List Col} (h:ColsAt w A C) (n:Nat):ColsAt w A (C.take n):=fun i hi=>by
 rw [List.length_take] at hi
 obtain ⟨b,o,e,h1,h2,h3⟩:=h i (by omega)
 exact ⟨b,o,e,h1,by rw [h2,List.getElem_take],by rw [h3,List.getElem_take]⟩
def fitC (C:List Col):Prop:=∀ c ∈ C,c.1.length≤maxLen
theorem cellsCol:Tryz.prog.cellsOf 45=2:=by kernel_rfl
theorem choose_col {n:Nat} {R:Nat→Col→Prop} (h:∀ i,i < n→∃ x,R i x):∃ l:List Col,l.length=n∧∀ i (hi:i < l.length),R i l[i]:=by
 induction n with
 | zero=>exact ⟨[],rfl,fun i hi=>absurd hi (by simp)⟩
 | succ n ih=>
  obtain ⟨l,h1,h2⟩:=ih fun i hi=>h i (by omega)
  obtain ⟨x,hx⟩:=h n (by omega)
  refine ⟨l ++ [x],by simp [h1],fun i hi=>?_⟩
  by_cases e:i < l.length
  ·rw [List.getElem_append_left e]; exact h2 i e
  ·have:i=n:=by simp at hi; omega
   subst this
   rw [List.getElem_append_right (by omega)]
   simpa [h1] using hx
section
open Go.Deep Go.Joins Go.WideShapes Go.ChangeShapes
variable {H : Type} {enc : TypeId × Value → H} {W : World} {base : Nat} {spare : Nat → Bool} {held : Bool}
theorem opens_col {fuel:Nat} {cs:List Value} {x:DataW H × List MemPlace} (h:DataW.trod enc Tryz.prog W base spare held fuel 45 cs=some x):∃ c:Col,cs=(ncol c).toList∧c.1.length≤maxLen:=by
 obtain ⟨y0,y1,n,-,hl,h0,h1⟩:=trod_struct2 Tryz.underlying45 h
 rw [cellsCol] at hl
 match cs,hl with
 | [c0,c1],_=>
  have z0:Tryz.prog.cellsOf 3=1:=by kernel_rfl
  have z1:Tryz.prog.cellsOf 9=1:=by kernel_rfl
  simp only [z0,z1,List.drop,List.take] at h0 h1
  obtain ⟨s,e0,-,w0⟩:=DataW.trod_string Tryz.underlying9 h0
  obtain ⟨k,e1,-,-⟩:=DataW.trod_int Tryz.underlying3 h1
  cases e0; cases e1
  refine ⟨(s.data.toList,k),by simp [ncol,tx],?_⟩
  have:s.data.toList.length=s.size:=by simp
  show s.data.toList.length≤maxLen
  omega
theorem opens_cols {fuel:Nat} {cs:List Value} {x:DataW H × List MemPlace} (h:DataW.trod enc Tryz.prog W base spare held fuel 27 cs=some x):∃ (C:List Col) (A:Option Addr) (c:Nat),cs=[.slice A C.length c]∧C.length≤c∧c≤maxLen∧ColsAt W A C∧fitC C∧(A=none→c=0):=by
 rcases DataW.trod_slice Tryz.underlying27 h with ⟨hcs,_⟩ | ⟨a,len,cap,elems,rest,m,rfl,hcs,-,-,hle,hmx,hln,hel,-⟩
 ·cases hcs
  exact ⟨[],none,0,rfl,Nat.le_refl _,Nat.zero_le _,ColsAt.nil _ _,fun c hc=>absurd hc (by simp),fun _=>rfl⟩
 ·cases hcs
  have hk:∀ i,i < len→∃ x:Col,(∃ b o,a=⟨b,o,none⟩∧b < W.heap.size∧W.cell? ⟨b,o + i * 2,none⟩=some (.string (tx x.1))∧W.cell? ⟨b,o + i * 2 + 1,none⟩=some (.int .i64 x.2))∧x.1.length≤maxLen:=by
   intro i hi
   have hh:=hel i hi
   rw [cellsCol,List.getElem?_eq_getElem (by omega)] at hh
   obtain ⟨cs',h5,h6⟩:=Option.bind_eq_some_iff.1 hh
   obtain ⟨x,rfl,k4⟩:=opens_col h6
   obtain ⟨_,_,hat⟩:=World.cells?_some h5
   obtain ⟨b,o,spot⟩:=a
   have q0:=hat 0 (by show 0 < 2; omega)
   have q1:=hat 1 (by show 1 < 2; omega)
   rw [Go.Deep.add_add] at q0 q1
   have hspot:spot=none:=by
    have hh:=hel 0 (by omega)
    rw [cellsCol,List.getElem?_eq_getElem (by omega)] at hh
    obtain ⟨cs2,h52,h62⟩:=Option.bind_eq_some_iff.1 hh
    obtain ⟨x2,rfl,-⟩:=opens_col h62
    obtain ⟨_,_,hat2⟩:=World.cells?_some h52
    have:=World.cell?_spot (hat2 0 (by show 0 < 2; omega))
    simpa [Addr.add] using this
   subst hspot
   rw [Addr.add_lit] at q0 q1
   exact ⟨x,⟨b,o,rfl,World.block_lt_of_cell? W _ q0,by simpa using q0,by simpa [Nat.add_assoc] using q1⟩,k4⟩
  obtain ⟨l,hl1,hl2⟩:=choose_col hk
  refine ⟨l,some a,cap,by rw [hl1],by omega,hmx,fun i hi=>?_,fun c hc=>?_,fun h=>by cases h⟩
  ·obtain ⟨b,o,rfl,k⟩:=(hl2 i hi).1
   exact ⟨b,o,rfl,k⟩
  ·obtain ⟨i,hi,rfl⟩:=List.getElem_of_mem hc
   exact (hl2 i hi).2
theorem open_cols {r:Reach} {b0:Nat} {v:Value} {d:DataW H} {p:List MemPlace} (hv:Value.okWide Tryz.prog W r b0 27 v) (h:DataW.Trod enc Tryz.prog W base spare held 27 v d p):∃ (C:List Col) (A:Option Addr) (c:Nat),v=.slice A C.length c∧C.length≤c∧c≤maxLen∧ColsAt W A C∧fitC C∧(A=none→c=0):=by
 obtain ⟨A,n,c,rfl⟩:∃ A n c,v=.slice A n c:=okWide_slice Tryz.underlying27 hv
 obtain ⟨fuel,hf⟩:=h
 obtain ⟨C,A',c',hcs,h1,h2,h3,h4⟩:=opens_cols hf
 refine ⟨C,A',c',?_,h1,h2,h3,h4⟩
 simpa [Value.cells] using hcs
end
def colCells (C:List Col):List Value:=C.flatMap fun c=>[.string (tx c.1),.int .i64 c.2]
theorem colCells_len:∀ C:List Col,(colCells C).length=C.length * 2
 | []=>rfl
 | c :: C=>by
  have:=colCells_len C
  rw [colCells,List.flatMap_cons,← colCells,List.length_append,this]
  simp only [List.length_cons,List.length_nil]; omega
theorem colCells_at:∀ (C:List Col) (i:Nat) (h:i < C.length),(colCells C)[i * 2]?=some (.string (tx C[i].1))∧(colCells C)[i * 2 + 1]?=some (.int .i64 C[i].2)
 | c :: C,0,h=>⟨rfl,rfl⟩
 | c :: C,i + 1,h=>by
  have:=colCells_at C i (by simpa using h)
  rw [colCells,List.flatMap_cons,← colCells,show (i + 1) * 2=i * 2 + 1 + 1 by omega]
  exact this
theorem ColsAt.cells {w:World} {b o:Nat} {C:List Col} (h:ColsAt w (some ⟨b,o,none⟩) C):∀ j u,(colCells C)[j]?=some u→w.cell? ⟨b,o + j,none⟩=some u:=by
 intro j u hu
 have hj:j < C.length * 2:=by rw [← colCells_len]; exact (List.getElem?_eq_some_iff.1 hu).1
 obtain ⟨b',o',e,h1,h2,h3⟩:=h (j / 2) (by omega)
 cases e
 obtain ⟨k1,k2⟩:=colCells_at C (j / 2) (by omega)
 rcases Nat.mod_two_eq_zero_or_one j with hm | hm
 ·rw [show j / 2 * 2=j by omega] at k1 h2
  rw [h2,← k1,hu]
 ·rw [show j / 2 * 2 + 1=j by omega] at k2
  rw [show o + j / 2 * 2 + 1=o + j by omega] at h3
  rw [h3,← k2,hu]
theorem ColsAt.of_cells {w:World} {b o:Nat} {C:List Col} (hb:b < w.heap.size) (h:∀ j u,(colCells C)[j]?=some u→w.cell? ⟨b,o + j,none⟩=some u):ColsAt w (some ⟨b,o,none⟩) C:=fun i hi=>by
 obtain ⟨k1,k2⟩:=colCells_at C i hi
 exact ⟨b,o,rfl,hb,h _ _ k1,by have:=h _ _ k2; rwa [← Nat.add_assoc] at this⟩
def RowC (w:World) (base:Nat) (v:Value) (C:List Col):Prop:=w.ownsRow base 45 2 v C.length (colCells C)
theorem RowC.new (w:World):RowC (w.alloc (.cells #[] 45)) w.heap.size (.slice (some ⟨w.heap.size,0,none⟩) 0 0) []:=
 ⟨rfl,.inr ⟨w.heap.size,0,#[],rfl,Nat.le_refl _,heap_alloc_new w _,Nat.le_refl _,Nat.zero_le _,rfl,rfl⟩⟩
theorem RowC.of_heap {w w':World} {base:Nat} {v:Value} {C:List Col} (h:RowC w base v C) (hv:∀ k,v.ownBlock=some k→w'.heap[k]?=w.heap[k]?):RowC w' base v C:=ownsRow_of_heap h hv
theorem RowC.block {w:World} {base:Nat} {v:Value} {C:List Col} (h:RowC w base v C):∀ k,v.ownBlock=some k→base≤k∧k < w.heap.size:=fun k e=>by
 obtain ⟨cur,hc⟩:=row_kind h e
 exact ⟨own_ge h e,(Array.getElem?_eq_some_iff.1 hc).1⟩
theorem RowC.below {w w':World} {base:Nat} {v:Value} {C:List Col} (h:RowC w base v C) (hb:Below w.heap.size w w'):RowC w' base v C:=h.of_heap fun k e=>hb.block k (h.block k e).2
theorem RowC.shape {w:World} {base:Nat} {v:Value} {C:List Col} (h:RowC w base v C):∃ A c,v=.slice A C.length c∧C.length≤c∧c≤maxLen∧ColsAt w A C:=by
 rcases h.2 with ⟨rfl,h0⟩ | ⟨g,cap,cur,rfl,hb,hh,hn,hm,hs,ht⟩
 ·have:C=[]:=List.eq_nil_of_length_eq_zero h0
  subst this
  exact ⟨none,0,rfl,Nat.le_refl _,Nat.zero_le _,ColsAt.nil _ _⟩
 ·refine ⟨_,cap,rfl,hn,hm,ColsAt.of_cells (Array.getElem?_eq_some_iff.1 hh).1 fun j u hu=>?_⟩
  have hj:j < C.length * 2:=by rw [← colCells_len]; exact (List.getElem?_eq_some_iff.1 hu).1
  rw [Nat.zero_add,cell_of_row w g j cur 45 (0,0) hh,← hu,← ht,List.getElem?_take,if_pos (by omega)]
  simp
def IntsAt (w:World) (A:Option Addr) (l:List Int):Prop:=∀ i (h:i < l.length),∃ b o,A=some ⟨b,o,none⟩∧b < w.heap.size∧w.cell? ⟨b,o + i,none⟩=some (.int .i64 l[i])
theorem IntsAt.below {w w':World} {A:Option Addr} {l:List Int} (h:IntsAt w A l) (hb:Below w.heap.size w w'):IntsAt w' A l:=fun i hi=>by
 obtain ⟨b,o,e,h1,h2⟩:=h i hi
 exact ⟨b,o,e,Nat.lt_of_lt_of_le h1 hb.size,(hb.cell (p:=⟨b,o + i,none⟩) h1).trans h2⟩
theorem IntsAt.whole {w:World} {g:Nat} {l:List Int} (h:Whole w g 3 ((l.map (Value.int .i64)).toArray)):IntsAt w (some ⟨g,0,none⟩) l:=fun i hi=>by
 refine ⟨g,0,rfl,h.lt,?_⟩
 rw [Nat.zero_add,h.cell,List.getElem?_toArray,List.getElem?_map,List.getElem?_eq_getElem hi]; rfl
def RowI (w:World) (base:Nat) (v:Value) (l:List Int):Prop:=w.ownsRow base 3 1 v l.length (l.map (Value.int .i64))
theorem RowI.nil (w:World) (base:Nat):RowI w base (.slice none 0 0) []:=⟨rfl,.inl ⟨rfl,rfl⟩⟩
theorem RowI.of_heap {w w':World} {base:Nat} {v:Value} {l:List Int} (h:RowI w base v l) (hv:∀ k,v.ownBlock=some k→w'.heap[k]?=w.heap[k]?):RowI w' base v l:=ownsRow_of_heap h hv
theorem RowI.block {w:World} {base:Nat} {v:Value} {l:List Int} (h:RowI w base v l):∀ k,v.ownBlock=some k→base≤k∧k < w.heap.size:=fun k e=>by
 obtain ⟨cur,hc⟩:=row_kind h e
 exact ⟨own_ge h e,(Array.getElem?_eq_some_iff.1 hc).1⟩
theorem RowI.below {w w':World} {base:Nat} {v:Value} {l:List Int} (h:RowI w base v l) (hb:Below w.heap.size w w'):RowI w' base v l:=h.of_heap fun k e=>hb.block k (h.block k e).2
theorem RowI.shape {w:World} {base:Nat} {v:Value} {l:List Int} (h:RowI w base v l):∃ A c,v=.slice A l.length c∧l.length≤c∧c≤maxLen∧IntsAt w A l:=by
 rcases h.2 with ⟨rfl,h0⟩ | ⟨g,cap,cur,rfl,hb,hh,hn,hm,hs,ht⟩
 ·have:l=[]:=List.eq_nil_of_length_eq_zero h0
  subst this
  exact ⟨none,0,rfl,Nat.le_refl _,Nat.zero_le _,fun i hi=>absurd hi (Nat.not_lt_zero _)⟩
 ·refine ⟨_,cap,rfl,hn,hm,fun i hi=>⟨g,0,rfl,(Array.getElem?_eq_some_iff.1 hh).1,?_⟩⟩
  have hu:(l.map (Value.int .i64))[i]?=some (.int .i64 l[i]):=by rw [List.getElem?_map,List.getElem?_eq_getElem hi]; rfl
  rw [Nat.zero_add,cell_of_row w g i cur 3 (0,0) hh,← hu,← ht,List.getElem?_take,if_pos (by omega)]
  simp
theorem infoInt:(Tryz.prog.info? 3).map (fun i=>(i.zero.map (fun z=>z.cells.size),i.size,decide (i.bytes≤1000)))=some (some 1,1,true):=by kernel_rfl
theorem append_int {w:World} {base:Nat} {v:Value} {l:List Int} (h:RowI w base v l) (x:Int) (hn:l.length≤1000000) (hbase:base≤w.heap.size) :
  ∃ v' w',Sem.run Tryz.prog (Builtin.append_ #[65,65] 65 #[v,.slice (some ⟨w.heap.size,0,none⟩) 1 1]) (w.alloc (.cells #[.int .i64 x] 3))=.ok v' w'∧RowI w' base v' (l ++ [x])∧Touch v.ownBlock.toList w w'∧(v'.ownBlock=v.ownBlock∨v'.ownBlock=some (w.heap.size + 1)):=by
 have hinf:=infoInt
 cases hi:Tryz.prog.info? 3 with
 | none=>rw [hi] at hinf; simp at hinf
 | some i=>
  rw [hi] at hinf
  simp at hinf
  obtain ⟨⟨z,hz,i1⟩,i2,i3⟩:=hinf
  have hb:∀ (a b:Nat),a≤1000001→b≤1000→a * b≤140737488355328:=fun a b h1 h2=>Nat.le_trans (Nat.mul_le_mul h1 h2) (by omega)
  obtain ⟨v',w',hr,ho,hg,_,hb'⟩:=run_append_own_at (P:=Tryz.prog) (w.alloc (.cells #[.int .i64 x] 3)) base 65 65 3 i z 1 i.bytes Tryz.underlying65 hi hz i2 rfl i1 (by omega) v l.length (l.map (Value.int .i64)) (h.below ((Below.refl _ _).alloc (Nat.le_refl _) _)) ⟨w.heap.size,0,none⟩ 1 1 [.int .i64 x] rfl (by
   intro j u hu
   rw [Addr.add_lit,Nat.zero_add,cell_of_row _ w.heap.size j #[.int .i64 x] 3 (0,0) (heap_alloc_new w _),← hu]
   simp) (by
   intro u hu
   simp at hu
   subst hu
   rfl) (by simp only [maxLen]; omega) (hb _ _ (by omega) i3) (by simp; omega)
  refine ⟨v',w',hr,?_,?_,by simpa using hb'⟩
  ·unfold RowI
   rw [List.length_append,List.map_append]
   exact ho
  ·exact ((Touch.refl _ _).alloc _).grown hg (fun k e=>.inl (by rw [e]; simp))
end Go.Proofs.YteghhmomhlnccaaGreatDoor
namespace Go.Proofs.YteghhmomhlnccaaGreatDoor
open Ex (Tree)
def rngN (_op:Int) (_t:List UInt8) (_vk vn:Int) (_vs:List UInt8) (_n:Nat):Bool:=decide (-9223372036854775808≤vn∧vn≤9223372036854775807)
def rngT (x:Tree):Bool:=Ex.ones rngN x
theorem rngs_of:∀ (l:List Tree),(∀ i (h:i < l.length),rngT l[i]=true)→Ex.oness rngN l=true
 | [],h=>by rw [Ex.oness]
 | x :: l,h=>by
  rw [Ex.oness,Bool.and_eq_true]
  exact ⟨h 0 (by simp),rngs_of l fun i hi=>h (i + 1) (by simpa using hi)⟩
section
open Go.Deep Go.Joins Go.WideShapes Go.ChangeShapes
variable {H : Type} {enc : TypeId × Value → H} {W : World} {base : Nat} {spare : Nat → Bool} {held : Bool}
theorem opens_tree2 (N:Nat):(∀ (fuel:Nat),fuel < N→∀ (cs:List Value) (x:DataW H × List MemPlace),DataW.trod enc Tryz.prog W base spare held fuel 26 cs=some x →
   ∃ (op:Int) (t:List UInt8) (vk vn:Int) (vs:List UInt8) (ks:List Tree) (A:Option Addr) (c:Nat),cs=(ncells op t vk vn vs A ks.length c).toList∧ks.length≤c∧TreesAt W A 0 ks∧fitT (.node op t vk vn vs ks)∧rngT (.node op t vk vn vs ks)=true):=by
 induction N with
 | zero=>intro fuel h; omega
 | succ N ih=>
  intro fuel hlt cs x h
  obtain ⟨xs,n,rfl,-,hl,hlen,hf⟩:=DataW.trod_struct Tryz.underlying26 h
  rw [cellsExpr] at hl
  match cs,hl,xs,hlen with
  | [c0,c1,c2,c3,c4,c5],_,[y0,y1,y2,y3],_=>
   have z0:Tryz.prog.cellsOf 3=1:=by kernel_rfl
   have z1:Tryz.prog.cellsOf 9=1:=by kernel_rfl
   have z2:Tryz.prog.cellsOf 24=1:=by kernel_rfl
   have z3:Tryz.prog.cellsOf 2=1:=by kernel_rfl
   have h0:=hf 0 _ rfl
   have h1:=hf 1 _ rfl
   have h2:=hf 2 _ rfl
   have h3:=hf 3 _ rfl
   simp only [z0,z1,z2,cellsVal,List.drop,List.take,List.getElem?_cons_zero,List.getElem?_cons_succ] at h0 h1 h2 h3
   obtain ⟨op,e0,-,-⟩:=DataW.trod_int Tryz.underlying3 h0
   obtain ⟨s1,e1,-,w1⟩:=DataW.trod_string Tryz.underlying9 h1
   obtain ⟨u0,u1,u2,n2,-,hl2,g0,g1,g2⟩:=trod_struct3 Tryz.underlying23 h2
   simp only [z0,z1,z3,List.drop,List.take] at g0 g1 g2
   obtain ⟨vk,e2,-,-⟩:=DataW.trod_int Tryz.underlying3 g0
   obtain ⟨vn,e3,-,rg⟩:=DataW.trod_int Tryz.underlying2 g1
   obtain ⟨s4,e4,-,w4⟩:=DataW.trod_string Tryz.underlying9 g2
   cases e0; cases e1; cases e2; cases e3; cases e4
   have key:∃ (ks:List Tree) (A:Option Addr) (c:Nat),c5=.slice A ks.length c∧ks.length≤c∧TreesAt W A 0 ks∧fitTs ks∧Ex.oness rngN ks=true:=by
    rcases DataW.trod_slice Tryz.underlying24 h3 with ⟨hcs,_⟩ | ⟨a,len,cap,elems,rest,m,rfl,hcs,-,-,hle,-,hln,hel,-⟩
    ·cases hcs
     exact ⟨[],none,0,rfl,Nat.le_refl _,by rw [TreesAt]; trivial,by rw [fitTs]; trivial,by rw [Ex.oness]⟩
    ·cases hcs
     have hk:∀ i,i < len→∃ x:Tree,(∃ b o,a=⟨b,o,none⟩∧TreeAt W b (o + i * 6) x)∧fitT x∧rngT x=true:=by
      intro i hi
      have hh:=hel i hi
      rw [cellsExpr,List.getElem?_eq_getElem (by omega)] at hh
      obtain ⟨cs',h5,h6⟩:=Option.bind_eq_some_iff.1 hh
      obtain ⟨op',t',vk',vn',vs',ks',A',c',rfl,k2,k3,k4,k5⟩:=ih m (by omega) _ _ h6
      obtain ⟨_,_,hat⟩:=World.cells?_some h5
      obtain ⟨b,o,spot⟩:=a
      have q0:=hat 0 (by show 0 < 6; omega)
      have q1:=hat 1 (by show 1 < 6; omega)
      have q2:=hat 2 (by show 2 < 6; omega)
      have q3:=hat 3 (by show 3 < 6; omega)
      have q4:=hat 4 (by show 4 < 6; omega)
      have q5:=hat 5 (by show 5 < 6; omega)
      rw [Go.Deep.add_add] at q0 q1 q2 q3 q4 q5
      have hspot:spot=none:=by
       have hh:=hel 0 (by omega)
       rw [cellsExpr,List.getElem?_eq_getElem (by omega)] at hh
       obtain ⟨cs2,h52,h62⟩:=Option.bind_eq_some_iff.1 hh
       obtain ⟨op2,t2,vk2,vn2,vs2,ks2,A2,c2,rfl,-⟩:=ih m (by omega) _ _ h62
       obtain ⟨_,_,hat2⟩:=World.cells?_some h52
       have:=World.cell?_spot (hat2 0 (by show 0 < 6; omega))
       simpa [Addr.add] using this
      subst hspot
      rw [Addr.add_lit] at q0 q1 q2 q3 q4 q5
      have hblt:=World.block_lt_of_cell? W _ q0
      exact ⟨.node op' t' vk' vn' vs' ks',⟨b,o,rfl,TreeAt.mk hblt (by simpa using q0) (by simpa [Nat.add_assoc] using q1) (by simpa [Nat.add_assoc] using q2) (by simpa [Nat.add_assoc] using q3) (by simpa [Nat.add_assoc] using q4) (by simpa [Nat.add_assoc] using q5) k2 k3⟩,k4,k5⟩
     obtain ⟨l,hl1,hl2⟩:=choose_tree hk
     refine ⟨l,some a,cap,by rw [hl1],by omega,TreesAt.of _ _ _ fun i hi=>?_,fitTs_of _ fun i hi=>(hl2 i hi).2.1,rngs_of _ fun i hi=>(hl2 i hi).2.2⟩
     obtain ⟨b,o,rfl,k⟩:=(hl2 i hi).1
     exact ⟨b,o,rfl,by rw [Nat.zero_add]; exact k⟩
   obtain ⟨ks,A,c,rfl,hc,hT,hF,hR⟩:=key
   refine ⟨op,s1.data.toList,vk,vn,s4.data.toList,ks,A,c,rfl,hc,hT,?_,?_⟩
   rotate_left
   ·rw [rngT,Ex.ones,hR,Bool.and_true,rngN]
    exact decide_eq_true ((Lit.wf_int_iff .i64 vn).1 rg)
   rw [fitT]
   refine ⟨?_,?_,hF⟩
   ·have:s1.data.toList.length=s1.size:=by simp
    omega
   ·have:s4.data.toList.length=s4.size:=by simp
    omega
theorem open_tree2 {r:Reach} {b0:Nat} {v:Value} {d:DataW H} {p:List MemPlace} (hv:Value.okWide Tryz.prog W r b0 26 v) (h:DataW.Trod enc Tryz.prog W base spare held 26 v d p):∃ x,NodeV W v x∧fitT x∧rngT x=true:=by
 obtain ⟨cs,rfl,hsz⟩:=okWide_struct Tryz.underlying26 hv
 obtain ⟨fuel,hf⟩:=h
 obtain ⟨op,t,vk,vn,vs,ks,A,c,hcs,hc,hT,hF,hR⟩:=opens_tree2 (fuel + 1) fuel (by omega) _ _ hf
 refine ⟨.node op t vk vn vs ks,⟨A,c,?_,hc,hT⟩,hF,hR⟩
 congr 1
 apply Array.ext'
 simpa [Value.cells] using hcs
end
end Go.Proofs.YteghhmomhlnccaaGreatDoor
namespace Go.Proofs.YteghhmomhlnccaaGreatDoor
open Go.Lib
open Ex (Tree)
namespace Ev
structure V where
 k:Int
 n:Int
 s:List UInt8
structure R where
 v:V
 e:Int
def z:V:=⟨0,0,[]⟩
def tru (b:Bool):V:=⟨3,if b then 1 else 0,[]⟩
def err (c:Int):R:=⟨z,c⟩
def ok (v:V):R:=⟨v,0⟩
def num (n:Int):R:=if Fits n then ok ⟨1,n,[]⟩ else err 4
def less (a b:V):Bool:=if a.k=b.k then if a.k=2 then Op.bytesLess a.s b.s else decide (a.n < b.n) else decide (a.k < b.k)
def cmpB (t:List UInt8) (a b:V):Bool:=
 if t=[61] then !less a b && !less b a else
 if t=[33,61] then less a b || less b a else
 if t=[60] then less a b else
 if t=[60,61] then !less b a else
 if t=[62] then less b a else !less a b
def bin (t:List UInt8) (a b:V):R:=
 if Ex.lev t=3 then (if a.k=b.k then ok (tru (cmpB t a b)) else err 10) else
 if t=[38] then (if a.k=2∧b.k=2 then (if a.s.length + b.s.length≤200 then ok ⟨2,0,a.s ++ b.s⟩ else err 3) else err 10) else
 if a.k=1∧b.k=1 then
  (if t=[43] then num (a.n + b.n) else
  if t=[45] then num (a.n - b.n) else
  if t=[42] then num (a.n * b.n) else
  if b.n=0 then err 5 else
  if t=[47] then num (a.n.tdiv b.n) else num (a.n.tmod b.n))
 else err 10
def cutN (n:Int) (l:Nat):Nat:=if n < 0 then 0 else if n < (l:Int) then n.toNat else l
def side (t:List UInt8) (a b:V):R:=
 if a.k=2∧b.k=1 then
  (if t=[108,101,102,116] then ok ⟨2,0,a.s.take (cutN b.n a.s.length)⟩ else ok ⟨2,0,a.s.drop (a.s.length - cutN b.n a.s.length)⟩)
 else err 10
def un (op:Int) (t:List UInt8) (a:V):R:=
 if op=3 then (if a.k=1 then num (-a.n) else err 10) else
 if op=4 then (if a.k=3 then ok (tru (decide (a.n=0))) else err 10) else
 if t=[115,116,114] then (if a.k=1 then ok ⟨2,0,itoa a.n⟩ else err 10) else
 if a.k=2 then
  (if t=[108,101,110] then ok ⟨1,(a.s.length:Nat),[]⟩ else
  if re a.s=0 then ok ⟨1,rv a.s,[]⟩ else err (re a.s))
 else err 10
def logic (strong:Bool) (a:V) (b:R):R:=
 if a.k=0∨a.k=3 then
  (if a.k=3∧a.n=(if strong then 1 else 0) then ok a else
  if b.e=0 then
   (if b.v.k=0∨b.v.k=3 then
    (if b.v.k=3∧b.v.n=(if strong then 1 else 0) then ok b.v else
    if a.k=0∨b.v.k=0 then ok z else ok (tru (!strong)))
   else err 10)
  else err b.e)
 else err 10
def comb (op:Int) (t:List UInt8) (l:List R):R:=
 let a:=l.getD 0 (ok z)
 let b:=l.getD 1 (ok z)
 let c:=l.getD 2 (ok z)
 if a.e=0 then
  (if op=5∧t=[111,114] then logic true a.v b else
  if op=5∧t=[97,110,100] then logic false a.v b else
  if op=6∧t=[105,115,110,117,108,108] then ok (tru (decide (a.v.k=0))) else
  if op=6∧t=[110,118,108] then (if a.v.k=0 then b else ok a.v) else
  if op=6∧t=[105,102] then (if a.v.k=0∨a.v.k=3 then (if a.v.n=1 then b else c) else err 10) else
  if l.length=2 then
   (if b.e=0 then (if a.v.k=0∨b.v.k=0 then ok z else if op=5 then bin t a.v b.v else side t a.v b.v) else err b.e)
  else if a.v.k=0 then ok z else un op t a.v)
 else err a.e
mutual
def ev (C:List Col) (W:List V):Tree→R
 | .node op t vk vn vs ks=>
  if op=1 then ok ⟨vk,vn,vs⟩ else
  if op=2 then (match Kd.ix C t with
   | none=>err 9
   | some i=>ok (W.getD i z)) else
  comb op t (evs C W ks)
def evs (C:List Col) (W:List V):List Tree→List R
 | []=>[]
 | x :: l=>ev C W x :: evs C W l
end
theorem evs_len (C:List Col) (W:List V):∀ l:List Tree,(evs C W l).length=l.length
 | []=>rfl
 | x :: l=>by rw [evs,List.length_cons,List.length_cons,evs_len C W l]
theorem evs_at (C:List Col) (W:List V):∀ (l:List Tree) (i:Nat) (h:i < l.length),(evs C W l)[i]?=some (ev C W l[i])
 | x :: l,0,h=>by rw [evs]; rfl
 | x :: l,i + 1,h=>by rw [evs]; simpa using evs_at C W l i (by simpa using h)
end Ev
end Go.Proofs.YteghhmomhlnccaaGreatDoor
namespace Go.Proofs.YteghhmomhlnccaaGreatDoor
open Go.Lib
open Ex (Tree)
namespace Ev
def G (k:Int) (r:R):Prop:=(r.e=0∧(r.v.k=k∨r.v.k=0))∨r.e=3∨r.e=4∨r.e=5∨r.e=6
theorem G.err_ {k k':Int} {r:R} (h:G k r) (he:¬ r.e=0):G k' (err r.e):=by
 rcases h with h | h
 ·exact absurd h.1 he
 ·exact .inr h
theorem G.val {k:Int} {r:R} (h:G k r) (he:r.e=0):r.v.k=k∨r.v.k=0:=by
 rcases h with h | h | h | h | h
 ·exact h.2
 all_goals omega
theorem G.ok_ {k:Int} {v:V} (h:v.k=k∨v.k=0):G k (ok v):=.inl ⟨rfl,h⟩
theorem G.null (k:Int):G k (ok z):=.inl ⟨rfl,.inr rfl⟩
theorem G.num_ (n:Int):G 1 (num n):=by
 rw [num]
 split
 ·exact .inl ⟨rfl,.inl rfl⟩
 ·exact .inr (.inr (.inl rfl))
theorem G.one {k ka:Int} {a:R} {f:V→R} (ha:G ka a) (hf:∀ v:V,v.k=ka→v.k ≠ 0→G k (f v)):G k (if a.e=0 then (if a.v.k=0 then ok z else f a.v) else err a.e):=by
 by_cases h1:a.e=0
 ·rw [if_pos h1]
  by_cases h2:a.v.k=0
  ·rw [if_pos h2]; exact G.null _
  ·rw [if_neg h2]; exact hf _ ((ha.val h1).resolve_right h2) h2
 ·rw [if_neg h1]; exact ha.err_ h1
theorem G.logic_ {ka kb:Int} {a b:R} (s:Bool) (ha:G ka a) (hb:G kb b) (h1:ka=3∨ka=0) (h2:kb=3∨kb=0):G 3 (if a.e=0 then logic s a.v b else err a.e):=by
 by_cases e1:a.e=0
 ·rw [if_pos e1,logic,if_pos (by have:=ha.val e1; omega)]
  generalize (if s=true then (1:Int) else 0)=q
  split
  ·exact G.ok_ (by have:=ha.val e1; omega)
  ·by_cases e2:b.e=0
   ·rw [if_pos e2,if_pos (by have:=hb.val e2; omega)]
    split
    ·exact G.ok_ (by have:=hb.val e2; omega)
    ·split
     ·exact G.null _
     ·exact G.ok_ (.inl rfl)
   ·rw [if_neg e2]; exact hb.err_ e2
 ·rw [if_neg e1]; exact ha.err_ e1
theorem list1 {α:Type} {l:List α} (h:l.length=1):∃ a,l=[a]:=List.length_eq_one_iff.1 h
theorem list2 {α:Type} {l:List α} (h:l.length=2):∃ a b,l=[a,b]:=by
 match l,h with
 | [a,b],_=>exact ⟨a,b,rfl⟩
theorem list3 {α:Type} {l:List α} (h:l.length=3):∃ a b c,l=[a,b,c]:=by
 match l,h with
 | [a,b,c],_=>exact ⟨a,b,c,rfl⟩
def rowKind (C:List Col) (W:List V):Prop:=W.length=C.length∧∀ i (h:i < C.length) (h':i < W.length),W[i].k=C[i].2∨W[i].k=0
end Ev
end Go.Proofs.YteghhmomhlnccaaGreatDoor
namespace Go.Proofs.YteghhmomhlnccaaGreatDoor
open Go.Lib
open Ex (Tree)
namespace Ev
def Pl (v:V):Prop:=(v.k=0∧v.n=0∧v.s=[])∨(v.k=1∧Fits v.n∧v.s=[])∨(v.k=2∧v.n=0∧v.s.length≤200)∨(v.k=3∧(v.n=0∨v.n=1)∧v.s=[])
theorem Pl.z_:Pl z:=.inl ⟨rfl,rfl,rfl⟩
theorem Pl.tru_ (b:Bool):Pl (tru b):=by
 refine .inr (.inr (.inr ⟨rfl,?_,rfl⟩))
 cases b
 ·exact .inl rfl
 ·exact .inr rfl
theorem Pl.err_ (c:Int):Pl (err c).v:=Pl.z_
theorem Pl.num_ (n:Int):Pl (num n).v:=by
 rw [num]
 split
 ·rename_i h; exact .inr (.inl ⟨rfl,h,rfl⟩)
 ·exact Pl.z_
theorem Pl.text {v:V} (h:Pl v) (hk:v.k=2):v.s.length≤200:=by
 rcases h with h | h | h | h
 ·omega
 ·omega
 ·exact h.2.2
 ·omega
theorem Pl.number {v:V} (h:Pl v) (hk:v.k=1):Fits v.n∧v.s=[]:=by
 rcases h with h | h | h | h
 ·omega
 ·exact h.2
 ·omega
 ·omega
theorem Pl.truth {v:V} (h:Pl v) (hk:v.k=3):(v.n=0∨v.n=1)∧v.s=[]:=by
 rcases h with h | h | h | h
 ·omega
 ·omega
 ·omega
 ·exact h.2
theorem Pl.null {v:V} (h:Pl v) (hk:v.k=0):v=z:=by
 obtain ⟨k,n,s⟩:=v
 rcases h with ⟨h1,h2,h3⟩ | h | h | h
 ·dsimp only at h1 h2 h3; subst h1; subst h2; subst h3; rfl
 ·dsimp only at h hk; omega
 ·dsimp only at h hk; omega
 ·dsimp only at h hk; omega
theorem fits_rv {l:List UInt8} (h:re l=0):Fits (rv l):=by
 rw [re] at h
 rw [rv]
 split at h
 ·rename_i h1
  rw [if_pos h1]
  rw [se] at h
  rw [sv]
  split at h
  ·rename_i h2; rw [if_pos h2]; exact h2
  ·exact absurd h (by decide)
 ·exact absurd h (by decide)
theorem Pl.bin_ (t:List UInt8) (a b:V):Pl (bin t a b).v:=by
 rw [bin]
 split
 ·split
  ·exact Pl.tru_ _
  ·exact Pl.z_
 split
 ·split
  ·split
   ·rename_i h
    exact .inr (.inr (.inl ⟨rfl,rfl,by show (a.s ++ b.s).length≤200; rw [List.length_append]; exact h⟩))
   ·exact Pl.z_
  ·exact Pl.z_
 split
 ·split
  ·exact Pl.num_ _
  split
  ·exact Pl.num_ _
  split
  ·exact Pl.num_ _
  split
  ·exact Pl.z_
  split <;> exact Pl.num_ _
 ·exact Pl.z_
theorem Pl.side_ (t:List UInt8) {a:V} (b:V) (ha:Pl a):Pl (side t a b).v:=by
 rw [side]
 split
 ·rename_i h
  have:=ha.text h.1
  split
  ·exact .inr (.inr (.inl ⟨rfl,rfl,by show (a.s.take _).length≤200; rw [List.length_take]; omega⟩))
  ·exact .inr (.inr (.inl ⟨rfl,rfl,by show (a.s.drop _).length≤200; rw [List.length_drop]; omega⟩))
 ·exact Pl.z_
theorem Pl.un_ (op:Int) (t:List UInt8) {a:V} (ha:Pl a):Pl (un op t a).v:=by
 rw [un]
 split
 ·split
  ·exact Pl.num_ _
  ·exact Pl.z_
 split
 ·split
  ·exact Pl.tru_ _
  ·exact Pl.z_
 split
 ·split
  ·rename_i h
   obtain ⟨f1,f2⟩:=(ha.number h).1
   have:=itoa_length_le a.n f1 f2
   exact .inr (.inr (.inl ⟨rfl,rfl,by show (itoa a.n).length≤200; omega⟩))
  ·exact Pl.z_
 split
 ·rename_i h
  split
  ·have:=ha.text h
   exact .inr (.inl ⟨rfl,by show Fits ((a.s.length:Nat):Int); unfold Fits; omega,rfl⟩)
  split
  ·rename_i h2
   exact .inr (.inl ⟨rfl,fits_rv h2,rfl⟩)
  ·exact Pl.z_
 ·exact Pl.z_
theorem Pl.logic_ (s:Bool) {a:V} {b:R} (ha:Pl a) (hb:Pl b.v):Pl (logic s a b).v:=by
 rw [logic]
 generalize (if s=true then (1:Int) else 0)=q
 split
 ·split
  ·exact ha
  split
  ·split
   ·split
    ·exact hb
    split
    ·exact Pl.z_
    ·exact Pl.tru_ _
   ·exact Pl.z_
  ·exact Pl.z_
 ·exact Pl.z_
theorem getD_pl {l:List R} (h:∀ r ∈ l,Pl r.v) (i:Nat):Pl (l.getD i (ok z)).v:=by
 rw [List.getD_eq_getElem?_getD]
 cases hx:l[i]? with
 | none=>exact Pl.z_
 | some r=>exact h r (List.mem_of_getElem? hx)
theorem Pl.comb_ (op:Int) (t:List UInt8) {l:List R} (h:∀ r ∈ l,Pl r.v):Pl (comb op t l).v:=by
 have h0:=getD_pl h 0
 have h1:=getD_pl h 1
 have h2:=getD_pl h 2
 unfold comb
 dsimp only
 split
 ·split
  ·exact Pl.logic_ _ h0 h1
  split
  ·exact Pl.logic_ _ h0 h1
  split
  ·exact Pl.tru_ _
  split
  ·split
   ·exact h1
   ·exact h0
  split
  ·split
   ·split
    ·exact h1
    ·exact h2
   ·exact Pl.z_
  split
  ·split
   ·split
    ·exact Pl.z_
    split
    ·exact Pl.bin_ _ _ _
    ·exact Pl.side_ _ _ h0
   ·exact Pl.z_
  split
  ·exact Pl.z_
  ·exact Pl.un_ _ _ h0
 ·exact Pl.z_
theorem plain_val {k n:Int} {s:List UInt8} (h:valB k n (tx s)=true) (hn : -9223372036854775808≤n∧n≤9223372036854775807):Pl ⟨k,n,s⟩:=by
 have hs:(tx s).size=s.length:=by simp [ByteArray.size,tx]
 rw [valB,Bool.and_eq_true] at h
 rcases plainB_iff.1 h.1 with ⟨h1,h2,h3⟩ | ⟨h1,h3⟩ | ⟨h1,h2,h3⟩ | ⟨h1,h3,h4,h5⟩
 ·exact .inl ⟨h1,h2,List.eq_nil_of_length_eq_zero (by rw [← hs]; exact h3)⟩
 ·exact .inr (.inl ⟨h1,hn,List.eq_nil_of_length_eq_zero (by rw [← hs]; exact h3)⟩)
 ·exact .inr (.inr (.inl ⟨h1,h2,by rw [← hs]; exact h3⟩))
 ·exact .inr (.inr (.inr ⟨h1,by show n=0∨n=1; omega,List.eq_nil_of_length_eq_zero (by rw [← hs]; exact h3)⟩))
mutual
theorem ev_pl {C:List Col} {W:List V} (hW:∀ v ∈ W,Pl v):∀ x:Tree,Ex.ones nodeB x=true→Ex.ones rngN x=true→Pl (ev C W x).v
 | .node op t vk vn vs ks,hr,hg=>by
  rw [Ex.ones,Bool.and_eq_true] at hr hg
  rw [ev]
  by_cases h1:op=1
  ·rw [if_pos h1]
   have h:=hr.1
   rw [nodeB,if_pos h1] at h
   simp only [Bool.and_eq_true] at h
   exact plain_val h.2.1 (of_decide_eq_true hg.1)
  rw [if_neg h1]
  by_cases h2:op=2
  ·rw [if_pos h2]
   cases hx:Kd.ix C t with
   | none=>exact Pl.z_
   | some i=>
    show Pl (W.getD i z)
    rw [List.getD_eq_getElem?_getD]
    cases hy:W[i]? with
    | none=>exact Pl.z_
    | some v=>exact hW v (List.mem_of_getElem? hy)
  rw [if_neg h2]
  exact Pl.comb_ op t (evs_pl hW ks hr.2 hg.2)
theorem evs_pl {C:List Col} {W:List V} (hW:∀ v ∈ W,Pl v):∀ l:List Tree,Ex.oness nodeB l=true→Ex.oness rngN l=true→∀ r ∈ evs C W l,Pl r.v
 | [],hr,hg,r,h=>by rw [evs] at h; cases h
 | x :: l,hr,hg,r,h=>by
  rw [Ex.oness,Bool.and_eq_true] at hr hg
  rw [evs,List.mem_cons] at h
  rcases h with rfl | h
  ·exact ev_pl hW x hr.1 hg.1
  ·exact evs_pl hW l hr.2 hg.2 r h
end
theorem comb_err (op:Int) (t:List UInt8) {l:List R} (h:∀ r ∈ l,r.e ≠ 0→r.v=z):(comb op t l).e ≠ 0→(comb op t l).v=z:=by
 have hg:∀ i,(l.getD i (ok z)).e ≠ 0→(l.getD i (ok z)).v=z:=fun i=>by
  rw [List.getD_eq_getElem?_getD]
  cases hx:l[i]? with
  | none=>intro h; exact absurd rfl h
  | some r=>exact h r (List.mem_of_getElem? hx)
 have hl:∀ (s:Bool) (a:V) (b:R),(logic s a b).e ≠ 0→(logic s a b).v=z:=fun s a b=>by
  rw [logic]
  repeat' split
  all_goals first | (intro h; exact absurd rfl h) | (intro _; rfl)
 have hn:∀ n:Int,(num n).e ≠ 0→(num n).v=z:=fun n=>by
  rw [num]
  split
  all_goals first | (intro h; exact absurd rfl h) | (intro _; rfl)
 have hb:∀ (a b:V),(bin t a b).e ≠ 0→(bin t a b).v=z:=fun a b=>by
  rw [bin]
  repeat' split
  all_goals first | exact hn _ | (intro h; exact absurd rfl h) | (intro _; rfl)
 have hs:∀ (a b:V),(side t a b).e ≠ 0→(side t a b).v=z:=fun a b=>by
  rw [side]
  repeat' split
  all_goals first | (intro h; exact absurd rfl h) | (intro _; rfl)
 have hu:∀ (a:V),(un op t a).e ≠ 0→(un op t a).v=z:=fun a=>by
  rw [un]
  repeat' split
  all_goals first | exact hn _ | (intro h; exact absurd rfl h) | (intro _; rfl)
 unfold comb
 dsimp only
 repeat' split
 all_goals first | exact hl _ _ _ | exact hb _ _ | exact hs _ _ | exact hu _ | exact hg _ | (intro h; exact absurd rfl h) | (intro _; rfl)
mutual
theorem ev_err {C:List Col} {W:List V} : ∀ x:Tree,(ev C W x).e ≠ 0→(ev C W x).v=z
 | .node op t vk vn vs ks=>by
  rw [ev]
  split
  ·intro h; exact absurd rfl h
  split
  ·cases Kd.ix C t with
   | none=>intro _; rfl
   | some i=>intro h; exact absurd rfl h
  ·exact comb_err op t (evs_err ks)
theorem evs_err {C:List Col} {W:List V} : ∀ l:List Tree,∀ r ∈ evs C W l,r.e ≠ 0→r.v=z
 | [],r,h=>by rw [evs] at h; cases h
 | x :: l,r,h=>by
  rw [evs,List.mem_cons] at h
  rcases h with rfl | h
  ·exact ev_err x
  ·exact evs_err l r h
end
end Ev
end Go.Proofs.YteghhmomhlnccaaGreatDoor
