import Derived.Test.YteghhmomhlnccaaGreatDoorRows
import Derived.Laws.CopyOwn
import Derived.Lib.EndianBits
import Derived.WalkKit
import Derived.ProofKit
import Derived.OpenShut
import Derived.IntWalk
import Derived.Lib.Hide
import Derived.Below
import Derived.Laws.OwnMore
import Derived.Laws.BitsAll
import Derived.Laws.BytesArg
import Derived.Lib.AppendZeros
import Derived.Lib.AppendStr
import Derived.Maps.AppendAt
import Derived.ArgAppend
import Derived.WalkLawsBesides
import Derived.Deep.AppendLies
import Derived.Deep.Draws
import Derived.Deep.DeepCutAuto
import Derived.Deep.RegionHeld3
import Derived.Deep.RegionWith
import Derived.Deep.QuietTactic
import Derived.BigQuiet
import Derived.Handy
import Derived.Laws.CopyRow
import Derived.Deep.RegionLaw
import Derived.Test.YteghhmomhlnccaaGreatDoorYT3
import Derived.Test.YteghhmomhlnccaaGreatDoorYT1
import Derived.DataShut
import Derived.ShutString
import Derived.Deep.Slices
import Derived.Deep.Strs
import Derived.Carry
import Derived.SliceStrings
import Derived.Lib.SmallJoins
set_option linter.unusedVariables false
set_option linter.unusedSimpArgs false
set_option maxRecDepth 100000
set_option maxHeartbeats 100000000
open Go.RowKit Go.Lib
namespace Go.Proofs.YteghhmomhlnccaaGreatDoor
def Whole (w:World) (g:Nat) (t:TypeId) (cs:Array Value):Prop:=w.heap[g]?=some (.cells cs t (0,0))
section
variable {w w' : World} {g : Nat} {t : TypeId} {cs : Array Value}
theorem Whole.lt (h:Whole w g t cs):g < w.heap.size:=by
 rcases Nat.lt_or_ge g w.heap.size with hlt | hge
 ·exact hlt
 ·unfold Whole at h; rw [Array.getElem?_eq_none hge] at h; cases h
theorem Whole.cell (h:Whole w g t cs) (i:Nat):w.cell? ⟨g,i,none⟩=cs[i]?:=cell_of_row w g i cs t (0,0) h
theorem Whole.frozen (h:Whole w g t cs) (i:Nat):w.frozen? ⟨g,i,none⟩=false:=by
 unfold Whole at h
 simp [World.frozen?,h]
theorem Whole.new (w:World) (t:TypeId) (cs:Array Value):Whole (w.alloc (.cells cs t)) w.heap.size t cs:=heap_alloc_new w _
theorem Whole.drew (h:Whole w g t cs):Whole w.drew g t cs:=h
theorem Whole.alloc (h:Whole w g t cs) (o:Obj):Whole (w.alloc o) g t cs:=(Below.heap_alloc w o g h.lt).trans h
theorem Whole.set_ (h:Whole w g t cs) (i:Nat) (u:Value):Whole (w.setCell ⟨g,i,none⟩ u) g t (cs.setIfInBounds i u):=by
 unfold Whole at h ⊢
 simp [World.setCell,Array.getElem?_modify,h]
theorem Whole.far (h:Whole w g t cs) {p:Addr} (hp:g ≠ p.block) (u:Value):Whole (w.setCell p u) g t cs:=(Below.heap_setCell w p u g hp).trans h
theorem Whole.below {B:Nat} (h:Whole w g t cs) (hb:Below B w w') (hg:g < B):Whole w' g t cs:=(hb.block g hg).trans h
end
def Holds (w:World) (A:Option Addr) (l:List UInt8):Prop:=
 ∀ i (h:i < l.length),∃ b o,A=some ⟨b,o,none⟩∧b < w.heap.size∧w.cell? ⟨b,o + i,none⟩=some (.int .u8 (l[i].toNat:Nat))
theorem Holds.below {w w':World} {A:Option Addr} {l:List UInt8} (h:Holds w A l) (hb:Below w.heap.size w w'):Holds w' A l:=fun i hi=>by
 obtain ⟨b,o,e,hlt,hc⟩:=h i hi
 exact ⟨b,o,e,Nat.lt_of_lt_of_le hlt hb.size,(hb.cell (p:=⟨b,o + i,none⟩) hlt).trans hc⟩
theorem Holds.nil (w:World) (A:Option Addr):Holds w A []:=fun i h=>absurd h (by simp)
theorem Holds.take {w:World} {A:Option Addr} {l:List UInt8} (h:Holds w A l) (k:Nat):Holds w A (l.take k):=fun i hi=>by
 have hl:i < l.length:=by rw [List.length_take] at hi; omega
 obtain ⟨b,o,e,hlt,hc⟩:=h i hl
 exact ⟨b,o,e,hlt,by rw [hc]; simp⟩
theorem Holds.drop {w:World} {A:Option Addr} {l:List UInt8} (h:Holds w A l) (k c:Nat) (hc:l.length≤c):Holds w (if c=k then A else A.map (·.add k)) (l.drop k):=fun i hi=>by
 rw [List.length_drop] at hi
 obtain ⟨b,o,e,hlt,hcell⟩:=h (k + i) (by omega)
 rw [if_neg (by omega)]
 subst e
 refine ⟨b,o + k,by simp [Addr.add_lit],hlt,?_⟩
 rw [Nat.add_assoc,hcell]
 simp
theorem Holds.at_ {w:World} {A:Option Addr} {P R:List UInt8} {x:UInt8} (h:Holds w A (P ++ x :: R)):∃ b o,A=some ⟨b,o,none⟩∧b < w.heap.size∧w.cell? ⟨b,o + P.length,none⟩=some (.int .u8 (x.toNat:Nat)):=by
 have:=h P.length (by simp)
 simpa using this
theorem below_drewN {B:Nat} {a w:World} (h:Below B a w) (n:Nat):Below B a (w.drewN n):=⟨h.os,h.tape,h.output,h.size,h.block⟩
def encB (l:List UInt8):List Value:=l.map fun b=>.int .u8 (b.toNat:Nat)
theorem encB_at (l:List UInt8) (i:Nat) (h:i < l.length):(encB l)[i]?=some (.int .u8 (l[i].toNat:Nat)):=by simp [encB,h]
def BB (w:World) (g:Nat) (l:List UInt8):Prop:=Whole w g 5 (encB l).toArray
theorem BB.lt {w:World} {g:Nat} {l:List UInt8} (h:BB w g l):g < w.heap.size:=Whole.lt h
theorem BB.cell {w:World} {g:Nat} {l:List UInt8} (h:BB w g l) (i:Nat) (hi:i < l.length):w.cell? ⟨g,i,none⟩=some (.int .u8 (l[i].toNat:Nat)):=by
 rw [Whole.cell h]; simpa using encB_at l i hi
theorem BB.frozen {w:World} {g:Nat} {l:List UInt8} (h:BB w g l) (i:Nat):w.frozen? ⟨g,i,none⟩=false:=Whole.frozen h i
theorem BB.holds {w:World} {g:Nat} {l:List UInt8} (h:BB w g l) (o:Nat):Holds w (some ⟨g,o,none⟩) (l.drop o):=fun i hi=>by
 rw [List.length_drop] at hi
 refine ⟨g,o,rfl,h.lt,?_⟩
 rw [h.cell (o + i) (by omega)]
 simp
theorem BB.below {w w':World} {g:Nat} {l:List UInt8} (h:BB w g l) (hb:Below w.heap.size w w'):BB w' g l:=Whole.below h hb h.lt
theorem BB.drew {w:World} {g:Nat} {l:List UInt8} (h:BB w g l):BB w.drew g l:=h
def Row (w:World) (base:Nat) (v:Value) (l:List UInt8):Prop:=w.ownsRow base 5 1 v l.length (encB l)
theorem Row.shape {w:World} {base:Nat} {v:Value} {l:List UInt8} (h:Row w base v l):∃ A c,v=.slice A l.length c∧Holds w A l∧l.length≤c∧c≤maxLen:=by
 obtain ⟨_,h2⟩:=h
 rcases h2 with ⟨rfl,h0⟩ | ⟨g,cap,cur,rfl,hb,hh,hn,hm,hs,ht⟩
 ·exact ⟨none,0,by rw [h0],by rw [List.eq_nil_of_length_eq_zero h0]; exact Holds.nil _ _,by omega,Nat.zero_le _⟩
 ·refine ⟨_,cap,rfl,fun i hi=>⟨g,0,rfl,?_,?_⟩,hn,hm⟩
  ·exact (Array.getElem?_eq_some_iff.1 hh).1
  ·rw [Nat.zero_add,cell_of_row w g i cur 5 (0,0) hh,← encB_at l i hi,← ht]
   rw [List.getElem?_take,if_pos (by omega)]
   simp
theorem Row.below {w w':World} {base:Nat} {v:Value} {l:List UInt8} (h:Row w base v l) (hb:Below w.heap.size w w'):Row w' base v l:=by
 obtain ⟨h1,h2⟩:=h
 refine ⟨h1,h2.imp id ?_⟩
 rintro ⟨g,cap,cur,hv,hg,hh,r⟩
 exact ⟨g,cap,cur,hv,hg,(hb.block g (Array.getElem?_eq_some_iff.1 hh).1).trans hh,r⟩
theorem Row.drew {w:World} {base:Nat} {v:Value} {l:List UInt8} (h:Row w base v l):Row w.drew base v l:=h
theorem Row.block {w:World} {base:Nat} {v:Value} {l:List UInt8} (h:Row w base v l):∀ k,v.ownBlock=some k→base≤k:=by
 rcases h.2 with ⟨rfl,_⟩ | ⟨g,cap,cur,rfl,hb,_⟩
 ·intro k e; simp [Value.ownBlock] at e
 ·intro k e; simp [Value.ownBlock] at e; omega
theorem below_grown {w0 w w':World} {v:Value} (hb:Below w0.heap.size w0 w) (hg:w.grownBy w' v.ownBlock) (hv:∀ k,v.ownBlock=some k→w0.heap.size≤k):Below w0.heap.size w0 w':=
 ⟨hg.os.trans hb.os,hg.tape.trans hb.tape,hg.output.trans hb.output,Nat.le_trans hb.size hg.size,fun k hk=>(hg.block k (Nat.lt_of_lt_of_le hk hb.size) (fun e=>by have:=hv k e.symm; omega)).trans (hb.block k hk)⟩
theorem Row.le {w:World} {base base':Nat} {v:Value} {l:List UInt8} (h:Row w base v l) (hb:base'≤base):Row w base' v l:=
 ⟨h.1,h.2.imp id fun ⟨g,cap,cur,hv,hg,r⟩=>⟨g,cap,cur,hv,Nat.le_trans hb hg,r⟩⟩
theorem Row.nil (w:World) (base:Nat):Row w base (.slice none 0 0) []:=⟨rfl,.inl ⟨rfl,rfl⟩⟩
theorem Row.alloc {w:World} {base:Nat} {v:Value} {l:List UInt8} (h:Row w base v l) (o:Obj):Row (w.alloc o) base v l:=h.below ((Below.refl _ _).alloc (Nat.le_refl _) _)
end Go.Proofs.YteghhmomhlnccaaGreatDoor
namespace Go.Proofs.YteghhmomhlnccaaGreatDoor
structure Touch (F:List Nat) (w w':World):Prop where
 os:w'.os=w.os
 tape:w'.tape=w.tape
 output:w'.output=w.output
 size:w.heap.size≤w'.heap.size
 block:∀ k,k < w.heap.size→k ∉ F→w'.heap[k]?=w.heap[k]?
theorem Touch.refl (F:List Nat) (w:World):Touch F w w:=⟨rfl,rfl,rfl,Nat.le_refl _,fun _ _ _=>rfl⟩
theorem Touch.of_below {w w':World} (h:Below w.heap.size w w') (F:List Nat):Touch F w w':=⟨h.os,h.tape,h.output,h.size,fun k hk _=>h.block k hk⟩
theorem Touch.of_grown {w w':World} {o:Option Nat} (h:w.grownBy w' o):Touch o.toList w w':=⟨h.os,h.tape,h.output,h.size,fun k hk hn=>h.block k hk (fun e=>hn (by simp [← e]))⟩
theorem Touch.trans {F G:List Nat} {a b c:World} (h:Touch F a b) (k:Touch G b c) (hG:∀ x ∈ G,x ∈ F∨a.heap.size≤x):Touch F a c:=
 ⟨k.os.trans h.os,k.tape.trans h.tape,k.output.trans h.output,Nat.le_trans h.size k.size,fun x hx hn=>(k.block x (Nat.lt_of_lt_of_le hx h.size) (fun hm=>by rcases hG x hm with h1 | h1; exact hn h1; omega)).trans (h.block x hx hn)⟩
theorem Touch.mono {F G:List Nat} {a b:World} (h:Touch F a b) (hG:∀ x ∈ F,x ∈ G∨a.heap.size≤x):Touch G a b:=
 (Touch.refl G a).trans h hG
theorem Touch.setCell {F:List Nat} {a w:World} (h:Touch F a w) {q:Addr} (hq:q.block ∈ F∨a.heap.size≤q.block) (u:Value):Touch F a (w.setCell q u):=
 ⟨h.os,h.tape,h.output,by simpa using h.size,fun k hk hn=>(Below.heap_setCell w q u k (fun e=>by rcases hq with h1 | h1; exact hn (e ▸ h1); omega)).trans (h.block k hk hn)⟩
theorem Touch.alloc {F:List Nat} {a w:World} (h:Touch F a w) (o:Obj):Touch F a (w.alloc o):=
 ⟨h.os,h.tape,h.output,Nat.le_trans h.size (by simp),fun k hk hn=>(Below.heap_alloc w o k (Nat.lt_of_lt_of_le hk h.size)).trans (h.block k hk hn)⟩
theorem Touch.drew {F:List Nat} {a w:World} (h:Touch F a w):Touch F a w.drew:=⟨h.os,h.tape,h.output,h.size,h.block⟩
theorem Touch.below {w w':World} (h:Touch [] w w'):Below w.heap.size w w':=⟨h.os,h.tape,h.output,h.size,fun k hk=>h.block k hk (by simp)⟩
theorem Touch.grown {F:List Nat} {a w w':World} {o:Option Nat} (h:Touch F a w) (hg:w.grownBy w' o) (ho:∀ k,o=some k→k ∈ F∨a.heap.size≤k):Touch F a w':=
 h.trans (Touch.of_grown hg) (fun x hx=>ho x (by simpa using hx))
theorem Touch.belowTo {F:List Nat} {a w w':World} (h:Touch F a w) (hb:Below w.heap.size w w'):Touch F a w':=h.trans (Touch.of_below hb []) (by simp)
theorem Touch.fresh {F:List Nat} {a w w':World} (hb:Below a.heap.size a w) (h:Touch F w w') (hF:∀ x ∈ F,a.heap.size≤x):Below a.heap.size a w':=
 ⟨h.os.trans hb.os,h.tape.trans hb.tape,h.output.trans hb.output,Nat.le_trans hb.size h.size,fun k hk=>(h.block k (Nat.lt_of_lt_of_le hk hb.size) (fun hm=>by have:=hF k hm; omega)).trans (hb.block k hk)⟩
theorem ownsRow_of_heap {w w':World} {base:Nat} {e:TypeId} {size:Nat} {v:Value} {n:Nat} {xs:List Value} (h:w.ownsRow base e size v n xs) (hb:∀ b,v.ownBlock=some b→w'.heap[b]?=w.heap[b]?):w'.ownsRow base e size v n xs:=by
 refine ⟨h.1,?_⟩
 rcases h.2 with hn | ⟨g,cap,cur,rfl,hb1,hgg,rest⟩
 ·exact .inl hn
 ·exact .inr ⟨g,cap,cur,rfl,hb1,(hb g rfl).trans hgg,rest⟩
theorem row_kind {w:World} {b:Nat} {v:Value} {n:Nat} {xs:List Value} {e:TypeId} {z:Nat} (h:w.ownsRow b e z v n xs) {g:Nat} (hg:v.ownBlock=some g):∃ cur,w.heap[g]?=some (.cells cur e (0,0)):=by
 rcases h.2 with ⟨rfl,_⟩ | ⟨g',cap,cur,rfl,_,h2,_⟩
 ·cases hg
 ·cases hg; exact ⟨cur,h2⟩
def Bytes (w:World) (k:Nat):Prop:=∃ cs z,w.heap[k]?=some (.cells cs 5 z)
theorem Row.bytes {w:World} {v:Value} {l:List UInt8} {b:Nat} (h:Row w b v l) {k:Nat} (hk:v.ownBlock=some k):Bytes w k:=let ⟨c,hc⟩:=row_kind h hk; ⟨c,_,hc⟩
theorem Row.of_heap {w w':World} {v:Value} {l:List UInt8} {b:Nat} (h:Row w b v l) (hb:∀ k,v.ownBlock=some k→w'.heap[k]?=w.heap[k]?):Row w' b v l:=ownsRow_of_heap h hb
theorem Bytes.lt {w:World} {k:Nat} (h:Bytes w k):k < w.heap.size:=by obtain ⟨cs,z,h⟩:=h; exact (Array.getElem?_eq_some_iff.1 h).1
theorem heap_set_other (w:World) (p i:Nat) (u:Value) (k:Nat) (h:k ≠ p):(w.setCell ⟨p,i,none⟩ u).heap[k]?=w.heap[k]?:=Below.heap_setCell w ⟨p,i,none⟩ u k h
theorem Touch.one {w:World} {p i:Nat} {u:Value} {F:List Nat} (h:p ∈ F):Touch F w (w.setCell ⟨p,i,none⟩ u):=(Touch.refl F w).setCell (.inl h) u
theorem own_ge {w:World} {b:Nat} {v:Value} {n:Nat} {xs:List Value} {e:TypeId} {z:Nat} (h:w.ownsRow b e z v n xs) {k:Nat} (hk:v.ownBlock=some k):b≤k:=by
 rcases h.2 with ⟨rfl,_⟩ | ⟨g,cap,cur,rfl,hb,_⟩
 ·cases hk
 ·have:g=k:=by simpa [Value.ownBlock] using hk
  omega
def strs (ss:List ByteArray):List Value:=ss.map fun s=>.string s
def SRow (w:World) (base:Nat) (v:Value) (ss:List ByteArray):Prop:=w.ownsRow base 9 1 v ss.length (strs ss)
theorem SRow.new (w:World):SRow (w.alloc (.cells #[] 9)) w.heap.size (.slice (some ⟨w.heap.size,0,none⟩) 0 0) []:=
 ⟨rfl,.inr ⟨w.heap.size,0,#[],rfl,Nat.le_refl _,heap_alloc_new w _,Nat.le_refl _,Nat.zero_le _,rfl,rfl⟩⟩
theorem SRow.nil (w:World) (base:Nat):SRow w base (.slice none 0 0) []:=⟨rfl,.inl ⟨rfl,rfl⟩⟩
theorem SRow.below {w w':World} {base:Nat} {v:Value} {ss:List ByteArray} (h:SRow w base v ss) (hb:Below w.heap.size w w'):SRow w' base v ss:=by
 obtain ⟨h1,h2⟩:=h
 refine ⟨h1,h2.imp id ?_⟩
 rintro ⟨g,cap,cur,hv,hg,hh,r⟩
 exact ⟨g,cap,cur,hv,hg,(hb.block g (Array.getElem?_eq_some_iff.1 hh).1).trans hh,r⟩
theorem SRow.of_heap {w w':World} {base:Nat} {v:Value} {ss:List ByteArray} (h:SRow w base v ss) (hb:∀ b,v.ownBlock=some b→w'.heap[b]?=w.heap[b]?):SRow w' base v ss:=ownsRow_of_heap h hb
theorem SRow.le {w:World} {base base':Nat} {v:Value} {ss:List ByteArray} (h:SRow w base v ss) (hb:base'≤base):SRow w base' v ss:=
 ⟨h.1,h.2.imp id fun ⟨g,cap,cur,hv,hg,r⟩=>⟨g,cap,cur,hv,Nat.le_trans hb hg,r⟩⟩
theorem SRow.block {w:World} {base:Nat} {v:Value} {ss:List ByteArray} (h:SRow w base v ss):∀ k,v.ownBlock=some k→base≤k∧k < w.heap.size:=by
 rcases h.2 with ⟨rfl,_⟩ | ⟨g,cap,cur,rfl,hb,hh,_⟩
 ·intro k e; simp [Value.ownBlock] at e
 ·intro k e
  simp [Value.ownBlock] at e
  subst e
  exact ⟨hb,(Array.getElem?_eq_some_iff.1 hh).1⟩
theorem SRow.shape {w:World} {base:Nat} {v:Value} {ss:List ByteArray} (h:SRow w base v ss):∃ A c,v=.slice A ss.length c∧ss.length≤c∧∀ i (h:i < ss.length),∃ g,A=some ⟨g,0,none⟩∧v.ownBlock=some g∧g < w.heap.size∧w.cell? ⟨g,i,none⟩=some (.string ss[i]):=by
 obtain ⟨_,h2⟩:=h
 rcases h2 with ⟨rfl,h0⟩ | ⟨g,cap,cur,rfl,hb,hh,hn,hm,hs,ht⟩
 ·exact ⟨none,0,by rw [h0],by omega,fun i hi=>absurd hi (by omega)⟩
 ·refine ⟨_,cap,rfl,hn,fun i hi=>⟨g,rfl,rfl,(Array.getElem?_eq_some_iff.1 hh).1,?_⟩⟩
  have hu:(strs ss)[i]?=some (.string ss[i]):=by simp [strs,hi]
  rw [cell_of_row w g i cur 9 (0,0) hh,← hu,← ht,List.getElem?_take,if_pos (by omega)]
  simp
def Strs (w:World) (A:Option Addr) (ss:List ByteArray):Prop:=∀ i (h:i < ss.length),∃ g o,A=some ⟨g,o,none⟩∧g < w.heap.size∧w.cell? ⟨g,o + i,none⟩=some (.string ss[i])
theorem Strs.below {w w':World} {A:Option Addr} {ss:List ByteArray} (h:Strs w A ss) (hb:Below w.heap.size w w'):Strs w' A ss:=fun i hi=>by
 obtain ⟨g,o,e,hlt,hc⟩:=h i hi
 exact ⟨g,o,e,Nat.lt_of_lt_of_le hlt hb.size,(hb.cell (p:=⟨g,o + i,none⟩) hlt).trans hc⟩
end Go.Proofs.YteghhmomhlnccaaGreatDoor
namespace Go.Proofs.YteghhmomhlnccaaGreatDoor
open Ex (Tree)
abbrev tx (l:List UInt8):ByteArray:=⟨l.toArray⟩
mutual
def TreeAt (w:World) (b o:Nat):Tree→Prop
 | .node op t vk vn vs ks=>b < w.heap.size∧w.cell? ⟨b,o,none⟩=some (.int .i64 op)∧w.cell? ⟨b,o + 1,none⟩=some (.string (tx t))∧w.cell? ⟨b,o + 2,none⟩=some (.int .i64 vk) ∧
   w.cell? ⟨b,o + 3,none⟩=some (.int .i64 vn)∧w.cell? ⟨b,o + 4,none⟩=some (.string (tx vs))∧∃ A c,w.cell? ⟨b,o + 5,none⟩=some (.slice A ks.length c)∧ks.length≤c∧TreesAt w A 0 ks
def TreesAt (w:World) (A:Option Addr) (i:Nat):List Tree→Prop
 | []=>True
 | x :: l=>(∃ b o,A=some ⟨b,o,none⟩∧TreeAt w b (o + i * 6) x)∧TreesAt w A (i + 1) l
end
abbrev ncells (op:Int) (t:List UInt8) (vk vn:Int) (vs:List UInt8) (A:Option Addr) (n c:Nat):Array Value:=#[.int .i64 op,.string (tx t),.int .i64 vk,.int .i64 vn,.string (tx vs),.slice A n c]
def NodeV (w:World) (v:Value):Tree→Prop
 | .node op t vk vn vs ks=>∃ A c,v=.agg (ncells op t vk vn vs A ks.length c)∧ks.length≤c∧TreesAt w A 0 ks
mutual
theorem TreeAt.below {w w':World} (hb:Below w.heap.size w w'):∀ {x:Tree} {b o:Nat},TreeAt w b o x→TreeAt w' b o x
 | .node op t vk vn vs ks,b,o,h=>by
  rw [TreeAt] at h ⊢
  obtain ⟨h0,h1,h2,h3,h4,h5,A,c,h6,h7,h8⟩:=h
  exact ⟨Nat.lt_of_lt_of_le h0 hb.size,(hb.cell (p:=⟨b,o,none⟩) h0).trans h1,(hb.cell (p:=⟨b,o + 1,none⟩) h0).trans h2,(hb.cell (p:=⟨b,o + 2,none⟩) h0).trans h3,(hb.cell (p:=⟨b,o + 3,none⟩) h0).trans h4,(hb.cell (p:=⟨b,o + 4,none⟩) h0).trans h5,
   A,c,(hb.cell (p:=⟨b,o + 5,none⟩) h0).trans h6,h7,TreesAt.below hb h8⟩
theorem TreesAt.below {w w':World} (hb:Below w.heap.size w w'):∀ {l:List Tree} {A:Option Addr} {i:Nat},TreesAt w A i l→TreesAt w' A i l
 | [],A,i,h=>by rw [TreesAt]; trivial
 | x :: l,A,i,h=>by
  rw [TreesAt] at h ⊢
  obtain ⟨⟨b,o,e,h1⟩,h2⟩:=h
  exact ⟨⟨b,o,e,TreeAt.below hb h1⟩,TreesAt.below hb h2⟩
end
theorem TreesAt.at_ {w:World} : ∀ (l:List Tree) (A:Option Addr) (k:Nat),TreesAt w A k l→∀ i (h:i < l.length),∃ b o,A=some ⟨b,o,none⟩∧TreeAt w b (o + (k + i) * 6) l[i]
 | [],A,k,h,i,hi=>absurd hi (Nat.not_lt_zero _)
 | x :: l,A,k,h,0,hi=>by
  rw [TreesAt] at h
  obtain ⟨⟨b,o,e,h1⟩,-⟩:=h
  exact ⟨b,o,e,h1⟩
 | x :: l,A,k,h,i + 1,hi=>by
  rw [TreesAt] at h
  obtain ⟨b,o,e,h1⟩:=TreesAt.at_ l A (k + 1) h.2 i (by simpa using hi)
  refine ⟨b,o,e,?_⟩
  rw [show k + (i + 1)=k + 1 + i by omega]
  exact h1
theorem TreesAt.get {w:World} {l:List Tree} {A:Option Addr} (h:TreesAt w A 0 l) (i:Nat) (hi:i < l.length):∃ b o,A=some ⟨b,o,none⟩∧TreeAt w b (o + i * 6) l[i]:=by
 obtain ⟨b,o,e,k⟩:=TreesAt.at_ l A 0 h i hi
 rw [Nat.zero_add] at k
 exact ⟨b,o,e,k⟩
theorem TreesAt.of {w:World} : ∀ (l:List Tree) (A:Option Addr) (k:Nat),(∀ i (h:i < l.length),∃ b o,A=some ⟨b,o,none⟩∧TreeAt w b (o + (k + i) * 6) l[i])→TreesAt w A k l
 | [],A,k,h=>by rw [TreesAt]; trivial
 | x :: l,A,k,h=>by
  rw [TreesAt]
  refine ⟨h 0 (by simp),TreesAt.of l A (k + 1) fun i hi=>?_⟩
  obtain ⟨b,o,e,h1⟩:=h (i + 1) (by simpa using hi)
  refine ⟨b,o,e,?_⟩
  rw [show k + 1 + i=k + (i + 1) by omega]
  exact h1
theorem TreesAt.tail {w:World} {x:Tree} {l:List Tree} {b o:Nat} (h:TreesAt w (some ⟨b,o,none⟩) 0 (x :: l)):TreesAt w (some ⟨b,o + 6,none⟩) 0 l:=by
 refine TreesAt.of _ _ _ fun i hi=>?_
 obtain ⟨b',o',e,k⟩:=h.get (i + 1) (by simpa using hi)
 cases e
 refine ⟨b,o + 6,rfl,?_⟩
 rw [show o + 6 + (0 + i) * 6=o + (i + 1) * 6 by omega]
 exact k
theorem NodeV.below {w w':World} {v:Value} : ∀ {x:Tree},NodeV w v x→Below w.heap.size w w'→NodeV w' v x
 | .node op t vk vn vs ks,h,hb=>by
  obtain ⟨A,c,e,hc,h8⟩:=h
  exact ⟨A,c,e,hc,TreesAt.below hb h8⟩
theorem TreeAt.node {w:World} {b o:Nat} {op:Int} {t:List UInt8} {vk vn:Int} {vs:List UInt8} {ks:List Tree} (h:TreeAt w b o (.node op t vk vn vs ks)) :
  b < w.heap.size∧w.cell? ⟨b,o,none⟩=some (.int .i64 op)∧w.cell? ⟨b,o + 1,none⟩=some (.string (tx t))∧w.cell? ⟨b,o + 2,none⟩=some (.int .i64 vk) ∧
   w.cell? ⟨b,o + 3,none⟩=some (.int .i64 vn)∧w.cell? ⟨b,o + 4,none⟩=some (.string (tx vs))∧∃ A c,w.cell? ⟨b,o + 5,none⟩=some (.slice A ks.length c)∧ks.length≤c∧TreesAt w A 0 ks:=by
 rw [TreeAt] at h; exact h
theorem TreeAt.mk {w:World} {b o:Nat} {op:Int} {t:List UInt8} {vk vn:Int} {vs:List UInt8} {ks:List Tree} {A:Option Addr} {c:Nat} (h:b < w.heap.size) (h0:w.cell? ⟨b,o,none⟩=some (.int .i64 op)) (h1:w.cell? ⟨b,o + 1,none⟩=some (.string (tx t)))
  (h2:w.cell? ⟨b,o + 2,none⟩=some (.int .i64 vk)) (h3:w.cell? ⟨b,o + 3,none⟩=some (.int .i64 vn)) (h4:w.cell? ⟨b,o + 4,none⟩=some (.string (tx vs))) (h5:w.cell? ⟨b,o + 5,none⟩=some (.slice A ks.length c)) (hc:ks.length≤c) (hk:TreesAt w A 0 ks) :
  TreeAt w b o (.node op t vk vn vs ks):=by
 rw [TreeAt]
 exact ⟨h,h0,h1,h2,h3,h4,A,c,h5,hc,hk⟩
theorem cellsExpr:Tryz.prog.cellsOf 26=6:=by kernel_rfl
mutual
def fitT:Tree→Prop
 | .node _ t _ _ vs ks=>t.length≤maxLen∧vs.length≤maxLen∧fitTs ks
def fitTs:List Tree→Prop
 | []=>True
 | x :: l=>fitT x∧fitTs l
end
theorem fitTs_of:∀ (l:List Tree),(∀ i (h:i < l.length),fitT l[i])→fitTs l
 | [],h=>by rw [fitTs]; trivial
 | x :: l,h=>by
  rw [fitTs]
  exact ⟨h 0 (by simp),fitTs_of l fun i hi=>h (i + 1) (by simpa using hi)⟩
theorem choose_tree {n:Nat} {R:Nat→Tree→Prop} (h:∀ i,i < n→∃ x,R i x):∃ l:List Tree,l.length=n∧∀ i (hi:i < l.length),R i l[i]:=by
 induction n with
 | zero=>exact ⟨[],rfl,fun i hi=>absurd hi (by simp)⟩
 | succ n ih=>
  obtain ⟨l,h1,h2⟩:=ih fun i hi=>h i (by omega)
  obtain ⟨x,hx⟩:=h n (by omega)
  refine ⟨l ++ [x],by simp [h1],fun i hi=>?_⟩
  by_cases e:i < l.length
  ·rw [List.getElem_append_left e]; exact h2 i e
  ·have:i=n:=by simp at hi; omega
   subst this
   rw [List.getElem_append_right (by omega)]
   simpa [h1] using hx
section
open Go.Deep Go.Joins Go.WideShapes Go.ChangeShapes
variable {H : Type} {enc : TypeId × Value → H} {W : World} {base : Nat} {spare : Nat → Bool} {held : Bool}
end
end Go.Proofs.YteghhmomhlnccaaGreatDoor
namespace Go.Proofs.YteghhmomhlnccaaGreatDoor
open Ex (Tree)
def Ex.lev (l:List UInt8):Int:=
 bif l == [111,114] then 1 else
 bif l == [97,110,100] then 2 else
 bif l == [61] then 3 else
 bif l == [33,61] then 3 else
 bif l == [60] then 3 else
 bif l == [60,61] then 3 else
 bif l == [62] then 3 else
 bif l == [62,61] then 3 else
 bif l == [43] then 4 else
 bif l == [45] then 4 else
 bif l == [38] then 4 else
 bif l == [42] then 5 else
 bif l == [47] then 5 else
 bif l == [37] then 5 else
 0
def Ex.arity (l:List UInt8):Int:=
 bif l == [108,101,110] then 1 else
 bif l == [115,116,114] then 1 else
 bif l == [110,117,109] then 1 else
 bif l == [105,115,110,117,108,108] then 1 else
 bif l == [110,118,108] then 2 else
 bif l == [108,101,102,116] then 2 else
 bif l == [114,105,103,104,116] then 2 else
 bif l == [105,102] then 3 else
 -1
def valB (k n:Int) (s:ByteArray):Bool:=plainB k n s && (!(k == 1) || decide (0≤n))
def nodeB (op:Int) (t:List UInt8) (vk vn:Int) (vs:List UInt8) (n:Nat):Bool:=
 if op=1 then t.isEmpty && (valB vk vn (tx vs) && ((n:Int) == 0))
 else if op=2 then Lx.isName t && (same vk vn (tx vs) 0 0 ⟨#[]⟩ && ((n:Int) == 0))
 else if op=3∨op=4 then t.isEmpty && (same vk vn (tx vs) 0 0 ⟨#[]⟩ && ((n:Int) == 1))
 else if op=5 then !(Ex.lev t == 0) && (same vk vn (tx vs) 0 0 ⟨#[]⟩ && ((n:Int) == 2))
 else if op=6 then ((n:Int) == Ex.arity t) && same vk vn (tx vs) 0 0 ⟨#[]⟩
 else false
def tk (L:List Lx.Tk) (i:Nat):Lx.Tk:=L.getD i ⟨0,[],0⟩
theorem tk_lt {L:List Lx.Tk} {i:Nat} (h:i < L.length):tk L i=L[i]:=by simp [tk,h]
theorem tk_ge {L:List Lx.Tk} {i:Nat} (h:¬ i < L.length):tk L i=⟨0,[],0⟩:=by simp [tk,Nat.not_lt.1 h]
def sgn (t:Lx.Tk):List UInt8:=if t.kind=5∨t.kind=2 then t.text else []
def leafT (t:Lx.Tk):Tree:=
 if t.kind=1 then .node 2 t.text 0 0 [] [] else
 if t.kind=4 then .node 1 [] 2 0 t.text [] else
 if t.kind=3∨t.kind=2 then (if (told t.text).e=0 then .node 1 [] (told t.text).k (told t.text).n (told t.text).s [] else .node 0 [] 0 0 [] []) else
 .node 0 [] 0 0 [] []
end Go.Proofs.YteghhmomhlnccaaGreatDoor
namespace Go.Proofs.YteghhmomhlnccaaGreatDoor
open Ex (Tree)
mutual
def TreeIn (S:Nat→Prop) (w:World) (b o:Nat):Tree→Prop
 | .node op t vk vn vs ks=>S b∧b < w.heap.size∧w.cell? ⟨b,o,none⟩=some (.int .i64 op)∧w.cell? ⟨b,o + 1,none⟩=some (.string (tx t))∧w.cell? ⟨b,o + 2,none⟩=some (.int .i64 vk) ∧
   w.cell? ⟨b,o + 3,none⟩=some (.int .i64 vn)∧w.cell? ⟨b,o + 4,none⟩=some (.string (tx vs))∧∃ A c,w.cell? ⟨b,o + 5,none⟩=some (.slice A ks.length c)∧ks.length≤c∧TreesIn S w A 0 ks
def TreesIn (S:Nat→Prop) (w:World) (A:Option Addr) (i:Nat):List Tree→Prop
 | []=>True
 | x :: l=>(∃ b o,A=some ⟨b,o,none⟩∧TreeIn S w b (o + i * 6) x)∧TreesIn S w A (i + 1) l
end
mutual
theorem TreeIn.moved {S S':Nat→Prop} {w w':World} (hb:∀ k,S k→k < w.heap.size→w'.heap[k]?=w.heap[k]?∧S' k):∀ {x:Tree} {b o:Nat},TreeIn S w b o x→TreeIn S' w' b o x
 | .node op t vk vn vs ks,b,o,h=>by
  rw [TreeIn] at h ⊢
  obtain ⟨hs,h0,h1,h2,h3,h4,h5,A,c,h6,h7,h8⟩:=h
  obtain ⟨e,hs'⟩:=hb b hs h0
  have k:∀ j,w'.cell? ⟨b,j,none⟩=w.cell? ⟨b,j,none⟩:=fun j=>by simp only [World.cell?,e]
  have h0':b < w'.heap.size:=by
   rw [Array.getElem?_eq_getElem h0] at e
   exact (Array.getElem?_eq_some_iff.1 e).1
  exact ⟨hs',h0',(k _).trans h1,(k _).trans h2,(k _).trans h3,(k _).trans h4,(k _).trans h5,A,c,(k _).trans h6,h7,TreesIn.moved hb h8⟩
theorem TreesIn.moved {S S':Nat→Prop} {w w':World} (hb:∀ k,S k→k < w.heap.size→w'.heap[k]?=w.heap[k]?∧S' k):∀ {l:List Tree} {A:Option Addr} {i:Nat},TreesIn S w A i l→TreesIn S' w' A i l
 | [],A,i,h=>by rw [TreesIn]; trivial
 | x :: l,A,i,h=>by
  rw [TreesIn] at h ⊢
  obtain ⟨⟨b,o,e,h1⟩,h2⟩:=h
  exact ⟨⟨b,o,e,TreeIn.moved hb h1⟩,TreesIn.moved hb h2⟩
end
mutual
theorem TreeIn.at {S:Nat→Prop} {w:World} : ∀ {x:Tree} {b o:Nat},TreeIn S w b o x→TreeAt w b o x
 | .node op t vk vn vs ks,b,o,h=>by
  rw [TreeIn] at h
  rw [TreeAt]
  obtain ⟨hs,h0,h1,h2,h3,h4,h5,A,c,h6,h7,h8⟩:=h
  exact ⟨h0,h1,h2,h3,h4,h5,A,c,h6,h7,TreesIn.at h8⟩
theorem TreesIn.at {S:Nat→Prop} {w:World} : ∀ {l:List Tree} {A:Option Addr} {i:Nat},TreesIn S w A i l→TreesAt w A i l
 | [],A,i,h=>by rw [TreesAt]; trivial
 | x :: l,A,i,h=>by
  rw [TreesIn] at h
  rw [TreesAt]
  obtain ⟨⟨b,o,e,h1⟩,h2⟩:=h
  exact ⟨⟨b,o,e,TreeIn.at h1⟩,TreesIn.at h2⟩
end
mutual
theorem TreeAt.inn {w:World} : ∀ {x:Tree} {b o:Nat},TreeAt w b o x→TreeIn (· < w.heap.size) w b o x
 | .node op t vk vn vs ks,b,o,h=>by
  rw [TreeAt] at h
  rw [TreeIn]
  obtain ⟨h0,h1,h2,h3,h4,h5,A,c,h6,h7,h8⟩:=h
  exact ⟨h0,h0,h1,h2,h3,h4,h5,A,c,h6,h7,TreesAt.inn h8⟩
theorem TreesAt.inn {w:World} : ∀ {l:List Tree} {A:Option Addr} {i:Nat},TreesAt w A i l→TreesIn (· < w.heap.size) w A i l
 | [],A,i,h=>by rw [TreesIn]; trivial
 | x :: l,A,i,h=>by
  rw [TreesAt] at h
  rw [TreesIn]
  obtain ⟨⟨b,o,e,h1⟩,h2⟩:=h
  exact ⟨⟨b,o,e,TreeAt.inn h1⟩,TreesAt.inn h2⟩
end
theorem TreesIn.at_ {S:Nat→Prop} {w:World} : ∀ (l:List Tree) (A:Option Addr) (k:Nat),TreesIn S w A k l→∀ i (h:i < l.length),∃ b o,A=some ⟨b,o,none⟩∧TreeIn S w b (o + (k + i) * 6) l[i]
 | [],A,k,h,i,hi=>absurd hi (Nat.not_lt_zero _)
 | x :: l,A,k,h,0,hi=>by
  rw [TreesIn] at h
  obtain ⟨⟨b,o,e,h1⟩,-⟩:=h
  exact ⟨b,o,e,h1⟩
 | x :: l,A,k,h,i + 1,hi=>by
  rw [TreesIn] at h
  obtain ⟨b,o,e,h1⟩:=TreesIn.at_ l A (k + 1) h.2 i (by simpa using hi)
  refine ⟨b,o,e,?_⟩
  rw [show k + (i + 1)=k + 1 + i by omega]
  exact h1
theorem TreesIn.of {S:Nat→Prop} {w:World} : ∀ (l:List Tree) (A:Option Addr) (k:Nat),(∀ i (h:i < l.length),∃ b o,A=some ⟨b,o,none⟩∧TreeIn S w b (o + (k + i) * 6) l[i])→TreesIn S w A k l
 | [],A,k,h=>by rw [TreesIn]; trivial
 | x :: l,A,k,h=>by
  rw [TreesIn]
  refine ⟨h 0 (by simp),TreesIn.of l A (k + 1) fun i hi=>?_⟩
  obtain ⟨b,o,e,h1⟩:=h (i + 1) (by simpa using hi)
  refine ⟨b,o,e,?_⟩
  rw [show k + 1 + i=k + (i + 1) by omega]
  exact h1
def CellsT (S:Nat→Prop) (w:World):List Value→List Tree→Prop
 | xs,[]=>xs=[]
 | xs,.node op t vk vn vs ks :: l=>∃ A c r,xs=.int .i64 op :: .string (tx t) :: .int .i64 vk :: .int .i64 vn :: .string (tx vs) :: .slice A ks.length c :: r∧ks.length≤c∧TreesIn S w A 0 ks∧CellsT S w r l
theorem CellsT.moved {S S':Nat→Prop} {w w':World} (hb:∀ k,S k→k < w.heap.size→w'.heap[k]?=w.heap[k]?∧S' k):∀ {l:List Tree} {xs:List Value},CellsT S w xs l→CellsT S' w' xs l
 | [],xs,h=>h
 | .node op t vk vn vs ks :: l,xs,h=>by
  obtain ⟨A,c,r,rfl,hc,hk,hr⟩:=h
  exact ⟨A,c,r,rfl,hc,hk.moved hb,CellsT.moved hb hr⟩
theorem CellsT.append {S:Nat→Prop} {w:World} : ∀ {l m:List Tree} {xs ys:List Value},CellsT S w xs l→CellsT S w ys m→CellsT S w (xs ++ ys) (l ++ m)
 | [],m,xs,ys,h,k=>by rw [show xs=[] from h]; exact k
 | .node op t vk vn vs ks :: l,m,xs,ys,h,k=>by
  obtain ⟨A,c,r,rfl,hc,hk,hr⟩:=h
  exact ⟨A,c,r ++ ys,rfl,hc,hk,CellsT.append hr k⟩
theorem CellsT.length {S:Nat→Prop} {w:World} : ∀ {l:List Tree} {xs:List Value},CellsT S w xs l→xs.length=l.length * 6
 | [],xs,h=>by rw [show xs=[] from h]; rfl
 | .node op t vk vn vs ks :: l,xs,h=>by
  obtain ⟨A,c,r,rfl,hc,hk,hr⟩:=h
  have:=hr.length
  simp only [List.length_cons]; omega
theorem CellsT.one {S:Nat→Prop} {w:World} : ∀ {l:List Tree} {xs:List Value},CellsT S w xs l→∀ v ∈ xs,v.oneCell'=true
 | [],xs,h,v,hv=>by rw [show xs=[] from h] at hv; cases hv
 | .node op t vk vn vs ks :: l,xs,h,v,hv=>by
  obtain ⟨A,c,r,rfl,hc,hk,hr⟩:=h
  simp only [List.mem_cons] at hv
  rcases hv with rfl | rfl | rfl | rfl | rfl | rfl | hv
  any_goals rfl
  exact hr.one v hv
def SrcT (S:Nat→Prop) (w:World) (A:Option Addr) (m:List Tree):Prop:=∃ ys,CellsT S w ys m∧∀ j u,ys[j]?=some u→∃ b o,A=some ⟨b,o,none⟩∧w.cell? ⟨b,o + j,none⟩=some u
theorem SrcT.nil (S:Nat→Prop) (w:World) (A:Option Addr):SrcT S w A []:=⟨[],rfl,fun j u hu=>by simp at hu⟩
theorem TreesIn.tail {S:Nat→Prop} {w:World} {x:Tree} {l:List Tree} {b o:Nat} (h:TreesIn S w (some ⟨b,o,none⟩) 0 (x :: l)):TreesIn S w (some ⟨b,o + 6,none⟩) 0 l:=by
 refine TreesIn.of _ _ _ fun i hi=>?_
 obtain ⟨b',o',e,k⟩:=TreesIn.at_ _ _ _ h (i + 1) (by simpa using hi)
 cases e
 refine ⟨b,o + 6,rfl,?_⟩
 rw [show o + 6 + (0 + i) * 6=o + (0 + (i + 1)) * 6 by omega]
 exact k
theorem cellsT_of {S:Nat→Prop} {w:World} {b:Nat} : ∀ (l:List Tree) (o:Nat),TreesIn S w (some ⟨b,o,none⟩) 0 l→∃ xs,CellsT S w xs l∧∀ j u,xs[j]?=some u→w.cell? ⟨b,o + j,none⟩=some u
 | [],o,h=>⟨[],rfl,fun j u hu=>by simp at hu⟩
 | x :: l,o,h=>by
  obtain ⟨xs,h1,h2⟩:=cellsT_of l (o + 6) h.tail
  obtain ⟨b',o',e,k⟩:=TreesIn.at_ _ _ _ h 0 (by simp)
  cases e
  rw [List.getElem_cons_zero] at k
  cases x with
  | node op t vk vn vs ks=>
  rw [TreeIn] at k
  obtain ⟨-,-,c0,c1,c2,c3,c4,A,c,c5,hc,hk⟩:=k
  refine ⟨_,⟨A,c,xs,rfl,hc,hk,h1⟩,fun j u hu=>?_⟩
  match j,hu with
  | 0,hu=>simp at hu; subst hu; simpa using c0
  | 1,hu=>simp at hu; subst hu; simpa using c1
  | 2,hu=>simp at hu; subst hu; simpa using c2
  | 3,hu=>simp at hu; subst hu; simpa using c3
  | 4,hu=>simp at hu; subst hu; simpa using c4
  | 5,hu=>simp at hu; subst hu; simpa using c5
  | j + 6,hu=>
   have:=h2 j u (by simpa using hu)
   rw [show o + (j + 6)=o + 6 + j by omega]
   exact this
theorem TreesIn.src {S:Nat→Prop} {w:World} {A:Option Addr} {l:List Tree} (h:TreesIn S w A 0 l):SrcT S w A l:=by
 cases l with
 | nil=>exact SrcT.nil _ _ _
 | cons x l=>
  obtain ⟨b,o,e,-⟩:=TreesIn.at_ _ _ _ h 0 (by simp)
  subst e
  obtain ⟨ys,h1,h2⟩:=cellsT_of (x :: l) o h
  exact ⟨ys,h1,fun j u hu=>⟨b,o,rfl,h2 j u hu⟩⟩
theorem SrcT.moved {S S':Nat→Prop} {w w':World} {A:Option Addr} {l:List Tree} (h:SrcT S w A l) (hb:∀ k,S k→k < w.heap.size→w'.heap[k]?=w.heap[k]?∧S' k) (hA:∀ b o,A=some ⟨b,o,none⟩→w'.heap[b]?=w.heap[b]?):SrcT S' w' A l:=by
 obtain ⟨ys,h1,h2⟩:=h
 refine ⟨ys,h1.moved hb,fun j u hu=>?_⟩
 obtain ⟨b,o,e,h3⟩:=h2 j u hu
 exact ⟨b,o,e,by have:=hA b o e; simp only [World.cell?,this] at h3 ⊢; exact h3⟩
theorem CellsT.trees {S:Nat→Prop} {w:World} {b:Nat} (hb:b < w.heap.size):∀ {l:List Tree} {xs:List Value} (o:Nat),CellsT S w xs l→(∀ j u,xs[j]?=some u→w.cell? ⟨b,o + j,none⟩=some u)→TreesIn (fun k=>S k∨k=b) w (some ⟨b,o,none⟩) 0 l:=by
 intro l xs o h hc
 refine TreesIn.of _ _ _ ?_
 induction l generalizing xs o with
 | nil=>intro i hi; exact absurd hi (Nat.not_lt_zero _)
 | cons x l ih=>
  cases x with
  | node op t vk vn vs ks=>
  obtain ⟨A,c,r,rfl,hcc,hk,hr⟩:=h
  intro i hi
  cases i with
  | zero=>
   refine ⟨b,o,rfl,?_⟩
   rw [List.getElem_cons_zero,TreeIn]
   exact ⟨.inr rfl,hb,by simpa using hc 0 _ rfl,by simpa using hc 1 _ rfl,by simpa using hc 2 _ rfl,by simpa using hc 3 _ rfl,by simpa using hc 4 _ rfl,A,c,by simpa using hc 5 _ rfl,hcc,hk.moved fun k h1 _=>⟨rfl,.inl h1⟩⟩
  | succ i=>
   obtain ⟨b',o',e,k⟩:=ih (o + 6) hr (fun j u hu=>by
    have:=hc (j + 6) u (by simpa using hu)
    rwa [show o + (j + 6)=o + 6 + j by omega] at this) i (by simpa using hi)
   cases e
   refine ⟨b,o,rfl,?_⟩
   rw [List.getElem_cons_succ,show o + (0 + (i + 1)) * 6=o + 6 + (0 + i) * 6 by omega]
   exact k
def RowT (S:Nat→Prop) (w:World) (base:Nat) (v:Value) (l:List Tree):Prop:=∃ xs,w.ownsRow base 26 6 v l.length xs∧CellsT S w xs l∧∀ k,v.ownBlock=some k→¬ S k
theorem RowT.nil (S:Nat→Prop) (w:World) (base:Nat):RowT S w base (.slice none 0 0) []:=⟨[],⟨rfl,.inl ⟨rfl,rfl⟩⟩,rfl,fun k e=>by cases e⟩
theorem RowT.new {S:Nat→Prop} {w:World} (hS:¬ S w.heap.size):RowT S (w.alloc (.cells #[] 26)) w.heap.size (.slice (some ⟨w.heap.size,0,none⟩) 0 0) []:=
 ⟨[],⟨rfl,.inr ⟨w.heap.size,0,#[],rfl,Nat.le_refl _,heap_alloc_new w _,Nat.le_refl _,Nat.zero_le _,rfl,rfl⟩⟩,rfl,fun k e=>by cases e; exact hS⟩
theorem RowT.moved {S S':Nat→Prop} {w w':World} {base:Nat} {v:Value} {l:List Tree} (h:RowT S w base v l) (hb:∀ k,S k→k < w.heap.size→w'.heap[k]?=w.heap[k]?∧S' k) (hv:∀ k,v.ownBlock=some k→w'.heap[k]?=w.heap[k]?∧¬ S' k):RowT S' w' base v l:=by
 obtain ⟨xs,h1,h2,h3⟩:=h
 exact ⟨xs,ownsRow_of_heap h1 fun b e=>(hv b e).1,h2.moved hb,fun k e=>(hv k e).2⟩
theorem RowT.below {S:Nat→Prop} {w w':World} {base:Nat} {v:Value} {l:List Tree} (h:RowT S w base v l) (hb:Below w.heap.size w w'):RowT S w' base v l:=by
 have h':=h
 obtain ⟨xs,h1,h2,h3⟩:=h
 refine h'.moved (fun k hS hk=>⟨hb.block k hk,hS⟩) fun k e=>⟨?_,h3 k e⟩
 obtain ⟨cur,hc⟩:=row_kind h1 e
 exact hb.block k (Array.getElem?_eq_some_iff.1 hc).1
theorem RowT.block {S:Nat→Prop} {w:World} {base:Nat} {v:Value} {l:List Tree} (h:RowT S w base v l):∀ k,v.ownBlock=some k→base≤k∧k < w.heap.size:=fun k e=>by
 obtain ⟨xs,h1,h2,h3⟩:=h
 obtain ⟨cur,hc⟩:=row_kind h1 e
 exact ⟨own_ge h1 e,(Array.getElem?_eq_some_iff.1 hc).1⟩
theorem RowT.shape {S:Nat→Prop} {w:World} {base:Nat} {v:Value} {l:List Tree} (h:RowT S w base v l):∃ A c,v=.slice A l.length c∧l.length≤c∧TreesIn (fun k=>S k∨v.ownBlock=some k) w A 0 l∧c≤maxLen:=by
 obtain ⟨xs,h1,h2,h3⟩:=h
 have hl:=h2.length
 rcases h1.2 with ⟨rfl,h0⟩ | ⟨g,cap,cur,rfl,hb,hh,hn,hm,hs,ht⟩
 ·have:l=[]:=List.eq_nil_of_length_eq_zero h0
  subst this
  exact ⟨none,0,rfl,Nat.le_refl _,by rw [TreesIn]; trivial,Nat.zero_le _⟩
 ·refine ⟨_,cap,rfl,hn,(h2.trees (Array.getElem?_eq_some_iff.1 hh).1 0 fun j u hu=>?_).moved (fun k hk _=>⟨rfl,hk.imp id (fun e=>by rw [e]; rfl)⟩),hm⟩
  have hj:j < xs.length:=(List.getElem?_eq_some_iff.1 hu).1
  rw [Nat.zero_add,cell_of_row w g j cur 26 (0,0) hh,← hu,← ht,List.getElem?_take,if_pos (by omega)]
  simp
theorem infoExpr:(Tryz.prog.info? 26).map (fun i=>(i.zero.map (fun z=>z.cells.size),i.size,decide (i.bytes≤1000)))=some (some 6,6,true):=by kernel_rfl
theorem append_trees {S:Nat→Prop} {w:World} {base:Nat} {v:Value} {l m:List Tree} (h:RowT S w base v l) {A:Option Addr} {c:Nat} (hm:SrcT S w A m) (hn:l.length + m.length≤1000000) (hbase:base≤w.heap.size) (hS:¬ S w.heap.size) :
  ∃ v' w',Sem.run Tryz.prog (Builtin.append_ #[24,24] 24 #[v,.slice A m.length c]) w=.ok v' w'∧RowT S w' base v' (l ++ m)∧Touch v.ownBlock.toList w w'∧(v'.ownBlock=v.ownBlock∨v'.ownBlock=some w.heap.size):=by
 obtain ⟨xs,h1,h2,h3⟩:=h
 have hinf:=infoExpr
 cases hi:Tryz.prog.info? 26 with
 | none=>rw [hi] at hinf; simp at hinf
 | some i=>
  rw [hi] at hinf
  simp at hinf
  obtain ⟨⟨z,hz,i1⟩,i2,i3⟩:=hinf
  have hb:∀ (a b:Nat),a≤1000001→b≤1000→a * b≤140737488355328:=fun a b h1 h2=>Nat.le_trans (Nat.mul_le_mul h1 h2) (by omega)
  obtain ⟨ys,k1,k2⟩:=hm
  cases A with
  | none=>
   have hm0:m=[]:=by
    cases m with
    | nil=>rfl
    | cons x r=>
     cases x with
     | node op t vk vn vs ks=>
     obtain ⟨A,c,r',rfl,-⟩:=k1
     obtain ⟨b,o,e,_⟩:=k2 0 _ rfl
     cases e
   subst hm0
   refine ⟨v,w,?_,by simpa using ⟨xs,h1,h2,h3⟩,Touch.refl _ _,.inl rfl⟩
   rcases h1.2 with ⟨rfl,_⟩ | ⟨g,cap,cur,rfl,_,_,hnc,_⟩
   ·simp [Builtin.append_,run_underlying Tryz.underlying24,sizeOf,typeInfo,hi,Builtin.lenOf,Builtin.firstCells]
   ·simp [Builtin.append_,run_underlying Tryz.underlying24,sizeOf,typeInfo,hi,Builtin.lenOf,Builtin.firstCells,hnc,storeCells]
  | some a=>
   have key:∀ j u,ys[j]?=some u→w.cell? (a.add j)=some u:=fun j u hu=>by
    obtain ⟨b,o,e,hc⟩:=k2 j u hu
    cases e
    rw [Addr.add_lit]
    exact hc
   obtain ⟨v',w',hr,ho,hg,_,hb'⟩:=run_append_own_at (P:=Tryz.prog) w base 24 24 26 i z 6 i.bytes Tryz.underlying24 hi hz i2 rfl i1 (by omega) v l.length xs h1 a m.length c ys k1.length key k1.one (by simp only [maxLen]; omega) (hb _ _ (by omega) i3) hbase
   have hT:Touch v.ownBlock.toList w w':=Touch.of_grown hg
   have hT2:∀ k,S k→k < w.heap.size→w'.heap[k]?=w.heap[k]?∧S k:=fun k hk hlt=>⟨hT.block k hlt (fun hk'=>h3 k (by simpa using hk') hk),hk⟩
   refine ⟨v',w',hr,⟨xs ++ ys,by rw [List.length_append]; exact ho,(h2.append k1).moved hT2,fun k e=>?_⟩,hT,hb'⟩
   rcases hb' with hb' | hb'
   ·exact h3 k (by rw [← hb']; exact e)
   ·rw [hb'] at e; cases e; exact hS
theorem RowT.src {S:Nat→Prop} {w:World} {base:Nat} {v:Value} {l:List Tree} (h:RowT S w base v l):∃ A c,v=.slice A l.length c∧l.length≤c∧c≤maxLen∧SrcT S w A l∧∀ b o,A=some ⟨b,o,none⟩→v.ownBlock=some b:=by
 obtain ⟨xs,h1,h2,h3⟩:=h
 have hl:=h2.length
 rcases h1.2 with ⟨rfl,h0⟩ | ⟨g,cap,cur,rfl,hb,hh,hn,hm,hs,ht⟩
 ·have:l=[]:=List.eq_nil_of_length_eq_zero h0
  subst this
  exact ⟨none,0,rfl,Nat.le_refl _,Nat.zero_le _,SrcT.nil _ _ _,fun b o e=>by cases e⟩
 ·refine ⟨_,cap,rfl,hn,hm,⟨xs,h2,fun j u hu=>⟨g,0,rfl,?_⟩⟩,fun b o e=>by cases e; rfl⟩
  have hj:j < xs.length:=(List.getElem?_eq_some_iff.1 hu).1
  rw [Nat.zero_add,cell_of_row w g j cur 26 (0,0) hh,← hu,← ht,List.getElem?_take,if_pos (by omega)]
  simp
theorem SrcT.head {S:Nat→Prop} {w:World} {A:Option Addr} {op:Int} {t:List UInt8} {vk vn:Int} {vs:List UInt8} {ks:List Tree} {l:List Tree} (h:SrcT S w A (.node op t vk vn vs ks :: l)) :
  ∃ b o B c,A=some ⟨b,o,none⟩∧b < w.heap.size∧w.cell? ⟨b,o,none⟩=some (.int .i64 op)∧w.cell? ⟨b,o + 1,none⟩=some (.string (tx t))∧w.cell? ⟨b,o + 2,none⟩=some (.int .i64 vk)∧w.cell? ⟨b,o + 3,none⟩=some (.int .i64 vn)∧w.cell? ⟨b,o + 4,none⟩=some (.string (tx vs)) ∧
   w.cell? ⟨b,o + 5,none⟩=some (.slice B ks.length c)∧ks.length≤c∧TreesIn S w B 0 ks∧SrcT S w (some ⟨b,o + 6,none⟩) l:=by
 obtain ⟨ys,h1,h2⟩:=h
 obtain ⟨B,c,r,rfl,hc,hk,hr⟩:=h1
 obtain ⟨b,o,rfl,c0⟩:=h2 0 _ rfl
 have at_:∀ j u,(Value.int IntKind.i64 op :: .string (tx t) :: .int .i64 vk :: .int .i64 vn :: .string (tx vs) :: .slice B ks.length c :: r)[j]?=some u→w.cell? ⟨b,o + j,none⟩=some u:=fun j u hu=>by
  obtain ⟨b',o',e,k⟩:=h2 j u hu
  cases e; exact k
 refine ⟨b,o,B,c,rfl,World.block_lt_of_cell? w _ c0,by simpa using c0,at_ 1 _ rfl,at_ 2 _ rfl,at_ 3 _ rfl,at_ 4 _ rfl,at_ 5 _ rfl,hc,hk,r,hr,fun j u hu=>⟨b,o + 6,rfl,?_⟩⟩
 have:=at_ (j + 6) u (by simpa using hu)
 rwa [show o + (j + 6)=o + 6 + j by omega] at this
theorem SrcT.below {S:Nat→Prop} {w w':World} {A:Option Addr} {l:List Tree} (h:SrcT S w A l) (hb:Below w.heap.size w w'):SrcT S w' A l:=by
 obtain ⟨ys,h1,h2⟩:=h
 refine ⟨ys,h1.moved fun k hS hk=>⟨hb.block k hk,hS⟩,fun j u hu=>?_⟩
 obtain ⟨b,o,e,h3⟩:=h2 j u hu
 exact ⟨b,o,e,(hb.cell (p:=⟨b,o + j,none⟩) (World.block_lt_of_cell? w _ h3)).trans h3⟩
theorem TreesIn.below {S:Nat→Prop} {w w':World} {A:Option Addr} {l:List Tree} (h:TreesIn S w A 0 l) (hb:Below w.heap.size w w'):TreesIn S w' A 0 l:=h.moved fun k hS hk=>⟨hb.block k hk,hS⟩
theorem TreesAt.old {w0 w:World} {A:Option Addr} {l:List Tree} (h:TreesAt w0 A 0 l) (hb:Below w0.heap.size w0 w):TreesIn (· < w0.heap.size) w A 0 l:=h.inn.moved fun k _ hk=>⟨hb.block k hk,hk⟩
end Go.Proofs.YteghhmomhlnccaaGreatDoor
