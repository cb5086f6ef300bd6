import Derived.Test.YteghhmomhlnccaaGreatDoorYT10
import Derived.Test.YteghhmomhlnccaaGreatDoorYT3
import Derived.Deep.CutRange
import Derived.Deep.DeepCutAuto
import Derived.Deep.CutBlock
set_option linter.unusedVariables false
set_option linter.unusedSimpArgs false
set_option maxRecDepth 100000
set_option maxHeartbeats 100000000
open Go.RowKit Go.Lib
namespace Go.Proofs.YteghhmomhlnccaaGreatDoor
open Ex (Tree)
theorem count_lt {op:Int} {t:List UInt8} {vk vn:Int} {vs:List UInt8} {ks:List Tree} {x:Tree} (h:x ∈ ks):Ex.count x < Ex.count (.node op t vk vn vs ks):=by
 have:∀ l:List Tree,x ∈ l→Ex.count x≤Ex.counts l:=by
  intro l
  induction l with
  | nil=>intro h; cases h
  | cons y l ih=>
   intro h
   rw [Ex.counts]
   rcases List.mem_cons.1 h with rfl | h
   ·omega
   ·have:=ih h; omega
 have:=this ks h
 rw [Ex.count]; omega
theorem counts_take (ks:List Tree) (i:Nat) (h:i < ks.length):Ex.counts (ks.take (i + 1))=Ex.counts (ks.take i) + Ex.count ks[i]:=by
 rw [List.take_succ_eq_append_getElem h,Ex.counts_append,Ex.counts,Ex.counts]; omega
theorem counts_le (ks:List Tree) (i:Nat):Ex.counts (ks.take i)≤Ex.counts ks:=by
 have:=Ex.counts_append (ks.take i) (ks.drop i)
 rw [List.take_append_drop] at this; omega
theorem depths_take (ks:List Tree) (i:Nat) (h:i < ks.length):Ex.depths (ks.take (i + 1))=max (Ex.depths (ks.take i)) (Ex.depth ks[i]):=by
 rw [List.take_succ_eq_append_getElem h,Ex.depths_append,Ex.depths,Ex.depths]; omega
theorem depths_le (ks:List Tree) (i:Nat):Ex.depths (ks.take i)≤Ex.depths ks:=by
 have:=Ex.depths_append (ks.take i) (ks.drop i)
 rw [List.take_append_drop] at this; omega
theorem TreesAt.kid {w:World} {ks:List Tree} {A:Option Addr} (h:TreesAt w A 0 ks) (i:Nat) (hi:i < ks.length) :
  ∃ b o op t vk vn vs l B n,A=some ⟨b,o,none⟩∧ks[i]=.node op t vk vn vs l∧w.cell? ⟨b,o + i * 6,none⟩=some (.int .i64 op)∧w.cell? ⟨b,o + i * 6 + 1,none⟩=some (.string (tx t))∧w.cell? ⟨b,o + i * 6 + 2,none⟩=some (.int .i64 vk) ∧
   w.cell? ⟨b,o + i * 6 + 3,none⟩=some (.int .i64 vn)∧w.cell? ⟨b,o + i * 6 + 4,none⟩=some (.string (tx vs))∧w.cell? ⟨b,o + i * 6 + 5,none⟩=some (.slice B l.length n)∧NodeV w (.agg (ncells op t vk vn vs B l.length n)) ks[i]:=by
 obtain ⟨b,o,e,k⟩:=h.get i hi
 cases hx:ks[i] with
 | node op t vk vn vs l=>
 rw [hx] at k
 obtain ⟨-,h1,h2,h3,h4,h5,B,n,h6,h7,h8⟩:=k.node
 exact ⟨b,o,op,t,vk,vn,vs,l,B,n,e,rfl,h1,h2,h3,h4,h5,h6,B,n,rfl,h7,h8⟩
mutual
theorem depth_count:∀ x:Tree,Ex.depth x≤Ex.count x
 | .node op t vk vn vs ks=>by rw [Ex.depth,Ex.count]; have:=depths_counts ks; omega
theorem depths_counts:∀ l:List Tree,Ex.depths l≤Ex.counts l
 | []=>by rw [Ex.depths]; omega
 | x :: l=>by rw [Ex.depths,Ex.counts]; have:=depth_count x; have:=depths_counts l; omega
end
theorem refCount_all (N:Nat):∀ (T:Tree),Ex.count T≤N→Ex.count T≤1000000→∀ (v:Value) (w:World),NodeV w v T →
  Calls Tryz.prog 36 #[v] w fun e w'=>e=.returned (.int .i64 (Ex.count T:Nat))∧Below w.heap.size w w':=by
 induction N with
 | zero=>intro T h; have:=Ex.count_pos T; omega
 | succ N ih=>
  intro T hN hM v w h
  cases T with
  | node op t vk vn vs ks=>
  obtain ⟨A,c,rfl,hcc,hk⟩:=h
  have IH:=hid (fun i (hi:i < ks.length)=>ih ks[i] (by have:=count_lt (op:=op) (t:=t) (vk:=vk) (vn:=vn) (vs:=vs) (List.getElem_mem hi); omega) (by have:=count_lt (op:=op) (t:=t) (vk:=vk) (vn:=vn) (vs:=vs) (List.getElem_mem hi); omega))
  have hE:Ex.count (.node op t vk vn vs ks)=1 + Ex.counts ks:=by rw [Ex.count]; omega
  have HE:=hid hE
  have H0:=hid (Whole.new w 26 (ncells op t vk vn vs A ks.length c))
  have B0:Hid (Below w.heap.size w (w.alloc (.cells (ncells op t vk vn vs A ks.length c) 26))):=hid ((Below.refl _ _).alloc (Nat.le_refl _) _)
  have hlen:=Ex.length_counts ks
  have hks:(ks.length:Int)≤1000000:=by omega
  have hM2:Ex.counts ks≤1000000:=by omega
  clear ih hE
  unfold ncells at *
  go_enter Tryz.func36,Tryz.ntmps36
  go_wp2_with fail
  generalize w.alloc (.cells #[.int .i64 op,.string (tx t),.int .i64 vk,.int .i64 vn,.string (tx vs),.slice A ks.length c] 26)=W0 at *
  go_loopg [3,4] (ks.length + 1) (fun j s3 s4 wr=>∃ i:Nat,i≤ks.length∧ks.length < i + j∧s4=.int .i64 (i:Nat)∧s3=.int .i64 ((1 + Ex.counts (ks.take i):Nat):Int)∧Hid (Whole wr w.heap.size 26 #[.int .i64 op,.string (tx t),.int .i64 vk,.int .i64 vn,.string (tx vs),.slice A ks.length c])∧Hid (Below w.heap.size w wr))
  case atStart=>exact ⟨0,by omega,by omega,rfl,rfl,H0,B0⟩
  case round=>
   obtain ⟨i,hi,hj,rfl,rfl,HW,HB⟩:=hrel
   obtain ⟨c0,c1,c2,c3,c4,c5⟩:=six_of HW.out
   by_cases hlt:i < ks.length
   ·have hlt':(i:Int) < (ks.length:Int):=by omega
    have hkk:=hk.below HB.out
    obtain ⟨b,o,op',t',vk',vn',vs',l,B,n,rfl,hx,d0,d1,d2,d3,d4,d5,hv⟩:=hkk.kid i hlt
    have CC:=hid (IH.out i hlt _ _ hv)
    have h1:=counts_take ks i hlt
    have h2:=counts_le ks (i + 1)
    have H1:=hid h1
    have hb1:((1 + Ex.counts (ks.take i):Nat):Int)≤1000001:=by omega
    have hb2:((Ex.count ks[i] : Nat):Int)≤1000001:=by omega
    clear h1 h2 hkk hv hx
    obtain ⟨s,hs⟩:∃ s,1 + Ex.counts (ks.take i)=s:=⟨_,rfl⟩
    have HS:=hid hs
    rw [hs] at hb1 ⊢
    clear hs
    go_wp2_with fail
    refine CC.out.mono ?_
    rintro e w1 ⟨rfl,hb⟩
    have HB1:=hid (bstep HB.out hb)
    have HW1:=hid (Whole.below HW.out hb (Whole.lt HW.out))
    clear hb
    go_wp2_with fail
    go_roundg (ks.length - i)
    case measure=>omega
    case rel=>
     refine ⟨i + 1,by omega,by omega,by go_num,?_,HW1,HB1⟩
     have hs2:=HS.out
     have e:1 + (Ex.counts (ks.take i) + Ex.count ks[i])=s + Ex.count ks[i]:=by omega
     rw [H1.out,e]
     go_num
   ·have hlt':¬ (i:Int) < (ks.length:Int):=by omega
    have hie:i=ks.length:=by omega
    have HH:Hid (1 + Ex.counts (ks.take i)=Ex.count (.node op t vk vn vs ks)):=hid (by rw [hie,List.take_length,HE.out])
    rw [HH.out]
    go_wp2_with fail
    go_ret
    exact ⟨rfl,HB.out⟩
theorem refDepth_all (N:Nat):∀ (T:Tree),Ex.count T≤N→Ex.count T≤1000000→∀ (v:Value) (w:World),NodeV w v T →
  Calls Tryz.prog 35 #[v] w fun e w'=>e=.returned (.int .i64 (Ex.depth T:Nat))∧Below w.heap.size w w':=by
 induction N with
 | zero=>intro T h; have:=Ex.count_pos T; omega
 | succ N ih=>
  intro T hN hM v w h
  cases T with
  | node op t vk vn vs ks=>
  obtain ⟨A,c,rfl,hcc,hk⟩:=h
  have IH:=hid (fun i (hi:i < ks.length)=>ih ks[i] (by have:=count_lt (op:=op) (t:=t) (vk:=vk) (vn:=vn) (vs:=vs) (List.getElem_mem hi); omega) (by have:=count_lt (op:=op) (t:=t) (vk:=vk) (vn:=vn) (vs:=vs) (List.getElem_mem hi); omega))
  have hE:Ex.depth (.node op t vk vn vs ks)=Ex.depths ks + 1:=by rw [Ex.depth]
  have HE:=hid hE
  have H0:=hid (Whole.new w 26 (ncells op t vk vn vs A ks.length c))
  have B0:Hid (Below w.heap.size w (w.alloc (.cells (ncells op t vk vn vs A ks.length c) 26))):=hid ((Below.refl _ _).alloc (Nat.le_refl _) _)
  have hlen:=Ex.length_counts ks
  have hks0:Ex.counts ks + 1=Ex.count (.node op t vk vn vs ks):=by rw [Ex.count]
  have hks:(ks.length:Int)≤1000000:=by omega
  have hM2:Ex.depths ks≤1000000:=by
   have:=depths_counts ks
   have hE2:Ex.count (.node op t vk vn vs ks)=Ex.counts ks + 1:=by rw [Ex.count]
   omega
  clear ih hE hks0
  unfold ncells at *
  go_enter Tryz.func35,Tryz.ntmps35
  go_wp2_with fail
  generalize w.alloc (.cells #[.int .i64 op,.string (tx t),.int .i64 vk,.int .i64 vn,.string (tx vs),.slice A ks.length c] 26)=W0 at *
  go_loopg [3,4,5] (ks.length + 1) (fun j s3 s4 s5 wr=>∃ i:Nat,i≤ks.length∧ks.length < i + j∧s4=.int .i64 (i:Nat)∧s3=.int .i64 ((Ex.depths (ks.take i):Nat):Int)∧Hid (Whole wr w.heap.size 26 #[.int .i64 op,.string (tx t),.int .i64 vk,.int .i64 vn,.string (tx vs),.slice A ks.length c])∧Hid (Below w.heap.size w wr))
  case atStart=>exact ⟨0,by omega,by omega,rfl,rfl,H0,B0⟩
  case round=>
   obtain ⟨i,hi,hj,rfl,rfl,HW,HB⟩:=hrel
   obtain ⟨c0,c1,c2,c3,c4,c5⟩:=six_of HW.out
   by_cases hlt:i < ks.length
   ·have hlt':(i:Int) < (ks.length:Int):=by omega
    have hkk:=hk.below HB.out
    obtain ⟨b,o,op',t',vk',vn',vs',l,B,n,rfl,hx,d0,d1,d2,d3,d4,d5,hv⟩:=hkk.kid i hlt
    have CC:=hid (IH.out i hlt _ _ hv)
    have h1:=depths_take ks i hlt
    have h2:=depths_le ks (i + 1)
    have H1:=hid h1
    have hb1:((Ex.depths (ks.take i):Nat):Int)≤1000001:=by omega
    have hb2:((Ex.depth ks[i] : Nat):Int)≤1000001:=by omega
    clear h1 h2 hkk hv hx
    obtain ⟨s,hs⟩:∃ s,Ex.depths (ks.take i)=s:=⟨_,rfl⟩
    have HS:=hid hs
    rw [hs] at hb1 ⊢
    clear hs
    go_wp2_with fail
    refine CC.out.mono ?_
    rintro e w1 ⟨rfl,hb⟩
    have HB1:=hid (bstep HB.out hb)
    have HW1:=hid (Whole.below HW.out hb (Whole.lt HW.out))
    clear hb
    by_cases hm:s < Ex.depth ks[i]
    ·have hm':(s:Int) < (Ex.depth ks[i] : Nat):=by omega
     go_wp2_with fail
     go_roundg (ks.length - i)
     case measure=>omega
     case rel=>
      refine ⟨i + 1,by omega,by omega,by go_num,?_,HW1,HB1⟩
      have hs2:=HS.out
      have e:Ex.depths (ks.take (i + 1))=Ex.depth ks[i]:=by rw [H1.out]; omega
      rw [e]
    ·have hm':¬ (s:Int) < (Ex.depth ks[i] : Nat):=by omega
     go_wp2_with fail
     go_roundg (ks.length - i)
     case measure=>omega
     case rel=>
      refine ⟨i + 1,by omega,by omega,by go_num,?_,HW1,HB1⟩
      have hs2:=HS.out
      have e:Ex.depths (ks.take (i + 1))=s:=by rw [H1.out]; omega
      rw [e]
   ·have hlt':¬ (i:Int) < (ks.length:Int):=by omega
    have hie:i=ks.length:=by omega
    have HH:Hid (Ex.depth (.node op t vk vn vs ks)=Ex.depths (ks.take i) + 1):=hid (by rw [hie,List.take_length,HE.out])
    have hb1:((Ex.depths (ks.take i):Nat):Int)≤1000001:=by rw [hie,List.take_length]; omega
    go_wp2_with fail
    go_ret
    exact ⟨by rw [HE.out]; rfl,HB.out⟩
end Go.Proofs.YteghhmomhlnccaaGreatDoor
namespace Go.Proofs.YteghhmomhlnccaaGreatDoor
def Ex.refLev (l:List UInt8):Int:=if Ex.lev l=0 then -1 else if Ex.lev l=1 then 0 else if Ex.lev l=2 then 1 else Ex.lev l
theorem Ex.refLev_iff (l:List UInt8):decide (0≤Ex.refLev l)=!(Ex.lev l == 0):=by
 have h:0≤Ex.lev l:=by
  unfold Ex.lev
  repeat (first | decide | (cases (l == _) <;> simp only [cond_true,cond_false]))
 unfold Ex.refLev
 by_cases h0:Ex.lev l=0
 ·simp [h0]
 ·rw [if_neg h0]
  split
  ·simp [h0]
  ·split
   ·simp [h0]
   ·simp [h0,h]
def markRows:List (List ByteArray):=[[(⟨#[111,114]⟩:ByteArray)],[(⟨#[97,110,100]⟩:ByteArray)],[],[(⟨#[61]⟩:ByteArray),(⟨#[33,61]⟩:ByteArray),(⟨#[60]⟩:ByteArray),(⟨#[60,61]⟩:ByteArray),(⟨#[62]⟩:ByteArray),(⟨#[62,61]⟩:ByteArray)],[(⟨#[43]⟩:ByteArray),(⟨#[45]⟩:ByteArray),(⟨#[38]⟩:ByteArray)],[(⟨#[42]⟩:ByteArray),(⟨#[47]⟩:ByteArray),(⟨#[37]⟩:ByteArray)]]
theorem mark_lev:∀ i (h:i < markRows.length) k (hk:k < markRows[i].length),Ex.refLev markRows[i][k].data.toList=(i:Nat):=by
 have:(List.range markRows.length).all (fun i=>(List.range (markRows[i]?.getD []).length).all (fun k=>Ex.refLev ((markRows[i]?.getD [])[k]?.getD ⟨#[]⟩).data.toList == ((i:Nat):Int)))=true:=by decide +kernel
 intro i h k hk
 have h1:=List.all_eq_true.1 this i (by simpa using h)
 rw [List.getElem?_eq_getElem h] at h1
 have h2:=List.all_eq_true.1 h1 k (by simpa using hk)
 simp only [Option.getD_some,List.getElem?_eq_getElem hk] at h2
 simpa using h2
theorem mark_len:∀ i (h:i < markRows.length),markRows[i].length≤6:=by decide +kernel
theorem mark_swap {x s:ByteArray} (h:(x.toList == s.toList)=false):(s.toList == x.data.toList)=false:=by
 rw [beq_eq_false_iff_ne] at h ⊢
 rw [← ByteArray.toList_eq x]
 exact fun e=>h e.symm
theorem mark_none (s:ByteArray) (h:∀ i (h:i < markRows.length) k (hk:k < markRows[i].length),(markRows[i][k].toList == s.toList)=false):Ex.refLev s.data.toList=-1:=by
 have e:s.data.toList=s.toList:=(ByteArray.toList_eq s).symm
 have q0:(s.toList == [111,114])=false:=mark_swap (h 0 (by decide) 0 (by decide))
 have q1:(s.toList == [97,110,100])=false:=mark_swap (h 1 (by decide) 0 (by decide))
 have q2:(s.toList == [61])=false:=mark_swap (h 3 (by decide) 0 (by decide))
 have q3:(s.toList == [33,61])=false:=mark_swap (h 3 (by decide) 1 (by decide))
 have q4:(s.toList == [60])=false:=mark_swap (h 3 (by decide) 2 (by decide))
 have q5:(s.toList == [60,61])=false:=mark_swap (h 3 (by decide) 3 (by decide))
 have q6:(s.toList == [62])=false:=mark_swap (h 3 (by decide) 4 (by decide))
 have q7:(s.toList == [62,61])=false:=mark_swap (h 3 (by decide) 5 (by decide))
 have q8:(s.toList == [43])=false:=mark_swap (h 4 (by decide) 0 (by decide))
 have q9:(s.toList == [45])=false:=mark_swap (h 4 (by decide) 1 (by decide))
 have q10:(s.toList == [38])=false:=mark_swap (h 4 (by decide) 2 (by decide))
 have q11:(s.toList == [42])=false:=mark_swap (h 5 (by decide) 0 (by decide))
 have q12:(s.toList == [47])=false:=mark_swap (h 5 (by decide) 1 (by decide))
 have q13:(s.toList == [37])=false:=mark_swap (h 5 (by decide) 2 (by decide))
 have hl:Ex.lev s.data.toList=0:=by rw [e,Ex.lev]; simp only [q0,q1,q2,q3,q4,q5,q6,q7,q8,q9,q10,q11,q12,q13,cond_false]
 rw [Ex.refLev,if_pos hl]
def MarksAt (w:World) (g:Nat) (W:World):Prop:=∀ i (h:i < markRows.length),∃ b,W.cell? ⟨g,i,none⟩=some (.slice (some ⟨b,0,none⟩) markRows[i].length markRows[i].length)∧∀ k (hk:k < markRows[i].length),W.cell? ⟨b,k,none⟩=some (.string markRows[i][k])
theorem marks_laid (w:World):MarksAt w (w.heap.size + 1 + 1 + 1 + 1 + 1 + 1) (((((((w.alloc (.cells #[.string ⟨#[111,114]⟩] 9)).alloc (.cells #[.string ⟨#[97,110,100]⟩] 9)).alloc (.cells #[] 9)).alloc (.cells #[.string ⟨#[61]⟩,.string ⟨#[33,61]⟩,.string ⟨#[60]⟩,.string ⟨#[60,61]⟩,.string ⟨#[62]⟩,.string ⟨#[62,61]⟩] 9)).alloc (.cells #[.string ⟨#[43]⟩,.string ⟨#[45]⟩,.string ⟨#[38]⟩] 9)).alloc (.cells #[.string ⟨#[42]⟩,.string ⟨#[47]⟩,.string ⟨#[37]⟩] 9)).alloc (.cells #[.slice (some ⟨w.heap.size,0,none⟩) 1 1,.slice (some ⟨w.heap.size + 1,0,none⟩) 1 1,.slice (some ⟨w.heap.size + 1 + 1,0,none⟩) 0 0,.slice (some ⟨w.heap.size + 1 + 1 + 1,0,none⟩) 6 6,.slice (some ⟨w.heap.size + 1 + 1 + 1 + 1,0,none⟩) 3 3,.slice (some ⟨w.heap.size + 1 + 1 + 1 + 1 + 1,0,none⟩) 3 3] 49)):=by
 have k0:=((((((Whole.new w 9 #[.string ⟨#[111,114]⟩]).alloc (.cells #[.string ⟨#[97,110,100]⟩] 9)).alloc (.cells #[] 9)).alloc (.cells #[.string ⟨#[61]⟩,.string ⟨#[33,61]⟩,.string ⟨#[60]⟩,.string ⟨#[60,61]⟩,.string ⟨#[62]⟩,.string ⟨#[62,61]⟩] 9)).alloc (.cells #[.string ⟨#[43]⟩,.string ⟨#[45]⟩,.string ⟨#[38]⟩] 9)).alloc (.cells #[.string ⟨#[42]⟩,.string ⟨#[47]⟩,.string ⟨#[37]⟩] 9)).alloc (.cells #[.slice (some ⟨w.heap.size,0,none⟩) 1 1,.slice (some ⟨w.heap.size + 1,0,none⟩) 1 1,.slice (some ⟨w.heap.size + 1 + 1,0,none⟩) 0 0,.slice (some ⟨w.heap.size + 1 + 1 + 1,0,none⟩) 6 6,.slice (some ⟨w.heap.size + 1 + 1 + 1 + 1,0,none⟩) 3 3,.slice (some ⟨w.heap.size + 1 + 1 + 1 + 1 + 1,0,none⟩) 3 3] 49)
 have k1:=(((((Whole.new (w.alloc (.cells #[.string ⟨#[111,114]⟩] 9)) 9 #[.string ⟨#[97,110,100]⟩]).alloc (.cells #[] 9)).alloc (.cells #[.string ⟨#[61]⟩,.string ⟨#[33,61]⟩,.string ⟨#[60]⟩,.string ⟨#[60,61]⟩,.string ⟨#[62]⟩,.string ⟨#[62,61]⟩] 9)).alloc (.cells #[.string ⟨#[43]⟩,.string ⟨#[45]⟩,.string ⟨#[38]⟩] 9)).alloc (.cells #[.string ⟨#[42]⟩,.string ⟨#[47]⟩,.string ⟨#[37]⟩] 9)).alloc (.cells #[.slice (some ⟨w.heap.size,0,none⟩) 1 1,.slice (some ⟨w.heap.size + 1,0,none⟩) 1 1,.slice (some ⟨w.heap.size + 1 + 1,0,none⟩) 0 0,.slice (some ⟨w.heap.size + 1 + 1 + 1,0,none⟩) 6 6,.slice (some ⟨w.heap.size + 1 + 1 + 1 + 1,0,none⟩) 3 3,.slice (some ⟨w.heap.size + 1 + 1 + 1 + 1 + 1,0,none⟩) 3 3] 49)
 have k2:=((((Whole.new ((w.alloc (.cells #[.string ⟨#[111,114]⟩] 9)).alloc (.cells #[.string ⟨#[97,110,100]⟩] 9)) 9 #[]).alloc (.cells #[.string ⟨#[61]⟩,.string ⟨#[33,61]⟩,.string ⟨#[60]⟩,.string ⟨#[60,61]⟩,.string ⟨#[62]⟩,.string ⟨#[62,61]⟩] 9)).alloc (.cells #[.string ⟨#[43]⟩,.string ⟨#[45]⟩,.string ⟨#[38]⟩] 9)).alloc (.cells #[.string ⟨#[42]⟩,.string ⟨#[47]⟩,.string ⟨#[37]⟩] 9)).alloc (.cells #[.slice (some ⟨w.heap.size,0,none⟩) 1 1,.slice (some ⟨w.heap.size + 1,0,none⟩) 1 1,.slice (some ⟨w.heap.size + 1 + 1,0,none⟩) 0 0,.slice (some ⟨w.heap.size + 1 + 1 + 1,0,none⟩) 6 6,.slice (some ⟨w.heap.size + 1 + 1 + 1 + 1,0,none⟩) 3 3,.slice (some ⟨w.heap.size + 1 + 1 + 1 + 1 + 1,0,none⟩) 3 3] 49)
 have k3:=(((Whole.new (((w.alloc (.cells #[.string ⟨#[111,114]⟩] 9)).alloc (.cells #[.string ⟨#[97,110,100]⟩] 9)).alloc (.cells #[] 9)) 9 #[.string ⟨#[61]⟩,.string ⟨#[33,61]⟩,.string ⟨#[60]⟩,.string ⟨#[60,61]⟩,.string ⟨#[62]⟩,.string ⟨#[62,61]⟩]).alloc (.cells #[.string ⟨#[43]⟩,.string ⟨#[45]⟩,.string ⟨#[38]⟩] 9)).alloc (.cells #[.string ⟨#[42]⟩,.string ⟨#[47]⟩,.string ⟨#[37]⟩] 9)).alloc (.cells #[.slice (some ⟨w.heap.size,0,none⟩) 1 1,.slice (some ⟨w.heap.size + 1,0,none⟩) 1 1,.slice (some ⟨w.heap.size + 1 + 1,0,none⟩) 0 0,.slice (some ⟨w.heap.size + 1 + 1 + 1,0,none⟩) 6 6,.slice (some ⟨w.heap.size + 1 + 1 + 1 + 1,0,none⟩) 3 3,.slice (some ⟨w.heap.size + 1 + 1 + 1 + 1 + 1,0,none⟩) 3 3] 49)
 have k4:=((Whole.new ((((w.alloc (.cells #[.string ⟨#[111,114]⟩] 9)).alloc (.cells #[.string ⟨#[97,110,100]⟩] 9)).alloc (.cells #[] 9)).alloc (.cells #[.string ⟨#[61]⟩,.string ⟨#[33,61]⟩,.string ⟨#[60]⟩,.string ⟨#[60,61]⟩,.string ⟨#[62]⟩,.string ⟨#[62,61]⟩] 9)) 9 #[.string ⟨#[43]⟩,.string ⟨#[45]⟩,.string ⟨#[38]⟩]).alloc (.cells #[.string ⟨#[42]⟩,.string ⟨#[47]⟩,.string ⟨#[37]⟩] 9)).alloc (.cells #[.slice (some ⟨w.heap.size,0,none⟩) 1 1,.slice (some ⟨w.heap.size + 1,0,none⟩) 1 1,.slice (some ⟨w.heap.size + 1 + 1,0,none⟩) 0 0,.slice (some ⟨w.heap.size + 1 + 1 + 1,0,none⟩) 6 6,.slice (some ⟨w.heap.size + 1 + 1 + 1 + 1,0,none⟩) 3 3,.slice (some ⟨w.heap.size + 1 + 1 + 1 + 1 + 1,0,none⟩) 3 3] 49)
 have k5:=(Whole.new (((((w.alloc (.cells #[.string ⟨#[111,114]⟩] 9)).alloc (.cells #[.string ⟨#[97,110,100]⟩] 9)).alloc (.cells #[] 9)).alloc (.cells #[.string ⟨#[61]⟩,.string ⟨#[33,61]⟩,.string ⟨#[60]⟩,.string ⟨#[60,61]⟩,.string ⟨#[62]⟩,.string ⟨#[62,61]⟩] 9)).alloc (.cells #[.string ⟨#[43]⟩,.string ⟨#[45]⟩,.string ⟨#[38]⟩] 9)) 9 #[.string ⟨#[42]⟩,.string ⟨#[47]⟩,.string ⟨#[37]⟩]).alloc (.cells #[.slice (some ⟨w.heap.size,0,none⟩) 1 1,.slice (some ⟨w.heap.size + 1,0,none⟩) 1 1,.slice (some ⟨w.heap.size + 1 + 1,0,none⟩) 0 0,.slice (some ⟨w.heap.size + 1 + 1 + 1,0,none⟩) 6 6,.slice (some ⟨w.heap.size + 1 + 1 + 1 + 1,0,none⟩) 3 3,.slice (some ⟨w.heap.size + 1 + 1 + 1 + 1 + 1,0,none⟩) 3 3] 49)
 have k6:=Whole.new ((((((w.alloc (.cells #[.string ⟨#[111,114]⟩] 9)).alloc (.cells #[.string ⟨#[97,110,100]⟩] 9)).alloc (.cells #[] 9)).alloc (.cells #[.string ⟨#[61]⟩,.string ⟨#[33,61]⟩,.string ⟨#[60]⟩,.string ⟨#[60,61]⟩,.string ⟨#[62]⟩,.string ⟨#[62,61]⟩] 9)).alloc (.cells #[.string ⟨#[43]⟩,.string ⟨#[45]⟩,.string ⟨#[38]⟩] 9)).alloc (.cells #[.string ⟨#[42]⟩,.string ⟨#[47]⟩,.string ⟨#[37]⟩] 9)) 49 #[.slice (some ⟨w.heap.size,0,none⟩) 1 1,.slice (some ⟨w.heap.size + 1,0,none⟩) 1 1,.slice (some ⟨w.heap.size + 1 + 1,0,none⟩) 0 0,.slice (some ⟨w.heap.size + 1 + 1 + 1,0,none⟩) 6 6,.slice (some ⟨w.heap.size + 1 + 1 + 1 + 1,0,none⟩) 3 3,.slice (some ⟨w.heap.size + 1 + 1 + 1 + 1 + 1,0,none⟩) 3 3]
 simp only [World.size_alloc] at k0 k1 k2 k3 k4 k5 k6
 generalize (((((((w.alloc (.cells #[.string ⟨#[111,114]⟩] 9)).alloc (.cells #[.string ⟨#[97,110,100]⟩] 9)).alloc (.cells #[] 9)).alloc (.cells #[.string ⟨#[61]⟩,.string ⟨#[33,61]⟩,.string ⟨#[60]⟩,.string ⟨#[60,61]⟩,.string ⟨#[62]⟩,.string ⟨#[62,61]⟩] 9)).alloc (.cells #[.string ⟨#[43]⟩,.string ⟨#[45]⟩,.string ⟨#[38]⟩] 9)).alloc (.cells #[.string ⟨#[42]⟩,.string ⟨#[47]⟩,.string ⟨#[37]⟩] 9)).alloc (.cells #[.slice (some ⟨w.heap.size,0,none⟩) 1 1,.slice (some ⟨w.heap.size + 1,0,none⟩) 1 1,.slice (some ⟨w.heap.size + 1 + 1,0,none⟩) 0 0,.slice (some ⟨w.heap.size + 1 + 1 + 1,0,none⟩) 6 6,.slice (some ⟨w.heap.size + 1 + 1 + 1 + 1,0,none⟩) 3 3,.slice (some ⟨w.heap.size + 1 + 1 + 1 + 1 + 1,0,none⟩) 3 3] 49))=W0 at *
 intro i h
 match i,h with
 | 0,_=>exact ⟨w.heap.size,by rw [k6.cell]; rfl,fun k hk=>by
   rw [k0.cell]
   match k,hk with
   | 0,_=>rfl⟩
 | 1,_=>exact ⟨w.heap.size + 1,by rw [k6.cell]; rfl,fun k hk=>by
   rw [k1.cell]
   match k,hk with
   | 0,_=>rfl⟩
 | 2,_=>exact ⟨w.heap.size + 1 + 1,by rw [k6.cell]; rfl,fun k hk=>by
   rw [k2.cell]
   match k,hk with
   | k,hk=>exact absurd hk (Nat.not_lt_zero _)⟩
 | 3,_=>exact ⟨w.heap.size + 1 + 1 + 1,by rw [k6.cell]; rfl,fun k hk=>by
   rw [k3.cell]
   match k,hk with
   | 0,_=>rfl
   | 1,_=>rfl
   | 2,_=>rfl
   | 3,_=>rfl
   | 4,_=>rfl
   | 5,_=>rfl⟩
 | 4,_=>exact ⟨w.heap.size + 1 + 1 + 1 + 1,by rw [k6.cell]; rfl,fun k hk=>by
   rw [k4.cell]
   match k,hk with
   | 0,_=>rfl
   | 1,_=>rfl
   | 2,_=>rfl⟩
 | 5,_=>exact ⟨w.heap.size + 1 + 1 + 1 + 1 + 1,by rw [k6.cell]; rfl,fun k hk=>by
   rw [k5.cell]
   match k,hk with
   | 0,_=>rfl
   | 1,_=>rfl
   | 2,_=>rfl⟩
theorem refLevel_any (s:ByteArray) (w:World):Calls Tryz.prog 68 #[.string s] w fun e w'=>e=.returned (.int .i64 (Ex.refLev s.data.toList))∧Below w.heap.size w w':=by
 have HM:=hid (marks_laid w)
 have HB:Hid (Below w.heap.size w (((((((w.alloc (.cells #[.string ⟨#[111,114]⟩] 9)).alloc (.cells #[.string ⟨#[97,110,100]⟩] 9)).alloc (.cells #[] 9)).alloc (.cells #[.string ⟨#[61]⟩,.string ⟨#[33,61]⟩,.string ⟨#[60]⟩,.string ⟨#[60,61]⟩,.string ⟨#[62]⟩,.string ⟨#[62,61]⟩] 9)).alloc (.cells #[.string ⟨#[43]⟩,.string ⟨#[45]⟩,.string ⟨#[38]⟩] 9)).alloc (.cells #[.string ⟨#[42]⟩,.string ⟨#[47]⟩,.string ⟨#[37]⟩] 9)).alloc (.cells #[.slice (some ⟨w.heap.size,0,none⟩) 1 1,.slice (some ⟨w.heap.size + 1,0,none⟩) 1 1,.slice (some ⟨w.heap.size + 1 + 1,0,none⟩) 0 0,.slice (some ⟨w.heap.size + 1 + 1 + 1,0,none⟩) 6 6,.slice (some ⟨w.heap.size + 1 + 1 + 1 + 1,0,none⟩) 3 3,.slice (some ⟨w.heap.size + 1 + 1 + 1 + 1 + 1,0,none⟩) 3 3] 49))):=hid (by
  have:Touch [] w (((((((w.alloc (.cells #[.string ⟨#[111,114]⟩] 9)).alloc (.cells #[.string ⟨#[97,110,100]⟩] 9)).alloc (.cells #[] 9)).alloc (.cells #[.string ⟨#[61]⟩,.string ⟨#[33,61]⟩,.string ⟨#[60]⟩,.string ⟨#[60,61]⟩,.string ⟨#[62]⟩,.string ⟨#[62,61]⟩] 9)).alloc (.cells #[.string ⟨#[43]⟩,.string ⟨#[45]⟩,.string ⟨#[38]⟩] 9)).alloc (.cells #[.string ⟨#[42]⟩,.string ⟨#[47]⟩,.string ⟨#[37]⟩] 9)).alloc (.cells #[.slice (some ⟨w.heap.size,0,none⟩) 1 1,.slice (some ⟨w.heap.size + 1,0,none⟩) 1 1,.slice (some ⟨w.heap.size + 1 + 1,0,none⟩) 0 0,.slice (some ⟨w.heap.size + 1 + 1 + 1,0,none⟩) 6 6,.slice (some ⟨w.heap.size + 1 + 1 + 1 + 1,0,none⟩) 3 3,.slice (some ⟨w.heap.size + 1 + 1 + 1 + 1 + 1,0,none⟩) 3 3] 49)):=(((((((Touch.refl _ _).alloc _).alloc _).alloc _).alloc _).alloc _).alloc _).alloc _
  exact this.below)
 go_enter Tryz.func68,Tryz.ntmps68
 go_wp2_with fail
 generalize (((((((w.alloc (.cells #[.string ⟨#[111,114]⟩] 9)).alloc (.cells #[.string ⟨#[97,110,100]⟩] 9)).alloc (.cells #[] 9)).alloc (.cells #[.string ⟨#[61]⟩,.string ⟨#[33,61]⟩,.string ⟨#[60]⟩,.string ⟨#[60,61]⟩,.string ⟨#[62]⟩,.string ⟨#[62,61]⟩] 9)).alloc (.cells #[.string ⟨#[43]⟩,.string ⟨#[45]⟩,.string ⟨#[38]⟩] 9)).alloc (.cells #[.string ⟨#[42]⟩,.string ⟨#[47]⟩,.string ⟨#[37]⟩] 9)).alloc (.cells #[.slice (some ⟨w.heap.size,0,none⟩) 1 1,.slice (some ⟨w.heap.size + 1,0,none⟩) 1 1,.slice (some ⟨w.heap.size + 1 + 1,0,none⟩) 0 0,.slice (some ⟨w.heap.size + 1 + 1 + 1,0,none⟩) 6 6,.slice (some ⟨w.heap.size + 1 + 1 + 1 + 1,0,none⟩) 3 3,.slice (some ⟨w.heap.size + 1 + 1 + 1 + 1 + 1,0,none⟩) 3 3] 49))=W0 at *
 go_loopg [4,5] 7 (fun j s4 s5 wr=>∃ i:Nat,i≤6∧6 < i + j∧s4=.int .i64 (i:Nat)∧Hid (∀ i' (h:i' < markRows.length),i' < i→∀ k (hk:k < markRows[i'].length),(markRows[i'][k].toList == s.toList)=false)∧wr=W0)
 case atStart=>exact ⟨0,by omega,by omega,rfl,hid (fun k _ h=>absurd h (Nat.not_lt_zero _)),rfl⟩
 case round=>
  obtain ⟨i,hi,hj,rfl,HI,rfl⟩:=hrel
  by_cases hlt:i < 6
  ·have hlt':(i:Int) < 6:=by omega
   obtain ⟨b,hc,hw⟩:=HM.out i hlt
   have HW:=hid hw
   obtain ⟨n,hn⟩:∃ n,markRows[i].length=n:=⟨_,rfl⟩
   have HN:=hid hn
   have hn6:(n:Int)≤6:=by have:=mark_len i hlt; omega
   rw [hn] at hc
   clear hw hn
   go_upto_block 1 with fail
   go_cut [5] from 19 to 38 (fun s5 wc=>wc=wr∧Hid (∀ i' (h:i' < markRows.length),i' < i + 1→∀ k (hk:k < markRows[i'].length),(markRows[i'][k].toList == s.toList)=false))
   case first=>
    go_wp2_with fail
    go_loopg [5] (n + 1) (fun j s5 wq=>∃ k:Nat,k≤n∧n < k + j∧s5=.int .i64 (k:Nat)∧Hid (∀ k' (h:k' < markRows[i].length),k' < k→(markRows[i][k'].toList == s.toList)=false)∧wq=wr)
    case atStart=>exact ⟨0,by omega,by omega,rfl,hid (fun k _ h=>absurd h (Nat.not_lt_zero _)),rfl⟩
    case round=>
     obtain ⟨k,hk,hj2,rfl,HK,rfl⟩:=hrel
     by_cases hkn:k < n
     ·have hkn':(k:Int) < (n:Int):=by omega
      have hkm:k < markRows[i].length:=by rw [HN.out]; exact hkn
      have c0:=HW.out k hkm
      by_cases he:(markRows[i][k].toList == s.toList)=true
      ·have ER:Hid (Ex.refLev s.data.toList=(i:Nat)):=hid (by
        rw [← mark_lev i hlt k hkm]
        congr 1
        have:=eq_of_beq he
        rw [← ByteArray.toList_eq,← ByteArray.toList_eq,this])
       clear HK HI
       generalize markRows[i][k]=b2 at *
       go_wp2_with fail
       go_ret
       exact ⟨by rw [ER.out]; rfl,HB.out⟩
      ·have he':(markRows[i][k].toList == s.toList)=false:=by simpa using he
       have HK2:Hid (∀ k' (h:k' < markRows[i].length),k' < k + 1→(markRows[i][k'].toList == s.toList)=false):=hid (fun k' h hk'=>by
        by_cases hki:k'=k
        ·subst hki; exact he'
        ·exact HK.out k' h (by omega))
       clear HK he
       generalize markRows[i][k]=b2 at *
       go_wp2_with fail
       go_roundg (n - k)
       case measure=>omega
       case rel=>exact ⟨k + 1,by omega,by omega,by go_num,HK2,rfl⟩
     ·have hkn':¬ (k:Int) < (n:Int):=by omega
      have HI2:Hid (∀ i' (h:i' < markRows.length),i' < i + 1→∀ k (hk:k < markRows[i'].length),(markRows[i'][k].toList == s.toList)=false):=hid (fun i' h hi' k' hk'=>by
       by_cases hii:i'=i
       ·subst hii
        exact HK.out k' hk' (by have:=HN.out; omega)
       ·exact HI.out i' h (by omega) k' hk')
      clear HI HK
      go_wp2_with fail
      go_meet
      case rel=>exact ⟨rfl,HI2⟩
   case rest=>
    obtain ⟨rfl,HI2⟩:=hcut
    go_wp2_with fail
    go_roundg (6 - i)
    case measure=>omega
    case rel=>exact ⟨i + 1,by omega,by omega,by go_num,HI2,rfl⟩
  ·have hlt':¬ (i:Int) < 6:=by omega
   have ER:Hid (Ex.refLev s.data.toList=-1):=hid (mark_none s fun i' h k hk=>HI.out i' h (by show i' < i; have:markRows.length=6:=rfl; omega) k hk)
   clear HI
   go_wp2_with fail
   go_ret
   exact ⟨by rw [ER.out]; rfl,HB.out⟩
end Go.Proofs.YteghhmomhlnccaaGreatDoor
namespace Go.Proofs.YteghhmomhlnccaaGreatDoor
attribute [local go_sem ↓] eqVal neqVal
open Ex (Tree)
theorem val_plain (k n:Int) (s:ByteArray):(plainB k n s && decide (0≤n))=valB k n s:=by
 unfold valB
 cases hp:plainB k n s
 ·rfl
 ·by_cases h1:k=1
  ·simp [h1]
  ·have h0:0≤n:=by
    rcases plainB_iff.1 hp with ⟨-,h,-⟩ | ⟨h,-⟩ | ⟨-,h,-⟩ | ⟨-,-,h,-⟩ <;> omega
   simp [h1,h0]
theorem beq_swap (a b:Int):(a == b)=(b == a):=by
 by_cases h:a=b
 ·subst h; rfl
 ·rw [beq_eq_false_iff_ne.2 h,beq_eq_false_iff_ne.2 (Ne.symm h)]
theorem refOne_any (op:Int) (t:List UInt8) (vk vn:Int) (vs:List UInt8) (A:Option Addr) (n c:Nat) (w:World) (ht:t.length≤6000) :
  Calls Tryz.prog 67 #[.agg (ncells op t vk vn vs A n c)] w fun e w'=>e=.returned (.bool (nodeB op t vk vn vs n))∧Below w.heap.size w w':=by
 have H0:=hid (six_of (Whole.new w 26 (ncells op t vk vn vs A n c)))
 have W0L:Hid (w.heap.size < (w.alloc (.cells (ncells op t vk vn vs A n c) 26)).heap.size):=hid (by simp)
 have B0:Hid (Below w.heap.size w (w.alloc (.cells (ncells op t vk vn vs A n c) 26))):=hid ((Below.refl _ _).alloc (Nat.le_refl _) _)
 unfold ncells at *
 obtain ⟨W0,hW0⟩:∃ W0,w.alloc (.cells #[.int .i64 op,.string (tx t),.int .i64 vk,.int .i64 vn,.string (tx vs),.slice A n c] 26)=W0:=⟨_,rfl⟩
 rw [hW0] at H0 W0L B0
 obtain ⟨c0,c1,c2,c3,c4,c5⟩:=H0.out
 obtain ⟨q2,hq2⟩:∃ q2,same vk vn (tx vs) 0 0 ⟨#[]⟩=q2:=⟨_,rfl⟩
 obtain ⟨q1,hq1⟩:∃ q1,t.isEmpty=q1:=⟨_,rfl⟩
 have HT:=hid ht
 have E1:Hid (op=1→nodeB op t vk vn vs n=(q1 && (valB vk vn (tx vs) && ((n:Int) == 0)))):=hid (fun h=>by rw [nodeB,if_pos h,hq1])
 have E2:Hid (op=2→nodeB op t vk vn vs n=(Lx.isName t && (q2 && ((n:Int) == 0)))):=hid (fun h=>by subst h; rw [nodeB,if_neg (by decide),if_pos rfl,hq2])
 have E3:Hid (op=3∨op=4→nodeB op t vk vn vs n=(q1 && (q2 && ((n:Int) == 1)))):=hid (fun h=>by rw [nodeB,if_neg (by omega),if_neg (by omega),if_pos h,hq1,hq2])
 have E5:Hid (op=5→nodeB op t vk vn vs n=(!(Ex.lev t == 0) && (q2 && ((n:Int) == 2)))):=hid (fun h=>by subst h; rw [nodeB,if_neg (by decide),if_neg (by decide),if_neg (by decide),if_pos rfl,hq2])
 have E6:Hid (op=6→nodeB op t vk vn vs n=(((n:Int) == Ex.arity t) && q2)):=hid (fun h=>by subst h; rw [nodeB,if_neg (by decide),if_neg (by decide),if_neg (by decide),if_neg (by decide),if_pos rfl,hq2])
 have E0:Hid (op ≠ 1→op ≠ 2→op ≠ 3→op ≠ 4→op ≠ 5→op ≠ 6→nodeB op t vk vn vs n=false):=hid (fun h1 h2 h3 h4 h5 h6=>by rw [nodeB,if_neg h1,if_neg h2,if_neg (by omega),if_neg h5,if_neg h6])
 have EN:Hid (op ≠ 1→q2=false→nodeB op t vk vn vs n=false):=hid (fun h1 h=>by
  unfold nodeB
  rw [if_neg h1,hq2,h]
  simp)
 have HQ1:=hid hq1
 clear hq1 ht
 go_enter Tryz.func67,Tryz.ntmps67
 by_cases h1:op=1
 ·have E:=hid (E1.out h1)
  clear E0 E1 E2 E3 E5 E6 EN hq2
  subst h1
  have PP:=hid (refplain_any vk vn (tx vs) W0)
  have hq1:=HQ1.out
  go_wp2_with fail
  refine PP.out.mono ?_
  rintro e w1 ⟨rfl,hb1⟩
  have HB1:=hid (bstep B0.out hb1)
  obtain ⟨d0,d1,d2,d3,d4,d5⟩:=six_below H0.out hb1 W0L.out
  clear hb1 c0 c1 c2 c3 c4 c5
  have E':Hid (nodeB 1 t vk vn vs n=(q1 && ((plainB vk vn (tx vs) && decide (0≤vn)) && ((n:Int) == 0)))):=hid (by rw [E.out,val_plain])
  generalize plainB vk vn (tx vs)=q3 at *
  cases q3
  ·go_wp2_with fail
   go_ret
   exact ⟨retB2 (by rw [E'.out]; simp),HB1.out⟩
  ·by_cases hv:0≤vn
   ·cases q1
    ·go_wp2_with fail
     go_ret
     exact ⟨retB2 (by rw [E'.out]; simp),HB1.out⟩
    ·have E2':Hid (nodeB 1 t vk vn vs n=((n:Int) == 0)):=hid (by rw [E'.out]; simp [hv])
     go_wp2_with fail
     go_ret
     exact ⟨retB2 E2'.out.symm,HB1.out⟩
   ·have E2':Hid (nodeB 1 t vk vn vs n=false):=hid (by rw [E'.out]; simp [hv])
    go_wp2_with fail
    go_ret
    exact ⟨retB2 E2'.out.symm,HB1.out⟩
 have h1':(op == 1)=false:=by simpa using h1
 have ENN:=hid (EN.out h1)
 have HH1:=hid h1
 clear E1 EN h1
 cases q2
 ·have E':Hid (nodeB op t vk vn vs n=false):=hid (ENN.out rfl)
  clear E0 E2 E3 E5 E6 ENN
  go_wp2_with fail
  go_ret
  exact ⟨retB2 E'.out.symm,B0.out⟩
 clear ENN
 by_cases h2:op=2
 ·have E:=hid (E2.out h2)
  clear E0 E2 E3 E5 E6 HH1
  subst h2
  have PV:=hid (refName_any (tx t) W0 (by have:=HT.out; simpa [ByteArray.size] using this))
  go_wp2_with fail
  refine PV.out.mono ?_
  rintro e w3 ⟨rfl,hb3⟩
  have HB3:=hid (bstep B0.out hb3)
  clear hb3
  have E':Hid (nodeB 2 t vk vn vs n=(Lx.isName (tx t).data.toList && (true && ((n:Int) == 0)))):=E
  generalize Lx.isName (tx t).data.toList=q3 at *
  cases q3 <;> (go_wp2_with fail; go_ret; exact ⟨retB2 (by rw [E'.out]; simp),HB3.out⟩)
 have h2':(op == 2)=false:=by simpa using h2
 by_cases h3:op=3
 ·have E:=hid (E3.out (.inl h3))
  clear E0 E2 E3 E5 E6 h2 HH1
  subst h3
  have hq1:=HQ1.out
  cases q1 <;> (go_wp2_with fail; go_ret; exact ⟨retB2 (by rw [E.out]; simp),B0.out⟩)
 have h3':(op == 3)=false:=by simpa using h3
 by_cases h4:op=4
 ·have E:=hid (E3.out (.inr h4))
  clear E0 E2 E3 E5 E6 h2 h3 HH1
  subst h4
  have hq1:=HQ1.out
  cases q1 <;> (go_wp2_with fail; go_ret; exact ⟨retB2 (by rw [E.out]; simp),B0.out⟩)
 have h4':(op == 4)=false:=by simpa using h4
 by_cases h5:op=5
 ·have E:=hid (E5.out h5)
  clear E0 E2 E3 E5 E6 h2 h3 h4 HH1
  subst h5
  have PV:=hid (refLevel_any (tx t) W0)
  go_wp2_with fail
  refine PV.out.mono ?_
  rintro e w3 ⟨rfl,hb3⟩
  have HB3:=hid (bstep B0.out hb3)
  clear hb3
  have E':Hid (nodeB 5 t vk vn vs n=(decide (0≤Ex.refLev (tx t).data.toList) && (true && ((n:Int) == 2)))):=hid (by rw [E.out,Ex.refLev_iff])
  generalize Ex.refLev (tx t).data.toList=q3 at *
  by_cases hq:0≤q3
  ·have E2':Hid (nodeB 5 t vk vn vs n=((n:Int) == 2)):=hid (by rw [E'.out]; simp [hq])
   go_wp2_with fail
   go_ret
   exact ⟨retB2 E2'.out.symm,HB3.out⟩
  ·have E2':Hid (nodeB 5 t vk vn vs n=false):=hid (by rw [E'.out]; simp [hq])
   go_wp2_with fail
   go_ret
   exact ⟨retB2 E2'.out.symm,HB3.out⟩
 have h5':(op == 5)=false:=by simpa using h5
 by_cases h6:op=6
 ·have E:=hid (E6.out h6)
  clear E0 E2 E3 E5 E6 h2 h3 h4 h5 HH1
  subst h6
  have PV:=hid (refArity_any (tx t) W0)
  go_wp2_with fail
  refine PV.out.mono ?_
  rintro e w3 ⟨rfl,rfl⟩
  have E':Hid (nodeB 6 t vk vn vs n=(Ex.arity (tx t).data.toList == (n:Int))):=hid (by
   rw [E.out,Bool.and_true]
   show ((n:Int) == Ex.arity t)=(Ex.arity t == (n:Int))
   exact beq_swap _ _)
  generalize Ex.arity (tx t).data.toList=q3 at *
  go_wp2_with fail
  go_ret
  exact ⟨retB2 E'.out.symm,B0.out⟩
 have h6':(op == 6)=false:=by simpa using h6
 have E:=hid (E0.out HH1.out h2 h3 h4 h5 h6)
 clear E0 E2 E3 E5 E6 h2 h3 h4 h5 h6 HH1
 go_wp2_with fail
 go_ret
 exact ⟨retB2 E.out.symm,B0.out⟩
end Go.Proofs.YteghhmomhlnccaaGreatDoor
namespace Go.Proofs.YteghhmomhlnccaaGreatDoor
open Ex (Tree)
mutual
def shortT:Tree→Prop
 | .node _ t _ _ _ ks=>t.length≤6000∧shortTs ks
def shortTs:List Tree→Prop
 | []=>True
 | x :: l=>shortT x∧shortTs l
end
theorem shortTs_at:∀ {l:List Tree},shortTs l→∀ i (h:i < l.length),shortT l[i]
 | x :: l,h,0,_=>by rw [shortTs] at h; exact h.1
 | x :: l,h,i + 1,hi=>by rw [shortTs] at h; exact shortTs_at h.2 i (by simpa using hi)
 | [],_,i,hi=>absurd hi (Nat.not_lt_zero _)
theorem oness_take (ks:List Tree) (i:Nat) (h:i < ks.length):Ex.oness nodeB (ks.take (i + 1))=(Ex.oness nodeB (ks.take i) && Ex.ones nodeB ks[i]):=by
 have:∀ a b:List Tree,Ex.oness nodeB (a ++ b)=(Ex.oness nodeB a && Ex.oness nodeB b):=by
  intro a
  induction a with
  | nil=>intro b; rw [List.nil_append,Ex.oness]; rfl
  | cons x a ih=>intro b; rw [List.cons_append,Ex.oness,Ex.oness,ih,Bool.and_assoc]
 rw [List.take_succ_eq_append_getElem h,this,Ex.oness,Ex.oness,Bool.and_true]
theorem oness_false (ks:List Tree) (i:Nat) (h:i < ks.length) (hf:Ex.ones nodeB ks[i]=false):Ex.oness nodeB ks=false:=by
 have:∀ (l:List Tree) i (h:i < l.length),Ex.ones nodeB l[i]=false→Ex.oness nodeB l=false:=by
  intro l
  induction l with
  | nil=>intro i h; exact absurd h (Nat.not_lt_zero _)
  | cons x l ih=>
   intro i h hf
   rw [Ex.oness]
   cases i with
   | zero=>rw [show Ex.ones nodeB x=false from hf]; rfl
   | succ i=>rw [ih i (by simpa using h) hf,Bool.and_false]
 exact this ks i h hf
theorem refOnes_all (N:Nat):∀ (T:Tree),Ex.count T≤N→Ex.count T≤1000000→shortT T→∀ (v:Value) (w:World),NodeV w v T →
  Calls Tryz.prog 37 #[v] w fun e w'=>e=.returned (.bool (Ex.ones nodeB T))∧Below w.heap.size w w':=by
 induction N with
 | zero=>intro T h; have:=Ex.count_pos T; omega
 | succ N ih=>
  intro T hN hM hS v w h
  cases T with
  | node op t vk vn vs ks=>
  obtain ⟨A,c,rfl,hcc,hk⟩:=h
  rw [shortT] at hS
  have IH:=hid (fun i (hi:i < ks.length)=>ih ks[i] (by have:=count_lt (op:=op) (t:=t) (vk:=vk) (vn:=vn) (vs:=vs) (List.getElem_mem hi); omega) (by have:=count_lt (op:=op) (t:=t) (vk:=vk) (vn:=vn) (vs:=vs) (List.getElem_mem hi); omega) (shortTs_at hS.2 i hi))
  have HE:Hid (Ex.ones nodeB (.node op t vk vn vs ks)=(nodeB op t vk vn vs ks.length && Ex.oness nodeB ks)):=hid (by rw [Ex.ones])
  have H0:=hid (Whole.new w 26 (ncells op t vk vn vs A ks.length c))
  have B0:Hid (Below w.heap.size w (w.alloc (.cells (ncells op t vk vn vs A ks.length c) 26))):=hid ((Below.refl _ _).alloc (Nat.le_refl _) _)
  have ON:=hid (refOne_any op t vk vn vs A ks.length c (w.alloc (.cells (ncells op t vk vn vs A ks.length c) 26)) hS.1)
  have hks0:Ex.counts ks + 1=Ex.count (.node op t vk vn vs ks):=by rw [Ex.count]
  have hlen:=Ex.length_counts ks
  have hks:(ks.length:Int)≤1000000:=by omega
  clear ih hks0 hS hlen
  unfold ncells at *
  obtain ⟨c0,c1,c2,c3,c4,c5⟩:=six_of H0.out
  go_enter Tryz.func37,Tryz.ntmps37
  go_wp2_with fail
  refine ON.out.mono ?_
  rintro e w1 ⟨rfl,hb1⟩
  have HB1:=hid (bstep B0.out hb1)
  have HW1:=hid (Whole.below H0.out hb1 (Whole.lt H0.out))
  clear hb1 ON c0 c1 c2 c3 c4 c5 H0 B0
  cases hq:nodeB op t vk vn vs ks.length
  ·have HF:Hid (Ex.ones nodeB (.node op t vk vn vs ks)=false):=hid (by rw [HE.out,hq]; rfl)
   go_wp2_with fail
   go_ret
   exact ⟨by rw [HF.out]; rfl,HB1.out⟩
  have HF:Hid (Ex.ones nodeB (.node op t vk vn vs ks)=Ex.oness nodeB ks):=hid (by rw [HE.out,hq]; rfl)
  clear HE hq
  go_wp2_with fail
  go_loopg [3] (ks.length + 1) (fun j s3 wr=>∃ i:Nat,i≤ks.length∧ks.length < i + j∧s3=.int .i64 (i:Nat)∧Hid (Ex.oness nodeB (ks.take i)=true)∧Hid (Whole wr w.heap.size 26 #[.int .i64 op,.string (tx t),.int .i64 vk,.int .i64 vn,.string (tx vs),.slice A ks.length c])∧Hid (Below w.heap.size w wr))
  case atStart=>exact ⟨0,by omega,by omega,rfl,hid (by rw [List.take_zero,Ex.oness]),HW1,HB1⟩
  case round=>
   obtain ⟨i,hi,hj,rfl,HO,HW,HB⟩:=hrel
   obtain ⟨c0,c1,c2,c3,c4,c5⟩:=six_of HW.out
   by_cases hlt:i < ks.length
   ·have hlt':(i:Int) < (ks.length:Int):=by omega
    have hkk:=hk.below HB.out
    obtain ⟨b,o,op',t',vk',vn',vs',l,B,n,rfl,hx,d0,d1,d2,d3,d4,d5,hv⟩:=hkk.kid i hlt
    have CC:=hid (IH.out i hlt _ _ hv)
    have H1:=hid (oness_take ks i hlt)
    have HFF:=hid (oness_false ks i hlt)
    clear hkk hv hx
    go_wp2_with fail
    refine CC.out.mono ?_
    rintro e w2 ⟨rfl,hb⟩
    have HB2:=hid (bstep HB.out hb)
    have HW2:=hid (Whole.below HW.out hb (Whole.lt HW.out))
    clear hb
    cases hq:Ex.ones nodeB ks[i]
    ·have HG:Hid (Ex.ones nodeB (.node op t vk vn vs ks)=false):=hid (by rw [HF.out]; exact HFF.out hq)
     go_wp2_with fail
     go_ret
     exact ⟨by rw [HG.out]; rfl,HB2.out⟩
    ·have HG:Hid (Ex.oness nodeB (ks.take (i + 1))=true):=hid (by rw [H1.out,HO.out,hq]; rfl)
     go_wp2_with fail
     go_roundg (ks.length - i)
     case measure=>omega
     case rel=>exact ⟨i + 1,by omega,by omega,by go_num,HG,HW2,HB2⟩
   ·have hlt':¬ (i:Int) < (ks.length:Int):=by omega
    have hie:i=ks.length:=by omega
    have HG:Hid (Ex.ones nodeB (.node op t vk vn vs ks)=true):=hid (by rw [HF.out]; have:=HO.out; rwa [hie,List.take_length] at this)
    go_wp2_with fail
    go_ret
    exact ⟨by rw [HG.out]; rfl,HB.out⟩
theorem refRight_any (T:Tree) (hM:Ex.count T≤1000000) (hS:shortT T) (v:Value) (w:World) (h:NodeV w v T) :
  Calls Tryz.prog 16 #[v] w fun e w'=>e=.returned (.bool (Ex.rightB nodeB T))∧Below w.heap.size w w':=by
 have D1:=fun w1 (hb:Below w.heap.size w w1)=>refDepth_all _ T (Nat.le_refl _) hM v w1 (h.below hb)
 have C1:=fun w1 (hb:Below w.heap.size w w1)=>refCount_all _ T (Nat.le_refl _) hM v w1 (h.below hb)
 have O1:=fun w1 (hb:Below w.heap.size w w1)=>refOnes_all _ T (Nat.le_refl _) hM hS v w1 (h.below hb)
 cases T with
 | node op t vk vn vs ks=>
 obtain ⟨A,c,rfl,hcc,hk⟩:=h
 obtain ⟨T,hT⟩:∃ T,(.node op t vk vn vs ks:Tree)=T:=⟨_,rfl⟩
 rw [hT] at D1 C1 O1 hM ⊢
 have HE:Hid (Ex.rightB nodeB T=(decide (Ex.depth T≤30) && (decide (Ex.count T≤300) && Ex.ones nodeB T))):=hid rfl
 have H0:=hid (Whole.new w 26 (ncells op t vk vn vs A ks.length c))
 have b0:Below w.heap.size w (w.alloc (.cells (ncells op t vk vn vs A ks.length c) 26)):=(Below.refl _ _).alloc (Nat.le_refl _) _
 have DD:=hid (D1 _ b0)
 have B0:=hid b0
 have CH:=hid C1
 have OH:=hid O1
 clear D1 C1 O1 b0 hT
 unfold ncells at *
 obtain ⟨c0,c1,c2,c3,c4,c5⟩:=six_of H0.out
 go_enter Tryz.func16,Tryz.ntmps16
 go_wp2_with fail
 refine DD.out.mono ?_
 rintro e w1 ⟨rfl,hb1⟩
 have HB1:=hid (bstep B0.out hb1)
 have HW1:=hid (Whole.below H0.out hb1 (Whole.lt H0.out))
 clear hb1 c0 c1 c2 c3 c4 c5 H0 B0 DD
 obtain ⟨c0,c1,c2,c3,c4,c5⟩:=six_of HW1.out
 by_cases hd:Ex.depth T≤30
 ·have hd':((Ex.depth T:Nat):Int)≤30:=by omega
  have CC:=hid (CH.out _ HB1.out)
  go_wp2_with fail
  refine CC.out.mono ?_
  rintro e w2 ⟨rfl,hb2⟩
  have HB2:=hid (bstep HB1.out hb2)
  have HW2:=hid (Whole.below HW1.out hb2 (Whole.lt HW1.out))
  clear hb2 c0 c1 c2 c3 c4 c5 CC
  obtain ⟨c0,c1,c2,c3,c4,c5⟩:=six_of HW2.out
  by_cases hc:Ex.count T≤300
  ·have hc':((Ex.count T:Nat):Int)≤300:=by omega
   have OO:=hid (OH.out _ HB2.out)
   have HG:Hid (Ex.rightB nodeB T=Ex.ones nodeB T):=hid (by rw [HE.out]; simp [hd,hc])
   go_wp2_with fail
   refine OO.out.mono ?_
   rintro e w3 ⟨rfl,hb3⟩
   have HB3:=hid (bstep HB2.out hb3)
   clear hb3
   go_wp2_with fail
   go_ret
   exact ⟨by rw [HG.out]; rfl,HB3.out⟩
  ·have hc':¬ ((Ex.count T:Nat):Int)≤300:=by omega
   have HG:Hid (Ex.rightB nodeB T=false):=hid (by rw [HE.out]; simp [hc])
   go_wp2_with fail
   go_ret
   exact ⟨by rw [HG.out]; rfl,HB2.out⟩
 ·have hd':¬ ((Ex.depth T:Nat):Int)≤30:=by omega
  have HG:Hid (Ex.rightB nodeB T=false):=hid (by rw [HE.out]; simp [hd])
  go_wp2_with fail
  go_ret
  exact ⟨by rw [HG.out]; rfl,HB1.out⟩
end Go.Proofs.YteghhmomhlnccaaGreatDoor
