import Derived.Test.YteghhmomhlnccaaGreatDoorYT3
import Derived.Lib.SlTrimSet
import Derived.Lib.IndexMore
import Derived.Test.YteghhmomhlnccaaGreatDoorYT1
import Derived.Test.YteghhmomhlnccaaGreatDoorRows
import Derived.Test.YteghhmomhlnccaaGreatDoorYT2
import Derived.WalkKit
import Derived.ProofKit
import Derived.OpenShut
import Derived.IntWalk
import Derived.Lib.Hide
import Derived.LaidEql
import Derived.Stop.Asserts
import Derived.RowKitTokens
import Derived.WalkSmall
import Derived.Lib.AppendIntMem
set_option linter.unusedVariables false
set_option linter.unusedSimpArgs false
set_option maxRecDepth 100000
set_option maxHeartbeats 100000000
open Go.RowKit Go.Lib
namespace Go.Proofs.YteghhmomhlnccaaGreatDoor.Lx
open Go.Proofs.YteghhmomhlnccaaGreatDoor
def smallL:List UInt8:=[97,98,99,100,101,102,103,104,105,106,107,108,109,110,111,112,113,114,115,116,117,118,119,120,121,122]
def digitsL:List UInt8:=[48,49,50,51,52,53,54,55,56,57]
def inNamesL:List UInt8:=[97,98,99,100,101,102,103,104,105,106,107,108,109,110,111,112,113,114,115,116,117,118,119,120,121,122,48,49,50,51,52,53,54,55,56,57,95]
def blanksL:List UInt8:=[32,9,10]
def singlesL:List UInt8:=[40,41,44,59,61,60,62,43,45,42,47,37,38,58]
theorem all_bytes (p:UInt8→Bool) (h:(List.range 256).all (fun n=>p (UInt8.ofNat n))=true) (c:UInt8):p c=true:=by
 have:=List.all_eq_true.1 h c.toNat (List.mem_range.2 c.toNat_lt)
 simpa using this
theorem small_eq:(smallL.contains ·)=low:=by
 funext c
 have:=all_bytes (fun c=>smallL.contains c == low c) (by decide +kernel) c
 simpa using this
theorem digits_eq:(digitsL.contains ·)=dig:=by
 funext c
 have:=all_bytes (fun c=>digitsL.contains c == dig c) (by decide +kernel) c
 simpa using this
theorem inNames_eq:(inNamesL.contains ·)=nm:=by
 funext c
 have:=all_bytes (fun c=>inNamesL.contains c == nm c) (by decide +kernel) c
 simpa using this
theorem blanks_eq:(blanksL.contains ·)=blank:=by
 funext c
 have:=all_bytes (fun c=>blanksL.contains c == blank c) (by decide +kernel) c
 simpa using this
theorem dw_drop (p:UInt8→Bool):∀ l:List UInt8,l.dropWhile p=l.drop (l.takeWhile p).length
 | []=>rfl
 | c :: l=>by
  by_cases h:p c=true
  ·rw [List.dropWhile_cons_of_pos h,List.takeWhile_cons_of_pos h,dw_drop p l]; rfl
  ·rw [List.dropWhile_cons_of_neg h,List.takeWhile_cons_of_neg h]; rfl
theorem trim_blanks (l:List UInt8):Lib.trimLeftS l blanksL=l.drop (l.takeWhile blank).length:=by
 rw [Lib.trimLeftS,blanks_eq,dw_drop]
def sk:Bool→List UInt8→List UInt8
 | _,[]=>[]
 | false,c :: r=>if blank c then sk false r else if c=35 then sk true r else c :: r
 | true,c :: r=>if c=10 then sk false r else sk true r
theorem sk_nil (b:Bool):sk b []=[]:=by cases b <;> rfl
theorem sk_blank (l:List UInt8):sk false (l.drop (l.takeWhile blank).length)=sk false l:=by
 induction l with
 | nil=>rfl
 | cons c r ih=>
  by_cases h:blank c=true
  ·rw [List.takeWhile_cons_of_pos h,sk,if_pos h]; exact ih
  ·rw [List.takeWhile_cons_of_neg h]; rfl
theorem sk_note (r:List UInt8):sk true r=sk false (r.drop ((r.takeWhile line).length + 1)):=by
 induction r with
 | nil=>rfl
 | cons c r ih=>
  by_cases h:c=10
  ·subst h
   rw [List.takeWhile_cons_of_neg (by decide),sk,if_pos rfl]; rfl
  ·rw [List.takeWhile_cons_of_pos (by simpa [line] using h),sk,if_neg h,ih]; rfl
theorem sk_stop {c:UInt8} (r:List UInt8) (h1:¬ blank c=true) (h2:c ≠ 35):sk false (c :: r)=c :: r:=by
 rw [sk,if_neg h1,if_neg h2]
theorem sk_le:∀ (b:Bool) (l:List UInt8),(sk b l).length≤l.length
 | b,[]=>by rw [sk_nil]; exact Nat.le_refl _
 | false,c :: r=>by
  have h1:=sk_le false r
  have h2:=sk_le true r
  rw [sk]; simp only [List.length_cons]
  split
  ·omega
  ·split
   ·omega
   ·simp
 | true,c :: r=>by
  have h1:=sk_le false r
  have h2:=sk_le true r
  rw [sk]; simp only [List.length_cons]
  split <;> omega
theorem sk_drop:∀ (b:Bool) (l:List UInt8),sk b l=l.drop (l.length - (sk b l).length)
 | b,[]=>by rw [sk_nil]; rfl
 | false,c :: r=>by
  have h1:=sk_drop false r
  have h2:=sk_drop true r
  have g1:=sk_le false r
  have g2:=sk_le true r
  rw [sk]
  split
  ·rw [List.length_cons,show r.length + 1 - (sk false r).length=(r.length - (sk false r).length) + 1 by omega,List.drop_succ_cons]; exact h1
  ·split
   ·rw [List.length_cons,show r.length + 1 - (sk true r).length=(r.length - (sk true r).length) + 1 by omega,List.drop_succ_cons]; exact h2
   ·simp
 | true,c :: r=>by
  have h1:=sk_drop false r
  have h2:=sk_drop true r
  have g1:=sk_le false r
  have g2:=sk_le true r
  rw [sk]
  split
  ·rw [List.length_cons,show r.length + 1 - (sk false r).length=(r.length - (sk false r).length) + 1 by omega,List.drop_succ_cons]; exact h1
  ·rw [List.length_cons,show r.length + 1 - (sk true r).length=(r.length - (sk true r).length) + 1 by omega,List.drop_succ_cons]; exact h2
theorem sk_head:∀ (b:Bool) (l:List UInt8) {c:UInt8} {r:List UInt8},sk b l=c :: r→¬ blank c=true∧c ≠ 35
 | b,[],c,r,h=>by rw [sk_nil] at h; cases h
 | false,d :: l,c,r,h=>by
  rw [sk] at h
  split at h
  ·exact sk_head false l h
  ·rename_i h1
   split at h
   ·exact sk_head true l h
   ·rename_i h2
    cases h
    exact ⟨h1,h2⟩
 | true,d :: l,c,r,h=>by
  rw [sk] at h
  split at h
  ·exact sk_head false l h
  ·exact sk_head true l h
theorem sk_of_head {l:List UInt8} (h:∀ c,l.head?=some c→¬ blank c=true∧c ≠ 35):sk false l=l:=by
 cases l with
 | nil=>rfl
 | cons c r=>exact sk_stop r (h c rfl).1 (h c rfl).2
theorem sk_sk (l:List UInt8):sk false (sk false l)=sk false l:=by
 refine sk_of_head fun c hc=>?_
 cases h:sk false l with
 | nil=>rw [h] at hc; cases hc
 | cons d r=>rw [h] at hc; cases hc; exact sk_head false l h
def btw (l:List UInt8):Nat:=l.length - (sk false l).length
theorem btw_le (l:List UInt8):btw l≤l.length:=Nat.sub_le _ _
theorem btw_drop (l:List UInt8):l.drop (btw l)=sk false l:=(sk_drop false l).symm
theorem lex_sk:∀ (f p:Nat) (l:List UInt8),l.length < f→lexF f p l=lexF f (p + btw l) (sk false l)
 | 0,_,l,h=>absurd h (Nat.not_lt_zero _)
 | f + 1,p,[],_=>rfl
 | f + 1,p,c :: r,hf=>by
  simp only [List.length_cons] at hf
  have g1:=sk_le false r
  have g2:=sk_le true r
  by_cases h1:blank c=true
  ·have e:sk false (c :: r)=sk false r:=by rw [sk,if_pos h1]
   have eb:btw (c :: r)=btw r + 1:=by simp only [btw,e,List.length_cons]; omega
   rw [lex_blank _ _ _ h1,lex_sk f (p + 1) r (by omega),eb,e]
   rw [lex_fuel f (f + 1) _ _ (by omega) (by omega)]
   congr 1; omega
  ·by_cases h2:c=35
   ·subst h2
    have e:sk false (35 :: r)=sk true r:=by rw [sk,if_neg h1,if_pos rfl]
    have e2:sk true r=sk false (r.drop (r.takeWhile line).length):=by
     rw [sk_note]
     have hn:=tw_next line r
     cases hd:r.drop (r.takeWhile line).length with
     | nil=>rw [← List.drop_drop,hd]; rfl
     | cons y z=>
      have hy:=hn y (by rw [hd]; rfl)
      have hy':y=10:=by simpa [line] using hy
      subst hy'
      rw [← List.drop_drop,hd,sk,if_pos (by decide)]; rfl
    have hl:=tw_le line r
    have hlen:(r.drop (r.takeWhile line).length).length=r.length - (r.takeWhile line).length:=List.length_drop
    have g3:=sk_le false (r.drop (r.takeWhile line).length)
    have eb:btw (35 :: r)=btw (r.drop (r.takeWhile line).length) + 1 + (r.takeWhile line).length:=by simp only [btw,e,e2,List.length_cons,hlen]; omega
    rw [lex_note,lex_sk f _ _ (by omega),eb,e,e2]
    rw [lex_fuel f (f + 1) _ _ (by omega) (by omega)]
    congr 1; omega
   ·have e:=sk_stop r h1 h2
    rw [btw,e,Nat.sub_self]; rfl
theorem index_line:∀ l:List UInt8,Lib.index l [10]=if (l.takeWhile line).length < l.length then ((l.takeWhile line).length:Int) else -1
 | []=>rfl
 | c :: l=>by
  have ih:=index_line l
  by_cases h:c=10
  ·subst h
   rw [List.takeWhile_cons_of_neg (by decide)]
   simp [Lib.index,List.isPrefixOf]
  ·have hp:([10] : List UInt8).isPrefixOf (c :: l)=false:=by
    simp [List.isPrefixOf]; exact fun e=>h e.symm
   rw [index_skip hp,List.takeWhile_cons_of_pos (by simpa [line] using h)]
   by_cases hl:(l.takeWhile line).length < l.length
   ·rw [if_pos hl] at ih
    have h2:(c :: l.takeWhile line).length < (c :: l).length:=by simp only [List.length_cons]; omega
    rw [if_pos h2,ih,if_neg (by first | (simp; done) | (simp; omega))]
    simp
   ·rw [if_neg hl] at ih
    have h2:¬ (c :: l.takeWhile line).length < (c :: l).length:=by simp only [List.length_cons]; omega
    rw [if_neg h2,ih]; rfl
theorem cut_line (l:List UInt8):(Lib.cut l [10]).2.1=l.drop ((l.takeWhile line).length + 1):=by
 have hl:=tw_le line l
 rw [Lib.cut,index_line]
 by_cases h:(l.takeWhile line).length < l.length
 ·rw [if_pos h,if_pos (by omega)]
  simp
 ·rw [if_neg h,if_neg (by decide)]
  rw [List.drop_of_length_le (by omega)]
theorem round_note (r:List UInt8):sk false (35 :: r)=sk false (Lib.trimLeftS (Lib.cut (35 :: r) [10]).2.1 blanksL):=by
 rw [trim_blanks,sk_blank,cut_line,List.takeWhile_cons_of_pos (by decide),List.length_cons,List.drop_succ_cons,sk,if_neg (by decide),if_pos rfl,sk_note]
theorem note_less (l:List UInt8) (h:l ≠ []):(Lib.trimLeftS (Lib.cut l [10]).2.1 blanksL).length < l.length:=by
 rw [trim_blanks,cut_line,List.length_drop,List.length_drop]
 have:0 < l.length:=List.length_pos_iff.2 h
 omega
theorem res_le:∀ t:List UInt8,res t=true→t.length≤6:=by
 intro t h
 have h2:t ∈ reserved:=by simpa [res] using h
 revert t
 have:∀ t ∈ reserved,t.length≤6:=by decide +kernel
 intro t _ h
 exact this t h
theorem told_digits (t:List UInt8) (h:∀ c ∈ t,dig c=true):told t=toldInt t:=by
 have key:∀ x:List UInt8,(∃ c ∈ x,dig c=false)→t ≠ x:=fun x ⟨c,hc,hd⟩ e=>by
  subst e
  rw [h c hc] at hd
  cases hd
 unfold told
 rw [if_neg (key _ ⟨110,by simp,by decide⟩),if_neg (key _ ⟨116,by simp,by decide⟩),if_neg (key _ ⟨102,by simp,by decide⟩),if_neg]
 cases t with
 | nil=>simp
 | cons c r=>
  simp only [List.head?_cons,Option.some.injEq]
  intro e
  have:=h c (by simp)
  rw [e] at this
  exact absurd this (by decide)
theorem toldInt_err (t:List UInt8):(toldInt t).e=(numErr t:Nat):=by
 unfold toldInt numErr
 split
 ·rfl
 ·split <;> rfl
theorem told_text (u:List UInt8):told (quo u)=if u.length≤200 then ⟨2,0,u,0⟩ else ⟨0,0,[],7⟩:=by
 unfold told
 rw [if_neg (by simp [quo]),if_neg (by simp [quo]),if_neg (by simp [quo]),if_pos (by simp [quo])]
 by_cases h:u.length≤200
 ·rw [toldText_quo u h,if_pos h]
 ·rw [if_neg h]
  refine toldText_not _ (by simp [quo]) fun v hv e=>h ?_
  have e2:esc v ++ [39]=esc u ++ [39]:=by simpa [quo] using e
  have:some v=some u:=by rw [← unq_esc v,← unq_esc u,e2]
  cases this
  exact hv
end Go.Proofs.YteghhmomhlnccaaGreatDoor.Lx
namespace Go.Proofs.YteghhmomhlnccaaGreatDoor
def Row3 (w:World) (g:Nat) (k n:Int) (s:ByteArray):Prop:=w.heap[g]?=some (.cells #[.int .i64 k,.int .i64 n,.string s] 23 (0,0))
theorem Row3.lt {w:World} {g:Nat} {k n:Int} {s:ByteArray} (h:Row3 w g k n s):g < w.heap.size:=by
 rcases Nat.lt_or_ge g w.heap.size with hlt | hge
 ·exact hlt
 ·unfold Row3 at h; rw [Array.getElem?_eq_none hge] at h; cases h
theorem Row3.new (w:World) (k n:Int) (s:ByteArray):Row3 (w.alloc (.cells #[.int .i64 k,.int .i64 n,.string s] 23)) w.heap.size k n s:=heap_alloc_new w _
theorem Row3.below {w w':World} {g:Nat} {k n:Int} {s:ByteArray} {B:Nat} (h:Row3 w g k n s) (hb:Below B w w') (hg:g < B):Row3 w' g k n s:=(hb.block g hg).trans h
theorem Row3.alloc {w:World} {g:Nat} {k n:Int} {s:ByteArray} (h:Row3 w g k n s) (o:Obj):Row3 (w.alloc o) g k n s:=(Below.heap_alloc w o g h.lt).trans h
theorem Row3.holds {w:World} {g:Nat} {k n:Int} {s:ByteArray} (h:Row3 w g k n s):Holds3 w g k n s:=
 ⟨cell_of_row w g 0 _ _ _ h,cell_of_row w g 1 _ _ _ h,cell_of_row w g 2 _ _ _ h⟩
theorem Row3.frozen {w:World} {g:Nat} {k n:Int} {s:ByteArray} (h:Row3 w g k n s) (i:Nat):w.frozen? ⟨g,i,none⟩=false:=by
 unfold Row3 at h
 simp [World.frozen?,h]
theorem Row3.set3 {w:World} {g:Nat} {k n:Int} {s:ByteArray} (h:Row3 w g k n s) (k' n':Int) (s':ByteArray) :
  Row3 (((w.setCell ⟨g,0,none⟩ (.int .i64 k')).setCell ⟨g,1,none⟩ (.int .i64 n')).setCell ⟨g,2,none⟩ (.string s')) g k' n' s':=by
 have h0:=heap_setCell_same w g 0 _ _ (.int .i64 k') h
 have h1:=heap_setCell_same _ g 1 _ _ (.int .i64 n') h0
 have h2:=heap_setCell_same _ g 2 _ _ (.string s') h1
 simpa [Row3] using h2
end Go.Proofs.YteghhmomhlnccaaGreatDoor
namespace Go.Proofs.YteghhmomhlnccaaGreatDoor
def allD (l:List UInt8):Bool:=l.all dig
theorem take_snoc' (s:ByteArray) (k:Nat) (h:k < s.size):s.data.toList.take (k + 1)=s.data.toList.take k ++ [s[k]]:=by
 rw [List.take_succ_eq_append_getElem (by simpa using h)]; rfl
theorem alldigits_any (d:ByteArray) (w:World) (hs:d.size≤1000000) :
  Calls Tryz.prog 164 #[.string d] w fun e w'=>e=.returned (.bool (allD d.data.toList))∧w'=w:=by
 go_enter Tryz.func164,Tryz.ntmps164
 go_wp2
 go_loop [6] (fun i=>∃ k:Nat,k≤d.size∧i=.int .i64 k∧Hid (∀ c ∈ d.data.toList.take k,dig c=true)) (fun i=>d.size - (RowKit.intOf i).toNat)
 case atStart=>exact ⟨0,Nat.zero_le _,rfl,hid (by simp)⟩
 case round=>
  obtain ⟨k,hk,rfl,H⟩:=hrel
  by_cases hlt:k < d.size
  ·by_cases c48:(d[k].toNat:Int) < 48
   ·have NA:Hid (allD d.data.toList=false):=hid (by unfold allD; rw [List.all_eq_false]; exact ⟨d[k],List.getElem_mem (l:=d.data.toList) (by simpa using hlt),by simp [dig]; omega⟩)
    go_wp2
    go_ret
    exact ⟨by rw [NA.out]; rfl,rfl⟩
   ·by_cases c57:(d[k].toNat:Int) > 57
    ·have NA:Hid (allD d.data.toList=false):=hid (by unfold allD; rw [List.all_eq_false]; exact ⟨d[k],List.getElem_mem (l:=d.data.toList) (by simpa using hlt),by simp [dig]; omega⟩)
     go_wp2
     go_ret
     exact ⟨by rw [NA.out]; rfl,rfl⟩
    ·have DG:Hid (∀ c ∈ d.data.toList.take (k + 1),dig c=true):=hid (by
      rw [take_snoc' d k hlt]
      intro c hc
      rw [List.mem_append] at hc
      rcases hc with hc | hc
      ·exact H.out c hc
      ·simp only [List.mem_singleton] at hc; subst hc; simp [dig]; omega)
     go_wp2
     go_round
     case rel=>exact ⟨k + 1,by omega,by go_num,DG⟩
     case measure=>simp [RowKit.intOf]; omega
  ·have AA:Hid (allD d.data.toList=true):=hid (by
    unfold allD
    rw [List.all_eq_true]
    have h:=H.out
    rwa [List.take_of_length_le (by simp; omega)] at h)
   go_wp2
   go_ret
   exact ⟨by rw [AA.out]; rfl,rfl⟩
def lk (l:List UInt8) (b:Bool):Bool:=l != [] && allD l && ((l.head?.map (·.toNat) != some 48) || (l.length == 1 && !b))
theorem looks_walk (s d:ByteArray) (b:Bool) (w:World) (hs:d.size≤1000000)
  (hcut:∀ w,Calls Tryz.prog 163 #[.string s,.string ⟨#[45]⟩] w fun e w'=>e=.returned (.tuple #[.string d,.bool b])∧w'=w) :
  Calls Tryz.prog 146 #[.string s] w fun e w'=>e=.returned (.bool (lk d.data.toList b))∧w'=w:=by
 have HC:=hid hcut
 clear hcut
 by_cases hz:d.size=0
 ·have hde:d=ByteArray.empty:=by
   apply ByteArray.ext
   exact Array.eq_empty_of_size_eq_zero hz
  subst hde
  clear hz
  go_enter Tryz.func146,Tryz.ntmps146
  go_wp2_with fail
  refine (HC.out _).mono ?_
  rintro e w' ⟨rfl,rfl⟩
  go_wp2
  go_ret
  exact ⟨rfl,rfl⟩
 ·have hz':0 < d.size:=by omega
  have hhd:d.data.toList.head?=some d[0]:=by rw [List.head?_eq_getElem?,List.getElem?_eq_getElem (by simpa using hz')]; rfl
  have HHD:=hid hhd
  have HNE:Hid (d.data.toList ≠ []):=hid (by intro e; rw [e] at hhd; cases hhd)
  have AC:=hid fun w=>alldigits_any d w hs
  have he:d.toList.isEmpty=false:=by
   rw [Lib.toList_data]
   cases hq:d.data.toList with
   | nil=>exact absurd hq HNE.out
   | cons c r=>rfl
  clear hz hhd
  cases ha:allD d.data.toList
  ·have HA:=hid ha
   have AC':=hid fun w=>ha ▸ AC.out w
   clear ha
   go_enter Tryz.func146,Tryz.ntmps146
   go_wp2_with fail
   refine (HC.out _).mono ?_
   rintro e w' ⟨rfl,rfl⟩
   go_wp2_with fail
   refine (AC'.out _).mono ?_
   rintro e w' ⟨rfl,rfl⟩
   go_wp2
   go_ret
   exact ⟨by rw [lk,HA.out]; simp,rfl⟩
  ·have HA:=hid ha
   have AC':=hid fun w=>ha ▸ AC.out w
   clear ha
   by_cases h48:(d[0].toNat:Int)=48
   ·have hb48:((d[0].toNat:Int) == 48)=true:=by rw [beq_iff_eq]; exact h48
    have hb48':((d[0].toNat:Int) != 48)=false:=by rw [bne,hb48]; rfl
    have e1:Hid (d.data.toList.head?.map (·.toNat)=some 48):=hid (by
     rw [HHD.out]
     simp only [Option.map_some]; congr 1; omega)
    clear h48
    by_cases h1:d.size=1
    ·have hs1:((d.size:Int) == 1)=true:=by rw [beq_iff_eq]; omega
     have HL:Hid (d.data.toList.length=1):=hid (by simpa using h1)
     clear h1
     cases b <;> (
      go_enter Tryz.func146,Tryz.ntmps146
      go_wp2_with fail
      refine (HC.out _).mono ?_
      rintro e w' ⟨rfl,rfl⟩
      go_wp2_with fail
      refine (AC'.out _).mono ?_
      rintro e w' ⟨rfl,rfl⟩
      go_wp2
      go_ret
      exact ⟨by rw [lk,HA.out,e1.out,HL.out]; simp [HNE.out],rfl⟩)
    ·have hs1:((d.size:Int) == 1)=false:=by rw [beq_eq_false_iff_ne]; omega
     have HL:Hid (d.data.toList.length ≠ 1):=hid (by simpa using h1)
     clear h1
     go_enter Tryz.func146,Tryz.ntmps146
     go_wp2_with fail
     refine (HC.out _).mono ?_
     rintro e w' ⟨rfl,rfl⟩
     go_wp2_with fail
     refine (AC'.out _).mono ?_
     rintro e w' ⟨rfl,rfl⟩
     go_wp2
     go_ret
     exact ⟨by rw [lk,HA.out,e1.out]; simp [HNE.out]; exact fun h=>absurd (by simpa using h) HL.out,rfl⟩
   ·have hb48:((d[0].toNat:Int) == 48)=false:=by rw [beq_eq_false_iff_ne]; exact h48
    have hb48':((d[0].toNat:Int) != 48)=true:=by rw [bne,hb48]; rfl
    have e1:Hid (d.data.toList.head?.map (·.toNat) ≠ some 48):=hid (by
     rw [HHD.out]
     simp only [Option.map_some,ne_eq,Option.some.injEq]; omega)
    clear h48
    go_enter Tryz.func146,Tryz.ntmps146
    go_wp2_with fail
    refine (HC.out _).mono ?_
    rintro e w' ⟨rfl,rfl⟩
    go_wp2_with fail
    refine (AC'.out _).mono ?_
    rintro e w' ⟨rfl,rfl⟩
    go_wp2
    go_ret
    have hh:(d.data.toList.head?.map (·.toNat) != some 48)=true:=bne_iff_ne.2 e1.out
    have hn:(d.data.toList != [])=true:=bne_iff_ne.2 HNE.out
    exact ⟨by rw [lk,HA.out,hh,hn]; rfl,rfl⟩
theorem cut_minus (s:ByteArray) (w:World):Calls Tryz.prog 163 #[.string s,.string ⟨#[45]⟩] w fun e w'=>e=.returned (.tuple #[.string ⟨(body s.data.toList).toArray⟩,.bool (minus s.data.toList)])∧w'=w:=by
 have h:=Tryz.strings_CutPrefix s ⟨#[45]⟩ w
 have e1:Lib.hasPrefix s.data.toList (⟨#[45]⟩:ByteArray).data.toList=minus s.data.toList:=by
  unfold Lib.hasPrefix minus
  show List.isPrefixOf [45] s.data.toList=_
  cases hq:s.data.toList with
  | nil=>rfl
  | cons c r=>
   simp only [List.isPrefixOf,List.head?_cons,Option.map_some,Bool.and_true]
   rw [Bool.eq_iff_iff]
   simp only [beq_iff_eq,Option.some.injEq]
   constructor
   ·intro h; rw [← h]; rfl
   ·intro h; exact (UInt8.toNat_inj.1 h).symm
 have e2:Lib.trimPrefix s.data.toList (⟨#[45]⟩:ByteArray).data.toList=body s.data.toList:=by
  unfold Lib.trimPrefix
  rw [e1]
  unfold body
  by_cases hm:minus s.data.toList=true
  ·rw [if_pos hm,if_pos hm]
   show s.data.toList.drop 1=_
   rw [List.drop_one]
  ·rw [if_neg hm,if_neg hm]
 rwa [e1,e2] at h
theorem looks_any (s:ByteArray) (w:World) (hs:s.size≤1000000) :
  Calls Tryz.prog 146 #[.string s] w fun e w'=>e=.returned (.bool (looks s.data.toList))∧w'=w:=by
 have hl:(⟨(body s.data.toList).toArray⟩:ByteArray).size≤1000000:=by
  show (body s.data.toList).toArray.size≤1000000
  have hss:s.data.toList.length=s.size:=by simp
  unfold body
  split
  ·simp; omega
  ·simp; omega
 exact looks_walk s ⟨(body s.data.toList).toArray⟩ (minus s.data.toList) w hl (fun w=>cut_minus s w)
end Go.Proofs.YteghhmomhlnccaaGreatDoor
namespace Go.Proofs.YteghhmomhlnccaaGreatDoor
open Go.RowKit Go.Extern.Stop Go.Stop Go.Extern
theorem isTypeOf (v:Value) (w:World):(Extern.ReflectliteType.typeOf #[.iface 242 v]).run Tryz.prog w=.ok (.iface 204 (.agg #[.pointer (some ⟨8,242,none⟩)])) w:=by kernel_rfl
theorem isComparable (w : World) : ((Extern.ReflectliteType.method fun t => do Extern.Rtype.noPackHeld "Comparable" t; (fun a => Value.bool a.comparable) <$> typeInfo t) #[.agg #[.pointer (some ⟨8, 242, none⟩)]]).run Tryz.prog w = .ok (.bool true) w := by kernel_rfl
theorem isMethodComparable (v : Value) (w : World) : (Go.method 383 204 v "Comparable").run Tryz.prog w = .ok (254, v) w := by kernel_rfl
theorem isComp:(Tryz.prog.info? 242).map (·.comparable)=some true:=by kernel_rfl
theorem isSize:(Tryz.prog.info? 244).map (·.size)=some 1:=by kernel_rfl
theorem noIsE (v:Value) (xT:TypeId) (w:World):(Instr.typeAssert (.iface 242 v) xT 206 true).run Tryz.prog w=.ok (.tuple #[.nilIface,.bool false]) w:=run_typeAssert_lacksB Tryz.underlying206 (by kernel_rfl) (by kernel_rfl) v xT w
theorem noUnwrapE (v:Value) (xT:TypeId) (w:World):(Instr.typeAssert (.iface 242 v) xT 209 true).run Tryz.prog w=.ok (.tuple #[.nilIface,.bool false]) w:=run_typeAssert_lacksB Tryz.underlying209 (by kernel_rfl) (by kernel_rfl) v xT w
theorem noUnwrapsE (v:Value) (xT:TypeId) (w:World):(Instr.typeAssert (.iface 242 v) xT 211 true).run Tryz.prog w=.ok (.tuple #[.nilIface,.bool false]) w:=run_typeAssert_lacksB Tryz.underlying211 (by kernel_rfl) (by kernel_rfl) v xT w
theorem noIsW (v:Value) (xT:TypeId) (w:World):(Instr.typeAssert (.iface 200 v) xT 206 true).run Tryz.prog w=.ok (.tuple #[.nilIface,.bool false]) w:=run_typeAssert_lacksB Tryz.underlying206 (by kernel_rfl) (by kernel_rfl) v xT w
theorem hasUnwrapW (v:Value) (xT:TypeId) (w:World):(Instr.typeAssert (.iface 200 v) xT 209 true).run Tryz.prog w=.ok (.tuple #[.iface 200 v,.bool true]) w:=run_typeAssert_hasB Tryz.underlying209 (by kernel_rfl) v xT w
theorem methodUnwrap (v : Value) (w : World) : (Go.method 383 200 v "Unwrap").run Tryz.prog w = .ok (250, v) w := by kernel_rfl
theorem is_nil (b:Addr) (w:World) :
  Calls Tryz.prog 148 #[.nilIface,.iface 242 (.pointer (some b))] w fun e w'=>e=.returned (.bool false)∧w'=w:=by
 have hn:=run_eql_iface_nil_left (P:=Tryz.prog) w 242 (.pointer (some b)) Tryz.underlying168
 go_enter Tryz.func148,Tryz.ntmps148
 go_wp2
 go_ret
 exact ⟨rfl,rfl⟩
theorem is_wrap_same (pb po:Nat) (b:Addr) (w:World) (h1:w.cell? ⟨pb,po + 2,none⟩=some (.iface 242 (.pointer (some b)))) :
  Calls Tryz.prog 148 #[.iface 200 (.pointer (some ⟨pb,po,none⟩)),.iface 242 (.pointer (some b))] w fun e w'=>e=.returned (.bool true)∧w'=w:=by
 obtain ⟨i,hi,hcmp⟩:=Option.map_eq_some_iff.1 isComp
 obtain ⟨j,hj,hjs⟩:=Option.map_eq_some_iff.1 isSize
 have h8:=@run_callFunc_extern Tryz.prog 167 _ Extern.ReflectliteType.typeOf Tryz.func167 (by kernel_rfl) (by kernel_rfl) (by kernel_rfl) (by kernel_rfl)
 have h32 := @run_callFunc_extern Tryz.prog 254 _ (Extern.ReflectliteType.method fun t => do Extern.Rtype.noPackHeld "Comparable" t; pure (.bool (← typeInfo t).comparable)) Tryz.func254 (by kernel_rfl) (by kernel_rfl) (by kernel_rfl) (by kernel_rfl)
 have tT:=isTypeOf
 have mR:=isMethodComparable
 have mU:=methodUnwrap
 have cT:=isComparable
 have nE:=noIsE
 have uE:=noUnwrapE
 have vE:=noUnwrapsE
 have nW:=noIsW
 have uW:=hasUnwrapW
 have heq:=run_eql_iface_ptr_same (P:=Tryz.prog) w b Tryz.underlying168 Tryz.underlying242 hi hcmp hj
 have hty:=run_eql_iface_types (P:=Tryz.prog) 200 242 (.pointer (some ⟨pb,po,none⟩)) (.pointer (some b)) Tryz.underlying168 (by decide) w
 go_enter Tryz.func148,Tryz.ntmps148
 go_wp2
 refine wp_loop_rounds 2 ?_
 rw [rounds_succ]
 go_wp2
 rw [rounds_succ]
 go_wp2
 go_ret
 exact ⟨rfl,rfl⟩
end Go.Proofs.YteghhmomhlnccaaGreatDoor
namespace Go.Proofs.YteghhmomhlnccaaGreatDoor
theorem read_no (s:ByteArray) (w:World) (hs:s.size≤6000) (hl:looks s.data.toList=false) :
  Calls Tryz.prog 120 #[.string s] w fun e w'=>e=.returned (.tuple #[.int .i64 0,.int .i64 6])∧Below w.heap.size w w':=by
 have L:=fun w=>looks_any s w (by omega)
 rw [hl] at L
 have LL:=hid L
 clear L hl
 go_enter Tryz.func120,Tryz.ntmps120
 go_wp2_with fail
 refine (LL.out _).mono ?_
 rintro e w' ⟨rfl,rfl⟩
 go_wp2
 go_ret2
 exact ⟨rfl,Below.refl _ _⟩
theorem read_ok (s:ByteArray) (w:World) (hs:s.size≤6000) (hl:looks s.data.toList=true) (v:Int) (hv:Lib.parseIntB 64 s.data.toList=.ok v) (a:Addr) (hc:w.cell? ⟨0,0,none⟩=some (.iface 242 (.pointer (some a)))) :
  Calls Tryz.prog 120 #[.string s] w fun e w'=>e=.returned (.tuple #[.int .i64 v,.int .i64 0])∧Below w.heap.size w w':=by
 have L:=fun w=>looks_any s w (by omega)
 rw [hl] at L
 have LL:=hid L
 have PP:=hid fun w=>Tryz.strconv_ParseInt_10_at64_ok s (by omega) v hv w
 have hlt:=World.block_lt_of_cell? w _ hc
 have HC:=hid hc
 clear L hl hv hc
 go_enter Tryz.func120,Tryz.ntmps120
 go_wp2_with fail
 refine (LL.out _).mono ?_
 rintro e w' ⟨rfl,rfl⟩
 go_wp2_with fail
 refine (PP.out _).mono ?_
 rintro e w2 ⟨rfl,hw⟩
 have hb:Below w'.heap.size w' w2:=by
  rcases hw with rfl | ⟨t,rfl⟩
  ·exact Below.refl _ _
  ·exact Lib.bytesWorld_below ..
 have c2:w2.cell? ⟨0,0,none⟩=some (.iface 242 (.pointer (some a))):=(hb.cell hlt).trans HC.out
 have HB:=hid hb
 clear hw hb
 go_wp2_with fail
 refine (is_nil a _).mono ?_
 rintro e w' ⟨rfl,rfl⟩
 go_wp2
 go_ret2
 exact ⟨rfl,HB.out⟩
theorem read_range (s : ByteArray) (w : World) (hs : s.size ≤ 6000) (hl : looks s.data.toList = true) (hv : Lib.parseIntB 64 s.data.toList = .range) (a : Addr) (hc : w.cell? ⟨0, 0, none⟩ = some (.iface 242 (.pointer (some a)))) (hvar : w.var? Tryz.prog "strconv.ErrRange" = some #[.iface 242 (.pointer (some a))]) :
  Calls Tryz.prog 120 #[.string s] w fun e w'=>e=.returned (.tuple #[.int .i64 0,.int .i64 4])∧Below w.heap.size w w':=by
 have L:=fun w=>looks_any s w (by omega)
 rw [hl] at L
 have LL:=hid L
 have PP:=hid (Tryz.strconv_ParseInt_10_at64_range_var s (by omega) hv 242 (.pointer (some a)) w hvar)
 have hlt:=World.block_lt_of_cell? w _ hc
 have HC:=hid hc
 clear L hl hv hc hvar
 go_enter Tryz.func120,Tryz.ntmps120
 go_wp2_with fail
 refine (LL.out _).mono ?_
 rintro e w' ⟨rfl,rfl⟩
 go_wp2_with fail
 refine (PP.out).mono ?_
 rintro e w2 ⟨N,rfl,hN,hrow,hb⟩
 have c2:w2.cell? ⟨0,0,none⟩=some (.iface 242 (.pointer (some a))):=(hb.cell hlt).trans HC.out
 have CN:Hid (w2.cell? ⟨N,0 + 2,none⟩=some (.iface 242 (.pointer (some a)))):=hid (cell_of_row w2 N 2 _ _ _ hrow)
 have HB:=hid hb
 clear hb hrow
 go_wp2_with fail
 refine (is_wrap_same N 0 a _ CN.out).mono ?_
 rintro e w' ⟨rfl,rfl⟩
 go_wp2
 go_ret2
 exact ⟨rfl,HB.out⟩
theorem read_any (s : ByteArray) (w : World) (hs : s.size ≤ 6000) (a : Addr) (hc : w.cell? ⟨0, 0, none⟩ = some (.iface 242 (.pointer (some a)))) (hvar : w.var? Tryz.prog "strconv.ErrRange" = some #[.iface 242 (.pointer (some a))]) :
  Calls Tryz.prog 120 #[.string s] w fun e w'=>e=.returned (.tuple #[.int .i64 (rv s.data.toList),.int .i64 (re s.data.toList)])∧Below w.heap.size w w':=by
 cases hl:looks s.data.toList
 ·rw [show rv s.data.toList=0 by simp [rv,hl],show re s.data.toList=6 by simp [re,hl]]
  exact read_no s w hs hl
 ·have hp:=parse_looks s.data.toList hl
  by_cases hf:Fits (signed (minus s.data.toList) (dv 0 (body s.data.toList)))
  ·rw [if_pos hf] at hp
   rw [show rv s.data.toList=signed (minus s.data.toList) (dv 0 (body s.data.toList)) by rw [rv,if_pos hl,sv,if_pos hf],show re s.data.toList=0 by rw [re,if_pos hl,se,if_pos hf]]
   exact read_ok s w hs hl _ hp a hc
  ·rw [if_neg hf] at hp
   rw [show rv s.data.toList=0 by rw [rv,if_pos hl,sv,if_neg hf],show re s.data.toList=4 by rw [re,if_pos hl,se,if_neg hf]]
   exact read_range s w hs hl hp a hc hvar
theorem print_any (n:Int) (w:World) (hn:Fits n) (htab:Lib.TabIs Tryz.prog w powName .u64 Lib.pow10Tab) :
  Calls Tryz.prog 119 #[.int .i64 n] w fun e w'=>e=.returned (.string ⟨(itoa n).toArray⟩)∧Below w.heap.size w w':=by
 have F:=hid (Tryz.strconv_FormatInt_10 n hn.1 hn.2 w htab)
 clear htab hn
 go_enter Tryz.func119,Tryz.ntmps119
 go_wp2_with fail
 refine (F.out).mono ?_
 rintro e w2 ⟨rfl,k,os,rfl⟩
 go_wp2
 go_ret
 exact ⟨rfl,Lib.below_grow _ _ (Nat.le_refl _) _ _⟩
end Go.Proofs.YteghhmomhlnccaaGreatDoor
