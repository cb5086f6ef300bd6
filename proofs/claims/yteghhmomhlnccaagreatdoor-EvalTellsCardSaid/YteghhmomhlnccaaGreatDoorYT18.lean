import Derived.Test.YteghhmomhlnccaaGreatDoorYT7
import Derived.Test.YteghhmomhlnccaaGreatDoorYT3
import Derived.Laws.Cover1
import Derived.LoopTactic
import Derived.LoopN
import Derived.Test.YteghhmomhlnccaaGreatDoorYT2
import Derived.Test.YteghhmomhlnccaaGreatDoorYT17
import Derived.Test.YteghhmomhlnccaaGreatDoorYT6
import Derived.StillTailTactics
set_option linter.unusedVariables false
set_option linter.unusedSimpArgs false
set_option maxRecDepth 100000
set_option maxHeartbeats 100000000
open Go.RowKit Go.Lib
namespace Go.Proofs.YteghhmomhlnccaaGreatDoor
def cmpI (a b:Int):Int:=if a < b then -1 else if b < a then 1 else 0
def cmpS (a b:List UInt8):Int:=if Op.bytesLess a b then -1 else if a == b then 0 else 1
theorem bl_irr:∀ (a:List UInt8),Op.bytesLess a a=false
 | []=>rfl
 | x :: a=>by simp [Op.bytesLess,bl_irr a]
theorem bl_total:∀ (a b:List UInt8),Op.bytesLess a b=false→Op.bytesLess b a=false→a=b
 | [],[],_,_=>rfl
 | [],_ :: _,h,_=>by simp [Op.bytesLess] at h
 | _ :: _,[],_,h=>by simp [Op.bytesLess] at h
 | x :: a,y :: b,h,k=>by
  simp only [Op.bytesLess,Bool.or_eq_false_iff,Bool.and_eq_false_iff,decide_eq_false_iff_not,UInt8.lt_iff_toNat_lt,beq_eq_false_iff_ne] at h k
  have e:x=y:=UInt8.toNat_inj.1 (by omega)
  subst e
  have h2:=h.2.resolve_left (by simp)
  have k2:=k.2.resolve_left (by simp)
  rw [bl_total a b h2 k2]
theorem bl_trans:∀ (a b c:List UInt8),Op.bytesLess a b=true→Op.bytesLess b c=true→Op.bytesLess a c=true
 | [],_,[],h,k=>by
  rename_i b
  cases b <;> simp [Op.bytesLess] at h k
 | [],_,_ :: _,_,_=>rfl
 | _ :: _,[],_,h,_=>by simp [Op.bytesLess] at h
 | _ :: _,_ :: _,[],_,k=>by simp [Op.bytesLess] at k
 | x :: a,y :: b,z :: c,h,k=>by
  simp only [Op.bytesLess,Bool.or_eq_true,Bool.and_eq_true,decide_eq_true_eq,UInt8.lt_iff_toNat_lt,beq_iff_eq] at h k ⊢
  rcases h with h | ⟨rfl,h⟩
  ·rcases k with k | ⟨rfl,k⟩
   ·left; omega
   ·left; exact h
  ·rcases k with k | ⟨rfl,k⟩
   ·left; exact k
   ·right; exact ⟨rfl,bl_trans a b c h k⟩
theorem bl_asymm (a b:List UInt8) (h:Op.bytesLess a b=true):Op.bytesLess b a=false:=by
 cases k:Op.bytesLess b a
 ·rfl
 ·have:=bl_trans a b a h k
  rw [bl_irr] at this
  cases this
theorem cmpInt_any (a b:Int) (w:World):Calls Tryz.prog 137 #[.int .i64 a,.int .i64 b] w fun e w'=>e=.returned (.int .i64 (cmpI a b))∧w=w':=by
 rcases Int.lt_trichotomy a b with h | h | h
 ·rw [show cmpI a b=-1 from if_pos h]
  go_enter Tryz.func137,Tryz.ntmps137
  go_wp2
  go_ret
  exact ⟨rfl,rfl⟩
 ·subst h
  rw [show cmpI a a=0 by simp [cmpI]]
  go_enter Tryz.func137,Tryz.ntmps137
  go_wp2
  go_ret
  exact ⟨rfl,rfl⟩
 ·rw [show cmpI a b=1 by rw [cmpI,if_neg (by omega),if_pos h]]
  have hd:decide (a < b)=false:=decide_eq_false (by omega)
  go_enter Tryz.func137,Tryz.ntmps137
  go_wp2
  go_ret
  exact ⟨rfl,rfl⟩
theorem cmpInt64_any (a b:Int) (w:World):Calls Tryz.prog 138 #[.int .i64 a,.int .i64 b] w fun e w'=>e=.returned (.int .i64 (cmpI a b))∧w=w':=by
 rcases Int.lt_trichotomy a b with h | h | h
 ·rw [show cmpI a b=-1 from if_pos h]
  go_enter Tryz.func138,Tryz.ntmps138
  go_wp2
  go_ret
  exact ⟨rfl,rfl⟩
 ·subst h
  rw [show cmpI a a=0 by simp [cmpI]]
  go_enter Tryz.func138,Tryz.ntmps138
  go_wp2
  go_ret
  exact ⟨rfl,rfl⟩
 ·rw [show cmpI a b=1 by rw [cmpI,if_neg (by omega),if_pos h]]
  have hd:decide (a < b)=false:=decide_eq_false (by omega)
  go_enter Tryz.func138,Tryz.ntmps138
  go_wp2
  go_ret
  exact ⟨rfl,rfl⟩
theorem cmpStr_any (a b:ByteArray) (w:World):Calls Tryz.prog 139 #[.string a,.string b] w fun e w'=>e=.returned (.int .i64 (cmpS a.toList b.toList))∧w=w':=by
 unfold cmpS
 cases h1:Op.bytesLess a.toList b.toList
 ·cases h2:(a.toList == b.toList)
  ·go_enter Tryz.func139,Tryz.ntmps139
   go_wp2
   go_ret
   exact ⟨rfl,rfl⟩
  ·go_enter Tryz.func139,Tryz.ntmps139
   go_wp2
   go_ret
   exact ⟨rfl,rfl⟩
 ·go_enter Tryz.func139,Tryz.ntmps139
  go_wp2
  go_ret
  exact ⟨rfl,rfl⟩
def or3 (x y z:Int):Int:=if x=0 then if y=0 then z else y else x
theorem or_any (g:Nat) (x y z:Int) (w:World) (h0:w.cell? ⟨g,0,none⟩=some (.int .i64 x)) (h1:w.cell? ⟨g,1,none⟩=some (.int .i64 y)) (h2:w.cell? ⟨g,2,none⟩=some (.int .i64 z)) :
  Calls Tryz.prog 136 #[.slice (some ⟨g,0,none⟩) 3 3] w fun e w'=>e=.returned (.int .i64 (or3 x y z))∧w=w':=by
 by_cases hx:x=0
 ·subst hx
  by_cases hy:y=0
  ·subst hy
   rw [show or3 0 0 z=z from rfl]
   by_cases hz:z=0
   ·subst hz
    go_enter Tryz.func136,Tryz.ntmps136
    go_wp2
    refine wp_loop_rounds 6 ?_
    rw [rounds_succ]; go_wp2
    rw [rounds_succ]; go_wp2
    rw [rounds_succ]; go_wp2
    rw [rounds_succ]; go_wp2
    go_ret
    exact ⟨rfl,rfl⟩
   ·have hb:(z == 0)=false:=by simpa using hz
    go_enter Tryz.func136,Tryz.ntmps136
    go_wp2
    refine wp_loop_rounds 6 ?_
    rw [rounds_succ]; go_wp2
    rw [rounds_succ]; go_wp2
    rw [rounds_succ]; go_wp2
    go_ret
    exact ⟨rfl,rfl⟩
  ·rw [show or3 0 y z=y by simp [or3,hy]]
   have hb:(y == 0)=false:=by simpa using hy
   go_enter Tryz.func136,Tryz.ntmps136
   go_wp2
   refine wp_loop_rounds 6 ?_
   rw [rounds_succ]; go_wp2
   rw [rounds_succ]; go_wp2
   go_ret
   exact ⟨rfl,rfl⟩
 ·rw [show or3 x y z=x by simp [or3,hx]]
  have hb:(x == 0)=false:=by simpa using hx
  go_enter Tryz.func136,Tryz.ntmps136
  go_wp2
  refine wp_loop_rounds 6 ?_
  rw [rounds_succ]; go_wp2
  go_ret
  exact ⟨rfl,rfl⟩
theorem or_new (W:World) (x y z:Int) (t:TypeId) :
  Calls Tryz.prog 136 #[.slice (some ⟨W.heap.size,0,none⟩) 3 3] (W.alloc (.cells #[.int .i64 x,.int .i64 y,.int .i64 z] t)).drew fun e w'=>e=.returned (.int .i64 (or3 x y z))∧(W.alloc (.cells #[.int .i64 x,.int .i64 y,.int .i64 z] t)).drew=w':=
 or_any _ x y z _ (by simp [go_sem]) (by simp [go_sem]) (by simp [go_sem])
end Go.Proofs.YteghhmomhlnccaaGreatDoor
namespace Go.Proofs.YteghhmomhlnccaaGreatDoor
def ord (k n:Int) (s:ByteArray) (k' n':Int) (s':ByteArray):Int:=or3 (cmpI k k') (cmpI n n') (cmpS s.toList s'.toList)
theorem compare_no1 (k n:Int) (s:ByteArray) (k' n':Int) (s':ByteArray) (w:World) (hs:s.size≤9223372036854775807) (hs':s'.size≤9223372036854775807) (h1:plainB k n s=false) :
  Calls Tryz.prog 115 #[val k n s,val k' n' s'] w fun e w'=>e=.returned (.int .i64 0)∧Below w.heap.size w w':=by
 have P:=fun w=>plain_any k n s w hs
 rw [h1] at P
 have PP:=hid P
 clear P
 go_enter Tryz.func115,Tryz.ntmps115
 go_wp2_with (go_at_call 33; refine (PP.out _).mono ?_; rintro e w1 ⟨rfl,hb1⟩; have HB1:=hid hb1; clear hb1)
 go_ret
 exact ⟨rfl,bstep (((Below.refl _ _).alloc (Nat.le_refl _) _).alloc (by simp) _) HB1.out⟩
theorem compare_no2 (k n:Int) (s:ByteArray) (k' n':Int) (s':ByteArray) (w:World) (hs:s.size≤9223372036854775807) (hs':s'.size≤9223372036854775807) (h1:plainB k n s=true) (h2:plainB k' n' s'=false) :
  Calls Tryz.prog 115 #[val k n s,val k' n' s'] w fun e w'=>e=.returned (.int .i64 0)∧Below w.heap.size w w':=by
 have P:=fun w=>plain_any k n s w hs
 have P':=fun w=>plain_any k' n' s' w hs'
 rw [h1] at P
 rw [h2] at P'
 have PP:=hid P
 have PP':=hid P'
 clear P P'
 go_enter Tryz.func115,Tryz.ntmps115
 go_wp2_with fail
 refine (PP.out _).mono ?_
 rintro e w1 ⟨rfl,hb1⟩
 have H2:=(((Holds3.new (w.alloc (.cells #[.int .i64 k,.int .i64 n,.string s] 23)) k' n' s' 23)).below hb1 (by simp))
 simp only [alloc_size] at H2
 obtain ⟨c3,c4,c5⟩:=H2
 have HB1:=hid (bstep (((Below.refl _ _).alloc (Nat.le_refl _) _).alloc (by simp) _) hb1)
 clear hb1
 go_wp2_with fail
 refine (PP'.out _).mono ?_
 rintro e w2 ⟨rfl,hb2⟩
 have HB2:=hid (bstep HB1.out hb2)
 clear hb2
 go_wp2
 go_ret
 exact ⟨rfl,HB2.out⟩
theorem compare_yes (k n:Int) (s:ByteArray) (k' n':Int) (s':ByteArray) (w:World) (hs:s.size≤9223372036854775807) (hs':s'.size≤9223372036854775807) (h1:plainB k n s=true) (h2:plainB k' n' s'=true) :
  Calls Tryz.prog 115 #[val k n s,val k' n' s'] w fun e w'=>e=.returned (.int .i64 (ord k n s k' n' s'))∧Below w.heap.size w w':=by
 have P:=fun w=>plain_any k n s w hs
 have P':=fun w=>plain_any k' n' s' w hs'
 rw [h1] at P
 rw [h2] at P'
 have PP:=hid P
 have PP':=hid P'
 clear P P' h1 h2
 go_enter Tryz.func115,Tryz.ntmps115
 go_wp2_with fail
 refine (PP.out _).mono ?_
 rintro e w1 ⟨rfl,hb1⟩
 have H1:=((Holds3.new w k n s 23).alloc (.cells #[.int .i64 k',.int .i64 n',.string s'] 23)).below hb1 (by simp; omega)
 have H2:=(((Holds3.new (w.alloc (.cells #[.int .i64 k,.int .i64 n,.string s] 23)) k' n' s' 23)).below hb1 (by simp))
 simp only [alloc_size] at H2
 have HB1:=hid (bstep (((Below.refl _ _).alloc (Nat.le_refl _) _).alloc (by simp) _) hb1)
 clear hb1
 have HH1:=hid H1
 have HH2:=hid H2
 clear H1
 obtain ⟨c3,c4,c5⟩:=H2
 go_wp2_with fail
 clear c3 c4 c5
 refine (PP'.out _).mono ?_
 rintro e w2 ⟨rfl,hb2⟩
 have H1:=HH1.out.below hb2 HH1.out.lt
 have H2:=HH2.out.below hb2 HH2.out.lt
 have HB2:=hid (bstep HB1.out hb2)
 clear hb2 HB1 HH1 HH2
 obtain ⟨a3,a4,a5⟩:=H1
 obtain ⟨c3,c4,c5⟩:=H2
 go_wp2
 go_region_held3 (fun w'=>w'.cell? ⟨w.heap.size,0,none⟩=some (.int .i64 k)∧w'.cell? ⟨w.heap.size,1,none⟩=some (.int .i64 n)∧w'.cell? ⟨w.heap.size,2,none⟩=some (.string s)∧w'.cell? ⟨w.heap.size + 1,0,none⟩=some (.int .i64 k')∧w'.cell? ⟨w.heap.size + 1,1,none⟩=some (.int .i64 n')∧w'.cell? ⟨w.heap.size + 1,2,none⟩=some (.string s')) (go_keep)
  (first
   | (go_at_call 137; (with_reducible refine (cmpInt_any _ _ _).mono ?_); rintro e w' ⟨rfl,rfl⟩)
   | (go_at_call 138; (with_reducible refine (cmpInt64_any _ _ _).mono ?_); rintro e w' ⟨rfl,rfl⟩)
   | (go_at_call 139; (with_reducible refine (cmpStr_any _ _ _).mono ?_); rintro e w' ⟨rfl,rfl⟩)
   | (go_at_call 136; (with_reducible refine (or_new _ _ _ _ _).mono ?_); rintro e w' ⟨rfl,rfl⟩))
 go_wp2
 go_ret
 exact ⟨rfl,(HB2.out.alloc HB2.out.size _).drew⟩
def cmpV (k n:Int) (s:ByteArray) (k' n':Int) (s':ByteArray):Int:=if plainB k n s && plainB k' n' s' then ord k n s k' n' s' else 0
theorem compare_any (k n:Int) (s:ByteArray) (k' n':Int) (s':ByteArray) (w:World) (hs:s.size≤9223372036854775807) (hs':s'.size≤9223372036854775807) :
  Calls Tryz.prog 115 #[val k n s,val k' n' s'] w fun e w'=>e=.returned (.int .i64 (cmpV k n s k' n' s'))∧Below w.heap.size w w':=by
 cases h1:plainB k n s
 ·rw [show cmpV k n s k' n' s'=0 by simp [cmpV,h1]]
  exact compare_no1 k n s k' n' s' w hs hs' h1
 ·cases h2:plainB k' n' s'
  ·rw [show cmpV k n s k' n' s'=0 by simp [cmpV,h2]]
   exact compare_no2 k n s k' n' s' w hs hs' h1 h2
  ·rw [show cmpV k n s k' n' s'=ord k n s k' n' s' by simp [cmpV,h1,h2]]
   exact compare_yes k n s k' n' s' w hs hs' h1 h2
end Go.Proofs.YteghhmomhlnccaaGreatDoor
namespace Go.Proofs.YteghhmomhlnccaaGreatDoor
theorem bl_drop:∀ (j:Nat) (a b:List UInt8),a.take j=b.take j→Op.bytesLess a b=Op.bytesLess (a.drop j) (b.drop j)
 | 0,_,_,_=>rfl
 | j + 1,[],[],_=>rfl
 | j + 1,[],_ :: _,h=>by simp at h
 | j + 1,_ :: _,[],h=>by simp at h
 | j + 1,x :: a,y :: b,h=>by
  simp only [List.take_succ_cons,List.cons.injEq] at h
  obtain ⟨rfl,h⟩:=h
  rw [List.drop_succ_cons,List.drop_succ_cons,← bl_drop j a b h]
  simp [Op.bytesLess]
theorem bl_at (a b:List UInt8) (j:Nat) (h:a.take j=b.take j) (ha:j < a.length) (hb:j < b.length) (hne:a[j] ≠ b[j]):Op.bytesLess a b=decide ((a[j].toNat:Int) < b[j].toNat):=by
 rw [bl_drop j a b h,List.drop_eq_getElem_cons ha,List.drop_eq_getElem_cons hb]
 simp [Op.bytesLess,hne,UInt8.lt_iff_toNat_lt]
theorem bl_end (a b:List UInt8) (j:Nat) (h:a.take j=b.take j) (ha:j≤a.length) (hb:j≤b.length) (he:a.length≤j∨b.length≤j):Op.bytesLess a b=decide ((a.length:Int) < b.length):=by
 rw [bl_drop j a b h]
 rcases he with he | he
 ·rw [List.drop_of_length_le he]
  by_cases hl:j < b.length
  ·rw [List.drop_eq_getElem_cons hl]
   simp [Op.bytesLess]; omega
  ·rw [List.drop_of_length_le (by omega)]
   simp [Op.bytesLess]; omega
 ·rw [List.drop_of_length_le he]
  have:¬ ((a.length:Int) < b.length):=by omega
  cases a.drop j <;> simp [Op.bytesLess] <;> omega
theorem take_next (a b:List UInt8) (j:Nat) (h:a.take j=b.take j) (ha:j < a.length) (hb:j < b.length) (he:a[j]=b[j]):a.take (j + 1)=b.take (j + 1):=by
 rw [List.take_succ_eq_append_getElem ha,List.take_succ_eq_append_getElem hb,h,he]
theorem getE (s:ByteArray) (j:Nat) (h:j < s.size):s[j]=s.toList[j]'(by rw [size_list]; exact h):=by
 simp [ByteArray.toList_eq]; rfl
theorem bdrewN {B:Nat} {a b:World} (h:Below B a b) (q:Nat):Below B a (b.drewN q):=⟨h.os,h.tape,h.output,h.size,h.block⟩
def befB (k n:Int) (s:ByteArray) (k' n':Int) (s':ByteArray):Bool:=if k=k' then if k=2 then Op.bytesLess s.toList s'.toList else decide (n < n') else decide (k < k')
theorem before_kind (k n:Int) (s:ByteArray) (k' n':Int) (s':ByteArray) (w:World) (h:k ≠ k') :
  Calls Tryz.prog 69 #[val k n s,val k' n' s'] w fun e w'=>e=.returned (.bool (befB k n s k' n' s'))∧Below w.heap.size w w':=by
 rw [show befB k n s k' n' s'=decide (k < k') from if_neg h]
 have hb:(k == k')=false:=by simpa using h
 go_enter Tryz.func69,Tryz.ntmps69
 go_wp2
 go_ret
 exact ⟨rfl,((Below.refl _ _).alloc (Nat.le_refl _) _).alloc (by simp) _⟩
theorem before_num (k n:Int) (s:ByteArray) (n':Int) (s':ByteArray) (w:World) (h:k ≠ 2) :
  Calls Tryz.prog 69 #[val k n s,val k n' s'] w fun e w'=>e=.returned (.bool (befB k n s k n' s'))∧Below w.heap.size w w':=by
 rw [show befB k n s k n' s'=decide (n < n') by simp [befB,h]]
 have hb:(k == 2)=false:=by simpa using h
 go_enter Tryz.func69,Tryz.ntmps69
 go_wp2
 go_ret
 exact ⟨rfl,((Below.refl _ _).alloc (Nat.le_refl _) _).alloc (by simp) _⟩
theorem before_text (n:Int) (s:ByteArray) (n':Int) (s':ByteArray) (w:World) (hs:s.size≤1000000) (hs':s'.size≤1000000) :
  Calls Tryz.prog 69 #[val 2 n s,val 2 n' s'] w fun e w'=>e=.returned (.bool (befB 2 n s 2 n' s'))∧Below w.heap.size w w':=by
 rw [show befB 2 n s 2 n' s'=Op.bytesLess s.toList s'.toList by simp [befB]]
 go_enter Tryz.func69,Tryz.ntmps69
 go_wp2
 go_loopw [5] (fun i wr=>∃ (j:Nat),i=.int .i64 j∧j≤s.size∧j≤s'.size∧Hid (s.toList.take j=s'.toList.take j)∧∃ q,wr=(((w.alloc (.cells #[.int .i64 2,.int .i64 n,.string s] 23)).alloc (.cells #[.int .i64 2,.int .i64 n',.string s'] 23))).drewN q) (fun i _=>s.size - (intOf i).toNat)
 case atStart=>exact ⟨0,rfl,Nat.zero_le _,Nat.zero_le _,hid rfl,0,rfl⟩
 case round=>
  obtain ⟨j,rfl,h1,h2,HT,q,rfl⟩:=hrel
  by_cases hj:j < s.size
  ·by_cases hj':j < s'.size
   ·by_cases he:s[j]=s'[j]
    ·have HN:=hid (take_next s.toList s'.toList j HT.out (by rw [size_list]; exact hj) (by rw [size_list]; exact hj') (by rw [← getE s j hj,← getE s' j hj',he]))
     have hb:((s[j].toNat:Int) == (s'[j].toNat:Int))=true:=by rw [he]; simp
     have HE:=hid he
     clear he
     go_wp2
     go_quiet (fail)
     go_wp2
     go_roundw
     case rel=>exact ⟨j + 1,by go_num,by omega,by omega,HN,q + nq,rfl⟩
     case measure=>simp [intOf]; omega
    ·have hb:((s[j].toNat:Int) == (s'[j].toNat:Int))=false:=by
      rw [beq_eq_false_iff_ne]; intro h; exact he (UInt8.toNat_inj.1 (by omega))
     have HE:=hid (bl_at s.toList s'.toList j HT.out (by rw [size_list]; exact hj) (by rw [size_list]; exact hj') (by rw [← getE s j hj,← getE s' j hj']; exact he))
     rw [← getE s j hj,← getE s' j hj'] at HE
     clear he
     go_wp2
     go_quiet (fail)
     go_wp2
     go_quiet (fail)
     go_wp2
     go_ret
     exact ⟨retB (by rw [HE.out]; simp),bdrewN (bdrewN (bdrewN (((Below.refl _ _).alloc (Nat.le_refl _) _).alloc (by simp) _) _) _) _⟩
   ·have HE:=hid (bl_end s.toList s'.toList j HT.out (by rw [size_list]; exact h1) (by rw [size_list]; exact h2) (by rw [size_list,size_list]; omega))
    go_wp2
    go_ret
    exact ⟨retB (by rw [HE.out,size_list,size_list]; simp),bdrewN (((Below.refl _ _).alloc (Nat.le_refl _) _).alloc (by simp) _) _⟩
  ·have HE:=hid (bl_end s.toList s'.toList j HT.out (by rw [size_list]; exact h1) (by rw [size_list]; exact h2) (by rw [size_list,size_list]; omega))
   go_wp2
   go_ret
   exact ⟨retB (by rw [HE.out,size_list,size_list]; simp),bdrewN (((Below.refl _ _).alloc (Nat.le_refl _) _).alloc (by simp) _) _⟩
theorem before_any (k n:Int) (s:ByteArray) (k' n':Int) (s':ByteArray) (w:World) (hs:s.size≤1000000) (hs':s'.size≤1000000) :
  Calls Tryz.prog 69 #[val k n s,val k' n' s'] w fun e w'=>e=.returned (.bool (befB k n s k' n' s'))∧Below w.heap.size w w':=by
 by_cases h:k=k'
 ·subst h
  by_cases h2:k=2
  ·subst h2; exact before_text n s n' s' w hs hs'
  ·exact before_num k n s n' s' w h2
 ·exact before_kind k n s k' n' s' w h
end Go.Proofs.YteghhmomhlnccaaGreatDoor
namespace Go.Proofs.YteghhmomhlnccaaGreatDoor
theorem cmpS_zero {a b:List UInt8} : cmpS a b=0 ↔ a=b:=by
 unfold cmpS
 by_cases h:Op.bytesLess a b=true
 ·rw [if_pos h]
  constructor
  ·intro k; omega
  ·rintro rfl; rw [bl_irr] at h; cases h
 ·rw [if_neg h]
  by_cases e:a=b
  ·simp [e]
  ·have:(a == b)=false:=by simpa using e
   simp [this,e]
theorem cmpS_neg (a b:List UInt8):cmpS b a=- cmpS a b:=by
 unfold cmpS
 by_cases h:Op.bytesLess a b=true
 ·have h2:=bl_asymm a b h
  have hne:b ≠ a:=by rintro rfl; rw [bl_irr] at h; cases h
  have:(b == a)=false:=by simpa using hne
  simp [h,h2,this]
 ·have h':Op.bytesLess a b=false:=by simpa using h
  by_cases e:a=b
  ·subst e; simp [bl_irr]
  ·have h3:Op.bytesLess b a=true:=by
    cases k:Op.bytesLess b a
    ·exact absurd (bl_total a b h' k) e
    ·rfl
   have:(a == b)=false:=by simpa using e
   simp [h',h3,this]
theorem cmpI_neg (a b:Int):cmpI b a=- cmpI a b:=by unfold cmpI; split <;> split <;> omega
theorem cmpI_zero {a b:Int} : cmpI a b=0 ↔ a=b:=by unfold cmpI; split <;> (try split) <;> omega
theorem ord_neg (k n:Int) (s:ByteArray) (k' n':Int) (s':ByteArray):ord k' n' s' k n s=- ord k n s k' n' s':=by
 unfold ord
 rw [cmpI_neg k k',cmpI_neg n n',cmpS_neg s.toList s'.toList]
 generalize cmpI k k'=x
 generalize cmpI n n'=y
 generalize cmpS s.toList s'.toList=z
 unfold or3
 split <;> split <;> (try split) <;> (try split) <;> omega
theorem same_empty {s s':ByteArray} (h:s.size=0) (h':s'.size=0):s.toList=s'.toList:=by
 rw [← size_list,List.length_eq_zero_iff] at h h'
 rw [h,h']
theorem ord_bef {k n:Int} {s:ByteArray} {k' n':Int} {s':ByteArray} (h:plainB k n s=true) (h':plainB k' n' s'=true):befB k n s k' n' s'=true ↔ ord k n s k' n' s' < 0:=by
 rw [plainB_iff] at h h'
 unfold befB ord or3
 by_cases hk:k=k'
 ·subst hk
  rw [if_pos rfl,if_pos (cmpI_zero.2 rfl)]
  by_cases h2:k=2
  ·subst h2
   have hn:n=n':=by omega
   subst hn
   rw [if_pos rfl,if_pos (cmpI_zero.2 rfl)]
   unfold cmpS
   split
   ·simp [*]
   ·split <;> simp [*]
  ·have hs:s.toList=s'.toList:=same_empty (by omega) (by omega)
   rw [if_neg h2,hs,cmpS_zero.2 rfl]
   unfold cmpI
   by_cases h3:n < n'
   ·simp [h3]
   ·by_cases h4:n' < n
    ·simp [h3,h4]
    ·simp [h3,h4]
 ·rw [if_neg hk,if_neg (fun e=>hk (cmpI_zero.1 e))]
  unfold cmpI
  by_cases h3:k < k'
  ·simp [h3]
  ·have h4:k' < k:=by omega
   simp [h3,h4]
end Go.Proofs.YteghhmomhlnccaaGreatDoor
namespace Go.Proofs.YteghhmomhlnccaaGreatDoor
attribute [local go_sem ↓] eqVal neqVal
open Ev (V R Pl)
theorem pl_plain {v:V} (h:Pl v):plainB v.k v.n (tx v.s)=true:=by
 have hs:(tx v.s).size=v.s.length:=by simp [ByteArray.size,tx]
 rw [plainB_iff]
 rcases h with ⟨h1,h2,h3⟩ | ⟨h1,-,h3⟩ | ⟨h1,h2,h3⟩ | ⟨h1,h2,h3⟩
 ·exact .inl ⟨h1,h2,by rw [hs,h3]; rfl⟩
 ·exact .inr (.inl ⟨h1,by rw [hs,h3]; rfl⟩)
 ·exact .inr (.inr (.inl ⟨h1,h2,by rw [hs]; exact h3⟩))
 ·exact .inr (.inr (.inr ⟨h1,by rw [hs,h3]; rfl,by omega,by omega⟩))
theorem Ev.less_bef (a b:V):Ev.less a b=befB a.k a.n (tx a.s) b.k b.n (tx b.s):=by
 unfold Ev.less befB
 rw [ByteArray.toList_eq,ByteArray.toList_eq]
theorem Ev.cmp_stands (t:List UInt8) {a b:V} (ha:Pl a) (hb:Pl b):Ev.standB t (cmpV a.k a.n (tx a.s) b.k b.n (tx b.s))=Ev.cmpB t a b:=by
 have h1:Ev.less a b=true ↔ ord a.k a.n (tx a.s) b.k b.n (tx b.s) < 0:=by rw [Ev.less_bef]; exact ord_bef (pl_plain ha) (pl_plain hb)
 have h2:Ev.less b a=true ↔ 0 < ord a.k a.n (tx a.s) b.k b.n (tx b.s):=by
  rw [Ev.less_bef,ord_bef (pl_plain hb) (pl_plain ha),ord_neg]; omega
 rw [cmpV,pl_plain ha,pl_plain hb]
 simp only [Bool.and_self,if_true]
 generalize ord a.k a.n (tx a.s) b.k b.n (tx b.s)=o at *
 unfold Ev.standB Ev.cmpB
 simp only [beq_iff_eq]
 generalize Ev.less a b=x at *
 generalize Ev.less b a=y at *
 have e1:x=decide (o < 0):=by rw [Bool.eq_iff_iff,h1]; simp
 have e2:y=decide (0 < o):=by rw [Bool.eq_iff_iff,h2]; simp
 subst e1 e2
 split
 ·rw [Bool.eq_iff_iff]; simp; omega
 split
 ·rw [Bool.eq_iff_iff]; simp; omega
 split
 ·rfl
 split
 ·rw [Bool.eq_iff_iff]; simp
 split
 ·rfl
 ·rw [Bool.eq_iff_iff]; simp
theorem Ev.lev3 {t:List UInt8} : Ex.lev t=3 ↔ (t=[61]∨t=[33,61]∨t=[60]∨t=[60,61]∨t=[62]∨t=[62,61]):=by
 constructor
 ·intro h
  by_cases e0:t=[61]
  ·exact .inl e0
  by_cases e1:t=[33,61]
  ·exact .inr (.inl e1)
  by_cases e2:t=[60]
  ·exact .inr (.inr (.inl e2))
  by_cases e3:t=[60,61]
  ·exact .inr (.inr (.inr (.inl e3)))
  by_cases e4:t=[62]
  ·exact .inr (.inr (.inr (.inr (.inl e4))))
  by_cases e5:t=[62,61]
  ·exact .inr (.inr (.inr (.inr (.inr e5))))
  exfalso
  unfold Ex.lev at h
  simp only [Bool.cond_eq_ite,beq_iff_eq,if_neg e0,if_neg e1,if_neg e2,if_neg e3,if_neg e4,if_neg e5] at h
  repeat' split at h
  all_goals omega
 ·rintro (rfl | rfl | rfl | rfl | rfl | rfl) <;> rfl
theorem vals_two {w:World} {A:Option Addr} {a b:V} (h:ValsAt w A [a,b]):∃ B O,A=some ⟨B,O,none⟩∧B < w.heap.size ∧
  (w.cell? ⟨B,O,none⟩=some (.int .i64 a.k)∧w.cell? ⟨B,O + 1,none⟩=some (.int .i64 a.n)∧w.cell? ⟨B,O + 2,none⟩=some (.string (tx a.s))) ∧
  (w.cell? ⟨B,O + 3,none⟩=some (.int .i64 b.k)∧w.cell? ⟨B,O + 3 + 1,none⟩=some (.int .i64 b.n)∧w.cell? ⟨B,O + 3 + 2,none⟩=some (.string (tx b.s))):=by
 obtain ⟨B,O,rfl,h1,h2,h3,h4⟩:=h 0 (by simp)
 obtain ⟨B',O',e,-,k2,k3,k4⟩:=h 1 (by simp)
 cases e
 exact ⟨_,_,rfl,h1,⟨by simpa using h2,by simpa using h3,by simpa using h4⟩,by simpa using k2,by simpa using k3,by simpa using k4⟩
theorem vals_one {w:World} {A:Option Addr} {a:V} (h:ValsAt w A [a]):∃ B O,A=some ⟨B,O,none⟩∧B < w.heap.size ∧
  (w.cell? ⟨B,O,none⟩=some (.int .i64 a.k)∧w.cell? ⟨B,O + 1,none⟩=some (.int .i64 a.n)∧w.cell? ⟨B,O + 2,none⟩=some (.string (tx a.s))):=by
 obtain ⟨B,O,rfl,h1,h2,h3,h4⟩:=h 0 (by simp)
 exact ⟨_,_,rfl,h1,by simpa using h2,by simpa using h3,by simpa using h4⟩
theorem call_over {f:FuncId} {args:Array Value} {W0 W:World} {Q:Ending→Prop} (hW:Below W0.heap.size W0 W) (h:Calls Tryz.prog f args W fun e w'=>Q e∧Below W.heap.size W w'):Calls Tryz.prog f args W fun e w'=>Q e∧Below W0.heap.size W0 w':=h.mono fun e w' h=>⟨h.1,bstep hW h.2⟩
end Go.Proofs.YteghhmomhlnccaaGreatDoor
namespace Go.Proofs.YteghhmomhlnccaaGreatDoor
attribute [local go_sem ↓] eqVal neqVal
open Ex (Tree)
open Ev (V R Pl)
theorem zsame {v:V} (h:Pl v):same 0 0 ⟨#[]⟩ v.k v.n (tx v.s)=decide (v.k=0):=by
 rw [← same_z h,Bool.eq_iff_iff,same_iff,same_iff]
 constructor
 ·rintro ⟨h1,h2,h3⟩; exact ⟨h1.symm,h2.symm,h3.symm⟩
 ·rintro ⟨h1,h2,h3⟩; exact ⟨h1.symm,h2.symm,h3.symm⟩
theorem index_any (L:List V) (A:Option Addr) (c:Nat) (w:World) (hA:ValsAt w A L) (hP:∀ v ∈ L,Pl v) (hn:L.length≤1000000) :
  Calls Tryz.prog 113 #[.slice A L.length c,.agg #[.int .i64 0,.int .i64 0,.string ⟨#[]⟩]] w fun e w'=>(∃ i:Int,e=.returned (.int .i64 i)∧decide (0≤i)=L.any (fun v=>decide (v.k=0)))∧Below w.heap.size w w':=by
 have b0:Below w.heap.size w (w.alloc (.cells #[.int .i64 0,.int .i64 0,.string ⟨#[]⟩] 23)):=(Below.refl _ _).alloc (Nat.le_refl _) _
 have HZ:=hid (Row3.new w 0 0 ⟨#[]⟩)
 have HA:=hid (hA.below b0)
 have HP:=hid hP
 have B0:=hid b0
 obtain ⟨m,hm⟩:∃ m,L.length=m:=⟨_,rfl⟩
 have HM:=hid hm
 rw [hm]
 have hm9:(m:Int)≤1000000:=by omega
 clear hA hP hn hm b0
 go_enter Tryz.func113,Tryz.ntmps113
 go_wp2_with fail
 obtain ⟨W0,hW0⟩:∃ W0,w.alloc (.cells #[.int .i64 0,.int .i64 0,.string ⟨#[]⟩] 23)=W0:=⟨_,rfl⟩
 rw [hW0] at HZ B0 HA ⊢
 go_loopg [5,8] (m + 1) (fun j s5 s8 wr=>∃ i:Nat,i≤m∧m < i + j∧s8=.int .i64 (i:Nat)∧Hid (∀ k (h1:k < L.length),k < i→¬ L[k].k=0)∧Hid (Below W0.heap.size W0 wr))
 case atStart=>exact ⟨0,by omega,by omega,rfl,hid (fun k _ h=>absurd h (Nat.not_lt_zero _)),hid (Below.refl _ _)⟩
 case round=>
  obtain ⟨i,hi,hj,rfl,HE,HB⟩:=hrel
  obtain ⟨z0,z1,z2⟩:=(HZ.out.below HB.out HZ.out.lt).holds
  have BF:=hid (bstep B0.out HB.out)
  by_cases hlt:i < m
  ·have hlt':(i:Int) < (m:Int):=by omega
   have hik:i < L.length:=by rw [HM.out]; exact hlt
   obtain ⟨b,o,rfl,hx,c0,c1,c2⟩:=(HA.out.below HB.out) i hik
   have hs:=zsame (HP.out _ (List.getElem_mem hik))
   obtain ⟨x,hx'⟩:∃ x,L[i]=x:=⟨_,rfl⟩
   have HX:=hid hx'
   rw [hx'] at c0 c1 c2 hs
   clear hx'
   cases hq:decide (x.k=0)
   ·rw [hq] at hs
    have HE2:Hid (∀ k (h1:k < L.length),k < i + 1→¬ L[k].k=0):=hid (fun k h1 h3=>by
     by_cases hki:k=i
     ·subst hki; rw [HX.out]; exact of_decide_eq_false hq
     ·exact HE.out k h1 (by omega))
    clear HE hq
    go_wp2_with fail
    go_quiet (fail)
    go_wp2_with fail
    go_roundg (m - i)
    case measure=>omega
    case rel=>exact ⟨i + 1,by omega,by omega,by go_num,HE2,hid (below_drewN HB.out _)⟩
   ·rw [hq] at hs
    have HR:Hid (decide ((0:Int)≤(i:Nat))=L.any (fun v=>decide (v.k=0))):=hid (by
     rw [Bool.eq_iff_iff,List.any_eq_true]
     constructor
     ·intro _; exact ⟨_,List.getElem_mem hik,by rw [HX.out]; exact hq⟩
     ·intro _; simp)
    clear HE hq
    go_wp2_with fail
    go_quiet (fail)
    go_wp2_with fail
    go_ret
    exact ⟨⟨_,rfl,HR.out⟩,by first | exact BF.out | exact below_drewN BF.out _⟩
  ·have hlt':¬ (i:Int) < (m:Int):=by omega
   have HR:Hid (decide ((0:Int)≤-1)=L.any (fun v=>decide (v.k=0))):=hid (by
    rw [show decide ((0:Int)≤-1)=false by decide,eq_comm,Bool.eq_false_iff]
    intro h
    obtain ⟨v,hv,hz⟩:=List.any_eq_true.1 h
    obtain ⟨k,hk,rfl⟩:=List.getElem_of_mem hv
    exact HE.out k hk (by have:=HM.out; omega) (of_decide_eq_true hz))
   go_wp2_with fail
   go_ret
   exact ⟨⟨_,rfl,HR.out⟩,by first | exact BF.out | exact below_drewN BF.out _⟩
theorem contains_any (L:List V) (A:Option Addr) (c:Nat) (w:World) (hA:ValsAt w A L) (hP:∀ v ∈ L,Pl v) (hn:L.length≤1000000) :
  Calls Tryz.prog 90 #[.slice A L.length c,.agg #[.int .i64 0,.int .i64 0,.string ⟨#[]⟩]] w fun e w'=>e=.returned (.bool (L.any (fun v=>decide (v.k=0))))∧Below w.heap.size w w':=by
 have b0:Below w.heap.size w (w.alloc (.cells #[.int .i64 0,.int .i64 0,.string ⟨#[]⟩] 23)):=(Below.refl _ _).alloc (Nat.le_refl _) _
 obtain ⟨z0,z1,z2⟩:=(Row3.new w 0 0 ⟨#[]⟩).holds
 have IX:=hid (index_any L A c _ (hA.below b0) hP hn)
 have B0:=hid b0
 clear hA hP hn b0
 generalize L.length=m at *
 go_enter Tryz.func90,Tryz.ntmps90
 go_wp2_with fail
 refine IX.out.mono ?_
 rintro e w1 ⟨⟨i,rfl,hi⟩,hb⟩
 have B1:=hid (bstep B0.out hb)
 have HI:=hid hi
 clear hb IX z0 z1 z2 hi
 go_wp2_with fail
 go_ret
 exact ⟨retB2 HI.out,B1.out⟩
def CT (C:List Col) (Ac:Option Addr) (cc:Nat) (W:List V) (Ar:Option Addr) (cr:Nat) (w0:World) (T:Tree):Prop:=
 ∀ v w,Below w0.heap.size w0 w→NodeV w v T→Calls Tryz.prog 27 #[ovV C Ac cc W Ar cr,v] w fun e w'=>e=.returned (outR (Ev.ev C W T))∧Below w.heap.size w w'
end Go.Proofs.YteghhmomhlnccaaGreatDoor
namespace Go.Proofs.YteghhmomhlnccaaGreatDoor
attribute [local go_sem ↓] eqVal neqVal
open Ev (V R Pl)
theorem are_two2 (a b:V) (p q:Int) (A:Option Addr) (c:Nat) (W U:World) (g:Nat) (hA:ValsAt W A [a,b]) (hU:Below W.heap.size W U) (hK:Whole U g 3 #[.int .i64 p,.int .i64 q]):Calls Tryz.prog 34 #[.slice A 2 c,.slice (some ⟨g,0,none⟩) 2 2] U fun e w'=>e=.returned (.bool (decide (a.k=p∨a.k=0) && decide (b.k=q∨b.k=0)))∧Below W.heap.size W w':=by
 refine (are_any [a,b] [p,q] _ _ c 2 _ (hA.below hU) (IntsAt.whole hK) (by simp)).mono ?_
 rintro e w' ⟨rfl,hb⟩
 exact ⟨by simp [Ev.areB],bstep hU hb⟩
theorem are_one2 (a:V) (p:Int) (A:Option Addr) (c:Nat) (W U:World) (g:Nat) (hA:ValsAt W A [a]) (hU:Below W.heap.size W U) (hK:Whole U g 3 #[.int .i64 p]):Calls Tryz.prog 34 #[.slice A 1 c,.slice (some ⟨g,0,none⟩) 1 1] U fun e w'=>e=.returned (.bool (decide (a.k=p∨a.k=0)))∧Below W.heap.size W w':=by
 refine (are_any [a] [p] _ _ c 1 _ (hA.below hU) (IntsAt.whole hK) (by simp)).mono ?_
 rintro e w' ⟨rfl,hb⟩
 exact ⟨by simp [Ev.areB],bstep hU hb⟩
theorem pl_size {v:V} (h:Pl v):(tx v.s).size≤200∧v.s.length≤200:=by
 have hs:(tx v.s).size=v.s.length:=by simp [ByteArray.size,tx]
 rw [hs]
 rcases h with ⟨-,-,h⟩ | ⟨-,-,h⟩ | ⟨-,-,h⟩ | ⟨-,-,h⟩
 ·rw [h]; exact ⟨Nat.zero_le _,Nat.zero_le _⟩
 ·rw [h]; exact ⟨Nat.zero_le _,Nat.zero_le _⟩
 ·exact ⟨h,h⟩
 ·rw [h]; exact ⟨Nat.zero_le _,Nat.zero_le _⟩
theorem bit_tru (b:Bool):(⟨3,bit b,[]⟩:V)=Ev.tru b:=by cases b <;> rfl
theorem tx_add2 (a b:List UInt8):tx a ++ tx b=tx (a ++ b):=by
 apply ByteArray.ext
 simp [tx]
theorem marked_and (t:List UInt8) (a b:V) (A:Option Addr) (c:Nat) (w:World) (hV:ValsAt w A [a,b]) (ha:Pl a) (hb:Pl b) (hna:a.k ≠ 0) (hnb:b.k ≠ 0) (hlev:¬ Ex.lev t=3) (t6:(t == [38])=true) :
  Calls Tryz.prog 91 #[.string (tx t),.slice A 2 c] w fun e w'=>e=.returned (outR (Ev.bin t a b))∧Below w.heap.size w w':=by
 have b0:=(Below.refl w.heap.size w).alloc (Nat.le_refl _) (.cells #[.int .i64 0,.int .i64 0,.string ⟨#[]⟩] 23)
 have r0:=Row3.new w 0 0 ⟨#[]⟩
 have hV1:=hV.below b0
 obtain ⟨B,O,rfl,hB,⟨x0,x1,x2⟩,y0,y1,y2⟩:=vals_two hV1
 have HBB:Hid (B < w.heap.size):=hid (by obtain ⟨b',o',e,h,-⟩:=hV 0 (by simp); cases e; exact h)
 clear hB
 have HL:=hid hlev
 have t0:(t == [61])=false:=by rw [beq_eq_false_iff_ne]; intro h; exact hlev (Ev.lev3.2 (.inl h))
 have t1:(t == [33,61])=false:=by rw [beq_eq_false_iff_ne]; intro h; exact hlev (Ev.lev3.2 (.inr (.inl h)))
 have t2:(t == [60])=false:=by rw [beq_eq_false_iff_ne]; intro h; exact hlev (Ev.lev3.2 (.inr (.inr (.inl h))))
 have t3:(t == [60,61])=false:=by rw [beq_eq_false_iff_ne]; intro h; exact hlev (Ev.lev3.2 (.inr (.inr (.inr (.inl h)))))
 have t4:(t == [62])=false:=by rw [beq_eq_false_iff_ne]; intro h; exact hlev (Ev.lev3.2 (.inr (.inr (.inr (.inr (.inl h))))))
 have t5:(t == [62,61])=false:=by rw [beq_eq_false_iff_ne]; intro h; exact hlev (Ev.lev3.2 (.inr (.inr (.inr (.inr (.inr h))))))
 have AT:=hid (fun U g hU hK=>are_two2 a b 2 2 (some ⟨B,O,none⟩) c _ U g hV1 hU hK)
 have HD:Hid ((decide (a.k=2∨a.k=0) && decide (b.k=2∨b.k=0))=decide (a.k=2∧b.k=2)):=hid (by rw [Bool.eq_iff_iff]; simp; omega)
 rw [HD.out] at AT
 have FIN:Hid (a.k=2∧b.k=2→Ev.bin t a b=Ev.joinR (a.s ++ b.s)):=hid (fun h=>by rw [Ev.bin,if_neg HL.out,if_pos (by simpa using t6),if_pos h,Ev.joinR,List.length_append])
 have BAD:Hid (¬ (a.k=2∧b.k=2)→Ev.bin t a b=Ev.err 10):=hid (fun h=>by rw [Ev.bin,if_neg HL.out]; rw [if_pos (by simpa using t6),if_neg h])
 have HLA:Hid (a.s.length≤200):=hid (pl_size ha).2
 have HLB:Hid (b.s.length≤200):=hid (pl_size hb).2
 have HSA:Hid ((tx a.s).size≤200):=hid (pl_size ha).1
 have HSB:Hid ((tx b.s).size≤200):=hid (pl_size hb).1
 have HTX:Hid (tx a.s ++ tx b.s=tx (a.s ++ b.s)):=hid (tx_add2 _ _)
 obtain ⟨ka,na,sa⟩:=a
 obtain ⟨kb,nb,sb⟩:=b
 dsimp only at *
 clear hV hna hnb ha hb HL HD hlev
 by_cases hk:ka=2∧kb=2
 ·have HR:=hid (FIN.out hk)
  have HDD:Hid (decide (ka=2∧kb=2)=true):=hid (by simpa using hk)
  rw [HDD.out] at AT
  clear FIN BAD
  obtain ⟨W1,hW1⟩:∃ W1,w.alloc (.cells #[.int .i64 0,.int .i64 0,.string ⟨#[]⟩] 23)=W1:=⟨_,rfl⟩
  rw [hW1] at b0 r0 hV1 x0 x1 x2 y0 y1 y2 AT
  have B0:=hid b0
  have R0:=hid r0
  have HV1:=hid hV1
  have HBW:Hid (B < W1.heap.size):=hid (by have:=HBB.out; have:=r0.lt; omega)
  clear b0 r0 hV1
  go_enter Tryz.func91,Tryz.ntmps91
  go_wp2_with fail
  refine (AT.out _ _ (by exact (Below.refl _ _).alloc (Nat.le_refl _) _) (by exact Whole.new W1 _ _)).mono ?_
  rintro e W2 ⟨rfl,hb2⟩
  have R2:=hid (R0.out.below hb2 R0.out.lt)
  have B2:=hid (B0.out.trans (hb2.mono B0.out.size))
  have x0':=(hb2.cell (p:=⟨B,O,none⟩) HBW.out).trans x0
  have x1':=(hb2.cell (p:=⟨B,O + 1,none⟩) HBW.out).trans x1
  have x2':=(hb2.cell (p:=⟨B,O + 2,none⟩) HBW.out).trans x2
  have y0':=(hb2.cell (p:=⟨B,O + 3,none⟩) HBW.out).trans y0
  have y1':=(hb2.cell (p:=⟨B,O + 3 + 1,none⟩) HBW.out).trans y1
  have y2':=(hb2.cell (p:=⟨B,O + 3 + 2,none⟩) HBW.out).trans y2
  clear x0 x1 x2 y0 y1 y2
  have JO:=hid (fun W (hW:Below W2.heap.size W2 W)=>call_over hW (joined_any (sa ++ sb) W (by rw [List.length_append]; have:=HLA.out; have:=HLB.out; omega)))
  rw [← HTX.out] at JO
  obtain ⟨⟨⟨rk,rn,rs⟩,re_⟩,hr⟩:∃ r,Ev.joinR (sa ++ sb)=r:=⟨_,rfl⟩
  rw [hr] at JO HR
  unfold outR vv vcells at JO
  dsimp only at JO
  have hsa:¬ (9223372036854775807 < (tx sa).size + (tx sb).size):=by have:=HSA.out; have:=HSB.out; omega
  have hsb:¬ (9223372036854775807 < sa.length + sb.length):=by have:=HLA.out; have:=HLB.out; omega
  clear hb2 AT hr
  go_upto_region 14 with fail
  go_region_with (go_at_call 116; refine (JO.out _ (by first | exact below_drewN (Below.refl _ _) _ | exact (Below.refl _ _).drew | exact Below.refl _ _)).mono ?_; rintro e W5 ⟨rfl,hb5⟩; have R5:=hid (R2.out.below hb5 R2.out.lt); obtain ⟨d1,d2,d3⟩:=R5.out.holds; have f0:=R5.out.frozen 0; have f1:=R5.out.frozen 1; have f2:=R5.out.frozen 2; have B5:=hid (B2.out.trans (hb5.mono B2.out.size)))
  all_goals
   go_wp2_with fail
   exact fin_R Tryz.results91 rfl rfl rfl R5.out B5.out (Nat.le_refl _) (by rw [HR.out])
 ·have HR:=hid (BAD.out hk)
  have HDD:Hid (decide (ka=2∧kb=2)=false):=hid (by simpa using hk)
  rw [HDD.out] at AT
  clear FIN BAD hk
  obtain ⟨W1,hW1⟩:∃ W1,w.alloc (.cells #[.int .i64 0,.int .i64 0,.string ⟨#[]⟩] 23)=W1:=⟨_,rfl⟩
  rw [hW1] at b0 r0 hV1 x0 x1 x2 y0 y1 y2 AT
  have B0:=hid b0
  have R0:=hid r0
  have HV1:=hid hV1
  have HBW:Hid (B < W1.heap.size):=hid (by have:=HBB.out; have:=r0.lt; omega)
  clear b0 r0 hV1
  go_enter Tryz.func91,Tryz.ntmps91
  go_wp2_with fail
  refine (AT.out _ _ (by exact (Below.refl _ _).alloc (Nat.le_refl _) _) (by exact Whole.new W1 _ _)).mono ?_
  rintro e W2 ⟨rfl,hb2⟩
  have R2:=hid (R0.out.below hb2 R0.out.lt)
  have B2:=hid (B0.out.trans (hb2.mono B0.out.size))
  clear x0 x1 x2 y0 y1 y2 AT
  go_wp2_with fail
  refine (efail_any _ _).mono ?_
  rintro e w3 ⟨rfl,hb3⟩
  have R3:=hid (R2.out.below hb3 R2.out.lt)
  have B3:=hid (bstep B2.out hb3)
  clear hb3
  obtain ⟨d1,d2,d3⟩:=R3.out.holds
  have f0:=R3.out.frozen 0
  have f1:=R3.out.frozen 1
  have f2:=R3.out.frozen 2
  unfold outR vv vcells Ev.err Ev.z
  go_wp2_with fail
  exact fin_R Tryz.results91 rfl rfl rfl R3.out B3.out (Nat.le_refl _) (by rw [HR.out]; rfl)
theorem marked_num (t:List UInt8) (a b:V) (A:Option Addr) (c:Nat) (w:World) (hV:ValsAt w A [a,b]) (ha:Pl a) (hb:Pl b) (hna:a.k ≠ 0) (hnb:b.k ≠ 0) (hlev:¬ Ex.lev t=3) (t6:(t == [38])=false) :
  Calls Tryz.prog 91 #[.string (tx t),.slice A 2 c] w fun e w'=>e=.returned (outR (Ev.bin t a b))∧Below w.heap.size w w':=by
 have b0:=(Below.refl w.heap.size w).alloc (Nat.le_refl _) (.cells #[.int .i64 0,.int .i64 0,.string ⟨#[]⟩] 23)
 have r0:=Row3.new w 0 0 ⟨#[]⟩
 have hV1:=hV.below b0
 obtain ⟨B,O,rfl,hB,⟨x0,x1,x2⟩,y0,y1,y2⟩:=vals_two hV1
 have HBB:Hid (B < w.heap.size):=hid (by obtain ⟨b',o',e,h,-⟩:=hV 0 (by simp); cases e; exact h)
 clear hB
 have HL:=hid hlev
 have t0:(t == [61])=false:=by rw [beq_eq_false_iff_ne]; intro h; exact hlev (Ev.lev3.2 (.inl h))
 have t1:(t == [33,61])=false:=by rw [beq_eq_false_iff_ne]; intro h; exact hlev (Ev.lev3.2 (.inr (.inl h)))
 have t2:(t == [60])=false:=by rw [beq_eq_false_iff_ne]; intro h; exact hlev (Ev.lev3.2 (.inr (.inr (.inl h))))
 have t3:(t == [60,61])=false:=by rw [beq_eq_false_iff_ne]; intro h; exact hlev (Ev.lev3.2 (.inr (.inr (.inr (.inl h)))))
 have t4:(t == [62])=false:=by rw [beq_eq_false_iff_ne]; intro h; exact hlev (Ev.lev3.2 (.inr (.inr (.inr (.inr (.inl h))))))
 have t5:(t == [62,61])=false:=by rw [beq_eq_false_iff_ne]; intro h; exact hlev (Ev.lev3.2 (.inr (.inr (.inr (.inr (.inr h))))))
 have AT:=hid (fun U g hU hK=>are_two2 a b 1 1 (some ⟨B,O,none⟩) c _ U g hV1 hU hK)
 have HD:Hid ((decide (a.k=1∨a.k=0) && decide (b.k=1∨b.k=0))=decide (a.k=1∧b.k=1)):=hid (by rw [Bool.eq_iff_iff]; simp; omega)
 rw [HD.out] at AT
 have FIN:Hid (a.k=1∧b.k=1→Ev.bin t a b=Ev.reckR t a.n b.n):=hid (fun h=>by
  rw [Ev.bin,if_neg HL.out,if_neg (by simpa using t6),if_pos h,Ev.reckR]; simp only [beq_iff_eq])
 have BAD:Hid (¬ (a.k=1∧b.k=1)→Ev.bin t a b=Ev.err 10):=hid (fun h=>by rw [Ev.bin,if_neg HL.out]; rw [if_neg (by simpa using t6),if_neg h])
 have HFA:Hid (a.k=1→Fits a.n):=hid (fun h=>(ha.number h).1)
 have HFB:Hid (b.k=1→Fits b.n):=hid (fun h=>(hb.number h).1)
 obtain ⟨ka,na,sa⟩:=a
 obtain ⟨kb,nb,sb⟩:=b
 dsimp only at *
 clear hV hna hnb ha hb HL HD hlev
 by_cases hk:ka=1∧kb=1
 ·have HR:=hid (FIN.out hk)
  have HDD:Hid (decide (ka=1∧kb=1)=true):=hid (by simpa using hk)
  rw [HDD.out] at AT
  clear FIN BAD
  obtain ⟨W1,hW1⟩:∃ W1,w.alloc (.cells #[.int .i64 0,.int .i64 0,.string ⟨#[]⟩] 23)=W1:=⟨_,rfl⟩
  rw [hW1] at b0 r0 hV1 x0 x1 x2 y0 y1 y2 AT
  have B0:=hid b0
  have R0:=hid r0
  have HV1:=hid hV1
  have HBW:Hid (B < W1.heap.size):=hid (by have:=HBB.out; have:=r0.lt; omega)
  clear b0 r0 hV1
  go_enter Tryz.func91,Tryz.ntmps91
  go_wp2_with fail
  refine (AT.out _ _ (by exact (Below.refl _ _).alloc (Nat.le_refl _) _) (by exact Whole.new W1 _ _)).mono ?_
  rintro e W2 ⟨rfl,hb2⟩
  have R2:=hid (R0.out.below hb2 R0.out.lt)
  have B2:=hid (B0.out.trans (hb2.mono B0.out.size))
  have x0':=(hb2.cell (p:=⟨B,O,none⟩) HBW.out).trans x0
  have x1':=(hb2.cell (p:=⟨B,O + 1,none⟩) HBW.out).trans x1
  have x2':=(hb2.cell (p:=⟨B,O + 2,none⟩) HBW.out).trans x2
  have y0':=(hb2.cell (p:=⟨B,O + 3,none⟩) HBW.out).trans y0
  have y1':=(hb2.cell (p:=⟨B,O + 3 + 1,none⟩) HBW.out).trans y1
  have y2':=(hb2.cell (p:=⟨B,O + 3 + 2,none⟩) HBW.out).trans y2
  clear x0 x1 x2 y0 y1 y2
  obtain ⟨rfl,rfl⟩:=hk
  have RK:=hid (fun W (hW:Below W2.heap.size W2 W)=>(reckoned_any t na nb W (HFA.out rfl) (HFB.out rfl)).mono (fun e w' h=>(⟨h.1,h.2⟩:(∃ n c,e=.returned (.tuple #[.int .i64 n,.int .i64 c])∧Ev.wholeR n c=Ev.reckR t na nb)∧w'=W)))
  have WH:=hid (fun n c W (hW:Below W2.heap.size W2 W)=>call_over hW (whole_any n c W))
  unfold outR vv vcells at WH
  clear hb2 AT
  go_upto_region 3 with fail
  go_region_with (first
   | (go_at_call 118; refine (RK.out _ (by first | exact below_drewN (Below.refl _ _) _ | exact (Below.refl _ _).drew | exact Below.refl _ _)).mono ?_; rintro e W3 ⟨⟨rn,rc,rfl,hrr⟩,hw3⟩; subst hw3; have HRR:=hid hrr; clear hrr)
   | (go_at_call 117; refine (WH.out _ _ _ (by first | exact below_drewN (Below.refl _ _) _ | exact (Below.refl _ _).drew | exact Below.refl _ _)).mono ?_; rintro e W5 ⟨rfl,hb5⟩; have R5:=hid (R2.out.below hb5 R2.out.lt); obtain ⟨d1,d2,d3⟩:=R5.out.holds; have f0:=R5.out.frozen 0; have f1:=R5.out.frozen 1; have f2:=R5.out.frozen 2; have B5:=hid (B2.out.trans (hb5.mono B2.out.size))))
  all_goals
   go_wp2_with fail
   exact fin_R Tryz.results91 rfl rfl rfl R5.out B5.out (Nat.le_refl _) (by rw [HR.out,← HRR.out])
 ·have HR:=hid (BAD.out hk)
  have HDD:Hid (decide (ka=1∧kb=1)=false):=hid (by simpa using hk)
  rw [HDD.out] at AT
  clear FIN BAD hk
  obtain ⟨W1,hW1⟩:∃ W1,w.alloc (.cells #[.int .i64 0,.int .i64 0,.string ⟨#[]⟩] 23)=W1:=⟨_,rfl⟩
  rw [hW1] at b0 r0 hV1 x0 x1 x2 y0 y1 y2 AT
  have B0:=hid b0
  have R0:=hid r0
  have HV1:=hid hV1
  have HBW:Hid (B < W1.heap.size):=hid (by have:=HBB.out; have:=r0.lt; omega)
  clear b0 r0 hV1
  go_enter Tryz.func91,Tryz.ntmps91
  go_wp2_with fail
  refine (AT.out _ _ (by exact (Below.refl _ _).alloc (Nat.le_refl _) _) (by exact Whole.new W1 _ _)).mono ?_
  rintro e W2 ⟨rfl,hb2⟩
  have R2:=hid (R0.out.below hb2 R0.out.lt)
  have B2:=hid (B0.out.trans (hb2.mono B0.out.size))
  clear x0 x1 x2 y0 y1 y2 AT
  go_wp2_with fail
  refine (efail_any _ _).mono ?_
  rintro e w3 ⟨rfl,hb3⟩
  have R3:=hid (R2.out.below hb3 R2.out.lt)
  have B3:=hid (bstep B2.out hb3)
  clear hb3
  obtain ⟨d1,d2,d3⟩:=R3.out.holds
  have f0:=R3.out.frozen 0
  have f1:=R3.out.frozen 1
  have f2:=R3.out.frozen 2
  unfold outR vv vcells Ev.err Ev.z
  go_wp2_with fail
  exact fin_R Tryz.results91 rfl rfl rfl R3.out B3.out (Nat.le_refl _) (by rw [HR.out]; rfl)
end Go.Proofs.YteghhmomhlnccaaGreatDoor
