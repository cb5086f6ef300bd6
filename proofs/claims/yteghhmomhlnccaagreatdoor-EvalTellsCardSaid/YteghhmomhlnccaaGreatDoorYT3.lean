import Derived.Lib.Hide
import Derived.Test.YteghhmomhlnccaaGreatDoorYT2
import Derived.Lib.ItoaNum
import Derived.Lib.ParseIntB
set_option linter.unusedVariables false
set_option linter.unusedSimpArgs false
set_option maxRecDepth 100000
set_option maxHeartbeats 100000000
open Go.RowKit Go.Lib
namespace Go.Proofs.YteghhmomhlnccaaGreatDoor.Ex
inductive Tree where
 | node (op:Int) (text:List UInt8) (vk vn:Int) (vs:List UInt8) (kids:List Tree)
def Tree.op:Tree→Int | .node o _ _ _ _ _=>o
def Tree.text:Tree→List UInt8 | .node _ t _ _ _ _=>t
def Tree.kids:Tree→List Tree | .node _ _ _ _ _ k=>k
mutual
def count:Tree→Nat
 | .node _ _ _ _ _ ks=>counts ks + 1
def counts:List Tree→Nat
 | []=>0
 | x :: l=>count x + counts l
end
mutual
def depth:Tree→Nat
 | .node _ _ _ _ _ ks=>depths ks + 1
def depths:List Tree→Nat
 | []=>0
 | x :: l=>max (depth x) (depths l)
end
mutual
def flat:Tree→List (List UInt8)
 | .node op t _ _ _ ks=>(if op=2 then [t] else []) ++ flats ks
def flats:List Tree→List (List UInt8)
 | []=>[]
 | x :: l=>flat x ++ flats l
end
mutual
def put (n:List UInt8) (y:Tree):Tree→Tree
 | .node op t vk vn vs ks=>if op=2∧t=n then y else .node op t vk vn vs (puts n y ks)
def puts (n:List UInt8) (y:Tree):List Tree→List Tree
 | []=>[]
 | x :: l=>put n y x :: puts n y l
end
mutual
def same:Tree→Tree→Bool
 | .node op t vk vn vs ks,.node op' t' vk' vn' vs' ks'=>op == op' && t == t' && vk == vk' && vn == vn' && vs == vs' && sames ks ks'
def sames:List Tree→List Tree→Bool
 | [],[]=>true
 | x :: l,y :: m=>same x y && sames l m
 | _,_=>false
end
mutual
def ones (p:Int→List UInt8→Int→Int→List UInt8→Nat→Bool):Tree→Bool
 | .node op t vk vn vs ks=>p op t vk vn vs ks.length && oness p ks
def oness (p:Int→List UInt8→Int→Int→List UInt8→Nat→Bool):List Tree→Bool
 | []=>true
 | x :: l=>ones p x && oness p l
end
theorem counts_append:∀ l m:List Tree,counts (l ++ m)=counts l + counts m
 | [],m=>by rw [List.nil_append,counts]; omega
 | x :: l,m=>by rw [List.cons_append,counts,counts,counts_append l m]; omega
theorem depths_append:∀ l m:List Tree,depths (l ++ m)=max (depths l) (depths m)
 | [],m=>by rw [List.nil_append,depths]; omega
 | x :: l,m=>by rw [List.cons_append,depths,depths,depths_append l m]; omega
theorem count_pos:∀ x:Tree,1≤count x
 | .node _ _ _ _ _ ks=>by rw [count]; omega
theorem length_counts:∀ l:List Tree,l.length≤counts l
 | []=>Nat.zero_le _
 | x :: l=>by
  have:=count_pos x
  have:=length_counts l
  rw [counts,List.length_cons]; omega
mutual
theorem same_iff:∀ x y:Tree,same x y=true ↔ x=y
 | .node op t vk vn vs ks,.node op' t' vk' vn' vs' ks'=>by
  rw [same]
  simp only [Bool.and_eq_true,beq_iff_eq,sames_iff ks ks',Tree.node.injEq]
  constructor
  ·rintro ⟨⟨⟨⟨⟨h1,h2⟩,h3⟩,h4⟩,h5⟩,h6⟩; exact ⟨h1,h2,h3,h4,h5,h6⟩
  ·rintro ⟨h1,h2,h3,h4,h5,h6⟩; exact ⟨⟨⟨⟨⟨h1,h2⟩,h3⟩,h4⟩,h5⟩,h6⟩
theorem sames_iff:∀ l m:List Tree,sames l m=true ↔ l=m
 | [],[]=>by simp [sames]
 | x :: l,y :: m=>by rw [sames,Bool.and_eq_true,same_iff x y,sames_iff l m,List.cons.injEq]
 | [],y :: m=>by simp [sames]
 | x :: l,[]=>by simp [sames]
end
def once (l:List (List UInt8)):List (List UInt8)→List (List UInt8)
 | []=>l
 | t :: r=>once (if l.contains t then l else l ++ [t]) r
def names (x:Tree):List (List UInt8):=once [] (flat x)
def below (l:List Tree):List Tree:=l.flatMap Tree.kids
theorem counts_below:∀ l:List Tree,counts l=l.length + counts (below l)
 | []=>by simp [below,counts]
 | .node op t vk vn vs ks :: l=>by
  have ih:=counts_below l
  have e:below (.node op t vk vn vs ks :: l)=ks ++ below l:=rfl
  rw [counts,count,ih,e,counts_append,List.length_cons]
  omega
end Go.Proofs.YteghhmomhlnccaaGreatDoor.Ex
namespace Go.Proofs.YteghhmomhlnccaaGreatDoor.Ex
mutual
def seq (d:Nat):Tree→List (Tree × Nat)
 | .node op t vk vn vs ks=>(.node op t vk vn vs ks,d) :: seqs (d + 1) ks
def seqs (d:Nat):List Tree→List (Tree × Nat)
 | []=>[]
 | x :: l=>seq d x ++ seqs d l
end
theorem seq_kids (d:Nat) (x:Tree):seq d x=(x,d) :: seqs (d + 1) x.kids:=by cases x; rw [seq]; rfl
def rem:List (List Tree)→List (Tree × Nat)
 | []=>[]
 | r :: R=>seqs (R.length + 1) r ++ rem R
theorem rem_pop (R:List (List Tree)):rem ([] :: R)=rem R:=by rw [rem,seqs]; rfl
theorem rem_step (x:Tree) (r:List Tree) (R:List (List Tree)):rem ((x :: r) :: R)=(x,R.length + 1) :: rem (x.kids :: r :: R):=by
 simp only [rem,seqs,seq_kids (R.length + 1) x,List.length_cons,List.cons_append,List.append_assoc]
theorem rem_start (x:Tree):rem [[x]]=seq 1 x:=by simp [rem,seqs]
def work:List (List Tree)→Nat
 | []=>0
 | r :: R=>2 * counts r + 1 + work R
theorem work_pop (R:List (List Tree)):work R < work ([] :: R):=by rw [work]; omega
theorem count_kids (x:Tree):count x=counts x.kids + 1:=by cases x; rw [count]; rfl
theorem work_step (x:Tree) (r:List Tree) (R:List (List Tree)):work (x.kids :: r :: R) < work ((x :: r) :: R):=by
 simp only [work,counts,count_kids x]; omega
mutual
theorem seq_length (d:Nat):∀ x:Tree,(seq d x).length=count x
 | .node op t vk vn vs ks=>by rw [seq,count,List.length_cons,seqs_length (d + 1) ks]
theorem seqs_length (d:Nat):∀ l:List Tree,(seqs d l).length=counts l
 | []=>by rw [seqs,counts]; rfl
 | x :: l=>by rw [seqs,counts,List.length_append,seq_length d x,seqs_length d l]
end
def most (l:List (Tree × Nat)):Nat:=l.foldl (fun m p=>max m p.2) 0
theorem foldl_max (l:List (Tree × Nat)):∀ m,l.foldl (fun m p=>max m p.2) m=max m (most l):=by
 induction l with
 | nil=>intro m; simp [most]
 | cons p l ih=>intro m; rw [most,List.foldl_cons,List.foldl_cons,ih,ih]; omega
theorem most_append (a b:List (Tree × Nat)):most (a ++ b)=max (most a) (most b):=by
 rw [most,List.foldl_append,foldl_max b]; rfl
theorem most_cons (p:Tree × Nat) (b:List (Tree × Nat)):most (p :: b)=max p.2 (most b):=by
 rw [show p :: b=[p] ++ b from rfl,most_append]; simp [most]
mutual
theorem seq_most (d:Nat):∀ x:Tree,most (seq (d + 1) x)=depth x + d
 | .node op t vk vn vs ks=>by
  rw [seq,most_cons,depth]
  show max (d + 1) (most (seqs (d + 1 + 1) ks))=_
  cases ks with
  | nil=>rw [seqs,depths]; simp [most]; omega
  | cons x l=>
   have:=seqs_most (d + 1) (x :: l) (by simp)
   omega
theorem seqs_most (d:Nat):∀ l:List Tree,l ≠ []→most (seqs (d + 1) l)=depths l + d
 | [],h=>absurd rfl h
 | [x],_=>by
  have:=seq_most d x
  have h0:most ([] : List (Tree × Nat))=0:=rfl
  rw [seqs,seqs,most_append,depths,depths,this,h0]; omega
 | x :: y :: l,_=>by
  have h1:=seq_most d x
  have h2:=seqs_most d (y :: l) (by simp)
  rw [seqs,most_append,depths,h1,h2]; omega
end
theorem most_seq (x:Tree):most (seq 1 x)=depth x:=seq_most 0 x
theorem le_most {l:List (Tree × Nat)} {p:Tree × Nat} (h:p ∈ l):p.2≤most l:=by
 induction l with
 | nil=>cases h
 | cons q l ih=>
  rw [most_cons]
  rcases List.mem_cons.1 h with rfl | h
  ·omega
  ·have:=ih h; omega
def Tree.is (p:Int→List UInt8→Int→Int→List UInt8→Nat→Bool):Tree→Bool
 | .node op t vk vn vs ks=>p op t vk vn vs ks.length
mutual
theorem seq_ones (p:Int→List UInt8→Int→Int→List UInt8→Nat→Bool) (d:Nat):∀ x:Tree,(seq d x).all (fun q=>q.1.is p)=ones p x
 | .node op t vk vn vs ks=>by rw [seq,List.all_cons,ones,seqs_ones p (d + 1) ks]; rfl
theorem seqs_ones (p:Int→List UInt8→Int→Int→List UInt8→Nat→Bool) (d:Nat):∀ l:List Tree,(seqs d l).all (fun q=>q.1.is p)=oness p l
 | []=>by rw [seqs,oness]; rfl
 | x :: l=>by rw [seqs,List.all_append,oness,seq_ones p d x,seqs_ones p d l]
end
def rightB (p:Int→List UInt8→Int→Int→List UInt8→Nat→Bool) (x:Tree):Bool:=decide (depth x≤30) && (decide (count x≤300) && ones p x)
theorem right_all (p:Int→List UInt8→Int→Int→List UInt8→Nat→Bool) (x:Tree) (h1:(seq 1 x).length≤300) (h2:∀ q ∈ seq 1 x,q.2≤30∧q.1.is p=true):rightB p x=true:=by
 rw [rightB,← most_seq,← seq_ones p 1 x,← seq_length 1 x]
 have h3:most (seq 1 x)≤30:=by
  have:∀ l:List (Tree × Nat),(∀ q ∈ l,q.2≤30)→most l≤30:=by
   intro l
   induction l with
   | nil=>intro _; simp [most]
   | cons q l ih=>intro h; rw [most_cons]; have:=ih fun q hq=>h q (List.mem_cons_of_mem _ hq); have:=h q (by simp); omega
  exact this _ fun q hq=>(h2 q hq).1
 have h4:((seq 1 x).all fun q=>q.1.is p)=true:=List.all_eq_true.2 fun q hq=>(h2 q hq).2
 simp [h1,h3,h4]
theorem right_not (p:Int→List UInt8→Int→Int→List UInt8→Nat→Bool) (x:Tree) {pre:List (Tree × Nat)} (h:pre <+: seq 1 x) (hw:300 < pre.length∨∃ q ∈ pre,30 < q.2∨q.1.is p=false):rightB p x=false:=by
 rw [rightB,← most_seq,← seq_ones p 1 x,← seq_length 1 x]
 rcases hw with hw | ⟨q,hq,hw | hw⟩
 ·have:=h.length_le
  rw [decide_eq_false (p:=(seq 1 x).length≤300) (by omega)]; simp
 ·have:=le_most (h.subset hq)
  rw [decide_eq_false (p:=most (seq 1 x)≤30) (by omega)]; simp
 ·have:((seq 1 x).all fun q=>q.1.is p)=false:=by
   rw [Bool.eq_false_iff]
   intro he
   have:=List.all_eq_true.1 he q (h.subset hq)
   rw [hw] at this; cases this
  rw [this]; simp
theorem exists_least {p:Nat→Prop} (h:∃ m,p m):∃ m,p m∧∀ k,p k→m≤k:=by
 obtain ⟨m,hm⟩:=h
 induction m using Nat.strongRecOn with
 | ind m ih=>
  by_cases hk:∃ k,k < m∧p k
  ·obtain ⟨k,h1,h2⟩:=hk; exact ih k h1 h2
  ·exact ⟨m,hm,fun k hp=>Nat.le_of_not_lt fun hlt=>hk ⟨k,hlt,hp⟩⟩
open Classical in
noncomputable def least (p:Nat→Prop):Nat:=if h:∃ m,p m then Classical.choose (exists_least h) else 0
theorem least_spec {p:Nat→Prop} (h:∃ m,p m):p (least p):=by rw [least,dif_pos h]; exact (Classical.choose_spec (exists_least h)).1
theorem least_le {p:Nat→Prop} {m:Nat} (h:p m):least p≤m:=by rw [least,dif_pos ⟨m,h⟩]; exact (Classical.choose_spec (exists_least ⟨m,h⟩)).2 m h
end Go.Proofs.YteghhmomhlnccaaGreatDoor.Ex
namespace Go.Proofs.YteghhmomhlnccaaGreatDoor
theorem refplain0  (n:Int) (s:ByteArray) (w:World) :
  Calls Tryz.prog 31 #[val 0 n s] w fun e w'=>e=.returned (.bool (plainB 0 n s))∧Below w.heap.size w w':=by
 by_cases hn:n=0
 ·subst hn
  go_enter Tryz.func31,Tryz.ntmps31
  go_wp2
  go_ret
  exact ⟨retB (by rw [plainB_iff]; rw [emptyB_iff]; omega),(Below.refl _ _).alloc (Nat.le_refl _) _⟩
 ·have hb:(n == 0)=false:=by simpa using hn
  go_enter Tryz.func31,Tryz.ntmps31
  go_wp2
  go_ret
  exact ⟨retB (by rw [plainB_iff]; constructor <;> intro h <;> first | exact absurd h Bool.false_ne_true | (exfalso; omega)),(Below.refl _ _).alloc (Nat.le_refl _) _⟩
theorem refplain1  (n:Int) (s:ByteArray) (w:World) :
  Calls Tryz.prog 31 #[val 1 n s] w fun e w'=>e=.returned (.bool (plainB 1 n s))∧Below w.heap.size w w':=by
 go_enter Tryz.func31,Tryz.ntmps31
 go_wp2
 go_ret
 exact ⟨retB (by rw [plainB_iff]; rw [emptyB_iff]; omega),(Below.refl _ _).alloc (Nat.le_refl _) _⟩
theorem refplain2  (n:Int) (s:ByteArray) (w:World) :
  Calls Tryz.prog 31 #[val 2 n s] w fun e w'=>e=.returned (.bool (plainB 2 n s))∧Below w.heap.size w w':=by
 by_cases hn:n=0
 ·subst hn
  go_enter Tryz.func31,Tryz.ntmps31
  go_wp2
  go_ret
  exact ⟨retB (by rw [plainB_iff]; rw [decide_eq_true_iff]; omega),(Below.refl _ _).alloc (Nat.le_refl _) _⟩
 ·have hb:(n == 0)=false:=by simpa using hn
  go_enter Tryz.func31,Tryz.ntmps31
  go_wp2
  go_ret
  exact ⟨retB (by rw [plainB_iff]; constructor <;> intro h <;> first | exact absurd h Bool.false_ne_true | (exfalso; omega)),(Below.refl _ _).alloc (Nat.le_refl _) _⟩
theorem refplain3  (n:Int) (s:ByteArray) (w:World) :
  Calls Tryz.prog 31 #[val 3 n s] w fun e w'=>e=.returned (.bool (plainB 3 n s))∧Below w.heap.size w w':=by
 by_cases hs:s.size=0
 ·obtain rfl:s=⟨#[]⟩:=ByteArray.ext (Array.eq_empty_of_size_eq_zero hs)
  by_cases hn:0≤n
  ·go_enter Tryz.func31,Tryz.ntmps31
   go_wp2
   go_ret
   exact ⟨retB (by rw [plainB_iff]; rw [decide_eq_true_iff]; omega),(Below.refl _ _).alloc (Nat.le_refl _) _⟩
  ·have hd:decide (0≤n)=false:=decide_eq_false hn
   go_enter Tryz.func31,Tryz.ntmps31
   go_wp2
   go_ret
   exact ⟨retB (by rw [plainB_iff]; constructor <;> intro h <;> first | exact absurd h Bool.false_ne_true | (exfalso; omega)),(Below.refl _ _).alloc (Nat.le_refl _) _⟩
 ·have he:s.toList.isEmpty=false:=by rw [Bool.eq_false_iff]; intro h; exact hs (emptyB_iff.1 h)
  go_enter Tryz.func31,Tryz.ntmps31
  go_wp2
  go_ret
  exact ⟨retB (by rw [plainB_iff]; constructor <;> intro h <;> first | exact absurd h Bool.false_ne_true | (exfalso; omega)),(Below.refl _ _).alloc (Nat.le_refl _) _⟩
theorem refplain4 (k n:Int) (s:ByteArray) (w:World) (h0:k ≠ 0) (h1:k ≠ 1) (h2:k ≠ 2) (h3:k ≠ 3) :
  Calls Tryz.prog 31 #[val k n s] w fun e w'=>e=.returned (.bool (plainB k n s))∧Below w.heap.size w w':=by
 have hb:(k == 3)=false:=by simpa using h3
 go_enter Tryz.func31,Tryz.ntmps31
 go_wp2
 go_ret
 exact ⟨retB (by rw [plainB_iff]; constructor <;> intro h <;> first | exact absurd h Bool.false_ne_true | (exfalso; omega)),(Below.refl _ _).alloc (Nat.le_refl _) _⟩
theorem refplain_any (k n:Int) (s:ByteArray) (w:World) :
  Calls Tryz.prog 31 #[val k n s] w fun e w'=>e=.returned (.bool (plainB k n s))∧Below w.heap.size w w':=by
 by_cases h0:k=0
 ·subst h0; exact refplain0 n s w
 by_cases h1:k=1
 ·subst h1; exact refplain1 n s w
 by_cases h2:k=2
 ·subst h2; exact refplain2 n s w
 by_cases h3:k=3
 ·subst h3; exact refplain3 n s w
 exact refplain4 k n s w h0 h1 h2 h3
end Go.Proofs.YteghhmomhlnccaaGreatDoor
namespace Go.Proofs.YteghhmomhlnccaaGreatDoor
open Go.Lib
def Fits (n:Int):Prop:=-9223372036854775808≤n∧n≤9223372036854775807
instance (n:Int):Decidable (Fits n):=inferInstanceAs (Decidable (_∧_))
def sv (n:Int):Int:=if Fits n then n else 0
def se (n:Int):Int:=if Fits n then 0 else 4
def signed (s:Bool) (n:Int):Int:=if s then -n else n
def dig (c:UInt8):Bool:=decide (48≤c.toNat∧c.toNat≤57)
def dv (acc:Nat):List UInt8→Nat
 | []=>acc
 | c :: r=>dv (acc * 10 + (c.toNat - 48)) r
theorem dv_snoc (l:List UInt8) (c:UInt8) (acc:Nat):dv acc (l ++ [c])=dv acc l * 10 + (c.toNat - 48):=by
 induction l generalizing acc with
 | nil=>rfl
 | cons a r ih=>exact ih _
theorem dv_ge (l:List UInt8) (acc:Nat):acc≤dv acc l:=by
 induction l generalizing acc with
 | nil=>exact Nat.le_refl _
 | cons a r ih=>exact Nat.le_trans (by omega) (ih (acc * 10 + (a.toNat - 48)))
theorem parse_digits (M:Nat) (hM:M=18446744073709551615) (l:List UInt8) (h:∀ c ∈ l,dig c=true) (acc:Nat) (ha:acc≤M) :
  parseUintM M acc l=if dv acc l≤M then .ok (dv acc l) else .range:=by
 induction l generalizing acc with
 | nil=>
  have e:dv acc []=acc:=rfl
  have e2:parseUintM M acc []=.ok acc:=by rw [parseUintM]
  rw [e,e2,if_pos ha]
 | cons c r ih=>
  have hc:48≤c.toNat∧c.toNat≤57:=by simpa [dig] using h c (by simp)
  have hg:=dv_ge r (acc * 10 + (c.toNat - 48))
  have hi:=ih (fun c hc=>h c (by simp [hc])) (acc * 10 + (c.toNat - 48))
  have e:dv acc (c :: r)=dv (acc * 10 + (c.toNat - 48)) r:=rfl
  rw [e,parseUintM,if_pos hc]
  generalize dv (acc * 10 + (c.toNat - 48)) r=z at *
  by_cases h1:1844674407370955162≤acc
  ·rw [if_pos h1,if_neg (by omega)]
  ·rw [if_neg h1]
   by_cases h2:M < acc * 10 + (c.toNat - 48)
   ·rw [if_pos h2,if_neg (by omega)]
   ·rw [if_neg h2]
    exact hi (by omega)
def minus (l:List UInt8):Bool:=l.head?.map (·.toNat) == some 45
def body (l:List UInt8):List UInt8:=if minus l then l.tail else l
def looks (l:List UInt8):Bool:=body l != [] && (body l).all dig && (((body l).head?.map (·.toNat) != some 48) || ((body l).length == 1 && !minus l))
def rv (l:List UInt8):Int:=if looks l then sv (signed (minus l) (dv 0 (body l))) else 0
def re (l:List UInt8):Int:=if looks l then se (signed (minus l) (dv 0 (body l))) else 6
theorem parse_looks (l:List UInt8) (h:looks l=true) :
  parseIntB 64 l=if Fits (signed (minus l) (dv 0 (body l))) then .ok (signed (minus l) (dv 0 (body l))) else .range:=by
 simp only [looks,Bool.and_eq_true,bne_iff_ne,ne_eq,List.all_eq_true] at h
 obtain ⟨⟨h1,h2⟩,-⟩:=h
 have hp:=parse_digits 18446744073709551615 rfl (body l) h2 0 (by omega)
 have hu:parseUintB 64 (body l)=parseUintM 18446744073709551615 0 (body l):=by
  simp [parseUintB,h1]
 match l,h1,h2,hp,hu with
 | [],h1,_,_,_=>exact absurd rfl h1
 | c :: r,h1,h2,hp,hu=>
  by_cases hm:c.toNat=45
  ·have hmin:minus (c :: r)=true:=by simp [minus,hm]
   have hb:body (c :: r)=r:=by simp [body,hmin]
   rw [hb] at hp hu ⊢
   simp only [parseIntB]
   rw [if_pos (Or.inr hm),hu,hp,hmin]
   simp only [signed,if_true,hm]
   generalize dv 0 r=u
   by_cases hf:Fits (-(u:Int))
   ·rw [if_pos hf]
    unfold Fits at hf
    rw [if_pos (by omega)]
    simp
    omega
   ·rw [if_neg hf]
    unfold Fits at hf
    by_cases h3:u≤18446744073709551615
    ·rw [if_pos h3]; simp; omega
    ·rw [if_neg h3]
  ·have hmin:minus (c :: r)=false:=by simp [minus,hm]
   have hb:body (c :: r)=c :: r:=by simp [body,hmin]
   have hc:48≤c.toNat∧c.toNat≤57:=by rw [hb] at h2; simpa [dig] using h2 c (by simp)
   rw [hb] at hp hu ⊢
   simp only [parseIntB]
   rw [if_neg (by omega),hu,hp,hmin]
   simp only [signed,Bool.false_eq_true,if_false,hm]
   generalize dv 0 (c :: r)=u
   by_cases hf:Fits (u:Int)
   ·rw [if_pos hf]
    unfold Fits at hf
    rw [if_pos (by omega)]
    simp
    omega
   ·rw [if_neg hf]
    unfold Fits at hf
    by_cases h3:u≤18446744073709551615
    ·rw [if_pos h3]; simp; omega
    ·rw [if_neg h3]
theorem dec_step {u:Nat} (h:¬ u < 10):decDigits u=decDigits (u / 10) ++ [UInt8.ofNat (48 + u % 10)]:=by
 rw [decDigits,dif_neg h]
theorem dec_one {u:Nat} (h:u < 10):decDigits u=[UInt8.ofNat (48 + u)]:=by
 rw [decDigits,dif_pos h]
theorem ofNat_dig (k:Nat) (h:k < 10):(UInt8.ofNat (48 + k)).toNat=48 + k:=by
 rw [UInt8.toNat_ofNat']; omega
end Go.Proofs.YteghhmomhlnccaaGreatDoor
namespace Go.Proofs.YteghhmomhlnccaaGreatDoor.Lx
open Go.Proofs.YteghhmomhlnccaaGreatDoor
def blank (c:UInt8):Bool:=c == 32 || c == 9 || c == 10
def low (c:UInt8):Bool:=decide (97≤c.toNat∧c.toNat≤122)
def nm (c:UInt8):Bool:=low c || dig c || c == 95
def line (c:UInt8):Bool:=c != 10
def reserved : List (List UInt8) := ["add", "drop", "rename", "split", "merge", "retype", "into", "to", "back", "and", "or", "not", "true", "false", "null", "int", "text", "bool", "select", "where", "from", "limit"].map fun s => s.toUTF8.data.toList
def res (t:List UInt8):Bool:=reserved.contains t
def single (c:UInt8):Bool:=[40,41,44,59,61,60,62,43,45,42,47,37,38,58].contains c
def pre2 (c:UInt8):Bool:=c == 60 || c == 62 || c == 33
def numErr (t:List UInt8):Nat:=if re t=0 then 0 else if re t=4 then 4 else 7
def qt:List UInt8→List UInt8 × Nat × Bool
 | []=>([],0,false)
 | c :: r=>if c=39 then (match r with
   | []=>([],1,true)
   | d :: r'=>if d=39 then (39 :: (qt r').1,(qt r').2.1 + 2,(qt r').2.2) else ([],1,true))
  else (c :: (qt r).1,(qt r).2.1 + 1,(qt r).2.2)
structure Wd where
 kind:Nat
 n:Nat
 text:List UInt8
 err:Nat
def nameW (t:List UInt8):Wd:=⟨if res t then 2 else 1,t.length,t,if res t then 0 else if 16 < t.length then 3 else 0⟩
def numW (t:List UInt8):Wd:=⟨3,t.length,t,numErr t⟩
def textW (q:List UInt8 × Nat × Bool):Wd:=⟨4,q.2.1 + 1,q.1,if q.2.2 then (if 200 < q.1.length then 3 else 0) else 7⟩
def word:List UInt8→Wd
 | []=>⟨0,0,[],7⟩
 | c :: r=>
  if low c then nameW (c :: r.takeWhile nm)
  else if dig c then numW (c :: r.takeWhile dig)
  else if c=39 then textW (qt r)
  else if pre2 c && r.head? == some 61 then ⟨5,2,[c,61],0⟩
  else ⟨5,1,[c],if single c then 0 else 7⟩
structure Tk where
 kind:Nat
 text:List UInt8
 at_:Nat
deriving DecidableEq
inductive Out where
 | ok (l:List Tk)
 | bad (code at_:Nat)
deriving DecidableEq
def Out.put (t:Tk):Out→Out
 | ok l=>ok (t :: l)
 | bad c a=>bad c a
def lexF:Nat→Nat→List UInt8→Out
 | 0,_,_=>.bad 0 0
 | _ + 1,p,[]=>.ok [⟨0,[],p⟩]
 | f + 1,p,c :: r=>
  if blank c then lexF f (p + 1) r
  else if c=35 then lexF f (p + 1 + (r.takeWhile line).length) (r.drop (r.takeWhile line).length)
  else if (word (c :: r)).err=0 then (lexF f (p + (word (c :: r)).n) ((c :: r).drop (word (c :: r)).n)).put ⟨(word (c :: r)).kind,(word (c :: r)).text,p⟩
  else .bad (word (c :: r)).err p
def lx (l:List UInt8):Out:=if 4000 < l.length then .bad 3 0 else lexF (l.length + 1) 0 l
theorem tw_le (p:UInt8→Bool):∀ l:List UInt8,(l.takeWhile p).length≤l.length
 | []=>Nat.le_refl _
 | c :: l=>by
  have:=tw_le p l
  unfold List.takeWhile
  split <;> simp <;> omega
theorem tw_take (p:UInt8→Bool):∀ l:List UInt8,l.take (l.takeWhile p).length=l.takeWhile p
 | []=>rfl
 | c :: l=>by
  have:=tw_take p l
  unfold List.takeWhile
  split
  ·simp [this]
  ·rfl
theorem tw_all (p:UInt8→Bool):∀ (l:List UInt8) (x:UInt8),x ∈ l.takeWhile p→p x=true
 | [],x,h=>by simp at h
 | c :: l,x,h=>by
  unfold List.takeWhile at h
  split at h
  ·rcases List.mem_cons.1 h with rfl | h
   ·assumption
   ·exact tw_all p l x h
  ·simp at h
theorem tw_next (p:UInt8→Bool):∀ (l:List UInt8) (x:UInt8),(l.drop (l.takeWhile p).length).head?=some x→p x=false
 | [],x,h=>by simp at h
 | c :: l,x,h=>by
  by_cases hc:p c=true
  ·rw [List.takeWhile_cons_of_pos hc] at h
   exact tw_next p l x h
  ·rw [List.takeWhile_cons_of_neg hc] at h
   simp at h
   subst h
   simpa using hc
theorem tw_of (p:UInt8→Bool):∀ (a z:List UInt8),(∀ x ∈ a,p x=true)→(∀ x,z.head?=some x→p x=false)→(a ++ z).takeWhile p=a
 | [],z,_,hz=>by
  cases z with
  | nil=>rfl
  | cons y z=>rw [List.nil_append,List.takeWhile_cons_of_neg (by rw [hz y rfl]; simp)]
 | c :: a,z,ha,hz=>by
  rw [List.cons_append,List.takeWhile_cons_of_pos (ha c (by simp)),tw_of p a z (fun x hx=>ha x (by simp [hx])) hz]
theorem qt_take:∀ (l:List UInt8),(qt l).2.2=true→l.take (qt l).2.1=esc (qt l).1 ++ [39]∧(qt l).2.1≤l.length
 | [],h=>by simp [qt] at h
 | [c],h=>by
  by_cases hc:c=39
  ·subst hc; simp [qt,esc]
  ·simp [qt,hc] at h
 | c :: d :: r,h=>by
  unfold qt at h ⊢
  by_cases hc:c=39
  ·subst hc
   by_cases hd:d=39
   ·subst hd
    simp only [if_true] at h ⊢
    obtain ⟨i1,i2⟩:=qt_take r h
    refine ⟨?_,by simp; omega⟩
    simp [esc,i1]
   ·simp [hd,esc]
  ·simp only [if_neg hc] at h ⊢
   obtain ⟨i1,i2⟩:=qt_take (d :: r) h
   refine ⟨?_,by simp at i2 ⊢; omega⟩
   simp [esc,hc,i1]
theorem word_ok (c:UInt8) (r:List UInt8) (h:(word (c :: r)).err=0):1≤(word (c :: r)).n∧(word (c :: r)).n≤r.length + 1:=by
 have h1:=tw_le nm r
 have h2:=tw_le dig r
 unfold word at h ⊢
 by_cases n1:low c=true
 ·simp only [if_pos n1,nameW,List.length_cons]; omega
 ·simp only [if_neg n1] at h ⊢
  by_cases n2:dig c=true
  ·simp only [if_pos n2,numW,List.length_cons]; omega
  ·simp only [if_neg n2] at h ⊢
   by_cases n3:c=39
   ·simp only [if_pos n3] at h ⊢
    have hq:(qt r).2.2=true:=by
     cases e:(qt r).2.2
     ·simp [textW,e] at h
     ·rfl
    have:=(qt_take r hq).2
    simp only [textW]; omega
   ·simp only [if_neg n3] at h ⊢
    by_cases n4:(pre2 c && r.head? == some 61)=true
    ·simp only [if_pos n4]
     have:1≤r.length:=by
      cases r with
      | nil=>simp at n4
      | cons=>simp
     omega
    ·simp only [if_neg n4]; omega
def spelt (k:Nat) (t:List UInt8):List UInt8:=if k=4 then quo t else t
theorem word_spelt (c:UInt8) (r:List UInt8) (h:(word (c :: r)).err=0):(c :: r).take (word (c :: r)).n=spelt (word (c :: r)).kind (word (c :: r)).text:=by
 unfold word at h ⊢
 by_cases h1:low c=true
 ·simp only [if_pos h1] at h ⊢
  have:(nameW (c :: r.takeWhile nm)).kind ≠ 4:=by unfold nameW; simp only; split <;> decide
  rw [spelt,if_neg this]
  simp [nameW,tw_take]
 ·simp only [if_neg h1] at h ⊢
  by_cases h2:dig c=true
  ·simp only [if_pos h2] at h ⊢
   rw [spelt,if_neg (by simp [numW])]
   simp [numW,tw_take]
  ·simp only [if_neg h2] at h ⊢
   by_cases h3:c=39
   ·simp only [if_pos h3] at h ⊢
    have hq:(qt r).2.2=true:=by
     cases e:(qt r).2.2
     ·simp [textW,e] at h
     ·rfl
    rw [spelt,if_pos (by simp [textW])]
    simp only [textW,List.take_succ_cons,(qt_take r hq).1]
    rw [h3]; rfl
   ·simp only [if_neg h3] at h ⊢
    by_cases h4:(pre2 c && r.head? == some 61)=true
    ·simp only [if_pos h4] at h ⊢
     rw [spelt,if_neg (by decide)]
     cases r with
     | nil=>simp at h4
     | cons d r=>simp at h4; simp [h4.2]
    ·simp only [if_neg h4] at h ⊢
     rw [spelt,if_neg (by decide)]
     simp
end Go.Proofs.YteghhmomhlnccaaGreatDoor.Lx
namespace Go.Proofs.YteghhmomhlnccaaGreatDoor.Lx
open Go.Proofs.YteghhmomhlnccaaGreatDoor
theorem lex_nil (f p:Nat):lexF (f + 1) p []=.ok [⟨0,[],p⟩]:=rfl
theorem lex_blank (f p:Nat) {c:UInt8} (r:List UInt8) (h:blank c=true):lexF (f + 1) p (c :: r)=lexF f (p + 1) r:=by
 rw [lexF,if_pos h]
theorem lex_note (f p:Nat) (r:List UInt8):lexF (f + 1) p (35 :: r)=lexF f (p + 1 + (r.takeWhile line).length) (r.drop (r.takeWhile line).length):=by
 rw [lexF,if_neg (by decide),if_pos rfl]
theorem lex_word (f p:Nat) {c:UInt8} (r:List UInt8) (h1:¬ blank c=true) (h2:c ≠ 35) (h:(word (c :: r)).err=0) :
  lexF (f + 1) p (c :: r)=(lexF f (p + (word (c :: r)).n) ((c :: r).drop (word (c :: r)).n)).put ⟨(word (c :: r)).kind,(word (c :: r)).text,p⟩:=by
 rw [lexF,if_neg h1,if_neg h2,if_pos h]
theorem lex_bad (f p:Nat) {c:UInt8} (r:List UInt8) (h1:¬ blank c=true) (h2:c ≠ 35) (h:(word (c :: r)).err ≠ 0) :
  lexF (f + 1) p (c :: r)=.bad (word (c :: r)).err p:=by
 rw [lexF,if_neg h1,if_neg h2,if_neg h]
theorem lex_fuel:∀ (f g p:Nat) (l:List UInt8),l.length < f→l.length < g→lexF f p l=lexF g p l
 | 0,_,_,l,h,_=>absurd h (Nat.not_lt_zero _)
 | _,0,_,l,_,h=>absurd h (Nat.not_lt_zero _)
 | f + 1,g + 1,p,[],_,_=>rfl
 | f + 1,g + 1,p,c :: r,hf,hg=>by
  simp only [List.length_cons] at hf hg
  by_cases h1:blank c=true
  ·rw [lex_blank _ _ _ h1,lex_blank _ _ _ h1]
   exact lex_fuel f g _ r (by omega) (by omega)
  ·by_cases h2:c=35
   ·subst h2
    rw [lex_note,lex_note]
    exact lex_fuel f g _ _ (by rw [List.length_drop]; omega) (by rw [List.length_drop]; omega)
   ·by_cases h3:(word (c :: r)).err=0
    ·have:=word_ok c r h3
     rw [lex_word _ _ _ h1 h2 h3,lex_word _ _ _ h1 h2 h3,lex_fuel f g _ _ (by rw [List.length_drop,List.length_cons]; omega) (by rw [List.length_drop,List.length_cons]; omega)]
    ·rw [lex_bad _ _ _ h1 h2 h3,lex_bad _ _ _ h1 h2 h3]
def Tk.far (d:Nat) (t:Tk):Tk:=⟨t.kind,t.text,t.at_ + d⟩
def Out.far (d:Nat):Out→Out
 | .ok l=>.ok (l.map (Tk.far d))
 | .bad c a=>.bad c (a + d)
theorem lex_at:∀ (f p:Nat) (l:List UInt8) (T:List Tk),l.length < f→lexF f p l=.ok T →
  ∃ (A:List Tk),T=A ++ [⟨0,[],p + l.length⟩]∧∀ i (h:i < A.length),∃ q,A[i].at_=p + q∧q < l.length∧i≤q∧(∃ c r,l.drop q=c :: r∧¬ blank c=true∧c ≠ 35∧(word (c :: r)).err=0∧A[i].kind=(word (c :: r)).kind∧A[i].text=(word (c :: r)).text)
 | 0,_,l,_,h,_=>absurd h (Nat.not_lt_zero _)
 | f + 1,p,[],T,_,e=>by
  rw [lex_nil] at e
  cases e
  exact ⟨[],rfl,fun i h=>absurd h (Nat.not_lt_zero _)⟩
 | f + 1,p,c :: r,T,hf,e=>by
  simp only [List.length_cons] at hf
  by_cases h1:blank c=true
  ·rw [lex_blank _ _ _ h1] at e
   obtain ⟨A,hA,hi⟩:=lex_at f (p + 1) r T (by omega) e
   refine ⟨A,by rw [hA,List.length_cons]; congr 3; omega,fun i h=>?_⟩
   obtain ⟨q,q1,q2,q3,q4⟩:=hi i h
   exact ⟨q + 1,by omega,by simp; omega,by omega,by rw [List.drop_succ_cons]; exact q4⟩
  ·by_cases h2:c=35
   ·subst h2
    rw [lex_note] at e
    have hl:=tw_le line r
    obtain ⟨A,hA,hi⟩:=lex_at f _ _ T (by rw [List.length_drop]; omega) e
    refine ⟨A,by rw [hA,List.length_cons,List.length_drop]; congr 3; omega,fun i h=>?_⟩
    obtain ⟨q,q1,q2,q3,q4⟩:=hi i h
    rw [List.drop_drop] at q4
    rw [List.length_drop] at q2
    exact ⟨q + (1 + (r.takeWhile line).length),by omega,by simp; omega,by omega,by rw [show q + (1 + (r.takeWhile line).length)=(r.takeWhile line).length + q + 1 by omega,List.drop_succ_cons]; exact q4⟩
   ·by_cases h3:(word (c :: r)).err=0
    ·have hw:=word_ok c r h3
     rw [lex_word _ _ _ h1 h2 h3] at e
     cases hs:lexF f (p + (word (c :: r)).n) ((c :: r).drop (word (c :: r)).n) with
     | bad a b=>rw [hs] at e; cases e
     | ok T'=>
      rw [hs] at e
      cases e
      obtain ⟨A,hA,hi⟩:=lex_at f _ _ T' (by rw [List.length_drop,List.length_cons]; omega) hs
      refine ⟨⟨(word (c :: r)).kind,(word (c :: r)).text,p⟩ :: A,?_,fun i h=>?_⟩
      ·rw [hA,List.length_drop,List.length_cons,List.cons_append]
       congr 4; omega
      ·cases i with
       | zero=>exact ⟨0,rfl,by simp,Nat.le_refl _,c,r,rfl,h1,h2,h3,rfl,rfl⟩
       | succ i=>
        obtain ⟨q,q1,q2,q3,q4⟩:=hi i (by simpa using h)
        rw [List.drop_drop] at q4
        rw [List.length_drop] at q2
        refine ⟨(word (c :: r)).n + q,?_,by omega,by omega,q4⟩
        simp only [List.getElem_cons_succ]
        omega
    ·rw [lex_bad _ _ _ h1 h2 h3] at e
     cases e
theorem lex_first (f p:Nat) (t z:List UInt8) (c:UInt8) (hc:t.head?=some c) (h1:¬ blank c=true) (h2:c ≠ 35) (h:(word (t ++ z)).err=0) (hn:(word (t ++ z)).n=t.length) :
  lexF (f + 1) p (t ++ z)=(lexF f (p + t.length) z).put ⟨(word (t ++ z)).kind,(word (t ++ z)).text,p⟩:=by
 cases t with
 | nil=>cases hc
 | cons d t=>
  cases hc
  rw [List.cons_append] at h hn ⊢
  rw [lex_word f p _ h1 h2 h,hn]
  congr 2
  rw [← List.cons_append,List.drop_left]
def isName (s:List UInt8):Bool:=match s with
 | []=>false
 | c :: r=>decide (s.length≤16) && low c && r.all nm && !res s
theorem low_not {c:UInt8} (h:low c=true):¬ blank c=true∧c ≠ 35∧nm c=true:=by
 refine ⟨fun hb=>?_,fun e=>?_,by simp [nm,h]⟩
 ·simp only [blank,Bool.or_eq_true,beq_iff_eq] at hb
  rcases hb with (rfl | rfl) | rfl <;> exact absurd h (by decide)
 ·subst e; exact absurd h (by decide)
theorem name_lex {s:List UInt8} (h:isName s=true):lx s=.ok [⟨1,s,0⟩,⟨0,[],s.length⟩]:=by
 cases s with
 | nil=>cases h
 | cons c r=>
  simp only [isName,Bool.and_eq_true,decide_eq_true_eq,Bool.not_eq_true',List.all_eq_true] at h
  obtain ⟨⟨⟨h1,h2⟩,h3⟩,h4⟩:=h
  obtain ⟨g1,g2,-⟩:=low_not h2
  have hw:word (c :: r)=⟨1,r.length + 1,c :: r,0⟩:=by
   have ht:r.takeWhile nm=r:=by have:=tw_of nm r [] h3 (by simp); rwa [List.append_nil] at this
   unfold word
   simp only [if_pos h2,ht,nameW,h4,Bool.false_eq_true,if_false,List.length_cons]
   rw [if_neg (by simp at h1; omega)]
  unfold lx
  rw [if_neg (by omega),List.length_cons,lex_word _ _ _ g1 g2 (by rw [hw]),hw]
  simp only [List.drop_succ_cons,List.drop_length,Nat.zero_add]
  rfl
end Go.Proofs.YteghhmomhlnccaaGreatDoor.Lx
namespace Go.Proofs.YteghhmomhlnccaaGreatDoor
open Go.Lib
theorem ra2_nil:replaceAll [] [39,39] [39]=[]:=ra_nil (by simp) (by simp)
theorem ra2_length:∀ (k:Nat) (l:List UInt8),l.length≤k→(replaceAll l [39,39] [39]).length≤l.length
 | _,[],_=>by rw [ra2_nil]; simp
 | 0,_ :: _,h=>by simp at h
 | k + 1,c :: l,h=>by
  by_cases hp:([39,39] : List UInt8).isPrefixOf (c :: l)=true
  ·rw [ra_prefix (by simp) (by simp) hp]
   have h2:=(List.isPrefixOf_iff_prefix.1 hp).length_le
   simp only [List.length_cons,List.length_nil] at h2 h
   have:=ra2_length k ((c :: l).drop 2) (by simp; omega)
   have e:(([39,39] : List UInt8)).length=2:=rfl
   rw [e]
   simp only [List.length_append,List.length_cons,List.length_nil]
   simp only [List.length_drop,List.length_cons] at this
   omega
  ·have hp':([39,39] : List UInt8).isPrefixOf (c :: l)=false:=Bool.eq_false_iff.2 hp
   rw [ra_skip (by simp) (by simp) hp']
   have:=ra2_length k l (by simp at h; omega)
   simp only [List.length_cons]
   omega
theorem trim_length (l:List UInt8):(trimSuffix (trimPrefix l [39]) [39]).length≤l.length:=by
 unfold trimSuffix trimPrefix
 split <;> split <;> simp <;> omega
structure Told where
 k:Int
 n:Int
 s:List UInt8
 e:Int
def toldText (l:List UInt8):Told:=match unq l.tail with
 | some u=>if u.length≤200 then ⟨2,0,u,0⟩ else ⟨0,0,[],7⟩
 | none=>⟨0,0,[],7⟩
def toldInt (l:List UInt8):Told:=if re l=0 then ⟨1,rv l,[],0⟩ else if re l=4 then ⟨0,0,[],4⟩ else ⟨0,0,[],7⟩
def told (l:List UInt8):Told:=if l=[110,117,108,108] then ⟨0,0,[],0⟩ else if l=[116,114,117,101] then ⟨3,1,[],0⟩ else if l=[102,97,108,115,101] then ⟨3,0,[],0⟩
 else if l.head?=some 39 then toldText l else toldInt l
theorem toldText_quo (u:List UInt8) (h:u.length≤200):toldText (quo u)=⟨2,0,u,0⟩:=by
 unfold toldText
 rw [show (quo u).tail=esc u ++ [39] from rfl,unq_esc]
 simp [h]
theorem toldText_not (l:List UInt8) (h:l.head?=some 39) (hn:∀ u:List UInt8,u.length≤200→quo u ≠ l):toldText l=⟨0,0,[],7⟩:=by
 cases l with
 | nil=>cases h
 | cons c r=>
  simp only [List.head?_cons,Option.some.injEq] at h
  subst h
  unfold toldText
  simp only [List.tail_cons]
  split
  ·rename_i u hu
   rw [if_neg]
   intro hl
   apply hn u hl
   rw [quo,unq_some r u hu]
  ·rfl
end Go.Proofs.YteghhmomhlnccaaGreatDoor
