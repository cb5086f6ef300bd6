import Derived.Test.YteghhmomhlnccaaGreatDoorYT4
import Derived.Test.YteghhmomhlnccaaGreatDoorYT7
import Derived.Test.YteghhmomhlnccaaGreatDoorYT11
set_option linter.unusedVariables false
set_option linter.unusedSimpArgs false
set_option maxRecDepth 100000
set_option maxHeartbeats 100000000
open Go.RowKit Go.Lib
namespace Go.Proofs.YteghhmomhlnccaaGreatDoor
open Ex (Tree)
namespace Ps
inductive Res where
 | ok (T:Tree) (i:Nat)
 | bad (code at_:Nat)
inductive Ru where
 | or | and | not | cmp | sum | prod | neg | single
inductive Q where
 | rule (u:Ru)
 | left (u:Ru) (T:Tree)
 | list (ks:List Tree)
def Ru.below:Ru→Ru
 | .or=>.and | .and=>.not | .not=>.cmp | .cmp=>.sum | .sum=>.prod | .prod=>.neg | .neg=>.single | .single=>.single
def Ru.of:Ru→Int
 | .or=>1 | .and=>2 | .sum=>4 | .prod=>5 | _=>-1
def bindR (o:Option Res) (k:Tree→Nat→Option Res):Option Res:=match o with
 | some (.ok T i)=>k T i
 | some (.bad c a)=>some (.bad c a)
 | none=>none
abbrev notL:List UInt8:=[110,111,116]
def binT (t:List UInt8) (X Y:Tree):Tree:=.node 5 t 0 0 [] [X,Y]
def rd (M:Nat) (L:List Lx.Tk):Nat→Nat→Q→Nat→Option Res
 | 0=>fun _ _ _=>none
 | f + 1=>fun d q i=>match q with
  | .rule .or=>bindR (rd M L f d (.rule .and) i) fun T j=>rd M L f d (.left .or T) j
  | .rule .and=>bindR (rd M L f d (.rule .not) i) fun T j=>rd M L f d (.left .and T) j
  | .rule .sum=>bindR (rd M L f d (.rule .prod) i) fun T j=>rd M L f d (.left .sum T) j
  | .rule .prod=>bindR (rd M L f d (.rule .neg) i) fun T j=>rd M L f d (.left .prod T) j
  | .rule .not=>if sgn (tk L i)=notL then (if d=M then some (.bad 18 (tk L i).at_) else bindR (rd M L f (d + 1) (.rule .not) (i + 1)) fun X j=>some (.ok (.node 4 [] 0 0 [] [X]) j)) else rd M L f d (.rule .cmp) i
  | .rule .neg=>if sgn (tk L i)=[45] then (if d=M then some (.bad 18 (tk L i).at_) else bindR (rd M L f (d + 1) (.rule .neg) (i + 1)) fun X j=>some (.ok (.node 3 [] 0 0 [] [X]) j)) else rd M L f d (.rule .single) i
  | .rule .cmp=>bindR (rd M L f d (.rule .sum) i) fun X j=>if Ex.lev (sgn (tk L j))=3 then bindR (rd M L f d (.rule .sum) (j + 1)) fun Y k=>some (.ok (binT (tk L j).text X Y) k) else some (.ok X j)
  | .rule .single=>if sgn (tk L i)=[40] then (if d=M then some (.bad 18 (tk L i).at_) else bindR (rd M L f (d + 1) (.rule .or) (i + 1)) fun X j=>if sgn (tk L j)=[41] then some (.ok X (j + 1)) else some (.bad 8 (tk L j).at_))
    else if (tk L i).kind=1∧sgn (tk L (i + 1))=[40] then
     (if Ex.arity (tk L i).text < 0 then some (.bad 9 (tk L i).at_) else if d=M then some (.bad 18 (tk L (i + 1)).at_)
      else bindR (rd M L f (d + 1) (.list []) (i + 2)) fun X j=>if (X.kids.length:Int)=Ex.arity (tk L i).text then some (.ok (.node 6 (tk L i).text 0 0 [] X.kids) j) else some (.bad 8 (tk L i).at_))
    else if Ex.rightB nodeB (leafT (tk L i))=true then some (.ok (leafT (tk L i)) (i + 1)) else some (.bad 8 (tk L i).at_)
  | .left u T=>if Ex.lev (sgn (tk L i))=u.of then bindR (rd M L f d (.rule u.below) (i + 1)) fun Y j=>rd M L f d (.left u (binT (tk L i).text T Y)) j else some (.ok T i)
  | .list ks=>bindR (rd M L f d (.rule .or) i) fun X j=>if sgn (tk L j)=[44] then rd M L f d (.list (ks ++ [X])) (j + 1) else if sgn (tk L j)=[41] then some (.ok (.node 0 [] 0 0 [] (ks ++ [X])) (j + 1)) else some (.bad 8 (tk L j).at_)
theorem bindR_some {o:Option Res} {k:Tree→Nat→Option Res} {r:Res} (h:bindR o k=some r):(∃ T i,o=some (.ok T i)∧k T i=some r)∨∃ c a,o=some (.bad c a)∧r=.bad c a:=by
 cases o with
 | none=>cases h
 | some x=>cases x with
  | ok T i=>exact .inl ⟨T,i,rfl,h⟩
  | bad c a=>cases h; exact .inr ⟨c,a,rfl,rfl⟩
def Ru.isLeft:Ru→Bool
 | .or | .and | .sum | .prod=>true
 | _=>false
theorem rd_left_rule {M L f d i} {u:Ru} (h:u.isLeft=true):rd M L (f + 1) d (.rule u) i=bindR (rd M L f d (.rule u.below) i) fun T j=>rd M L f d (.left u T) j:=by
 cases u <;> first | rfl | cases h
theorem rd_left {M L f d i u T} : rd M L (f + 1) d (.left u T) i=if Ex.lev (sgn (tk L i))=u.of then bindR (rd M L f d (.rule u.below) (i + 1)) fun Y j=>rd M L f d (.left u (binT (tk L i).text T Y)) j else some (.ok T i):=rfl
theorem rd_list {M L f d i ks} : rd M L (f + 1) d (.list ks) i=bindR (rd M L f d (.rule .or) i) fun X j=>if sgn (tk L j)=[44] then rd M L f d (.list (ks ++ [X])) (j + 1) else if sgn (tk L j)=[41] then some (.ok (.node 0 [] 0 0 [] (ks ++ [X])) (j + 1)) else some (.bad 8 (tk L j).at_):=rfl
theorem rd_not {M L f d i} : rd M L (f + 1) d (.rule .not) i=if sgn (tk L i)=notL then (if d=M then some (.bad 18 (tk L i).at_) else bindR (rd M L f (d + 1) (.rule .not) (i + 1)) fun X j=>some (.ok (.node 4 [] 0 0 [] [X]) j)) else rd M L f d (.rule .cmp) i:=rfl
theorem rd_neg {M L f d i} : rd M L (f + 1) d (.rule .neg) i=if sgn (tk L i)=[45] then (if d=M then some (.bad 18 (tk L i).at_) else bindR (rd M L f (d + 1) (.rule .neg) (i + 1)) fun X j=>some (.ok (.node 3 [] 0 0 [] [X]) j)) else rd M L f d (.rule .single) i:=rfl
theorem rd_cmp {M L f d i} : rd M L (f + 1) d (.rule .cmp) i=bindR (rd M L f d (.rule .sum) i) fun X j=>if Ex.lev (sgn (tk L j))=3 then bindR (rd M L f d (.rule .sum) (j + 1)) fun Y k=>some (.ok (binT (tk L j).text X Y) k) else some (.ok X j):=rfl
theorem rd_single {M L f d i} : rd M L (f + 1) d (.rule .single) i=if sgn (tk L i)=[40] then (if d=M then some (.bad 18 (tk L i).at_) else bindR (rd M L f (d + 1) (.rule .or) (i + 1)) fun X j=>if sgn (tk L j)=[41] then some (.ok X (j + 1)) else some (.bad 8 (tk L j).at_))
    else if (tk L i).kind=1∧sgn (tk L (i + 1))=[40] then
     (if Ex.arity (tk L i).text < 0 then some (.bad 9 (tk L i).at_) else if d=M then some (.bad 18 (tk L (i + 1)).at_)
      else bindR (rd M L f (d + 1) (.list []) (i + 2)) fun X j=>if (X.kids.length:Int)=Ex.arity (tk L i).text then some (.ok (.node 6 (tk L i).text 0 0 [] X.kids) j) else some (.bad 8 (tk L i).at_))
    else if Ex.rightB nodeB (leafT (tk L i))=true then some (.ok (leafT (tk L i)) (i + 1)) else some (.bad 8 (tk L i).at_):=rfl
theorem lev_nil:Ex.lev []=0:=by decide
theorem sgn_end {L:List Lx.Tk} {i:Nat} (h:(tk L i).kind=0):sgn (tk L i)=[]:=by rw [sgn,if_neg (by omega)]
def Ends (L:List Lx.Tk):Prop:=L ≠ []∧∀ i,L.length≤i + 1→(tk L i).kind=0
theorem Ends.lt {L:List Lx.Tk} (h:Ends L) {i:Nat} (hk:(tk L i).kind ≠ 0):i + 1 < L.length:=by
 rcases Nat.lt_or_ge (i + 1) L.length with h1 | h1
 ·exact h1
 ·exact absurd (h.2 i h1) hk
theorem Ends.sgn {L:List Lx.Tk} (h:Ends L) {i:Nat} {s:List UInt8} (hk:sgn (tk L i)=s) (hs:s ≠ []):i + 1 < L.length:=
 h.lt fun e=>hs (by rw [← hk,sgn_end e])
theorem leaf_end {t:Lx.Tk} (h:t.kind=0):Ex.rightB nodeB (leafT t)=false:=by
 rw [leafT,if_neg (by omega),if_neg (by omega),if_neg (by omega)]
 rfl
theorem lev_ne {s:List UInt8} {k:Int} (h:Ex.lev s=k) (hk:k ≠ 0):s ≠ []:=fun e=>hk (by rw [← h,e,lev_nil])
theorem of_ne:∀ u:Ru,u.of ≠ 0:=by intro u; cases u <;> decide
theorem rd_at {M:Nat} {L:List Lx.Tk} (hL:Ends L):∀ (f d:Nat) (q:Q) (i:Nat) (T:Tree) (j:Nat),rd M L f d q i=some (.ok T j)→i≤j∧(i < L.length→j < L.length)∧((∀ u X,q ≠ .left u X)→i < j)
 | 0,d,q,i,T,j,h=>by cases h
 | f + 1,d,.left u X,i,T,j,h=>by
  rw [rd_left] at h
  split at h
  ·next hl=>
   rcases bindR_some h with ⟨Y,k,h1,h2⟩ | ⟨c,a,-,h2⟩
   ·have a1:=rd_at hL f d _ _ _ _ h1
    have a2:=rd_at hL f d _ _ _ _ h2
    have a3:=hL.sgn rfl (lev_ne hl (of_ne u))
    exact ⟨by omega,fun hi=>a2.2.1 (a1.2.1 a3),fun h=>absurd rfl (h u X)⟩
   ·cases h2
  ·cases h; exact ⟨Nat.le_refl _,id,fun h=>absurd rfl (h u X)⟩
 | f + 1,d,.list ks,i,T,j,h=>by
  rw [rd_list] at h
  rcases bindR_some h with ⟨Y,k,h1,h2⟩ | ⟨c,a,-,h2⟩
  ·have a1:=rd_at hL f d _ _ _ _ h1
   have a1':=a1.2.2 (by intro u X; exact Q.noConfusion)
   split at h2
   ·next hs=>
    have a2:=rd_at hL f d _ _ _ _ h2
    have a3:=hL.sgn hs (by simp)
    exact ⟨by omega,fun hi=>a2.2.1 a3,fun _=>by omega⟩
   ·split at h2
    ·next hs=>
     have a3:=hL.sgn hs (by simp)
     cases h2
     exact ⟨by omega,fun hi=>a3,fun _=>by omega⟩
    ·cases h2
  ·cases h2
 | f + 1,d,.rule .not,i,T,j,h=>by
  rw [rd_not] at h
  split at h
  ·next hs=>
   split at h
   ·cases h
   ·rcases bindR_some h with ⟨Y,k,h1,h2⟩ | ⟨c,a,-,h2⟩
    ·have a1:=rd_at hL _ _ _ _ _ _ h1
     have a3:=hL.sgn hs (by simp)
     cases h2
     exact ⟨by omega,fun hi=>a1.2.1 a3,fun _=>by omega⟩
    ·cases h2
  ·have a1:=rd_at hL _ _ _ _ _ _ h
   exact ⟨a1.1,a1.2.1,fun _=>a1.2.2 (by intro u X; exact Q.noConfusion)⟩
 | f + 1,d,.rule .neg,i,T,j,h=>by
  rw [rd_neg] at h
  split at h
  ·next hs=>
   split at h
   ·cases h
   ·rcases bindR_some h with ⟨Y,k,h1,h2⟩ | ⟨c,a,-,h2⟩
    ·have a1:=rd_at hL _ _ _ _ _ _ h1
     have a3:=hL.sgn hs (by simp)
     cases h2
     exact ⟨by omega,fun hi=>a1.2.1 a3,fun _=>by omega⟩
    ·cases h2
  ·have a1:=rd_at hL _ _ _ _ _ _ h
   exact ⟨a1.1,a1.2.1,fun _=>a1.2.2 (by intro u X; exact Q.noConfusion)⟩
 | f + 1,d,.rule .cmp,i,T,j,h=>by
  rw [rd_cmp] at h
  rcases bindR_some h with ⟨Y,k,h1,h2⟩ | ⟨c,a,-,h2⟩
  ·have a1:=rd_at hL _ _ _ _ _ _ h1
   have a1':=a1.2.2 (by intro u X; exact Q.noConfusion)
   split at h2
   ·next hs=>
    rcases bindR_some h2 with ⟨Z,m,h3,h4⟩ | ⟨c,a,-,h4⟩
    ·have a2:=rd_at hL _ _ _ _ _ _ h3
     have a3:=hL.sgn rfl (lev_ne hs (by decide))
     cases h4
     exact ⟨by omega,fun hi=>a2.2.1 a3,fun _=>by omega⟩
    ·cases h4
   ·cases h2
    exact ⟨a1.1,a1.2.1,fun _=>a1'⟩
  ·cases h2
 | f + 1,d,.rule .single,i,T,j,h=>by
  rw [rd_single] at h
  split at h
  ·next hs=>
   split at h
   ·cases h
   ·rcases bindR_some h with ⟨Y,k,h1,h2⟩ | ⟨c,a,-,h2⟩
    ·have a1:=rd_at hL _ _ _ _ _ _ h1
     split at h2
     ·next hs2=>
      have a3:=hL.sgn hs2 (by simp)
      cases h2
      exact ⟨by omega,fun hi=>a3,fun _=>by omega⟩
     ·cases h2
    ·cases h2
  ·split at h
   ·next hc=>
    split at h
    ·cases h
    ·split at h
     ·cases h
     ·rcases bindR_some h with ⟨Y,k,h1,h2⟩ | ⟨c,a,-,h2⟩
      ·have a1:=rd_at hL _ _ _ _ _ _ h1
       have a3:=hL.sgn hc.2 (by simp)
       split at h2
       ·cases h2
        exact ⟨by omega,fun hi=>a1.2.1 a3,fun _=>by omega⟩
       ·cases h2
      ·cases h2
   ·split at h
    ·next hr=>
     have a3:=hL.lt (i:=i) fun e=>by rw [leaf_end e] at hr; cases hr
     cases h
     exact ⟨by omega,fun hi=>a3,fun _=>by omega⟩
    ·cases h
 | f + 1,d,.rule .or,i,T,j,h=>by
  rw [rd_left_rule rfl] at h
  rcases bindR_some h with ⟨Y,k,h1,h2⟩ | ⟨c,a,-,h2⟩
  ·have a1:=rd_at hL _ _ _ _ _ _ h1
   have a1':=a1.2.2 (by intro u X; exact Q.noConfusion)
   have a2:=rd_at hL _ _ _ _ _ _ h2
   exact ⟨by omega,fun hi=>a2.2.1 (a1.2.1 hi),fun _=>by omega⟩
  ·cases h2
 | f + 1,d,.rule .and,i,T,j,h=>by
  rw [rd_left_rule rfl] at h
  rcases bindR_some h with ⟨Y,k,h1,h2⟩ | ⟨c,a,-,h2⟩
  ·have a1:=rd_at hL _ _ _ _ _ _ h1
   have a1':=a1.2.2 (by intro u X; exact Q.noConfusion)
   have a2:=rd_at hL _ _ _ _ _ _ h2
   exact ⟨by omega,fun hi=>a2.2.1 (a1.2.1 hi),fun _=>by omega⟩
  ·cases h2
 | f + 1,d,.rule .sum,i,T,j,h=>by
  rw [rd_left_rule rfl] at h
  rcases bindR_some h with ⟨Y,k,h1,h2⟩ | ⟨c,a,-,h2⟩
  ·have a1:=rd_at hL _ _ _ _ _ _ h1
   have a1':=a1.2.2 (by intro u X; exact Q.noConfusion)
   have a2:=rd_at hL _ _ _ _ _ _ h2
   exact ⟨by omega,fun hi=>a2.2.1 (a1.2.1 hi),fun _=>by omega⟩
  ·cases h2
 | f + 1,d,.rule .prod,i,T,j,h=>by
  rw [rd_left_rule rfl] at h
  rcases bindR_some h with ⟨Y,k,h1,h2⟩ | ⟨c,a,-,h2⟩
  ·have a1:=rd_at hL _ _ _ _ _ _ h1
   have a1':=a1.2.2 (by intro u X; exact Q.noConfusion)
   have a2:=rd_at hL _ _ _ _ _ _ h2
   exact ⟨by omega,fun hi=>a2.2.1 (a1.2.1 hi),fun _=>by omega⟩
  ·cases h2
end Ps
end Go.Proofs.YteghhmomhlnccaaGreatDoor
namespace Go.Proofs.YteghhmomhlnccaaGreatDoor
open Ex (Tree)
namespace Ps
theorem bindR_none {o:Option Res} {k:Tree→Nat→Option Res} (ho:o ≠ none) (hk:∀ T j,o=some (.ok T j)→k T j ≠ none):bindR o k ≠ none:=by
 cases o with
 | none=>exact absurd rfl ho
 | some x=>cases x with
  | ok T i=>exact hk T i rfl
  | bad c a=>simp [bindR]
theorem left_total {M:Nat} {L:List Lx.Tk} (hL:Ends L) {u:Ru} {d b:Nat} (hb:∀ f i,i < L.length→b≤f→rd M L f d (.rule u.below) i ≠ none):∀ (k f i:Nat) (T:Tree),L.length≤i + k→i < L.length→b + k≤f→rd M L f d (.left u T) i ≠ none
 | 0,f,i,T,h1,h2,h3=>by omega
 | k + 1,0,i,T,h1,h2,h3=>by omega
 | k + 1,f + 1,i,T,h1,h2,h3=>by
  rw [rd_left]
  split
  ·next hl=>
   have a3:=hL.sgn rfl (lev_ne hl (of_ne u))
   refine bindR_none (hb f (i + 1) a3 (by omega)) fun Y j hj=>?_
   have a1:=rd_at hL _ _ _ _ _ _ hj
   exact left_total hL hb k f j _ (by omega) (a1.2.1 a3) (by omega)
  ·simp
theorem rule_total {M:Nat} {L:List Lx.Tk} (hL:Ends L) {u:Ru} (hu:u.isLeft=true) {d b:Nat} (hb:∀ f i,i < L.length→b≤f→rd M L f d (.rule u.below) i ≠ none):∀ f i,i < L.length→b + L.length + 1≤f→rd M L f d (.rule u) i ≠ none
 | 0,i,h1,h2=>by omega
 | f + 1,i,h1,h2=>by
  rw [rd_left_rule hu]
  refine bindR_none (hb f i h1 (by omega)) fun Y j hj=>?_
  have a1:=rd_at hL _ _ _ _ _ _ hj
  exact left_total hL hb L.length f j _ (by omega) (a1.2.1 h1) (by omega)
theorem list_total {M:Nat} {L:List Lx.Tk} (hL:Ends L) {d b:Nat} (hb:∀ f i,i < L.length→b≤f→rd M L f d (.rule .or) i ≠ none):∀ (k f i:Nat) (ks:List Tree),L.length≤i + k→i < L.length→b + k≤f→rd M L f d (.list ks) i ≠ none
 | 0,f,i,T,h1,h2,h3=>by omega
 | k + 1,0,i,T,h1,h2,h3=>by omega
 | k + 1,f + 1,i,T,h1,h2,h3=>by
  rw [rd_list]
  refine bindR_none (hb f i h2 (by omega)) fun Y j hj=>?_
  have a1:=rd_at hL _ _ _ _ _ _ hj
  split
  ·next hs=>
   exact list_total hL hb k f (j + 1) _ (by omega) (hL.sgn hs (by simp)) (by omega)
  ·split <;> simp
structure All (M:Nat) (L:List Lx.Tk) (d c:Nat):Prop where
 single:∀ f i,i < L.length→c≤f→rd M L f d (.rule .single) i ≠ none
 neg:∀ f i,i < L.length→c + 1≤f→rd M L f d (.rule .neg) i ≠ none
 prod:∀ f i,i < L.length→c + 1 + L.length + 1≤f→rd M L f d (.rule .prod) i ≠ none
 sum:∀ f i,i < L.length→c + 1 + L.length + 1 + L.length + 1≤f→rd M L f d (.rule .sum) i ≠ none
 cmp:∀ f i,i < L.length→c + 1 + L.length + 1 + L.length + 1 + 1≤f→rd M L f d (.rule .cmp) i ≠ none
 not:∀ f i,i < L.length→c + 1 + L.length + 1 + L.length + 1 + 1 + 1≤f→rd M L f d (.rule .not) i ≠ none
 and:∀ f i,i < L.length→c + 1 + L.length + 1 + L.length + 1 + 1 + 1 + L.length + 1≤f→rd M L f d (.rule .and) i ≠ none
 or:∀ f i,i < L.length→c + 1 + L.length + 1 + L.length + 1 + 1 + 1 + L.length + 1 + L.length + 1≤f→rd M L f d (.rule .or) i ≠ none
def step (N:Nat):Nat:=5 * N + 10
theorem single_total {M:Nat} {L:List Lx.Tk} (hL:Ends L) {d c:Nat} (h:d ≠ M→All M L (d + 1) c):∀ f i,i < L.length→c + step L.length≤f→rd M L f d (.rule .single) i ≠ none
 | 0,i,h1,h2=>by simp only [step] at h2; omega
 | f + 1,i,h1,h2=>by
  simp only [step] at h2
  rw [rd_single]
  split
  ·next hs=>
   split
   ·simp
   ·next hd=>
    refine bindR_none ((h hd).or f (i + 1) (hL.sgn hs (by simp)) (by omega)) fun Y j hj=>?_
    split <;> simp
  ·split
   ·next hc=>
    split
    ·simp
    ·split
     ·simp
     ·next hd=>
      have a3:=hL.sgn hc.2 (by simp)
      refine bindR_none (list_total hL (h hd).or L.length f (i + 2) _ (by omega) a3 (by omega)) fun Y j hj=>?_
      split <;> simp
   ·split <;> simp
theorem neg_total {M:Nat} {L:List Lx.Tk} (hL:Ends L) {d c:Nat} (h:d ≠ M→All M L (d + 1) c) (hs:∀ f i,i < L.length→c + step L.length≤f→rd M L f d (.rule .single) i ≠ none):∀ f i,i < L.length→c + step L.length + 1≤f→rd M L f d (.rule .neg) i ≠ none
 | 0,i,h1,h2=>by omega
 | f + 1,i,h1,h2=>by
  simp only [step] at h2
  rw [rd_neg]
  split
  ·next hs=>
   split
   ·simp
   ·next hd=>
    exact bindR_none ((h hd).neg f (i + 1) (hL.sgn hs (by simp)) (by omega)) fun Y j hj=>by simp
  ·exact hs f i h1 (by simp only [step]; omega)
theorem cmp_total {M:Nat} {L:List Lx.Tk} (hL:Ends L) {d b:Nat} (h:∀ f i,i < L.length→b≤f→rd M L f d (.rule .sum) i ≠ none):∀ f i,i < L.length→b + 1≤f→rd M L f d (.rule .cmp) i ≠ none
 | 0,i,h1,h2=>by omega
 | f + 1,i,h1,h2=>by
  rw [rd_cmp]
  refine bindR_none (h f i h1 (by omega)) fun Y j hj=>?_
  split
  ·next hl=>
   exact bindR_none (h f (j + 1) (hL.sgn rfl (lev_ne hl (by decide))) (by omega)) fun Z k hk=>by simp
  ·simp
theorem not_total {M:Nat} {L:List Lx.Tk} (hL:Ends L) {d c b:Nat} (h:d ≠ M→All M L (d + 1) c) (hb:c + 1 + L.length + 1 + L.length + 1 + 1 + 1≤b) (hs:∀ f i,i < L.length→b≤f→rd M L f d (.rule .cmp) i ≠ none):∀ f i,i < L.length→b + 1≤f→rd M L f d (.rule .not) i ≠ none
 | 0,i,h1,h2=>by omega
 | f + 1,i,h1,h2=>by
  rw [rd_not]
  split
  ·next hs=>
   split
   ·simp
   ·next hd=>
    exact bindR_none ((h hd).not f (i + 1) (hL.sgn hs (by simp)) (by omega)) fun Y j hj=>by simp
  ·exact hs f i h1 (by omega)
theorem all_step {M:Nat} {L:List Lx.Tk} (hL:Ends L) {d c:Nat} (h:d ≠ M→All M L (d + 1) c):All M L d (c + step L.length):=by
 have hs:=single_total hL h
 have hn:=neg_total hL h hs
 have hp:=rule_total hL (u:=.prod) rfl hn
 have hm:=rule_total hL (u:=.sum) rfl hp
 have hc:=cmp_total hL hm
 have ht:=not_total hL h (by simp only [step]; omega) hc
 have ha:=rule_total hL (u:=.and) rfl ht
 exact ⟨hs,hn,hp,hm,hc,ht,ha,rule_total hL (u:=.or) rfl ha⟩
theorem all_of {M:Nat} {L:List Lx.Tk} (hL:Ends L):∀ (n d:Nat),d + n=M→All M L d ((n + 1) * step L.length)
 | 0,d,h=>by
  have:=all_step (M:=M) hL (d:=d) (c:=0) (fun hd=>absurd (by omega) hd)
  simpa using this
 | n + 1,d,h=>by
  have:=all_step (M:=M) hL (d:=d) (fun _=>all_of hL n (d + 1) (by omega))
  rwa [show (n + 1 + 1) * step L.length=(n + 1) * step L.length + step L.length by rw [Nat.add_mul (n + 1) 1,Nat.one_mul]]
def fuel (M N:Nat):Nat:=(M + 2) * step N
theorem or_total {M:Nat} {L:List Lx.Tk} (hL:Ends L):rd M L (fuel M L.length) 0 (.rule .or) 0 ≠ none:=by
 have h0:0 < L.length:=List.length_pos_iff.2 hL.1
 refine (all_of hL M 0 (by omega)).or _ 0 h0 ?_
 have e:fuel M L.length=(M + 1) * step L.length + step L.length:=by rw [fuel,Nat.add_mul,Nat.add_mul]; omega
 rw [e]
 simp only [step]
 omega
def all (M:Nat) (L:List Lx.Tk):Res:=match rd M L (fuel M L.length) 0 (.rule .or) 0 with
 | some r=>r
 | none=>.bad 0 0
theorem all_some {M:Nat} {L:List Lx.Tk} (hL:Ends L):rd M L (fuel M L.length) 0 (.rule .or) 0=some (all M L):=by
 have:=or_total (M:=M) hL
 unfold all
 cases h:rd M L (fuel M L.length) 0 (.rule .or) 0 with
 | none=>exact absurd h this
 | some r=>rfl
end Ps
end Go.Proofs.YteghhmomhlnccaaGreatDoor
namespace Go.Proofs.YteghhmomhlnccaaGreatDoor
open Ex (Tree)
open Go.Lib
namespace Ps
def mlev (t:List UInt8):Nat:=if Ex.lev t=1 then 0 else if Ex.lev t=2 then 1 else if Ex.lev t=3 then 3 else if Ex.lev t=4 then 4 else if Ex.lev t=5 then 5 else 7
def slev:Tree→Nat
 | .node op t _ _ _ _=>if op=4 then 2 else if op=3 then 6 else if op=5 then mlev t else 7
abbrev nullL:List UInt8:=[110,117,108,108]
abbrev trueL:List UInt8:=[116,114,117,101]
abbrev falseL:List UInt8:=[102,97,108,115,101]
def vpr (k n:Int) (s:List UInt8):List UInt8:=if k=0 then nullL else if k=3 then (if n=1 then trueL else falseL) else if k=1 then itoa n else quo s
def par (n:Nat) (p:Nat × List UInt8):List UInt8:=if n≤p.1 then p.2 else 40 :: (p.2 ++ [41])
def commas:List (Nat × List UInt8)→List UInt8
 | []=>[]
 | [x]=>x.2
 | x :: y :: l=>x.2 ++ 44 :: 32 :: commas (y :: l)
abbrev zp:Nat × List UInt8:=(7,[])
def fl (m:Nat):Nat:=if m=3 then 4 else m
def prN (op:Int) (t:List UInt8) (vk vn:Int) (vs:List UInt8) (kl:List (Nat × List UInt8)):List UInt8:=
 if op=1 then vpr vk vn vs else if op=2 then t
 else if op=3 then 45 :: par 6 (kl.headD zp)
 else if op=4 then 110 :: 111 :: 116 :: 32 :: par 2 (kl.headD zp)
 else if op=5 then par (fl (mlev t)) (kl.headD zp) ++ 32 :: (t ++ 32 :: par (mlev t + 1) (kl.tail.headD zp))
 else if op=6 then t ++ 40 :: (commas kl ++ [41]) else []
mutual
def pr:Tree→List UInt8
 | .node op t vk vn vs ks=>prN op t vk vn vs (prs ks)
def prs:List Tree→List (Nat × List UInt8)
 | []=>[]
 | x :: l=>(slev x,pr x) :: prs l
end
abbrev W2:=Nat × List UInt8
def markW (t:List UInt8):W2:=(if mlev t≤1 then 2 else 5,t)
def puts (A:List Lx.Tk) (o:Lx.Out):Lx.Out:=A.foldr Lx.Out.put o
theorem puts_append (A B:List Lx.Tk) (o:Lx.Out):puts (A ++ B) o=puts A (puts B o):=by simp [puts]
def Lexes (l z:List UInt8) (p:Nat) (A:List Lx.Tk):Prop:=∀ f g,(l ++ z).length < f→z.length < g→Lx.lexF f p (l ++ z)=puts A (Lx.lexF g (p + l.length) z)
theorem Lexes.nil (z:List UInt8) (p:Nat):Lexes [] z p []:=fun f g hf hg=>by
 show Lx.lexF f p z=Lx.lexF g p z
 exact Lx.lex_fuel f g p z hf hg
theorem Lexes.append {a b z:List UInt8} {p:Nat} {A B:List Lx.Tk} (h1:Lexes a (b ++ z) p A) (h2:Lexes b z (p + a.length) B):Lexes (a ++ b) z p (A ++ B):=fun f g hf hg=>by
 rw [List.append_assoc] at hf ⊢
 rw [h1 f ((b ++ z).length + 1) hf (by omega),h2 _ g (by omega) hg,puts_append,List.length_append,Nat.add_assoc]
theorem Lexes.blank (z:List UInt8) (p:Nat):Lexes [32] z p []:=fun f g hf hg=>by
 obtain ⟨f,rfl⟩:∃ f',f=f' + 1:=⟨f - 1,by omega⟩
 show Lx.lexF (f + 1) p (32 :: z)=Lx.lexF g (p + 1) z
 rw [Lx.lex_blank _ _ _ (by decide)]
 exact Lx.lex_fuel f g _ z (by simp at hf; omega) hg
theorem Lexes.word {t z:List UInt8} {c:UInt8} (p:Nat) (hc:t.head?=some c) (h1:¬ Lx.blank c=true) (h2:c ≠ 35) {k:Nat} {x:List UInt8} (h:Lx.word (t ++ z)=⟨k,t.length,x,0⟩):Lexes t z p [⟨k,x,p⟩]:=fun f g hf hg=>by
 obtain ⟨f,rfl⟩:∃ f',f=f' + 1:=⟨f - 1,by omega⟩
 have hl:1≤t.length:=by cases t <;> simp at hc ⊢
 rw [Lx.lex_first f p t z c hc h1 h2 (by rw [h]) (by rw [h]),h,Lx.lex_fuel f g _ z (by simp at hf; omega) hg]
 rfl
end Ps
end Go.Proofs.YteghhmomhlnccaaGreatDoor
namespace Go.Proofs.YteghhmomhlnccaaGreatDoor
open Ex (Tree)
namespace Ps
def Q.base:Q→Nat
 | .rule _=>0
 | .left _ T=>Ex.count T
 | .list ks=>Ex.counts ks + 1
theorem count_bin (t:List UInt8) (X Y:Tree):Ex.count (binT t X Y)=Ex.count X + Ex.count Y + 1:=by simp [binT,Ex.count,Ex.counts]
theorem count_one (o:Int) (X:Tree):Ex.count (.node o [] 0 0 [] [X])=Ex.count X + 1:=by simp [Ex.count,Ex.counts]
theorem count_node (o:Int) (t:List UInt8) (ks:List Tree):Ex.count (.node o t 0 0 [] ks)=Ex.counts ks + 1:=by rw [Ex.count]
theorem counts_snoc (ks:List Tree) (X:Tree):Ex.counts (ks ++ [X])=Ex.counts ks + Ex.count X:=by rw [Ex.counts_append]; simp [Ex.counts]
theorem count_leaf (t:Lx.Tk):Ex.count (leafT t)=1:=by
 unfold leafT
 split
 ·simp [Ex.count,Ex.counts]
 ·split
  ·simp [Ex.count,Ex.counts]
  ·split
   ·split <;> simp [Ex.count,Ex.counts]
   ·simp [Ex.count,Ex.counts]
theorem rd_count {M:Nat} {L:List Lx.Tk} (hL:Ends L):∀ (f d:Nat) (q:Q) (i:Nat) (T:Tree) (j:Nat),rd M L f d q i=some (.ok T j)→Ex.count T≤q.base + (j - i)
 | 0,d,q,i,T,j,h=>by cases h
 | f + 1,d,.left u X,i,T,j,h=>by
  rw [rd_left] at h
  split at h
  ·rcases bindR_some h with ⟨Y,k,h1,h2⟩ | ⟨c,a,-,h2⟩
   ·have a1:=rd_at hL _ _ _ _ _ _ h1
    have a2:=rd_at hL _ _ _ _ _ _ h2
    have c1:=rd_count hL f d _ _ _ _ h1
    have c2:=rd_count hL f d _ _ _ _ h2
    simp only [Q.base,count_bin] at c1 c2 ⊢
    omega
   ·cases h2
  ·cases h; simp only [Q.base]; omega
 | f + 1,d,.list ks,i,T,j,h=>by
  rw [rd_list] at h
  rcases bindR_some h with ⟨Y,k,h1,h2⟩ | ⟨c,a,-,h2⟩
  ·have a1:=rd_at hL _ _ _ _ _ _ h1
   have c1:=rd_count hL f d _ _ _ _ h1
   split at h2
   ·have a2:=rd_at hL _ _ _ _ _ _ h2
    have c2:=rd_count hL f d _ _ _ _ h2
    simp only [Q.base,counts_snoc] at c1 c2 ⊢
    omega
   ·split at h2
    ·cases h2
     simp only [Q.base,count_node,counts_snoc] at c1 ⊢
     omega
    ·cases h2
  ·cases h2
 | f + 1,d,.rule .not,i,T,j,h=>by
  rw [rd_not] at h
  split at h
  ·split at h
   ·cases h
   ·rcases bindR_some h with ⟨Y,k,h1,h2⟩ | ⟨c,a,-,h2⟩
    ·have a1:=rd_at hL _ _ _ _ _ _ h1
     have c1:=rd_count hL _ _ _ _ _ _ h1
     cases h2
     simp only [Q.base,count_one] at c1 ⊢
     omega
    ·cases h2
  ·have:=rd_count hL _ _ _ _ _ _ h
   simp only [Q.base] at this ⊢
   exact this
 | f + 1,d,.rule .neg,i,T,j,h=>by
  rw [rd_neg] at h
  split at h
  ·split at h
   ·cases h
   ·rcases bindR_some h with ⟨Y,k,h1,h2⟩ | ⟨c,a,-,h2⟩
    ·have a1:=rd_at hL _ _ _ _ _ _ h1
     have c1:=rd_count hL _ _ _ _ _ _ h1
     cases h2
     simp only [Q.base,count_one] at c1 ⊢
     omega
    ·cases h2
  ·have:=rd_count hL _ _ _ _ _ _ h
   simp only [Q.base] at this ⊢
   exact this
 | f + 1,d,.rule .cmp,i,T,j,h=>by
  rw [rd_cmp] at h
  rcases bindR_some h with ⟨Y,k,h1,h2⟩ | ⟨c,a,-,h2⟩
  ·have a1:=rd_at hL _ _ _ _ _ _ h1
   have c1:=rd_count hL _ _ _ _ _ _ h1
   split at h2
   ·rcases bindR_some h2 with ⟨Z,m,h3,h4⟩ | ⟨c,a,-,h4⟩
    ·have a2:=rd_at hL _ _ _ _ _ _ h3
     have c2:=rd_count hL _ _ _ _ _ _ h3
     cases h4
     simp only [Q.base,count_bin] at c1 c2 ⊢
     omega
    ·cases h4
   ·cases h2; exact c1
  ·cases h2
 | f + 1,d,.rule .single,i,T,j,h=>by
  rw [rd_single] at h
  split at h
  ·split at h
   ·cases h
   ·rcases bindR_some h with ⟨Y,k,h1,h2⟩ | ⟨c,a,-,h2⟩
    ·have a1:=rd_at hL _ _ _ _ _ _ h1
     have c1:=rd_count hL _ _ _ _ _ _ h1
     split at h2
     ·cases h2
      simp only [Q.base] at c1 ⊢
      omega
     ·cases h2
    ·cases h2
  ·split at h
   ·split at h
    ·cases h
    ·split at h
     ·cases h
     ·rcases bindR_some h with ⟨Y,k,h1,h2⟩ | ⟨c,a,-,h2⟩
      ·have a1:=rd_at hL _ _ _ _ _ _ h1
       have c1:=rd_count hL _ _ _ _ _ _ h1
       split at h2
       ·cases h2
        have:Ex.count Y=Ex.counts Y.kids + 1:=Ex.count_kids Y
        simp only [Q.base,count_node,Ex.counts] at c1 ⊢
        omega
       ·cases h2
      ·cases h2
   ·split at h
    ·cases h
     rw [count_leaf]
     simp only [Q.base]; omega
    ·cases h
 | f + 1,d,.rule .or,i,T,j,h=>by
  rw [rd_left_rule rfl] at h
  rcases bindR_some h with ⟨Y,k,h1,h2⟩ | ⟨c,a,-,h2⟩
  ·have a1:=rd_at hL _ _ _ _ _ _ h1
   have a2:=rd_at hL _ _ _ _ _ _ h2
   have c1:=rd_count hL _ _ _ _ _ _ h1
   have c2:=rd_count hL _ _ _ _ _ _ h2
   simp only [Q.base] at c1 c2 ⊢
   omega
  ·cases h2
 | f + 1,d,.rule .and,i,T,j,h=>by
  rw [rd_left_rule rfl] at h
  rcases bindR_some h with ⟨Y,k,h1,h2⟩ | ⟨c,a,-,h2⟩
  ·have a1:=rd_at hL _ _ _ _ _ _ h1
   have a2:=rd_at hL _ _ _ _ _ _ h2
   have c1:=rd_count hL _ _ _ _ _ _ h1
   have c2:=rd_count hL _ _ _ _ _ _ h2
   simp only [Q.base] at c1 c2 ⊢
   omega
  ·cases h2
 | f + 1,d,.rule .sum,i,T,j,h=>by
  rw [rd_left_rule rfl] at h
  rcases bindR_some h with ⟨Y,k,h1,h2⟩ | ⟨c,a,-,h2⟩
  ·have a1:=rd_at hL _ _ _ _ _ _ h1
   have a2:=rd_at hL _ _ _ _ _ _ h2
   have c1:=rd_count hL _ _ _ _ _ _ h1
   have c2:=rd_count hL _ _ _ _ _ _ h2
   simp only [Q.base] at c1 c2 ⊢
   omega
  ·cases h2
 | f + 1,d,.rule .prod,i,T,j,h=>by
  rw [rd_left_rule rfl] at h
  rcases bindR_some h with ⟨Y,k,h1,h2⟩ | ⟨c,a,-,h2⟩
  ·have a1:=rd_at hL _ _ _ _ _ _ h1
   have a2:=rd_at hL _ _ _ _ _ _ h2
   have c1:=rd_count hL _ _ _ _ _ _ h1
   have c2:=rd_count hL _ _ _ _ _ _ h2
   simp only [Q.base] at c1 c2 ⊢
   omega
  ·cases h2
def atR (L:List Lx.Tk):Res:=match all 30 L with
 | .bad c a=>.bad c a
 | .ok T j=>if 30 < Ex.depth T then .bad 18 (tk L 0).at_ else if 300 < Ex.count T then .bad 3 (tk L 0).at_ else .ok T j
def parse (l:List UInt8):Res:=match Lx.lx l with
 | .bad c a=>.bad c a
 | .ok L=>match atR L with
  | .bad c a=>.bad c a
  | .ok T j=>if (tk L j).kind=0 then .ok T j else .bad 8 (tk L j).at_
theorem lexF_end:∀ (f p:Nat) (l:List UInt8) (T:List Lx.Tk),l.length < f→Lx.lexF f p l=.ok T→Ends T∧∀ k,(tk T k).text.length≤l.length:=fun f p l T hf h=>by
 obtain ⟨A,hA,hi⟩:=Lx.lex_at f p l T hf h
 subst hA
 have key:∀ k,(tk (A ++ [⟨0,[],p + l.length⟩]) k)=⟨0,[],p + l.length⟩∨(tk (A ++ [⟨0,[],p + l.length⟩]) k)=⟨0,[],0⟩∨∃ h:k < A.length,tk (A ++ [⟨0,[],p + l.length⟩]) k=A[k]:=fun k=>by
  by_cases h1:k < A.length
  ·exact .inr (.inr ⟨h1,by rw [tk_lt (by simp; omega),List.getElem_append_left h1]⟩)
  ·by_cases h2:k=A.length
   ·subst h2
    exact .inl (by rw [tk_lt (by simp)]; simp)
   ·exact .inr (.inl (tk_ge (by simp; omega)))
 refine ⟨⟨by simp,fun k hk=>?_⟩,fun k=>?_⟩
 ·rcases key k with e | e | ⟨h,e⟩
  ·rw [e]
  ·rw [e]
  ·simp at hk; omega
 ·rcases key k with e | e | ⟨h,e⟩
  ·rw [e]; simp
  ·rw [e]; simp
  ·obtain ⟨q,q1,q2,q3,c,r,q4,q5,q6,q7,q8,q9⟩:=hi k h
   rw [e,q9]
   have hs:=Lx.word_spelt c r q7
   have hl:(Lx.spelt (Lx.word (c :: r)).kind (Lx.word (c :: r)).text).length≤(c :: r).length:=by rw [← hs,List.length_take]; omega
   have hd:(c :: r).length≤l.length:=by rw [← q4,List.length_drop]; omega
   have ht:(Lx.word (c :: r)).text.length≤(Lx.spelt (Lx.word (c :: r)).kind (Lx.word (c :: r)).text).length:=by
    unfold Lx.spelt
    split
    ·have:∀ u:List UInt8,u.length≤(esc u).length:=by
      intro u
      induction u with
      | nil=>simp [esc]
      | cons x u ih=>simp only [esc]; split <;> simp <;> omega
     have:=this (Lx.word (c :: r)).text
     simp [quo]; omega
    ·exact Nat.le_refl _
   omega
theorem lx_end {l:List UInt8} {T:List Lx.Tk} (h:Lx.lx l=.ok T):Ends T∧(∀ k,(tk T k).text.length≤4000)∧l.length≤4000:=by
 unfold Lx.lx at h
 split at h
 ·cases h
 ·next hl=>
  obtain ⟨h1,h2⟩:=lexF_end _ _ _ _ (Nat.lt_succ_self _) h
  exact ⟨h1,fun k=>Nat.le_trans (h2 k) (by omega),by omega⟩
theorem lexF_few:∀ (f p:Nat) (l:List UInt8) (T:List Lx.Tk),l.length < f→Lx.lexF f p l=.ok T→T.length≤l.length + 1:=fun f p l T hf h=>by
 obtain ⟨A,hA,hi⟩:=Lx.lex_at f p l T hf h
 subst hA
 by_cases h0:A.length=0
 ·simp [h0]
 ·obtain ⟨q,q1,q2,q3,-⟩:=hi (A.length - 1) (by omega)
  simp
  omega
theorem lx_few {l:List UInt8} {T:List Lx.Tk} (h:Lx.lx l=.ok T):T.length≤4001:=by
 unfold Lx.lx at h
 split at h
 ·cases h
 ·have:=lexF_few _ _ _ _ (Nat.lt_succ_self _) h
  omega
end Ps
end Go.Proofs.YteghhmomhlnccaaGreatDoor
namespace Go.Proofs.YteghhmomhlnccaaGreatDoor
open Ex (Tree)
namespace Ps
def Code3 (c:Nat):Prop:=c=8∨c=9∨c=18
theorem rd_code {M:Nat} {L:List Lx.Tk} : ∀ (f d:Nat) (q:Q) (i:Nat) (c a:Nat),rd M L f d q i=some (.bad c a)→Code3 c
 | 0,d,q,i,c,a,h=>by cases h
 | f + 1,d,.left u X,i,c,a,h=>by
  rw [rd_left] at h
  split at h
  ·rcases bindR_some h with ⟨Y,k,h1,h2⟩ | ⟨c,a,h1,h2⟩
   ·exact rd_code _ _ _ _ _ _ h2
   ·cases h2; exact rd_code _ _ _ _ _ _ h1
  ·cases h
 | f + 1,d,.list ks,i,c,a,h=>by
  rw [rd_list] at h
  rcases bindR_some h with ⟨Y,k,h1,h2⟩ | ⟨c,a,h1,h2⟩
  ·split at h2
   ·exact rd_code _ _ _ _ _ _ h2
   ·split at h2
    ·cases h2
    ·cases h2; exact .inl rfl
  ·cases h2; exact rd_code _ _ _ _ _ _ h1
 | f + 1,d,.rule .not,i,c,a,h=>by
  rw [rd_not] at h
  split at h
  ·split at h
   ·cases h; exact .inr (.inr rfl)
   ·rcases bindR_some h with ⟨Y,k,h1,h2⟩ | ⟨c,a,h1,h2⟩
    ·cases h2
    ·cases h2; exact rd_code _ _ _ _ _ _ h1
  ·exact rd_code _ _ _ _ _ _ h
 | f + 1,d,.rule .neg,i,c,a,h=>by
  rw [rd_neg] at h
  split at h
  ·split at h
   ·cases h; exact .inr (.inr rfl)
   ·rcases bindR_some h with ⟨Y,k,h1,h2⟩ | ⟨c,a,h1,h2⟩
    ·cases h2
    ·cases h2; exact rd_code _ _ _ _ _ _ h1
  ·exact rd_code _ _ _ _ _ _ h
 | f + 1,d,.rule .cmp,i,c,a,h=>by
  rw [rd_cmp] at h
  rcases bindR_some h with ⟨Y,k,h1,h2⟩ | ⟨c,a,h1,h2⟩
  ·split at h2
   ·rcases bindR_some h2 with ⟨Z,m,h3,h4⟩ | ⟨c,a,h3,h4⟩
    ·cases h4
    ·cases h4; exact rd_code _ _ _ _ _ _ h3
   ·cases h2
  ·cases h2; exact rd_code _ _ _ _ _ _ h1
 | f + 1,d,.rule .single,i,c,a,h=>by
  rw [rd_single] at h
  split at h
  ·split at h
   ·cases h; exact .inr (.inr rfl)
   ·rcases bindR_some h with ⟨Y,k,h1,h2⟩ | ⟨c,a,h1,h2⟩
    ·split at h2
     ·cases h2
     ·cases h2; exact .inl rfl
    ·cases h2; exact rd_code _ _ _ _ _ _ h1
  ·split at h
   ·split at h
    ·cases h; exact .inr (.inl rfl)
    ·split at h
     ·cases h; exact .inr (.inr rfl)
     ·rcases bindR_some h with ⟨Y,k,h1,h2⟩ | ⟨c,a,h1,h2⟩
      ·split at h2
       ·cases h2
       ·cases h2; exact .inl rfl
      ·cases h2; exact rd_code _ _ _ _ _ _ h1
   ·split at h
    ·cases h
    ·cases h; exact .inl rfl
 | f + 1,d,.rule .or,i,c,a,h=>by
  rw [rd_left_rule rfl] at h
  rcases bindR_some h with ⟨Y,k,h1,h2⟩ | ⟨c,a,h1,h2⟩
  ·exact rd_code _ _ _ _ _ _ h2
  ·cases h2; exact rd_code _ _ _ _ _ _ h1
 | f + 1,d,.rule .and,i,c,a,h=>by
  rw [rd_left_rule rfl] at h
  rcases bindR_some h with ⟨Y,k,h1,h2⟩ | ⟨c,a,h1,h2⟩
  ·exact rd_code _ _ _ _ _ _ h2
  ·cases h2; exact rd_code _ _ _ _ _ _ h1
 | f + 1,d,.rule .sum,i,c,a,h=>by
  rw [rd_left_rule rfl] at h
  rcases bindR_some h with ⟨Y,k,h1,h2⟩ | ⟨c,a,h1,h2⟩
  ·exact rd_code _ _ _ _ _ _ h2
  ·cases h2; exact rd_code _ _ _ _ _ _ h1
 | f + 1,d,.rule .prod,i,c,a,h=>by
  rw [rd_left_rule rfl] at h
  rcases bindR_some h with ⟨Y,k,h1,h2⟩ | ⟨c,a,h1,h2⟩
  ·exact rd_code _ _ _ _ _ _ h2
  ·cases h2; exact rd_code _ _ _ _ _ _ h1
theorem at_bad {L:List Lx.Tk} (hL:Ends L) {c a:Nat} (h:atR L=.bad c a):c ≠ 0:=by
 unfold atR at h
 have hs:=all_some (M:=30) hL
 split at h
 ·next c' a' e=>
  cases h
  rw [e] at hs
  have:=rd_code _ _ _ _ _ _ hs
  unfold Code3 at this
  omega
 ·split at h
  ·cases h; decide
  ·split at h
   ·cases h; decide
   ·cases h
theorem at_ok {L:List Lx.Tk} (hL:Ends L) {T:Tree} {j:Nat} (h:atR L=.ok T j):all 30 L=.ok T j∧Ex.depth T≤30∧Ex.count T≤300∧j < L.length:=by
 unfold atR at h
 have hs:=all_some (M:=30) hL
 split at h
 ·cases h
 ·next T' j' e=>
  split at h
  ·cases h
  ·split at h
   ·cases h
   ·cases h
    rw [e] at hs
    exact ⟨e,by omega,by omega,(rd_at hL _ _ _ _ _ _ hs).2.1 (List.length_pos_iff.2 hL.1)⟩
theorem lexF_bad:∀ (f p:Nat) (l:List UInt8) (c a:Nat),l.length < f→Lx.lexF f p l=.bad c a→c ≠ 0
 | 0,_,l,_,_,h,_=>absurd h (Nat.not_lt_zero _)
 | f + 1,p,[],c,a,_,h=>by rw [Lx.lex_nil] at h; cases h
 | f + 1,p,x :: r,c,a,hf,h=>by
  simp only [List.length_cons] at hf
  by_cases h1:Lx.blank x=true
  ·rw [Lx.lex_blank _ _ _ h1] at h
   exact lexF_bad f _ r c a (by omega) h
  ·by_cases h2:x=35
   ·subst h2
    rw [Lx.lex_note] at h
    exact lexF_bad f _ _ c a (by rw [List.length_drop]; omega) h
   ·by_cases h3:(Lx.word (x :: r)).err=0
    ·have hw:=Lx.word_ok x r h3
     rw [Lx.lex_word _ _ _ h1 h2 h3] at h
     cases hs:Lx.lexF f (p + (Lx.word (x :: r)).n) ((x :: r).drop (Lx.word (x :: r)).n) with
     | bad c' a'=>
      rw [hs] at h
      cases h
      exact lexF_bad f _ _ _ _ (by rw [List.length_drop,List.length_cons]; omega) hs
     | ok T=>rw [hs] at h; cases h
    ·rw [Lx.lex_bad _ _ _ h1 h2 h3] at h
     cases h
     exact h3
theorem lx_bad {l:List UInt8} {c a:Nat} (h:Lx.lx l=.bad c a):c ≠ 0:=by
 unfold Lx.lx at h
 split at h
 ·cases h; decide
 ·exact lexF_bad _ _ _ _ _ (Nat.lt_succ_self _) h
end Ps
end Go.Proofs.YteghhmomhlnccaaGreatDoor
namespace Go.Proofs.YteghhmomhlnccaaGreatDoor
open Ex (Tree)
namespace Ps
abbrev NP:=Int→List UInt8→Int→Int→List UInt8→Nat→Bool
structure Good (p:NP):Prop where
 leaf:∀ t:Lx.Tk,Ex.rightB nodeB (leafT t)=true→Ex.ones p (leafT t)=true
 not:p 4 [] 0 0 [] 1=true
 neg:p 3 [] 0 0 [] 1=true
 bin:∀ t,Ex.lev t ≠ 0→p 5 t 0 0 [] 2=true
 call:∀ t n,((n:Nat):Int)=Ex.arity t→p 6 t 0 0 [] n=true
def Q.oneB (p:NP):Q→Bool
 | .rule _=>true
 | .left _ T=>Ex.ones p T
 | .list ks=>Ex.oness p ks
def Q.res (p:NP):Q→Tree→Bool
 | .list _,T=>Ex.oness p T.kids
 | _,T=>Ex.ones p T
end Ps
end Go.Proofs.YteghhmomhlnccaaGreatDoor
