import Derived.Test.YteghhmomhlnccaaGreatDoorYT4
import Derived.RangeFuncKeeps
import Derived.RangeFuncBound
import Derived.RangeFuncLeaves
import Derived.RangeFuncNested
import Derived.RangeFuncWrites
import Derived.Shelf.Abstract
import Derived.Shelf.RegionOpen
import Derived.OwnWalkIn
import Derived.TacticsInMore
import Derived.RangeFuncBox
import Derived.LoopIn
import Derived.LoopNIn
import Derived.Test.YteghhmomhlnccaaGreatDoorYT3
set_option linter.unusedVariables false
set_option linter.unusedSimpArgs false
set_option maxRecDepth 100000
set_option maxHeartbeats 100000000
open Go.RowKit Go.Lib
namespace Go.Proofs.YteghhmomhlnccaaGreatDoor
open Go.RowKit Go.Shelf
attribute [local go_sem] Oper.semAt_some
def AbidesG {β:Type} (B:Nat) (J:β→List Nat→World→Prop):Prop:=∀ s G H W W',J s G W→Touch H W W'→(∀ k ∈ H,B≤k∧k ∉ G)→J s G W'
def SeqG {α:Type} (n₀:Nat) (R:List Nat) (F:Fence) (n:Nat) (P:Program) (g:Nat) (lb:Array Value) (encs:α→Array Value) (Fx:List α→α→World→Prop) (S:List α→Prop) (w:World):Prop:=
 ∀ (l:Nat) (J:List α→List Nat→World→Prop) (Jx:List α→World→Prop) (W:World),Below w.heap.size w W→AbidesG W.heap.size J→(∀ s G W',J s G W'→∀ k ∈ G,n₀≤k∧k < W'.heap.size∧k ∉ R)→n₀≤l→l < W.heap.size→l ∉ R →
  (∀ pre G x W1,J pre G W1→Fx pre x W1→YieldAt F (n - 1) P l (encs x) W1 fun e W'=>
   (e=.returned (.bool true)∧Touch (l :: G) W1 W'∧∃ G',J (pre ++ [x]) G' W'∧∀ k ∈ G',k ∈ G∨W1.heap.size≤k)∨(e=.returned (.bool false)∧Jx (pre ++ [x]) W')) →
  (∃ G,J [] G W) →
  CallsIn F n P g (#[.func (.yield l) #[] #[]] ++ lb) W fun e W'=>(∃ v,e=.returned v)∧((∃ xs G,S xs∧J xs G W')∨∃ pre,Jx pre W')
def roundPost {α:Type} (B:Nat) (I:List α→List Nat→World→Prop) (Ix:Code→List α→World→Prop) (xs:List α) (G:List Nat) (W:World):Exit→Act→World→Prop
 | .normal,_,W'=>Touch G W W'∧∃ G',I xs G' W'∧∀ k ∈ G',k ∈ G∨W.heap.size≤k
 | .ret,_,W'=>KeepsFrom B W W'∧Ix .ret xs W'
 | _,_,_=>False
theorem touch_putObj (W:World) (l:Nat) (o:Obj):Touch [l] W (W.putObj l o):=⟨rfl,rfl,rfl,by simp [World.putObj],fun k _ hk=>World.putObj_heap_other (fun e=>hk (by simp [e]))⟩
def ctl:Obj→Bool
 | .loop _=>true
 | .deferred _=>true
 | _=>false
section
variable {F : Fence} {n : Nat} {P : Program}
theorem wpIn_rangeFunc_G {α:Type} {g:Operand} {ps:Array Tmp} {assign body:Code} {Q:Exit→Act→World→Prop} {a:Act} {w:World}
  (hro:F.round=none) (h1:1≤n) {gf:Nat} {lb:Array Value} (hg:a.eval g=.func (.func gf) #[] lb) (hFg:F.fn gf) (eg:∀ args w,(callFunc gf args).run P w=.ok (.enter gf args) w)
  {encs:α→Array Value} {Fx:List α→α→World→Prop} {S:List α→Prop} {n₀:Nat} {R:List Nat} {w0:World} (hseq:SeqG n₀ R F (n - 1) P gf lb encs Fx S w0) (hb0:Below w0.heap.size w0 w) (hn₀:n₀≤w.heap.size) (hRs:∀ k ∈ R,k < w.heap.size) (hps:∀ x,(encs x).size=ps.size)
  (I:List α→List Nat→World→Prop) (hI:∀ s G H W W',I s G W→Touch H W W'→(∀ k ∈ H,w.heap.size≤k∧k ∉ G)→I s G W')
  (hIG:∀ s G W,I s G W→∀ k ∈ G,n₀≤k∧k < W.heap.size∧k ∉ R∧∃ o,W.heap[k]?=some o∧ctl o=false)
  (Ix:Code→List α→World→Prop) (hIx:∀ c,OwnFrom w.heap.size (Ix c)) (h0:∃ G,I [] G w)
  (Ax:List α→α→Act→World→Prop) (hAx:∀ pre x a',OwnFrom w.heap.size (fun (_:Unit) W=>Ax pre x a' W))
  (hassign:∀ (l:Nat) (pre:List α) (G:List Nat) (x:α) (W:World) (K:Act→World→Prop),I pre G W→Fx pre x W→(∀ a' W',Below W.heap.size W W'→Ax pre x a' W'→K a' W') →
   assign.wpIn (F.inRound l) (n - 1 - 1) P (Exit.then K (fun _ _ _=>False)) { tmps:=(ps.zip (encs x)).foldl (fun t (p,v)=>t.setIfInBounds p v) a.tmps,defers:=[] } W)
  (hbody:∀ (l:Nat) (pre:List α) (G:List Nat) (x:α) (a':Act) (W:World),I pre G W→Ax pre x a' W→body.wpIn (F.inRound l) (n - 1 - 1) P (roundPost w.heap.size I Ix (pre ++ [x]) G W) a' W)
  (hdone:∀ (D:Nat) (xs:List α) (G:List Nat) (W:World),w.heap.size≤D→S xs→I xs G W→W.heap[D]?=some (.deferred (some []))→Q .normal { a with defers:={ target:=.collected D,args:=#[] } :: a.defers } W)
  (hstop:∀ (D:Nat) (c:Code) (pre:List α) (W:World),w.heap.size≤D→Ix c pre W→W.heap[D]?=some (.deferred (some []))→c.wpIn F n P Q { a with defers:={ target:=.collected D,args:=#[] } :: a.defers } W) :
  (Code.rangeFunc g ps assign body).wpIn F n P Q a w:=by
 refine wpIn_rangeFunc ?_
 intro fn hfn
 rw [hro]
 obtain ⟨rec,hrec⟩:∃ rec:LoopState→Option Code→Loop,rec=fun st pe=>{ state:=st,pending:=pe,fn,tmps:=a.tmps,params:=ps,assign,body,defers:=w.heap.size }:=⟨_,rfl⟩
 obtain ⟨W1,hW1⟩:∃ W1,(w.alloc (.deferred (some []))).alloc (.loop (rec .ready none))=W1:=⟨_,rfl⟩
 have hL1:W1.heap[w.heap.size + 1]?=some (.loop (rec .ready none)):=by
  rw [← hW1]; have:=World.alloc_heap_new (w.alloc (.deferred (some []))) (.loop (rec .ready none)); rwa [World.size_alloc] at this
 have hK1:W1.heap[w.heap.size]?=some (.deferred (some [])):=by
  rw [← hW1]; exact (Below.heap_alloc _ _ _ (by simp)).trans (World.alloc_heap_new w _)
 have hB1:Below w.heap.size w W1:=by rw [← hW1]; exact ((Below.refl _ w).alloc (Nat.le_refl _) _).alloc (by simp) _
 have hI1:∃ G,I [] G W1:=by
  obtain ⟨G,h⟩:=h0
  exact ⟨G,hI _ _ _ _ _ h (Touch.of_below hB1 []) (by simp)⟩
 have hs1:w.heap.size + 2=W1.heap.size:=by rw [← hW1]; simp
 have hrun:(Instr.enterLoop fn a.tmps ps assign body none).run P w=.ok (w.heap.size + 1,[{ target:=.collected w.heap.size,args:=#[] }]) W1:=by
  rw [← hW1,hrec]; exact run_enterLoop_outer _ _ _ _ _
 clear hW1
 refine ⟨w.heap.size + 1,[{ target:=.collected w.heap.size,args:=#[] }],W1,{ target:=.fn (.func gf) lb,args:=#[.func (.yield (w.heap.size + 1)) #[] #[]] },W1,gf,
  #[.func (.yield (w.heap.size + 1)) #[] #[]] ++ lb,W1,hrun,?_,?_,?_,fun _=>h1,?_⟩
 ·simp only [resolve,hg]
  simp [go_sem]
 ·intro f' hf'; simp [Target.leads] at hf'; subst hf'; exact hFg
 ·simp [invoke,go_sem,eg]
 have notG:∀ {s:List α} {G:List Nat} {W:World} {k:Nat} {o:Obj},I s G W→W.heap[k]?=some o→ctl o=true→k ∉ G:=fun {s G W k o} hi ho hc hk=>by
  obtain ⟨-,-,-,o',e,h⟩:=hIG _ _ _ hi k hk
  rw [ho] at e
  cases e
  rw [hc] at h; cases h
 have hIput:∀ {s:List α} {G:List Nat} {W:World} {k:Nat} {o:Obj} (o':Obj),I s G W→w.heap.size≤k→W.heap[k]?=some o→ctl o=true→I s G (W.putObj k o'):=fun {s G W k o} o' hi hk ho hc=>
  hI _ _ _ _ _ hi (touch_putObj W k o') (fun j hj=>by
   have:j=k:=by simpa using hj
   subst this
   exact ⟨hk,notG hi ho hc⟩)
 refine (hseq (w.heap.size + 1)
  (fun pre G W=>I pre G W∧W.heap[w.heap.size + 1]?=some (.loop (rec .ready none))∧W.heap[w.heap.size]?=some (.deferred (some [])))
  (fun pre W=>∃ c,Ix c pre W∧W.heap[w.heap.size + 1]?=some (.loop (rec .done (some c)))∧W.heap[w.heap.size]?=some (.deferred (some [])))
  W1 (hb0.trans (hB1.mono hb0.size))
  (fun s G H A B hs ht hH=>⟨hI _ _ _ _ _ hs.1 ht (fun k hk=>⟨by have:=(hH k hk).1; omega,(hH k hk).2⟩),
   (ht.block _ (Array.getElem?_eq_some_iff.1 hs.2.1).1 (fun hk=>by have:=(hH _ hk).1; omega)).trans hs.2.1,(ht.block _ (Array.getElem?_eq_some_iff.1 hs.2.2).1 (fun hk=>by have:=(hH _ hk).1; omega)).trans hs.2.2⟩)
  (fun s G A hs k hk=>⟨(hIG _ _ _ hs.1 k hk).1,(hIG _ _ _ hs.1 k hk).2.1,(hIG _ _ _ hs.1 k hk).2.2.1⟩) (by omega) (by omega) (fun hk=>by have:=hRs _ hk; omega)
  ?_ (let ⟨G,h⟩:=hI1; ⟨G,h,hL1,hK1⟩)).mono ?_
 ·rintro pre G x W ⟨hi,hl,hk⟩ hfx
  have hy:=run_yield (P:=P) (args:=encs x) hl (by rw [hrec]; exact hps x)
  rw [hrec] at hy
  refine ⟨fn,_,assign,body,hy,roundIn_of_wpIn hfn (hassign _ pre G x W _ hi hfx ?_)⟩
  intro a' V hbV hax
  have vl:=(hbV.block _ (Array.getElem?_eq_some_iff.1 hl).1).trans hl
  have vk:=(hbV.block _ (Array.getElem?_eq_some_iff.1 hk).1).trans hk
  have hiv:=hI _ _ _ _ _ hi (Touch.of_below hbV []) (by simp)
  have hlt:w.heap.size + 1 < V.heap.size:=(Array.getElem?_eq_some_iff.1 vl).1
  refine ⟨_,run_beginRound vl (by rw [hrec]),?_⟩
  have hl2:(V.putObj (w.heap.size + 1) (.loop { rec .ready none with state:=.busy })).heap[w.heap.size + 1]?=some (.loop { rec .ready none with state:=.busy }):=World.putObj_heap_same hlt
  have hk2:(V.putObj (w.heap.size + 1) (.loop { rec .ready none with state:=.busy })).heap[w.heap.size]?=some (.deferred (some [])):=(World.putObj_heap_other (by omega)).trans vk
  have ht2:=touch_putObj V (w.heap.size + 1) (.loop { rec .ready none with state:=.busy })
  have hi2:=hIput (.loop { rec .ready none with state:=.busy }) hiv (by omega) vl rfl
  have ha2:=(hAx pre x a').putObj (s:=()) (.loop { rec .ready none with state:=.busy }) hax (by omega) vl rfl
  generalize V.putObj (w.heap.size + 1) (.loop { rec .ready none with state:=.busy })=U at *
  refine wpIn_mono (hbody _ pre G x a' U hi2 ha2) ?_
  rintro e a3 W3 hp
  cases e with
  | normal=>
   obtain ⟨ht3,G',hi3,hG'⟩:=hp
   have hl3:=(ht3.block _ (Array.getElem?_eq_some_iff.1 hl2).1 (notG hi2 hl2 rfl)).trans hl2
   have hk3:=(ht3.block _ (Array.getElem?_eq_some_iff.1 hk2).1 (notG hi2 hk2 rfl)).trans hk2
   have hr:=run_endRound (P:=P) none hl3
   rw [hrec] at hr
   have hnG:w.heap.size + 1 ∉ G:=notG hi hl rfl
   refine ⟨_,_,hr,.inl ⟨rfl,?_,G',⟨?_,?_,?_⟩,fun k hk=>?_⟩⟩
   ·have t1:Touch ((w.heap.size + 1) :: G) W V:=Touch.of_below hbV _
    have t2:Touch ((w.heap.size + 1) :: G) W U:=t1.trans ht2 (fun k hk=>.inl (by simp at hk; simp [hk]))
    have t3:Touch ((w.heap.size + 1) :: G) W W3:=t2.trans ht3 (fun k hk=>.inl (by simp [hk]))
    exact t3.trans (touch_putObj W3 _ _) (fun k hk=>.inl (by simp at hk; simp [hk]))
   ·exact hIput _ hi3 (by omega) hl3 rfl
   ·rw [hrec]
    exact World.putObj_heap_same (Array.getElem?_eq_some_iff.1 hl3).1
   ·exact (World.putObj_heap_other (by omega)).trans hk3
   ·rcases hG' k hk with hh | hh
    ·exact .inl hh
    ·have h5:=ht2.size
     have h6:=hbV.size
     exact .inr (by omega)
  | ret=>
   obtain ⟨hk3,hi3⟩:=hp
   have hl3:=hk3.same _ _ (by omega) hl2 rfl
   have hr:=run_endRound (P:=P) (some .ret) hl3
   rw [hrec] at hr
   refine ⟨_,_,hr,.inr ⟨rfl,_,(hIx _).putObj _ hi3 (by omega) hl3 rfl,?_,?_⟩⟩
   ·rw [hrec]
    exact World.putObj_heap_same (Array.getElem?_eq_some_iff.1 hl3).1
   ·exact (World.putObj_heap_other (by omega)).trans (hk3.same _ _ (Nat.le_refl _) hk2 rfl)
  | exit id=>exact hp.elim
  | goto t=>exact hp.elim
  | panic ch=>exact hp.elim
  | outgrown=>exact hp.elim
 ·rintro e W2 ⟨⟨v,rfl⟩,(⟨xs,G,hS,hi,hl,hk⟩ | ⟨pre,c,hi,hl,hk⟩)⟩
  ·exact ⟨none,_,by have:=run_endLoop (P:=P) hl (by rw [hrec]; simp); rw [hrec] at this; exact this,hdone _ xs G _ (Nat.le_refl _) hS (hIput _ hi (by omega) hl rfl) ((World.putObj_heap_other (by omega)).trans hk)⟩
  ·exact ⟨some c,_,by have:=run_endLoop (P:=P) hl (by rw [hrec]; simp); rw [hrec] at this; exact this,hstop _ c pre _ (Nat.le_refl _) ((hIx c).putObj _ hi (by omega) hl rfl) ((World.putObj_heap_other (by omega)).trans hk)⟩
end
end Go.Proofs.YteghhmomhlnccaaGreatDoor
namespace Go.Proofs.YteghhmomhlnccaaGreatDoor
open Ex (Tree)
def NodeC (w0 w:World) (b o:Nat):Tree→Prop
 | .node op t vk vn vs ks=>w.cell? ⟨b,o,none⟩=some (.int .i64 op)∧w.cell? ⟨b,o + 1,none⟩=some (.string (tx t))∧w.cell? ⟨b,o + 2,none⟩=some (.int .i64 vk) ∧
   w.cell? ⟨b,o + 3,none⟩=some (.int .i64 vn)∧w.cell? ⟨b,o + 4,none⟩=some (.string (tx vs))∧∃ A c,w.cell? ⟨b,o + 5,none⟩=some (.slice A ks.length c)∧ks.length≤c∧TreesAt w0 A 0 ks
def RowIn (w0 w:World) (g0:Nat) (A:Option Addr) (r:List Tree):Prop:=
 ∀ i (h:i < r.length),∃ b o,A=some ⟨b,o,none⟩∧(b < w0.heap.size∨b=g0)∧NodeC w0 w b (o + i * 6) r[i]
theorem NodeC.moved {w0 w w':World} {b o:Nat} : ∀ {x:Tree},NodeC w0 w b o x→w'.heap[b]?=w.heap[b]?→NodeC w0 w' b o x
 | .node op t vk vn vs ks,h,e=>by
  have k:∀ j,w'.cell? ⟨b,j,none⟩=w.cell? ⟨b,j,none⟩:=fun j=>by simp only [World.cell?,e]
  obtain ⟨h1,h2,h3,h4,h5,A,c,h6,h7⟩:=h
  exact ⟨(k _).trans h1,(k _).trans h2,(k _).trans h3,(k _).trans h4,(k _).trans h5,A,c,(k _).trans h6,h7⟩
theorem RowIn.moved {w0 w w':World} {g0:Nat} {A:Option Addr} {r:List Tree} (h:RowIn w0 w g0 A r) (hb:∀ k,k < w0.heap.size→w'.heap[k]?=w.heap[k]?) (hg:w'.heap[g0]?=w.heap[g0]?):RowIn w0 w' g0 A r:=fun i hi=>by
 obtain ⟨b,o,e,hw,hn⟩:=h i hi
 refine ⟨b,o,e,hw,hn.moved ?_⟩
 rcases hw with hw | rfl
 ·exact hb b hw
 ·exact hg
theorem NodeC.of {w0 w:World} {b o:Nat} (hb:Below w0.heap.size w0 w):∀ {x:Tree},TreeAt w0 b o x→b < w0.heap.size∧NodeC w0 w b o x
 | .node op t vk vn vs ks,h=>by
  obtain ⟨h0,h1,h2,h3,h4,h5,A,c,h6,h7,h8⟩:=h.node
  exact ⟨h0,(hb.cell (p:=⟨b,o,none⟩) h0).trans h1,(hb.cell (p:=⟨b,o + 1,none⟩) h0).trans h2,(hb.cell (p:=⟨b,o + 2,none⟩) h0).trans h3,(hb.cell (p:=⟨b,o + 3,none⟩) h0).trans h4,(hb.cell (p:=⟨b,o + 4,none⟩) h0).trans h5,A,c,(hb.cell (p:=⟨b,o + 5,none⟩) h0).trans h6,h7,h8⟩
theorem RowIn.of {w0 w:World} (g0:Nat) {A:Option Addr} {r:List Tree} (hb:Below w0.heap.size w0 w) (h:TreesAt w0 A 0 r):RowIn w0 w g0 A r:=fun i hi=>by
 obtain ⟨b,o,e,k⟩:=h.get i hi
 obtain ⟨h1,h2⟩:=NodeC.of hb k
 exact ⟨b,o,e,.inl h1,h2⟩
theorem RowIn.tail {w0 w:World} {g0 b o:Nat} {x:Tree} {r:List Tree} (h:RowIn w0 w g0 (some ⟨b,o,none⟩) (x :: r)):RowIn w0 w g0 (some ⟨b,o + 6,none⟩) r:=fun i hi=>by
 obtain ⟨b',o',e,h1,h2⟩:=h (i + 1) (by simpa using hi)
 cases e
 refine ⟨b,o + 6,rfl,h1,?_⟩
 rw [show o + 6 + i * 6=o + (i + 1) * 6 by omega]
 exact h2
theorem RowIn.nil (w0 w:World) (g0:Nat) (A:Option Addr):RowIn w0 w g0 A []:=fun i hi=>absurd hi (Nat.not_lt_zero _)
def RowsV (w0 w:World) (g0:Nat):List (List Tree)→List Value→Prop
 | [],[]=>True
 | r :: R,v :: V=>(∃ A c,v=.slice A r.length c∧r.length≤c∧RowIn w0 w g0 A r)∧RowsV w0 w g0 R V
 | _,_=>False
theorem RowsV.len {w0 w:World} {g0:Nat} : ∀ {R:List (List Tree)} {V:List Value},RowsV w0 w g0 R V→V.length=R.length
 | [],[],_=>rfl
 | r :: R,v :: V,h=>by rw [List.length_cons,List.length_cons,RowsV.len h.2]
 | [],_ :: _,h=>h.elim
 | _ :: _,[],h=>h.elim
theorem RowsV.moved {w0 w w':World} {g0:Nat} (hb:∀ k,k < w0.heap.size→w'.heap[k]?=w.heap[k]?) (hg:w'.heap[g0]?=w.heap[g0]?):∀ {R:List (List Tree)} {V:List Value},RowsV w0 w g0 R V→RowsV w0 w' g0 R V
 | [],[],_=>trivial
 | r :: R,v :: V,h=>by
  obtain ⟨⟨A,c,e,hc,k⟩,h2⟩:=h
  exact ⟨⟨A,c,e,hc,k.moved hb hg⟩,RowsV.moved hb hg h2⟩
 | [],_ :: _,h=>h.elim
 | _ :: _,[],h=>h.elim
theorem take_snoc {α:Type} {l V:List α} {v:α} (h:l.take (V.length + 1)=V.reverse ++ [v]):l.take V.length=V.reverse:=by
 have:=congrArg (List.take V.length) h
 rw [List.take_take,Nat.min_eq_left (by omega)] at this
 rw [this,List.take_append_of_le_length (by simp),List.take_of_length_le (by simp)]
structure StkAt (w0 wr:World) (base g0 g cap:Nat) (Rv:List (List Tree)) (V:List Value):Prop where
 row:wr.ownsRow base 24 1 (.slice (some ⟨g,0,none⟩) V.length cap) V.length V.reverse
 rows:RowsV w0 wr g0 Rv V
 far:w0.heap.size≤base∧g ≠ g0
theorem StkAt.open {w0 wr:World} {base g0 g cap:Nat} {Rv:List (List Tree)} {V:List Value} (h:StkAt w0 wr base g0 g cap Rv V) :
  ∃ cur,Whole wr g 24 cur∧base≤g∧V.length≤cap∧cap≤maxLen∧cur.size=cap∧cur.toList.take V.length=V.reverse:=by
 rcases h.row.2 with ⟨e,_⟩ | ⟨g',cap',cur,e,hb,hh,hn,hm,hs,ht⟩
 ·cases e
 ·cases e
  exact ⟨cur,hh,hb,hn,hm,by omega,by rwa [Nat.mul_one] at ht⟩
theorem StkAt.lt {w0 wr:World} {base g0 g cap:Nat} {Rv:List (List Tree)} {V:List Value} (h:StkAt w0 wr base g0 g cap Rv V):g < wr.heap.size:=let ⟨_,hW,_⟩:=h.open; hW.lt
theorem StkAt.base_ {w0 wr:World} {base g0 g cap:Nat} {Rv:List (List Tree)} {V:List Value} (h:StkAt w0 wr base g0 g cap Rv V):base≤g:=let ⟨_,_,hb,_⟩:=h.open; hb
theorem StkAt.cap_ {w0 wr:World} {base g0 g cap:Nat} {Rv:List (List Tree)} {V:List Value} (h:StkAt w0 wr base g0 g cap Rv V):V.length≤cap:=let ⟨_,_,_,hb,_⟩:=h.open; hb
theorem StkAt.top {w0 wr:World} {base g0 g cap:Nat} {Rv:List (List Tree)} {v:Value} {V:List Value} (h:StkAt w0 wr base g0 g cap Rv (v :: V)):wr.cell? ⟨g,V.length,none⟩=some v∧wr.frozen? ⟨g,V.length,none⟩=false:=by
 obtain ⟨cur,hW,hb,hc,hm,hs,ht⟩:=h.open
 refine ⟨?_,hW.frozen _⟩
 rw [hW.cell]
 have:=congrArg (fun l=>l[V.length]?) ht
 simp only [List.length_cons,List.reverse_cons] at this
 rw [List.getElem?_take,if_pos (by omega),List.getElem?_append_right (by simp)] at this
 simpa using this
theorem StkAt.pop {w0 wr:World} {base g0 g cap:Nat} {r:List Tree} {R:List (List Tree)} {v:Value} {V:List Value} (h:StkAt w0 wr base g0 g cap (r :: R) (v :: V)):StkAt w0 wr base g0 g cap R V:=by
 obtain ⟨cur,hW,hb,hc,hm,hs,ht⟩:=h.open
 rw [List.length_cons] at hc ht
 refine ⟨⟨by simp,.inr ⟨g,cap,cur,rfl,hb,hW,by omega,hm,by omega,?_⟩⟩,h.rows.2,h.far⟩
 rw [Nat.mul_one]
 exact take_snoc (by rw [ht,List.reverse_cons])
theorem StkAt.set_ {w0 wr:World} {base g0 g cap:Nat} {r r':List Tree} {R:List (List Tree)} {v:Value} {V:List Value} (h:StkAt w0 wr base g0 g cap (r :: R) (v :: V)) {A:Option Addr} {c:Nat} (hr:RowIn w0 wr g0 A r') (hc:r'.length≤c) :
  StkAt w0 (wr.setCell ⟨g,V.length,none⟩ (.slice A r'.length c)) base g0 g cap (r' :: R) (.slice A r'.length c :: V)∧Touch [g] wr (wr.setCell ⟨g,V.length,none⟩ (.slice A r'.length c)):=by
 obtain ⟨cur,hW,hb,hc',hm,hs,ht⟩:=h.open
 rw [List.length_cons] at hc' ht
 have hT:Touch [g] wr (wr.setCell ⟨g,V.length,none⟩ (.slice A r'.length c)):=Touch.one (by simp)
 have k1:∀ k,k < w0.heap.size→(wr.setCell ⟨g,V.length,none⟩ (.slice A r'.length c)).heap[k]?=wr.heap[k]?:=fun k hk=>heap_set_other _ _ _ _ _ (by have:=h.far.1; omega)
 have k2:(wr.setCell ⟨g,V.length,none⟩ (.slice A r'.length c)).heap[g0]?=wr.heap[g0]?:=heap_set_other _ _ _ _ _ (fun e=>h.far.2 e.symm)
 refine ⟨⟨⟨by simp,.inr ⟨g,cap,_,rfl,hb,hW.set_ V.length (.slice A r'.length c),by simpa using hc',hm,by simp [hs],?_⟩⟩,⟨⟨A,c,rfl,hc,hr.moved k1 k2⟩,RowsV.moved k1 k2 h.rows.2⟩,h.far⟩,hT⟩
 have:=take_snoc (l:=cur.toList) (V:=V) (v:=v) (by rw [ht,List.reverse_cons])
 rw [Nat.mul_one,List.length_cons,Array.toList_setIfInBounds,List.take_add_one,List.take_set_of_le (Nat.le_refl _),this,List.reverse_cons]
 congr 1
 rw [List.getElem?_set_self (by simp; omega)]
 rfl
theorem StkAt.moved {w0 wr w':World} {base g0 g cap:Nat} {Rv:List (List Tree)} {V:List Value} (h:StkAt w0 wr base g0 g cap Rv V) {H:List Nat} (ht:Touch H wr w') (hH:∀ k ∈ H,w0.heap.size≤k∧k ≠ g∧k ≠ g0) (hg0:g0 < wr.heap.size) (hw:w0.heap.size≤wr.heap.size):StkAt w0 w' base g0 g cap Rv V:=by
 have hlt:=h.lt
 refine ⟨ownsRow_of_heap h.row fun b e=>?_,RowsV.moved (fun k hk=>ht.block k (by omega) fun hk'=>by have:=(hH k hk').1; omega) (ht.block g0 hg0 fun hk=>(hH g0 hk).2.2 rfl) h.rows,h.far⟩
 simp [Value.ownBlock] at e
 subst e
 exact ht.block _ hlt fun hk=>(hH _ hk).2.1 rfl
theorem infoExprs:(Tryz.prog.info? 24).map (fun i=>(i.zero,i.size,decide (i.bytes≤1000)))=some (some (.slice none 0 0),1,true):=by kernel_rfl
theorem StkAt.push {w0 wr:World} {base g0 g cap:Nat} {Rv:List (List Tree)} {V:List Value} (h:StkAt w0 wr base g0 g cap Rv V) {r:List Tree} {A:Option Addr} {c:Nat} (hr:RowIn w0 wr g0 A r) (hc:r.length≤c) (hn:V.length≤1000000) (hg0:g0 < wr.heap.size) (hbase:base≤wr.heap.size) (hw:w0.heap.size≤wr.heap.size) :
  ∃ g' cap' w',Sem.run Tryz.prog (Builtin.append_ #[129,129] 129 #[.slice (some ⟨g,0,none⟩) V.length cap,.slice (some ⟨wr.heap.size,0,none⟩) 1 1]) (wr.alloc (.cells #[.slice A r.length c] 24))=.ok (.slice (some ⟨g',0,none⟩) (V.length + 1) cap') w' ∧
   StkAt w0 w' base g0 g' cap' (r :: Rv) (.slice A r.length c :: V)∧Touch [g] wr w'∧(g'=g∨wr.heap.size < g'):=by
 have hinf:=infoExprs
 cases hi:Tryz.prog.info? 24 with
 | none=>rw [hi] at hinf; simp at hinf
 | some i=>
  rw [hi] at hinf
  simp at hinf
  obtain ⟨i1,i2,i3⟩:=hinf
  have hb:∀ (a b:Nat),a≤1000001→b≤1000→a * b≤140737488355328:=fun a b h1 h2=>Nat.le_trans (Nat.mul_le_mul h1 h2) (by omega)
  have t0:Touch [] wr (wr.alloc (.cells #[.slice A r.length c] 24)):=(Touch.refl _ _).alloc _
  have h1:=h.moved t0 (by simp) hg0 hw
  obtain ⟨v',w',hr',ho,hg,_,hb'⟩:=run_append_own_at (P:=Tryz.prog) (wr.alloc (.cells #[.slice A r.length c] 24)) base 129 129 24 i _ 1 i.bytes Tryz.underlying129 hi i1 i2 rfl rfl (by omega) (.slice (some ⟨g,0,none⟩) V.length cap) V.length V.reverse h1.row ⟨wr.heap.size,0,none⟩ 1 1 [.slice A r.length c] rfl (by
   intro j u hu
   rw [Addr.add_lit,Nat.zero_add,cell_of_row _ wr.heap.size j #[.slice A r.length c] 24 (0,0) (heap_alloc_new wr _),← hu]
   simp) (by
   intro u hu
   simp at hu
   subst hu
   rfl) (by simp only [maxLen]; omega) (hb _ _ (by omega) i3) (by simp; omega)
  have hT:Touch [g] wr w':=(t0.mono (by simp)).grown hg (fun k e=>by simp [Value.ownBlock] at e; subst e; simp)
  have k1:∀ k,k < w0.heap.size→w'.heap[k]?=wr.heap[k]?:=fun k hk=>hT.block k (by omega) (by simp; have:=h.far.1; have:=h.base_; omega)
  have k2:w'.heap[g0]?=wr.heap[g0]?:=hT.block g0 hg0 (by simp; exact fun e=>h.far.2 e.symm)
  rcases ho.2 with ⟨e,e0⟩ | ⟨g',cap',cur,rfl,hbg,hh,hn',hm',hs',ht'⟩
  ·simp at e0
  ·have hown:g'=g∨g'=wr.heap.size + 1:=by simpa [Value.ownBlock] using hb'
   refine ⟨g',cap',w',hr',⟨?_,⟨⟨A,c,rfl,hc,hr.moved k1 k2⟩,RowsV.moved k1 k2 h.rows⟩,h.far.1,?_⟩,hT,by omega⟩
   ·rw [List.length_cons,List.reverse_cons]; exact ho
   ·rcases hown with e | e
    ·rw [e]; exact h.far.2
    ·omega
end Go.Proofs.YteghhmomhlnccaaGreatDoor
namespace Go.Proofs.YteghhmomhlnccaaGreatDoor
open Go.RowKit Go.Lib Go.Shelf
attribute [local go_sem] Oper.semAt_some
open Ex (Tree)
theorem nodes_in (F:Fence) (n:Nat) (h5:F.fn 51) (hro:F.round=none) (c0 c1 c2 c3 c4 c5:Value) (w:World) :
  CallsIn F n Tryz.prog 51 #[.agg #[c0,c1,c2,c3,c4,c5]] w fun e w'=>e=.returned (.func (.func 84) #[] #[.pointer (some ⟨w.heap.size,0,none⟩)])∧w'=w.alloc (.cells #[c0,c1,c2,c3,c4,c5] 26):=by
 refine callsIn_of_wp Tryz.func51 rfl h5 ?_ hro
 simp only [Tryz.ntmps51,List.size_toArray,List.length_cons,List.length_nil,Nat.reduceAdd,Nat.reduceSub,Array.replicate_succ,Array.replicate_zero,List.push_toArray,List.append_toArray,List.nil_append,List.cons_append]
 gi_wp2
 go_ret
 exact ⟨rfl,rfl⟩
structure Nd where
 v:Value
 t:Tree
 d:Nat
abbrev encN (x:Nd):Array Value:=#[x.v,.int .i64 (x.d:Nat)]
def prs (l:List Nd):List (Tree × Nat):=l.map fun x=>(x.t,x.d)
theorem prs_snoc (l:List Nd) (x:Nd):prs (l ++ [x])=prs l ++ [(x.t,x.d)]:=by simp [prs]
def NdIn (w0:World) (T:Tree) (pre:List Nd) (x:Nd) (_:World):Prop:=prs pre ++ [(x.t,x.d)] <+: Ex.seq 1 T∧NodeV w0 x.v x.t
structure NdR (w0:World) (B g0 l:Nat) (T:Tree) (J:List Nd→List Nat→World→Prop) (m:Nat) (v:Value) (wr:World):Prop where
 all:∃ (pre:List Nd) (G:List Nat) (Rv:List (List Tree)) (V:List Value) (g cap:Nat),m=Ex.work Rv∧v=.slice (some ⟨g,0,none⟩) V.length cap∧StkAt w0 wr B g0 g cap Rv V∧prs pre ++ Ex.rem Rv=Ex.seq 1 T∧J pre G wr∧Below w0.heap.size w0 wr∧g ∉ G∧g ≠ l∧g0 ∉ G∧g0 ≠ l∧g0 < wr.heap.size∧B≤g0∧B≤wr.heap.size∧Rv.length≤Ex.depth T + 1
theorem Touch.below1 {w w':World} {g B:Nat} (ht:Touch [g] w w') (hB:B≤g) (hw:B≤w.heap.size):Below B w w':=
 ⟨ht.os,ht.tape,ht.output,ht.size,fun k hk=>ht.block k (by omega) (by simp; omega)⟩
theorem wpListIn_run_append {F:Fence} {n:Nat} {w w':World} {ops:Array Oper} {rest:List Oper} {o:Oper} {a:Act} {Q:Exit→Act→World→Prop} (hgd:o.guard=none) (s x:Operand) (t:TypeId)
  (ho:o.op=.call { callee:=.builtin .append,args:=#[s,x],argTypes:=#[t,t] }) {v u v':Value} (hs:a.eval s=v) (hx:a.eval x=u)
  (hrun:Sem.run Tryz.prog (Builtin.append_ #[t,t] o.type #[v,u]) w=.ok v' w') (h:wpListIn F n Tryz.prog ops Q rest (a.put o.dst v') w'):wpListIn F n Tryz.prog ops Q (o :: rest) a w:=by
 refine wpListIn_plain hgd fun K hK'=>?_
 unfold Oper.wpIn
 refine ⟨?_,?_⟩
 ·simp [Oper.about,ho,resolve,Target.leads,Sem.run_pure]
 ·rw [Oper.semAt_plain F _ _ (by rw [ho]; intro c hc'; cases hc')]
  simp [execOp,ho,resolve,invoke,builtin,hs,hx,hrun,Result.andThen]
  exact hK' _ _ h
theorem nodes1_in (n:Nat) (hn:1≤n) (l Bn:Nat) (w0:World) (T:Tree) (hT:Ex.depth T≤1000000) (A:Option Addr) (c:Nat) (op:Int) (t:List UInt8) (vk vn:Int) (vs:List UInt8) (ks:List Tree) (hTe:T=.node op t vk vn vs ks) (hc:ks.length≤c) (hk:TreesAt w0 A 0 ks)
  (J:List Nd→List Nat→World→Prop) (Jx:List Nd→World→Prop)
  (W:World) (hJ:AbidesG W.heap.size J) (hJG:∀ s G W',J s G W'→∀ k ∈ G,w0.heap.size≤k∧k < W'.heap.size) (hl1:w0.heap.size≤l) (hl2:l < W.heap.size)
  (hY:∀ pre G x W1,J pre G W1→NdIn w0 T pre x W1→YieldAt Fence.wide (n - 1) Tryz.prog l (encN x) W1 fun e W'=>
   (e=.returned (.bool true)∧Touch (l :: G) W1 W'∧∃ G',J (pre ++ [x]) G' W'∧∀ k ∈ G',k ∈ G∨W1.heap.size≤k)∨(e=.returned (.bool false)∧Jx (pre ++ [x]) W'))
  (hW:Below w0.heap.size w0 W) (hb0:Whole W Bn 26 (ncells op t vk vn vs A ks.length c)) (h0:∃ G,J [] G W) :
  CallsIn Fence.wide n Tryz.prog 84 #[.func (.yield l) #[] #[],.pointer (some ⟨Bn,0,none⟩)] W fun r W'=>(∃ v,r=.returned v)∧((∃ (ys:List Nd) (G:List Nat),prs ys=Ex.seq 1 T∧J ys G W')∨∃ pre,Jx pre W'):=by
 have c0:=hb0.cell 0
 have c1:=hb0.cell 1
 have c2:=hb0.cell 2
 have c3:=hb0.cell 3
 have c4:=hb0.cell 4
 have c5:=hb0.cell 5
 simp only [List.getElem?_toArray,List.getElem?_cons_zero,List.getElem?_cons_succ] at c0 c1 c2 c3 c4 c5
 refine callsIn_of_wp Tryz.func84 rfl trivial ?_ rfl
 simp only [Tryz.ntmps84,List.size_toArray,List.length_cons,List.length_nil,Nat.reduceAdd,Nat.reduceSub,Array.replicate_succ,Array.replicate_zero,List.push_toArray,List.append_toArray,List.nil_append,List.cons_append]
 gi_wp2_with fail
 have HY:=hid hY
 have HJ:=hid hJ
 have HJG:=hid hJG
 have HW:=hid hW
 have HT:=hid hTe
 have HK:=hid hk
 have hlt0:=hb0.lt
 gi_loopw [3,4,5] (fun s3 s4 s5 wr=>∃ m,NdR w0 W.heap.size W.heap.size l T J m s3 wr) (fun s3 s4 s5 wr=>Ex.least (fun m=>NdR w0 W.heap.size W.heap.size l T J m s3 wr))
 case atStart=>
  obtain ⟨G,h⟩:=h0
  have t1:Touch [] W ((W.alloc (.cells (ncells op t vk vn vs A ks.length c) 26)).alloc (.cells #[.slice (some ⟨W.heap.size,0,none⟩) 1 1] 24)):=((Touch.refl _ _).alloc _).alloc _
  have hb1:=hW.trans (t1.below.mono hW.size)
  have w1:Whole ((W.alloc (.cells (ncells op t vk vn vs A ks.length c) 26)).alloc (.cells #[.slice (some ⟨W.heap.size,0,none⟩) 1 1] 24)) W.heap.size 26 (ncells op t vk vn vs A ks.length c):=(Whole.new _ _ _).alloc _
  have w2:=Whole.new (W.alloc (.cells (ncells op t vk vn vs A ks.length c) 26)) 24 #[.slice (some ⟨W.heap.size,0,none⟩) 1 1]
  rw [World.size_alloc] at w2
  refine ⟨_,⟨[],G,[[T]],[.slice (some ⟨W.heap.size,0,none⟩) 1 1],W.heap.size + 1,1,rfl,rfl,⟨⟨rfl,.inr ⟨_,_,_,rfl,by omega,w2,Nat.le_refl _,by simp [maxLen],rfl,rfl⟩⟩,⟨⟨_,_,rfl,Nat.le_refl _,?_⟩,trivial⟩,hW.size,by omega⟩,?_,hJ _ _ _ _ _ h t1 (by simp),hb1,?_,by omega,?_,by omega,?_,Nat.le_refl _,?_,by simp⟩⟩
  ·intro i hi
   have:i=0:=by simpa using hi
   subst this
   refine ⟨W.heap.size,0,rfl,.inr rfl,?_⟩
   rw [List.getElem_cons_zero,hTe]
   exact ⟨by rw [w1.cell]; rfl,by rw [w1.cell]; rfl,by rw [w1.cell]; rfl,by rw [w1.cell]; rfl,by rw [w1.cell]; rfl,A,c,by rw [w1.cell]; rfl,hc,hk⟩
  ·rw [Ex.rem_start]; rfl
  ·intro hg; have:=(hJG _ _ _ h _ hg).2; omega
  ·intro hg; have:=(hJG _ _ _ h _ hg).2; omega
  ·simp only [World.size_alloc]; omega
  ·simp only [World.size_alloc]; omega
 case round=>
  clear hY hJ hJG hW hk hb0 c0 c1 c2 c3 c4 c5 h0 hTe hc
  obtain ⟨⟨pre,G,Rv,V,g,cap,hm,rfl,ST,hall,hj,hB,e1,e2,e3,e4,e5,e6,e7,e8⟩⟩:=Ex.least_spec hrel
  clear hrel
  have hlen:=ST.rows.len
  match Rv,V,hlen with
  | [],[],_=>
   gi_wp2
   go_end0
   exact ⟨⟨_,rfl⟩,.inl ⟨pre,G,by simpa [Ex.rem] using hall,hj⟩⟩
  | r :: R,v :: V,hlen=>
   obtain ⟨⟨A',c',rfl,hc',hr⟩,hrs⟩:=ST.rows
   obtain ⟨q0,q1⟩:=ST.top
   have hcap:=ST.cap_
   have HS:=hid ST
   have HJ1:=hid hj
   have HB:=hid hB
   have HR:=hid hr
   have HA:=hid hall
   simp only [List.length_cons] at hlen hcap e8
   have hlen':V.length=R.length:=by omega
   clear ST hj hB hr hall hrs
   match r,hc' with
   | [],hc'=>
    have HM:Hid (Ex.work R < Ex.least (fun m=>NdR w0 W.heap.size W.heap.size l T J m (.slice (some ⟨g,0,none⟩) (V.length + 1) cap) wr)):=hid (by
     show _ < Ex.least (fun m=>NdR w0 W.heap.size W.heap.size l T J m (.slice (some ⟨g,0,none⟩) ((Value.slice A' ([] : List Tree).length c' :: V)).length cap) wr)
     rw [hm]; exact Ex.work_pop R)
    have HP:Hid (NdR w0 W.heap.size W.heap.size l T J (Ex.work R) (.slice (some ⟨g,0,none⟩) V.length cap) wr):=hid ⟨pre,G,R,V,g,cap,rfl,rfl,HS.out.pop,by rw [HA.out.symm,Ex.rem_pop],HJ1.out,HB.out,e1,e2,e3,e4,e5,e6,e7,by omega⟩
    have hk9:(V.length:Int)≤1000000:=by omega
    clear hm HR HA HS HB HJ1
    dsimp only [List.length_cons,List.length_nil]
    dsimp only [List.length_cons,List.length_nil] at q0 hc'
    generalize V.length=k at *
    clear hlen hlen' e8
    have hki:((k + 1:Nat):Int) - 1=(k:Int):=by omega
    have hk1:(k:Int) < ((k + 1:Nat):Int):=by omega
    have hk2:(0:Int) < ((k + 1:Nat):Int):=by omega
    have hkc:(k:Int)≤(cap:Int):=by omega
    gi_wp2
    exact ⟨⟨_,HP.out⟩,Nat.lt_of_le_of_lt (Ex.least_le HP.out) HM.out⟩
   | .node op' t' vk' vn' vs' ks' :: r,hc'=>
    obtain ⟨b,o,rfl,hbw,hnd⟩:=HR.out 0 (by simp)
    rw [List.getElem_cons_zero,Nat.zero_mul,Nat.add_zero] at hnd
    obtain ⟨n0,n1,n2,n3,n4,Ak,ck,n5,hck,hkk⟩:=hnd
    have HM:Hid (Ex.work (ks' :: r :: R) < Ex.least (fun m=>NdR w0 W.heap.size W.heap.size l T J m (.slice (some ⟨g,0,none⟩) (V.length + 1) cap) wr)):=hid (by
     show _ < Ex.least (fun m=>NdR w0 W.heap.size W.heap.size l T J m (.slice (some ⟨g,0,none⟩) ((Value.slice (some ⟨b,o,none⟩) ((Tree.node op' t' vk' vn' vs' ks' :: r):List Tree).length c' :: V)).length cap) wr)
     rw [hm]; exact Ex.work_step (.node op' t' vk' vn' vs' ks') r R)
    have hpre:prs pre ++ [((.node op' t' vk' vn' vs' ks':Tree),V.length + 1)] <+: Ex.seq 1 T:=⟨Ex.rem (ks' :: r :: R),by rw [← HA.out,Ex.rem_step,hlen',List.append_assoc]; rfl⟩
    have HD:Hid (V.length + 1≤Ex.depth T):=hid (by
     rw [← Ex.most_seq]
     exact Ex.le_most (p:=(.node op' t' vk' vn' vs' ks',V.length + 1)) (hpre.subset (by simp)))
    obtain ⟨fn,tmps,assign,body,hy,hRR⟩:=HY.out pre G ⟨.agg (ncells op' t' vk' vn' vs' Ak ks'.length ck),.node op' t' vk' vn' vs' ks',V.length + 1⟩ wr HJ1.out ⟨hpre,Ak,ck,rfl,hck,hkk⟩
    have HL:=hid hlen'
    have hk9:(V.length:Int)≤1000000:=by omega
    obtain ⟨V0,hV0⟩:∃ V0,V0=V:=⟨_,rfl⟩
    have hVk:V.length=V0.length:=by rw [hV0]
    clear hm hlen hlen' e8 hpre
    try dsimp only at hy
    simp only [List.length_cons] at q0 hc'
    dsimp only [List.length_cons]
    have HVk:=hid hVk
    clear hV0 hVk
    generalize hk:V.length=k at *
    have HVk2:=hid hk
    clear hk HVk
    have hki:((k + 1:Nat):Int) - 1=(k:Int):=by omega
    have hk1:(k:Int) < ((k + 1:Nat):Int):=by omega
    have hk2:(0:Int) < ((k + 1:Nat):Int):=by omega
    have hr1:(0:Int) < ((r.length + 1:Nat):Int):=by omega
    have hr2:(((r.length + 1:Nat):Int) == 0)=false:=by rw [beq_eq_false_iff_ne]; omega
    unfold encN ncells at hy
    dsimp only at hy
    rw [show ((k + 1:Nat):Int)=(k:Int) + 1 from rfl] at hy
    gi_wp2
    refine hRR.mono ?_
    rintro e W6 (⟨rfl,ht6,G',hJ6,hG'⟩ | ⟨rfl,hx6⟩)
    ·have z6:=Nat.lt_of_lt_of_le e5 ht6.size
     have hGl:∀ k ∈ l :: G,w0.heap.size≤k∧k ≠ g∧k ≠ W.heap.size:=by
      intro k hk
      rcases List.mem_cons.1 hk with rfl | hk
      ·exact ⟨hl1,e2.symm,e4.symm⟩
      ·exact ⟨(HJG.out _ _ _ HJ1.out _ hk).1,fun h=>e1 (h ▸ hk),fun h=>e3 (h ▸ hk)⟩
     have hB5:w0.heap.size≤W6.heap.size:=by have:=HW.out.size; omega
     have B6:Below w0.heap.size w0 W6:=ht6.fresh HB.out fun k hk=>(hGl k hk).1
     have ST6:=HS.out.moved ht6 hGl e5 (by have:=HW.out.size; omega)
     have glt:=HS.out.lt
     have gG':g ∉ G':=fun h=>by rcases hG' _ h with h | h; exact e1 h; omega
     have z0G':W.heap.size ∉ G':=fun h=>by rcases hG' _ h with h | h; exact e3 h; omega
     have m5:W6.cell? ⟨b,o + 5,none⟩=some (.slice Ak ks'.length ck):=by
      have hbk:W6.heap[b]?=wr.heap[b]?:=by
       rcases hbw with hbw | rfl
       ·exact (B6.block b hbw).trans (HB.out.block b hbw).symm
       ·exact ht6.block _ e5 fun hk=>(hGl _ hk).2.2 rfl
      simp only [World.cell?,hbk] at n5 ⊢
      exact n5
     have hbg:b ≠ g:=by
      rcases hbw with hbw | rfl
      ·have:=HS.out.base_; have:=HW.out.size; omega
      ·exact fun h=>HS.out.far.2 h.symm
     have R6:=ST6.rows.1
     obtain ⟨A6,c6,ee,-,hr6⟩:=R6
     cases ee
     have HRW:=hid hr6
     have q6:=ST6.top
     rw [HVk2.out] at q6
     obtain ⟨q60,q61⟩:=q6
     have ST6H:=hid ST6
     have HJ6:=hid hJ6
     have HB6:=hid B6
     have HG':=hid hG'
     have HT6:=hid ht6
     clear hGl ht6 B6 ST6 hJ6 hG' hr6 n0 n1 n2 n3 n4 n5 hy hRR q0 q1 HR
     by_cases hc1:c'=1
     ·subst hc1
      have hr0:r=[]:=List.eq_nil_of_length_eq_zero (by omega)
      subst hr0
      obtain ⟨STK7,T7⟩:=ST6H.out.set_ (r':=[]) (A:=some ⟨b,o,none⟩) (c:=0) (RowIn.nil _ _ _ _) (Nat.le_refl _)
      rw [HVk2.out] at STK7 T7
      obtain ⟨W7,hW7⟩:∃ W7,W6.setCell ⟨g,k,none⟩ (.slice (some ⟨b,o,none⟩) 0 0)=W7:=⟨_,rfl⟩
      simp only [List.length_nil] at STK7 T7
      rw [hW7] at STK7 T7
      have n7:W7.cell? ⟨b,o + 5,none⟩=some (.slice Ak ks'.length ck):=by
       rw [← hW7]
       have hbk:=heap_set_other W6 g k (.slice (some ⟨b,o,none⟩) 0 0) b hbg
       simp only [World.cell?,hbk] at m5 ⊢
       exact m5
      have B7:Below w0.heap.size w0 W7:=HB6.out.trans (T7.below1 (Nat.le_trans HS.out.far.1 HS.out.base_) hB5)
      have z7:W.heap.size < W7.heap.size:=Nat.lt_of_lt_of_le z6 T7.size
      obtain ⟨g',cap',w9,hrun,ST9,T9,hg9⟩:=STK7.push (r:=ks') (A:=Ak) (c:=ck) (RowIn.of _ B7 hkk) hck (by simp only [List.length_cons]; have:=HVk2.out; have:=HD.out; omega) z7 (by have:=HS.out.base_; omega) B7.size
      have TT:Touch [g] W6 w9:=T7.trans T9 (by simp)
      have hjj:=HJ.out _ _ [g] W6 w9 HJ6.out TT (by simp; exact ⟨HS.out.base_,gG'⟩)
      have hfin:NdR w0 W.heap.size W.heap.size l T J (Ex.work (ks' :: [] :: R)) (.slice (some ⟨g',0,none⟩) (k + 1 + 1) cap') w9:=⟨pre ++ [⟨.agg (ncells op' t' vk' vn' vs' Ak ks'.length ck),.node op' t' vk' vn' vs' ks',k + 1⟩],G',ks' :: [] :: R,_,g',cap',rfl,by simp only [List.length_cons]; rw [HVk2.out],ST9,by
       rw [← HA.out,Ex.rem_step,prs_snoc,List.append_assoc,HL.out]; rfl,hjj,HB6.out.trans (TT.below1 (Nat.le_trans HS.out.far.1 HS.out.base_) hB5),by
       rcases hg9 with h | h
       ·rw [h]; exact gG'
       ·intro hh; have:=(HJG.out _ _ _ HJ6.out _ hh).2; have:=T7.size; omega,by
       rcases hg9 with h | h
       ·rw [h]; exact e2
       ·have:=T7.size; omega,z0G',e4,by have:=TT.size; omega,e6,by have:=TT.size; omega,by simp only [List.length_cons]; have:=HD.out; have:=HL.out; omega⟩
      have HF:=hid hfin
      have hrun2:Sem.run Tryz.prog (Builtin.append_ #[129,129] 129 #[.slice (some ⟨g,0,none⟩) (k + 1) cap,.slice (some ⟨W7.heap.size,0,none⟩) 1 1]) (W7.alloc (.cells #[.slice Ak ks'.length ck] 24))=.ok (.slice (some ⟨g',0,none⟩) (k + 1 + 1) cap') w9:=by
       have:=hrun
       simp only [List.length_cons] at this
       rw [HVk2.out] at this
       exact this
      have HM9:Hid (Ex.work (ks' :: [] :: R) < Ex.least (fun m=>NdR w0 W.heap.size W.heap.size l T J m (.slice (some ⟨g,0,none⟩) (k + 1) cap) wr)):=HM
      have HRUN:=hid hrun2
      clear hrun hrun2 ST9 T9 hg9 TT hjj hfin STK7 T7 B7
      gi_wp2_with (gi_at_builtin; refine wpListIn_run_append rfl (.tmp 39) (.tmp 44) 129 rfl rfl rfl HRUN.out ?_)
      exact ⟨⟨_,HF.out⟩,Nat.lt_of_le_of_lt (Ex.least_le HF.out) HM9.out⟩
     ·have hc2:(c'=1)=False:=eq_false hc1
      obtain ⟨STK7,T7⟩:=ST6H.out.set_ (r':=r) (A:=some ⟨b,o + 6,none⟩) (c:=c' - 1) HRW.out.tail (by omega)
      rw [HVk2.out] at STK7 T7
      obtain ⟨W7,hW7⟩:∃ W7,W6.setCell ⟨g,k,none⟩ (.slice (some ⟨b,o + 6,none⟩) r.length (c' - 1))=W7:=⟨_,rfl⟩
      rw [hW7] at STK7 T7
      have n7:W7.cell? ⟨b,o + 5,none⟩=some (.slice Ak ks'.length ck):=by
       rw [← hW7]
       have hbk:=heap_set_other W6 g k (.slice (some ⟨b,o + 6,none⟩) r.length (c' - 1)) b hbg
       simp only [World.cell?,hbk] at m5 ⊢
       exact m5
      have B7:Below w0.heap.size w0 W7:=HB6.out.trans (T7.below1 (Nat.le_trans HS.out.far.1 HS.out.base_) hB5)
      have z7:W.heap.size < W7.heap.size:=Nat.lt_of_lt_of_le z6 T7.size
      obtain ⟨g',cap',w9,hrun,ST9,T9,hg9⟩:=STK7.push (r:=ks') (A:=Ak) (c:=ck) (RowIn.of _ B7 hkk) hck (by simp only [List.length_cons]; have:=HVk2.out; have:=HD.out; omega) z7 (by have:=HS.out.base_; omega) B7.size
      have TT:Touch [g] W6 w9:=T7.trans T9 (by simp)
      have hjj:=HJ.out _ _ [g] W6 w9 HJ6.out TT (by simp; exact ⟨HS.out.base_,gG'⟩)
      have hfin:NdR w0 W.heap.size W.heap.size l T J (Ex.work (ks' :: r :: R)) (.slice (some ⟨g',0,none⟩) (k + 1 + 1) cap') w9:=⟨pre ++ [⟨.agg (ncells op' t' vk' vn' vs' Ak ks'.length ck),.node op' t' vk' vn' vs' ks',k + 1⟩],G',ks' :: r :: R,_,g',cap',rfl,by simp only [List.length_cons]; rw [HVk2.out],ST9,by
       rw [← HA.out,Ex.rem_step,prs_snoc,List.append_assoc,HL.out]; rfl,hjj,HB6.out.trans (TT.below1 (Nat.le_trans HS.out.far.1 HS.out.base_) hB5),by
       rcases hg9 with h | h
       ·rw [h]; exact gG'
       ·intro hh; have:=(HJG.out _ _ _ HJ6.out _ hh).2; have:=T7.size; omega,by
       rcases hg9 with h | h
       ·rw [h]; exact e2
       ·have:=T7.size; omega,z0G',e4,by have:=TT.size; omega,e6,by have:=TT.size; omega,by simp only [List.length_cons]; have:=HD.out; have:=HL.out; omega⟩
      have HF:=hid hfin
      have hrun2:Sem.run Tryz.prog (Builtin.append_ #[129,129] 129 #[.slice (some ⟨g,0,none⟩) (k + 1) cap,.slice (some ⟨W7.heap.size,0,none⟩) 1 1]) (W7.alloc (.cells #[.slice Ak ks'.length ck] 24))=.ok (.slice (some ⟨g',0,none⟩) (k + 1 + 1) cap') w9:=by
       have:=hrun
       simp only [List.length_cons] at this
       rw [HVk2.out] at this
       exact this
      have HM9:Hid (Ex.work (ks' :: r :: R) < Ex.least (fun m=>NdR w0 W.heap.size W.heap.size l T J m (.slice (some ⟨g,0,none⟩) (k + 1) cap) wr)):=HM
      have HRUN:=hid hrun2
      clear hrun hrun2 ST9 T9 hg9 TT hjj hfin STK7 T7 B7
      gi_wp2_with (gi_at_builtin; refine wpListIn_run_append rfl (.tmp 39) (.tmp 44) 129 rfl rfl rfl HRUN.out ?_)
      exact ⟨⟨_,HF.out⟩,Nat.lt_of_le_of_lt (Ex.least_le HF.out) HM9.out⟩
    ·gi_wp2
     refine bodyPost_ret (results_none rfl _ _ _) rfl ?_
     exact ⟨⟨_,rfl⟩,.inr ⟨_,hx6⟩⟩
theorem nodes_seq (n:Nat) (hn:1≤n) (Bn:Nat) (w0 W0:World) (T:Tree) (hT:Ex.depth T≤1000000) (A:Option Addr) (c:Nat) (op:Int) (t:List UInt8) (vk vn:Int) (vs:List UInt8) (ks:List Tree) (hTe:T=.node op t vk vn vs ks) (hc:ks.length≤c) (hk:TreesAt w0 A 0 ks)
  (hb:Below w0.heap.size w0 W0) (hB:Whole W0 Bn 26 (ncells op t vk vn vs A ks.length c)) :
  SeqG w0.heap.size [] Fence.wide n Tryz.prog 84 #[.pointer (some ⟨Bn,0,none⟩)] encN (NdIn w0 T) (fun xs=>prs xs=Ex.seq 1 T) W0:=fun l J Jx W hW hJ hJG h1 h2 h3 hY h0=>
 (nodes1_in n hn l Bn w0 T hT A c op t vk vn vs ks hTe hc hk J Jx W hJ (fun s G W' h k hk=>⟨(hJG s G W' h k hk).1,(hJG s G W' h k hk).2.1⟩) h1 h2 hY (hb.trans (hW.mono hb.size)) (hB.below hW hB.lt) h0).mono fun e W' h=>by
  obtain ⟨h1,h2⟩:=h
  refine ⟨h1,?_⟩
  rcases h2 with ⟨ys,G,h3,h4⟩ | h2
  ·exact .inl ⟨ys,G,h3,h4⟩
  ·exact .inr h2
end Go.Proofs.YteghhmomhlnccaaGreatDoor
namespace Go.Proofs.YteghhmomhlnccaaGreatDoor
open Go.RowKit Go.Lib Go.Shelf
attribute [local go_sem] Oper.semAt_some
open Ex (Tree)
theorem prs_len (l:List Nd):(prs l).length=l.length:=by simp [prs]
def CntI (w:World) (T:Tree) (pre:List Nd) (G:List Nat) (W:World):Prop:=
 G=[w.heap.size + 1]∧Whole W (w.heap.size + 1) 3 #[.int .i64 (pre.length:Nat)]∧Below w.heap.size w W∧pre.length≤Ex.count T
theorem cntI_abides {w:World} {T:Tree} {B:Nat} (hB:w.heap.size≤B) (s:List Nd) (G H:List Nat) (W W':World) (h:CntI w T s G W) (ht:Touch H W W') (hH:∀ k ∈ H,B≤k∧k ∉ G):CntI w T s G W':=by
 obtain ⟨rfl,h1,h2,h3⟩:=h
 exact ⟨rfl,(ht.block _ h1.lt fun hk=>(hH _ hk).2 (by simp)).trans h1,ht.fresh h2 fun k hk=>by have:=(hH k hk).1; omega,h3⟩
theorem count_in (T:Tree) (v:Value) (w:World) (h:NodeV w v T) (hd:Ex.depth T≤1000000) (hc:Ex.count T≤1000000) :
  CallsIn Fence.wide 5 Tryz.prog 83 #[v] w fun e w'=>e=.returned (.int .i64 (Ex.count T:Nat))∧Below w.heap.size w w':=by
 cases T with
 | node op t vk vn vs ks=>
 obtain ⟨A,c,rfl,hcc,hk⟩:=h
 obtain ⟨T,hT⟩:∃ T,(.node op t vk vn vs ks:Tree)=T:=⟨_,rfl⟩
 rw [hT] at hd hc ⊢
 refine callsIn_of_wp_marks Tryz.func83 rfl trivial ?_ rfl
 simp only [Tryz.ntmps83,List.size_toArray,List.length_cons,List.length_nil,Nat.reduceAdd,Nat.reduceSub,Array.replicate_succ,Array.replicate_zero,List.push_toArray,List.append_toArray,List.nil_append,List.cons_append]
 unfold ncells
 gi_wp2_with ((try refine ⟨trivial,?_⟩); gi_at_call 51; refine (nodes_in Fence.wide _ trivial rfl _ _ _ _ _ _ _).mono ?_; rintro e w' ⟨rfl,rfl⟩)
 have b0:Below w.heap.size w (((w.alloc (.cells (ncells op t vk vn vs A ks.length c) 26)).alloc (.cells #[.int .i64 0] 3)).alloc (.cells (ncells op t vk vn vs A ks.length c) 26)):=(((Below.refl _ w).alloc (Nat.le_refl _) _).alloc (by simp) _).alloc (by simp; omega) _
 have k1:=(Whole.new (w.alloc (.cells (ncells op t vk vn vs A ks.length c) 26)) 3 #[.int .i64 0]).alloc (.cells (ncells op t vk vn vs A ks.length c) 26)
 have k2:=Whole.new ((w.alloc (.cells (ncells op t vk vn vs A ks.length c) 26)).alloc (.cells #[.int .i64 0] 3)) 26 (ncells op t vk vn vs A ks.length c)
 simp only [World.size_alloc] at k1 k2
 unfold ncells at b0 k1 k2
 generalize (((w.alloc (.cells #[.int .i64 op,.string (tx t),.int .i64 vk,.int .i64 vn,.string (tx vs),.slice A ks.length c] 26)).alloc (.cells #[.int .i64 0] 3)).alloc (.cells #[.int .i64 op,.string (tx t),.int .i64 vk,.int .i64 vn,.string (tx vs),.slice A ks.length c] 26))=W0 at *
 refine wpIn_rangeFunc_G rfl (by omega) (gf:=84) rfl trivial (enters_of Tryz.func84 (by kernel_rfl) rfl)
  (nodes_seq 4 (by omega) (w.heap.size + 1 + 1) w W0 T hd A c op t vk vn vs ks hT.symm hcc hk b0 k2) (Below.refl _ _) b0.size (by simp) (fun _=>rfl)
  (CntI w T) (fun s G H W W' h ht hH=>cntI_abides b0.size s G H W W' h ht hH)
  (fun s G W h k hk=>by
   obtain ⟨rfl,h1,-,-⟩:=h
   have:k=w.heap.size + 1:=by simpa using hk
   subst this
   exact ⟨by omega,h1.lt,by simp,_,h1,rfl⟩)
  (fun _ _ _=>False) (fun _ _ _ _ _ h _ _=>h) ⟨_,rfl,k1,b0,Nat.zero_le _⟩
  (fun pre x a' W=>a'={ tmps:=#[.agg #[.int .i64 op,.string (tx t),.int .i64 vk,.int .i64 vn,.string (tx vs),.slice A ks.length c],.pointer (some ⟨w.heap.size,0,none⟩),.int .i64 0,.pointer (some ⟨w.heap.size + 1,0,none⟩),.agg #[.int .i64 op,.string (tx t),.int .i64 vk,.int .i64 vn,.string (tx vs),.slice A ks.length c],.func (.func 84) #[] #[.pointer (some ⟨w.heap.size + 1 + 1,0,none⟩)],x.v,.int .i64 (x.d:Nat),undef,undef,undef],defers:=[] }∧prs (pre ++ [x]) <+: Ex.seq 1 T)
  (fun _ _ _ _ _ _ _ h _ _=>h) ?assign ?body ?done ?stop
 case assign=>
  rintro l pre G x W K hI hx hK
  gi_wp2
  exact hK _ _ (Below.refl _ _) ⟨by simp [encN],by rw [prs_snoc]; exact hx.1⟩
 case body=>
  rintro l pre G x a' W ⟨rfl,h1,h2,h3⟩ ⟨rfl,hp⟩
  have hle:=hp.length_le
  rw [prs_len,Ex.seq_length,List.length_append,List.length_singleton] at hle
  have e0:=h1.cell 0
  have e1:=h1.frozen 0
  simp only [List.getElem?_toArray,List.getElem?_cons_zero] at e0
  have hl9:(pre.length:Int)≤1000000:=by omega
  have H1:=hid h1
  have HB:=hid h2
  clear h1 h2 hp h3
  have HL:=hid hle
  clear hle
  gi_wp2
  refine ⟨Touch.one (by simp),_,⟨rfl,?_,HB.out.setCell (p:=⟨w.heap.size + 1,0,none⟩) (by show _≤w.heap.size + 1; omega) _,?_⟩,fun k hk=>.inl hk⟩
  ·have:=H1.out.set_ 0 (.int .i64 ((pre.length:Int) + 1))
   rw [List.length_append,List.length_singleton]
   exact this
  ·rw [List.length_append,List.length_singleton]; have:=HL.out; omega
 case done=>
  rintro D ys G W hD hS ⟨rfl,h1,h2,-⟩ hK
  have hS:=hid hS
  have e0:=h1.cell 0
  simp only [List.getElem?_toArray,List.getElem?_cons_zero] at e0
  gi_wp2
  refine ⟨by simp,.inl ⟨_,_,rfl,run_takeDeferred hK,?_⟩⟩
  refine ⟨_,results_tmp rfl _ _ _,?_,h2.trans (belowK_b (w:=w) (Nat.le_refl _) W D _ _ (by have:=b0.size; omega) hK rfl rfl)⟩
  rw [← Ex.seq_length 1 T,← hS.out,prs_len]
  rfl
 case stop=>
  rintro D c pre W _ h _
  exact h.elim
theorem run_max2 (ts:Array TypeId) (t:TypeId) (x y z:Nat) (h:z=max x y) (W:World):Sem.run Tryz.prog (Builtin.max_ ts t #[.int .i64 (x:Nat),.int .i64 (y:Nat)]) W=.ok (.int .i64 (z:Nat)) W:=by
 subst h
 have e:(if x < y then (y:Int) else x)=((max x y:Nat):Int):=by split <;> omega
 simp [Builtin.max_,Builtin.max2,e]
def DepI (w:World) (T:Tree) (pre:List Nd) (G:List Nat) (W:World):Prop:=
 G=[w.heap.size + 1]∧Whole W (w.heap.size + 1) 3 #[.int .i64 (Ex.most (prs pre):Nat)]∧Below w.heap.size w W∧prs pre <+: Ex.seq 1 T
theorem depI_abides {w:World} {T:Tree} {B:Nat} (hB:w.heap.size≤B) (s:List Nd) (G H:List Nat) (W W':World) (h:DepI w T s G W) (ht:Touch H W W') (hH:∀ k ∈ H,B≤k∧k ∉ G):DepI w T s G W':=by
 obtain ⟨rfl,h1,h2,h3⟩:=h
 exact ⟨rfl,(ht.block _ h1.lt fun hk=>(hH _ hk).2 (by simp)).trans h1,ht.fresh h2 fun k hk=>by have:=(hH k hk).1; omega,h3⟩
theorem depth_in (T:Tree) (v:Value) (w:World) (h:NodeV w v T) (hd:Ex.depth T≤1000000) :
  CallsIn Fence.wide 5 Tryz.prog 82 #[v] w fun e w'=>e=.returned (.int .i64 (Ex.depth T:Nat))∧Below w.heap.size w w':=by
 cases T with
 | node op t vk vn vs ks=>
 obtain ⟨A,c,rfl,hcc,hk⟩:=h
 obtain ⟨T,hT⟩:∃ T,(.node op t vk vn vs ks:Tree)=T:=⟨_,rfl⟩
 rw [hT] at hd ⊢
 refine callsIn_of_wp_marks Tryz.func82 rfl trivial ?_ rfl
 simp only [Tryz.ntmps82,List.size_toArray,List.length_cons,List.length_nil,Nat.reduceAdd,Nat.reduceSub,Array.replicate_succ,Array.replicate_zero,List.push_toArray,List.append_toArray,List.nil_append,List.cons_append]
 unfold ncells
 gi_wp2_with ((try refine ⟨trivial,?_⟩); gi_at_call 51; refine (nodes_in Fence.wide _ trivial rfl _ _ _ _ _ _ _).mono ?_; rintro e w' ⟨rfl,rfl⟩)
 have b0:Below w.heap.size w (((w.alloc (.cells (ncells op t vk vn vs A ks.length c) 26)).alloc (.cells #[.int .i64 0] 3)).alloc (.cells (ncells op t vk vn vs A ks.length c) 26)):=(((Below.refl _ w).alloc (Nat.le_refl _) _).alloc (by simp) _).alloc (by simp; omega) _
 have k1:=(Whole.new (w.alloc (.cells (ncells op t vk vn vs A ks.length c) 26)) 3 #[.int .i64 0]).alloc (.cells (ncells op t vk vn vs A ks.length c) 26)
 have k2:=Whole.new ((w.alloc (.cells (ncells op t vk vn vs A ks.length c) 26)).alloc (.cells #[.int .i64 0] 3)) 26 (ncells op t vk vn vs A ks.length c)
 simp only [World.size_alloc] at k1 k2
 unfold ncells at b0 k1 k2
 generalize (((w.alloc (.cells #[.int .i64 op,.string (tx t),.int .i64 vk,.int .i64 vn,.string (tx vs),.slice A ks.length c] 26)).alloc (.cells #[.int .i64 0] 3)).alloc (.cells #[.int .i64 op,.string (tx t),.int .i64 vk,.int .i64 vn,.string (tx vs),.slice A ks.length c] 26))=W0 at *
 refine wpIn_rangeFunc_G rfl (by omega) (gf:=84) rfl trivial (enters_of Tryz.func84 (by kernel_rfl) rfl)
  (nodes_seq 4 (by omega) (w.heap.size + 1 + 1) w W0 T hd A c op t vk vn vs ks hT.symm hcc hk b0 k2) (Below.refl _ _) b0.size (by simp) (fun _=>rfl)
  (DepI w T) (fun s G H W W' h ht hH=>depI_abides b0.size s G H W W' h ht hH)
  (fun s G W h k hk=>by
   obtain ⟨rfl,h1,-,-⟩:=h
   have:k=w.heap.size + 1:=by simpa using hk
   subst this
   exact ⟨by omega,h1.lt,by simp,_,h1,rfl⟩)
  (fun _ _ _=>False) (fun _ _ _ _ _ h _ _=>h) ⟨_,rfl,k1,b0,List.nil_prefix⟩
  (fun pre x a' W=>a'={ tmps:=#[.agg #[.int .i64 op,.string (tx t),.int .i64 vk,.int .i64 vn,.string (tx vs),.slice A ks.length c],.pointer (some ⟨w.heap.size,0,none⟩),.int .i64 0,.pointer (some ⟨w.heap.size + 1,0,none⟩),undef,.int .i64 (x.d:Nat),.agg #[.int .i64 op,.string (tx t),.int .i64 vk,.int .i64 vn,.string (tx vs),.slice A ks.length c],.func (.func 84) #[] #[.pointer (some ⟨w.heap.size + 1 + 1,0,none⟩)],x.v,.int .i64 (x.d:Nat),undef,undef,undef,undef],defers:=[] }∧prs (pre ++ [x]) <+: Ex.seq 1 T)
  (fun _ _ _ _ _ _ _ h _ _=>h) ?assign ?body ?done ?stop
 case assign=>
  rintro l pre G x W K hI hx hK
  gi_wp2
  exact hK _ _ (Below.refl _ _) ⟨by simp,by rw [prs_snoc]; exact hx.1⟩
 case body=>
  rintro l pre G x a' W ⟨rfl,h1,h2,h3⟩ ⟨rfl,hp⟩
  have HP:=hid hp
  have hmx:Ex.most (prs (pre ++ [x]))=max (Ex.most (prs pre)) x.d:=by rw [prs_snoc,Ex.most_append,Ex.most_cons]; simp [Ex.most]
  have HM:=hid hmx
  have hrun:=run_max2 #[3,3] 3 (Ex.most (prs pre)) x.d (Ex.most (prs (pre ++ [x]))) hmx
  have e0:=h1.cell 0
  have e1:=h1.frozen 0
  simp only [List.getElem?_toArray,List.getElem?_cons_zero] at e0
  have H1:=hid h1
  have HB:=hid h2
  clear h1 h2 hp h3 hmx
  obtain ⟨m2,hm2⟩:∃ m2,Ex.most (prs (pre ++ [x]))=m2:=⟨_,rfl⟩
  have HM2:=hid hm2
  rw [hm2] at hrun
  clear hm2
  generalize Ex.most (prs pre)=m1 at *
  gi_wp2
  refine ⟨Touch.one (by simp),_,⟨rfl,?_,HB.out.setCell (p:=⟨w.heap.size + 1,0,none⟩) (by show _≤w.heap.size + 1; omega) _,HP.out⟩,fun k hk=>.inl hk⟩
  rw [HM2.out]
  exact H1.out.set_ 0 _
 case done=>
  rintro D ys G W hD hS ⟨rfl,h1,h2,-⟩ hK
  have hS:=hid hS
  have e0:=h1.cell 0
  simp only [List.getElem?_toArray,List.getElem?_cons_zero] at e0
  gi_wp2
  refine ⟨by simp,.inl ⟨_,_,rfl,run_takeDeferred hK,?_⟩⟩
  refine ⟨_,results_tmp rfl _ _ _,?_,h2.trans (belowK_b (w:=w) (Nat.le_refl _) W D _ _ (by have:=b0.size; omega) hK rfl rfl)⟩
  rw [← Ex.most_seq,← hS.out]
  rfl
 case stop=>
  rintro D c pre W _ h _
  exact h.elim
end Go.Proofs.YteghhmomhlnccaaGreatDoor
