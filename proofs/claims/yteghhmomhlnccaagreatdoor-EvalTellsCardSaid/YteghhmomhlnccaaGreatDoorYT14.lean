import Derived.Test.YteghhmomhlnccaaGreatDoorYT12
import Derived.Test.YteghhmomhlnccaaGreatDoorYT9
import Derived.Test.YteghhmomhlnccaaGreatDoorYT8
import Derived.Test.YteghhmomhlnccaaGreatDoorYT10
import Derived.Test.YteghhmomhlnccaaGreatDoorYT13
import Derived.Laws.ResultCell
import Derived.Great.BuildSlice
import Derived.Test.YteghhmomhlnccaaGreatDoorYT7
set_option linter.unusedVariables false
set_option linter.unusedSimpArgs false
set_option maxRecDepth 100000
set_option maxHeartbeats 100000000
open Go.RowKit Go.Lib
namespace Go.Proofs.YteghhmomhlnccaaGreatDoor
open Ex (Tree)
def NodeS (S:Nat→Prop) (w:World) (v:Value):Tree→Prop
 | .node op t vk vn vs ks=>∃ A c,v=.agg (ncells op t vk vn vs A ks.length c)∧ks.length≤c∧TreesIn S w A 0 ks
theorem NodeS.node {S:Nat→Prop} {w:World} {v:Value} : ∀ {x:Tree},NodeS S w v x→NodeV w v x
 | .node op t vk vn vs ks,⟨A,c,e,hc,hk⟩=>⟨A,c,e,hc,hk.at⟩
theorem RowT.trees {S:Nat→Prop} {w:World} {base:Nat} {v:Value} {l:List Tree} (h:RowT S w base v l):∃ A c,v=.slice A l.length c∧l.length≤c∧TreesIn (fun k=>S k∨base≤k) w A 0 l:=by
 obtain ⟨xs,h1,h2,h3⟩:=h
 have hl:=h2.length
 rcases h1.2 with ⟨rfl,h0⟩ | ⟨g,cap,cur,rfl,hb,hh,hn,hm,hs,ht⟩
 ·have:l=[]:=List.eq_nil_of_length_eq_zero h0
  subst this
  exact ⟨none,0,rfl,Nat.le_refl _,by rw [TreesIn]; trivial⟩
 ·refine ⟨_,cap,rfl,hn,?_⟩
  refine (h2.trees (Array.getElem?_eq_some_iff.1 hh).1 0 fun j u hu=>?_).moved fun k hk _=>⟨rfl,hk.imp id (fun e=>by rw [e]; exact hb)⟩
  have hj:j < xs.length:=(List.getElem?_eq_some_iff.1 hu).1
  rw [Nat.zero_add,cell_of_row w g j cur 26 (0,0) hh,← hu,← ht,List.getElem?_take,if_pos (by omega)]
  simp
abbrev tokV (t:Lx.Tk):Value:=.agg #[.int .i64 (t.kind:Nat),.string (tx t.text),.int .i64 (t.at_:Nat)]
structure PX (w0 w:World) (P:Nat) (A:Option Addr) (c:Nat) (L:List Lx.Tk) (i d fc fa:Nat):Prop where
 old:Below w0.heap.size w0 w
 le:w0.heap.size≤P
 cells:Whole w P 124 #[.slice A L.length c,.int .i64 (i:Nat),.int .i64 (d:Nat),.int .i64 (fc:Nat),.int .i64 (fa:Nat)]
 words:TAt w A L
 far:∀ b o,A=some ⟨b,o,none⟩→b ≠ P
abbrev PAt (w0 w:World) (P:Nat) (A:Option Addr) (c:Nat) (L:List Lx.Tk) (i d:Nat):Prop:=PX w0 w P A c L i d 0 0
variable {w0 w w' : World} {P : Nat} {A : Option Addr} {c : Nat} {L : List Lx.Tk} {i d fc fa : Nat}
theorem PX.below (h:PX w0 w P A c L i d fc fa) (hb:Below w.heap.size w w'):PX w0 w' P A c L i d fc fa:=
 ⟨h.old.trans (hb.mono h.old.size),h.le,h.cells.below hb h.cells.lt,h.words.below hb,h.far⟩
theorem PX.set_at (h:PX w0 w P A c L i d fc fa) (k:Nat):PX w0 (w.setCell ⟨P,1,none⟩ (.int .i64 (k:Nat))) P A c L k d fc fa:=
 ⟨h.old.setCell (p:=⟨P,1,none⟩) h.le _,h.le,h.cells.set_ 1 _,h.words.setCell _ _ _ h.far,h.far⟩
theorem PX.set_deep (h:PX w0 w P A c L i d fc fa) (k:Nat):PX w0 (w.setCell ⟨P,2,none⟩ (.int .i64 (k:Nat))) P A c L i k fc fa:=
 ⟨h.old.setCell (p:=⟨P,2,none⟩) h.le _,h.le,h.cells.set_ 2 _,h.words.setCell _ _ _ h.far,h.far⟩
theorem PX.set_fault (h:PX w0 w P A c L i d fc fa) (k m:Nat):PX w0 ((w.setCell ⟨P,3,none⟩ (.int .i64 (k:Nat))).setCell ⟨P,4,none⟩ (.int .i64 (m:Nat))) P A c L i d k m:=
 ⟨(h.old.setCell (p:=⟨P,3,none⟩) h.le _).setCell (p:=⟨P,4,none⟩) h.le _,h.le,(h.cells.set_ 3 _).set_ 4 _,(h.words.setCell _ _ _ h.far).setCell _ _ _ h.far,h.far⟩
theorem PX.touch (h:PX w0 w P A c L i d fc fa) {H:List Nat} (ht:Touch H w w') (hH:∀ k ∈ H,w0.heap.size≤k∧k ≠ P∧∀ b o,A=some ⟨b,o,none⟩→b ≠ k):PX w0 w' P A c L i d fc fa:=by
 refine ⟨ht.fresh h.old fun k hk=>(hH k hk).1,h.le,(ht.block _ h.cells.lt fun hm=>(hH _ hm).2.1 rfl).trans h.cells,fun j hj=>?_,h.far⟩
 obtain ⟨b,o,e,hb,q0,q1,q2⟩:=h.words j hj
 have hh:=ht.block b hb (fun hm=>(hH b hm).2.2 b o e rfl)
 have cc:∀ k,w'.cell? ⟨b,k,none⟩=w.cell? ⟨b,k,none⟩:=fun k=>by simp only [World.cell?,hh]
 exact ⟨b,o,e,Nat.lt_of_lt_of_le hb ht.size,(cc _).trans q0,(cc _).trans q1,(cc _).trans q2⟩
theorem PX.far6 {g:Nat} (h:PX w0 w P A c L i d fc fa) (ht:Touch [g] w w') (hg:w0.heap.size≤g∧g ≠ P) (hA:∀ b o,A=some ⟨b,o,none⟩→b ≠ g):PX w0 w' P A c L i d fc fa:=
 h.touch ht fun k hk=>by have:k=g:=by simpa using hk
                           subst this; exact ⟨hg.1,hg.2,hA⟩
theorem PX.lower (h:PX w0 w P A c L i d fc fa) (hL:L ≠ []):∀ b o,A=some ⟨b,o,none⟩→b < w.heap.size:=fun b o e=>by
 obtain ⟨b',o',e',hb,-⟩:=h.words 0 (List.length_pos_iff.2 hL)
 rw [e] at e'; cases e'; exact hb
structure Base (w0 w:World) (P:Nat) (A:Option Addr):Prop where
 w0:w0.heap.size≤w.heap.size
 P:P < w.heap.size
 A:∀ b o,A=some ⟨b,o,none⟩→b < w.heap.size
theorem PX.base (h:PX w0 w P A c L i d fc fa) (hL:L ≠ []):Base w0 w P A:=⟨h.old.size,h.cells.lt,h.lower hL⟩
theorem PX.new {W:World} {g:Nat} (h:PX w0 W P A c L i d fc fa) (hb:Base w0 w P A) (ht:Touch [g] W w') (hg:w.heap.size≤g):PX w0 w' P A c L i d fc fa:=
 h.far6 ht ⟨Nat.le_trans hb.w0 hg,by have:=hb.P; omega⟩ (fun b o e=>by have:=hb.A b o e; omega)
def GotX (w0:World) (P:Nat) (A:Option Addr) (c:Nat) (L:List Lx.Tk) (T:Tree) (i d:Nat) (b:Bool) (fc fa:Nat) (w:World) (e:Ending) (w':World):Prop:=
 ∃ u,e=.returned (.tuple #[u,.bool b])∧NodeNew w.heap.size w' u T∧PX w0 w' P A c L i d fc fa∧Touch [P] w w'
inductive Fit:Ps.Res→Tree→Nat→Bool→Nat→Nat→Prop
 | ok (T:Tree) (i:Nat):Fit (.ok T i) T i true 0 0
 | bad (c a:Nat) (T:Tree) (i:Nat):Fit (.bad c a) T i false c a
def OutX (w0:World) (P:Nat) (A:Option Addr) (c:Nat) (L:List Lx.Tk) (d:Nat) (r:Ps.Res) (w:World) (e:Ending) (w':World):Prop:=
 ∃ T i b fc fa,Fit r T i b fc fa∧GotX w0 P A c L T i d b fc fa w e w'
def Tot (w0:World) (P:Nat) (A:Option Addr) (c:Nat) (L:List Lx.Tk) (N:FuncId) (args:Array Value) (i d:Nat) (r:Ps.Res):Prop:=
 ∀ w,PAt w0 w P A c L i d→Calls Tryz.prog N args w (OutX w0 P A c L d r w)
theorem results_two {P:Program} {fn:Func} {p u:Tmp} {ty:TypeId} (h:fn.results=#[.cell p ty,.tmp u]) (tmps:Array Value) (w:World) (g:Nat) (t:TypeId) (cs:Array Value) (fr:Nat × Nat) (d:TypeDesc)
  (hp:tmps.getD p undef=.pointer (some ⟨g,0,none⟩)) (hg:w.heap[g]?=some (.cells cs t fr))
  (hu:P.underlying ty=some d) (hd:(match d with | .struct _ | .array _ _=>true | _=>false)=true) (hi:(P.info? ty).map (·.size)=some cs.size) (x:Value) (hx:tmps.getD u undef=x) :
  (results fn tmps).run P w=.ok (.tuple #[.agg cs,x]) w:=by
 rw [results_cell_tmp h,hp,hx]
 simp [asAddr,run_loadVar_row w g t ty cs fr d hg hu hd hi,Result.andThen]
theorem kindI (t:Lx.Tk) (n:Nat):((t.kind:Int) == (n:Int))=decide (t.kind=n):=by rw [Bool.eq_iff_iff]; simp; omega
theorem fieldTok1 (x y:Int) (s:ByteArray) (W:World):Sem.run Tryz.prog (Instr.field 87 (.agg #[.int .i64 x,.string s,.int .i64 y]) 1) W=.ok (.string s) W:=by kernel_rfl
theorem fieldTok2 (x y:Int) (s:ByteArray) (W:World):Sem.run Tryz.prog (Instr.field 87 (.agg #[.int .i64 x,.string s,.int .i64 y]) 2) W=.ok (.int .i64 y) W:=by kernel_rfl
theorem two_trees {S:Nat→Prop} {w:World} {op t vk vn vs ks A c} {op' t' vk' vn' vs' ks' A' c'} (hc:List.length ks≤c) (hk:TreesIn S w A 0 ks) (hc':List.length ks'≤c') (hk':TreesIn S w A' 0 ks') (hS:∀ k,S k→k < w.heap.size) :
  TreesIn (fun k=>S k∨k=w.heap.size) (w.alloc (.cells #[.int .i64 op,.string (tx t),.int .i64 vk,.int .i64 vn,.string (tx vs),.slice A ks.length c,.int .i64 op',.string (tx t'),.int .i64 vk',.int .i64 vn',.string (tx vs'),.slice A' ks'.length c'] 26)) (some ⟨w.heap.size,0,none⟩) 0 [.node op t vk vn vs ks,.node op' t' vk' vn' vs' ks']:=by
 have b4:Below w.heap.size w (w.alloc (.cells #[.int .i64 op,.string (tx t),.int .i64 vk,.int .i64 vn,.string (tx vs),.slice A ks.length c,.int .i64 op',.string (tx t'),.int .i64 vk',.int .i64 vn',.string (tx vs'),.slice A' ks'.length c'] 26)):=(Below.refl _ _).alloc (Nat.le_refl _) _
 have k4:=Whole.new w 26 #[.int .i64 op,.string (tx t),.int .i64 vk,.int .i64 vn,.string (tx vs),.slice A ks.length c,.int .i64 op',.string (tx t'),.int .i64 vk',.int .i64 vn',.string (tx vs'),.slice A' ks'.length c']
 have h:CellsT S (w.alloc (.cells #[.int .i64 op,.string (tx t),.int .i64 vk,.int .i64 vn,.string (tx vs),.slice A ks.length c,.int .i64 op',.string (tx t'),.int .i64 vk',.int .i64 vn',.string (tx vs'),.slice A' ks'.length c'] 26)) [.int .i64 op,.string (tx t),.int .i64 vk,.int .i64 vn,.string (tx vs),.slice A ks.length c,.int .i64 op',.string (tx t'),.int .i64 vk',.int .i64 vn',.string (tx vs'),.slice A' ks'.length c'] [.node op t vk vn vs ks,.node op' t' vk' vn' vs' ks']:=
  ⟨A,c,_,rfl,hc,hk.moved fun k hk hlt=>⟨b4.block k hlt,hk⟩,A',c',[],rfl,hc',hk'.moved fun k hk hlt=>⟨b4.block k hlt,hk⟩,rfl⟩
 exact h.trees k4.lt 0 fun j u hu=>by rw [Nat.zero_add,k4.cell,← hu]; simp
theorem sizeTok:(Tryz.prog.info? 87).map (·.size)=some 3:=by kernel_rfl
theorem word_any (h:PAt w0 w P A c L i d) (k:Nat) (hk:k≤1000000) (hL:L.length≤1000000) :
  Calls Tryz.prog 108 #[.pointer (some ⟨P,0,none⟩),.int .i64 (k:Nat)] w fun e w'=>e=.returned (tokV (tk L k))∧Below w.heap.size w w':=by
 have b0:Below w.heap.size w (w.alloc (.cells #[.int .i64 0,.string (tx []),.int .i64 0] 87)):=(Below.refl _ _).alloc (Nat.le_refl _) _
 have k0:=Whole.new w 87 #[.int .i64 0,.string (tx []),.int .i64 0]
 have h1:=h.below b0
 have p0:(w.alloc (.cells #[.int .i64 0,.string (tx []),.int .i64 0] 87)).cell? ⟨P,0,none⟩=some (.slice A L.length c):=h1.cells.cell 0
 have hL':(L.length:Int)≤1000000:=by omega
 have hk0:¬ ((k:Int) < 0):=by omega
 by_cases hlt:k < L.length
 ·have hlt':(k:Int) < (L.length:Int):=by omega
  obtain ⟨b,o,rfl,-,q0,q1,q2⟩:=h1.words k hlt
  rw [tk_lt hlt]
  have hc0:=k0.cell 0
  have hc1:=k0.cell 1
  have hc2:=k0.cell 2
  have hf0:=k0.frozen 0
  have hf1:=k0.frozen 1
  have hf2:=k0.frozen 2
  generalize L[k]=t at *
  clear h h1 hlt
  go_enter Tryz.func108,Tryz.ntmps108
  go_wp2_with fail
  exact bodyPost_ret (results_cell_row rfl _ _ w.heap.size _ _ _ _ rfl (Whole.new w 87 _) Tryz.underlying87 rfl sizeTok) rfl ⟨rfl,(Below.refl _ _).alloc (Nat.le_refl _) _⟩
 ·have hlt':¬ (k:Int) < (L.length:Int):=by omega
  rw [tk_ge hlt]
  go_enter Tryz.func108,Tryz.ntmps108
  go_wp2_with fail
  exact bodyPost_ret (results_cell_row rfl _ _ w.heap.size _ _ _ _ rfl (Whole.new w 87 _) Tryz.underlying87 rfl sizeTok) rfl ⟨rfl,(Below.refl _ _).alloc (Nat.le_refl _) _⟩
theorem next_any (h:PAt w0 w P A c L i d) (hk:i≤1000000) (hL:L.length≤1000000) :
  Calls Tryz.prog 80 #[.pointer (some ⟨P,0,none⟩)] w fun e w'=>e=.returned (tokV (tk L i))∧Below w.heap.size w w':=by
 have b0:Below w.heap.size w (w.alloc (.cells #[.int .i64 0,.string (tx []),.int .i64 0] 87)):=(Below.refl _ _).alloc (Nat.le_refl _) _
 have k0:=Whole.new w 87 #[.int .i64 0,.string (tx []),.int .i64 0]
 have h1:=h.below b0
 have p0:=h1.cells.cell 1
 obtain ⟨W1,hW1⟩:∃ W1,w.alloc (.cells #[.int .i64 0,.string (tx []),.int .i64 0] 87)=W1:=⟨_,rfl⟩
 rw [hW1] at b0 k0 h1 p0
 have p0':W1.cell? ⟨P,1,none⟩=some (.int .i64 (i:Nat)):=p0
 have WC:=hid (word_any h1 i hk hL)
 obtain ⟨t,ht⟩:∃ t,tk L i=t:=⟨_,rfl⟩
 rw [ht] at WC ⊢
 clear ht
 have B0:=hid b0
 have K0:=hid k0
 clear h h1 b0 k0 p0
 go_enter Tryz.func80,Tryz.ntmps80
 go_wp2_with fail
 refine WC.out.mono ?_
 rintro e W2 ⟨rfl,hb⟩
 have k2:=K0.out.below hb K0.out.lt
 have B2:=hid (B0.out.trans (hb.mono B0.out.size))
 have c0:=k2.cell 0
 have c1:=k2.cell 1
 have c2:=k2.cell 2
 have f0:=k2.frozen 0
 have f1:=k2.frozen 1
 have f2:=k2.frozen 2
 have FIN:=hid (((k2.set_ 0 (.int .i64 (t.kind:Nat))).set_ 1 (.string (tx t.text))).set_ 2 (.int .i64 (t.at_:Nat)))
 have FB:=hid (((B2.out.setCell (p:=⟨w.heap.size,0,none⟩) (Nat.le_refl _) (.int .i64 (t.kind:Nat))).setCell (p:=⟨w.heap.size,1,none⟩) (Nat.le_refl _) (.string (tx t.text))).setCell (p:=⟨w.heap.size,2,none⟩) (Nat.le_refl _) (.int .i64 (t.at_:Nat)))
 clear k2 hb hW1 p0'
 go_wp2_with fail
 exact bodyPost_ret (results_cell_row rfl _ _ w.heap.size _ _ _ _ rfl FIN.out Tryz.underlying87 rfl sizeTok) rfl ⟨rfl,FB.out⟩
theorem sign_any (t:Lx.Tk) (w:World) :
  Calls Tryz.prog 133 #[tokV t] w fun e w'=>e=.returned (.string (tx (sgn t)))∧Below w.heap.size w w':=by
 by_cases h5:t.kind=5
 ·have e:sgn t=t.text:=by rw [sgn,if_pos (.inl h5)]
  have h5':(t.kind:Int)=5:=by omega
  rw [e,tokV,h5']
  go_enter Tryz.func133,Tryz.ntmps133
  go_wp2_with fail
  go_ret
  exact ⟨rfl,(Below.refl _ _).alloc (Nat.le_refl _) _⟩
 ·by_cases h2:t.kind=2
  ·have e:sgn t=t.text:=by rw [sgn,if_pos (.inr h2)]
   have h5':(t.kind:Int)=2:=by omega
   rw [e,tokV,h5']
   go_enter Tryz.func133,Tryz.ntmps133
   go_wp2_with fail
   go_ret
   exact ⟨rfl,(Below.refl _ _).alloc (Nat.le_refl _) _⟩
  ·have e:sgn t=[]:=by rw [sgn,if_neg (by omega)]
   have h5':((t.kind:Int) == 5)=false:=by simp; omega
   have h2':((t.kind:Int) == 2)=false:=by simp; omega
   rw [e,tokV]
   go_enter Tryz.func133,Tryz.ntmps133
   go_wp2_with fail
   go_ret
   exact ⟨rfl,(Below.refl _ _).alloc (Nat.le_refl _) _⟩
theorem sizeFault:(Tryz.prog.info? 54).map (·.size)=some 2:=by kernel_rfl
theorem results_three {P:Program} {fn:Func} {p u q:Tmp} {ty ty':TypeId} (h:fn.results=#[.cell p ty,.tmp u,.cell q ty']) (tmps:Array Value) (w:World) (g g':Nat) (t t':TypeId) (cs cs':Array Value) (fr fr':Nat × Nat) (d d':TypeDesc)
  (hp:tmps.getD p undef=.pointer (some ⟨g,0,none⟩)) (hg:w.heap[g]?=some (.cells cs t fr))
  (hu:P.underlying ty=some d) (hd:(match d with | .struct _ | .array _ _=>true | _=>false)=true) (hi:(P.info? ty).map (·.size)=some cs.size) (x:Value) (hx:tmps.getD u undef=x)
  (hp':tmps.getD q undef=.pointer (some ⟨g',0,none⟩)) (hg':w.heap[g']?=some (.cells cs' t' fr'))
  (hu':P.underlying ty'=some d') (hd':(match d' with | .struct _ | .array _ _=>true | _=>false)=true) (hi':(P.info? ty').map (·.size)=some cs'.size) :
  (results fn tmps).run P w=.ok (.tuple #[.agg cs,x,.agg cs']) w:=by
 simp only [results,h]
 simp only [Array.getD_eq_getD_getElem?] at hp hp' hx
 simp [Sem.run_bind,Result.andThen,hp,hp',hx,asAddr,run_loadVar_row w g t ty cs fr d hg hu hd hi,run_loadVar_row w g' t' ty' cs' fr' d' hg' hu' hd' hi']
theorem results_cells2 {P:Program} {fn:Func} {p q:Tmp} {ty ty':TypeId} (h:fn.results=#[.cell p ty,.cell q ty']) (tmps:Array Value) (w:World) (g g':Nat) (t t':TypeId) (cs cs':Array Value) (fr fr':Nat × Nat) (d d':TypeDesc)
  (hp:tmps.getD p undef=.pointer (some ⟨g,0,none⟩)) (hg:w.heap[g]?=some (.cells cs t fr))
  (hu:P.underlying ty=some d) (hd:(match d with | .struct _ | .array _ _=>true | _=>false)=true) (hi:(P.info? ty).map (·.size)=some cs.size)
  (hp':tmps.getD q undef=.pointer (some ⟨g',0,none⟩)) (hg':w.heap[g']?=some (.cells cs' t' fr'))
  (hu':P.underlying ty'=some d') (hd':(match d' with | .struct _ | .array _ _=>true | _=>false)=true) (hi':(P.info? ty').map (·.size)=some cs'.size) :
  (results fn tmps).run P w=.ok (.tuple #[.agg cs,.agg cs']) w:=by
 simp only [results,h]
 simp only [Array.getD_eq_getD_getElem?] at hp hp'
 simp [Sem.run_bind,Result.andThen,hp,hp',asAddr,run_loadVar_row w g t ty cs fr d hg hu hd hi,run_loadVar_row w g' t' ty' cs' fr' d' hg' hu' hd' hi']
theorem setRow_same {w:World} {g:Nat} {cs:Array Value} {t:TypeId} {fr:Nat × Nat} (hg:w.heap[g]?=some (.cells cs t fr)):w.setRow g cs=w:=by
 have e:w.heap.modify g (fun | .cells _ elem frozen=>.cells cs elem frozen | o=>o)=w.heap:=by
  apply Array.ext_getElem?
  intro k
  rw [Array.getElem?_modify]
  split
  ·next h=>subst h; rw [hg]; rfl
  ·rfl
 unfold World.setRow
 exact congrArg (fun h=>{ w with heap:=h }) e
theorem wpList_store_same {P:Program} {ops:Array Oper} {rest:List Oper} {o:Oper} {a:Act} {w:World} {Q:Exit→Act→World→Prop} (hgd:o.guard=none) (ty:TypeId) (x y:Operand) (ho:o.op=.store ty x y)
  (g:Nat) (cells:Array Value) (hx:a.eval x=.pointer (some ⟨g,0,none⟩)) (hy:a.eval y=.agg cells)
  (t:TypeId) (hg:w.heap[g]?=some (.cells cells t (0,0))) (hi:(P.info? ty).map (·.size)=some cells.size) (h1:cells.all (·.oneCell')=true) (hd:o.dst=none)
  (h:wpList P ops Q rest a w):wpList P ops Q (o :: rest) a w:=
 wpList_store_row hgd ty x y ho g cells hx hy t cells hg hi rfl h1 (by rw [setRow_same hg,hd]; exact h)
abbrev zcells:Array Value:=#[.int .i64 0,.string (tx []),.int .i64 0,.int .i64 0,.string (tx []),.slice none 0 0]
end Go.Proofs.YteghhmomhlnccaaGreatDoor
namespace Go.Proofs.YteghhmomhlnccaaGreatDoor
open Ex (Tree)
def bareV:Tree→Value
 | .node op t vk vn vs _=>.agg (ncells op t vk vn vs none 0 0)
theorem leaf_any (t:Lx.Tk) (w:World) (a:Addr) (m:Int) (hv:Env w a m) (hs:t.text.length≤6000) :
  Calls Tryz.prog 230 #[tokV t] w fun e w'=>e=.returned (bareV (leafT t))∧Below w.heap.size w w':=by
 have b0:Below w.heap.size w ((w.alloc (.cells #[.int .i64 (t.kind:Nat),.string (tx t.text),.int .i64 (t.at_:Nat)] 87)).alloc (.cells (ncells 0 [] 0 0 [] none 0 0) 26)):=((Below.refl _ _).alloc (Nat.le_refl _) _).alloc (by simp) _
 have k0:=(Whole.new w 87 #[.int .i64 (t.kind:Nat),.string (tx t.text),.int .i64 (t.at_:Nat)]).alloc (.cells (ncells 0 [] 0 0 [] none 0 0) 26)
 have k1:=Whole.new (w.alloc (.cells #[.int .i64 (t.kind:Nat),.string (tx t.text),.int .i64 (t.at_:Nat)] 87)) 26 (ncells 0 [] 0 0 [] none 0 0)
 simp only [World.size_alloc] at k1
 obtain ⟨W1,hW1⟩:∃ W1,(w.alloc (.cells #[.int .i64 (t.kind:Nat),.string (tx t.text),.int .i64 (t.at_:Nat)] 87)).alloc (.cells (ncells 0 [] 0 0 [] none 0 0) 26)=W1:=⟨_,rfl⟩
 rw [hW1] at b0 k0 k1
 have RD:=hid (vread_any (tx t.text) W1 a m (hv.below b0) (by simp [ByteArray.size]; exact hs))
 unfold ncells at *
 have B0:=hid b0
 have K1:=hid k1
 have c0:=k0.cell 0
 have c1:=k0.cell 1
 simp only [List.getElem?_toArray,List.getElem?_cons_zero,List.getElem?_cons_succ] at c0 c1
 obtain ⟨x0,x1,x2,x3,x4,x5⟩:=six_of k1
 obtain ⟨y0,y1,y2,y3,y4,y5⟩:=frozen6 k1
 have FINS:Hid (∀ (W:World),Whole W (w.heap.size + 1) 26 #[.int .i64 0,.string (tx []),.int .i64 0,.int .i64 0,.string (tx []),.slice none 0 0]→Below w.heap.size w W→∀ (op:Int) (tt:List UInt8) (vk vn:Int) (vs:List UInt8),
   Whole (set6Z W (w.heap.size + 1) (.int .i64 op) (.string (tx tt)) (.int .i64 vk) (.int .i64 vn) (.string (tx vs)) (.slice none 0 0)) (w.heap.size + 1) 26 #[.int .i64 op,.string (tx tt),.int .i64 vk,.int .i64 vn,.string (tx vs),.slice none 0 0] ∧
   Below w.heap.size w (set6Z W (w.heap.size + 1) (.int .i64 op) (.string (tx tt)) (.int .i64 vk) (.int .i64 vn) (.string (tx vs)) (.slice none 0 0))):=hid (fun W k1 b0 op tt vk vn vs=>
  ⟨set6Z_whole k1 _ _ _ _ _ _,b0.trans ((set6Z_touch W (w.heap.size + 1) _ _ _ _ _ _).below1 (B:=w.heap.size) (by omega) b0.size)⟩)
 clear k0 k1 b0 hv
 by_cases h1:t.kind=1
 ·have e:bareV (leafT t)=.agg #[.int .i64 2,.string (tx t.text),.int .i64 0,.int .i64 0,.string (tx []),.slice none 0 0]:=by rw [leafT,if_pos h1]; rfl
  have h':(t.kind:Int)=1:=by omega
  obtain ⟨F1,F2⟩:=FINS.out W1 K1.out B0.out 2 t.text 0 0 []
  have F1:=hid F1
  have F2:=hid F2
  rw [e,tokV]
  rw [h'] at c0 ⊢
  rw [h'] at hW1
  go_enter Tryz.func230,Tryz.ntmps230
  go_wp2_with fail
  exact bodyPost_ret (results_cell_row rfl _ _ (w.heap.size + 1) _ _ _ _ rfl F1.out Tryz.underlying26 rfl sizeExpr) rfl ⟨rfl,F2.out⟩
 ·have g1:((t.kind:Int) == 1)=false:=by simp; omega
  by_cases h4:t.kind=4
  ·have e:bareV (leafT t)=.agg #[.int .i64 1,.string (tx []),.int .i64 2,.int .i64 0,.string (tx t.text),.slice none 0 0]:=by rw [leafT,if_neg h1,if_pos h4]; rfl
   have h':(t.kind:Int)=4:=by omega
   obtain ⟨F1,F2⟩:=FINS.out W1 K1.out B0.out 1 [] 2 0 t.text
   have F1:=hid F1
   have F2:=hid F2
   rw [e,tokV]
   clear g1
   rw [h'] at c0 ⊢
   rw [h'] at hW1
   go_enter Tryz.func230,Tryz.ntmps230
   go_wp2_with fail
   exact bodyPost_ret (results_cell_row rfl _ _ (w.heap.size + 1) _ _ _ _ rfl F1.out Tryz.underlying26 rfl sizeExpr) rfl ⟨rfl,F2.out⟩
  ·have g4:((t.kind:Int) == 4)=false:=by simp; omega
   by_cases h32:t.kind=3∨t.kind=2
   ·have e0:leafT t=(if (told t.text).e=0 then .node 1 [] (told t.text).k (told t.text).n (told t.text).s [] else .node 0 [] 0 0 [] []):=by rw [leafT,if_neg h1,if_neg h4,if_pos h32]
    have rd2:Hid (Calls Tryz.prog 130 #[.string (tx t.text)] W1 fun e w'=>e=.returned (.tuple #[val (told t.text).k (told t.text).n (tx (told t.text).s),.int .i64 (told t.text).e])∧Below W1.heap.size W1 w'):=RD
    generalize told t.text=r at rd2 e0
    obtain ⟨k,n,s,e⟩:=r
    simp only at rd2 e0
    by_cases h3:t.kind=3
    ·rw [tokV,e0]
     have h':(t.kind:Int)=3:=by omega
     clear g1 g4 RD e0
     rw [h'] at c0 hW1 ⊢
     go_enter Tryz.func230,Tryz.ntmps230
     go_wp2_with fail
     refine rd2.out.mono ?_
     rintro e W2 ⟨rfl,hb⟩
     have k2:=K1.out.below hb K1.out.lt
     have B2:=B0.out.trans (hb.mono B0.out.size)
     have b3:Below w.heap.size w (W2.alloc (.cells #[.int .i64 k,.int .i64 n,.string (tx s)] 23)):=B2.alloc B2.size _
     have k3:=k2.alloc (.cells #[.int .i64 k,.int .i64 n,.string (tx s)] 23)
     have v3:=Whole.new W2 23 #[.int .i64 k,.int .i64 n,.string (tx s)]
     obtain ⟨z0,z1,z2,z3,z4,z5⟩:=six_of k3
     obtain ⟨u0,u1,u2,u3,u4,u5⟩:=frozen6 k3
     clear x0 x1 x2 x3 x4 x5 y0 y1 y2 y3 y4 y5 hb c0 c1
     by_cases he:e=0
     ·subst he
      obtain ⟨F1,F2⟩:=FINS.out _ k3 b3 1 [] k n s
      have F1:=hid F1
      have F2:=hid F2
      go_wp2_with fail
      refine bodyPost_ret (results_cell_row rfl _ _ (w.heap.size + 1) _ _ _ _ rfl F1.out Tryz.underlying26 rfl sizeExpr) rfl ⟨?_,F2.out⟩
      rfl
     ·have he':(e == 0)=false:=by simpa using he
      have HE:=hid he
      have K3H:=hid k3
      have B3H:=hid b3
      clear he k3 b3 v3 k2 B2
      go_upto_region 11 with fail
      refine wp_region_lit ?_
      refine wpList_buildTo rfl 26 _ rfl (some 31) rfl zcells (by kernel_rfl) ?_
      refine wpList_store_same rfl 26 _ _ rfl (w.heap.size + 1) zcells rfl rfl 26 K3H.out sizeExpr (by simp [Value.oneCell']) rfl ?_
      refine wpList_nil ?_
      rename_i hK
      refine hK _ _ ?_
      refine wp_ret ?_
      refine bodyPost_ret (results_cell_row rfl _ _ (w.heap.size + 1) _ _ _ _ rfl K3H.out Tryz.underlying26 rfl sizeExpr) rfl ⟨?_,B3H.out⟩
      rw [if_neg HE.out]
      rfl
    ·have h2:t.kind=2:=by omega
     rw [tokV,e0]
     have h':(t.kind:Int)=2:=by omega
     clear g1 g4 RD e0
     rw [h'] at c0 hW1 ⊢
     go_enter Tryz.func230,Tryz.ntmps230
     go_wp2_with fail
     refine rd2.out.mono ?_
     rintro e W2 ⟨rfl,hb⟩
     have k2:=K1.out.below hb K1.out.lt
     have B2:=B0.out.trans (hb.mono B0.out.size)
     have b3:Below w.heap.size w (W2.alloc (.cells #[.int .i64 k,.int .i64 n,.string (tx s)] 23)):=B2.alloc B2.size _
     have k3:=k2.alloc (.cells #[.int .i64 k,.int .i64 n,.string (tx s)] 23)
     have v3:=Whole.new W2 23 #[.int .i64 k,.int .i64 n,.string (tx s)]
     obtain ⟨z0,z1,z2,z3,z4,z5⟩:=six_of k3
     obtain ⟨u0,u1,u2,u3,u4,u5⟩:=frozen6 k3
     clear x0 x1 x2 x3 x4 x5 y0 y1 y2 y3 y4 y5 hb c0 c1
     by_cases he:e=0
     ·subst he
      obtain ⟨F1,F2⟩:=FINS.out _ k3 b3 1 [] k n s
      have F1:=hid F1
      have F2:=hid F2
      go_wp2_with fail
      refine bodyPost_ret (results_cell_row rfl _ _ (w.heap.size + 1) _ _ _ _ rfl F1.out Tryz.underlying26 rfl sizeExpr) rfl ⟨?_,F2.out⟩
      rfl
     ·have he':(e == 0)=false:=by simpa using he
      have HE:=hid he
      have K3H:=hid k3
      have B3H:=hid b3
      clear he k3 b3 v3 k2 B2
      go_upto_region 11 with fail
      refine wp_region_lit ?_
      refine wpList_buildTo rfl 26 _ rfl (some 31) rfl zcells (by kernel_rfl) ?_
      refine wpList_store_same rfl 26 _ _ rfl (w.heap.size + 1) zcells rfl rfl 26 K3H.out sizeExpr (by simp [Value.oneCell']) rfl ?_
      refine wpList_nil ?_
      rename_i hK
      refine hK _ _ ?_
      refine wp_ret ?_
      refine bodyPost_ret (results_cell_row rfl _ _ (w.heap.size + 1) _ _ _ _ rfl K3H.out Tryz.underlying26 rfl sizeExpr) rfl ⟨?_,B3H.out⟩
      rw [if_neg HE.out]
      rfl
   ·have g2:((t.kind:Int) == 2)=false:=by simp; omega
    have g3:((t.kind:Int) == 3)=false:=by simp; omega
    have e:bareV (leafT t)=.agg #[.int .i64 0,.string (tx []),.int .i64 0,.int .i64 0,.string (tx []),.slice none 0 0]:=by rw [leafT,if_neg h1,if_neg h4,if_neg h32]; rfl
    rw [e,tokV]
    clear h32
    go_enter Tryz.func230,Tryz.ntmps230
    go_upto_region 11 with fail
    refine wp_region_lit ?_
    refine wpList_buildTo rfl 26 _ rfl (some 31) rfl zcells (by kernel_rfl) ?_
    refine wpList_store_same rfl 26 _ _ rfl (w.heap.size + 1) zcells rfl rfl 26 K1.out sizeExpr (by simp [Value.oneCell']) rfl ?_
    refine wpList_nil ?_
    rename_i hK
    refine hK _ _ ?_
    refine wp_ret ?_
    exact bodyPost_ret (results_cell_row rfl _ _ (w.heap.size + 1) _ _ _ _ rfl K1.out Tryz.underlying26 rfl sizeExpr) rfl ⟨rfl,B0.out⟩
end Go.Proofs.YteghhmomhlnccaaGreatDoor
namespace Go.Proofs.YteghhmomhlnccaaGreatDoor
open Ex (Tree)
abbrev zT:Tree:=.node 0 [] 0 0 [] []
variable {w0 w : World} {P : Nat} {A : Option Addr} {c : Nat} {L : List Lx.Tk} {i d : Nat}
theorem fail_any (h:PAt w0 w P A c L i d) (hL:L ≠ []) (code a:Nat) :
  Calls Tryz.prog 198 #[.pointer (some ⟨P,0,none⟩),.int .i64 (code:Nat),.int .i64 (a:Nat)] w fun e w'=>∃ u,e=.returned (.tuple #[u,.bool false])∧NodeNew w.heap.size w' u zT∧PX w0 w' P A c L i d code a∧Touch [P] w w':=by
 have b0:Below w.heap.size w (w.alloc (.cells (ncells 0 [] 0 0 [] none 0 0) 26)):=(Below.refl _ _).alloc (Nat.le_refl _) _
 have k0:=Whole.new w 26 (ncells 0 [] 0 0 [] none 0 0)
 have h1:=h.below b0
 have HB:=hid (h.base hL)
 have ht:Touch [P] w (w.alloc (.cells (ncells 0 [] 0 0 [] none 0 0) 26)):=Touch.of_below b0 [P]
 unfold ncells at *
 obtain ⟨W1,hW1⟩:∃ W1,w.alloc (.cells #[.int .i64 0,.string (tx []),.int .i64 0,.int .i64 0,.string (tx []),.slice none 0 0] 26)=W1:=⟨_,rfl⟩
 rw [hW1] at b0 k0 h1 ht
 have p3:W1.cell? ⟨P,3,none⟩=some (.int .i64 0):=h1.cells.cell 3
 have p4:W1.cell? ⟨P,4,none⟩=some (.int .i64 0):=h1.cells.cell 4
 have f3:=h1.cells.frozen 3
 have f4:=h1.cells.frozen 4
 have H2:=hid (h1.set_fault code a)
 have k2:Whole ((W1.setCell ⟨P,3,none⟩ (.int .i64 (code:Nat))).setCell ⟨P,4,none⟩ (.int .i64 (a:Nat))) w.heap.size 26 zcells:=(k0.far (p:=⟨P,3,none⟩) (by have:=HB.out.P; simp; omega) _).far (p:=⟨P,4,none⟩) (by have:=HB.out.P; simp; omega) _
 have K2:=hid k2
 have T2:Hid (Touch [P] w ((W1.setCell ⟨P,3,none⟩ (.int .i64 (code:Nat))).setCell ⟨P,4,none⟩ (.int .i64 (a:Nat)))):=hid ((ht.setCell (q:=⟨P,3,none⟩) (.inl (by simp)) _).setCell (q:=⟨P,4,none⟩) (.inl (by simp)) _)
 clear b0 k0 h1 ht k2 h HB
 go_enter Tryz.func198,Tryz.ntmps198
 go_upto_region 2 with fail
 refine wp_region_lit ?_
 refine wpList_buildTo rfl 26 _ rfl (some 14) rfl zcells (by kernel_rfl) ?_
 refine wpList_store_same rfl 26 _ _ rfl (w.heap.size) zcells rfl rfl 26 (K2.out) sizeExpr (by simp [Value.oneCell']) rfl ?_
 go_wp2_with fail
 exact bodyPost_ret (results_two rfl _ _ w.heap.size _ _ _ _ rfl K2.out Tryz.underlying26 rfl sizeExpr _ rfl) rfl ⟨_,rfl,⟨none,0,rfl,Nat.le_refl _,by rw [TreesIn]; trivial⟩,H2.out,T2.out⟩
theorem takes_yes (h:PAt w0 w P A c L i d) (hLn:L.length≤1000000) (hi:i + 1≤1000000) (want:List UInt8) (hw:sgn (tk L i)=want) :
  Calls Tryz.prog 228 #[.pointer (some ⟨P,0,none⟩),.string (tx want)] w fun e w'=>e=.returned (.bool true)∧PAt w0 w' P A c L (i + 1) d∧Touch [P] w w':=by
 have NX:=hid (next_any h (by omega) hLn)
 have H1:=hid h
 obtain ⟨tok,htok⟩:∃ tok,tk L i=tok:=⟨_,rfl⟩
 rw [htok] at NX hw
 have hne:((tx (sgn tok)).toList == want)=true:=by rw [ByteArray.toList_eq]; simpa using hw
 have hne2:(sgn tok == want)=true:=by simpa using hw
 clear h htok hw
 go_enter Tryz.func228,Tryz.ntmps228
 go_wp2_with fail
 refine NX.out.mono ?_
 rintro e W2 ⟨rfl,hb2⟩
 have SG:=hid (sign_any tok W2)
 have B2:=hid hb2
 clear hb2 NX
 go_wp2_with fail
 refine SG.out.mono ?_
 rintro e W3 ⟨rfl,hb3⟩
 have B3:Hid (Below w.heap.size w W3):=hid (bstep B2.out hb3)
 have H3:=hid (H1.out.below B3.out)
 have p3:W3.cell? ⟨P,1,none⟩=some (.int .i64 (i:Nat)):=H3.out.cells.cell 1
 have pf:W3.frozen? ⟨P,1,none⟩=false:=H3.out.cells.frozen 1
 have hi':(i:Int) + 1≤1000000:=by omega
 have F1:=hid (H3.out.set_at (i + 1))
 have F2:Hid (Touch [P] w (W3.setCell ⟨P,1,none⟩ (.int .i64 ((i + 1:Nat):Int)))):=hid ((Touch.of_below B3.out [P]).setCell (.inl (by simp)) _)
 have hcast:((i + 1:Nat):Int)=(i:Int) + 1:=by omega
 rw [hcast] at F1 F2
 clear hb3 SG hcast
 go_wp2_with fail
 go_ret
 exact ⟨rfl,F1.out,F2.out⟩
theorem takes_no (h:PAt w0 w P A c L i d) (hL:L ≠ []) (hLn:L.length≤1000000) (hi:i + 1≤1000000) (want:List UInt8) (hw:sgn (tk L i) ≠ want) :
  Calls Tryz.prog 228 #[.pointer (some ⟨P,0,none⟩),.string (tx want)] w fun e w'=>e=.returned (.bool false)∧PX w0 w' P A c L i d 8 (tk L i).at_∧Touch [P] w w':=by
 have NX:=hid (next_any h (by omega) hLn)
 have H1:=hid h
 obtain ⟨tok,htok⟩:∃ tok,tk L i=tok:=⟨_,rfl⟩
 have NX2:Hid (∀ W,Below w.heap.size w W→Calls Tryz.prog 80 #[.pointer (some ⟨P,0,none⟩)] W fun e w'=>e=.returned (tokV tok)∧Below W.heap.size W w'):=hid (fun W hW=>by rw [← htok]; exact next_any (h.below hW) (by omega) hLn)
 rw [htok] at NX hw ⊢
 have hne:((tx (sgn tok)).toList == want)=false:=by rw [ByteArray.toList_eq]; simpa using hw
 have hne2:(sgn tok == want)=false:=by simpa using hw
 obtain ⟨kd,tt,ta⟩:=tok
 clear h htok hw
 go_enter Tryz.func228,Tryz.ntmps228
 go_wp2_with fail
 refine NX.out.mono ?_
 rintro e W2 ⟨rfl,hb2⟩
 have SG:=hid (sign_any ⟨kd,tt,ta⟩ W2)
 have B2:=hid hb2
 clear hb2 NX
 go_wp2_with fail
 refine SG.out.mono ?_
 rintro e W3 ⟨rfl,hb3⟩
 have B3:Hid (Below w.heap.size w W3):=hid (bstep B2.out hb3)
 have NX3:=hid (NX2.out W3 B3.out)
 clear hb3 SG
 go_wp2_with fail
 refine NX3.out.mono ?_
 rintro e W4 ⟨rfl,hb4⟩
 have B4:Hid (Below w.heap.size w W4):=hid (bstep B3.out hb4)
 have FA:=hid (fail_any (H1.out.below B4.out) hL 8 ta)
 have hF:=fieldTok2 (kd:Nat) (ta:Nat) (tx tt) W4
 clear hb4 NX3
 go_wp2_with fail
 refine FA.out.mono ?_
 rintro e W5 ⟨u,rfl,-,hp,ht⟩
 have F1:=hid hp
 have F2:Hid (Touch [P] w W5):=hid ((Touch.of_below B4.out [P]).trans ht (fun x hx=>.inl hx))
 clear hp ht FA
 go_wp2_with fail
 go_ret
 exact ⟨rfl,F1.out,F2.out⟩
end Go.Proofs.YteghhmomhlnccaaGreatDoor
namespace Go.Proofs.YteghhmomhlnccaaGreatDoor
open Ex (Tree)
theorem or_tot {w0:World} {P:Nat} {A:Option Addr} {c:Nat} {L:List Lx.Tk} {i d:Nat} {r:Ps.Res} (hL:L ≠ [])
  (HC:Tot w0 P A c L 109 #[.pointer (some ⟨P,0,none⟩),.int .i64 1,.func (.func 110) #[.pointer (some ⟨P,0,none⟩)] #[]] i d r):Tot w0 P A c L 81 #[.pointer (some ⟨P,0,none⟩)] i d r:=by
 intro w h
 have b0:Below w.heap.size w (w.alloc (.cells (ncells 0 [] 0 0 [] none 0 0) 26)):=(Below.refl _ _).alloc (Nat.le_refl _) _
 have k0:=Whole.new w 26 (ncells 0 [] 0 0 [] none 0 0)
 have CC:=hid (HC _ (h.below b0))
 have HB:=hid (h.base hL)
 have hz:(w.alloc (.cells (ncells 0 [] 0 0 [] none 0 0) 26)).heap.size=w.heap.size + 1:=by simp
 unfold ncells at *
 have B0:=hid b0
 have K0:=hid k0
 have HZ:=hid hz
 clear b0 k0 hz h HC hL
 go_enter Tryz.func81,Tryz.ntmps81
 go_wp2_with fail
 refine CC.out.mono ?_
 generalize w.alloc (.cells #[.int .i64 0,.string (tx []),.int .i64 0,.int .i64 0,.string (tx []),.slice none 0 0] 26)=W1 at *
 rintro e W2 ⟨T,i',b,fc,fa,hf,u,rfl,hu,hp,ht⟩
 cases T with
 | node op t vk vn vs ks=>
 obtain ⟨A2,c2,rfl,hc2,hk2⟩:=hu
 have k2:Whole W2 w.heap.size 26 #[.int .i64 0,.string (tx []),.int .i64 0,.int .i64 0,.string (tx []),.slice none 0 0]:=(ht.block _ K0.out.lt (by have:=HB.out.P; simp; omega)).trans K0.out
 obtain ⟨x0,x1,x2,x3,x4,x5⟩:=six_of k2
 obtain ⟨y0,y1,y2,y3,y4,y5⟩:=frozen6 k2
 have FIN:=hid (set6Z_whole k2 (.int .i64 op) (.string (tx t)) (.int .i64 vk) (.int .i64 vn) (.string (tx vs)) (.slice A2 ks.length c2))
 have FT:=set6Z_touch W2 w.heap.size (.int .i64 op) (.string (tx t)) (.int .i64 vk) (.int .i64 vn) (.string (tx vs)) (.slice A2 ks.length c2)
 have F1:=hid (hp.new HB.out FT (Nat.le_refl _))
 have F2:Hid (Touch [P] w (set6Z W2 w.heap.size (.int .i64 op) (.string (tx t)) (.int .i64 vk) (.int .i64 vn) (.string (tx vs)) (.slice A2 ks.length c2))):=hid (((Touch.of_below B0.out [P]).trans ht (fun x hx=>.inl hx)).trans FT (fun x hx=>.inr (by simp at hx; omega)))
 have F3:=hid (hk2.moved (S':=(w.heap.size≤·)) fun k hk hlt=>⟨FT.block k hlt (by have:=HZ.out; simp; omega),by have:=HZ.out; omega⟩)
 have F4:=hid hc2
 have F5:=hid hf
 clear FT hk2 hc2 hp ht k2 hf
 go_wp2_with fail
 exact bodyPost_ret (results_two rfl _ _ w.heap.size _ _ _ _ rfl FIN.out Tryz.underlying26 rfl sizeExpr _ rfl) rfl ⟨_,_,_,_,_,F5.out,_,rfl,⟨A2,c2,rfl,F4.out,F3.out⟩,F1.out,F2.out⟩
theorem and_tot {w0:World} {P:Nat} {A:Option Addr} {c:Nat} {L:List Lx.Tk} {i d:Nat} {r:Ps.Res} (hL:L ≠ [])
  (HC:Tot w0 P A c L 109 #[.pointer (some ⟨P,0,none⟩),.int .i64 2,.func (.func 135) #[.pointer (some ⟨P,0,none⟩)] #[]] i d r):Tot w0 P A c L 110 #[.pointer (some ⟨P,0,none⟩)] i d r:=by
 intro w h
 have b0:Below w.heap.size w (w.alloc (.cells (ncells 0 [] 0 0 [] none 0 0) 26)):=(Below.refl _ _).alloc (Nat.le_refl _) _
 have k0:=Whole.new w 26 (ncells 0 [] 0 0 [] none 0 0)
 have CC:=hid (HC _ (h.below b0))
 have HB:=hid (h.base hL)
 have hz:(w.alloc (.cells (ncells 0 [] 0 0 [] none 0 0) 26)).heap.size=w.heap.size + 1:=by simp
 unfold ncells at *
 have B0:=hid b0
 have K0:=hid k0
 have HZ:=hid hz
 clear b0 k0 hz h HC hL
 go_enter Tryz.func110,Tryz.ntmps110
 go_wp2_with fail
 refine CC.out.mono ?_
 generalize w.alloc (.cells #[.int .i64 0,.string (tx []),.int .i64 0,.int .i64 0,.string (tx []),.slice none 0 0] 26)=W1 at *
 rintro e W2 ⟨T,i',b,fc,fa,hf,u,rfl,hu,hp,ht⟩
 cases T with
 | node op t vk vn vs ks=>
 obtain ⟨A2,c2,rfl,hc2,hk2⟩:=hu
 have k2:Whole W2 w.heap.size 26 #[.int .i64 0,.string (tx []),.int .i64 0,.int .i64 0,.string (tx []),.slice none 0 0]:=(ht.block _ K0.out.lt (by have:=HB.out.P; simp; omega)).trans K0.out
 obtain ⟨x0,x1,x2,x3,x4,x5⟩:=six_of k2
 obtain ⟨y0,y1,y2,y3,y4,y5⟩:=frozen6 k2
 have FIN:=hid (set6Z_whole k2 (.int .i64 op) (.string (tx t)) (.int .i64 vk) (.int .i64 vn) (.string (tx vs)) (.slice A2 ks.length c2))
 have FT:=set6Z_touch W2 w.heap.size (.int .i64 op) (.string (tx t)) (.int .i64 vk) (.int .i64 vn) (.string (tx vs)) (.slice A2 ks.length c2)
 have F1:=hid (hp.new HB.out FT (Nat.le_refl _))
 have F2:Hid (Touch [P] w (set6Z W2 w.heap.size (.int .i64 op) (.string (tx t)) (.int .i64 vk) (.int .i64 vn) (.string (tx vs)) (.slice A2 ks.length c2))):=hid (((Touch.of_below B0.out [P]).trans ht (fun x hx=>.inl hx)).trans FT (fun x hx=>.inr (by simp at hx; omega)))
 have F3:=hid (hk2.moved (S':=(w.heap.size≤·)) fun k hk hlt=>⟨FT.block k hlt (by have:=HZ.out; simp; omega),by have:=HZ.out; omega⟩)
 have F4:=hid hc2
 have F5:=hid hf
 clear FT hk2 hc2 hp ht k2 hf
 go_wp2_with fail
 exact bodyPost_ret (results_two rfl _ _ w.heap.size _ _ _ _ rfl FIN.out Tryz.underlying26 rfl sizeExpr _ rfl) rfl ⟨_,_,_,_,_,F5.out,_,rfl,⟨A2,c2,rfl,F4.out,F3.out⟩,F1.out,F2.out⟩
theorem sum_tot {w0:World} {P:Nat} {A:Option Addr} {c:Nat} {L:List Lx.Tk} {i d:Nat} {r:Ps.Res} (hL:L ≠ [])
  (HC:Tot w0 P A c L 109 #[.pointer (some ⟨P,0,none⟩),.int .i64 4,.func (.func 199) #[.pointer (some ⟨P,0,none⟩)] #[]] i d r):Tot w0 P A c L 181 #[.pointer (some ⟨P,0,none⟩)] i d r:=by
 intro w h
 have b0:Below w.heap.size w (w.alloc (.cells (ncells 0 [] 0 0 [] none 0 0) 26)):=(Below.refl _ _).alloc (Nat.le_refl _) _
 have k0:=Whole.new w 26 (ncells 0 [] 0 0 [] none 0 0)
 have CC:=hid (HC _ (h.below b0))
 have HB:=hid (h.base hL)
 have hz:(w.alloc (.cells (ncells 0 [] 0 0 [] none 0 0) 26)).heap.size=w.heap.size + 1:=by simp
 unfold ncells at *
 have B0:=hid b0
 have K0:=hid k0
 have HZ:=hid hz
 clear b0 k0 hz h HC hL
 go_enter Tryz.func181,Tryz.ntmps181
 go_wp2_with fail
 refine CC.out.mono ?_
 generalize w.alloc (.cells #[.int .i64 0,.string (tx []),.int .i64 0,.int .i64 0,.string (tx []),.slice none 0 0] 26)=W1 at *
 rintro e W2 ⟨T,i',b,fc,fa,hf,u,rfl,hu,hp,ht⟩
 cases T with
 | node op t vk vn vs ks=>
 obtain ⟨A2,c2,rfl,hc2,hk2⟩:=hu
 have k2:Whole W2 w.heap.size 26 #[.int .i64 0,.string (tx []),.int .i64 0,.int .i64 0,.string (tx []),.slice none 0 0]:=(ht.block _ K0.out.lt (by have:=HB.out.P; simp; omega)).trans K0.out
 obtain ⟨x0,x1,x2,x3,x4,x5⟩:=six_of k2
 obtain ⟨y0,y1,y2,y3,y4,y5⟩:=frozen6 k2
 have FIN:=hid (set6Z_whole k2 (.int .i64 op) (.string (tx t)) (.int .i64 vk) (.int .i64 vn) (.string (tx vs)) (.slice A2 ks.length c2))
 have FT:=set6Z_touch W2 w.heap.size (.int .i64 op) (.string (tx t)) (.int .i64 vk) (.int .i64 vn) (.string (tx vs)) (.slice A2 ks.length c2)
 have F1:=hid (hp.new HB.out FT (Nat.le_refl _))
 have F2:Hid (Touch [P] w (set6Z W2 w.heap.size (.int .i64 op) (.string (tx t)) (.int .i64 vk) (.int .i64 vn) (.string (tx vs)) (.slice A2 ks.length c2))):=hid (((Touch.of_below B0.out [P]).trans ht (fun x hx=>.inl hx)).trans FT (fun x hx=>.inr (by simp at hx; omega)))
 have F3:=hid (hk2.moved (S':=(w.heap.size≤·)) fun k hk hlt=>⟨FT.block k hlt (by have:=HZ.out; simp; omega),by have:=HZ.out; omega⟩)
 have F4:=hid hc2
 have F5:=hid hf
 clear FT hk2 hc2 hp ht k2 hf
 go_wp2_with fail
 exact bodyPost_ret (results_two rfl _ _ w.heap.size _ _ _ _ rfl FIN.out Tryz.underlying26 rfl sizeExpr _ rfl) rfl ⟨_,_,_,_,_,F5.out,_,rfl,⟨A2,c2,rfl,F4.out,F3.out⟩,F1.out,F2.out⟩
theorem product_tot {w0:World} {P:Nat} {A:Option Addr} {c:Nat} {L:List Lx.Tk} {i d:Nat} {r:Ps.Res} (hL:L ≠ [])
  (HC:Tot w0 P A c L 109 #[.pointer (some ⟨P,0,none⟩),.int .i64 5,.func (.func 216) #[.pointer (some ⟨P,0,none⟩)] #[]] i d r):Tot w0 P A c L 199 #[.pointer (some ⟨P,0,none⟩)] i d r:=by
 intro w h
 have b0:Below w.heap.size w (w.alloc (.cells (ncells 0 [] 0 0 [] none 0 0) 26)):=(Below.refl _ _).alloc (Nat.le_refl _) _
 have k0:=Whole.new w 26 (ncells 0 [] 0 0 [] none 0 0)
 have CC:=hid (HC _ (h.below b0))
 have HB:=hid (h.base hL)
 have hz:(w.alloc (.cells (ncells 0 [] 0 0 [] none 0 0) 26)).heap.size=w.heap.size + 1:=by simp
 unfold ncells at *
 have B0:=hid b0
 have K0:=hid k0
 have HZ:=hid hz
 clear b0 k0 hz h HC hL
 go_enter Tryz.func199,Tryz.ntmps199
 go_wp2_with fail
 refine CC.out.mono ?_
 generalize w.alloc (.cells #[.int .i64 0,.string (tx []),.int .i64 0,.int .i64 0,.string (tx []),.slice none 0 0] 26)=W1 at *
 rintro e W2 ⟨T,i',b,fc,fa,hf,u,rfl,hu,hp,ht⟩
 cases T with
 | node op t vk vn vs ks=>
 obtain ⟨A2,c2,rfl,hc2,hk2⟩:=hu
 have k2:Whole W2 w.heap.size 26 #[.int .i64 0,.string (tx []),.int .i64 0,.int .i64 0,.string (tx []),.slice none 0 0]:=(ht.block _ K0.out.lt (by have:=HB.out.P; simp; omega)).trans K0.out
 obtain ⟨x0,x1,x2,x3,x4,x5⟩:=six_of k2
 obtain ⟨y0,y1,y2,y3,y4,y5⟩:=frozen6 k2
 have FIN:=hid (set6Z_whole k2 (.int .i64 op) (.string (tx t)) (.int .i64 vk) (.int .i64 vn) (.string (tx vs)) (.slice A2 ks.length c2))
 have FT:=set6Z_touch W2 w.heap.size (.int .i64 op) (.string (tx t)) (.int .i64 vk) (.int .i64 vn) (.string (tx vs)) (.slice A2 ks.length c2)
 have F1:=hid (hp.new HB.out FT (Nat.le_refl _))
 have F2:Hid (Touch [P] w (set6Z W2 w.heap.size (.int .i64 op) (.string (tx t)) (.int .i64 vk) (.int .i64 vn) (.string (tx vs)) (.slice A2 ks.length c2))):=hid (((Touch.of_below B0.out [P]).trans ht (fun x hx=>.inl hx)).trans FT (fun x hx=>.inr (by simp at hx; omega)))
 have F3:=hid (hk2.moved (S':=(w.heap.size≤·)) fun k hk hlt=>⟨FT.block k hlt (by have:=HZ.out; simp; omega),by have:=HZ.out; omega⟩)
 have F4:=hid hc2
 have F5:=hid hf
 clear FT hk2 hc2 hp ht k2 hf
 go_wp2_with fail
 exact bodyPost_ret (results_two rfl _ _ w.heap.size _ _ _ _ rfl FIN.out Tryz.underlying26 rfl sizeExpr _ rfl) rfl ⟨_,_,_,_,_,F5.out,_,rfl,⟨A2,c2,rfl,F4.out,F3.out⟩,F1.out,F2.out⟩
theorem not_tot {w0:World} {P:Nat} {A:Option Addr} {c:Nat} {L:List Lx.Tk} {i d:Nat} {r:Ps.Res} (hL:L ≠ [])
  (HC:Tot w0 P A c L 156 #[.pointer (some ⟨P,0,none⟩),.string ⟨#[110,111,116]⟩,.int .i64 4,.func (.func 157) #[.pointer (some ⟨P,0,none⟩)] #[]] i d r):Tot w0 P A c L 135 #[.pointer (some ⟨P,0,none⟩)] i d r:=by
 intro w h
 have b0:Below w.heap.size w (w.alloc (.cells (ncells 0 [] 0 0 [] none 0 0) 26)):=(Below.refl _ _).alloc (Nat.le_refl _) _
 have k0:=Whole.new w 26 (ncells 0 [] 0 0 [] none 0 0)
 have CC:=hid (HC _ (h.below b0))
 have HB:=hid (h.base hL)
 have hz:(w.alloc (.cells (ncells 0 [] 0 0 [] none 0 0) 26)).heap.size=w.heap.size + 1:=by simp
 unfold ncells at *
 have B0:=hid b0
 have K0:=hid k0
 have HZ:=hid hz
 clear b0 k0 hz h HC hL
 go_enter Tryz.func135,Tryz.ntmps135
 go_wp2_with fail
 refine CC.out.mono ?_
 generalize w.alloc (.cells #[.int .i64 0,.string (tx []),.int .i64 0,.int .i64 0,.string (tx []),.slice none 0 0] 26)=W1 at *
 rintro e W2 ⟨T,i',b,fc,fa,hf,u,rfl,hu,hp,ht⟩
 cases T with
 | node op t vk vn vs ks=>
 obtain ⟨A2,c2,rfl,hc2,hk2⟩:=hu
 have k2:Whole W2 w.heap.size 26 #[.int .i64 0,.string (tx []),.int .i64 0,.int .i64 0,.string (tx []),.slice none 0 0]:=(ht.block _ K0.out.lt (by have:=HB.out.P; simp; omega)).trans K0.out
 obtain ⟨x0,x1,x2,x3,x4,x5⟩:=six_of k2
 obtain ⟨y0,y1,y2,y3,y4,y5⟩:=frozen6 k2
 have FIN:=hid (set6Z_whole k2 (.int .i64 op) (.string (tx t)) (.int .i64 vk) (.int .i64 vn) (.string (tx vs)) (.slice A2 ks.length c2))
 have FT:=set6Z_touch W2 w.heap.size (.int .i64 op) (.string (tx t)) (.int .i64 vk) (.int .i64 vn) (.string (tx vs)) (.slice A2 ks.length c2)
 have F1:=hid (hp.new HB.out FT (Nat.le_refl _))
 have F2:Hid (Touch [P] w (set6Z W2 w.heap.size (.int .i64 op) (.string (tx t)) (.int .i64 vk) (.int .i64 vn) (.string (tx vs)) (.slice A2 ks.length c2))):=hid (((Touch.of_below B0.out [P]).trans ht (fun x hx=>.inl hx)).trans FT (fun x hx=>.inr (by simp at hx; omega)))
 have F3:=hid (hk2.moved (S':=(w.heap.size≤·)) fun k hk hlt=>⟨FT.block k hlt (by have:=HZ.out; simp; omega),by have:=HZ.out; omega⟩)
 have F4:=hid hc2
 have F5:=hid hf
 clear FT hk2 hc2 hp ht k2 hf
 go_wp2_with fail
 exact bodyPost_ret (results_two rfl _ _ w.heap.size _ _ _ _ rfl FIN.out Tryz.underlying26 rfl sizeExpr _ rfl) rfl ⟨_,_,_,_,_,F5.out,_,rfl,⟨A2,c2,rfl,F4.out,F3.out⟩,F1.out,F2.out⟩
theorem negative_tot {w0:World} {P:Nat} {A:Option Addr} {c:Nat} {L:List Lx.Tk} {i d:Nat} {r:Ps.Res} (hL:L ≠ [])
  (HC:Tot w0 P A c L 156 #[.pointer (some ⟨P,0,none⟩),.string ⟨#[45]⟩,.int .i64 3,.func (.func 224) #[.pointer (some ⟨P,0,none⟩)] #[]] i d r):Tot w0 P A c L 216 #[.pointer (some ⟨P,0,none⟩)] i d r:=by
 intro w h
 have b0:Below w.heap.size w (w.alloc (.cells (ncells 0 [] 0 0 [] none 0 0) 26)):=(Below.refl _ _).alloc (Nat.le_refl _) _
 have k0:=Whole.new w 26 (ncells 0 [] 0 0 [] none 0 0)
 have CC:=hid (HC _ (h.below b0))
 have HB:=hid (h.base hL)
 have hz:(w.alloc (.cells (ncells 0 [] 0 0 [] none 0 0) 26)).heap.size=w.heap.size + 1:=by simp
 unfold ncells at *
 have B0:=hid b0
 have K0:=hid k0
 have HZ:=hid hz
 clear b0 k0 hz h HC hL
 go_enter Tryz.func216,Tryz.ntmps216
 go_wp2_with fail
 refine CC.out.mono ?_
 generalize w.alloc (.cells #[.int .i64 0,.string (tx []),.int .i64 0,.int .i64 0,.string (tx []),.slice none 0 0] 26)=W1 at *
 rintro e W2 ⟨T,i',b,fc,fa,hf,u,rfl,hu,hp,ht⟩
 cases T with
 | node op t vk vn vs ks=>
 obtain ⟨A2,c2,rfl,hc2,hk2⟩:=hu
 have k2:Whole W2 w.heap.size 26 #[.int .i64 0,.string (tx []),.int .i64 0,.int .i64 0,.string (tx []),.slice none 0 0]:=(ht.block _ K0.out.lt (by have:=HB.out.P; simp; omega)).trans K0.out
 obtain ⟨x0,x1,x2,x3,x4,x5⟩:=six_of k2
 obtain ⟨y0,y1,y2,y3,y4,y5⟩:=frozen6 k2
 have FIN:=hid (set6Z_whole k2 (.int .i64 op) (.string (tx t)) (.int .i64 vk) (.int .i64 vn) (.string (tx vs)) (.slice A2 ks.length c2))
 have FT:=set6Z_touch W2 w.heap.size (.int .i64 op) (.string (tx t)) (.int .i64 vk) (.int .i64 vn) (.string (tx vs)) (.slice A2 ks.length c2)
 have F1:=hid (hp.new HB.out FT (Nat.le_refl _))
 have F2:Hid (Touch [P] w (set6Z W2 w.heap.size (.int .i64 op) (.string (tx t)) (.int .i64 vk) (.int .i64 vn) (.string (tx vs)) (.slice A2 ks.length c2))):=hid (((Touch.of_below B0.out [P]).trans ht (fun x hx=>.inl hx)).trans FT (fun x hx=>.inr (by simp at hx; omega)))
 have F3:=hid (hk2.moved (S':=(w.heap.size≤·)) fun k hk hlt=>⟨FT.block k hlt (by have:=HZ.out; simp; omega),by have:=HZ.out; omega⟩)
 have F4:=hid hc2
 have F5:=hid hf
 clear FT hk2 hc2 hp ht k2 hf
 go_wp2_with fail
 exact bodyPost_ret (results_two rfl _ _ w.heap.size _ _ _ _ rfl FIN.out Tryz.underlying26 rfl sizeExpr _ rfl) rfl ⟨_,_,_,_,_,F5.out,_,rfl,⟨A2,c2,rfl,F4.out,F3.out⟩,F1.out,F2.out⟩
end Go.Proofs.YteghhmomhlnccaaGreatDoor
namespace Go.Proofs.YteghhmomhlnccaaGreatDoor
open Ex (Tree)
variable {w0 w : World} {P : Nat} {A : Option Addr} {c : Nat} {L : List Lx.Tk} {i d : Nat}
theorem nested_deep (h:PAt w0 w P A c L i d) (hL:L ≠ []) (hLn:L.length≤1000000) (hi:i + 1≤1000000) (N:FuncId) (caps:Array Value) (hd:d=30) :
  Calls Tryz.prog 179 #[.pointer (some ⟨P,0,none⟩),.func (.func N) #[] caps] w (OutX w0 P A c L d (.bad 18 (tk L i).at_) w):=by
 have b0:Below w.heap.size w (w.alloc (.cells (ncells 0 [] 0 0 [] none 0 0) 26)):=(Below.refl _ _).alloc (Nat.le_refl _) _
 have k0:=Whole.new w 26 (ncells 0 [] 0 0 [] none 0 0)
 have h1:=h.below b0
 have HB:=hid (h.base hL)
 obtain ⟨tok,htok⟩:∃ tok,tk L i=tok:=⟨_,rfl⟩
 have hz:(w.alloc (.cells (ncells 0 [] 0 0 [] none 0 0) 26)).heap.size=w.heap.size + 1:=by simp
 unfold ncells at *
 obtain ⟨W1,hW1⟩:∃ W1,w.alloc (.cells #[.int .i64 0,.string (tx []),.int .i64 0,.int .i64 0,.string (tx []),.slice none 0 0] 26)=W1:=⟨_,rfl⟩
 rw [hW1] at b0 k0 h1 hz
 have NX:=hid (next_any h1 (by omega) hLn)
 rw [htok] at NX ⊢
 obtain ⟨kd,tt,ta⟩:=tok
 have NX2:Hid (Calls Tryz.prog 80 #[.pointer (some ⟨P,0,none⟩)] W1 fun e w'=>e=.returned (.agg #[.int .i64 (kd:Nat),.string (tx tt),.int .i64 (ta:Nat)])∧Below W1.heap.size W1 w'):=NX
 have p2:W1.cell? ⟨P,2,none⟩=some (.int .i64 30):=by have:=h1.cells.cell 2; rw [hd] at this; exact this
 have H1:=hid h1
 have K0:=hid k0
 have B0:=hid b0
 have HZ:=hid hz
 clear h1 h htok NX k0 b0 hz
 go_enter Tryz.func179,Tryz.ntmps179
 go_wp2_with fail
 refine NX2.out.mono ?_
 rintro e W2 ⟨rfl,hb2⟩
 have FA:=hid (fail_any (H1.out.below hb2) hL 18 ta)
 have hF:=fieldTok2 (kd:Nat) (ta:Nat) (tx tt) W2
 have K2:=hid (K0.out.below hb2 K0.out.lt)
 have B2:Hid (Below w.heap.size w W2):=hid (bstep B0.out hb2)
 have HZ2:Hid (w.heap.size + 1≤W2.heap.size):=hid (by have:=HZ.out; have:=hb2.size; omega)
 clear hb2 NX2 K0 p2
 go_wp2_with fail
 refine FA.out.mono ?_
 rintro e W3 ⟨u,rfl,⟨A2,c2,rfl,hc2,hk2⟩,hp,ht⟩
 have k3:Whole W3 w.heap.size 26 zcells:=(ht.block _ K2.out.lt (by have:=HB.out.P; simp; omega)).trans K2.out
 obtain ⟨x0,x1,x2,x3,x4,x5⟩:=six_of k3
 obtain ⟨y0,y1,y2,y3,y4,y5⟩:=frozen6 k3
 have FIN:=hid (set6Z_whole k3 (.int .i64 0) (.string (tx [])) (.int .i64 0) (.int .i64 0) (.string (tx [])) (.slice A2 0 c2))
 have FT:=set6Z_touch W3 w.heap.size (.int .i64 0) (.string (tx [])) (.int .i64 0) (.int .i64 0) (.string (tx [])) (.slice A2 0 c2)
 have F1:=hid (hp.new HB.out FT (Nat.le_refl _))
 have F2:Hid (Touch [P] w (set6Z W3 w.heap.size (.int .i64 0) (.string (tx [])) (.int .i64 0) (.int .i64 0) (.string (tx [])) (.slice A2 0 c2))):=hid (((Touch.of_below B2.out [P]).trans ht (fun x hx=>.inl hx)).trans FT (fun x hx=>.inr (by simp at hx; omega)))
 have F4:=hid hc2
 clear FT hk2 hc2 hp ht k3 FA
 go_wp2_with fail
 exact bodyPost_ret (results_two rfl _ _ w.heap.size _ _ _ _ rfl FIN.out Tryz.underlying26 rfl sizeExpr _ rfl) rfl ⟨_,_,_,_,_,.bad 18 ta zT i,_,rfl,⟨A2,c2,rfl,F4.out,by rw [TreesIn]; trivial⟩,F1.out,F2.out⟩
theorem nested_go (h:PAt w0 w P A c L i d) (hL:L ≠ []) (hi:i + 1≤1000000) (N:FuncId) (caps:Array Value) (hN:∀ W,Sem.run Tryz.prog (callFunc N caps) W=.ok (.enter N caps) W) (hd:d < 30) (r:Ps.Res)
  (HC:∀ W,PAt w0 W P A c L (i + 1) (d + 1)→Touch [P] w W→Calls Tryz.prog N caps W (OutX w0 P A c L (d + 1) r W)) :
  Calls Tryz.prog 179 #[.pointer (some ⟨P,0,none⟩),.func (.func N) #[] caps] w (OutX w0 P A c L d r w):=by
 have b0:Below w.heap.size w (w.alloc (.cells (ncells 0 [] 0 0 [] none 0 0) 26)):=(Below.refl _ _).alloc (Nat.le_refl _) _
 have k0:=Whole.new w 26 (ncells 0 [] 0 0 [] none 0 0)
 have h1:=h.below b0
 have HB:=hid (h.base hL)
 have hz:(w.alloc (.cells (ncells 0 [] 0 0 [] none 0 0) 26)).heap.size=w.heap.size + 1:=by simp
 unfold ncells at *
 obtain ⟨W1,hW1⟩:∃ W1,w.alloc (.cells #[.int .i64 0,.string (tx []),.int .i64 0,.int .i64 0,.string (tx []),.slice none 0 0] 26)=W1:=⟨_,rfl⟩
 rw [hW1] at b0 k0 h1 hz
 have p1:W1.cell? ⟨P,1,none⟩=some (.int .i64 (i:Nat)):=h1.cells.cell 1
 have p2:W1.cell? ⟨P,2,none⟩=some (.int .i64 (d:Nat)):=h1.cells.cell 2
 have f1:W1.frozen? ⟨P,1,none⟩=false:=h1.cells.frozen 1
 have f2:W1.frozen? ⟨P,2,none⟩=false:=h1.cells.frozen 2
 have hi':(i:Int) + 1≤1000000:=by omega
 have hd':(d:Int) < 30:=by omega
 have hd2:((d:Int) == 30)=false:=by simp; omega
 have H2:=(h1.set_at (i + 1)).set_deep (d + 1)
 have T2:Touch [P] w ((W1.setCell ⟨P,1,none⟩ (.int .i64 ((i + 1:Nat):Int))).setCell ⟨P,2,none⟩ (.int .i64 ((d + 1:Nat):Int))):=((Touch.of_below b0 [P]).setCell (q:=⟨P,1,none⟩) (.inl (by simp)) _).setCell (q:=⟨P,2,none⟩) (.inl (by simp)) _
 have k2:Whole ((W1.setCell ⟨P,1,none⟩ (.int .i64 ((i + 1:Nat):Int))).setCell ⟨P,2,none⟩ (.int .i64 ((d + 1:Nat):Int))) w.heap.size 26 zcells:=(k0.far (p:=⟨P,1,none⟩) (by have:=HB.out.P; simp; omega) _).far (p:=⟨P,2,none⟩) (by have:=HB.out.P; simp; omega) _
 have hz2:w.heap.size + 1≤((W1.setCell ⟨P,1,none⟩ (.int .i64 ((i + 1:Nat):Int))).setCell ⟨P,2,none⟩ (.int .i64 ((d + 1:Nat):Int))).heap.size:=by simp; omega
 have hc1:((i + 1:Nat):Int)=(i:Int) + 1:=by omega
 have hc2:((d + 1:Nat):Int)=(d:Int) + 1:=by omega
 rw [hc1,hc2] at H2 T2 k2 hz2
 have CC:=hid (HC _ H2 T2)
 have K2:=hid k2
 have TT2:=hid T2
 have HZ:=hid hz2
 have HNN:=hN
 clear h1 h k0 b0 hz H2 T2 k2 hz2 HC hc1 hc2 hN
 go_enter Tryz.func179,Tryz.ntmps179
 go_wp2_with fail
 refine CC.out.mono ?_
 generalize (W1.setCell ⟨P,1,none⟩ (.int .i64 ((i:Int) + 1))).setCell ⟨P,2,none⟩ (.int .i64 ((d:Int) + 1))=W2 at *
 rintro e W3 ⟨T,i',b,fc,fa,hf,u,rfl,hu,hp,ht⟩
 cases T with
 | node op t vk vn vs ks=>
 obtain ⟨A2,c2,rfl,hcc,hk2⟩:=hu
 have b4:Below W3.heap.size W3 (W3.alloc (.cells (ncells op t vk vn vs A2 ks.length c2) 26)):=(Below.refl _ _).alloc (Nat.le_refl _) _
 have k4:=Whole.new W3 26 (ncells op t vk vn vs A2 ks.length c2)
 have hp4:=hp.below b4
 have k03:Whole W3 w.heap.size 26 zcells:=(ht.block _ K2.out.lt (by have:=HB.out.P; simp; omega)).trans K2.out
 have k04:=k03.below b4 k03.lt
 have ht4:=(TT2.out.trans ht (fun x hx=>.inl hx)).belowTo b4
 have hk4:=hk2.moved (S':=(w.heap.size + 1≤·)) (w':=W3.alloc (.cells (ncells op t vk vn vs A2 ks.length c2) 26)) fun k hk hlt=>⟨b4.block k hlt,by have:=HZ.out; omega⟩
 unfold ncells at *
 have hne4:w.heap.size ≠ W3.heap.size:=by have:=k03.lt; omega
 have hPlt:P < w.heap.size:=HB.out.P
 have hPne:P ≠ W3.heap.size:=by have:=k03.lt; omega
 obtain ⟨W4,hW4⟩:∃ W4,W3.alloc (.cells #[.int .i64 op,.string (tx t),.int .i64 vk,.int .i64 vn,.string (tx vs),.slice A2 ks.length c2] 26)=W4:=⟨_,rfl⟩
 rw [hW4] at b4 k4 hp4 k04 ht4 hk4
 have q2:W4.cell? ⟨P,2,none⟩=some (.int .i64 ((d:Int) + 1)):=by have:=hp4.cells.cell 2; rw [show ((d + 1:Nat):Int)=(d:Int) + 1 by omega] at this; exact this
 have g2:W4.frozen? ⟨P,2,none⟩=false:=hp4.cells.frozen 2
 have hp5:=hp4.set_deep d
 have ht5:Touch [P] w (W4.setCell ⟨P,2,none⟩ (.int .i64 (d:Nat))):=ht4.setCell (q:=⟨P,2,none⟩) (.inl (by simp)) _
 have k5:Whole (W4.setCell ⟨P,2,none⟩ (.int .i64 (d:Nat))) W3.heap.size 26 #[.int .i64 op,.string (tx t),.int .i64 vk,.int .i64 vn,.string (tx vs),.slice A2 ks.length c2]:=k4.far (p:=⟨P,2,none⟩) (by simp; omega) _
 have k05:Whole (W4.setCell ⟨P,2,none⟩ (.int .i64 (d:Nat))) w.heap.size 26 zcells:=k04.far (p:=⟨P,2,none⟩) (by simp; omega) _
 have hk5:TreesIn (w.heap.size + 1≤·) (W4.setCell ⟨P,2,none⟩ (.int .i64 (d:Nat))) A2 0 ks:=hk4.moved fun k hk hlt=>⟨by rw [heap_set_other _ _ _ _ _ (by omega)],hk⟩
 obtain ⟨W5,hW5⟩:∃ W5,W4.setCell ⟨P,2,none⟩ (.int .i64 (d:Nat))=W5:=⟨_,rfl⟩
 rw [hW5] at hp5 ht5 k5 k05 hk5
 obtain ⟨x0,x1,x2,x3,x4,x5⟩:=six_of k5
 obtain ⟨z0,z1,z2,z3,z4,z5⟩:=six_of k05
 obtain ⟨y0,y1,y2,y3,y4,y5⟩:=frozen6 k05
 have FIN:=hid (set6Z_whole k05 (.int .i64 op) (.string (tx t)) (.int .i64 vk) (.int .i64 vn) (.string (tx vs)) (.slice A2 ks.length c2))
 have FT:=set6Z_touch W5 w.heap.size (.int .i64 op) (.string (tx t)) (.int .i64 vk) (.int .i64 vn) (.string (tx vs)) (.slice A2 ks.length c2)
 have F1:=hid (hp5.new HB.out FT (Nat.le_refl _))
 have F2:=hid (ht5.trans FT (fun x hx=>.inr (by simp at hx; omega)))
 have F3:=hid (hk5.moved (S':=(w.heap.size≤·)) fun k hk hlt=>⟨FT.block k hlt (by simp; omega),by omega⟩)
 have F4:=hid hcc
 have F5:=hid hf
 clear FT hk2 hcc hp ht hk4 hk5 k03 k04 k05 k5 k4 hp4 hp5 ht4 ht5 b4 CC p1 p2 f1 f2 hf
 go_wp2_with fail
 exact bodyPost_ret (results_two rfl _ _ w.heap.size _ _ _ _ rfl FIN.out Tryz.underlying26 rfl sizeExpr _ rfl) rfl ⟨_,_,_,_,_,F5.out,_,rfl,⟨A2,c2,rfl,F4.out,F3.out⟩,F1.out,F2.out⟩
end Go.Proofs.YteghhmomhlnccaaGreatDoor
namespace Go.Proofs.YteghhmomhlnccaaGreatDoor
open Ex (Tree)
theorem ahead_no {w0:World} {P:Nat} {A:Option Addr} {c:Nat} {L:List Lx.Tk} {i d:Nat} {r:Ps.Res} (hL:L ≠ []) (hLn:L.length≤1000000) (hi:i≤1000000) (want:List UInt8) (o:Int) (N:FuncId) (hw:sgn (tk L i) ≠ want) (hN:∀ W,Sem.run Tryz.prog (callFunc N #[.pointer (some ⟨P,0,none⟩)]) W=.ok (.enter N #[.pointer (some ⟨P,0,none⟩)]) W)
  (HC:Tot w0 P A c L N #[.pointer (some ⟨P,0,none⟩)] i d r):Tot w0 P A c L 156 #[.pointer (some ⟨P,0,none⟩),.string (tx want),.int .i64 o,.func (.func N) #[.pointer (some ⟨P,0,none⟩)] #[]] i d r:=by
 intro w h
 have b0:Below w.heap.size w (((((w.alloc (.cells #[.pointer (some ⟨P,0,none⟩)] 122)).alloc (.cells #[.string (tx want)] 9)).alloc (.cells #[.int .i64 o] 3)).alloc (.cells #[.func (.func N) #[.pointer (some ⟨P,0,none⟩)] #[]] 159)).alloc (.cells (ncells 0 [] 0 0 [] none 0 0) 26)):=
  (((((Below.refl _ _).alloc (Nat.le_refl _) _).alloc (by simp) _).alloc (by simp; omega) _).alloc (by simp; omega) _).alloc (by simp; omega) _
 have k0:=((((Whole.new w 122 #[.pointer (some ⟨P,0,none⟩)]).alloc (.cells #[.string (tx want)] 9)).alloc (.cells #[.int .i64 o] 3)).alloc (.cells #[.func (.func N) #[.pointer (some ⟨P,0,none⟩)] #[]] 159)).alloc (.cells (ncells 0 [] 0 0 [] none 0 0) 26)
 have k1:=(((Whole.new (w.alloc (.cells #[.pointer (some ⟨P,0,none⟩)] 122)) 9 #[.string (tx want)]).alloc (.cells #[.int .i64 o] 3)).alloc (.cells #[.func (.func N) #[.pointer (some ⟨P,0,none⟩)] #[]] 159)).alloc (.cells (ncells 0 [] 0 0 [] none 0 0) 26)
 have k3:=(Whole.new (((w.alloc (.cells #[.pointer (some ⟨P,0,none⟩)] 122)).alloc (.cells #[.string (tx want)] 9)).alloc (.cells #[.int .i64 o] 3)) 159 #[.func (.func N) #[.pointer (some ⟨P,0,none⟩)] #[]]).alloc (.cells (ncells 0 [] 0 0 [] none 0 0) 26)
 have k4:=Whole.new ((((w.alloc (.cells #[.pointer (some ⟨P,0,none⟩)] 122)).alloc (.cells #[.string (tx want)] 9)).alloc (.cells #[.int .i64 o] 3)).alloc (.cells #[.func (.func N) #[.pointer (some ⟨P,0,none⟩)] #[]] 159)) 26 (ncells 0 [] 0 0 [] none 0 0)
 simp only [World.size_alloc] at k1 k3 k4
 have h1:=h.below b0
 have hz:(((((w.alloc (.cells #[.pointer (some ⟨P,0,none⟩)] 122)).alloc (.cells #[.string (tx want)] 9)).alloc (.cells #[.int .i64 o] 3)).alloc (.cells #[.func (.func N) #[.pointer (some ⟨P,0,none⟩)] #[]] 159)).alloc (.cells (ncells 0 [] 0 0 [] none 0 0) 26)).heap.size=w.heap.size + 5:=by simp
 have HB:=hid (h.base hL)
 unfold ncells at *
 go_enter Tryz.func156,Tryz.ntmps156
 go_wp2_with fail
 generalize ((((w.alloc (.cells #[.pointer (some ⟨P,0,none⟩)] 122)).alloc (.cells #[.string (tx want)] 9)).alloc (.cells #[.int .i64 o] 3)).alloc (.cells #[.func (.func N) #[.pointer (some ⟨P,0,none⟩)] #[]] 159)).alloc (.cells #[.int .i64 0,.string (tx []),.int .i64 0,.int .i64 0,.string (tx []),.slice none 0 0] 26)=W1 at *
 have c0:=k0.cell 0
 have c1:=k1.cell 0
 have c3:=k3.cell 0
 simp only [List.getElem?_toArray,List.getElem?_cons_zero,List.getElem?_cons_succ] at c0 c1 c3
 have B0:=hid b0
 have K0:=hid k0
 have K1:=hid k1
 have K3:=hid k3
 have K4:=hid k4
 have H1:=hid h1
 have HZ:=hid hz
 have NX:Hid (∀ W,Below W1.heap.size W1 W→Calls Tryz.prog 80 #[.pointer (some ⟨P,0,none⟩)] W fun e w'=>e=.returned (tokV (tk L i))∧Below W.heap.size W w'):=hid (fun W hW=>next_any (H1.out.below hW) hi hLn)
 have hne:((tx (sgn (tk L i))).toList != (tx want).toList)=true:=by rw [ByteArray.toList_eq,ByteArray.toList_eq]; simpa using hw
 have hne2:(sgn (tk L i) != want)=true:=by simpa using hw
 have hne3:(sgn (tk L i) == want)=false:=by simpa using hw
 generalize tk L i=t at *
 have KK:Hid (∀ w',Below W1.heap.size W1 w'→Below W1.heap.size W1 w'∧w'.cell? ⟨w.heap.size,0,none⟩=some (.pointer (some ⟨P,0,none⟩))∧w'.cell? ⟨w.heap.size + 1,0,none⟩=some (.string (tx want))):=hid (fun w' hw=>⟨hw,(hw.cell (p:=⟨w.heap.size,0,none⟩) K0.out.lt).trans c0,(hw.cell (p:=⟨w.heap.size + 1,0,none⟩) K1.out.lt).trans c1⟩)
 clear b0 k0 k1 k3 k4 h1 hz h hw hL
 go_cut [14] from 10 to 14 (fun s14 wc=>s14=.bool true∧Hid (Below W1.heap.size W1 wc))
 case first=>
  go_region_held3 (fun w'=>Below W1.heap.size W1 w'∧w'.cell? ⟨w.heap.size,0,none⟩=some (.pointer (some ⟨P,0,none⟩))∧w'.cell? ⟨w.heap.size + 1,0,none⟩=some (.string (tx want))) (first | (exact KK.out _ (Below.refl _ _).drew) | (go_split_ands; exact KK.out _ (bstep (by assumption) hb3)) | (go_split_ands; exact KK.out _ (bstep (by assumption) hb2)) | go_keep)
   (first
    | (go_at_call 80; (with_reducible refine (NX.out _ ?_).mono ?_); (go_split_ands; assumption); rintro e w2 ⟨rfl,hb2⟩)
    | (go_at_call 133; (with_reducible refine (sign_any t _).mono ?_); rintro e w3 ⟨rfl,hb3⟩))
  all_goals
   go_wp2_with fail
   go_meet
   case rel=>exact ⟨rfl,hid (by (go_split_ands; first | assumption | exact bstep (by assumption) hb3))⟩
 case rest=>
  obtain ⟨rfl,HB1⟩:=hcut
  obtain ⟨wd,rfl⟩:∃ wd,wd=wc:=⟨wc,rfl⟩
  have CC:=hid (HC wd (H1.out.below HB1.out))
  have K3':=hid (K3.out.below HB1.out K3.out.lt)
  have K4':=hid (K4.out.below HB1.out K4.out.lt)
  have c3':=K3'.out.cell 0
  simp only [List.getElem?_toArray,List.getElem?_cons_zero,List.getElem?_cons_succ] at c3'
  have HZ1:Hid (w.heap.size + 5≤wd.heap.size):=hid (by have:=HZ.out; have:=HB1.out.size; omega)
  have B1:Hid (Below w.heap.size w wd):=hid (B0.out.trans (HB1.out.mono B0.out.size))
  clear c0 c1 c3 hne hne2 hne3 HC
  go_wp2_with fail
  refine CC.out.mono ?_
  rintro e W2 ⟨T,i',b,fc,fa,hf,u,rfl,hu,hp,ht⟩
  cases T with
  | node op t vk vn vs ks=>
  obtain ⟨A2,c2,rfl,hc2,hk2⟩:=hu
  have k2:Whole W2 (w.heap.size + 1 + 1 + 1 + 1) 26 #[.int .i64 0,.string (tx []),.int .i64 0,.int .i64 0,.string (tx []),.slice none 0 0]:=(ht.block _ K4'.out.lt (by have:=HB.out.P; simp; omega)).trans K4'.out
  obtain ⟨x0,x1,x2,x3,x4,x5⟩:=six_of k2
  obtain ⟨y0,y1,y2,y3,y4,y5⟩:=frozen6 k2
  have FIN:=hid (set6Z_whole k2 (.int .i64 op) (.string (tx t)) (.int .i64 vk) (.int .i64 vn) (.string (tx vs)) (.slice A2 ks.length c2))
  have FT:=set6Z_touch W2 (w.heap.size + 1 + 1 + 1 + 1) (.int .i64 op) (.string (tx t)) (.int .i64 vk) (.int .i64 vn) (.string (tx vs)) (.slice A2 ks.length c2)
  have F1:=hid (hp.new HB.out FT (by omega))
  have F2:Hid (Touch [P] w (set6Z W2 (w.heap.size + 1 + 1 + 1 + 1) (.int .i64 op) (.string (tx t)) (.int .i64 vk) (.int .i64 vn) (.string (tx vs)) (.slice A2 ks.length c2))):=hid (((Touch.of_below B1.out [P]).trans ht (fun x hx=>.inl hx)).trans FT (fun x hx=>.inr (by simp at hx; omega)))
  have F3:=hid (hk2.moved (S':=(w.heap.size≤·)) fun k hk hlt=>⟨FT.block k hlt (by have:=HZ1.out; simp; omega),by have:=HZ1.out; omega⟩)
  have F4:=hid hc2
  have F5:=hid hf
  clear FT hk2 hc2 hp ht k2 c3' hf
  go_wp2_with fail
  exact bodyPost_ret (results_two rfl _ _ (w.heap.size + 1 + 1 + 1 + 1) _ _ _ _ rfl FIN.out Tryz.underlying26 rfl sizeExpr _ rfl) rfl ⟨_,_,_,_,_,F5.out,_,rfl,⟨A2,c2,rfl,F4.out,F3.out⟩,F1.out,F2.out⟩
theorem one_tree {S:Nat→Prop} {w:World} {op t vk vn vs ks A c} (hc:List.length ks≤c) (hk:TreesIn S w A 0 ks) (hS:∀ k,S k→k < w.heap.size) :
  TreesIn (fun k=>S k∨k=w.heap.size) (w.alloc (.cells #[.int .i64 op,.string (tx t),.int .i64 vk,.int .i64 vn,.string (tx vs),.slice A ks.length c] 26)) (some ⟨w.heap.size,0,none⟩) 0 [.node op t vk vn vs ks]:=by
 have b4:Below w.heap.size w (w.alloc (.cells #[.int .i64 op,.string (tx t),.int .i64 vk,.int .i64 vn,.string (tx vs),.slice A ks.length c] 26)):=(Below.refl _ _).alloc (Nat.le_refl _) _
 have k4:=Whole.new w 26 #[.int .i64 op,.string (tx t),.int .i64 vk,.int .i64 vn,.string (tx vs),.slice A ks.length c]
 have h:CellsT S (w.alloc (.cells #[.int .i64 op,.string (tx t),.int .i64 vk,.int .i64 vn,.string (tx vs),.slice A ks.length c] 26)) [.int .i64 op,.string (tx t),.int .i64 vk,.int .i64 vn,.string (tx vs),.slice A ks.length c] [.node op t vk vn vs ks]:=
  ⟨A,c,[],rfl,hc,hk.moved fun k hk hlt=>⟨b4.block k hlt,hk⟩,rfl⟩
 exact h.trees k4.lt 0 fun j u hu=>by rw [Nat.zero_add,k4.cell,← hu]; simp
theorem Fit.wrap {r r':Ps.Res} {T:Tree} {i:Nat} {b:Bool} {fc fa:Nat} (h:Fit r T i b fc fa) {o:Int} (hr:Ps.bindR (some r) (fun X j=>some (.ok (.node o [] 0 0 [] [X]) j))=some r'):Fit r' (.node o [] 0 0 [] [T]) i b fc fa:=by
 cases h with
 | ok=>cases hr; exact .ok _ _
 | bad=>cases hr; exact .bad _ _ _ _
variable {w0 w : World} {P : Nat} {A : Option Addr} {c : Nat} {L : List Lx.Tk} {i d : Nat}
theorem ahead1_any (h:PAt w0 w P A c L i d) (hL:L ≠ []) (want:List UInt8) (o:Int) (N:FuncId) {r rX:Ps.Res} (hr:Ps.bindR (some rX) (fun X j=>some (.ok (.node o [] 0 0 [] [X]) j))=some r) {g0 g1 g2 g3:Nat}
  (k0:Whole w g0 122 #[.pointer (some ⟨P,0,none⟩)]) (k1:Whole w g1 9 #[.string (tx want)]) (k2:Whole w g2 3 #[.int .i64 o]) (k3:Whole w g3 159 #[.func (.func N) #[.pointer (some ⟨P,0,none⟩)] #[]]) (hg2:g2 ≠ P)
  (HC:Tot w0 P A c L 156 #[.pointer (some ⟨P,0,none⟩),.string (tx want),.int .i64 o,.func (.func N) #[.pointer (some ⟨P,0,none⟩)] #[]] i d rX) :
  Calls Tryz.prog 180 #[.pointer (some ⟨g0,0,none⟩),.pointer (some ⟨g1,0,none⟩),.pointer (some ⟨g2,0,none⟩),.pointer (some ⟨g3,0,none⟩)] w (OutX w0 P A c L d r w):=by
 have b0:Below w.heap.size w (w.alloc (.cells (ncells 0 [] 0 0 [] none 0 0) 26)):=(Below.refl _ _).alloc (Nat.le_refl _) _
 have z0:=Whole.new w 26 (ncells 0 [] 0 0 [] none 0 0)
 have h1:=h.below b0
 have HB:=hid (h.base hL)
 have hz:(w.alloc (.cells (ncells 0 [] 0 0 [] none 0 0) 26)).heap.size=w.heap.size + 1:=by simp
 have k0:=k0.below b0 k0.lt
 have k1:=k1.below b0 k1.lt
 have hg2l:=k2.lt
 have k2:=k2.below b0 k2.lt
 have k3:=k3.below b0 k3.lt
 unfold ncells at *
 obtain ⟨W1,hW1⟩:∃ W1,w.alloc (.cells #[.int .i64 0,.string (tx []),.int .i64 0,.int .i64 0,.string (tx []),.slice none 0 0] 26)=W1:=⟨_,rfl⟩
 rw [hW1] at b0 z0 h1 hz k0 k1 k2 k3
 have c0:=k0.cell 0
 have c1:=k1.cell 0
 have c2:=k2.cell 0
 have c3:=k3.cell 0
 simp only [List.getElem?_toArray,List.getElem?_cons_zero,List.getElem?_cons_succ] at c0 c1 c2 c3
 have CC:=hid (HC W1 h1)
 have Z0:=hid z0
 have HZ:=hid hz
 have K2:=hid k2
 have B0:=hid b0
 have HR:=hid hr
 have HG:=hid hg2
 clear h1 h z0 b0 hz k0 k1 k2 k3 HC hr hg2
 go_enter Tryz.func180,Tryz.ntmps180
 go_wp2_with fail
 refine CC.out.mono ?_
 rintro e W3 ⟨T,i',b,fc,fa,hf,u,rfl,hu,hp,ht⟩
 cases T with
 | node op t vk vn vs ks=>
 obtain ⟨A2,c2',rfl,hcc,hk2⟩:=hu
 have b4:Below W3.heap.size W3 (W3.alloc (.cells (ncells op t vk vn vs A2 ks.length c2') 26)):=(Below.refl _ _).alloc (Nat.le_refl _) _
 have hz4:(W3.alloc (.cells (ncells op t vk vn vs A2 ks.length c2') 26)).heap.size=W3.heap.size + 1:=by simp
 have k4:=Whole.new W3 26 (ncells op t vk vn vs A2 ks.length c2')
 have z3:Whole W3 w.heap.size 26 zcells:=(ht.block _ Z0.out.lt (by have:=HB.out.P; simp; omega)).trans Z0.out
 have k23:Whole W3 g2 3 #[.int .i64 o]:=(ht.block _ K2.out.lt (by have:=HG.out; simp; omega)).trans K2.out
 have k24:=k23.below b4 k23.lt
 have z4:=z3.below b4 z3.lt
 have hp4:=hp.below b4
 have ht4:=((Touch.of_below B0.out [P]).trans ht (fun x hx=>.inl hx)).belowTo b4
 have hk4:TreesIn (fun k=>w.heap.size + 1≤k∧k < W3.heap.size) (W3.alloc (.cells (ncells op t vk vn vs A2 ks.length c2') 26)) A2 0 ks:=hk2.moved fun k hk hlt=>⟨b4.block k hlt,by have:=HZ.out; omega,hlt⟩
 unfold ncells at *
 obtain ⟨W4,hW4⟩:∃ W4,W3.alloc (.cells #[.int .i64 op,.string (tx t),.int .i64 vk,.int .i64 vn,.string (tx vs),.slice A2 ks.length c2'] 26)=W4:=⟨_,rfl⟩
 rw [hW4] at b4 k4 k24 z4 hp4 ht4 hk4 hz4
 have b5:Below W4.heap.size W4 (W4.alloc (.cells #[.int .i64 op,.string (tx t),.int .i64 vk,.int .i64 vn,.string (tx vs),.slice A2 ks.length c2'] 26)):=(Below.refl _ _).alloc (Nat.le_refl _) _
 have z5:=z4.below b5 z4.lt
 have hp5:=hp4.below b5
 have ht5:=ht4.belowTo b5
 have tw:=one_tree (op:=op) (t:=t) (vk:=vk) (vn:=vn) (vs:=vs) hcc hk4 (fun k hk=>by rw [hz4]; omega)
 obtain ⟨x0,x1,x2,x3,x4,x5⟩:=six_of k4
 have c24:=k24.cell 0
 simp only [List.getElem?_toArray,List.getElem?_cons_zero,List.getElem?_cons_succ] at c24
 have hlt3:=z3.lt
 obtain ⟨m0,m1,m2,m3,m4,m5⟩:=six_of z5
 obtain ⟨y0,y1,y2,y3,y4,y5⟩:=frozen6 z5
 have FIN:=hid (set6Z_whole z5 (.int .i64 o) (.string (tx [])) (.int .i64 0) (.int .i64 0) (.string (tx [])) (.slice (some ⟨W4.heap.size,0,none⟩) 1 1))
 have FT:=set6Z_touch (W4.alloc (.cells #[.int .i64 op,.string (tx t),.int .i64 vk,.int .i64 vn,.string (tx vs),.slice A2 ks.length c2'] 26)) w.heap.size (.int .i64 o) (.string (tx [])) (.int .i64 0) (.int .i64 0) (.string (tx [])) (.slice (some ⟨W4.heap.size,0,none⟩) 1 1)
 have F1:=hid (hp5.new HB.out FT (Nat.le_refl _))
 have F2:=hid (ht5.trans FT (fun x hx=>.inr (by simp at hx; omega)))
 have F3:=hid (tw.moved (S':=(w.heap.size≤·)) fun k hk hlt=>⟨FT.block k hlt (by simp; omega),by omega⟩)
 have F5:=hid (hf.wrap HR.out)
 have HS4:=hid hz4
 clear FT hk2 hcc hp ht hk4 z3 z4 z5 k23 k24 k4 hp4 hp5 ht4 ht5 b4 b5 CC tw hf c0 c1 c2 c3 hz4
 go_wp2_with fail
 exact bodyPost_ret (results_two rfl _ _ w.heap.size _ _ _ _ rfl FIN.out Tryz.underlying26 rfl sizeExpr _ rfl) rfl ⟨_,_,_,_,_,F5.out,_,rfl,⟨_,1,rfl,Nat.le_refl _,F3.out⟩,F1.out,F2.out⟩
end Go.Proofs.YteghhmomhlnccaaGreatDoor
namespace Go.Proofs.YteghhmomhlnccaaGreatDoor
open Ex (Tree)
theorem callAhead1 (a b c d:Nat) (W:World):Sem.run Tryz.prog (callFunc 180 #[.pointer (some ⟨a,0,none⟩),.pointer (some ⟨b,0,none⟩),.pointer (some ⟨c,0,none⟩),.pointer (some ⟨d,0,none⟩)]) W=.ok (.enter 180 #[.pointer (some ⟨a,0,none⟩),.pointer (some ⟨b,0,none⟩),.pointer (some ⟨c,0,none⟩),.pointer (some ⟨d,0,none⟩)]) W:=by kernel_rfl
theorem ahead_sign {w0:World} {P:Nat} {A:Option Addr} {c:Nat} {L:List Lx.Tk} {i d:Nat} {r:Ps.Res} (hL:L ≠ []) (hLn:L.length≤1000000) (hi:i + 1≤1000000) (want:List UInt8) (o:Int) (N:FuncId) (hw:sgn (tk L i)=want) (hd30:d≤30) (HD:d=30→r=.bad 18 (tk L i).at_)
  (HX:d < 30→∃ rX,Ps.bindR (some rX) (fun X j=>some (.ok (.node o [] 0 0 [] [X]) j))=some r∧Tot w0 P A c L 156 #[.pointer (some ⟨P,0,none⟩),.string (tx want),.int .i64 o,.func (.func N) #[.pointer (some ⟨P,0,none⟩)] #[]] (i + 1) (d + 1) rX):Tot w0 P A c L 156 #[.pointer (some ⟨P,0,none⟩),.string (tx want),.int .i64 o,.func (.func N) #[.pointer (some ⟨P,0,none⟩)] #[]] i d r:=by
 intro w h
 have b0:Below w.heap.size w (((((w.alloc (.cells #[.pointer (some ⟨P,0,none⟩)] 122)).alloc (.cells #[.string (tx want)] 9)).alloc (.cells #[.int .i64 o] 3)).alloc (.cells #[.func (.func N) #[.pointer (some ⟨P,0,none⟩)] #[]] 159)).alloc (.cells (ncells 0 [] 0 0 [] none 0 0) 26)):=
  (((((Below.refl _ _).alloc (Nat.le_refl _) _).alloc (by simp) _).alloc (by simp; omega) _).alloc (by simp; omega) _).alloc (by simp; omega) _
 have k0:=((((Whole.new w 122 #[.pointer (some ⟨P,0,none⟩)]).alloc (.cells #[.string (tx want)] 9)).alloc (.cells #[.int .i64 o] 3)).alloc (.cells #[.func (.func N) #[.pointer (some ⟨P,0,none⟩)] #[]] 159)).alloc (.cells (ncells 0 [] 0 0 [] none 0 0) 26)
 have k1:=(((Whole.new (w.alloc (.cells #[.pointer (some ⟨P,0,none⟩)] 122)) 9 #[.string (tx want)]).alloc (.cells #[.int .i64 o] 3)).alloc (.cells #[.func (.func N) #[.pointer (some ⟨P,0,none⟩)] #[]] 159)).alloc (.cells (ncells 0 [] 0 0 [] none 0 0) 26)
 have k2:=((Whole.new ((w.alloc (.cells #[.pointer (some ⟨P,0,none⟩)] 122)).alloc (.cells #[.string (tx want)] 9)) 3 #[.int .i64 o]).alloc (.cells #[.func (.func N) #[.pointer (some ⟨P,0,none⟩)] #[]] 159)).alloc (.cells (ncells 0 [] 0 0 [] none 0 0) 26)
 have k3:=(Whole.new (((w.alloc (.cells #[.pointer (some ⟨P,0,none⟩)] 122)).alloc (.cells #[.string (tx want)] 9)).alloc (.cells #[.int .i64 o] 3)) 159 #[.func (.func N) #[.pointer (some ⟨P,0,none⟩)] #[]]).alloc (.cells (ncells 0 [] 0 0 [] none 0 0) 26)
 have k4:=Whole.new ((((w.alloc (.cells #[.pointer (some ⟨P,0,none⟩)] 122)).alloc (.cells #[.string (tx want)] 9)).alloc (.cells #[.int .i64 o] 3)).alloc (.cells #[.func (.func N) #[.pointer (some ⟨P,0,none⟩)] #[]] 159)) 26 (ncells 0 [] 0 0 [] none 0 0)
 simp only [World.size_alloc] at k1 k2 k3 k4
 have h1:=h.below b0
 have hz:(((((w.alloc (.cells #[.pointer (some ⟨P,0,none⟩)] 122)).alloc (.cells #[.string (tx want)] 9)).alloc (.cells #[.int .i64 o] 3)).alloc (.cells #[.func (.func N) #[.pointer (some ⟨P,0,none⟩)] #[]] 159)).alloc (.cells (ncells 0 [] 0 0 [] none 0 0) 26)).heap.size=w.heap.size + 5:=by simp
 have HB:=hid (h.base hL)
 unfold ncells at *
 go_enter Tryz.func156,Tryz.ntmps156
 go_wp2_with fail
 generalize ((((w.alloc (.cells #[.pointer (some ⟨P,0,none⟩)] 122)).alloc (.cells #[.string (tx want)] 9)).alloc (.cells #[.int .i64 o] 3)).alloc (.cells #[.func (.func N) #[.pointer (some ⟨P,0,none⟩)] #[]] 159)).alloc (.cells #[.int .i64 0,.string (tx []),.int .i64 0,.int .i64 0,.string (tx []),.slice none 0 0] 26)=W1 at *
 have c0:=k0.cell 0
 have c1:=k1.cell 0
 have c3:=k3.cell 0
 simp only [List.getElem?_toArray,List.getElem?_cons_zero,List.getElem?_cons_succ] at c0 c1 c3
 have B0:=hid b0
 have K0:=hid k0
 have K1:=hid k1
 have K2:=hid k2
 have K3:=hid k3
 have K4:=hid k4
 have H1:=hid h1
 have HZ:=hid hz
 have NX:Hid (∀ W,Below W1.heap.size W1 W→Calls Tryz.prog 80 #[.pointer (some ⟨P,0,none⟩)] W fun e w'=>e=.returned (tokV (tk L i))∧Below W.heap.size W w'):=hid (fun W hW=>next_any (H1.out.below hW) (by omega) hLn)
 have hne:((tx (sgn (tk L i))).toList != (tx want).toList)=false:=by rw [ByteArray.toList_eq,ByteArray.toList_eq]; simpa using hw
 have hne2:(sgn (tk L i) != want)=false:=by simpa using hw
 have hne3:(sgn (tk L i) == want)=true:=by simpa using hw
 have HDH:=hid HD
 have HXH:=hid HX
 clear HD HX
 obtain ⟨t,ht⟩:∃ t,tk L i=t:=⟨_,rfl⟩
 have HT:=hid ht
 rw [ht] at hne hne2 hne3 NX
 clear ht
 have KK:Hid (∀ w',Below W1.heap.size W1 w'→Below W1.heap.size W1 w'∧w'.cell? ⟨w.heap.size,0,none⟩=some (.pointer (some ⟨P,0,none⟩))∧w'.cell? ⟨w.heap.size + 1,0,none⟩=some (.string (tx want))):=hid (fun w' hw=>⟨hw,(hw.cell (p:=⟨w.heap.size,0,none⟩) K0.out.lt).trans c0,(hw.cell (p:=⟨w.heap.size + 1,0,none⟩) K1.out.lt).trans c1⟩)
 clear b0 k0 k1 k2 k3 k4 h1 hz h hw
 go_cut [14] from 10 to 14 (fun s14 wc=>s14=.bool false∧Hid (Below W1.heap.size W1 wc))
 case first=>
  go_region_held3 (fun w'=>Below W1.heap.size W1 w'∧w'.cell? ⟨w.heap.size,0,none⟩=some (.pointer (some ⟨P,0,none⟩))∧w'.cell? ⟨w.heap.size + 1,0,none⟩=some (.string (tx want))) (first | (exact KK.out _ (Below.refl _ _).drew) | (go_split_ands; exact KK.out _ (bstep (by assumption) hb3)) | (go_split_ands; exact KK.out _ (bstep (by assumption) hb2)) | go_keep)
   (first
    | (go_at_call 80; (with_reducible refine (NX.out _ ?_).mono ?_); (go_split_ands; assumption); rintro e w2 ⟨rfl,hb2⟩)
    | (go_at_call 133; (with_reducible refine (sign_any t _).mono ?_); rintro e w3 ⟨rfl,hb3⟩))
  all_goals
   go_wp2_with fail
   go_meet
   case rel=>exact ⟨rfl,hid (by (go_split_ands; first | assumption | exact bstep (by assumption) hb3))⟩
 case rest=>
  obtain ⟨rfl,HB1⟩:=hcut
  obtain ⟨wd,rfl⟩:∃ wd,wd=wc:=⟨wc,rfl⟩
  have K0':=hid (K0.out.below HB1.out K0.out.lt)
  have K1':=hid (K1.out.below HB1.out K1.out.lt)
  have K2':=hid (K2.out.below HB1.out K2.out.lt)
  have K3':=hid (K3.out.below HB1.out K3.out.lt)
  have K4':=hid (K4.out.below HB1.out K4.out.lt)
  have c0':=K0'.out.cell 0
  simp only [List.getElem?_toArray,List.getElem?_cons_zero,List.getElem?_cons_succ] at c0'
  have HZ1:Hid (w.heap.size + 5≤wd.heap.size):=hid (by have:=HZ.out; have:=HB1.out.size; omega)
  have B1:Hid (Below w.heap.size w wd):=hid (B0.out.trans (HB1.out.mono B0.out.size))
  have CC:Hid (Calls Tryz.prog 179 #[.pointer (some ⟨P,0,none⟩),.func (.func 180) #[] #[.pointer (some ⟨w.heap.size,0,none⟩),.pointer (some ⟨w.heap.size + 1,0,none⟩),.pointer (some ⟨w.heap.size + 1 + 1,0,none⟩),.pointer (some ⟨w.heap.size + 1 + 1 + 1,0,none⟩)]] wd (OutX w0 P A c L d r wd)):=hid (by
   have hpw:=HB.out.P
   rcases Nat.lt_or_ge d 30 with hd | hd
   ·obtain ⟨rX,e1,e2⟩:=HXH.out hd
    refine nested_go (H1.out.below HB1.out) hL hi _ _ (fun W=>callAhead1 _ _ _ _ W) hd r fun W hW ht=>?_
    have bl:∀ {g:Nat} {t:TypeId} {cs:Array Value},Whole wd g t cs→g ≠ P→Whole W g t cs:=fun h hg=>(ht.block _ h.lt (by simpa using hg)).trans h
    exact ahead1_any hW hL want o N e1 (bl K0'.out (by omega)) (bl K1'.out (by omega)) (bl K2'.out (by omega)) (bl K3'.out (by omega)) (by omega) e2
   ·have hd0:d=30:=by omega
    rw [HDH.out hd0]
    exact nested_deep (H1.out.below HB1.out) hL hLn hi _ _ hd0)
  clear c0 c1 c3 hne hne2 hne3
  go_wp2_with fail
  refine CC.out.mono ?_
  rintro e W2 ⟨T,i',b,fc,fa,hf,u,rfl,hu,hp,ht⟩
  cases T with
  | node op t vk vn vs ks=>
  obtain ⟨A2,c2,rfl,hc2,hk2⟩:=hu
  have k2:Whole W2 (w.heap.size + 1 + 1 + 1 + 1) 26 #[.int .i64 0,.string (tx []),.int .i64 0,.int .i64 0,.string (tx []),.slice none 0 0]:=(ht.block _ K4'.out.lt (by have:=HB.out.P; simp; omega)).trans K4'.out
  obtain ⟨x0,x1,x2,x3,x4,x5⟩:=six_of k2
  obtain ⟨y0,y1,y2,y3,y4,y5⟩:=frozen6 k2
  have FIN:=hid (set6Z_whole k2 (.int .i64 op) (.string (tx t)) (.int .i64 vk) (.int .i64 vn) (.string (tx vs)) (.slice A2 ks.length c2))
  have FT:=set6Z_touch W2 (w.heap.size + 1 + 1 + 1 + 1) (.int .i64 op) (.string (tx t)) (.int .i64 vk) (.int .i64 vn) (.string (tx vs)) (.slice A2 ks.length c2)
  have F1:=hid (hp.new HB.out FT (by omega))
  have F2:Hid (Touch [P] w (set6Z W2 (w.heap.size + 1 + 1 + 1 + 1) (.int .i64 op) (.string (tx t)) (.int .i64 vk) (.int .i64 vn) (.string (tx vs)) (.slice A2 ks.length c2))):=hid (((Touch.of_below B1.out [P]).trans ht (fun x hx=>.inl hx)).trans FT (fun x hx=>.inr (by simp at hx; omega)))
  have F3:=hid (hk2.moved (S':=(w.heap.size≤·)) fun k hk hlt=>⟨FT.block k hlt (by have:=HZ1.out; simp; omega),by have:=HZ1.out; omega⟩)
  have F4:=hid hc2
  have F5:=hid hf
  clear FT hk2 hc2 hp ht k2 c0' hf
  go_wp2_with fail
  exact bodyPost_ret (results_two rfl _ _ (w.heap.size + 1 + 1 + 1 + 1) _ _ _ _ rfl FIN.out Tryz.underlying26 rfl sizeExpr _ rfl) rfl ⟨_,_,_,_,_,F5.out,_,rfl,⟨A2,c2,rfl,F4.out,F3.out⟩,F1.out,F2.out⟩
end Go.Proofs.YteghhmomhlnccaaGreatDoor
namespace Go.Proofs.YteghhmomhlnccaaGreatDoor
open Ex (Tree)
theorem binary_tot {w0:World} {P:Nat} {A:Option Addr} {c:Nat} {L:List Lx.Tk} {i d:Nat} {X:Tree} {r:Ps.Res} (hL:L ≠ []) (hLn:L.length≤1000000) (hi:i + 1≤1000000) (N:FuncId) (hN:∀ W,Sem.run Tryz.prog (callFunc N #[.pointer (some ⟨P,0,none⟩)]) W=.ok (.enter N #[.pointer (some ⟨P,0,none⟩)]) W)
  (HC:Tot w0 P A c L N #[.pointer (some ⟨P,0,none⟩)] (i + 1) d r) (mk:List UInt8) (hm:(tk L i).text=mk) (S:Nat→Prop) (w:World) (h:PAt w0 w P A c L i d) (vx:Value) (hx:NodeS S w vx X) (hS:∀ k,S k→k < w.heap.size∧k ≠ P) :
  Calls Tryz.prog 134 #[.pointer (some ⟨P,0,none⟩),vx,.func (.func N) #[.pointer (some ⟨P,0,none⟩)] #[]] w fun e w'=>∃ Y i' b fc fa,Fit r Y i' b fc fa∧∃ u,e=.returned (.tuple #[u,.bool b])∧NodeS (fun k=>S k∨w.heap.size≤k) w' u (Ps.binT mk X Y)∧PX w0 w' P A c L i' d fc fa∧Touch [P] w w':=by
 cases X with
 | node op t vk vn vs ks=>
 obtain ⟨AX,cX,rfl,hcX,hkX⟩:=hx
 have b0:Below w.heap.size w ((w.alloc (.cells (ncells op t vk vn vs AX ks.length cX) 26)).alloc (.cells (ncells 0 [] 0 0 [] none 0 0) 26)):=((Below.refl _ _).alloc (Nat.le_refl _) _).alloc (by simp) _
 have k0:=(Whole.new w 26 (ncells op t vk vn vs AX ks.length cX)).alloc (.cells (ncells 0 [] 0 0 [] none 0 0) 26)
 have k1:=Whole.new (w.alloc (.cells (ncells op t vk vn vs AX ks.length cX) 26)) 26 (ncells 0 [] 0 0 [] none 0 0)
 simp only [World.size_alloc] at k1
 have h1:=h.below b0
 have hz:((w.alloc (.cells (ncells op t vk vn vs AX ks.length cX) 26)).alloc (.cells (ncells 0 [] 0 0 [] none 0 0) 26)).heap.size=w.heap.size + 2:=by simp
 have HB:=hid (h.base hL)
 unfold ncells at *
 go_enter Tryz.func134,Tryz.ntmps134
 go_wp2_with fail
 generalize (w.alloc (.cells #[.int .i64 op,.string (tx t),.int .i64 vk,.int .i64 vn,.string (tx vs),.slice AX ks.length cX] 26)).alloc (.cells #[.int .i64 0,.string (tx []),.int .i64 0,.int .i64 0,.string (tx []),.slice none 0 0] 26)=W1 at *
 have NX:=hid (next_any h1 (by omega) hLn)
 have B0:=hid b0
 have K0:=hid k0
 have K1:=hid k1
 have H1:=hid h1
 have HZ:=hid hz
 have HX:=hid hkX
 have HcX:=hid hcX
 obtain ⟨tok,htok⟩:∃ tok,tk L i=tok:=⟨_,rfl⟩
 rw [htok] at NX hm
 obtain ⟨kd,tt,ta⟩:=tok
 have hm:tt=mk:=hm
 subst hm
 have NX2:Hid (Calls Tryz.prog 80 #[.pointer (some ⟨P,0,none⟩)] W1 fun e w'=>e=.returned (.agg #[.int .i64 (kd:Nat),.string (tx tt),.int .i64 (ta:Nat)])∧Below W1.heap.size W1 w'):=NX
 clear b0 k0 k1 h1 hz h hkX hcX htok NX
 refine NX2.out.mono ?_
 rintro e W2 ⟨rfl,hb2⟩
 have H2:=hid (H1.out.below hb2)
 have p2:W2.cell? ⟨P,1,none⟩=some (.int .i64 (i:Nat)):=H2.out.cells.cell 1
 have pf:W2.frozen? ⟨P,1,none⟩=false:=H2.out.cells.frozen 1
 have hi':(i:Int) + 1≤1000000:=by omega
 have H3:=hid (H2.out.set_at (i + 1))
 have CC:=hid (HC _ H3.out)
 have TT:Hid (Touch [P] W1 (W2.setCell ⟨P,1,none⟩ (.int .i64 ((i + 1:Nat):Int)))):=hid ((Touch.of_below hb2 [P]).setCell (.inl (by simp)) _)
 have hcast:((i + 1:Nat):Int)=(i:Int) + 1:=by omega
 obtain ⟨W3,hW3⟩:∃ W3,W2.setCell ⟨P,1,none⟩ (.int .i64 ((i + 1:Nat):Int))=W3:=⟨_,rfl⟩
 rw [hW3] at H3 CC TT
 rw [hcast] at hW3
 clear hcast hb2 HC NX2
 have hF:=fieldTok1 (kd:Nat) (ta:Nat) (tx tt) W2
 go_wp2_with fail
 refine CC.out.mono ?_
 rintro e W4 ⟨Y,i',b,fc,fa,hf,u,rfl,hu,hp,ht⟩
 cases Y with
 | node op' t' vk' vn' vs' ks'=>
 obtain ⟨AY,cY,rfl,hcY,hkY⟩:=hu
 have T4:=TT.out.trans ht (fun x hx=>.inl hx)
 have hP:=HB.out.P
 have hz1:=HZ.out
 have k04:Whole W4 w.heap.size 26 #[.int .i64 op,.string (tx t),.int .i64 vk,.int .i64 vn,.string (tx vs),.slice AX ks.length cX]:=(T4.block _ K0.out.lt (by simp; omega)).trans K0.out
 have k14:Whole W4 (w.heap.size + 1) 26 #[.int .i64 0,.string (tx []),.int .i64 0,.int .i64 0,.string (tx []),.slice none 0 0]:=(T4.block _ K1.out.lt (by simp; omega)).trans K1.out
 have b5:Below W4.heap.size W4 (W4.alloc (.cells (ncells op' t' vk' vn' vs' AY ks'.length cY) 26)):=(Below.refl _ _).alloc (Nat.le_refl _) _
 have k5:=Whole.new W4 26 (ncells op' t' vk' vn' vs' AY ks'.length cY)
 have hz5:(W4.alloc (.cells (ncells op' t' vk' vn' vs' AY ks'.length cY) 26)).heap.size=W4.heap.size + 1:=by simp
 unfold ncells at *
 have C04:=hid k04
 have C14:=hid k14
 have HKY:=hid hkY
 have HCY:=hid hcY
 have HT4:=hid T4
 have HP4:=hid hp
 have HFT:=hid hf
 clear k04 k14 hkY hcY T4 hp ht hW3 p2 pf CC hF hN hf
 obtain ⟨x0,x1,x2,x3,x4,x5⟩:=six_of (C04.out.below b5 C04.out.lt)
 obtain ⟨z0,z1,z2,z3,z4,z5⟩:=six_of k5
 have k16:=(C14.out.below b5 C14.out.lt).alloc (.cells #[.int .i64 op,.string (tx t),.int .i64 vk,.int .i64 vn,.string (tx vs),.slice AX ks.length cX,.int .i64 op',.string (tx t'),.int .i64 vk',.int .i64 vn',.string (tx vs'),.slice AY ks'.length cY] 26)
 obtain ⟨m0,m1,m2,m3,m4,m5⟩:=six_of k16
 obtain ⟨y0,y1,y2,y3,y4,y5⟩:=frozen6 k16
 have hsz4:=HT4.out.size
 have b6:Below W4.heap.size W4 ((W4.alloc (.cells #[.int .i64 op',.string (tx t'),.int .i64 vk',.int .i64 vn',.string (tx vs'),.slice AY ks'.length cY] 26)).alloc (.cells #[.int .i64 op,.string (tx t),.int .i64 vk,.int .i64 vn,.string (tx vs),.slice AX ks.length cX,.int .i64 op',.string (tx t'),.int .i64 vk',.int .i64 vn',.string (tx vs'),.slice AY ks'.length cY] 26)):=b5.alloc b5.size _
 have hz6:((W4.alloc (.cells #[.int .i64 op',.string (tx t'),.int .i64 vk',.int .i64 vn',.string (tx vs'),.slice AY ks'.length cY] 26)).alloc (.cells #[.int .i64 op,.string (tx t),.int .i64 vk,.int .i64 vn,.string (tx vs),.slice AX ks.length cX,.int .i64 op',.string (tx t'),.int .i64 vk',.int .i64 vn',.string (tx vs'),.slice AY ks'.length cY] 26)).heap.size=W4.heap.size + 2:=by simp
 have tw:=two_trees (S:=fun k=>(S k∨w.heap.size≤k)∧k < W4.heap.size∧k ≠ w.heap.size + 1) (w:=W4.alloc (.cells #[.int .i64 op',.string (tx t'),.int .i64 vk',.int .i64 vn',.string (tx vs'),.slice AY ks'.length cY] 26)) (op:=op) (t:=t) (vk:=vk) (vn:=vn) (vs:=vs) (op':=op') (t':=t') (vk':=vk') (vn':=vn') (vs':=vs')
  HcX.out (HX.out.moved fun k hk hlt=>by
   have:=hS k hk
   have h1:=B0.out.size
   refine ⟨(b5.block k (by omega)).trans ((HT4.out.block k (by omega) (by simp; exact this.2)).trans (B0.out.block k this.1)),.inl hk,by omega,by omega⟩)
  HCY.out (HKY.out.moved fun k hk hlt=>⟨b5.block k hlt,.inr (by have:=TT.out.size; omega),hlt,by have:=TT.out.size; omega⟩)
  (fun k hk=>by rw [hz5]; omega)
 rw [hz5] at tw
 have FIN:=hid (set6Z_whole k16 (.int .i64 5) (.string (tx tt)) (.int .i64 0) (.int .i64 0) (.string (tx [])) (.slice (some ⟨W4.heap.size + 1,0,none⟩) 2 2))
 have FT:=set6Z_touch ((W4.alloc (.cells #[.int .i64 op',.string (tx t'),.int .i64 vk',.int .i64 vn',.string (tx vs'),.slice AY ks'.length cY] 26)).alloc (.cells #[.int .i64 op,.string (tx t),.int .i64 vk,.int .i64 vn,.string (tx vs),.slice AX ks.length cX,.int .i64 op',.string (tx t'),.int .i64 vk',.int .i64 vn',.string (tx vs'),.slice AY ks'.length cY] 26)) (w.heap.size + 1) (.int .i64 5) (.string (tx tt)) (.int .i64 0) (.int .i64 0) (.string (tx [])) (.slice (some ⟨W4.heap.size + 1,0,none⟩) 2 2)
 have F1:=hid ((HP4.out.below b6).new HB.out FT (by omega))
 have F2:Hid (Touch [P] w (set6Z ((W4.alloc (.cells #[.int .i64 op',.string (tx t'),.int .i64 vk',.int .i64 vn',.string (tx vs'),.slice AY ks'.length cY] 26)).alloc (.cells #[.int .i64 op,.string (tx t),.int .i64 vk,.int .i64 vn,.string (tx vs),.slice AX ks.length cX,.int .i64 op',.string (tx t'),.int .i64 vk',.int .i64 vn',.string (tx vs'),.slice AY ks'.length cY] 26)) (w.heap.size + 1) (.int .i64 5) (.string (tx tt)) (.int .i64 0) (.int .i64 0) (.string (tx [])) (.slice (some ⟨W4.heap.size + 1,0,none⟩) 2 2))):=
  hid ((((Touch.of_below B0.out [P]).trans HT4.out (fun x hx=>.inl hx)).belowTo b6).trans FT (fun x hx=>.inr (by simp at hx; omega)))
 have F3:Hid (TreesIn (fun k=>S k∨w.heap.size≤k) (set6Z ((W4.alloc (.cells #[.int .i64 op',.string (tx t'),.int .i64 vk',.int .i64 vn',.string (tx vs'),.slice AY ks'.length cY] 26)).alloc (.cells #[.int .i64 op,.string (tx t),.int .i64 vk,.int .i64 vn,.string (tx vs),.slice AX ks.length cX,.int .i64 op',.string (tx t'),.int .i64 vk',.int .i64 vn',.string (tx vs'),.slice AY ks'.length cY] 26)) (w.heap.size + 1) (.int .i64 5) (.string (tx tt)) (.int .i64 0) (.int .i64 0) (.string (tx [])) (.slice (some ⟨W4.heap.size + 1,0,none⟩) 2 2)) (some ⟨W4.heap.size + 1,0,none⟩) 0 [.node op t vk vn vs ks,.node op' t' vk' vn' vs' ks']):=
  hid (tw.moved fun k hk hlt=>by
   rcases hk with hk | hk
   ·exact ⟨FT.block k hlt (by simp; exact hk.2.2),hk.1⟩
   ·exact ⟨FT.block k hlt (by simp; omega),.inr (by omega)⟩)
 clear FT tw b6 hz6 hz5 b5 k5 k16
 go_wp2_with fail
 exact bodyPost_ret (results_two rfl _ _ (w.heap.size + 1) _ _ _ _ rfl FIN.out Tryz.underlying26 rfl sizeExpr _ rfl) rfl ⟨_,_,_,_,_,HFT.out,_,rfl,⟨_,2,rfl,Nat.le_refl _,F3.out⟩,F1.out,F2.out⟩
end Go.Proofs.YteghhmomhlnccaaGreatDoor
namespace Go.Proofs.YteghhmomhlnccaaGreatDoor
open Ex (Tree)
structure LfX (w0 w wr:World) (P:Nat) (A:Option Addr) (c:Nat) (L:List Lx.Tk) (i d fc fa B8:Nat) (op:Int) (t:List UInt8) (vk vn:Int) (vs:List UInt8) (AX:Option Addr) (cX:Nat) (ks:List Tree):Prop where
 p:PX w0 wr P A c L i d fc fa
 box:Whole wr B8 26 #[.int .i64 op,.string (tx t),.int .i64 vk,.int .i64 vn,.string (tx vs),.slice AX ks.length cX]
 cap:ks.length≤cX
 kids:TreesIn (fun k=>w.heap.size < k∧k ≠ B8) wr AX 0 ks
 res:Whole wr w.heap.size 26 #[.int .i64 0,.string (tx []),.int .i64 0,.int .i64 0,.string (tx []),.slice none 0 0]
 touch:Touch [P] w wr
 lt:w.heap.size < B8
theorem LfX.below {w0 w wr w':World} {P:Nat} {A:Option Addr} {c:Nat} {L:List Lx.Tk} {i d fc fa B8:Nat} {op:Int} {t:List UInt8} {vk vn:Int} {vs:List UInt8} {AX:Option Addr} {cX:Nat} {ks:List Tree} (h:LfX w0 w wr P A c L i d fc fa B8 op t vk vn vs AX cX ks) (hb:Below wr.heap.size wr w'):LfX w0 w w' P A c L i d fc fa B8 op t vk vn vs AX cX ks:=
 ⟨h.p.below hb,h.box.below hb h.box.lt,h.cap,h.kids.below hb,h.res.below hb h.res.lt,h.touch.belowTo hb,h.lt⟩
theorem LfX.step {w0 w wr w':World} {P:Nat} {A:Option Addr} {c:Nat} {L:List Lx.Tk} {i d fc fa B8:Nat} {op:Int} {t:List UInt8} {vk vn:Int} {vs:List UInt8} {AX:Option Addr} {cX:Nat} {ks:List Tree} (h:LfX w0 w wr P A c L i d fc fa B8 op t vk vn vs AX cX ks) (hB:Base w0 w P A)
  {i' fc' fa':Nat} (hp:PX w0 w' P A c L i' d fc' fa') (ht:Touch [P] wr w') {op':Int} {t':List UInt8} {vk' vn':Int} {vs':List UInt8} {A':Option Addr} {c':Nat} {ks':List Tree} (hc:ks'.length≤c') (hk:TreesIn (fun k=>(w.heap.size < k∧k ≠ B8∧k < wr.heap.size)∨wr.heap.size≤k) w' A' 0 ks') :
  Whole w' B8 26 #[.int .i64 op,.string (tx t),.int .i64 vk,.int .i64 vn,.string (tx vs),.slice AX ks.length cX] ∧
  LfX w0 w (set6Z w' B8 (.int .i64 op') (.string (tx t')) (.int .i64 vk') (.int .i64 vn') (.string (tx vs')) (.slice A' ks'.length c')) P A c L i' d fc' fa' B8 op' t' vk' vn' vs' A' c' ks':=by
 have hP:=hB.P
 have hlt:=h.lt
 have hbl:=h.box.lt
 have hbox:Whole w' B8 26 #[.int .i64 op,.string (tx t),.int .i64 vk,.int .i64 vn,.string (tx vs),.slice AX ks.length cX]:=(ht.block _ h.box.lt (by simp; omega)).trans h.box
 have hres:Whole w' w.heap.size 26 #[.int .i64 0,.string (tx []),.int .i64 0,.int .i64 0,.string (tx []),.slice none 0 0]:=(ht.block _ h.res.lt (by simp; omega)).trans h.res
 have FT:=set6Z_touch w' B8 (.int .i64 op') (.string (tx t')) (.int .i64 vk') (.int .i64 vn') (.string (tx vs')) (.slice A' ks'.length c')
 refine ⟨hbox,hp.new hB FT (by omega),set6Z_whole hbox _ _ _ _ _ _,hc,hk.moved fun k hk hlt'=>?_,(FT.block _ hres.lt (by simp; omega)).trans hres,(h.touch.trans ht (fun x hx=>.inl hx)).trans FT (fun x hx=>.inr (by simp at hx; omega)),hlt⟩
 have hk':w.heap.size < k∧k ≠ B8:=by
  rcases hk with hk | hk
  ·exact ⟨hk.1,hk.2.1⟩
  ·exact ⟨by omega,by omega⟩
 exact ⟨FT.block k hlt' (by simp; exact hk'.2),hk'⟩
def LSt (L:List Lx.Tk) (u:Ps.Ru) (d:Nat) (r:Ps.Res) (f:Nat) (T:Tree) (i:Nat) (b:Bool) (fc fa:Nat):Prop:=
 (b=true∧fc=0∧fa=0∧Ps.rd 30 L f d (.left u T) i=some r)∨(b=false∧Fit r T i false fc fa)
theorem left_tot {w0:World} {P:Nat} {A:Option Addr} {c:Nat} {L:List Lx.Tk} {i d:Nat} (hL:Ps.Ends L) (hLn:L.length≤900000) (hi:i < L.length) (N:FuncId) (hN:∀ W,Sem.run Tryz.prog (callFunc N #[.pointer (some ⟨P,0,none⟩)]) W=.ok (.enter N #[.pointer (some ⟨P,0,none⟩)]) W)
  (u:Ps.Ru) (hu:u.isLeft=true) (F:Nat) {r:Ps.Res} (hr:Ps.rd 30 L F d (.rule u) i=some r)
  (HS:∀ f i r,f < F→i < L.length→Ps.rd 30 L f d (.rule u.below) i=some r→Tot w0 P A c L N #[.pointer (some ⟨P,0,none⟩)] i d r) :
  Tot w0 P A c L 109 #[.pointer (some ⟨P,0,none⟩),.int .i64 u.of,.func (.func N) #[.pointer (some ⟨P,0,none⟩)] #[]] i d r:=by
 intro w h
 obtain ⟨F,rfl⟩:∃ F',F=F' + 1:=by
  cases F with
  | zero=>cases hr
  | succ F=>exact ⟨F,rfl⟩
 rw [Ps.rd_left_rule hu] at hr
 obtain ⟨r0,hr0,H0⟩:∃ r0,Ps.rd 30 L F d (.rule u.below) i=some r0∧∀ T j b fc fa,Fit r0 T j b fc fa→LSt L u d r F T j b fc fa:=by
  rcases Ps.bindR_some hr with ⟨T,j,h1,h2⟩ | ⟨c',a',h1,rfl⟩
  ·refine ⟨_,h1,fun T' j' b fc fa hf=>?_⟩
   cases hf
   exact .inl ⟨rfl,rfl,rfl,h2⟩
  ·refine ⟨_,h1,fun T' j' b fc fa hf=>?_⟩
   cases hf
   exact .inr ⟨rfl,.bad _ _ _ _⟩
 have h0:=HS F i r0 (Nat.lt_succ_self _) hi hr0
 have hat:∀ T j,r0=.ok T j→j < L.length:=fun T j e=>(Ps.rd_at hL _ _ _ _ _ _ (e ▸ hr0)).2.1 hi
 have HAT:Hid (∀ T j b fc fa,Fit r0 T j b fc fa→b=true→j < L.length):=hid (fun T j b fc fa hf hb=>by cases hf with | ok=>exact hat _ _ rfl | bad=>cases hb)
 have b0:Below w.heap.size w (w.alloc (.cells (ncells 0 [] 0 0 [] none 0 0) 26)):=(Below.refl _ _).alloc (Nat.le_refl _) _
 have k0:=Whole.new w 26 (ncells 0 [] 0 0 [] none 0 0)
 have CC:=hid (h0 _ (h.below b0))
 have HB:=hid (h.base hL.1)
 have hz:(w.alloc (.cells (ncells 0 [] 0 0 [] none 0 0) 26)).heap.size=w.heap.size + 1:=by simp
 unfold ncells at *
 have B0:=hid b0
 have K0:=hid k0
 have HZ:=hid hz
 have HSH:=hid HS
 have H0H:=hid H0
 have HLE:=hid hL
 obtain ⟨of_,hof⟩:∃ of_,u.of=of_:=⟨_,rfl⟩
 have HOF:=hid hof
 rw [hof]
 clear b0 k0 hz h h0 HS H0 hr hr0 hat hL hof
 go_enter Tryz.func109,Tryz.ntmps109
 go_wp2_with fail
 refine CC.out.mono ?_
 generalize w.alloc (.cells #[.int .i64 0,.string (tx []),.int .i64 0,.int .i64 0,.string (tx []),.slice none 0 0] 26)=W1 at *
 rintro e W2 ⟨Y0,i0,b,fc,fa,hf,u',rfl,hu',hp,ht⟩
 have HF0:=hid (H0H.out _ _ _ _ _ hf)
 have HA0:Hid (b=true→i0 < L.length):=hid (HAT.out _ _ _ _ _ hf)
 clear hf CC H0H HAT
 cases Y0 with
 | node op t vk vn vs ks=>
 obtain ⟨A2,c2,rfl,hc2,hk2⟩:=hu'
 have b3:Below W2.heap.size W2 (W2.alloc (.cells (ncells op t vk vn vs A2 ks.length c2) 26)):=(Below.refl _ _).alloc (Nat.le_refl _) _
 have L0:Hid (LfX w0 w (W2.alloc (.cells (ncells op t vk vn vs A2 ks.length c2) 26)) P A c L i0 d fc fa W2.heap.size op t vk vn vs A2 c2 ks):=hid
  ⟨hp.below b3,Whole.new _ _ _,hc2,hk2.moved (fun k hk hlt=>⟨b3.block k hlt,by have:=HZ.out; omega,by omega⟩),Whole.alloc (show Whole W2 w.heap.size _ _ from (ht.block _ K0.out.lt (by have:=HB.out.P; simp; omega)).trans K0.out) _,((Touch.of_below B0.out [P]).trans ht (fun x hx=>.inl hx)).belowTo b3,by have:=HZ.out; have:=ht.size; omega⟩
 unfold ncells at *
 clear b3 hk2 hc2 hp ht
 go_wp2_with fail
 obtain ⟨B8,hB8⟩:∃ B8,W2.heap.size=B8:=⟨_,rfl⟩
 rw [hB8] at L0 ⊢
 generalize W2.alloc (.cells #[.int .i64 op,.string (tx t),.int .i64 vk,.int .i64 vn,.string (tx vs),.slice A2 ks.length c2] 26)=W3 at *
 clear hB8 K0 HZ B0
 go_loopg [9] (F + 1) (fun j s9 wr=>∃ (f:Nat) (i0:Nat) (b:Bool) (fc fa:Nat) (op:Int) (t:List UInt8) (vk vn:Int) (vs:List UInt8) (AX:Option Addr) (cX:Nat) (ks:List Tree),f≤F∧f < j∧s9=.bool b∧Hid (b=true→i0 < L.length)∧Hid (LSt L u d r f (.node op t vk vn vs ks) i0 b fc fa)∧Hid (LfX w0 w wr P A c L i0 d fc fa B8 op t vk vn vs AX cX ks))
 case atStart=>exact ⟨F,i0,b,fc,fa,op,t,vk,vn,vs,A2,c2,ks,by omega,by omega,rfl,HA0,HF0,L0⟩
 case round=>
  obtain ⟨f,i1,b,fc,fa,op,t,vk,vn,vs,AX,cX,ks,hfF,hfj,rfl,HA1,HST,LF⟩:=hrel
  clear HF0 L0 HA0
  rcases HST.out with ⟨rfl,rfl,rfl,hrd⟩ | ⟨rfl,hfit⟩
  ·obtain ⟨f,rfl⟩:∃ f',f=f' + 1:=by
    cases f with
    | zero=>cases hrd
    | succ f=>exact ⟨f,rfl⟩
   have hi1:=HA1.out rfl
   rw [Ps.rd_left,HOF.out] at hrd
   have NX:=hid (next_any LF.out.p (by omega) (by omega))
   obtain ⟨tok,htok⟩:∃ tok,tk L i1=tok:=⟨_,rfl⟩
   have HTOK:=hid htok
   rw [htok] at NX hrd
   obtain ⟨lv,hlv⟩:∃ lv,Ex.lev (sgn tok)=lv:=⟨_,rfl⟩
   have LV:Hid (∀ W,Calls Tryz.prog 87 #[.string (tx (sgn tok))] W fun e w'=>e=.returned (.int .i64 lv)∧w'=W):=hid (fun W=>by
    have:=level_any (tx (sgn tok)) W
    rw [show (tx (sgn tok)).data.toList=sgn tok from rfl,hlv] at this
    exact this)
   rw [hlv] at hrd
   have HLV:=hid hlv
   clear hlv htok
   by_cases hlt:lv=of_
   ·subst hlt
    rw [if_pos rfl] at hrd
    obtain ⟨r1,hr1,H1⟩:∃ r1,Ps.rd 30 L f d (.rule u.below) (i1 + 1)=some r1∧∀ Y j b fc fa,Fit r1 Y j b fc fa→LSt L u d r f (Ps.binT tok.text (.node op t vk vn vs ks) Y) j b fc fa:=by
     rcases Ps.bindR_some hrd with ⟨Y,j,h1,h2⟩ | ⟨c',a',h1,rfl⟩
     ·refine ⟨_,h1,fun T' j' b fc fa hf=>?_⟩
      cases hf
      exact .inl ⟨rfl,rfl,rfl,h2⟩
     ·refine ⟨_,h1,fun T' j' b fc fa hf=>?_⟩
      cases hf
      exact .inr ⟨rfl,.bad _ _ _ _⟩
    have hi2:i1 + 1 < L.length:=HLE.out.sgn (i:=i1) rfl (Ps.lev_ne (k:=u.of) (by rw [HTOK.out,HLV.out,HOF.out]) (Ps.of_ne u))
    have HRB:=hid (HSH.out f (i1 + 1) r1 (by omega) hi2 hr1)
    have HA2:Hid (∀ T j b fc fa,Fit r1 T j b fc fa→b=true→j < L.length):=hid (fun T j b fc fa hf hb=>by
     cases hf with
     | ok=>exact (Ps.rd_at HLE.out _ _ _ _ _ _ hr1).2.1 hi2
     | bad=>cases hb)
    have H1H:=hid H1
    have hi3:i1 + 1≤1000000:=by omega
    have HTX:Hid ((tk L i1).text=tok.text):=hid (by rw [HTOK.out])
    clear hrd hr1 H1
    go_wp2_with fail
    refine NX.out.mono ?_
    rintro e Wa ⟨rfl,hba⟩
    have SG:=hid (sign_any tok Wa)
    go_wp2_with fail
    refine SG.out.mono ?_
    rintro e Wb ⟨rfl,hbb⟩
    have LVb:=hid (LV.out Wb)
    go_wp2_with fail
    refine LVb.out.mono ?_
    rintro e Wc ⟨rfl,rfl⟩
    have LFc:=hid ((LF.out.below hba).below hbb)
    obtain ⟨x0,x1,x2,x3,x4,x5⟩:=six_of LFc.out.box
    have BN:=hid (binary_tot HLE.out.1 (by omega) hi3 N hN HRB.out tok.text HTX.out (fun q=>w.heap.size < q∧q ≠ B8∧q < Wc.heap.size) Wc LFc.out.p _ (X:=.node op t vk vn vs ks) ⟨AX,cX,rfl,LFc.out.cap,LFc.out.kids.moved fun q hq hlt=>⟨rfl,hq.1,hq.2,hlt⟩⟩ (fun q hq=>⟨hq.2.2,by have:=HB.out.P; omega⟩))
    unfold ncells at BN
    clear hba hbb NX SG LV LVb LF
    go_wp2_with fail
    refine BN.out.mono ?_
    rintro e Wd ⟨Y,i2,b2,fc2,fa2,hf2,u2,rfl,⟨A',c',rfl,hc',hk'⟩,hp',ht'⟩
    have HNL:=hid (H1H.out _ _ _ _ _ hf2)
    have HNA:=hid (HA2.out _ _ _ _ _ hf2)
    have hbox:Whole Wd B8 26 #[.int .i64 op,.string (tx t),.int .i64 vk,.int .i64 vn,.string (tx vs),.slice AX ks.length cX]:=(LFc.out.step HB.out hp' ht' (op':=5) (t':=tok.text) (vk':=0) (vn':=0) (vs':=[]) hc' hk').1
    have HLF:Hid (LfX w0 w (set6Z Wd B8 (.int .i64 5) (.string (tx tok.text)) (.int .i64 0) (.int .i64 0) (.string (tx [])) (.slice A' 2 c')) P A c L i2 d fc2 fa2 B8 5 tok.text 0 0 [] A' c' [.node op t vk vn vs ks,Y]):=hid (LFc.out.step HB.out hp' ht' hc' hk').2
    obtain ⟨x0,x1,x2,x3,x4,x5⟩:=six_of hbox
    obtain ⟨y0,y1,y2,y3,y4,y5⟩:=frozen6 hbox
    clear hbox hp' ht' hk' hc' BN hf2 H1H HA2
    unfold ncells
    dsimp only [List.length_cons,List.length_nil]
    go_wp2_with fail
    go_roundg (f + 1)
    case measure=>omega
    case rel=>exact ⟨f,i2,b2,fc2,fa2,5,tok.text,0,0,[],A',c',_,by omega,by omega,rfl,HNA,HNL,HLF⟩
   ·rw [if_neg hlt] at hrd
    have hend':(lv == of_)=false:=by simpa using hlt
    have HRD:=hid hrd
    clear hrd hlt
    go_wp2_with fail
    refine NX.out.mono ?_
    rintro e Wa ⟨rfl,hba⟩
    have SG:=hid (sign_any tok Wa)
    go_wp2_with fail
    refine SG.out.mono ?_
    rintro e Wb ⟨rfl,hbb⟩
    have LVb:=hid (LV.out Wb)
    go_wp2_with fail
    refine LVb.out.mono ?_
    rintro e Wc ⟨rfl,rfl⟩
    have LFc:=hid ((LF.out.below hba).below hbb)
    obtain ⟨x0,x1,x2,x3,x4,x5⟩:=six_of LFc.out.box
    obtain ⟨z0,z1,z2,z3,z4,z5⟩:=six_of LFc.out.res
    obtain ⟨y0,y1,y2,y3,y4,y5⟩:=frozen6 LFc.out.res
    have FIN:=hid (set6Z_whole LFc.out.res (.int .i64 op) (.string (tx t)) (.int .i64 vk) (.int .i64 vn) (.string (tx vs)) (.slice AX ks.length cX))
    have FT:=set6Z_touch Wc w.heap.size (.int .i64 op) (.string (tx t)) (.int .i64 vk) (.int .i64 vn) (.string (tx vs)) (.slice AX ks.length cX)
    have F1:=hid (LFc.out.p.new HB.out FT (Nat.le_refl _))
    have F2:=hid (LFc.out.touch.trans FT (fun x hx=>.inr (by simp at hx; omega)))
    have F3:Hid (TreesIn (w.heap.size≤·) (set6Z Wc w.heap.size (.int .i64 op) (.string (tx t)) (.int .i64 vk) (.int .i64 vn) (.string (tx vs)) (.slice AX ks.length cX)) AX 0 ks):=hid (LFc.out.kids.moved fun q hq hlt=>⟨FT.block q hlt (by simp; omega),by omega⟩)
    clear FT hba hbb NX SG LV LVb LF
    go_wp2_with fail
    refine bodyPost_ret (results_two rfl _ _ w.heap.size _ _ _ _ rfl FIN.out Tryz.underlying26 rfl sizeExpr _ rfl) rfl ⟨.node op t vk vn vs ks,i1,true,0,0,?_,_,rfl,⟨AX,cX,rfl,LFc.out.cap,F3.out⟩,F1.out,F2.out⟩
    have:=HRD.out
    cases this
    exact .ok _ _
  ·have HFIT:=hid hfit
   obtain ⟨x0,x1,x2,x3,x4,x5⟩:=six_of LF.out.box
   obtain ⟨z0,z1,z2,z3,z4,z5⟩:=six_of LF.out.res
   obtain ⟨y0,y1,y2,y3,y4,y5⟩:=frozen6 LF.out.res
   obtain ⟨wq,hwq⟩:∃ wq,wr=wq:=⟨_,rfl⟩
   subst hwq
   have FIN:=hid (set6Z_whole LF.out.res (.int .i64 op) (.string (tx t)) (.int .i64 vk) (.int .i64 vn) (.string (tx vs)) (.slice AX ks.length cX))
   have FT:=set6Z_touch wr w.heap.size (.int .i64 op) (.string (tx t)) (.int .i64 vk) (.int .i64 vn) (.string (tx vs)) (.slice AX ks.length cX)
   have F1:=hid (LF.out.p.new HB.out FT (Nat.le_refl _))
   have F2:=hid (LF.out.touch.trans FT (fun x hx=>.inr (by simp at hx; omega)))
   have F3:Hid (TreesIn (w.heap.size≤·) (set6Z wr w.heap.size (.int .i64 op) (.string (tx t)) (.int .i64 vk) (.int .i64 vn) (.string (tx vs)) (.slice AX ks.length cX)) AX 0 ks):=hid (LF.out.kids.moved fun q hq hlt=>⟨FT.block q hlt (by simp; omega),by omega⟩)
   have F4:Hid (ks.length≤cX):=hid LF.out.cap
   clear FT hfit
   go_wp2_with fail
   exact bodyPost_ret (results_two rfl _ _ w.heap.size _ _ _ _ rfl FIN.out Tryz.underlying26 rfl sizeExpr _ rfl) rfl ⟨_,_,_,_,_,HFIT.out,_,rfl,⟨AX,cX,rfl,F4.out,F3.out⟩,F1.out,F2.out⟩
end Go.Proofs.YteghhmomhlnccaaGreatDoor
