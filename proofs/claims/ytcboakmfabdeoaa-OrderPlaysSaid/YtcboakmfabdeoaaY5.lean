/- An inner node with its kids, and what two neighbouring kids become: plain facts. -/
import Derived.Test.YtcboakmfabdeoaaY4
namespace Go.Proofs.Ytcboakmfabdeoaa
open Go.RowKit

def ifp (p : Nat) (vp vk : Value) (ks : List Kid) : List Nat := p :: (rows vp vk ++ fpAll ks)

/-- an inner node, its kids trees. -/
structure Inn (t h : Nat) (w : World) (p : Nat) (vp vk : Value) (sz : Nat) (ps : List Pr) (ks : List Kid) : Prop where
  r : Rec w p vp vk sz
  pr : PRow w vp ps
  kr : KRow w vk ks
  len : ks.length = ps.length + 1
  hz : ∀ v ∈ ks, IsT t w h v ∧ t - 1 ≤ v.c
  nd : (ifp p vp vk ks).Nodup

structure Stepped (w W : World) (f f' : List Nat) : Prop where
  touch : Touch f w W
  own : ∀ b ∈ f', b ∈ f ∨ w.heap.size ≤ b

theorem Stepped.refl (w : World) (f : List Nat) : Stepped w w f f := ⟨Touch.refl _ _, fun _ h => .inl h⟩
theorem Stepped.trans {a b c : World} {f g k : List Nat} (h : Stepped a b f g) (h2 : Stepped b c g k) : Stepped a c f k :=
  ⟨h.touch.trans h2.touch h.own, fun x hx => by
    rcases h2.own x hx with e | e
    · exact h.own x e
    · exact .inr (Nat.le_trans h.touch.size e)⟩

theorem Good.mk' {t : Nat} {w : World} {h : Nat} {n : Nd} (ok : n.ok w) (f : n.fit t w h) (hs : n.sz = n.ps.length + total n.ks) : Good t w h n := ⟨ok, f, by rw [Nd.size_eq f]; exact hs⟩

theorem total_append (a b : List Kid) : total (a ++ b) = total a + total b := by simp [total]

/-- the parts of two neighbouring kids. -/
def Two (p : Nat) (vp vk : Value) (A B : Nd) : List Nat := p :: rows vp vk ++ (A.bs ++ B.bs)
def Beside (K1 K2 : List Kid) (A B : Nd) : List Nat := fpAll K1 ++ fpAll K2 ++ (fpAll A.ks ++ fpAll B.ks)

theorem Inn.perm {p : Nat} {vp vk : Value} {K1 K2 : List Kid} (h : Nat) (A B : Nd) : (ifp p vp vk (K1 ++ A.kid h :: B.kid h :: K2)).Perm (Two p vp vk A B ++ Beside K1 K2 A B) := by
  have f1 : fpAll (K1 ++ A.kid h :: B.kid h :: K2) = fpAll K1 ++ ((A.bs ++ fpAll A.ks) ++ ((B.bs ++ fpAll B.ks) ++ fpAll K2)) := by
    simp [fpAll, Nd.kid_fp]
  unfold ifp Two Beside
  rw [f1]
  exact List.perm_iff_count.2 (fun c => by simp only [List.count_append, List.count_cons]; omega)

theorem Inn.forest {t h : Nat} {w : World} {p : Nat} {vp vk : Value} {sz : Nat} {ps : List Pr} {K1 K2 : List Kid} {A B : Nd} (I : Inn t h w p vp vk sz ps (K1 ++ A.kid h :: B.kid h :: K2)) (GA : Good t w h A) (GB : Good t w h B) :
    Forest w (Two p vp vk A B) w [⟨p, vp, vk, sz, ps, K1 ++ A.kid h :: B.kid h :: K2⟩, A, B] := by
  have hnd := (Inn.perm h A B).nodup_iff.1 I.nd
  have e : [(⟨p, vp, vk, sz, ps, K1 ++ A.kid h :: B.kid h :: K2⟩ : Nd), A, B].flatMap Nd.bs = Two p vp vk A B := by simp [Two, Nd.bs]
  refine ⟨fun n hn => ?_, ?_, Touch.refl _ _, fun b hb => .inl (by rw [e] at hb; exact hb)⟩
  · simp at hn
    rcases hn with rfl | rfl | rfl
    · exact ⟨I.r, I.pr, I.kr⟩
    · exact GA.ok
    · exact GB.ok
  · rw [e]; exact (List.nodup_append.1 hnd).1

/-- kids that hang below two neighbours. -/
theorem Good.below {t : Nat} {w : World} {h : Nat} {n : Nd} (g : Good t w h n) : ∀ y ∈ n.ks, ∃ h', IsT t w h' y ∧ t - 1 ≤ y.c ∧ h = h' + 1 := fun y hy => by
  cases h with
  | zero => rw [g.fit.2] at hy; simp at hy
  | succ h => exact ⟨h, (g.fit.2 y hy).1, (g.fit.2 y hy).2, rfl⟩

theorem Inn.beside_lt {t h : Nat} {w : World} {p : Nat} {vp vk : Value} {sz : Nat} {ps : List Pr} {K1 K2 : List Kid} {A B : Nd} (I : Inn t h w p vp vk sz ps (K1 ++ A.kid h :: B.kid h :: K2)) : ∀ b ∈ Beside K1 K2 A B, b < w.heap.size := fun b hb => by
  have hm : b ∈ ifp p vp vk (K1 ++ A.kid h :: B.kid h :: K2) := (Inn.perm h A B).mem_iff.2 (List.mem_append.2 (.inr hb))
  rcases List.mem_cons.1 hm with e | e
  · rw [e]; exact (Array.getElem?_eq_some_iff.1 I.r).1
  · rcases List.mem_append.1 e with e | e
    · rcases mem_rows.1 e with e | e
      · exact I.pr.lt e
      · exact (World.ownsRow.lt I.kr b e).2
    · obtain ⟨v, hv, hb⟩ := mem_fpAll.1 e
      exact (I.hz v hv).1.lt b hb

theorem Inn.hang {t h : Nat} {w : World} {p : Nat} {vp vk : Value} {sz : Nat} {ps : List Pr} {K1 K2 : List Kid} {A B : Nd} (I : Inn t h w p vp vk sz ps (K1 ++ A.kid h :: B.kid h :: K2)) (GA : Good t w h A) (GB : Good t w h B) : Hang (Two p vp vk A B) w (A.ks ++ B.ks) := fun z hz => by
  have hnd := List.nodup_append.1 ((Inn.perm h A B).nodup_iff.1 I.nd)
  obtain ⟨h', hz', _⟩ : ∃ h', IsT t w h' z ∧ True := by
    rcases List.mem_append.1 hz with e | e
    · obtain ⟨h', e1, _⟩ := GA.below z e
      exact ⟨h', e1, trivial⟩
    · obtain ⟨h', e1, _⟩ := GB.below z e
      exact ⟨h', e1, trivial⟩
  have hm : z.p ∈ Beside K1 K2 A B := by
    unfold Beside
    rcases List.mem_append.1 hz with e | e
    · exact List.mem_append.2 (.inr (List.mem_append.2 (.inl (mem_fpAll.2 ⟨z, e, hz'.p_mem⟩))))
    · exact List.mem_append.2 (.inr (List.mem_append.2 (.inr (mem_fpAll.2 ⟨z, e, hz'.p_mem⟩))))
  exact ⟨fun e => hnd.2.2 z.p e z.p hm rfl, hz'.record⟩

theorem Forest.left {w0 w : World} {F : List Nat} {L : List Nd} {x : Nd} (H : Forest w0 F w (L ++ [x])) : Forest w0 F w L := by
  have e : (L ++ [x]).flatMap Nd.bs = L.flatMap Nd.bs ++ x.bs := by simp
  have hn := H.nd
  rw [e] at hn
  exact ⟨fun n hn => H.ok n (by simp [hn]), (List.nodup_append.1 hn).1, H.touch, fun b hb => H.own b (by rw [e]; simp only [List.mem_append]; exact .inl hb)⟩

/-- Two neighbours have become one or two others: the node anew. -/
theorem Inn.after {t h : Nat} {w W : World} {p : Nat} {vp vk vp' vk' : Value} {sz : Nat} {ps ps' : List Pr} {K1 K2 ks' : List Kid} {A B : Nd} {N : List Nd} (I : Inn t h w p vp vk sz ps (K1 ++ A.kid h :: B.kid h :: K2))
    (H : Forest w (Two p vp vk A B) W (⟨p, vp', vk', sz, ps', ks'⟩ :: N)) (hptr : ptrs ks' = ptrs (K1 ++ (N.map (Nd.kid h) ++ K2))) (hg : ∀ n ∈ N, Good t W h n ∧ t - 1 ≤ n.ps.length)
    (hS : (N.flatMap fun n => fpAll n.ks).Perm (fpAll A.ks ++ fpAll B.ks)) (hlen : (K1 ++ (N.map (Nd.kid h) ++ K2)).length = ps'.length + 1) :
    Inn t h W p vp' vk' sz ps' (K1 ++ (N.map (Nd.kid h) ++ K2)) ∧ Stepped w W (ifp p vp vk (K1 ++ A.kid h :: B.kid h :: K2)) (ifp p vp' vk' (K1 ++ (N.map (Nd.kid h) ++ K2))) := by
  have hperm := Inn.perm (p := p) (vp := vp) (vk := vk) (K1 := K1) (K2 := K2) h A B
  have hnd := List.nodup_append.1 (hperm.nodup_iff.1 I.nd)
  have hlt := I.beside_lt
  have okP := H.ok _ (List.mem_cons_self)
  have f2 : fpAll (K1 ++ (N.map (Nd.kid h) ++ K2)) = fpAll K1 ++ ((N.flatMap fun n => n.bs ++ fpAll n.ks) ++ fpAll K2) := by
    simp [fpAll, List.flatMap_map, Nd.kid_fp]
  have f3 : (N.flatMap fun n => n.bs ++ fpAll n.ks).Perm (N.flatMap Nd.bs ++ N.flatMap fun n => fpAll n.ks) := by
    clear hg hlen hptr hS H okP f2
    induction N with
    | nil => simp
    | cons n N ih =>
      simp only [List.flatMap_cons]
      refine ((List.Perm.append_left _ ih).trans ?_)
      exact List.perm_iff_count.2 (fun c => by simp only [List.count_append]; omega)
  have hnew : (ifp p vp' vk' (K1 ++ (N.map (Nd.kid h) ++ K2))).Perm ((p :: rows vp' vk' ++ N.flatMap Nd.bs) ++ Beside K1 K2 A B) := by
    unfold ifp Beside
    rw [f2]
    have q := (f3.trans (List.Perm.append_left _ hS))
    have q2 := List.perm_iff_count.1 q
    exact List.perm_iff_count.2 (fun c => by have := q2 c; simp only [List.count_append, List.count_cons] at this ⊢; omega)
  have eL : ((⟨p, vp', vk', sz, ps', ks'⟩ : Nd) :: N).flatMap Nd.bs = p :: rows vp' vk' ++ N.flatMap Nd.bs := by simp [Nd.bs]
  have own := H.own
  have nd := H.nd
  rw [eL] at own nd
  have keep : ∀ v, v ∈ K1 ∨ v ∈ K2 → IsT t W h v ∧ t - 1 ≤ v.c := fun v hv => by
    have hv2 : v ∈ K1 ++ A.kid h :: B.kid h :: K2 := by rcases hv with e | e <;> simp [e]
    refine ⟨(I.hz v hv2).1.touch H.touch (fun b hb hm => hnd.2.2 b hm b ?_ rfl), (I.hz v hv2).2⟩
    unfold Beside
    simp only [List.mem_append]
    rcases hv with e | e
    · exact .inl (.inl (mem_fpAll.2 ⟨v, e, hb⟩))
    · exact .inl (.inr (mem_fpAll.2 ⟨v, e, hb⟩))
  refine ⟨⟨okP.r, okP.pr, KRow.ptrs_eq okP.kr hptr, hlen, fun v hv => ?_, ?_⟩, ⟨?_, fun b hb => ?_⟩⟩
  · simp only [List.mem_append, List.mem_map] at hv
    rcases hv with e | ⟨n, hn, rfl⟩ | e
    · exact keep v (.inl e)
    · exact ⟨(hg n hn).1.isT, by rw [Nd.kid_c]; exact (hg n hn).2⟩
    · exact keep v (.inr e)
  · refine hnew.nodup_iff.2 (List.nodup_append.2 ⟨nd, hnd.2.1, fun a ha b hb e => ?_⟩)
    subst e
    rcases own a ha with e1 | e1
    · exact hnd.2.2 a e1 a hb rfl
    · have := hlt a hb; omega
  · exact H.touch.mono (fun b hb => .inl (hperm.mem_iff.2 (List.mem_append.2 (.inl hb))))
  · rcases List.mem_append.1 (hnew.mem_iff.1 hb) with e | e
    · rcases own b e with e1 | e1
      · exact .inl (hperm.mem_iff.2 (List.mem_append.2 (.inl e1)))
      · exact .inr e1
    · exact .inl (hperm.mem_iff.2 (List.mem_append.2 (.inr e)))
end Go.Proofs.Ytcboakmfabdeoaa
