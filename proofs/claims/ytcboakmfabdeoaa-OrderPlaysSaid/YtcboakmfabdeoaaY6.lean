/- shiftUp, shiftDown and merge, told of an inner node. -/
import Derived.Test.YtcboakmfabdeoaaY5
namespace Go.Proofs.Ytcboakmfabdeoaa
open Go.RowKit

/-- the list depends on the rows alone. -/
theorem Nd.kid_l {h : Nat} {n n' : Nd} (h1 : n.ps = n'.ps) (h2 : n.ks = n'.ks) : (n.kid h).l = (n'.kid h).l := by
  cases h with
  | zero => exact h1
  | succ h => show join (n.ks.map Kid.l) n.ps = join (n'.ks.map Kid.l) n'.ps; rw [h1, h2]

/-- a node's last pair, and its last kid, if it has kids. -/
theorem Good.last {t : Nat} {w : World} {h : Nat} {n : Nd} (g : Good t w h n) (hc : 0 < n.ps.length) :
    ∃ psa q ysa cl cs, n.ps = psa ++ [q] ∧ n.ks = ysa ++ cl ∧ (n.kid h).l = (Nd.kid h { n with ps := psa, ks := ysa }).l ++ q :: cs ∧ cs = cl.flatMap Kid.l ∧
      ((h = 0 ∧ n.vk = .slice none 0 0 ∧ ysa = [] ∧ cl = []) ∨ ∃ z h', h = h' + 1 ∧ cl = [z] ∧ ysa.length = psa.length + 1) := by
  obtain ⟨psa, q, e⟩ : ∃ psa q, n.ps = psa ++ [q] := ⟨n.ps.dropLast, n.ps.getLast (by intro e; rw [e] at hc; simp at hc), (List.dropLast_concat_getLast _).symm⟩
  cases h with
  | zero =>
    obtain ⟨f1, f2⟩ := g.fit
    exact ⟨psa, q, [], [], [], e, by rw [f2]; rfl, by simp [Nd.kid, e], rfl, .inl ⟨rfl, f1, rfl, rfl⟩⟩
  | succ h =>
    obtain ⟨f1, f2⟩ := g.fit
    have hk : n.ks ≠ [] := by intro e2; rw [e2] at f1; simp at f1
    have e3 : n.ks = n.ks.dropLast ++ [n.ks.getLast hk] := (List.dropLast_concat_getLast hk).symm
    have hl : n.ks.dropLast.length = psa.length + 1 := by rw [List.length_dropLast, f1, e]; simp
    refine ⟨psa, q, n.ks.dropLast, [n.ks.getLast hk], _, e, e3, ?_, rfl, .inr ⟨_, h, rfl, rfl, hl⟩⟩
    show join (n.ks.map Kid.l) n.ps = join (n.ks.dropLast.map Kid.l) psa ++ q :: _
    have e4 : n.ks.map Kid.l = n.ks.dropLast.map Kid.l ++ [(n.ks.getLast hk).l] := by
      have := congrArg (List.map Kid.l) e3
      simpa using this
    rw [e4, e, join_cut psa _ q [(n.ks.getLast hk).l] [] (by simpa using hl) rfl]
    simp [join, joinR]

/-- a node's first pair, and its first kid, if it has kids. -/
theorem Good.first {t : Nat} {w : World} {h : Nat} {n : Nd} (g : Good t w h n) (hc : 0 < n.ps.length) :
    ∃ psb q ysb cl cs, n.ps = q :: psb ∧ n.ks = cl ++ ysb ∧ (n.kid h).l = cs ++ q :: (Nd.kid h { n with ps := psb, ks := ysb }).l ∧ cs = cl.flatMap Kid.l ∧
      ((h = 0 ∧ n.vk = .slice none 0 0 ∧ ysb = [] ∧ cl = []) ∨ ∃ z h', h = h' + 1 ∧ cl = [z] ∧ ysb.length = psb.length + 1) := by
  obtain ⟨q, psb, e⟩ : ∃ q psb, n.ps = q :: psb := by
    cases e : n.ps with
    | nil => rw [e] at hc; simp at hc
    | cons q r => exact ⟨q, r, rfl⟩
  cases h with
  | zero =>
    obtain ⟨f1, f2⟩ := g.fit
    exact ⟨psb, q, [], [], [], e, by rw [f2]; rfl, by simp [Nd.kid, e], rfl, .inl ⟨rfl, f1, rfl, rfl⟩⟩
  | succ h =>
    obtain ⟨f1, f2⟩ := g.fit
    obtain ⟨z, ysb, e3⟩ : ∃ z ysb, n.ks = z :: ysb := by
      cases e3 : n.ks with
      | nil => rw [e3] at f1; simp at f1
      | cons q r => exact ⟨q, r, rfl⟩
    have hl : ysb.length = psb.length + 1 := by rw [e3, e] at f1; simpa using f1
    refine ⟨psb, q, ysb, [z], _, e, e3, ?_, rfl, .inr ⟨z, h, rfl, rfl, hl⟩⟩
    show join (n.ks.map Kid.l) n.ps = _ ++ q :: join (ysb.map Kid.l) psb
    have e4 : n.ks.map Kid.l = [z.l] ++ ysb.map Kid.l := by rw [e3]; simp
    rw [e4, e, show q :: psb = [] ++ q :: psb from rfl, join_cut [] [z.l] q _ psb rfl (by simpa using hl)]
    simp [join, joinR]

/-- a node with one pair more behind, and one kid. -/
theorem Nd.kid_snoc {h : Nat} (n : Nd) (m : Pr) (cl : List Kid) (hk : (h = 0 ∧ n.ks = [] ∧ cl = []) ∨ ∃ z h', h = h' + 1 ∧ cl = [z] ∧ n.ks.length = n.ps.length + 1) :
    (Nd.kid h { n with ps := n.ps ++ [m], ks := n.ks ++ cl }).l = (n.kid h).l ++ m :: cl.flatMap Kid.l := by
  rcases hk with ⟨rfl, e1, rfl⟩ | ⟨z, h', rfl, rfl, hl⟩
  · simp [Nd.kid]
  · show join ((n.ks ++ [z]).map Kid.l) (n.ps ++ [m]) = join (n.ks.map Kid.l) n.ps ++ m :: _
    rw [List.map_append, join_cut n.ps (n.ks.map Kid.l) m ([z].map Kid.l) [] (by simpa using hl) rfl]
    simp [join, joinR]

/-- a node with one pair more ahead, and one kid. -/
theorem Nd.kid_cons {h : Nat} (n : Nd) (m : Pr) (cl : List Kid) (hk : (h = 0 ∧ n.ks = [] ∧ cl = []) ∨ ∃ z h', h = h' + 1 ∧ cl = [z] ∧ n.ks.length = n.ps.length + 1) :
    (Nd.kid h { n with ps := m :: n.ps, ks := cl ++ n.ks }).l = cl.flatMap Kid.l ++ m :: (n.kid h).l := by
  rcases hk with ⟨rfl, e1, rfl⟩ | ⟨z, h', rfl, rfl, hl⟩
  · simp [Nd.kid]
  · show join (([z] ++ n.ks).map Kid.l) (m :: n.ps) = _ ++ m :: join (n.ks.map Kid.l) n.ps
    rw [List.map_append, show m :: n.ps = [] ++ m :: n.ps from rfl, join_cut [] ([z].map Kid.l) m (n.ks.map Kid.l) n.ps rfl (by simpa using hl)]
    simp [join, joinR]

/-- two nodes in one. -/
theorem Nd.kid_merge {h : Nat} (a b : Nd) (m : Pr) (n : Nd) (h1 : n.ps = a.ps ++ m :: b.ps) (h2 : n.ks = a.ks ++ b.ks) (hk : (h = 0) ∨ ∃ h', h = h' + 1 ∧ a.ks.length = a.ps.length + 1 ∧ b.ks.length = b.ps.length + 1) :
    (n.kid h).l = (a.kid h).l ++ m :: (b.kid h).l := by
  rcases hk with rfl | ⟨h', rfl, e1, e2⟩
  · simp [Nd.kid, h1]
  · show join (n.ks.map Kid.l) n.ps = join (a.ks.map Kid.l) a.ps ++ m :: join (b.ks.map Kid.l) b.ps
    rw [h1, h2, List.map_append, join_cut _ _ _ _ _ (by simpa using e1) (by simpa using e2)]

theorem Good.keep {t : Nat} {w W : World} {h : Nat} {F : List Nat} {p : Nat} {vp vk : Value} {sz : Nat} {ps : List Pr} {K1 K2 : List Kid} {A B : Nd} (I : Inn t h w p vp vk sz ps (K1 ++ A.kid h :: B.kid h :: K2)) (GA : Good t w h A) (GB : Good t w h B) (T : Touch (Two p vp vk A B) w W) :
    ∀ y ∈ A.ks ++ B.ks, ∀ h', h = h' + 1 → IsT t W h' y ∧ t - 1 ≤ y.c := fun y hy h' e => by
  subst e
  have hnd := List.nodup_append.1 ((Inn.perm (h' + 1) A B).nodup_iff.1 I.nd)
  have q : IsT t w h' y ∧ t - 1 ≤ y.c := by
    rcases List.mem_append.1 hy with e | e
    · exact GA.fit.2 y e
    · exact GB.fit.2 y e
  refine ⟨q.1.touch T (fun b hb hm => hnd.2.2 b hm b ?_ rfl), q.2⟩
  unfold Beside
  rcases List.mem_append.1 hy with e | e
  · exact List.mem_append.2 (.inr (List.mem_append.2 (.inl (mem_fpAll.2 ⟨y, e, hb⟩))))
  · exact List.mem_append.2 (.inr (List.mem_append.2 (.inr (mem_fpAll.2 ⟨y, e, hb⟩))))

/-- what two neighbours, the pair between them turned, have become. -/
def Shifted (t h : Nat) (w : World) (p : Nat) (vp vk : Value) (sz : Nat) (P1 P2 : List Pr) (K1 K2 : List Kid) (a b : Kid) (m : Pr) (up : Bool) (W : World) : Prop :=
  ∃ vp' vk' a' b' q cs, Inn t h W p vp' vk' sz (P1 ++ q :: P2) (K1 ++ a' :: b' :: K2) ∧ Stepped w W (ifp p vp vk (K1 ++ a :: b :: K2)) (ifp p vp' vk' (K1 ++ a' :: b' :: K2)) ∧
    (up = true → a.l = a'.l ++ q :: cs ∧ b'.l = cs ++ m :: b.l ∧ b'.c = b.c + 1) ∧ (up = false → a'.l = a.l ++ m :: cs ∧ b.l = cs ++ q :: b'.l ∧ a'.c = a.c + 1)

theorem PRow.slice_of {w : World} {v : Value} {l : List Pr} (h : PRow w v l) (hl : 0 < l.length) : ∃ g cap, v = .slice (some ⟨g, 0, none⟩) l.length cap := by
  obtain ⟨g, cap, e, _⟩ := h.own (by intro e; rw [e] at hl; simp at hl)
  exact ⟨g, cap, e⟩
theorem KRow.slice_of {w : World} {v : Value} {l : List Kid} (h : KRow w v l) (hl : 0 < l.length) : ∃ g cap, v = .slice (some ⟨g, 0, none⟩) l.length cap := by
  obtain ⟨g, cap, e, _⟩ := h.own (by intro e; rw [e] at hl; simp at hl)
  exact ⟨g, cap, e⟩

theorem Inn.shiftUp {t h : Nat} {w : World} {p : Nat} {vp vk : Value} {sz : Nat} {P1 P2 : List Pr} {K1 K2 : List Kid} {a b : Kid} {m : Pr} (I : Inn t h w p vp vk sz (P1 ++ m :: P2) (K1 ++ a :: b :: K2)) (i : Nat) (h1 : P1.length = i) (h2 : K1.length = i) (ht : 2 ≤ t) (ha : t ≤ a.c) (hn : (P1 ++ m :: P2).length ≤ 500000) (hl : a.l.length + b.l.length ≤ 500000) :
    Calls Try.prog 66 #[.pointer (some ⟨p, 0, none⟩), .int .i64 i] w fun e w' => e = .returned (.tuple #[]) ∧ Shifted t h w p vp vk sz P1 P2 K1 K2 a b m true w' := by
  obtain ⟨A, rfl, GA⟩ := (I.hz a (by simp)).1.good
  obtain ⟨B, rfl, GB⟩ := (I.hz b (by simp)).1.good
  have hB := (I.hz (B.kid h) (by simp)).2
  have F0 := I.forest GA GB
  have HH := I.hang GA GB
  rw [Nd.kid_c] at ha hB
  have sA := Nd.size_eq GA.fit
  have sB := Nd.size_eq GB.fit
  obtain ⟨psa, q, ysa, cl, cs, eA1, eA2, eA3, eA4, hcase⟩ := GA.last (by omega)
  have lenA : A.ps.length = psa.length + 1 := by rw [eA1]; simp
  obtain ⟨gp, cp, hvp⟩ := PRow.slice_of I.pr (by simp; omega)
  obtain ⟨bk, ck, hvk⟩ := KRow.slice_of I.kr (by simp; omega)
  obtain ⟨ga, ca, hva⟩ := PRow.slice_of GA.ok.pr (by omega)
  obtain ⟨gb, cb, hvb⟩ := PRow.slice_of GB.ok.pr (by omega)
  subst hvp
  subst hvk
  obtain ⟨ap, va, ka, sa, psA, ksA⟩ := A
  obtain ⟨bp, vb, kb, sb, psB, ksB⟩ := B
  dsimp only at *
  subst eA1
  subst eA2
  subst hva
  subst hvb
  have hlenI := I.len
  have key := shiftUp_any i p gp _ cp bk _ ck sz ga _ ca sa sb _ w P1 P2 psa psB K1 K2 ysa cl ksB (Nd.kid h ⟨ap, _, ka, sa, psa ++ [q], ysa ++ cl⟩) (Nd.kid h ⟨bp, _, kb, sb, psB, ksB⟩) m q (some ⟨gb, 0, none⟩) _ cb ka kb
    (by rw [Nd.kid_p, Nd.kid_p]; exact F0) h1 h2 rfl rfl (by simp) (by simpa using HH) (by
      simp only [total_append] at sA ⊢
      omega) (by
      rcases hcase with ⟨rfl, e1, e2, e3⟩ | ⟨z, h', rfl, e2, e3⟩
      · exact .inl ⟨e1, GB.fit.1, e2, e3, GB.fit.2⟩
      · refine .inr ⟨z, e2, ?_, e3, ?_⟩
        · have := GB.fit.1
          simp only at this
          intro e4; rw [e4] at this; simp at this
        · have := GB.fit.1
          simp only at this
          omega) hn (by rw [hlenI]; omega) (by omega) (by omega)
  rw [Nd.kid_p, Nd.kid_p] at key
  refine key.mono ?_
  rintro e W ⟨rfl, vA, kA, vB, kB, FF, hkA, hkB⟩
  have keep := Good.keep (F := []) I GA GB FF.touch
  have gA : Good t W h ⟨ap, vA, kA, psa.length + total ysa, psa, ysa⟩ := by
    refine Good.mk' (FF.ok _ (by simp)) ?_ rfl
    rcases hcase with ⟨rfl, e1, e2, e3⟩ | ⟨z, h', rfl, e2, e3⟩
    · exact ⟨hkA e2, e2⟩
    · exact ⟨e3, fun y hy => keep y (by simp [hy]) h' rfl⟩
  have gB : Good t W h ⟨bp, vB, kB, (m :: psB).length + total (cl ++ ksB), m :: psB, cl ++ ksB⟩ := by
    refine Good.mk' (FF.ok _ (by simp)) ?_ rfl
    rcases hcase with ⟨rfl, e1, e2, e3⟩ | ⟨z, h', rfl, e2, e3⟩
    · have e4 : ksB = [] := GB.fit.2
      have : cl ++ ksB = [] := by rw [e3, e4]; rfl
      exact ⟨hkB this, this⟩
    · refine ⟨?_, fun y hy => keep y ?_ h' rfl⟩
      · have := GB.fit.1
        simp only at this
        rw [e2]; simp [this]
      · simp only [List.mem_append] at hy ⊢
        rcases hy with e | e
        · exact .inl (.inr e)
        · exact .inr e
  obtain ⟨r1, r2⟩ := Inn.after (N := [⟨ap, vA, kA, psa.length + total ysa, psa, ysa⟩, ⟨bp, vB, kB, (m :: psB).length + total (cl ++ ksB), m :: psB, cl ++ ksB⟩]) I FF (by simp [ptrs, Nd.kid_p]) (by
      intro n hn2
      simp only [List.mem_cons, List.not_mem_nil, or_false] at hn2
      rcases hn2 with rfl | rfl
      · exact ⟨gA, by show t - 1 ≤ psa.length; omega⟩
      · exact ⟨gB, by show t - 1 ≤ (m :: psB).length; simp; omega⟩) (by
      refine List.perm_iff_count.2 (fun c => ?_)
      simp [fpAll]) (by simp at hlenI ⊢; omega)
  refine ⟨rfl, _, _, _, _, q, cs, r1, r2, fun _ => ⟨eA3.trans (congrArg (· ++ q :: cs) (Nd.kid_l rfl rfl)), ?_, ?_⟩, fun e => by cases e⟩
  · rw [eA4]
    have e5 := Nd.kid_cons (h := h) ⟨bp, .slice (some ⟨gb, 0, none⟩) psB.length cb, kb, sb, psB, ksB⟩ m cl (by
      rcases hcase with ⟨rfl, e1, e2, e3⟩ | ⟨z, h', rfl, e2, e3⟩
      · exact .inl ⟨rfl, GB.fit.2, e3⟩
      · exact .inr ⟨z, h', rfl, e2, GB.fit.1⟩)
    refine Eq.trans ?_ e5
    exact Nd.kid_l rfl rfl
  · rw [Nd.kid_c, Nd.kid_c]; rfl

theorem Inn.shiftDown {t h : Nat} {w : World} {p : Nat} {vp vk : Value} {sz : Nat} {P1 P2 : List Pr} {K1 K2 : List Kid} {a b : Kid} {m : Pr} (I : Inn t h w p vp vk sz (P1 ++ m :: P2) (K1 ++ a :: b :: K2)) (i : Nat) (h1 : P1.length = i) (h2 : K1.length = i) (ht : 2 ≤ t) (hb : t ≤ b.c) (hn : (P1 ++ m :: P2).length ≤ 500000) (hl : a.l.length + b.l.length ≤ 499999) :
    Calls Try.prog 67 #[.pointer (some ⟨p, 0, none⟩), .int .i64 i] w fun e w' => e = .returned (.tuple #[]) ∧ Shifted t h w p vp vk sz P1 P2 K1 K2 a b m false w' := by
  obtain ⟨A, rfl, GA⟩ := (I.hz a (by simp)).1.good
  obtain ⟨B, rfl, GB⟩ := (I.hz b (by simp)).1.good
  have hA := (I.hz (A.kid h) (by simp)).2
  have F0 := I.forest GA GB
  have HH := I.hang GA GB
  rw [Nd.kid_c] at hb hA
  have sA := Nd.size_eq GA.fit
  have sB := Nd.size_eq GB.fit
  obtain ⟨psb, q, ysb, cl, cs, eB1, eB2, eB3, eB4, hcase⟩ := GB.first (by omega)
  have lenB : B.ps.length = psb.length + 1 := by rw [eB1]; simp
  obtain ⟨gp, cp, hvp⟩ := PRow.slice_of I.pr (by simp; omega)
  obtain ⟨bk, ck, hvk⟩ := KRow.slice_of I.kr (by simp; omega)
  obtain ⟨ga, ca, hva⟩ := PRow.slice_of GA.ok.pr (by omega)
  obtain ⟨gb, cb, hvb⟩ := PRow.slice_of GB.ok.pr (by omega)
  subst hvp
  subst hvk
  obtain ⟨ap, va, ka, sa, psA, ksA⟩ := A
  obtain ⟨bp, vb, kb, sb, psB, ksB⟩ := B
  dsimp only at *
  subst eB1
  subst eB2
  subst hva
  subst hvb
  have hlenI := I.len
  have key := shiftDown_any i p gp _ cp bk _ ck sz ga _ ca gb _ cb sa sb _ w P1 P2 psA psb K1 K2 ksA cl ysb (Nd.kid h ⟨ap, _, ka, sa, psA, ksA⟩) (Nd.kid h ⟨bp, _, kb, sb, q :: psb, cl ++ ysb⟩) m q ka kb
    (by rw [Nd.kid_p, Nd.kid_p]; exact F0) h1 h2 rfl rfl rfl (by omega) (by simp) (by simpa using HH) (by
      simp only [total_append] at sB ⊢
      omega) (by
      rcases hcase with ⟨rfl, e1, e2, e3⟩ | ⟨z, h', rfl, e2, e3⟩
      · exact .inl ⟨GA.fit.1, e1, GA.fit.2, e3, e2⟩
      · have e4 := GA.fit.1
        simp only at e4
        refine .inr ⟨z, e2, ?_, ?_, by omega, by omega⟩
        · intro e5; rw [e5] at e4; simp at e4
        · intro e5; rw [e5] at e3; simp at e3) hn (by rw [hlenI]; omega) (by omega) (by omega)
  rw [Nd.kid_p, Nd.kid_p] at key
  refine key.mono ?_
  rintro e W ⟨rfl, vA, kA, vB, kB, FF, hkA, hkB⟩
  have keep := Good.keep (F := []) I GA GB FF.touch
  have gA : Good t W h ⟨ap, vA, kA, (psA ++ [m]).length + total (ksA ++ cl), psA ++ [m], ksA ++ cl⟩ := by
    refine Good.mk' (FF.ok _ (by simp)) ?_ rfl
    rcases hcase with ⟨rfl, e1, e2, e3⟩ | ⟨z, h', rfl, e2, e3⟩
    · have e4 : ksA = [] := GA.fit.2
      have : ksA ++ cl = [] := by rw [e3, e4]; rfl
      exact ⟨hkA this, this⟩
    · refine ⟨?_, fun y hy => keep y ?_ h' rfl⟩
      · have := GA.fit.1
        simp only at this
        rw [e2]; simp [this]
      · simp only [List.mem_append] at hy ⊢
        rcases hy with e | e
        · exact .inl e
        · exact .inr (.inl e)
  have gB : Good t W h ⟨bp, vB, kB, psb.length + total ysb, psb, ysb⟩ := by
    refine Good.mk' (FF.ok _ (by simp)) ?_ rfl
    rcases hcase with ⟨rfl, e1, e2, e3⟩ | ⟨z, h', rfl, e2, e3⟩
    · exact ⟨hkB e2, e2⟩
    · exact ⟨e3, fun y hy => keep y (by simp [hy]) h' rfl⟩
  obtain ⟨r1, r2⟩ := Inn.after (N := [⟨ap, vA, kA, (psA ++ [m]).length + total (ksA ++ cl), psA ++ [m], ksA ++ cl⟩, ⟨bp, vB, kB, psb.length + total ysb, psb, ysb⟩]) I FF (by simp [ptrs, Nd.kid_p]) (by
      intro n hn2
      simp only [List.mem_cons, List.not_mem_nil, or_false] at hn2
      rcases hn2 with rfl | rfl
      · exact ⟨gA, by show t - 1 ≤ (psA ++ [m]).length; simp; omega⟩
      · exact ⟨gB, by show t - 1 ≤ psb.length; omega⟩) (by
      refine List.perm_iff_count.2 (fun c => ?_)
      simp [fpAll]) (by simp at hlenI ⊢; omega)
  refine ⟨rfl, _, _, _, _, q, cs, r1, r2, (fun e => by cases e), fun _ => ⟨?_, eB3.trans (congrArg (cs ++ q :: ·) (Nd.kid_l rfl rfl)), ?_⟩⟩
  · rw [eB4]
    have e5 := Nd.kid_snoc (h := h) ⟨ap, .slice (some ⟨ga, 0, none⟩) psA.length ca, ka, sa, psA, ksA⟩ m cl (by
      rcases hcase with ⟨rfl, e1, e2, e3⟩ | ⟨z, h', rfl, e2, e3⟩
      · exact .inl ⟨rfl, GA.fit.2, e3⟩
      · exact .inr ⟨z, h', rfl, e2, GA.fit.1⟩)
    refine Eq.trans ?_ e5
    exact Nd.kid_l rfl rfl
  · rw [Nd.kid_c, Nd.kid_c]; simp

theorem own_some (g n c : Nat) : (Value.slice (some ⟨g, 0, none⟩) n c).ownBlock = some g := rfl

/-- what merge leaves behind. -/
def MergedI (t h : Nat) (w : World) (p : Nat) (vp vk : Value) (sz : Nat) (P1 P2 : List Pr) (K1 K2 : List Kid) (a b : Kid) (m : Pr) (W : World) : Prop :=
  ∃ vp' vk' y, Inn t h W p vp' vk' sz (P1 ++ P2) (K1 ++ y :: K2) ∧ Stepped w W (ifp p vp vk (K1 ++ a :: b :: K2)) (ifp p vp' vk' (K1 ++ y :: K2)) ∧ y.l = a.l ++ m :: b.l ∧ y.c = a.c + b.c + 1

theorem merge_good {t h : Nat} {w : World} {p gp cp bk ck sz ap ga ca sa bp gb cb sb : Nat} {ka kb : Value} {psA psB : List Pr} {ksA ksB : List Kid} {P1 P2 : List Pr} {K1 K2 : List Kid} {m : Pr} (xa xb : Kid) (kp : xa.p = ap) (kp2 : xb.p = bp) (hsA : sa = xa.l.length) (hsB : sb = xb.l.length)
    (F0 : Forest w (Two p (.slice (some ⟨gp, 0, none⟩) (P1 ++ m :: P2).length cp) (.slice (some ⟨bk, 0, none⟩) (K1 ++ xa :: xb :: K2).length ck) ⟨ap, .slice (some ⟨ga, 0, none⟩) psA.length ca, ka, sa, psA, ksA⟩ ⟨bp, .slice (some ⟨gb, 0, none⟩) psB.length cb, kb, sb, psB, ksB⟩) w [⟨p, .slice (some ⟨gp, 0, none⟩) (P1 ++ m :: P2).length cp, .slice (some ⟨bk, 0, none⟩) (K1 ++ xa :: xb :: K2).length ck, sz, P1 ++ m :: P2, K1 ++ xa :: xb :: K2⟩, ⟨ap, .slice (some ⟨ga, 0, none⟩) psA.length ca, ka, sa, psA, ksA⟩, ⟨bp, .slice (some ⟨gb, 0, none⟩) psB.length cb, kb, sb, psB, ksB⟩])
    (hlenI : (K1 ++ xa :: xb :: K2).length = (P1 ++ m :: P2).length + 1) (hcase : (ka = .slice none 0 0 ∧ kb = .slice none 0 0 ∧ ksA = [] ∧ ksB = []) ∨ (ksA ≠ [] ∧ ksB ≠ [])) (hkb : ksA.length + ksB.length ≤ 1000000) (hA : 0 < psA.length) (hps : psA.length + 1 + psB.length ≤ 500000)
    (i : Nat) (h1 : P1.length = i) (h2 : K1.length = i) (hn : (P1 ++ m :: P2).length ≤ 500000) (hl : xa.l.length + xb.l.length ≤ 499999) :
    Calls Try.prog 52 #[.pointer (some ⟨p, 0, none⟩), .int .i64 i] w fun e w' => e = .returned (.tuple #[]) ∧ ∃ g2 c2 qc, Forest w (Two p (.slice (some ⟨gp, 0, none⟩) (P1 ++ m :: P2).length cp) (.slice (some ⟨bk, 0, none⟩) (K1 ++ xa :: xb :: K2).length ck) ⟨ap, .slice (some ⟨ga, 0, none⟩) psA.length ca, ka, sa, psA, ksA⟩ ⟨bp, .slice (some ⟨gb, 0, none⟩) psB.length cb, kb, sb, psB, ksB⟩) w'
      [⟨p, .slice (some ⟨gp, 0, none⟩) ((P1 ++ m :: P2).length - 1) cp, .slice (some ⟨bk, 0, none⟩) ((K1 ++ xa :: xb :: K2).length - 1) ck, sz, P1 ++ P2, K1 ++ xa :: K2⟩, ⟨ap, .slice (some ⟨g2, 0, none⟩) (psA.length + 1 + psB.length) c2, qc, sa + 1 + sb, psA ++ m :: psB, ksA ++ ksB⟩] ∧ (ksA ++ ksB = [] → qc = .slice none 0 0) := by
  subst hsA hsB kp kp2
  have hnd := F0.nd
  have hnd2 := hnd
  have okP := F0.ok _ (List.mem_cons_self)
  have okA := F0.ok _ (List.mem_cons_of_mem _ List.mem_cons_self)
  have okB := F0.ok _ (List.mem_cons_of_mem _ (List.mem_cons_of_mem _ List.mem_cons_self))
  simp [Nd.bs, rows, own_some] at hnd
  obtain ⟨⟨d1, d2, d3, d4, d5, d6, d7, d8⟩, ⟨e1, e2, e3, e4, e5, e6, e7⟩, ⟨f1, f2, f3, f4, f5, f6⟩, ⟨g1, g2, g3, g4, g5⟩, ⟨j1, j2, j3, j4⟩, hrest⟩ := hnd
  have hq : ∀ g, ka.ownBlock = some g → g ≠ xa.p ∧ g ≠ xb.p ∧ g ≠ p ∧ g ≠ ga ∧ g < w.heap.size := fun g e => by
    have hr := (List.nodup_append.1 hrest).2.2 g (by simp [e])
    exact ⟨fun x => g2 (x ▸ e), hr xb.p (by simp), fun x => d5 (x ▸ e), fun x => j1 (x ▸ e), (World.ownsRow.lt okA.kr g e).2⟩
  have key := merge_any t h p i bk _ ck gp _ cp ga _ ca gb _ cb sz P1 P2 K1 K2 xa xb ka kb psA psB m w okP.r okP.pr okP.kr h2 h1 okA.r okB.r okA.pr okB.pr rfl rfl hA hps g1 (fun x => j2 x.symm) (fun x => j3 x.symm) d4 (fun x => g3 x.symm) d3 ksA ksB okA.kr okB.kr hcase hkb hq
    (fun g e => ⟨fun x => g5 (x ▸ e), fun x => j4 (x ▸ e)⟩) (by omega) (by omega) (by rw [hlenI]; omega) hn hnd2 rfl rfl
  refine key.mono ?_
  rintro e W ⟨rfl, gg, cc, qc, FF, hnil⟩
  refine ⟨rfl, gg, cc, qc, ?_, hnil⟩
  have FL := Forest.left (L := [_, _]) FF
  refine ⟨FL.ok, FL.nd, FL.touch.mono (fun b hb => .inl ?_), fun b hb => (FL.own b hb).imp (fun hb => ?_) id⟩
  · simp [mergeF, Two, Nd.bs, rows, own_some] at hb ⊢; exact hb
  · simp [mergeF, Two, Nd.bs, rows, own_some] at hb ⊢; exact hb

theorem Inn.merge {t h : Nat} {w : World} {p : Nat} {vp vk : Value} {sz : Nat} {P1 P2 : List Pr} {K1 K2 : List Kid} {a b : Kid} {m : Pr} (I : Inn t h w p vp vk sz (P1 ++ m :: P2) (K1 ++ a :: b :: K2)) (i : Nat) (h1 : P1.length = i) (h2 : K1.length = i) (ht : 2 ≤ t) (hn : (P1 ++ m :: P2).length ≤ 500000) (hl : a.l.length + b.l.length ≤ 499999) :
    Calls Try.prog 52 #[.pointer (some ⟨p, 0, none⟩), .int .i64 i] w fun e w' => e = .returned (.tuple #[]) ∧ MergedI t h w p vp vk sz P1 P2 K1 K2 a b m w' := by
  obtain ⟨A, rfl, GA⟩ := (I.hz a (by simp)).1.good
  obtain ⟨B, rfl, GB⟩ := (I.hz b (by simp)).1.good
  have hA := (I.hz (A.kid h) (by simp)).2
  have hB := (I.hz (B.kid h) (by simp)).2
  have F0 := I.forest GA GB
  rw [Nd.kid_c] at hB hA
  have sA := Nd.size_eq GA.fit
  have sB := Nd.size_eq GB.fit
  obtain ⟨gp, cp, hvp⟩ := PRow.slice_of I.pr (by simp; omega)
  obtain ⟨bk, ck, hvk⟩ := KRow.slice_of I.kr (by simp; omega)
  obtain ⟨ga, ca, hva⟩ := PRow.slice_of GA.ok.pr (by omega)
  obtain ⟨gb, cb, hvb⟩ := PRow.slice_of GB.ok.pr (by omega)
  subst hvp
  subst hvk
  obtain ⟨ap, va, ka, sa, psA, ksA⟩ := A
  obtain ⟨bp, vb, kb, sb, psB, ksB⟩ := B
  dsimp only at *
  subst hva
  subst hvb
  have hlenI := I.len
  have hcase : (ka = .slice none 0 0 ∧ kb = .slice none 0 0 ∧ ksA = [] ∧ ksB = []) ∨ (ksA ≠ [] ∧ ksB ≠ []) := by
    cases h with
    | zero => exact .inl ⟨GA.fit.1, GB.fit.1, GA.fit.2, GB.fit.2⟩
    | succ h =>
      have q1 := GA.fit.1
      have q2 := GB.fit.1
      simp only at q1 q2
      exact .inr ⟨fun e => by rw [e] at q1; simp at q1, fun e => by rw [e] at q2; simp at q2⟩
  have hkb : ksA.length + ksB.length ≤ 1000000 := by
    cases h with
    | zero =>
      have q1 : ksA = [] := GA.fit.2
      have q2 : ksB = [] := GB.fit.2
      rw [q1, q2]; simp
    | succ h =>
      have q1 := GA.fit.1
      have q2 := GB.fit.1
      simp only at q1 q2
      omega
  refine (merge_good (t := t) (h := h) _ _ (Nd.kid_p _ _) (Nd.kid_p _ _) GA.sz GB.sz F0 hlenI hcase hkb (by omega) (by omega) i h1 h2 hn hl).mono ?_
  rintro e W ⟨rfl, g2, c2, qc, FF, hnil⟩
  have keep := Good.keep (F := []) I GA GB FF.touch
  have gY : Good t W h ⟨ap, .slice (some ⟨g2, 0, none⟩) (psA.length + 1 + psB.length) c2, qc, sa + 1 + sb, psA ++ m :: psB, ksA ++ ksB⟩ := by
    have okY := FF.ok _ (List.mem_cons_of_mem _ List.mem_cons_self)
    refine Good.mk' okY ?_ ?_
    · cases h with
      | zero =>
        have q1 : ksA = [] := GA.fit.2
        have q2 : ksB = [] := GB.fit.2
        have q3 : ksA ++ ksB = [] := by rw [q1, q2]; rfl
        exact ⟨hnil q3, q3⟩
      | succ h =>
        refine ⟨?_, fun y hy => keep y hy h rfl⟩
        have q1 := GA.fit.1
        have q2 := GB.fit.1
        simp only at q1 q2
        simp; omega
    · have z1 := GA.sz
      have z2 := GB.sz
      simp only [total_append, List.length_append, List.length_cons]
      simp only at z1 z2
      omega
  obtain ⟨r1, r2⟩ := Inn.after (N := [⟨ap, .slice (some ⟨g2, 0, none⟩) (psA.length + 1 + psB.length) c2, qc, sa + 1 + sb, psA ++ m :: psB, ksA ++ ksB⟩]) I FF (by simp [ptrs, Nd.kid_p]) (by
      intro n hn2
      simp only [List.mem_cons, List.not_mem_nil, or_false] at hn2
      subst hn2
      exact ⟨gY, by show t - 1 ≤ (psA ++ m :: psB).length; simp; omega⟩) (by
      refine List.perm_iff_count.2 (fun c => ?_)
      simp [fpAll]) (by simp at hlenI ⊢; omega)
  refine ⟨rfl, _, _, _, r1, r2, ?_, ?_⟩
  · refine Nd.kid_merge _ _ m _ rfl rfl ?_
    cases h with
    | zero => exact .inl rfl
    | succ h => exact .inr ⟨h, rfl, GA.fit.1, GB.fit.1⟩
  · rw [Nd.kid_c, Nd.kid_c, Nd.kid_c]; simp; omega
end Go.Proofs.Ytcboakmfabdeoaa
