import Derived.Test.YthoihlebplmcoaaMP1
import Derived.WalkKit
import Derived.ProofKit
import Derived.OpenShut
import Derived.IntWalk
import Derived.Lib.Hide
import Derived.Below
import Derived.Laws.OwnMore
import Derived.Laws.BitsAll
import Derived.Laws.CopyOwn
import Derived.Deep.AppendLies
import Derived.Deep.Draws
import Derived.Deep.DeepCutAuto
import Derived.Handy

/- Plain: the register of the sum, bit by bit and byte by byte. -/
namespace Go.Proofs.Ythoihlebplmcoaa
/-- the polynomial's bits. -/
def poly : Nat := 3988292384
/-- the lowest bit falls out. -/
def stp (c : Nat) : Nat := if c % 2 = 1 then (c / 2) ^^^ poly else c / 2
/-- so many bits fall out. -/
def stps : Nat → Nat → Nat
  | 0, c => c
  | n + 1, c => stp (stps n c)
/-- the register behind bytes. -/
def reg (c : Nat) (l : List UInt8) : Nat := l.foldl (fun c b => stps 8 (c ^^^ b.toNat)) c
/-- the sum of bytes, behind a sum. -/
def sumOn (s : Nat) (l : List UInt8) : Nat := 4294967295 - reg (4294967295 - s) l

theorem poly_lt : poly < 2 ^ 32 := by decide
theorem xor_div2 (a b : Nat) : (a ^^^ b) / 2 = (a / 2) ^^^ (b / 2) := by
  have := Nat.shiftRight_xor_distrib (a := a) (b := b) (i := 1)
  simpa [Nat.shiftRight_eq_div_pow] using this
theorem xor_mod2 (a b : Nat) : (a ^^^ b) % 2 = (a % 2 + b % 2) % 2 := by
  have h := Nat.testBit_xor (x := a) (y := b) (i := 0)
  simp only [Nat.testBit_zero] at h
  rcases Nat.mod_two_eq_zero_or_one a with ha | ha <;> rcases Nat.mod_two_eq_zero_or_one b with hb | hb <;> rcases Nat.mod_two_eq_zero_or_one (a ^^^ b) with hc | hc <;> simp_all
theorem stp_lt {c : Nat} (h : c < 2 ^ 32) : stp c < 2 ^ 32 := by
  unfold stp
  split
  · exact Nat.xor_lt_two_pow (by omega) poly_lt
  · omega
theorem stps_lt {c : Nat} (h : c < 2 ^ 32) : ∀ n, stps n c < 2 ^ 32
  | 0 => h
  | n + 1 => stp_lt (stps_lt h n)
theorem stp_xor (a b : Nat) : stp (a ^^^ b) = stp a ^^^ stp b := by
  unfold stp
  rw [xor_mod2, xor_div2]
  rcases Nat.mod_two_eq_zero_or_one a with ha | ha <;> rcases Nat.mod_two_eq_zero_or_one b with hb | hb <;> simp [ha, hb]
  · rw [Nat.xor_assoc]
  · rw [Nat.xor_assoc, Nat.xor_assoc, Nat.xor_comm poly]
  · rw [Nat.xor_assoc, ← Nat.xor_assoc poly, Nat.xor_comm poly, Nat.xor_assoc, Nat.xor_self, Nat.xor_zero]
theorem stps_xor (a b : Nat) : ∀ n, stps n (a ^^^ b) = stps n a ^^^ stps n b
  | 0 => rfl
  | n + 1 => by simp only [stps]; rw [stps_xor a b n, stp_xor]
theorem stps_add (a : Nat) (n : Nat) : ∀ m, stps (m + n) a = stps m (stps n a)
  | 0 => by simp [stps]
  | m + 1 => by rw [show m + 1 + n = (m + n) + 1 by omega]; simp only [stps]; rw [stps_add a n m]
theorem stp_twice (a : Nat) : stp (2 * a) = a := by unfold stp; rw [if_neg (by omega)]; omega
theorem stps_high (a : Nat) : ∀ n, stps n (2 ^ n * a) = a
  | 0 => by simp [stps]
  | n + 1 => by
    rw [stps_add _ 1 n, show stps 1 (2 ^ (n + 1) * a) = 2 ^ n * a from ?_, stps_high a n]
    show stp (2 ^ (n + 1) * a) = _
    rw [show 2 ^ (n + 1) * a = 2 * (2 ^ n * a) by rw [Nat.pow_succ, Nat.mul_comm (2 ^ n) 2, Nat.mul_assoc], stp_twice]
/-- a number is its high bytes, turned by its low one. -/
theorem parts256 (x : Nat) : x = 2 ^ 8 * (x / 256) ^^^ x % 256 := by
  apply Nat.eq_of_testBit_eq
  intro i
  rw [Nat.testBit_xor, Nat.testBit_two_pow_mul, show (256 : Nat) = 2 ^ 8 by rfl, Nat.testBit_mod_two_pow, Nat.testBit_div_two_pow]
  by_cases h : i < 8
  · simp [h, Nat.not_le.2 h]
  · have h8 : 8 ≤ i := by omega
    simp [h, h8]
/-- a byte at a time: what stands above, turned by what the low byte comes to. -/
theorem stps8 (x : Nat) : stps 8 x = x / 256 ^^^ stps 8 (x % 256) := by
  conv => lhs; rw [parts256 x]
  rw [stps_xor, stps_high]
theorem stps8_byte (c b : Nat) (hb : b < 256) : stps 8 (c ^^^ b) = c / 256 ^^^ stps 8 ((c % 256) ^^^ b) := by
  have e1 : (c ^^^ b) / 256 = c / 256 := by
    have h := Nat.shiftRight_xor_distrib (a := c) (b := b) (i := 8)
    simp only [Nat.shiftRight_eq_div_pow] at h
    rw [show (256 : Nat) = 2 ^ 8 by rfl, h, show b / 2 ^ 8 = 0 by omega, Nat.xor_zero]
  have e2 : (c ^^^ b) % 256 = (c % 256) ^^^ b := by
    have h := Nat.xor_mod_two_pow (a := c) (b := b) (n := 8)
    rw [show (256 : Nat) = 2 ^ 8 by rfl, h, show b % 2 ^ 8 = b by omega]
  have e3 := stps8 (c ^^^ b)
  rw [e1, e2] at e3
  exact e3

theorem xor_right_cancel' {a b p : Nat} (h : a ^^^ p = b ^^^ p) : a = b := by
  have h2 : (a ^^^ p) ^^^ p = (b ^^^ p) ^^^ p := by rw [h]
  rwa [Nat.xor_assoc, Nat.xor_assoc, Nat.xor_self, Nat.xor_zero, Nat.xor_zero] at h2
theorem xor_left_cancel' {a b p : Nat} (h : p ^^^ a = p ^^^ b) : a = b := by
  rw [Nat.xor_comm p, Nat.xor_comm p] at h
  exact xor_right_cancel' h
theorem reg_nil (c : Nat) : reg c [] = c := rfl
theorem reg_cons (c : Nat) (b : UInt8) (l : List UInt8) : reg c (b :: l) = reg (stps 8 (c ^^^ b.toNat)) l := by simp only [reg, List.foldl_cons]
theorem reg_append (c : Nat) (l r : List UInt8) : reg c (l ++ r) = reg (reg c l) r := by simp [reg]
theorem byte_lt (b : UInt8) : b.toNat < 2 ^ 32 := by have := b.toNat_lt; omega
theorem reg_lt (l : List UInt8) : ∀ c, c < 2 ^ 32 → reg c l < 2 ^ 32 := by
  induction l with
  | nil => intro c h; exact h
  | cons b l ih => intro c h; rw [reg_cons]; exact ih _ (stps_lt (Nat.xor_lt_two_pow h (byte_lt b)) 8)
theorem sumOn_lt (s : Nat) (l : List UInt8) : sumOn s l < 2 ^ 32 := by unfold sumOn; omega
theorem sumOn_nil (s : Nat) (h : s < 2 ^ 32) : sumOn s [] = s := by unfold sumOn; rw [reg_nil]; omega
theorem sumOn_append (s : Nat) (l r : List UInt8) : sumOn (sumOn s l) r = sumOn s (l ++ r) := by
  unfold sumOn
  rw [reg_append]
  have := reg_lt l (4294967295 - s) (by omega)
  rw [show 4294967295 - (4294967295 - reg (4294967295 - s) l) = reg (4294967295 - s) l by omega]

/-- nothing that fell out is lost. -/
theorem stp_inj {a b : Nat} (ha : a < 2 ^ 32) (hb : b < 2 ^ 32) (h : stp a = stp b) : a = b := by
  have top : ∀ c, c < 2 ^ 32 → (stp c).testBit 31 = decide (c % 2 = 1) := by
    intro c hc
    unfold stp
    have h2 : (c / 2).testBit 31 = false := Nat.testBit_lt_two_pow (by omega)
    split
    · rename_i h1; rw [Nat.testBit_xor, h2, show poly.testBit 31 = true by decide]; simp [h1]
    · rename_i h1; rw [h2]; simp [h1]
  have h1 := top a ha
  have h2 := top b hb
  rw [h, h2] at h1
  have h3 : (b % 2 = 1) ↔ (a % 2 = 1) := by simpa using h1
  unfold stp at h
  by_cases ho : a % 2 = 1
  · rw [if_pos ho, if_pos (h3.2 ho)] at h
    have := xor_right_cancel' h
    have := h3.2 ho
    omega
  · have hn : ¬ b % 2 = 1 := fun x => ho (h3.1 x)
    rw [if_neg ho, if_neg hn] at h
    omega
theorem stps_inj {a b : Nat} (ha : a < 2 ^ 32) (hb : b < 2 ^ 32) : ∀ n, stps n a = stps n b → a = b
  | 0, h => h
  | n + 1, h => stps_inj ha hb n (stp_inj (stps_lt ha n) (stps_lt hb n) h)
theorem reg_inj (l : List UInt8) : ∀ {a b : Nat}, a < 2 ^ 32 → b < 2 ^ 32 → reg a l = reg b l → a = b := by
  induction l with
  | nil => intro a b _ _ h; exact h
  | cons x l ih =>
    intro a b ha hb h
    rw [reg_cons, reg_cons] at h
    have h1 := ih (stps_lt (Nat.xor_lt_two_pow ha (byte_lt x)) 8) (stps_lt (Nat.xor_lt_two_pow hb (byte_lt x)) 8) h
    have h2 := stps_inj (Nat.xor_lt_two_pow ha (byte_lt x)) (Nat.xor_lt_two_pow hb (byte_lt x)) 8 h1
    exact xor_right_cancel' h2
/-- one turned byte turns the register. -/
theorem reg_turned (c : Nat) (hc : c < 2 ^ 32) (l r : List UInt8) (x y : UInt8) (h : reg c (l ++ x :: r) = reg c (l ++ y :: r)) : x = y := by
  rw [reg_append, reg_append, reg_cons, reg_cons] at h
  have hl := reg_lt l c hc
  have h1 := reg_inj r (stps_lt (Nat.xor_lt_two_pow hl (byte_lt x)) 8) (stps_lt (Nat.xor_lt_two_pow hl (byte_lt y)) 8) h
  have h2 := stps_inj (Nat.xor_lt_two_pow hl (byte_lt x)) (Nat.xor_lt_two_pow hl (byte_lt y)) 8 h1
  exact UInt8.toNat_inj.1 (xor_left_cancel' h2)
theorem sum_turned (s : Nat) (l r : List UInt8) (x y : UInt8) (h : sumOn s (l ++ x :: r) = sumOn s (l ++ y :: r)) : x = y := by
  unfold sumOn at h
  have h1 := reg_lt (l ++ x :: r) (4294967295 - s) (by omega)
  have h2 := reg_lt (l ++ y :: r) (4294967295 - s) (by omega)
  exact reg_turned (4294967295 - s) (by omega) l r x y (by omega)

/-- bit by bit: the register with what is still to come of the byte. -/
def rbit (v k c : Nat) : Nat := if (c % 2 != (v / 2 ^ k) % 2) then (c / 2) ^^^ poly else c / 2
theorem rbit_step (c v k : Nat) : rbit v k (stps k (c ^^^ v) ^^^ v / 2 ^ k) = stps (k + 1) (c ^^^ v) ^^^ v / 2 ^ (k + 1) := by
  generalize hx : stps k (c ^^^ v) = x
  have hs : stps (k + 1) (c ^^^ v) = stp x := by simp only [stps]; rw [hx]
  rw [hs]
  generalize hv : v / 2 ^ k = u
  have hu : v / 2 ^ (k + 1) = u / 2 := by rw [← hv, Nat.pow_succ, Nat.div_div_eq_div_mul]
  rw [hu]
  unfold rbit
  rw [hv, xor_mod2, xor_div2]
  unfold stp
  rcases Nat.mod_two_eq_zero_or_one x with ha | ha <;> rcases Nat.mod_two_eq_zero_or_one u with hb | hb <;> simp [ha, hb]
  all_goals rw [Nat.xor_assoc, Nat.xor_comm (u / 2), Nat.xor_assoc]
theorem rbit_first (c v : Nat) : stps 0 (c ^^^ v) ^^^ v / 2 ^ 0 = c := by simp [stps, Nat.xor_assoc]
theorem rbit_last (c v : Nat) (h : v < 256) : stps 8 (c ^^^ v) ^^^ v / 2 ^ 8 = stps 8 (c ^^^ v) := by
  rw [show v / 2 ^ 8 = 0 by omega, Nat.xor_zero]
end Go.Proofs.Ythoihlebplmcoaa

/- Plain: how the table of low bytes fills. -/
namespace Go.Proofs.Ythoihlebplmcoaa

/-- right at all multiples of b. -/
def Good (b : Nat) (f : Nat → Nat) : Prop := (∀ x, x < 256 → f x < 4294967296) ∧ ∀ x, x < 256 → x % b = 0 → f x = stps 8 x
/-- right at all multiples of 2b, and at those of b below A. -/
def Mid (b A : Nat) (f : Nat → Nat) : Prop := (∀ x, x < 256 → f x < 4294967296) ∧ ∀ x, x < 256 → (x % (2 * b) = 0 ∨ (x % b = 0 ∧ x < A)) → f x = stps 8 x

theorem Good.first : Good 256 (fun _ => 0) := ⟨fun _ _ => Nat.zero_lt_succ _, fun x hx h => by
  obtain rfl : x = 0 := by omega
  decide⟩
theorem Good.last {f : Nat → Nat} (h : Good 1 f) : ∀ x, x < 256 → f x = stps 8 x := fun x hx => h.2 x hx (Nat.mod_one x)
theorem Good.mid {b : Nat} {f : Nat → Nat} (h : Good (2 * b) f) : Mid b 0 f := ⟨h.1, fun x hx hh => h.2 x hx (by omega)⟩
theorem Mid.good {b : Nat} {f : Nat → Nat} (h : Mid b 256 f) : Good b f := ⟨h.1, fun x hx hh => h.2 x hx (.inr ⟨hh, hx⟩)⟩
theorem join_xor : ∀ K : Fin 8, ∀ A : Fin 256, A.val % 2 ^ (K.val + 1) = 0 → A.val ^^^ 2 ^ K.val = A.val + 2 ^ K.val := by decide +kernel
theorem Mid.step {K A : Nat} {f : Nat → Nat} (hK : K < 8) (hA : A < 256) (hm : A % (2 * 2 ^ K) = 0) (h : Mid (2 ^ K) A f) :
    Mid (2 ^ K) (A + 2 * 2 ^ K) (fun x => if x = A + 2 ^ K then f A ^^^ stps 8 (2 ^ K) else f x) := by
  have hs : f A ^^^ stps 8 (2 ^ K) = stps 8 (A + 2 ^ K) := by
    rw [h.2 A hA (.inl hm), ← stps_xor]
    have := join_xor ⟨K, hK⟩ ⟨A, hA⟩ (by simp only; rw [Nat.pow_succ, Nat.mul_comm]; exact hm)
    simp only at this
    rw [this]
  refine ⟨fun x hx => ?_, fun x hx hh => ?_⟩
  · show (if x = A + 2 ^ K then f A ^^^ stps 8 (2 ^ K) else f x) < 4294967296
    split
    · rename_i he; subst he; rw [hs]; exact stps_lt (by omega) 8
    · exact h.1 x hx
  · show (if x = A + 2 ^ K then f A ^^^ stps 8 (2 ^ K) else f x) = _
    split
    · rename_i he; rw [hs, he]
    · rename_i he
      refine h.2 x hx ?_
      rcases hh with hh | ⟨h1, h2⟩
      · exact .inl hh
      · by_cases hlt : x < A
        · exact .inr ⟨h1, hlt⟩
        · left
          have hcase : ∀ K, K < 8 → A % (2 * 2 ^ K) = 0 → x % 2 ^ K = 0 → x < A + 2 * 2 ^ K → ¬ x = A + 2 ^ K → ¬ x < A → x % (2 * 2 ^ K) = 0 := by
            intro K hK a b c d e
            match K, hK with
            | 0, _ => simp only [Nat.pow_zero, Nat.mul_one] at *; omega
            | 1, _ => simp only [Nat.reducePow, Nat.reduceMul] at *; omega
            | 2, _ => simp only [Nat.reducePow, Nat.reduceMul] at *; omega
            | 3, _ => simp only [Nat.reducePow, Nat.reduceMul] at *; omega
            | 4, _ => simp only [Nat.reducePow, Nat.reduceMul] at *; omega
            | 5, _ => simp only [Nat.reducePow, Nat.reduceMul] at *; omega
            | 6, _ => simp only [Nat.reducePow, Nat.reduceMul] at *; omega
            | 7, _ => simp only [Nat.reducePow, Nat.reduceMul] at *; omega
          exact hcase K hK hm h1 h2 he hlt
/-- one bit alone, as far as it has fallen. -/
theorem alone_step (K : Nat) (hK : K < 8) : stps (8 - K) 1 = stps 8 (2 ^ K) := by
  have h := stps_high 1 K
  rw [Nat.mul_one] at h
  have := stps_add (2 ^ K) K (8 - K)
  rw [show 8 - K + K = 8 by omega, h] at this
  exact this.symm
/-- where the next ones stand. -/
theorem next_even (K A : Nat) (hm : A % (2 * 2 ^ K) = 0) : (A + 2 * 2 ^ K) % (2 * 2 ^ K) = 0 := by rw [Nat.add_mod_right]; exact hm
theorem room_even (K A : Nat) (hK : K < 8) (hA : A < 256) (hm : A % (2 * 2 ^ K) = 0) : A + 2 * 2 ^ K ≤ 256 := by
  match K, hK with
  | 0, _ => simp only [Nat.pow_zero, Nat.mul_one] at *; omega
  | 1, _ => simp only [Nat.reducePow, Nat.reduceMul] at *; omega
  | 2, _ => simp only [Nat.reducePow, Nat.reduceMul] at *; omega
  | 3, _ => simp only [Nat.reducePow, Nat.reduceMul] at *; omega
  | 4, _ => simp only [Nat.reducePow, Nat.reduceMul] at *; omega
  | 5, _ => simp only [Nat.reducePow, Nat.reduceMul] at *; omega
  | 6, _ => simp only [Nat.reducePow, Nat.reduceMul] at *; omega
  | 7, _ => simp only [Nat.reducePow, Nat.reduceMul] at *; omega
theorem pow_le (K : Nat) (hK : K < 8) : 1 ≤ 2 ^ K ∧ 2 ^ K ≤ 128 := by
  match K, hK with
  | 0, _ | 1, _ | 2, _ | 3, _ | 4, _ | 5, _ | 6, _ | 7, _ => decide
end Go.Proofs.Ythoihlebplmcoaa

/- shift, and the table of low bytes. -/
namespace Go.Proofs.Ythoihlebplmcoaa
open Go.RowKit

theorem u32_xor_nat' (a b : Nat) (ha : a < 4294967296) (hb : b < 4294967296) : bits .xor .u32 (a : Int) (b : Int) = ((a ^^^ b : Nat) : Int) := u32_xor_nat a b ha hb

theorem ret_u32 {a b : Int} (h : a = b) : Ending.returned (.int .u32 a) = .returned (.int .u32 b) := by rw [h]

theorem shift_any (c : Nat) (hc : c < 4294967296) (w : World) :
    Calls Try.prog 70 #[.int .u32 c] w fun e w' => e = .returned (.int .u32 (stp c : Nat)) ∧ w = w' := by
  have ha : bits .and .u32 (c : Int) 1 = ((c % 2 : Nat) : Int) := by
    rw [u32_and _ _ (by omega) (by omega) (by omega) (by omega)]
    simp [Nat.and_one_is_mod]
  have hx : bits .xor .u32 ((c : Int) / 2) 3988292384 = (((c / 2) ^^^ poly : Nat) : Int) := u32_xor_nat (c / 2) poly (by omega) (by decide)
  have HX := Lib.hid hx
  clear hx
  by_cases h : c % 2 = 1
  · have hs : stp c = (c / 2) ^^^ poly := if_pos h
    rw [hs]
    have hd : (bits .and .u32 (c : Int) 1 == 1) = true := by rw [ha, h]; rfl
    clear ha hs
    go_enter Try.func70, Try.ntmps70
    go_wp2
    go_ret
    exact ⟨ret_u32 HX.out, rfl⟩
  · have hs : stp c = c / 2 := if_neg h
    rw [hs]
    have h0 : c % 2 = 0 := by omega
    have hd : (bits .and .u32 (c : Int) 1 == 1) = false := by rw [ha, h0]; rfl
    clear ha hs
    go_enter Try.func70, Try.ntmps70
    go_wp2
    go_ret
    exact ⟨ret_u32 (by simp), rfl⟩

theorem info37 : (Try.prog.info? 94).map (fun i => (i.zero, i.size)) = some (some (.agg (Array.replicate 256 (.int .u32 0))), 256) := by kernel_rfl
theorem zero37 (w : World) : Sem.run Try.prog (zeroValue 94) w = .ok (.agg (Array.replicate 256 (.int .u32 0))) w := by
  have h := info37
  cases hi : Try.prog.info? 94 with
  | none => rw [hi] at h; simp at h
  | some i =>
    rw [hi] at h
    simp at h
    simp [zeroValue, typeInfo, hi, h.1]

/-! a block that is known whole -/
section
variable {w w' : World} {g : Nat} {t : TypeId} {cs : Array Value}
end

/-- the table: what each low byte comes to, as far as it is filled. -/
def lowTab (f : Nat → Nat) : Array Value := ((List.range 256).map fun x => Value.int .u32 (f x : Nat)).toArray
theorem lowTab_size (f : Nat → Nat) : (lowTab f).size = 256 := by simp [lowTab]
theorem lowTab_at (f : Nat → Nat) (x : Nat) (hx : x < 256) : (lowTab f)[x]? = some (.int .u32 (f x : Nat)) := by
  simp [lowTab, hx]
theorem lowTab_set (f : Nat → Nat) (x v : Nat) : (lowTab f).setIfInBounds x (.int .u32 (v : Nat)) = lowTab (fun y => if y = x then v else f y) := by
  apply Array.ext_getElem?
  intro i
  rw [Array.getElem?_setIfInBounds]
  by_cases hi : i < 256
  · rw [lowTab_at _ _ hi, lowTab_at _ _ hi, lowTab_size]
    by_cases he : x = i
    · subst he; simp [hi]
    · have : ¬ i = x := fun e => he e.symm
      simp [he, this]
  · rw [lowTab_size]
    have h1 : (lowTab f)[i]? = none := by rw [Array.getElem?_eq_none]; rw [lowTab_size]; omega
    have h2 : (lowTab (fun y => if y = x then v else f y))[i]? = none := by rw [Array.getElem?_eq_none]; rw [lowTab_size]; omega
    rw [h1, h2]
    by_cases he : x = i
    · subst he; simp [hi]
    · simp [he]
theorem lowTab_zero : lowTab (fun _ => 0) = Array.replicate 256 (.int .u32 0) := by
  apply Array.ext_getElem?
  intro i
  by_cases hi : i < 256
  · rw [lowTab_at _ _ hi]; simp [hi]
  · rw [Array.getElem?_eq_none (by rw [lowTab_size]; omega), Array.getElem?_eq_none (by simp; omega)]
theorem lowTab_ext {f g : Nat → Nat} (h : ∀ x, x < 256 → f x = g x) : lowTab f = lowTab g := by
  apply Array.ext_getElem?
  intro i
  by_cases hi : i < 256
  · rw [lowTab_at _ _ hi, lowTab_at _ _ hi, h i hi]
  · rw [Array.getElem?_eq_none (by rw [lowTab_size]; omega), Array.getElem?_eq_none (by rw [lowTab_size]; omega)]

/-- the two blocks of lowBytes: what it will tell (still empty), and the table. -/
structure LowW (w W : World) (f : Nat → Nat) : Prop where
  bel : Below w.heap.size w W
  told : Whole W w.heap.size 94 (lowTab fun _ => 0)
  tab : Whole W (w.heap.size + 1) 94 (lowTab f)
theorem LowW.first (w : World) : LowW w ((w.alloc (.cells (lowTab fun _ => 0) 94)).alloc (.cells (lowTab fun _ => 0) 94)) (fun _ => 0) := by
  refine ⟨((Below.refl _ _).alloc (Nat.le_refl _) _).alloc (by simp) _, (Whole.new w 94 _).alloc _, ?_⟩
  have := Whole.new (w.alloc (.cells (lowTab fun _ => 0) 94)) 94 (lowTab fun _ => 0)
  simpa using this
theorem zeroTab (w : World) : Sem.run Try.prog (zeroValue 94) w = .ok (.agg (lowTab fun _ => 0)) w := by rw [lowTab_zero]; exact zero37 w
theorem loadTab {W : World} {g : Nat} {f : Nat → Nat} (h : Whole W g 94 (lowTab f)) :
    Sem.run Try.prog (loadCellsFrom ⟨g, 0, none⟩ 0 256 #[]) W = .ok (lowTab f) W := by
  have := run_loadCells_list (P := Try.prog) W ⟨g, 0, none⟩ (lowTab f).toList (fun j v hv => by
    have hadd : (⟨g, 0, none⟩ : Addr).add j = ⟨g, j, none⟩ := by unfold Addr.add; split <;> simp_all
    rw [hadd, cell_of_row _ _ j _ _ (0, 0) h]
    simpa using hv)
  simpa [loadCells, lowTab_size] using this
theorem storeTab {W : World} {g : Nat} {f0 : Nat → Nat} (h : Whole W g 94 (lowTab f0)) (f : Nat → Nat) :
    Sem.run Try.prog (storeCells ⟨g, 0, none⟩ (lowTab f).toList) W = .ok () (W.setRow g (lowTab f)) := by
  have := run_storeCells_from (P := Try.prog) g 94 (lowTab f).toList 0 (lowTab f0) W h (by simp [lowTab_size]) (fun v hv => by
    simp [lowTab] at hv
    obtain ⟨x, _, rfl⟩ := hv
    rfl)
  simpa using this
theorem LowW.set {w W : World} {f : Nat → Nat} (h : LowW w W f) (x v : Nat) : LowW w (W.setCell ⟨w.heap.size + 1, x, none⟩ (.int .u32 (v : Nat))) (fun y => if y = x then v else f y) := by
  refine ⟨h.bel.setCell (by simp) _, h.told.far (by simp) _, ?_⟩
  rw [← lowTab_set]
  exact h.tab.set_ _ _

/-- how far the outer loop is. -/
def half (K : Nat) : Nat := match K with | 0 => 0 | K + 1 => 2 ^ K

theorem size37 : (Try.prog.info? 94).map (·.size) = some 256 := by
  have h := info37
  cases hi : Try.prog.info? 94 with
  | none => rw [hi] at h; simp at h
  | some i => rw [hi] at h; simp at h; simp [h.2]
theorem lowTab_one (f : Nat → Nat) : (lowTab f).all (·.oneCell') = true := by
  rw [Array.all_eq_true_iff_forall_mem]
  intro v hv
  simp [lowTab] at hv
  obtain ⟨x, _, rfl⟩ := hv
  rfl
theorem u32_xor' (a b : Nat) (ha : a < 4294967296) (hb : b < 4294967296) : bits .xor .u32 (a : Int) (b : Int) = ((a ^^^ b : Nat) : Int) := u32_xor_nat a b ha hb

theorem half_of (K : Nat) : ((2 ^ K : Nat) : Int) / 2 = ((half K : Nat) : Int) := by
  cases K with
  | zero => decide
  | succ K => simp only [half]; rw [Nat.pow_succ]; omega
end Go.Proofs.Ythoihlebplmcoaa

/- The table of low bytes, walked. -/
namespace Go.Proofs.Ythoihlebplmcoaa
open Go.RowKit

set_option maxRecDepth 100000 in
set_option maxHeartbeats 1000000 in
theorem low_any (w : World) :
    Calls Try.prog 67 #[] w fun e w' => e = .returned (.agg (lowTab (stps 8))) ∧ Below w.heap.size w w' := by
  have Z := fun W => zeroTab W
  go_enter Try.func67, Try.ntmps67
  go_wp2_with fail
  clear Z
  go_loopg [2, 3] 9 (fun j s2 s3 wr => ∃ K f, K ≤ 8 ∧ K ≤ j ∧ s2 = .int .u32 (stps (8 - K) 1 : Nat) ∧ s3 = .int .i64 (half K : Nat) ∧ Good (2 ^ K) f ∧ LowW w wr f)
  case atStart => exact ⟨8, _, by omega, by omega, rfl, rfl, Good.first, LowW.first w⟩
  case round =>
    obtain ⟨K, f, hK, hj, rfl, rfl, hg, hl⟩ := hrel
    have HG := Lib.hid hg
    have HL := Lib.hid hl
    clear hg hl
    rcases K with _ | K
    · simp only [half]
      have SZ : (Try.prog.info? 94).map (·.size) = some (lowTab f).size := by rw [lowTab_size]; exact size37
      have S2 : (lowTab fun _ => 0).size = (lowTab f).size := by rw [lowTab_size, lowTab_size]
      go_wp2_with (first
        | (refine wpList_load_row rfl 94 (.tmp 1) rfl (w.heap.size + 1) rfl 94 (lowTab f) (0, 0) _ HL.out.tab Try.underlying94 rfl SZ ?_)
        | (refine wpList_store_row rfl 94 (.tmp 0) (.tmp 26) rfl w.heap.size (lowTab f) rfl rfl 94 (lowTab fun _ => 0) HL.out.told SZ S2 (lowTab_one f) ?_))
      refine bodyPost_ret (results_cell_row rfl _ _ w.heap.size 94 (lowTab f) (0, 0) _ rfl ?_ Try.underlying94 rfl (by rw [lowTab_size]; exact size37)) rfl ⟨?_, ?_⟩
      · exact setRow_heap _ _ _ _ _ _ HL.out.told
      · rw [lowTab_ext HG.out.last]
      · exact below_setRow HL.out.bel (Nat.le_refl _) _
    · have hp := pow_le K (by omega)
      have ha := alone_step K (by omega)
      have hsh : stps (8 - (K + 1)) 1 < 4294967296 := stps_lt (by decide) _
      have HA : Hid (stp (stps (8 - (K + 1)) 1) = stps (8 - K) 1 ∧ stps (8 - K) 1 = stps 8 (2 ^ K)) := ⟨by rw [show 8 - K = (8 - (K + 1)) + 1 by omega]; rfl, ha⟩
      clear ha
      have hpos : (0 : Int) < ((2 ^ K : Nat) : Int) := by omega
      have hnl : stp (stps (8 - (K + 1)) 1) < 4294967296 := stp_lt hsh
      have HM : Hid (Mid (2 ^ K) 0 f) := by
        have := HG.out
        rw [Nat.pow_succ, Nat.mul_comm] at this
        exact this.mid
      have HH := Lib.hid (half_of K)
      clear HG
      simp only [half]
      generalize hb : 2 ^ K = b at *
      have HB := Lib.hid hb
      clear hb
      generalize hc : stps (8 - (K + 1)) 1 = c at *
      have HC := Lib.hid hc
      clear hc
      generalize hd : stp c = d at *
      have HD := Lib.hid hd
      clear hd
      go_wp2_with (with_reducible refine (shift_any c hsh _).mono ?_; rintro e w' ⟨rfl, rfl⟩)
      simp only [HD.out]
      go_loopg [4] 257 (fun j s4 wr => ∃ A f, A ≤ 256 ∧ 256 < A + j ∧ s4 = .int .i64 (A : Nat) ∧ A % (2 * b) = 0 ∧ Mid b A f ∧ LowW w wr f)
      case atStart => exact ⟨0, f, by omega, by omega, rfl, Nat.zero_mod _, HM.out, HL.out⟩
      case round =>
        obtain ⟨A, f, hA, hj2, rfl, hm, hmid, hlow⟩ := hrel
        have HMM := Lib.hid hmid
        have HM2 := Lib.hid hm
        have HL2 := Lib.hid hlow
        clear hmid hm hlow
        by_cases hlt : A < 256
        · have hcell : wr.cell? ⟨w.heap.size + 1, A, none⟩ = some (.int .u32 (f A : Nat)) := by rw [HL2.out.tab.cell]; exact lowTab_at f A hlt
          have hroom : A + 2 * b ≤ 256 := by rw [← HB.out]; exact room_even K A (by omega) hlt (by rw [HB.out]; exact HM2.out)
          have hcell2 : wr.cell? ⟨w.heap.size + 1, A + b, none⟩ = some (.int .u32 (f (A + b) : Nat)) := by rw [HL2.out.tab.cell]; exact lowTab_at f (A + b) (by omega)
          have hfr : wr.frozen? ⟨w.heap.size + 1, A + b, none⟩ = false := HL2.out.tab.frozen _
          have hfA : f A < 4294967296 := HMM.out.1 A hlt
          have hx : bits .xor .u32 (f A : Int) (d : Int) = ((f A ^^^ d : Nat) : Int) := u32_xor' _ _ hfA hnl
          have HX := Lib.hid hx
          clear hx
          go_wp2_with fail
          rw [HX.out]
          have HS : Hid (Mid b (A + 2 * b) (fun x => if x = A + b then f A ^^^ d else f x)) := by
            have hm2 := HM2.out
            have hmid := HMM.out
            have h0 := HA.out.1.trans HA.out.2
            rw [h0]
            rw [← HB.out] at hm2 hmid ⊢
            exact Mid.step (by omega) hlt hm2 hmid
          have HE : Hid ((A + 2 * b) % (2 * b) = 0) := by
            have hm2 := HM2.out
            rw [← HB.out] at hm2 ⊢
            exact next_even K A hm2
          have HW : Hid (LowW w (wr.setCell ⟨w.heap.size + 1, A + b, none⟩ (.int .u32 (f A ^^^ d : Nat))) (fun x => if x = A + b then f A ^^^ d else f x)) := HL2.out.set _ _
          go_roundg (257 - (A + 2 * b))
          case measure => omega
          case rel => exact ⟨A + 2 * b, _, hroom, by omega, by simp, HE.out, HS.out, HW.out⟩
        · obtain rfl : A = 256 := by omega
          have HG2 : Hid (Good b f) := HMM.out.good
          go_wp2_with fail
          go_roundg K
          case measure => omega
          case rel => exact ⟨K, f, by omega, by omega, by rw [HA.out.1], by rw [HH.out], by rw [HB.out]; exact HG2.out, HL2.out⟩
end Go.Proofs.Ythoihlebplmcoaa

/- Bytes that are read; On, Of, and the reference's Register and Of. -/
namespace Go.Proofs.Ythoihlebplmcoaa
open Go.RowKit

theorem u32_xor_u8 (a b : Nat) (ha : a < 256) (hb : b < 256) : bits .xor .u8 (a : Int) (b : Int) = ((a ^^^ b : Nat) : Int) := u8_xor_nat a b ha hb

theorem not32 (s : Nat) (hs : s < 4294967296) : 4294967295 ^^^ s = 4294967295 - s := by
  have h := congrArg BitVec.toNat (BitVec.allOnes_xor (x := BitVec.ofNat 32 s))
  rw [BitVec.toNat_xor, BitVec.toNat_not, BitVec.toNat_allOnes, BitVec.toNat_ofNat, Nat.mod_eq_of_lt (by omega)] at h
  exact h
theorem u32_not (s : Nat) (hs : s < 4294967296) : bits .xor .u32 IntKind.u32.max (s : Int) = ((4294967295 - s : Nat) : Int) := by
  rw [← not32 s hs]
  exact u32_xor_nat 4294967295 s (by decide) hs
theorem low_byte (r : Nat) (x : UInt8) : bits .xor .u8 ((r : Int) % 256) (x.toNat : Int) = (((r % 256) ^^^ x.toNat : Nat) : Int) := by
  have := u8_xor_nat (r % 256) x.toNat (by omega) x.toNat_lt
  simpa using this
theorem high_bytes (r v : Nat) (hr : r < 4294967296) (hv : v < 4294967296) : bits .xor .u32 ((r : Int) / 256) (v : Int) = (((r / 256) ^^^ v : Nat) : Int) := by
  have := u32_xor_nat (r / 256) v (by omega) hv
  simpa using this

set_option maxRecDepth 100000 in
set_option maxHeartbeats 1000000 in
theorem on_any (s : Nat) (hs : s < 4294967296) (A : Option Addr) (c : Nat) (l : List UInt8) (w : World) (h : Holds w A l) (hn : l.length ≤ 9223372036854775807) :
    Calls Try.prog 63 #[.int .u32 s, .slice A l.length c] w fun e w' => e = .returned (.int .u32 (sumOn s l : Nat)) ∧ Below w.heap.size w w' := by
  have Z := fun W => zeroTab W
  have H0 := Lib.hid h
  clear h
  have SZ : (Try.prog.info? 94).map (·.size) = some (lowTab (stps 8)).size := by rw [lowTab_size]; exact size37
  have S2 : (lowTab fun _ => 0).size = (lowTab (stps 8)).size := by rw [lowTab_size, lowTab_size]
  go_enter Try.func63, Try.ntmps63
  go_wp2_with fail
  refine (low_any _).mono ?_
  rintro e w1 ⟨rfl, bel⟩
  have B1 := Lib.hid bel
  clear bel
  go_wp2_with (first
    | (refine wpList_store_row rfl 94 (.tmp 5) (.tmp 9) rfl w1.heap.size (lowTab (stps 8)) rfl rfl 94 (lowTab fun _ => 0) (Whole.new w1 94 _) SZ S2 (lowTab_one _) ?_))
  have W1 : Hid (Below w.heap.size w ((w1.alloc (.cells (lowTab fun _ => 0) 94)).setRow w1.heap.size (lowTab (stps 8))) ∧ Whole ((w1.alloc (.cells (lowTab fun _ => 0) 94)).setRow w1.heap.size (lowTab (stps 8))) w1.heap.size 94 (lowTab (stps 8))) :=
    ⟨below_setRow (B1.out.alloc B1.out.size _) B1.out.size _, setRow_heap _ _ _ _ _ _ (Whole.new w1 94 _)⟩
  have hN : Hid (bits .xor .u32 IntKind.u32.max (s : Int) = ((4294967295 - s : Nat) : Int)) := u32_not s hs
  simp only [hN.out]
  generalize hg : (w1.alloc (.cells (lowTab fun _ => 0) 94)).setRow w1.heap.size (lowTab (stps 8)) = W at *
  generalize hgs : w1.heap.size = g at *
  clear hg hgs Z SZ S2 B1
  have HT := Lib.hid W1.out.2
  have HB := Lib.hid W1.out.1
  clear W1
  have HH : Hid (Holds W A l) := H0.out.below HB.out
  go_loopg [6, 14] (l.length) (fun j s6 s14 wr => ∃ P R : List UInt8, l = P ++ R ∧ R.length ≤ j ∧ s6 = .int .u32 (reg (4294967295 - s) P : Nat) ∧ s14 = .int .i64 (P.length : Nat) ∧ wr = W)
  case atStart => exact ⟨[], l, rfl, Nat.le_refl _, rfl, rfl, rfl⟩
  case round =>
    obtain ⟨P, R, hl, hR, rfl, rfl, rfl⟩ := hrel
    have HL := Lib.hid hl
    have hr : reg (4294967295 - s) P < 4294967296 := reg_lt P _ (by omega)
    clear hl
    cases R with
    | nil =>
      have hlt : ¬ ((P.length : Int) < (l.length : Int)) := by rw [HL.out]; simp
      have HN : Hid (bits .xor .u32 IntKind.u32.max ((reg (4294967295 - s) P : Nat) : Int) = ((4294967295 - reg (4294967295 - s) P : Nat) : Int)) := u32_not _ hr
      have HE : Hid (sumOn s l = 4294967295 - reg (4294967295 - s) P) := Lib.hid (by rw [HL.out, List.append_nil]; rfl)
      clear HL
      generalize reg (4294967295 - s) P = r at *
      go_wp2_with fail
      go_ret
      exact ⟨ret_u32 (by rw [HN.out, HE.out]), HB.out⟩
    | cons x R =>
      have hlt : (P.length : Int) < (l.length : Int) := by rw [HL.out]; simp; omega
      have hh := HH.out
      rw [HL.out] at hh
      obtain ⟨b, o, e, hb, hc⟩ := hh.at_
      subst e
      clear hh
      have hP : P.length < l.length := by omega
      have hx : x.toNat < 256 := x.toNat_lt
      have HREL : Hid (l = (P ++ [x]) ++ R) := Lib.hid (by have := HL.out; simpa using this)
      have HR2 : Hid (reg (4294967295 - s) (P ++ [x]) = stps 8 (reg (4294967295 - s) P ^^^ x.toNat)) := Lib.hid (by rw [reg_append]; simp only [reg_cons, reg_nil])
      have hi : (reg (4294967295 - s) P % 256) ^^^ x.toNat < 256 := Nat.xor_lt_two_pow (n := 8) (by omega) hx
      have HS := Lib.hid (stps8_byte (reg (4294967295 - s) P) x.toNat hx)
      generalize hrr : reg (4294967295 - s) P = r at *
      clear HL
      have HRR := Lib.hid hrr
      clear hrr
      have hx1 := low_byte r x
      generalize hii : (r % 256) ^^^ x.toNat = i at *
      clear hii
      have hi8 : stps 8 i < 4294967296 := stps_lt (by omega) 8
      have HX2 := Lib.hid (high_bytes r (stps 8 i) hr hi8)
      have hcell : wr.cell? ⟨g, i, none⟩ = some (.int .u32 (stps 8 i : Nat)) := by rw [HT.out.cell]; exact lowTab_at _ i hi
      generalize stps 8 i = v at *
      go_wp2_with fail
      rw [HX2.out]
      go_roundg R.length
      case measure => simp at hR; omega
      case rel => exact ⟨P ++ [x], R, HREL.out, Nat.le_refl _, by rw [HR2.out, HS.out], by simp, rfl⟩
end Go.Proofs.Ythoihlebplmcoaa

/- Of, and the reference's Register and Of. -/
namespace Go.Proofs.Ythoihlebplmcoaa
open Go.RowKit

set_option maxRecDepth 100000 in
theorem of_any (A : Option Addr) (c : Nat) (l : List UInt8) (w : World) (h : Holds w A l) (hn : l.length ≤ 9223372036854775807) :
    Calls Try.prog 53 #[.slice A l.length c] w fun e w' => e = .returned (.int .u32 (sumOn 0 l : Nat)) ∧ Below w.heap.size w w' := by
  have H0 := Lib.hid h
  clear h
  go_enter Try.func53, Try.ntmps53
  go_wp2_with fail
  refine (on_any 0 (by decide) A c l _ H0.out hn).mono ?_
  rintro e w1 ⟨rfl, bel⟩
  go_wp2_with fail
  go_ret
  exact ⟨rfl, bel⟩

theorem bit_test (q v k : Nat) : ((q : Int) % 2 != ((v : Int) / 2 ^ k).tmod 2) = (q % 2 != v / 2 ^ k % 2) := by
  have e1 : ((v : Int) / 2 ^ k) = ((v / 2 ^ k : Nat) : Int) := by simp
  have e2 : (((v / 2 ^ k : Nat) : Int)).tmod 2 = ((v / 2 ^ k % 2 : Nat) : Int) := by
    generalize v / 2 ^ k = z
    rw [Int.tmod_eq_emod_of_nonneg (by omega)]
    omega
  have e3 : (q : Int) % 2 = ((q % 2 : Nat) : Int) := by omega
  rw [e1, e2, e3]
  rw [Bool.eq_iff_iff]
  simp only [bne_iff_ne, ne_eq, Int.natCast_inj]
theorem half_poly (q : Nat) (hq : q < 4294967296) : bits .xor .u32 ((q : Int) / 2) 3988292384 = (((q / 2) ^^^ poly : Nat) : Int) := u32_xor_nat (q / 2) poly (by omega) (by decide)

set_option maxRecDepth 100000 in
set_option maxHeartbeats 1000000 in
theorem register_any (c0 : Nat) (h0 : c0 < 4294967296) (A : Option Addr) (c : Nat) (l : List UInt8) (w : World) (h : Holds w A l) (hn : l.length ≤ 9223372036854775807) :
    Calls Try.prog 69 #[.int .u32 c0, .slice A l.length c] w fun e w' => e = .returned (.int .u32 (reg c0 l : Nat)) ∧ w' = w := by
  have H0 := Lib.hid h
  clear h
  go_enter Try.func69, Try.ntmps69
  go_wp2_with fail
  go_loopg [0, 5] (l.length) (fun j s0 s5 wr => ∃ P R : List UInt8, l = P ++ R ∧ R.length ≤ j ∧ s0 = .int .u32 (reg c0 P : Nat) ∧ s5 = .int .i64 (P.length : Nat) ∧ wr = w)
  case atStart => exact ⟨[], l, rfl, Nat.le_refl _, rfl, rfl, rfl⟩
  case round =>
    obtain ⟨P, R, hl, hR, rfl, rfl, hw⟩ := hrel
    subst hw
    have HL := Lib.hid hl
    have hr : reg c0 P < 4294967296 := reg_lt P _ h0
    clear hl
    cases R with
    | nil =>
      have hlt : ¬ ((P.length : Int) < (l.length : Int)) := by rw [HL.out]; simp
      have HE : Hid (reg c0 l = reg c0 P) := Lib.hid (by rw [HL.out, List.append_nil])
      clear HL
      go_wp2_with fail
      go_ret
      exact ⟨ret_u32 (by rw [HE.out]), rfl⟩
    | cons x R =>
      have hlt : (P.length : Int) < (l.length : Int) := by rw [HL.out]; simp; omega
      have hh := H0.out
      rw [HL.out] at hh
      obtain ⟨b, o, e, hb, hc⟩ := hh.at_
      subst e
      clear hh
      have hP : P.length < l.length := by omega
      have hx : x.toNat < 256 := x.toNat_lt
      have HREL : Hid (l = (P ++ [x]) ++ R) := Lib.hid (by have := HL.out; simpa using this)
      have HR2 : Hid (reg c0 (P ++ [x]) = stps 8 (reg c0 P ^^^ x.toNat)) := Lib.hid (by rw [reg_append]; simp only [reg_cons, reg_nil])
      generalize hrr : reg c0 P = r at *
      clear HL
      have HRR := Lib.hid hrr
      clear hrr
      go_wp2_with fail
      go_loopg [0, 6] 9 (fun j s0 s6 wi => ∃ k : Nat, k ≤ 8 ∧ 8 < k + j ∧ s0 = .int .u32 (stps k (r ^^^ x.toNat) ^^^ x.toNat / 2 ^ k : Nat) ∧ s6 = .int .i64 (k : Nat) ∧ wi = wr)
      case atStart => exact ⟨0, by omega, by omega, by rw [rbit_first], rfl, rfl⟩
      case round =>
        obtain ⟨k, hk, hj, rfl, rfl, hw⟩ := hrel
        subst hw
        have HQ := Lib.hid (rbit_step r x.toNat k)
        have hq : stps k (r ^^^ x.toNat) ^^^ x.toNat / 2 ^ k < 4294967296 := Nat.xor_lt_two_pow (n := 32) (stps_lt (Nat.xor_lt_two_pow hr (by omega)) k) (Nat.lt_of_le_of_lt (Nat.div_le_self _ _) (by omega))
        by_cases h8 : k < 8
        · generalize hqq : stps k (r ^^^ x.toNat) ^^^ x.toNat / 2 ^ k = q at *
          clear hqq
          have hT : ((q : Int) % 2 != ((x.toNat : Int) / 2 ^ k).tmod 2) = (q % 2 != x.toNat / 2 ^ k % 2) := bit_test q x.toNat k
          have HP := Lib.hid (half_poly q hq)
          cases hd : (q % 2 != x.toNat / 2 ^ k % 2) with
          | true =>
            have hT2 : ((q : Int) % 2 != ((x.toNat : Int) / 2 ^ k).tmod 2) = true := hT.trans hd
            have HR3 : Hid (rbit x.toNat k q = q / 2 ^^^ poly) := Lib.hid (if_pos hd)
            clear hd hT
            go_wp2_with fail
            rw [HP.out]
            go_roundg (8 - k)
            case measure => omega
            case rel => exact ⟨k + 1, by omega, by omega, by rw [← HQ.out, HR3.out], by simp, rfl⟩
          | false =>
            have hT2 : ((q : Int) % 2 != ((x.toNat : Int) / 2 ^ k).tmod 2) = false := hT.trans hd
            have HR3 : Hid (rbit x.toNat k q = q / 2) := Lib.hid (if_neg (by rw [hd]; decide))
            clear hd hT
            go_wp2_with fail
            go_roundg (8 - k)
            case measure => omega
            case rel => exact ⟨k + 1, by omega, by omega, by rw [← HQ.out, HR3.out]; simp, by simp, rfl⟩
        · obtain rfl : k = 8 := by omega
          have HLST := Lib.hid (rbit_last r x.toNat hx)
          generalize stps 8 (r ^^^ x.toNat) ^^^ x.toNat / 2 ^ 8 = q at *
          clear HQ
          go_wp2_with fail
          go_roundg R.length
          case measure => simp at hR; omega
          case rel => exact ⟨P ++ [x], R, HREL.out, Nat.le_refl _, by rw [HR2.out, HLST.out], by simp, rfl⟩
end Go.Proofs.Ythoihlebplmcoaa
