/- Plain: the register of the sum, bit by bit and byte by byte. -/
namespace Go.Proofs.Ytbdaoecpmodgcaa
/-- the polynomial's bits. -/
def poly : Nat := 3988292384
/-- the lowest bit falls out. -/
def stp (c : Nat) : Nat := if c % 2 = 1 then (c / 2) ^^^ poly else c / 2
/-- so many bits fall out. -/
def stps : Nat → Nat → Nat
  | 0, c => c
  | n + 1, c => stp (stps n c)
/-- the register behind bytes. -/
def reg (c : Nat) (l : List UInt8) : Nat := l.foldl (fun c b => stps 8 (c ^^^ b.toNat)) c
/-- the sum of bytes, behind a sum. -/
def sumOn (s : Nat) (l : List UInt8) : Nat := 4294967295 - reg (4294967295 - s) l

theorem poly_lt : poly < 2 ^ 32 := by decide
theorem xor_div2 (a b : Nat) : (a ^^^ b) / 2 = (a / 2) ^^^ (b / 2) := by
  have := Nat.shiftRight_xor_distrib (a := a) (b := b) (i := 1)
  simpa [Nat.shiftRight_eq_div_pow] using this
theorem xor_mod2 (a b : Nat) : (a ^^^ b) % 2 = (a % 2 + b % 2) % 2 := by
  have h := Nat.testBit_xor (x := a) (y := b) (i := 0)
  simp only [Nat.testBit_zero] at h
  rcases Nat.mod_two_eq_zero_or_one a with ha | ha <;> rcases Nat.mod_two_eq_zero_or_one b with hb | hb <;> rcases Nat.mod_two_eq_zero_or_one (a ^^^ b) with hc | hc <;> simp_all
theorem stp_lt {c : Nat} (h : c < 2 ^ 32) : stp c < 2 ^ 32 := by
  unfold stp
  split
  · exact Nat.xor_lt_two_pow (by omega) poly_lt
  · omega
theorem stps_lt {c : Nat} (h : c < 2 ^ 32) : ∀ n, stps n c < 2 ^ 32
  | 0 => h
  | n + 1 => stp_lt (stps_lt h n)
theorem stp_xor (a b : Nat) : stp (a ^^^ b) = stp a ^^^ stp b := by
  unfold stp
  rw [xor_mod2, xor_div2]
  rcases Nat.mod_two_eq_zero_or_one a with ha | ha <;> rcases Nat.mod_two_eq_zero_or_one b with hb | hb <;> simp [ha, hb]
  · rw [Nat.xor_assoc]
  · rw [Nat.xor_assoc, Nat.xor_assoc, Nat.xor_comm poly]
  · rw [Nat.xor_assoc, ← Nat.xor_assoc poly, Nat.xor_comm poly, Nat.xor_assoc, Nat.xor_self, Nat.xor_zero]
theorem stps_xor (a b : Nat) : ∀ n, stps n (a ^^^ b) = stps n a ^^^ stps n b
  | 0 => rfl
  | n + 1 => by simp only [stps]; rw [stps_xor a b n, stp_xor]
theorem stps_add (a : Nat) (n : Nat) : ∀ m, stps (m + n) a = stps m (stps n a)
  | 0 => by simp [stps]
  | m + 1 => by rw [show m + 1 + n = (m + n) + 1 by omega]; simp only [stps]; rw [stps_add a n m]
theorem stp_twice (a : Nat) : stp (2 * a) = a := by unfold stp; rw [if_neg (by omega)]; omega
theorem stps_high (a : Nat) : ∀ n, stps n (2 ^ n * a) = a
  | 0 => by simp [stps]
  | n + 1 => by
    rw [stps_add _ 1 n, show stps 1 (2 ^ (n + 1) * a) = 2 ^ n * a from ?_, stps_high a n]
    show stp (2 ^ (n + 1) * a) = _
    rw [show 2 ^ (n + 1) * a = 2 * (2 ^ n * a) by rw [Nat.pow_succ, Nat.mul_comm (2 ^ n) 2, Nat.mul_assoc], stp_twice]
/-- a number is its high bytes, turned by its low one. -/
theorem parts256 (x : Nat) : x = 2 ^ 8 * (x / 256) ^^^ x % 256 := by
  apply Nat.eq_of_testBit_eq
  intro i
  rw [Nat.testBit_xor, Nat.testBit_two_pow_mul, show (256 : Nat) = 2 ^ 8 by rfl, Nat.testBit_mod_two_pow, Nat.testBit_div_two_pow]
  by_cases h : i < 8
  · simp [h, Nat.not_le.2 h]
  · have h8 : 8 ≤ i := by omega
    simp [h, h8]
/-- a byte at a time: what stands above, turned by what the low byte comes to. -/
theorem stps8 (x : Nat) : stps 8 x = x / 256 ^^^ stps 8 (x % 256) := by
  conv => lhs; rw [parts256 x]
  rw [stps_xor, stps_high]
theorem stps8_byte (c b : Nat) (hb : b < 256) : stps 8 (c ^^^ b) = c / 256 ^^^ stps 8 ((c % 256) ^^^ b) := by
  have e1 : (c ^^^ b) / 256 = c / 256 := by
    have h := Nat.shiftRight_xor_distrib (a := c) (b := b) (i := 8)
    simp only [Nat.shiftRight_eq_div_pow] at h
    rw [show (256 : Nat) = 2 ^ 8 by rfl, h, show b / 2 ^ 8 = 0 by omega, Nat.xor_zero]
  have e2 : (c ^^^ b) % 256 = (c % 256) ^^^ b := by
    have h := Nat.xor_mod_two_pow (a := c) (b := b) (n := 8)
    rw [show (256 : Nat) = 2 ^ 8 by rfl, h, show b % 2 ^ 8 = b by omega]
  have e3 := stps8 (c ^^^ b)
  rw [e1, e2] at e3
  exact e3

theorem xor_right_cancel' {a b p : Nat} (h : a ^^^ p = b ^^^ p) : a = b := by
  have h2 : (a ^^^ p) ^^^ p = (b ^^^ p) ^^^ p := by rw [h]
  rwa [Nat.xor_assoc, Nat.xor_assoc, Nat.xor_self, Nat.xor_zero, Nat.xor_zero] at h2
theorem xor_left_cancel' {a b p : Nat} (h : p ^^^ a = p ^^^ b) : a = b := by
  rw [Nat.xor_comm p, Nat.xor_comm p] at h
  exact xor_right_cancel' h
theorem reg_nil (c : Nat) : reg c [] = c := rfl
theorem reg_cons (c : Nat) (b : UInt8) (l : List UInt8) : reg c (b :: l) = reg (stps 8 (c ^^^ b.toNat)) l := by simp only [reg, List.foldl_cons]
theorem reg_append (c : Nat) (l r : List UInt8) : reg c (l ++ r) = reg (reg c l) r := by simp [reg]
theorem byte_lt (b : UInt8) : b.toNat < 2 ^ 32 := by have := b.toNat_lt; omega
theorem reg_lt (l : List UInt8) : ∀ c, c < 2 ^ 32 → reg c l < 2 ^ 32 := by
  induction l with
  | nil => intro c h; exact h
  | cons b l ih => intro c h; rw [reg_cons]; exact ih _ (stps_lt (Nat.xor_lt_two_pow h (byte_lt b)) 8)
theorem sumOn_lt (s : Nat) (l : List UInt8) : sumOn s l < 2 ^ 32 := by unfold sumOn; omega
theorem sumOn_nil (s : Nat) (h : s < 2 ^ 32) : sumOn s [] = s := by unfold sumOn; rw [reg_nil]; omega
theorem sumOn_append (s : Nat) (l r : List UInt8) : sumOn (sumOn s l) r = sumOn s (l ++ r) := by
  unfold sumOn
  rw [reg_append]
  have := reg_lt l (4294967295 - s) (by omega)
  rw [show 4294967295 - (4294967295 - reg (4294967295 - s) l) = reg (4294967295 - s) l by omega]

/-- nothing that fell out is lost. -/
theorem stp_inj {a b : Nat} (ha : a < 2 ^ 32) (hb : b < 2 ^ 32) (h : stp a = stp b) : a = b := by
  have top : ∀ c, c < 2 ^ 32 → (stp c).testBit 31 = decide (c % 2 = 1) := by
    intro c hc
    unfold stp
    have h2 : (c / 2).testBit 31 = false := Nat.testBit_lt_two_pow (by omega)
    split
    · rename_i h1; rw [Nat.testBit_xor, h2, show poly.testBit 31 = true by decide]; simp [h1]
    · rename_i h1; rw [h2]; simp [h1]
  have h1 := top a ha
  have h2 := top b hb
  rw [h, h2] at h1
  have h3 : (b % 2 = 1) ↔ (a % 2 = 1) := by simpa using h1
  unfold stp at h
  by_cases ho : a % 2 = 1
  · rw [if_pos ho, if_pos (h3.2 ho)] at h
    have := xor_right_cancel' h
    have := h3.2 ho
    omega
  · have hn : ¬ b % 2 = 1 := fun x => ho (h3.1 x)
    rw [if_neg ho, if_neg hn] at h
    omega
theorem stps_inj {a b : Nat} (ha : a < 2 ^ 32) (hb : b < 2 ^ 32) : ∀ n, stps n a = stps n b → a = b
  | 0, h => h
  | n + 1, h => stps_inj ha hb n (stp_inj (stps_lt ha n) (stps_lt hb n) h)
theorem reg_inj (l : List UInt8) : ∀ {a b : Nat}, a < 2 ^ 32 → b < 2 ^ 32 → reg a l = reg b l → a = b := by
  induction l with
  | nil => intro a b _ _ h; exact h
  | cons x l ih =>
    intro a b ha hb h
    rw [reg_cons, reg_cons] at h
    have h1 := ih (stps_lt (Nat.xor_lt_two_pow ha (byte_lt x)) 8) (stps_lt (Nat.xor_lt_two_pow hb (byte_lt x)) 8) h
    have h2 := stps_inj (Nat.xor_lt_two_pow ha (byte_lt x)) (Nat.xor_lt_two_pow hb (byte_lt x)) 8 h1
    exact xor_right_cancel' h2
/-- one turned byte turns the register. -/
theorem reg_turned (c : Nat) (hc : c < 2 ^ 32) (l r : List UInt8) (x y : UInt8) (h : reg c (l ++ x :: r) = reg c (l ++ y :: r)) : x = y := by
  rw [reg_append, reg_append, reg_cons, reg_cons] at h
  have hl := reg_lt l c hc
  have h1 := reg_inj r (stps_lt (Nat.xor_lt_two_pow hl (byte_lt x)) 8) (stps_lt (Nat.xor_lt_two_pow hl (byte_lt y)) 8) h
  have h2 := stps_inj (Nat.xor_lt_two_pow hl (byte_lt x)) (Nat.xor_lt_two_pow hl (byte_lt y)) 8 h1
  exact UInt8.toNat_inj.1 (xor_left_cancel' h2)
theorem sum_turned (s : Nat) (l r : List UInt8) (x y : UInt8) (h : sumOn s (l ++ x :: r) = sumOn s (l ++ y :: r)) : x = y := by
  unfold sumOn at h
  have h1 := reg_lt (l ++ x :: r) (4294967295 - s) (by omega)
  have h2 := reg_lt (l ++ y :: r) (4294967295 - s) (by omega)
  exact reg_turned (4294967295 - s) (by omega) l r x y (by omega)

/-- bit by bit: the register with what is still to come of the byte. -/
def rbit (v k c : Nat) : Nat := if (c % 2 != (v / 2 ^ k) % 2) then (c / 2) ^^^ poly else c / 2
theorem rbit_step (c v k : Nat) : rbit v k (stps k (c ^^^ v) ^^^ v / 2 ^ k) = stps (k + 1) (c ^^^ v) ^^^ v / 2 ^ (k + 1) := by
  generalize hx : stps k (c ^^^ v) = x
  have hs : stps (k + 1) (c ^^^ v) = stp x := by simp only [stps]; rw [hx]
  rw [hs]
  generalize hv : v / 2 ^ k = u
  have hu : v / 2 ^ (k + 1) = u / 2 := by rw [← hv, Nat.pow_succ, Nat.div_div_eq_div_mul]
  rw [hu]
  unfold rbit
  rw [hv, xor_mod2, xor_div2]
  unfold stp
  rcases Nat.mod_two_eq_zero_or_one x with ha | ha <;> rcases Nat.mod_two_eq_zero_or_one u with hb | hb <;> simp [ha, hb]
  all_goals rw [Nat.xor_assoc, Nat.xor_comm (u / 2), Nat.xor_assoc]
theorem rbit_first (c v : Nat) : stps 0 (c ^^^ v) ^^^ v / 2 ^ 0 = c := by simp [stps, Nat.xor_assoc]
theorem rbit_last (c v : Nat) (h : v < 256) : stps 8 (c ^^^ v) ^^^ v / 2 ^ 8 = stps 8 (c ^^^ v) := by
  rw [show v / 2 ^ 8 = 0 by omega, Nat.xor_zero]
end Go.Proofs.Ytbdaoecpmodgcaa
