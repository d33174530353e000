/-
  Plain mathematics of the cyclic redundancy check: it is affine, and a change of bits within 32 consecutive bits changes it.
  Conditions: none beyond what each theorem says.
-/
import Derived.Test.YthndjngimfoanaaSum
import Derived.Test.YthndjngimfoanaaCrc
namespace Go.Proofs.Ythndjngimfoanaa

theorem xor_mod2 (x y : Nat) : (x ^^^ y) % 2 = (x % 2 + y % 2) % 2 := by
  have h := @Nat.xor_mod_two_eq_one x y
  omega
theorem crcStep_xor (x y : Nat) : crcStep (x ^^^ y) = crcStep x ^^^ crcStep y := by
  have hd : (x ^^^ y) / 2 = x / 2 ^^^ y / 2 := Nat.xor_div_two
  have hm := xor_mod2 x y
  unfold crcStep
  rw [hd, hm]
  rcases Nat.mod_two_eq_zero_or_one x with hx | hx <;> rcases Nat.mod_two_eq_zero_or_one y with hy | hy <;> simp [hx, hy]
  · rw [Nat.xor_assoc]
  · rw [Nat.xor_assoc, Nat.xor_assoc, Nat.xor_comm (y / 2)]
  · rw [show (x / 2 ^^^ 3988292384) ^^^ (y / 2 ^^^ 3988292384) = (x / 2 ^^^ y / 2) ^^^ (3988292384 ^^^ 3988292384) by rw [Nat.xor_assoc, Nat.xor_assoc, ← Nat.xor_assoc 3988292384, Nat.xor_comm 3988292384 (y / 2), Nat.xor_assoc], Nat.xor_self, Nat.xor_zero]
theorem crcSteps_xor (k x y : Nat) : crcSteps k (x ^^^ y) = crcSteps k x ^^^ crcSteps k y := by
  induction k with
  | zero => rfl
  | succ k ih => show crcStep _ = _; rw [ih, crcStep_xor]; rfl
theorem crcSteps_add (j k x : Nat) : crcSteps (j + k) x = crcSteps j (crcSteps k x) := by
  induction j with
  | zero => rw [Nat.zero_add]; rfl
  | succ j ih => rw [Nat.succ_add]; show crcStep _ = crcStep _; rw [ih]
theorem crcSteps_shift (k x : Nat) : crcSteps k (2 ^ k * x) = x := by
  induction k generalizing x with
  | zero => show 2 ^ 0 * x = x; omega
  | succ k ih =>
    rw [Nat.pow_succ, Nat.mul_assoc]
    show crcStep (crcSteps k _) = x
    rw [ih]
    unfold crcStep
    rw [if_neg (by omega)]
    omega
theorem xor_eq_zero {a b : Nat} (h : a ^^^ b = 0) : a = b := by
  have := congrArg (· ^^^ b) h
  simpa [Nat.xor_assoc] using this
theorem crcStep_ne {c : Nat} (h : c < 4294967296) (h0 : c ≠ 0) : crcStep c ≠ 0 := by
  unfold crcStep
  split
  · intro he
    have := xor_eq_zero he
    omega
  · omega
theorem crcSteps_ne (k : Nat) {c : Nat} (h : c < 4294967296) (h0 : c ≠ 0) : crcSteps k c ≠ 0 := by
  induction k with
  | zero => exact h0
  | succ k ih => exact crcStep_ne (crcSteps_lt k h) ih

/-- The bytes as one number, the first byte the least significant one. -/
def leNum : List UInt8 → Nat
  | [] => 0
  | x :: l => x.toNat ^^^ 256 * leNum l
theorem mul_xor (a b : Nat) : 256 * (a ^^^ b) = 256 * a ^^^ 256 * b := by
  have := Nat.shiftLeft_xor_distrib (a := a) (b := b) (i := 8)
  simpa [Nat.shiftLeft_eq, Nat.mul_comm] using this
/-- The check of a message is that of its number. -/
theorem crcGo_num (l : List UInt8) (c : Nat) : crcGo l c = crcSteps (8 * l.length) (c ^^^ leNum l) := by
  induction l generalizing c with
  | nil => show c = crcSteps 0 (c ^^^ 0); rw [Nat.xor_zero]; rfl
  | cons x l ih =>
    show crcGo l (crcByte c x.toNat) = _
    rw [ih, show 8 * (x :: l).length = 8 * l.length + 8 by simp; omega, crcSteps_add]
    congr 1
    show crcSteps 8 (c ^^^ x.toNat) ^^^ leNum l = crcSteps 8 (c ^^^ (x.toNat ^^^ 256 * leNum l))
    rw [← Nat.xor_assoc, crcSteps_xor 8 (c ^^^ x.toNat), crcSteps_shift 8 (leNum l)]
theorem xor_cancel {a b c : Nat} (h : a ^^^ b = a ^^^ c) : b = c := by
  have := congrArg (a ^^^ ·) h
  simpa [← Nat.xor_assoc] using this
theorem crcOf_inj {l l' : List UInt8} (h : crcOf l = crcOf l') : crcGo l 4294967295 = crcGo l' 4294967295 := by
  unfold crcOf at h
  have h1 := crcGo_lt l (c := 4294967295) (by omega)
  have h2 := crcGo_lt l' (c := 4294967295) (by omega)
  omega
/-- A change within 32 consecutive bits changes the check. -/
theorem crc_burst (l l' : List UInt8) (at_ bits : Nat) (hl : l.length = l'.length) (hd : leNum l' = leNum l ^^^ 2 ^ at_ * bits) (hb : bits < 4294967296) (h0 : bits ≠ 0) (ha : at_ ≤ 8 * l.length) : crcOf l ≠ crcOf l' := by
  intro he
  have h := crcOf_inj he
  rw [crcGo_num, crcGo_num, hd, ← hl, ← Nat.xor_assoc, crcSteps_xor (8 * l.length) (4294967295 ^^^ leNum l)] at h
  have h2 : crcSteps (8 * l.length) (2 ^ at_ * bits) = 0 := by
    have : crcSteps (8 * l.length) (4294967295 ^^^ leNum l) ^^^ 0 = crcSteps (8 * l.length) (4294967295 ^^^ leNum l) ^^^ crcSteps (8 * l.length) (2 ^ at_ * bits) := by rw [Nat.xor_zero]; exact h
    exact (xor_cancel this).symm
  rw [show 8 * l.length = (8 * l.length - at_) + at_ by omega, crcSteps_add, crcSteps_shift] at h2
  exact crcSteps_ne _ hb h0 h2

/-- Bit r of byte q turned. -/
theorem leNum_flip (l : List UInt8) (q r : Nat) (hq : q < l.length) (hr : r < 8) : leNum (l.set q (UInt8.ofNat (bt l q ^^^ 2 ^ r))) = leNum l ^^^ 2 ^ (8 * q + r) := by
  induction l generalizing q with
  | nil => simp at hq
  | cons x l ih =>
    cases q with
    | zero =>
      have hp : 2 ^ r < 256 := Nat.lt_of_lt_of_le (Nat.pow_lt_pow_right (by omega) hr) (by decide)
      have hx : bt (x :: l) 0 = x.toNat := rfl
      show (UInt8.ofNat (bt (x :: l) 0 ^^^ 2 ^ r)).toNat ^^^ 256 * leNum l = (x.toNat ^^^ 256 * leNum l) ^^^ 2 ^ (8 * 0 + r)
      rw [hx, UInt8.toNat_ofNat', Nat.mod_eq_of_lt (Nat.xor_lt_two_pow (n := 8) x.toNat_lt hp), Nat.mul_zero, Nat.zero_add, Nat.xor_assoc, Nat.xor_comm (2 ^ r), ← Nat.xor_assoc]
    | succ q =>
      have hb : bt (x :: l) (q + 1) = bt l q := rfl
      show x.toNat ^^^ 256 * leNum (l.set q (UInt8.ofNat (bt (x :: l) (q + 1) ^^^ 2 ^ r))) = (x.toNat ^^^ 256 * leNum l) ^^^ 2 ^ (8 * (q + 1) + r)
      rw [hb, ih q (by simpa using hq), mul_xor, ← Nat.xor_assoc, show 8 * (q + 1) + r = 8 + (8 * q + r) by omega, Nat.pow_add 2 8]
theorem xor_top (i y : Nat) (h : y < 2 ^ i) : 2 ^ i ^^^ y = 2 ^ i + y := by
  induction i generalizing y with
  | zero => obtain rfl : y = 0 := by simpa using h
            rfl
  | succ i ih =>
    have hp : 2 ^ (i + 1) = 2 * 2 ^ i := by rw [Nat.pow_succ, Nat.mul_comm]
    have h1 : (2 ^ (i + 1) ^^^ y) / 2 = 2 ^ i + y / 2 := by
      rw [Nat.xor_div_two, hp, Nat.mul_div_cancel_left _ (by omega), ih (y / 2) (by omega)]
    have h2 := xor_mod2 (2 ^ (i + 1)) y
    omega
theorem flip_next (from_ B i : Nat) (h : B / 2 ^ i % 2 = 1) : 2 ^ from_ * (B % 2 ^ i) ^^^ 2 ^ (from_ + i) = 2 ^ from_ * (B % 2 ^ (i + 1)) := by
  have e1 : B % 2 ^ (i + 1) = B % 2 ^ i + 2 ^ i := by
    rw [Nat.pow_succ, Nat.mod_mul, h, Nat.mul_one]
  have hlt : B % 2 ^ i < 2 ^ i := Nat.mod_lt _ (Nat.pow_pos (by omega))
  have hlt2 : 2 ^ from_ * (B % 2 ^ i) < 2 ^ (from_ + i) := by
    rw [Nat.pow_add]; exact Nat.mul_lt_mul_of_pos_left hlt (Nat.pow_pos (by omega))
  rw [Nat.xor_comm, xor_top _ _ hlt2, e1, Nat.mul_add, ← Nat.pow_add, Nat.add_comm]
theorem flip_same (B i : Nat) (h : B / 2 ^ i % 2 = 0) : B % 2 ^ (i + 1) = B % 2 ^ i := by
  rw [Nat.pow_succ, Nat.mod_mul, h]; omega

/-- The bytewise sum of three lists. -/
def xor3 : List UInt8 → List UInt8 → List UInt8 → List UInt8
  | x :: a, y :: b, z :: c => UInt8.ofNat (x.toNat ^^^ y.toNat ^^^ z.toNat) :: xor3 a b c
  | _, _, _ => []
theorem xor3_toNat (x y z : UInt8) : (UInt8.ofNat (x.toNat ^^^ y.toNat ^^^ z.toNat)).toNat = x.toNat ^^^ y.toNat ^^^ z.toNat := by
  rw [UInt8.toNat_ofNat', Nat.mod_eq_of_lt]
  exact Nat.xor_lt_two_pow (n := 8) (Nat.xor_lt_two_pow (n := 8) x.toNat_lt y.toNat_lt) z.toNat_lt
theorem xor_six (a b c x y z : Nat) : (a ^^^ b ^^^ c) ^^^ (x ^^^ y ^^^ z) = (a ^^^ x) ^^^ (b ^^^ y) ^^^ (c ^^^ z) := by
  apply Nat.eq_of_testBit_eq
  intro j
  simp only [Nat.testBit_xor]
  cases a.testBit j <;> cases b.testBit j <;> cases c.testBit j <;> cases x.testBit j <;> cases y.testBit j <;> cases z.testBit j <;> rfl
theorem crcGo_xor3 : ∀ (a b c : List UInt8) (s t u : Nat), a.length = b.length → b.length = c.length → crcGo (xor3 a b c) (s ^^^ t ^^^ u) = crcGo a s ^^^ crcGo b t ^^^ crcGo c u
  | [], [], [], s, t, u, _, _ => rfl
  | x :: a, y :: b, z :: c, s, t, u, h1, h2 => by
    show crcGo (xor3 a b c) (crcByte (s ^^^ t ^^^ u) (UInt8.ofNat (x.toNat ^^^ y.toNat ^^^ z.toNat)).toNat) = crcGo a (crcByte s x.toNat) ^^^ crcGo b (crcByte t y.toNat) ^^^ crcGo c (crcByte u z.toNat)
    rw [xor3_toNat]
    have e : crcByte (s ^^^ t ^^^ u) (x.toNat ^^^ y.toNat ^^^ z.toNat) = crcByte s x.toNat ^^^ crcByte t y.toNat ^^^ crcByte u z.toNat := by
      unfold crcByte
      rw [xor_six, crcSteps_xor, crcSteps_xor]
    rw [e]
    exact crcGo_xor3 a b c _ _ _ (by simpa using h1) (by simpa using h2)
  | [], _ :: _, _, _, _, _, h1, _ => by simp at h1
  | _ :: _, [], _, _, _, _, h1, _ => by simp at h1
  | [], [], _ :: _, _, _, _, _, h2 => by simp at h2
  | _ :: _, _ :: _, [], _, _, _, _, h2 => by simp at h2
theorem crcOf_xor3 (a b c : List UInt8) (h1 : a.length = b.length) (h2 : b.length = c.length) : crcOf (xor3 a b c) = crcOf a ^^^ crcOf b ^^^ crcOf c := by
  have h := crcGo_xor3 a b c 4294967295 4294967295 4294967295 h1 h2
  rw [Nat.xor_self, Nat.zero_xor] at h
  have hc : ∀ l, crcOf l = 4294967295 ^^^ crcGo l 4294967295 := fun l => by
    have := xor_ones 32 (crcGo l 4294967295) (crcGo_lt l (by omega))
    rw [show 2 ^ 32 - 1 = 4294967295 by decide] at this
    rw [this]; rfl
  rw [hc, hc, hc, hc, h, ← xor_six, Nat.xor_self, Nat.zero_xor]

end Go.Proofs.Ythndjngimfoanaa
