/-
  Plain facts on variable-length integers: what is encoded is decoded, wherever it stands; the length of an encoding. And the contract of Place.
  Conditions: none beyond what each theorem says.
-/
import Derived.Test.YthndjngimfoanaaBytesd
namespace Go.Proofs.Ythndjngimfoanaa
open Go.RowKit

theorem bt_mid (pre : List UInt8) (c : UInt8) (z : List UInt8) (j : Nat) (h : pre.length = j) : bt (pre ++ c :: z) j = c.toNat := by
  unfold bt; rw [List.getD_eq_getElem?_getD, List.getElem?_append_right (by omega), h, Nat.sub_self]; rfl
theorem ofNat_lt (x : Nat) (h : x < 256) : (UInt8.ofNat x).toNat = x := by rw [UInt8.toNat_ofNat']; omega

/-- What is encoded is decoded. -/
theorem uvD_uvar (rest : List UInt8) (o : Nat) : ∀ (f k acc x : Nat) (pre : List UInt8), f + k = 10 → pre.length = o + k → x * 128 ^ k < 18446744073709551616 → (k = 0 ∨ 0 < x) →
    uvD (pre ++ (uvarF f x ++ rest)) o f k acc = (acc + x * 128 ^ k, o + k + (uvarF f x).length, 0)
  | 0, k, acc, x, pre, hf, hp, hx, h0 => by
    obtain rfl : k = 10 := by omega
    have e : (128 : Nat) ^ 10 = 1180591620717411303424 := by decide
    rw [e] at hx
    omega
  | f + 1, k, acc, x, pre, hf, hp, hx, h0 => by
    have h9 : k = 9 → x < 2 := by
      rintro rfl
      have e : (128 : Nat) ^ 9 = 9223372036854775808 := by decide
      rw [e] at hx; omega
    by_cases hs : x < 128
    · rw [uvarF_last f x hs]
      have hb : bt (pre ++ ([UInt8.ofNat x] ++ rest)) (o + k) = x := by
        rw [show [UInt8.ofNat x] ++ rest = UInt8.ofNat x :: rest from rfl, bt_mid _ _ _ _ hp, ofNat_lt x (by omega)]
      rw [uvD_last rfl rfl (by simp; omega) hb.symm (by omega) (by omega) hs]
      rfl
    · rw [uvarF_more f x (by omega)]
      have hb : bt (pre ++ (UInt8.ofNat (x % 128 + 128) :: uvarF f (x / 128) ++ rest)) (o + k) = x % 128 + 128 := by
        rw [show UInt8.ofNat (x % 128 + 128) :: uvarF f (x / 128) ++ rest = UInt8.ofNat (x % 128 + 128) :: (uvarF f (x / 128) ++ rest) from rfl, bt_mid _ _ _ _ hp, ofNat_lt _ (by omega)]
      rw [uvD_more rfl rfl (by simp; omega) hb.symm (by omega) (by omega) (by omega)]
      have hn : x / 128 * 128 ^ (k + 1) ≤ x * 128 ^ k := more_next (Nat.le_refl _)
      have ih := uvD_uvar rest o f (k + 1) (acc + (x % 128 + 128 - 128) * 128 ^ k) (x / 128) (pre ++ [UInt8.ofNat (x % 128 + 128)]) (by omega) (by rw [List.length_append, hp]; simp; omega) (by omega) (.inr (by omega))
      rw [List.append_assoc] at ih
      refine Eq.trans ih ?_
      have e1 : acc + (x % 128 + 128 - 128) * 128 ^ k + x / 128 * 128 ^ (k + 1) = acc + x * 128 ^ k := by
        rw [Nat.pow_succ, Nat.mul_comm (128 ^ k) 128, ← Nat.mul_assoc, Nat.add_assoc, ← Nat.add_mul, show x % 128 + 128 - 128 + x / 128 * 128 = x by omega]
      rw [e1, List.length_cons, show o + (k + 1) + (uvarF f (x / 128)).length = o + k + ((uvarF f (x / 128)).length + 1) by omega]
theorem uvR_uvar (head : List UInt8) (x : Nat) (rest : List UInt8) (hx : x < 18446744073709551616) : uvR (head ++ (uvar x ++ rest)) (head.length : Int) = (x, head.length + (uvar x).length, 0) := by
  unfold uvR
  rw [if_neg (by simp; omega)]
  have := uvD_uvar rest head.length 10 0 0 x head rfl rfl (by omega) (.inl rfl)
  rw [Int.toNat_natCast]
  refine this.trans ?_
  simp [uvar]

/-- How many groups more follow when y is what is left. -/
def more (f y : Nat) : Nat := if y = 0 then 0 else (uvarF f y).length
theorem length_uvarF (f x : Nat) : (uvarF (f + 1) x).length = 1 + more f (x / 128) := by
  unfold more
  by_cases hs : x < 128
  · rw [uvarF_last f x hs, if_pos (by omega)]; rfl
  · rw [uvarF_more f x (by omega), if_neg (by omega)]; simp; omega
theorem more_step (f y : Nat) (h : 0 < y) : more (f + 1) y = 1 + more f (y / 128) := by
  show (if y = 0 then 0 else _) = _
  rw [if_neg (by omega), length_uvarF]

theorem emod_of_tmod (a m : Int) (hm : 0 < m) : (if a.tmod m < 0 then a.tmod m + m else a.tmod m) = a % m := by
  have h1 := Int.emod_nonneg a (show m ≠ 0 by omega)
  have h2 := Int.emod_lt_of_pos a hm
  rw [Int.tmod_eq_emod]
  split <;> split at * <;> omega

set_option maxRecDepth 20000 in
theorem place_any (a m : Int) (w : World) (hm : 0 < m) (hm2 : m ≤ 1099511627776) :
    Calls Try.prog 39 #[.int .i64 a, .int .i64 m] w fun e w' => e = .returned (.int .i64 (a % m)) ∧ w = w' := by
  have HE := Lib.hid (emod_of_tmod a m hm)
  have h1 : -m < a.tmod m := by
    have h := Int.lt_tmod_of_pos a hm
    omega
  have h2 : a.tmod m < m := Int.tmod_lt_of_pos a hm
  have hm0 : (m == 0) = false := by simp; omega
  go_enter Try.func39, Try.ntmps39
  go_wp2
  · have hlt : a.tmod m < 0 := by assumption
    go_ret
    have := HE.out
    rw [if_pos hlt] at this
    exact ⟨ret_k this, rfl⟩
  · have hge : 0 ≤ a.tmod m := by assumption
    go_ret
    have := HE.out
    rw [if_neg (by omega)] at this
    exact ⟨ret_k this, rfl⟩

end Go.Proofs.Ythndjngimfoanaa
