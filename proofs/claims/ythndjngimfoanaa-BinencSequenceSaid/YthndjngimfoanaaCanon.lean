/-
  Plain facts on variable-length integers: what is accepted is the encoding of the value; a shorter part of it is not accepted.
  Conditions: none beyond what each theorem says.
-/
import Derived.Test.YthndjngimfoanaaRound
namespace Go.Proofs.Ythndjngimfoanaa
open Go.RowKit

theorem drop_bt (l : List UInt8) (j : Nat) (h : j < l.length) : l.drop j = UInt8.ofNat (bt l j) :: l.drop (j + 1) := by
  rw [List.drop_eq_getElem_cons h]
  unfold bt
  rw [List.getD_eq_getElem?_getD, List.getElem?_eq_getElem h]
  simp
/-- What is accepted is the encoding of the value. -/
theorem uvD_canonical (l : List UInt8) (o v nx : Nat) : ∀ (f k acc : Nat), f + k = 10 → uvD l o f k acc = (v, nx, 0) → ∃ x, v = acc + x * 128 ^ k ∧ (l.drop (o + k)).take (nx - (o + k)) = uvarF f x ∧ (0 < k → 0 < x)
  | 0, k, acc, _, h => by simp [uvD] at h
  | f + 1, k, acc, hf, h => by
    have hbt := bt_lt l (o + k)
    by_cases h1 : l.length ≤ o + k
    · rw [uvD_end rfl rfl h1] at h; simp at h
    · by_cases h2 : k = 9 ∧ 1 < bt l (o + k)
      · rw [uvD_range rfl rfl (by omega) rfl h2.1 h2.2] at h; simp at h
      · by_cases h3 : 0 < k ∧ bt l (o + k) = 0
        · rw [uvD_canon rfl rfl (by omega) rfl h2 h3.1 h3.2] at h; simp at h
        · by_cases h4 : bt l (o + k) < 128
          · rw [uvD_last rfl rfl (by omega) rfl h2 h3 h4] at h
            simp only [Prod.mk.injEq] at h
            refine ⟨bt l (o + k), h.1.symm, ?_, by omega⟩
            rw [uvarF_last f _ h4, ← h.2.1, show o + k + 1 - (o + k) = 1 by omega, drop_bt l (o + k) (by omega)]
            rfl
          · have hn := uvD_next l o (f + 1) k acc (by rw [h])
            rw [uvD_more rfl rfl (by omega) rfl h2 h3 h4] at h
            have hn2 := uvD_next l o f (k + 1) (acc + (bt l (o + k) - 128) * 128 ^ k) (by rw [h])
            rw [h] at hn2
            simp only at hn2
            obtain ⟨x, hx, he, h0⟩ := uvD_canonical l o v nx f (k + 1) _ (by omega) h
            have hx0 := h0 (by omega)
            refine ⟨bt l (o + k) - 128 + 128 * x, ?_, ?_, fun _ => by omega⟩
            · rw [hx, Nat.pow_succ, Nat.add_mul, Nat.add_assoc, Nat.mul_comm (128 ^ k) 128, ← Nat.mul_assoc, Nat.mul_comm x 128]
            · rw [uvarF_more f _ (by omega), drop_bt l (o + k) (by omega), show nx - (o + k) = (nx - (o + (k + 1))) + 1 by omega, List.take_succ_cons, show (bt l (o + k) - 128 + 128 * x) % 128 + 128 = bt l (o + k) by omega, show (bt l (o + k) - 128 + 128 * x) / 128 = x by omega]
              rw [show o + k + 1 = o + (k + 1) by omega, he]
theorem uvD_short (l : List UInt8) (o v nx : Nat) : ∀ (f k acc : Nat), f + k = 10 → uvD l o f k acc = (v, nx, 0) → uvD (l.take (nx - 1)) o f k acc = (0, 0, 52)
  | 0, k, acc, _, h => by simp [uvD] at h
  | f + 1, k, acc, hf, h => by
    have hbt := bt_lt l (o + k)
    have hn := uvD_next l o (f + 1) k acc (by rw [h])
    rw [h] at hn
    simp only at hn
    have hlen : (l.take (nx - 1)).length = nx - 1 := by rw [List.length_take]; omega
    by_cases h1 : l.length ≤ o + k
    · rw [uvD_end rfl rfl h1] at h; simp at h
    · by_cases h2 : k = 9 ∧ 1 < bt l (o + k)
      · rw [uvD_range rfl rfl (by omega) rfl h2.1 h2.2] at h; simp at h
      · by_cases h3 : 0 < k ∧ bt l (o + k) = 0
        · rw [uvD_canon rfl rfl (by omega) rfl h2 h3.1 h3.2] at h; simp at h
        · by_cases h4 : bt l (o + k) < 128
          · rw [uvD_last rfl rfl (by omega) rfl h2 h3 h4] at h
            simp only [Prod.mk.injEq] at h
            exact uvD_end hlen rfl (by omega)
          · rw [uvD_more rfl rfl (by omega) rfl h2 h3 h4] at h
            have hn2 := uvD_next l o f (k + 1) (acc + (bt l (o + k) - 128) * 128 ^ k) (by rw [h])
            rw [h] at hn2
            simp only at hn2
            have hb : bt (l.take (nx - 1)) (o + k) = bt l (o + k) := bt_take l _ _ (by omega)
            rw [uvD_more hlen rfl (by omega) hb.symm h2 h3 h4]
            exact uvD_short l o v nx f (k + 1) _ (by omega) h

theorem drop_take_comm (l : List UInt8) (o nx : Nat) : (l.take nx).drop o = (l.drop o).take (nx - o) := by rw [List.drop_take]
theorem uvR_canonical (l : List UInt8) (o v nx : Nat) (h : (v, nx, 0) = uvR l (o : Int)) : uvar v = (l.take nx).drop o := by
  have hn := uvR_next l (o : Int) (by rw [← h])
  rw [← h] at hn
  simp only at hn
  unfold uvR at h
  rw [if_neg (by omega), Int.toNat_natCast] at h
  obtain ⟨x, hx, he, _⟩ := uvD_canonical l o v nx 10 0 0 rfl h.symm
  simp only [Nat.pow_zero, Nat.mul_one, Nat.zero_add, Nat.add_zero] at hx he
  rw [drop_take_comm, hx]; exact he.symm
theorem uvR_short (l : List UInt8) (o v nx : Nat) (h : (v, nx, 0) = uvR l (o : Int)) : uvR (l.take (nx - 1)) (o : Int) = (0, 0, 52) := by
  have hn := uvR_next l (o : Int) (by rw [← h])
  rw [← h] at hn
  simp only at hn
  unfold uvR at h ⊢
  rw [if_neg (by omega), Int.toNat_natCast] at h
  rw [if_neg (by rw [List.length_take]; omega), Int.toNat_natCast]
  exact uvD_short l o v nx 10 0 0 rfl h.symm
theorem zz_unzz (u : Nat) : zz (unzz u) = u := by
  unfold unzz; split
  · unfold zz; rw [if_pos (by omega)]; omega
  · unfold zz; rw [if_neg (by omega)]; omega
theorem unzz_bounds (u : Nat) (h : u < 18446744073709551616) : -9223372036854775808 ≤ unzz u ∧ unzz u ≤ 9223372036854775807 := by
  unfold unzz; split <;> omega
theorem bysR_canonical (l : List UInt8) (o k : Nat) (limit : Int) (p : List UInt8) (h : bysR l (o : Int) limit = (p, k, 0)) :
    uvar p.length ++ p = (l.take k).drop o ∧ o < k ∧ k ≤ l.length := by
  have hlow : ¬ (limit < 0 ∨ (o : Int) < 0 ∨ (l.length : Int) < o) := by
    intro hc; unfold bysR at h; rw [if_pos hc] at h; simp at h
  obtain ⟨R, hR⟩ : ∃ R, R = uvR l (o : Int) := ⟨_, rfl⟩
  obtain ⟨u, nx, er⟩ := R
  by_cases he : er = 0
  · subst he
    have hn := uvR_next l (o : Int) (by rw [← hR])
    rw [← hR] at hn
    simp only at hn
    by_cases h1 : limit < u
    · rw [bysR_limit (by omega) hR h1] at h; simp at h
    · by_cases h2 : l.length - nx < u
      · rw [bysR_short (by omega) hR h1 h2] at h; simp at h
      · rw [bysR_ok (by omega) hR h1 h2] at h
        simp only [Prod.mk.injEq] at h
        obtain ⟨rfl, rfl, _⟩ := h
        have hc := uvR_canonical l o u nx hR
        have hlen : ((l.take (nx + u)).drop nx).length = u := by rw [List.length_drop, List.length_take]; omega
        refine ⟨?_, by omega, by omega⟩
        rw [hlen, hc]
        have e : l.take nx = (l.take (nx + u)).take nx := by rw [List.take_take]; congr 1; omega
        rw [e]
        have hs := List.take_append_drop nx (l.take (nx + u))
        conv => rhs; rw [← hs]
        rw [List.drop_append_of_le_length (by rw [List.length_take, List.length_take]; omega)]
  · rw [bysR_err (by omega) hR he] at h
    simp only [Prod.mk.injEq] at h
    exact absurd h.2.2 he

end Go.Proofs.Ythndjngimfoanaa
