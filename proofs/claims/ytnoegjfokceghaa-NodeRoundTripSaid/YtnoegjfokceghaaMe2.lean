/-
  The program's decoder of numbers and Ids in plain words: what is read is the encoding, and an encoding is read.
  Conditions: none beyond what each theorem says.
  The program's reader of numbers: number and id.
  Conditions: the bytes lie below the reader's block.
  The reference's reader of numbers in plain words: it undoes PutUvarint.
  Conditions: none.
-/
import Derived.Test.YtnoegjfokceghaaMe1
import Derived.Test.YtnoegjfokceghaaNah
import Derived.Test.YtnoegjfokceghaaCaf
import Derived.Test.YtnoegjfokceghaaNmp
import Derived.Test.YtnoegjfokceghaaNag
namespace Go.Proofs.Ytnoegjfokceghaa
open Go.RowKit

theorem enc_len (c : GC) : (encC c).length = 10 := rfl
theorem bI_u8 (n : Int) : (((u8 n).toNat : Nat) : Int) = n % 256 := u8_val n
theorem raw_enc {c : GC} (h : vC c = true) : rawC (encC c) = c ∧ bI (encC c) 2 < 16 := by
  obtain ⟨hv, n0, n1, k0, k1, r0, r1, d0, d1, l0, l1⟩ := vC_facts h
  have hb0 := hv.b0
  have htp := hv.top
  have hsp := sz_pos c.rng
  obtain ⟨k, b, n, r, wd, l, d⟩ := c
  simp only [GC.rng] at hb0 htp hsp
  have e0 : bI (encC ⟨k, b, n, r, wd, l, d⟩) 0 = k % 256 := u8_val k
  have e1 : bI (encC ⟨k, b, n, r, wd, l, d⟩) 1 = n % 256 := u8_val n
  have e2 : bI (encC ⟨k, b, n, r, wd, l, d⟩) 2 = (if d = true then r + 8 else r) % 256 := u8_val _
  have e3 : bI (encC ⟨k, b, n, r, wd, l, d⟩) 3 = wd % 256 := u8_val wd
  have e4 : bI (encC ⟨k, b, n, r, wd, l, d⟩) 4 = l % 256 := u8_val l
  have e5 : bI (encC ⟨k, b, n, r, wd, l, d⟩) 5 = b % 256 := u8_val b
  have e6 : bI (encC ⟨k, b, n, r, wd, l, d⟩) 6 = b / 256 % 256 := u8_val _
  have e7 : bI (encC ⟨k, b, n, r, wd, l, d⟩) 7 = b / 65536 % 256 := u8_val _
  have e8 : bI (encC ⟨k, b, n, r, wd, l, d⟩) 8 = b / 16777216 % 256 := u8_val _
  have e9 : bI (encC ⟨k, b, n, r, wd, l, d⟩) 9 = b / 4294967296 % 256 := u8_val _
  have ep : pB (encC ⟨k, b, n, r, wd, l, d⟩) 5 = b := by
    show bI _ 5 + bI _ 6 * 256 + bI _ 7 * 65536 + bI _ 8 * 16777216 + bI _ 9 * 4294967296 = b
    rw [e5, e6, e7, e8, e9]
    omega
  unfold rawC
  rw [ep, e0, e1, e2, e3, e4]
  simp only at *
  cases d
  · simp only [Bool.false_eq_true, if_false]
    refine ⟨?_, by omega⟩
    rw [Int.emod_eq_of_lt (by omega) (by omega), Int.emod_eq_of_lt (show 0 ≤ n by omega) (by omega), Int.emod_eq_of_lt (show 0 ≤ r by omega) (by omega), Int.emod_eq_of_lt (show 0 ≤ wd by omega) (by omega), Int.emod_eq_of_lt (show 0 ≤ l by omega) (by omega), Int.emod_eq_of_lt (show 0 ≤ r by omega) (by omega), show decide (8 ≤ r) = false from decide_eq_false (by omega)]
  · simp only [if_true]
    refine ⟨?_, by omega⟩
    rw [Int.emod_eq_of_lt (by omega) (by omega), Int.emod_eq_of_lt (show 0 ≤ n by omega) (by omega), Int.emod_eq_of_lt (show 0 ≤ r + 8 by omega) (by omega), Int.emod_eq_of_lt (show 0 ≤ wd by omega) (by omega), Int.emod_eq_of_lt (show 0 ≤ l by omega) (by omega), show (r + 8) % 8 = r by omega, show decide (8 ≤ r + 8) = true from decide_eq_true (by omega)]
theorem dec_enc {c : GC} (h : vC c = true) : decC (encC c) = c ∧ decE (encC c) = 0 := by
  obtain ⟨e, h2⟩ := raw_enc h
  have hp : decP (encC c) := ⟨rfl, h2, by rw [e]; exact h⟩
  unfold decC decE
  rw [if_pos hp, if_pos hp]
  exact ⟨e, rfl⟩
theorem enc_dec {l : List UInt8} (h : decP l) : encC (rawC l) = l := by
  obtain ⟨h10, h2, _⟩ := h
  match l, h10 with
  | [a0, a1, a2, a3, a4, a5, a6, a7, a8, a9], _ =>
    have b : ∀ a : UInt8, 0 ≤ (a.toNat : Int) ∧ (a.toNat : Int) < 256 := fun a => by have := a.toNat_lt; omega
    have e0 : bI [a0, a1, a2, a3, a4, a5, a6, a7, a8, a9] 0 = a0.toNat := rfl
    have e1 : bI [a0, a1, a2, a3, a4, a5, a6, a7, a8, a9] 1 = a1.toNat := rfl
    have e2 : bI [a0, a1, a2, a3, a4, a5, a6, a7, a8, a9] 2 = a2.toNat := rfl
    have e3 : bI [a0, a1, a2, a3, a4, a5, a6, a7, a8, a9] 3 = a3.toNat := rfl
    have e4 : bI [a0, a1, a2, a3, a4, a5, a6, a7, a8, a9] 4 = a4.toNat := rfl
    have ep : pB [a0, a1, a2, a3, a4, a5, a6, a7, a8, a9] 5 = (a5.toNat : Int) + a6.toNat * 256 + a7.toNat * 65536 + a8.toNat * 16777216 + a9.toNat * 4294967296 := rfl
    rw [e2] at h2
    have p5 := b a5
    have p6 := b a6
    have p7 := b a7
    have p8 := b a8
    have p9 := b a9
    have p2 := b a2
    unfold encC headC baseC rawC
    simp only [e0, e1, e2, e3, e4, ep, u8_back]
    have key : ∀ (n : Int) (a : UInt8), n % 256 = (a.toNat : Int) → u8 n = a := fun n a hn => by
      apply UInt8.toNat_inj.1
      have := u8_val n
      omega
    generalize hS : (a5.toNat : Int) + a6.toNat * 256 + a7.toNat * 65536 + a8.toNat * 16777216 + a9.toNat * 4294967296 = S
    rw [key S a5 (by omega), key (S / 256) a6 (by omega), key (S / 65536) a7 (by omega), key (S / 16777216) a8 (by omega), key (S / 4294967296) a9 (by omega)]
    have hr : u8 (if decide (8 ≤ (a2.toNat : Int)) = true then (a2.toNat : Int) % 8 + 8 else (a2.toNat : Int) % 8) = a2 := by
      refine key _ a2 ?_
      split
      · rename_i h; have := of_decide_eq_true h; omega
      · rename_i h; have : ¬ 8 ≤ (a2.toNat : Int) := fun h' => h (decide_eq_true h'); omega
    rw [hr]
    rfl
theorem uvar_pos (v : Nat) : 0 < (uvar v).length := by
  unfold uvar
  rcases Nat.lt_or_ge v 128 with h | h
  · rw [uvarF_last 9 v h]; simp
  · rw [uvarF_more 9 v h]; simp
theorem uvD_next (l : List UInt8) (o : Nat) : ∀ (f k acc : Nat), (uvD l o f k acc).2.2 = 0 → o + k < (uvD l o f k acc).2.1 ∧ (uvD l o f k acc).2.1 ≤ l.length
  | 0, k, acc => by simp [uvD]
  | f + 1, k, acc => by
    by_cases h1 : l.length ≤ o + k
    · rw [uvD_end rfl rfl h1]; simp
    · by_cases h2 : k = 9 ∧ 1 < bt l (o + k)
      · rw [uvD_range rfl rfl (by omega) rfl h2.1 h2.2]; simp
      · by_cases h3 : 0 < k ∧ bt l (o + k) = 0
        · rw [uvD_canon rfl rfl (by omega) rfl h2 h3.1 h3.2]; simp
        · by_cases h4 : bt l (o + k) < 128
          · rw [uvD_last rfl rfl (by omega) rfl h2 h3 h4]
            intro _
            show o + k < o + k + 1 ∧ o + k + 1 ≤ _
            omega
          · rw [uvD_more rfl rfl (by omega) rfl h2 h3 h4]
            intro h
            have := uvD_next l o f (k + 1) _ h
            omega
theorem uvR_next (l : List UInt8) (off : Int) (h : (uvR l off).2.2 = 0) : 0 ≤ off ∧ off < (uvR l off).2.1 ∧ (uvR l off).2.1 ≤ l.length := by
  unfold uvR at h ⊢
  split at h
  · simp at h
  · rename_i hr
    rw [if_neg hr]
    have := uvD_next l off.toNat 10 0 0 h
    omega

theorem bt_mid (pre : List UInt8) (c : UInt8) (z : List UInt8) (j : Nat) (h : pre.length = j) : bt (pre ++ c :: z) j = c.toNat := by
  unfold bt; rw [List.getD_eq_getElem?_getD, List.getElem?_append_right (by omega), h, Nat.sub_self]; rfl
theorem ofNat_lt (x : Nat) (h : x < 256) : (UInt8.ofNat x).toNat = x := by rw [UInt8.toNat_ofNat']; omega

/-- What is encoded is decoded. -/
theorem uvD_uvar (rest : List UInt8) (o : Nat) : ∀ (f k acc x : Nat) (pre : List UInt8), f + k = 10 → pre.length = o + k → x * 128 ^ k < 18446744073709551616 → (k = 0 ∨ 0 < x) →
    uvD (pre ++ (uvarF f x ++ rest)) o f k acc = (acc + x * 128 ^ k, o + k + (uvarF f x).length, 0)
  | 0, k, acc, x, pre, hf, hp, hx, h0 => by
    obtain rfl : k = 10 := by omega
    have e : (128 : Nat) ^ 10 = 1180591620717411303424 := by decide
    rw [e] at hx
    omega
  | f + 1, k, acc, x, pre, hf, hp, hx, h0 => by
    have h9 : k = 9 → x < 2 := by
      rintro rfl
      have e : (128 : Nat) ^ 9 = 9223372036854775808 := by decide
      rw [e] at hx; omega
    by_cases hs : x < 128
    · rw [uvarF_last f x hs]
      have hb : bt (pre ++ ([UInt8.ofNat x] ++ rest)) (o + k) = x := by
        rw [show [UInt8.ofNat x] ++ rest = UInt8.ofNat x :: rest from rfl, bt_mid _ _ _ _ hp, ofNat_lt x (by omega)]
      rw [uvD_last rfl rfl (by simp; omega) hb.symm (by omega) (by omega) hs]
      rfl
    · rw [uvarF_more f x (by omega)]
      have hb : bt (pre ++ (UInt8.ofNat (x % 128 + 128) :: uvarF f (x / 128) ++ rest)) (o + k) = x % 128 + 128 := by
        rw [show UInt8.ofNat (x % 128 + 128) :: uvarF f (x / 128) ++ rest = UInt8.ofNat (x % 128 + 128) :: (uvarF f (x / 128) ++ rest) from rfl, bt_mid _ _ _ _ hp, ofNat_lt _ (by omega)]
      rw [uvD_more rfl rfl (by simp; omega) hb.symm (by omega) (by omega) (by omega)]
      have hn : x / 128 * 128 ^ (k + 1) ≤ x * 128 ^ k := more_next (Nat.le_refl _)
      have ih := uvD_uvar rest o f (k + 1) (acc + (x % 128 + 128 - 128) * 128 ^ k) (x / 128) (pre ++ [UInt8.ofNat (x % 128 + 128)]) (by omega) (by rw [List.length_append, hp]; simp; omega) (by omega) (.inr (by omega))
      rw [List.append_assoc] at ih
      refine Eq.trans ih ?_
      have e1 : acc + (x % 128 + 128 - 128) * 128 ^ k + x / 128 * 128 ^ (k + 1) = acc + x * 128 ^ k := by
        rw [Nat.pow_succ, Nat.mul_comm (128 ^ k) 128, ← Nat.mul_assoc, Nat.add_assoc, ← Nat.add_mul, show x % 128 + 128 - 128 + x / 128 * 128 = x by omega]
      rw [e1, List.length_cons, show o + (k + 1) + (uvarF f (x / 128)).length = o + k + ((uvarF f (x / 128)).length + 1) by omega]
theorem uvR_uvar (head : List UInt8) (x : Nat) (rest : List UInt8) (hx : x < 18446744073709551616) : uvR (head ++ (uvar x ++ rest)) (head.length : Int) = (x, head.length + (uvar x).length, 0) := by
  unfold uvR
  rw [if_neg (by simp; omega)]
  have := uvD_uvar rest head.length 10 0 0 x head rfl rfl (by omega) (.inl rfl)
  rw [Int.toNat_natCast]
  refine this.trans ?_
  simp [uvar]

theorem drop_bt (l : List UInt8) (j : Nat) (h : j < l.length) : l.drop j = UInt8.ofNat (bt l j) :: l.drop (j + 1) := by
  rw [List.drop_eq_getElem_cons h]
  unfold bt
  rw [List.getD_eq_getElem?_getD, List.getElem?_eq_getElem h]
  simp
/-- What is accepted is the encoding of the value. -/
theorem uvD_canonical (l : List UInt8) (o v nx : Nat) : ∀ (f k acc : Nat), f + k = 10 → uvD l o f k acc = (v, nx, 0) → ∃ x, v = acc + x * 128 ^ k ∧ (l.drop (o + k)).take (nx - (o + k)) = uvarF f x ∧ (0 < k → 0 < x)
  | 0, k, acc, _, h => by simp [uvD] at h
  | f + 1, k, acc, hf, h => by
    have hbt := bt_lt l (o + k)
    by_cases h1 : l.length ≤ o + k
    · rw [uvD_end rfl rfl h1] at h; simp at h
    · by_cases h2 : k = 9 ∧ 1 < bt l (o + k)
      · rw [uvD_range rfl rfl (by omega) rfl h2.1 h2.2] at h; simp at h
      · by_cases h3 : 0 < k ∧ bt l (o + k) = 0
        · rw [uvD_canon rfl rfl (by omega) rfl h2 h3.1 h3.2] at h; simp at h
        · by_cases h4 : bt l (o + k) < 128
          · rw [uvD_last rfl rfl (by omega) rfl h2 h3 h4] at h
            simp only [Prod.mk.injEq] at h
            refine ⟨bt l (o + k), h.1.symm, ?_, by omega⟩
            rw [uvarF_last f _ h4, ← h.2.1, show o + k + 1 - (o + k) = 1 by omega, drop_bt l (o + k) (by omega)]
            rfl
          · have hn := uvD_next l o (f + 1) k acc (by rw [h])
            rw [uvD_more rfl rfl (by omega) rfl h2 h3 h4] at h
            have hn2 := uvD_next l o f (k + 1) (acc + (bt l (o + k) - 128) * 128 ^ k) (by rw [h])
            rw [h] at hn2
            simp only at hn2
            obtain ⟨x, hx, he, h0⟩ := uvD_canonical l o v nx f (k + 1) _ (by omega) h
            have hx0 := h0 (by omega)
            refine ⟨bt l (o + k) - 128 + 128 * x, ?_, ?_, fun _ => by omega⟩
            · rw [hx, Nat.pow_succ, Nat.add_mul, Nat.add_assoc, Nat.mul_comm (128 ^ k) 128, ← Nat.mul_assoc, Nat.mul_comm x 128]
            · rw [uvarF_more f _ (by omega), drop_bt l (o + k) (by omega), show nx - (o + k) = (nx - (o + (k + 1))) + 1 by omega, List.take_succ_cons, show (bt l (o + k) - 128 + 128 * x) % 128 + 128 = bt l (o + k) by omega, show (bt l (o + k) - 128 + 128 * x) / 128 = x by omega]
              rw [show o + k + 1 = o + (k + 1) by omega, he]
theorem drop_take_comm (l : List UInt8) (o nx : Nat) : (l.take nx).drop o = (l.drop o).take (nx - o) := by rw [List.drop_take]
theorem uvR_canonical (l : List UInt8) (o v nx : Nat) (h : (v, nx, 0) = uvR l (o : Int)) : uvar v = (l.take nx).drop o := by
  have hn := uvR_next l (o : Int) (by rw [← h])
  rw [← h] at hn
  simp only at hn
  unfold uvR at h
  rw [if_neg (by omega), Int.toNat_natCast] at h
  obtain ⟨x, hx, he, _⟩ := uvD_canonical l o v nx 10 0 0 rfl h.symm
  simp only [Nat.pow_zero, Nat.mul_one, Nat.zero_add, Nat.add_zero] at hx he
  rw [drop_take_comm, hx]; exact he.symm
theorem uvD_lt (l : List UInt8) (o : Nat) : ∀ (f k acc : Nat), f + k = 10 → acc < 128 ^ k → (uvD l o f k acc).2.2 = 0 → (uvD l o f k acc).1 < 18446744073709551616
  | 0, k, acc, _, _, h => by simp [uvD] at h
  | f + 1, k, acc, hf, ha, h => by
    have hbt := bt_lt l (o + k)
    by_cases h1 : l.length ≤ o + k
    · rw [uvD_end rfl rfl h1] at h; simp at h
    · by_cases h2 : k = 9 ∧ 1 < bt l (o + k)
      · rw [uvD_range rfl rfl (by omega) rfl h2.1 h2.2] at h; simp at h
      · by_cases h3 : 0 < k ∧ bt l (o + k) = 0
        · rw [uvD_canon rfl rfl (by omega) rfl h2 h3.1 h3.2] at h; simp at h
        · by_cases h4 : bt l (o + k) < 128
          · rw [uvD_last rfl rfl (by omega) rfl h2 h3 h4]
            simp only
            rcases Nat.lt_or_ge k 9 with h9 | h9
            · have hp := pow7_le (show k ≤ 8 by omega)
              have hm : bt l (o + k) * 128 ^ k ≤ 127 * 128 ^ k := Nat.mul_le_mul_right _ (by omega)
              omega
            · obtain rfl : k = 9 := by omega
              have e9 : (128 : Nat) ^ 9 = 9223372036854775808 := by decide
              rw [e9] at ha ⊢
              have hx : bt l (o + 9) ≤ 1 := by
                rcases Nat.lt_or_ge 1 (bt l (o + 9)) with h | h
                · exact absurd ⟨rfl, h⟩ h2
                · exact h
              have : bt l (o + 9) * 9223372036854775808 ≤ 1 * 9223372036854775808 := Nat.mul_le_mul_right _ hx
              omega
          · rw [uvD_more rfl rfl (by omega) rfl h2 h3 h4] at h ⊢
            exact uvD_lt l o f (k + 1) _ (by omega) (pow_step acc _ k ha (by omega)) h
/-- The reader: the offset, and whether a number was missing. -/
def numP (l : List UInt8) (s : Nat × Bool) : Int × (Nat × Bool) := if s.2 = true then (0, s) else if (uvR l s.1).2.2 = 0 then (IntKind.i64.wrap ((uvR l s.1).1 : Nat), ((uvR l s.1).2.1, false)) else (0, (s.1, true))
theorem numP_ok {l : List UInt8} {s : Nat × Bool} (h : (numP l s).2.2 = false) : s.2 = false ∧ (numP l s).2.1 ≤ l.length ∧ ∃ v : Nat, (numP l s).1 = IntKind.i64.wrap v ∧ v < 18446744073709551616 ∧ l.drop s.1 = uvar v ++ l.drop (numP l s).2.1 := by
  unfold numP at h ⊢
  by_cases hb : s.2 = true
  · rw [if_pos hb] at h; rw [hb] at h; cases h
  · rw [if_neg hb] at h ⊢
    have hb2 : s.2 = false := by simpa using hb
    by_cases he : (uvR l s.1).2.2 = 0
    · rw [if_pos he] at h ⊢
      obtain ⟨_, n1, n2⟩ := uvR_next l (s.1 : Int) he
      refine ⟨hb2, n2, _, rfl, ?_, ?_⟩
      · have h2 := he
        unfold uvR at h2 ⊢
        split
        · simp
        · rename_i hr
          rw [if_neg hr] at h2
          exact uvD_lt l _ 10 0 0 rfl (by decide) h2
      · have hc := uvR_canonical l s.1 (uvR l s.1).1 (uvR l s.1).2.1 (by rw [← he])
        rw [hc]
        simp only
        generalize (uvR l (s.1 : Int)).2.1 = nx at *
        have e : l.drop s.1 = (l.take nx ++ l.drop nx).drop s.1 := by rw [List.take_append_drop]
        rw [e, List.drop_append_of_le_length (by rw [List.length_take]; omega)]
    · rw [if_neg he] at h; cases h
theorem numP_bad {l : List UInt8} {s : Nat × Bool} (h : s.2 = true) : (numP l s).2.2 = true := by unfold numP; rw [if_pos h]; exact h
theorem numP_at {l r : List UInt8} {o v : Nat} (hv : v < 9223372036854775808) (ho : o ≤ l.length) (h : l.drop o = uvar v ++ r) : numP l (o, false) = ((v : Int), (o + (uvar v).length, false)) ∧ l.drop (o + (uvar v).length) = r ∧ o + (uvar v).length ≤ l.length := by
  have e : l = l.take o ++ (uvar v ++ r) := by rw [← h, List.take_append_drop]
  have ht : (l.take o).length = o := by rw [List.length_take]; omega
  have hu := uvR_uvar (l.take o) v r (by omega)
  rw [← e, ht] at hu
  refine ⟨?_, ?_, ?_⟩
  · unfold numP
    rw [if_neg (by simp)]
    simp only [hu, if_true]
    have : IntKind.i64.wrap (v : Int) = v := by rw [IntKind.wrap_i64]; omega
    rw [this]
  · rw [← List.drop_drop, h, List.drop_left]
  · have := congrArg List.length h
    rw [List.length_drop, List.length_append] at this
    have h2 := uvar_pos v
    omega
/-- An Id. -/
def idP (l : List UInt8) (s : Nat × Bool) : GId × (Nat × Bool) := (⟨(numP l s).1, (numP l (numP l s).2).1, (numP l (numP l (numP l s).2).2).1⟩, (numP l (numP l (numP l s).2).2).2)
theorem wrap_small {v : Nat} (hv : v < 18446744073709551616) (h : 0 ≤ IntKind.i64.wrap (v : Int)) : (IntKind.i64.wrap (v : Int)).toNat = v := by
  rw [IntKind.wrap_i64] at h ⊢; omega
theorem idP_ok {l : List UInt8} {s : Nat × Bool} (h : (idP l s).2.2 = false) (hi : vI (idP l s).1 = true) : s.2 = false ∧ (idP l s).2.1 ≤ l.length ∧ l.drop s.1 = idL (idP l s).1 ++ l.drop (idP l s).2.1 := by
  unfold idP at h hi ⊢
  simp only at h ⊢
  obtain ⟨c0, _, o0, _, p0, _⟩ := vI_iff.1 hi
  simp only at c0 o0 p0
  obtain ⟨b3, l3, v3, e3, m3, d3⟩ := numP_ok h
  obtain ⟨b2, l2, v2, e2, m2, d2⟩ := numP_ok b3
  obtain ⟨b1, l1, v1, e1, m1, d1⟩ := numP_ok b2
  refine ⟨b1, l3, ?_⟩
  rw [d1, d2, d3]
  unfold idL
  simp only
  rw [e1] at c0 ⊢
  rw [e2] at o0 ⊢
  rw [e3] at p0 ⊢
  rw [wrap_small m1 c0, wrap_small m2 (by omega), wrap_small m3 p0]
  simp
theorem idP_at {l r : List UInt8} {o : Nat} {x : GId} (hx : vI x = true) (ho : o ≤ l.length) (h : l.drop o = idL x ++ r) : ∃ o', idP l (o, false) = (x, (o', false)) ∧ l.drop o' = r ∧ o' ≤ l.length := by
  obtain ⟨c0, c1, o0, o1, p0, p1⟩ := vI_iff.1 hx
  obtain ⟨xc, xo, xp⟩ := x
  simp only at c0 c1 o0 o1 p0 p1
  unfold idL at h
  simp only [List.append_assoc] at h
  obtain ⟨f1, g1, h1⟩ := numP_at (by omega) ho h
  obtain ⟨f2, g2, h2⟩ := numP_at (by omega) h1 g1
  obtain ⟨f3, g3, h3⟩ := numP_at (by omega) h2 g2
  refine ⟨_, ?_, g3, h3⟩
  unfold idP
  rw [f1]
  simp only
  rw [f2]
  simp only
  rw [f3]
  simp only [Prod.mk.injEq, GId.mk.injEq, and_true]
  omega
/-- So many Ids. -/
def idsP (l : List UInt8) : Nat → Nat × Bool → List GId × (Nat × Bool)
  | 0, s => ([], s)
  | k + 1, s => ((idsP l k s).1 ++ [(idP l (idsP l k s).2).1], (idP l (idsP l k s).2).2)
theorem idsP_len (l : List UInt8) (k : Nat) (s : Nat × Bool) : (idsP l k s).1.length = k := by
  induction k with
  | zero => rfl
  | succ k ih => rw [idsP, List.length_append, ih]; rfl
theorem idsP_ok {l : List UInt8} {s : Nat × Bool} : ∀ (k : Nat), (idsP l k s).2.2 = false → (∀ y ∈ (idsP l k s).1, vI y = true) → s.1 ≤ l.length → s.2 = false ∧ (idsP l k s).2.1 ≤ l.length ∧ l.drop s.1 = (idsP l k s).1.flatMap idL ++ l.drop (idsP l k s).2.1
  | 0, h, _, hs => ⟨h, hs, by simp [idsP]⟩
  | k + 1, h, hv, hs => by
    rw [idsP] at h hv ⊢
    simp only at h hv ⊢
    obtain ⟨a1, a2, a3⟩ := idP_ok h (hv _ (by simp))
    obtain ⟨b1, b2, b3⟩ := idsP_ok k a1 (fun y hy => hv y (by simp [hy])) hs
    refine ⟨b1, a2, ?_⟩
    rw [b3, a3, List.flatMap_append]
    simp
theorem idsP_at {l : List UInt8} {xs : List GId} (hx : ∀ y ∈ xs, vI y = true) {o : Nat} (ho : o ≤ l.length) {r : List UInt8} (h : l.drop o = xs.flatMap idL ++ r) : ∀ k, k ≤ xs.length → ∃ o', idsP l k (o, false) = (xs.take k, (o', false)) ∧ l.drop o' = (xs.drop k).flatMap idL ++ r ∧ o' ≤ l.length
  | 0, _ => ⟨o, rfl, by simpa using h, ho⟩
  | k + 1, hk => by
    obtain ⟨o1, e1, d1, l1⟩ := idsP_at hx ho h k (by omega)
    rw [List.drop_eq_getElem_cons (show k < xs.length by omega), List.flatMap_cons, List.append_assoc] at d1
    obtain ⟨o2, e2, d2, l2⟩ := idP_at (hx _ (List.getElem_mem _)) l1 d1
    refine ⟨o2, ?_, d2, l2⟩
    rw [idsP, e1]
    simp only
    rw [e2]
    simp only
    rw [List.take_succ_eq_append_getElem (show k < xs.length by omega)]
theorem dec_yes {l : List UInt8} (h : decP l) : decE l = 0 ∧ vC (decC l) = true ∧ encC (decC l) = l := by
  have e : decC l = rawC l := by unfold decC; rw [if_pos h]
  refine ⟨by unfold decE; rw [if_pos h], by rw [e]; exact h.2.2, by rw [e]; exact enc_dec h⟩
theorem dec_no {l : List UInt8} (h : ¬ decP l) : decE l = 14 ∧ decC l = zC := by
  unfold decC decE
  rw [if_neg h, if_neg h]
  exact ⟨rfl, rfl⟩
/-- What Decode makes of bytes. -/
def dec1 (l : List UInt8) : GId × (Nat × Bool) := idP l (0, false)
def dec2 (l : List UInt8) : Int × (Nat × Bool) := numP l (dec1 l).2
def dec3 (l : List UInt8) : List GId × (Nat × Bool) := idsP l (dec2 l).1.toNat (dec2 l).2
def decN (l : List UInt8) : GN := ⟨(dec1 l).1, (dec3 l).1, decC (l.drop (dec3 l).2.1)⟩
def okN (l : List UInt8) : Prop := (0 ≤ (dec2 l).1 ∧ (dec2 l).1 ≤ 8) ∧ (dec3 l).2.2 = false ∧ decE (l.drop (dec3 l).2.1) = 0 ∧ vN (decN l) = true
/-- What is said of a decoder's answer. -/
def DecOk (l : List UInt8) (x : GN) (e : Int) : Prop := (e = 0 ∧ vN x = true ∧ encN x = l) ∨ (e = 14 ∧ x = ⟨⟨0, 0, 0⟩, [], ⟨0, 0, 0, 0, 0, 0, false⟩⟩ ∧ ∀ y, vN y = true → encN y ≠ l)
theorem okN_enc {l : List UInt8} (h : okN l) : vN (decN l) = true ∧ encN (decN l) = l := by
  obtain ⟨⟨k0, k8⟩, hb, hd, hv⟩ := h
  refine ⟨hv, ?_⟩
  obtain ⟨f1, f2, f3, f4, f5, f6⟩ := vN_facts hv
  have hp : decP (l.drop (dec3 l).2.1) := by
    by_cases hp : decP (l.drop (dec3 l).2.1)
    · exact hp
    · rw [(dec_no hp).1] at hd; cases hd
  obtain ⟨_, _, g3⟩ := dec_yes hp
  have hvi : ∀ y ∈ (dec3 l).1, vI y = true := fun y hy => by
    obtain ⟨j, hj, e⟩ := List.getElem_of_mem hy
    rw [← e]
    exact f4 j hj
  unfold dec3 at hb hvi
  by_cases hz : (dec2 l).2.2 = false
  · obtain ⟨a1, a2, v2, a3, a4, a5⟩ := numP_ok (l := l) (s := (dec1 l).2) hz
    obtain ⟨b1, b2, b3⟩ := idP_ok (l := l) (s := (0, false)) a1 f1
    obtain ⟨c1, c2, c3⟩ := idsP_ok (l := l) (s := (dec2 l).2) _ hb hvi a2
    have hv2 : (dec2 l).1.toNat = v2 := by
      have e : (dec2 l).1 = IntKind.i64.wrap v2 := a3
      rw [e] at k0 ⊢
      exact wrap_small a4 k0
    have hl : (dec3 l).1.length = v2 := by unfold dec3; rw [idsP_len, hv2]
    unfold encN hdN decN
    simp only
    rw [hl, g3]
    have e1 : l = idL (dec1 l).1 ++ l.drop (dec1 l).2.1 := by rw [List.drop_zero] at b3; exact b3
    have e2 : l.drop (dec1 l).2.1 = uvar v2 ++ l.drop (dec2 l).2.1 := a5
    have e3 : l.drop (dec2 l).2.1 = (dec3 l).1.flatMap idL ++ l.drop (dec3 l).2.1 := c3
    conv => rhs; rw [e1, e2, e3]
    simp
  · exfalso
    have hz2 : (dec2 l).2.2 = true := by simpa using hz
    have : ∀ k, (idsP l k (dec2 l).2).2.2 = true := by
      intro k
      induction k with
      | zero => exact hz2
      | succ k ih => rw [idsP]; unfold idP; exact numP_bad (numP_bad (numP_bad ih))
    rw [this] at hb
    cases hb
theorem enc_okN {x : GN} (hv : vN x = true) : okN (encN x) ∧ decN (encN x) = x := by
  obtain ⟨f1, f2, f3, f4, f5, f6⟩ := vN_facts hv
  have hvi : ∀ y ∈ x.path, vI y = true := fun y hy => by
    obtain ⟨j, hj, e⟩ := List.getElem_of_mem hy
    rw [← e]; exact f4 j hj
  have e0 : (encN x).drop 0 = idL x.id ++ (uvar x.path.length ++ (x.path.flatMap idL ++ encC x.cap)) := by simp [encN, hdN]
  obtain ⟨o1, g1, d1, l1⟩ := idP_at f1 (Nat.zero_le _) e0
  obtain ⟨g2, d2, l2⟩ := numP_at (by omega) l1 d1
  obtain ⟨o3, g3, d3, l3⟩ := idsP_at hvi l2 d2 x.path.length (Nat.le_refl _)
  have h1 : dec1 (encN x) = (x.id, (o1, false)) := g1
  have h2 : dec2 (encN x) = ((x.path.length : Int), (o1 + (uvar x.path.length).length, false)) := by unfold dec2; rw [h1]; exact g2
  have h3 : dec3 (encN x) = (x.path, (o3, false)) := by unfold dec3; rw [h2]; simp only [Int.toNat_natCast]; rw [g3, List.take_length]
  have h4 : (encN x).drop o3 = encC x.cap := by rw [d3]; simp
  obtain ⟨q1, q2⟩ := dec_enc f2
  have hd : decN (encN x) = x := by unfold decN; rw [h1, h3]; simp only; rw [h4, q1]
  refine ⟨⟨?_, ?_, ?_, by rw [hd]; exact hv⟩, hd⟩
  · rw [h2]; simp only; omega
  · rw [h3]
  · rw [h3]; simp only; rw [h4, q2]
theorem DecOk.of_ok {l : List UInt8} (h : okN l) : DecOk l (decN l) 0 := .inl ⟨rfl, okN_enc h⟩
theorem DecOk.of_not {l : List UInt8} (h : ¬ okN l) : DecOk l ⟨⟨0, 0, 0⟩, [], ⟨0, 0, 0, 0, 0, 0, false⟩⟩ 14 := .inr ⟨rfl, rfl, fun y hy e => h (by rw [← e]; exact (enc_okN hy).1)⟩
theorem DecOk.one {l : List UInt8} {x y : GN} {e f : Int} (h : DecOk l x e) (k : DecOk l y f) : x = y ∧ e = f := by
  rcases h with ⟨rfl, hv, he⟩ | ⟨rfl, rfl, hn⟩ <;> rcases k with ⟨rfl, kv, ke⟩ | ⟨rfl, rfl, kn⟩
  · have a := (enc_okN hv).2
    have b := (enc_okN kv).2
    rw [he] at a
    rw [ke] at b
    exact ⟨a.symm.trans b, rfl⟩
  · exact absurd he (kn _ hv)
  · exact absurd ke (hn _ kv)
  · exact ⟨rfl, rfl⟩
end Go.Proofs.Ytnoegjfokceghaa


namespace Go.Proofs.Ytnoegjfokceghaa
open Go.RowKit

/-- The reader lies in block R. -/
def RD (W : World) (R : Nat) (A : Option Addr) (n c : Nat) (s : Nat × Bool) : Prop := W.heap[R]? = some (.cells #[.slice A n c, .int .i64 (s.1 : Int), .bool s.2] 76 (0, 0))
theorem RD.lt {W : World} {R : Nat} {A : Option Addr} {n c : Nat} {s : Nat × Bool} (h : RD W R A n c s) : R < W.heap.size := by
  rcases Nat.lt_or_ge R W.heap.size with h1 | h1
  · exact h1
  · unfold RD at h; rw [Array.getElem?_eq_none h1] at h; cases h
theorem RD.cells {W : World} {R : Nat} {A : Option Addr} {n c : Nat} {s : Nat × Bool} (h : RD W R A n c s) : W.cell? ⟨R, 0, none⟩ = some (.slice A n c) ∧ W.cell? ⟨R, 1, none⟩ = some (.int .i64 (s.1 : Int)) ∧ W.cell? ⟨R, 2, none⟩ = some (.bool s.2) := by
  unfold RD at h
  exact ⟨by rw [Lib.cell_of_heap h]; rfl, by rw [Lib.cell_of_heap h]; rfl, by rw [Lib.cell_of_heap h]; rfl⟩
theorem RD.frz {W : World} {R : Nat} {A : Option Addr} {n c : Nat} {s : Nat × Bool} (h : RD W R A n c s) (j : Nat) : W.frozen? ⟨R, j, none⟩ = false := Lib.frozen_of_heap h j
theorem RD.next {W W' : World} {R : Nat} {A : Option Addr} {n c : Nat} {s : Nat × Bool} (h : RD W R A n c s) (hb : Below W.heap.size W W') : RD W' R A n c s := (hb.block R h.lt).trans h
theorem RD.fail {W : World} {R : Nat} {A : Option Addr} {n c : Nat} {s : Nat × Bool} (h : RD W R A n c s) : RD (W.setCell ⟨R, 2, none⟩ (.bool true)) R A n c (s.1, true) := by
  unfold RD at *
  simp [World.setCell, Array.getElem?_modify, h]
theorem RD.move {W : World} {R : Nat} {A : Option Addr} {n c : Nat} {s : Nat × Bool} (h : RD W R A n c s) (k : Nat) : RD (W.setCell ⟨R, 1, none⟩ (.int .i64 (k : Int))) R A n c (k, s.2) := by
  unfold RD at *
  simp [World.setCell, Array.getElem?_modify, h]
/-- Nothing but block R has changed. -/
def Ko (R : Nat) (W W' : World) : Prop := W.grownBy W' (some R)
theorem Ko.trans {R : Nat} {a b c : World} (h : Ko R a b) (k : Ko R b c) : Ko R a c :=
  ⟨k.os.trans h.os, k.tape.trans h.tape, k.output.trans h.output, Nat.le_trans h.size k.size, fun j hj hne => (k.block j (Nat.lt_of_lt_of_le hj h.size) hne).trans (h.block j hj hne)⟩
theorem Ko.bel {R : Nat} {a b : World} (h : Below a.heap.size a b) : Ko R a b := ⟨h.os, h.tape, h.output, h.size, fun j hj _ => h.block j hj⟩
theorem Ko.set {R : Nat} {a b : World} (h : Ko R a b) (j : Nat) (v : Value) : Ko R a (b.setCell ⟨R, j, none⟩ v) :=
  ⟨h.os, h.tape, h.output, Nat.le_trans h.size (by simp), fun i hi hne => (Below.heap_setCell b ⟨R, j, none⟩ v i (fun e => hne (by rw [e]))).trans (h.block i hi hne)⟩
theorem Ko.below {R B : Nat} {a b w : World} (h : Ko R a b) (hw : Below B w a) (hB : B ≤ a.heap.size) (hR : B ≤ R) : Below B w b := hw.grown h hB (fun j e => by cases e; exact hR)
set_option maxRecDepth 20000 in
set_option maxHeartbeats 2000000 in
theorem pNum_any (R : Nat) (A : Option Addr) (n c : Nat) (l : List UInt8) (s : Nat × Bool) (w : World) (hr : RD w R A n c s) (hb : Byt w R A n l) (hn : n ≤ 4294967296) :
    Calls Try.prog 56 #[.pointer (some ⟨R, 0, none⟩)] w fun e w' => e = .returned (.int .i64 (numP l s).1) ∧ RD w' R A n c (numP l s).2 ∧ Ko R w w' := by
  obtain ⟨r0, r1, r2⟩ := hr.cells
  have hRl := hr.lt
  have rf := hr.frz
  have HR := Lib.hid hr
  have HU := Lib.hid fun W (hW : Below w.heap.size w W) => uvarint_any A n c R (s.1 : Int) l W (hb.below (hW.mono (by omega))) hn
  have HP : Hid (numP l s = if s.2 = true then (0, s) else if (uvR l s.1).2.2 = 0 then (IntKind.i64.wrap ((uvR l s.1).1 : Nat), ((uvR l s.1).2.1, false)) else (0, (s.1, true))) := Lib.hid rfl
  generalize numP l s = q at *
  generalize uvR l (s.1 : Int) = u at *
  clear hb hr
  obtain ⟨o, bad⟩ := s
  obtain ⟨u0, u1, u2⟩ := u
  simp only at *
  go_enter Try.func56, Try.ntmps56
  rcases bad with _ | _
  rotate_left
  · have HQ : Hid (q = (0, (o, true))) := Lib.hid (by rw [HP.out, if_pos rfl])
    go_wp2
    go_ret
    rw [HQ.out]
    exact ⟨rfl, HR.out, Ko.bel (Below.refl _ _)⟩
  go_upto_region 3 with fail
  have hS := (Below.refl w.heap.size w).drew
  refine wp_region_growS (S := fun W => Below w.heap.size w W) [(0, true), (1, true), (2, true), (3, true), (4, true), (5, true), (6, true), (7, true), (8, false), (9, true), (10, true), (13, true), (11, true), (14, true), (12, true), (15, true)] (by kernel_rfl) (by kernel_rfl) (by kernel_rfl) (by kernel_rfl) (by intro c a d v w h; cases d <;> exact h) hS ?_
  iterate 8
    (first
      | (refine wpGrowS_float (v := ?_) (by simp only [List.getElem?_toArray, List.getElem?_cons_succ, List.getElem?_cons_zero]; rfl) (by rfl) ?_ ?_
         rotate_left
         · (intro W hW; have t0 := (hW.cell (p := ⟨R, 0, none⟩) hRl).trans r0; have t1 := (hW.cell (p := ⟨R, 1, none⟩) hRl).trans r1; have t2 := (hW.cell (p := ⟨R, 2, none⟩) hRl).trans r2; (try simp only at *); go_simp; try with_reducible rfl)
         simp only [Act.put, List.setIfInBounds_toArray, List.set_cons_zero, List.set_cons_succ])
      | (refine wpGrowS_skip (by simp only [List.getElem?_toArray, List.getElem?_cons_succ, List.getElem?_cons_zero]; rfl) (by rfl) ?_
         simp only [Act.put, List.setIfInBounds_toArray, List.set_cons_zero, List.set_cons_succ]))
  refine wpGrowS_call (by simp only [List.getElem?_toArray, List.getElem?_cons_succ, List.getElem?_cons_zero]; rfl) (by rfl) fun K hK => ?_
  go_simp
  go_fit (HU.out _ hS)
  rintro e wn ⟨rfl, rfl⟩
  go_simp
  refine hK _ _ hS ?_
  clear hK K
  try simp only [Act.put, List.setIfInBounds_toArray, List.set_cons_zero, List.set_cons_succ]
  iterate 7
    (first
      | (refine wpGrowS_float (v := ?_) (by simp only [List.getElem?_toArray, List.getElem?_cons_succ, List.getElem?_cons_zero]; rfl) (by rfl) ?_ ?_
         rotate_left
         · (intro W hW; have t0 := (hW.cell (p := ⟨R, 0, none⟩) hRl).trans r0; have t1 := (hW.cell (p := ⟨R, 1, none⟩) hRl).trans r1; have t2 := (hW.cell (p := ⟨R, 2, none⟩) hRl).trans r2; (try simp only at *); go_simp; try with_reducible rfl)
         simp only [Act.put, List.setIfInBounds_toArray, List.set_cons_zero, List.set_cons_succ])
      | (refine wpGrowS_skip (by simp only [List.getElem?_toArray, List.getElem?_cons_succ, List.getElem?_cons_zero]; rfl) (by rfl) ?_
         simp only [Act.put, List.setIfInBounds_toArray, List.set_cons_zero, List.set_cons_succ]))
  refine wpGrowS_nil ?_
  have HRS := Lib.hid (HR.out.next hS)
  have HBS := Lib.hid hS
  clear hS r0 r1 r2 rf hRl HR
  obtain ⟨r0, r1, r2⟩ := HRS.out.cells
  have hRl := HRS.out.lt
  have rf := HRS.out.frz
  simp only at r0 r1 r2
  by_cases hu : u2 = 0
  · have f1 : (u2 != 0) = false := by simp [hu]
    have HQ : Hid (q = (IntKind.i64.wrap (u0 : Int), (u1, false))) := Lib.hid (by rw [HP.out, if_neg (by simp), if_pos hu])
    have HM := Lib.hid (HRS.out.move u1)
    have HW : Hid (wrap64 (u0 : Int) = IntKind.i64.wrap (u0 : Int)) := Lib.hid (by rw [IntKind.wrap_i64]; unfold wrap64; omega)
    clear hu
    go_wp2
    go_ret
    rw [HQ.out]
    exact ⟨congrArg (fun z => Ending.returned (Value.int .i64 z)) HW.out, HM.out, (Ko.bel HBS.out).set _ _⟩
  · have f1 : (u2 != 0) = true := by simp [hu]
    have HQ : Hid (q = (0, (o, true))) := Lib.hid (by rw [HP.out, if_neg (by simp), if_neg hu])
    have HM := Lib.hid HRS.out.fail
    clear hu
    go_wp2
    go_ret
    rw [HQ.out]
    exact ⟨rfl, HM.out, (Ko.bel HBS.out).set _ _⟩
set_option maxRecDepth 20000 in
set_option maxHeartbeats 2000000 in
theorem pRid_any (R : Nat) (A : Option Addr) (n c : Nat) (l : List UInt8) (s : Nat × Bool) (w : World) (hr : RD w R A n c s) (hb : Byt w R A n l) (hn : n ≤ 4294967296) :
    Calls Try.prog 55 #[.pointer (some ⟨R, 0, none⟩)] w fun e w' => e = .returned (idP l s).1.val ∧ RD w' R A n c (idP l s).2 ∧ Ko R w w' := by
  have HN := Lib.hid fun s' W (h : RD W R A n c s') (hk : Ko R w W) => pNum_any R A n c l s' W h (hb.below (hk.below (Below.refl _ _) (by have := hr.lt; omega) (Nat.le_refl _))) hn
  have HR := Lib.hid (hr.next (belt (Below.refl _ w) (.cells #[.int .i64 0, .int .i64 0, .int .i64 0] 23)))
  have HK : Hid (Ko R w (w.alloc (.cells #[.int .i64 0, .int .i64 0, .int .i64 0] 23))) := Lib.hid (Ko.bel (belt (Below.refl _ w) _))
  have HI := Lib.hid (IB.new w ⟨0, 0, 0⟩)
  have HRL := Lib.hid hr.lt
  have HQ : Hid (idP l s = (⟨(numP l s).1, (numP l (numP l s).2).1, (numP l (numP l (numP l s).2).2).1⟩, (numP l (numP l (numP l s).2).2).2)) := Lib.hid rfl
  rw [HQ.out]
  clear HQ hb hr
  simp only [GId.val]
  generalize h1 : numP l s = a1
  generalize h2 : numP l a1.2 = a2
  generalize h3 : numP l a2.2 = a3
  have HN1 := Lib.hid (HN.out s)
  have HN2 := Lib.hid (HN.out a1.2)
  have HN3 := Lib.hid (HN.out a2.2)
  rw [h1] at HN1
  rw [h2] at HN2
  rw [h3] at HN3
  clear h1 h2 h3 HN
  go_enter Try.func55, Try.ntmps55
  go_wp2_with fail
  go_fit (HN1.out _ HR.out HK.out)
  rintro e w1 ⟨rfl, hr1, hk1⟩
  have HI1 := Lib.hid (show IB w1 w.heap.size ⟨0, 0, 0⟩ from (hk1.block _ (by simp) (fun e => by cases e; have := HRL.out; omega)).trans HI.out)
  have HR1 := Lib.hid hr1
  have HK1 := Lib.hid (HK.out.trans hk1)
  clear hr1 hk1 HI HR HK HN1
  go_wp2_with fail
  go_fit (HN2.out _ HR1.out HK1.out)
  rintro e w2 ⟨rfl, hr2, hk2⟩
  have HI2 := Lib.hid (show IB w2 w.heap.size ⟨0, 0, 0⟩ from (hk2.block _ HI1.out.lt (fun e => by cases e; have := HRL.out; omega)).trans HI1.out)
  have HR2 := Lib.hid hr2
  have HK2 := Lib.hid (HK1.out.trans hk2)
  clear hr2 hk2 HI1 HR1 HK1 HN2
  go_wp2_with fail
  go_fit (HN3.out _ HR2.out HK2.out)
  rintro e w3 ⟨rfl, hr3, hk3⟩
  have HI3 := Lib.hid (show IB w3 w.heap.size ⟨0, 0, 0⟩ from (hk3.block _ HI2.out.lt (fun e => by cases e; have := HRL.out; omega)).trans HI2.out)
  have HR3 := Lib.hid hr3
  have HK3 := Lib.hid (HK2.out.trans hk3)
  clear hr3 hk3 HI2 HR2 HK2 HN3
  obtain ⟨z0, z1, z2⟩ := HI3.out.cells
  have zf := HI3.out.frz
  have zl := HI3.out.lt
  simp only at z0 z1 z2
  have HKA : Hid (∀ (W : World) j v, Ko R w W → Ko R w (W.setCell ⟨w.heap.size, j, none⟩ v)) := Lib.hid fun W j v h => ⟨h.os, h.tape, h.output, Nat.le_trans h.size (by simp), fun i hi hne => (Below.heap_setCell W ⟨w.heap.size, j, none⟩ v i (by show i ≠ w.heap.size; omega)).trans (h.block i hi hne)⟩
  have HRA : Hid (∀ (W : World) j v, RD W R A n c a3.2 → RD (W.setCell ⟨w.heap.size, j, none⟩ v) R A n c a3.2) := Lib.hid fun W j v h => (Below.heap_setCell W ⟨w.heap.size, j, none⟩ v R (by have := HRL.out; show R ≠ w.heap.size; omega)).trans h
  go_wp2
  refine bodyPost_ret (v := .agg #[.int .i64 a1.1, .int .i64 a2.1, .int .i64 a3.1]) (by simp [results, Try.results55, go_sem, z0, z1, z2]) rfl ?_
  refine ⟨rfl, ?_, ?_⟩
  · repeat (refine HRA.out _ _ _ ?_)
    exact HR3.out
  · repeat (refine HKA.out _ _ _ ?_)
    exact HK3.out
end Go.Proofs.Ytnoegjfokceghaa


namespace Go.Proofs.Ytnoegjfokceghaa

structure RS12 where
  l : List UInt8
  bad : Bool
/-- Number: at most so many bytes more, the next byte's weight, what has been read. -/
def numR : Nat → Nat → Nat → RS12 → Nat × RS12
  | 0, _, _, s => (0, ⟨s.l, true⟩)
  | f + 1, m, a, s => if s.bad = true then (0, ⟨s.l, true⟩) else match s.l with
    | [] => (0, ⟨[], true⟩)
    | x :: r => if x.toNat < 128 then (a + x.toNat % 128 * m, ⟨r, false⟩) else numR f (m * 128) (a + x.toNat % 128 * m) ⟨r, false⟩
def numS (s : RS12) : Nat × RS12 := numR 5 1 0 s
theorem numR_uvar (r : List UInt8) : ∀ (f k m a v : Nat), v < 128 ^ (f + 1) → f ≤ k → numR (f + 1) m a ⟨uvarF (k + 1) v ++ r, false⟩ = (a + v * m, ⟨r, false⟩) := by
  intro f
  induction f with
  | zero =>
    intro k m a v hv _
    rw [Nat.pow_one] at hv
    rw [uvarF_last k v hv]
    have e : (UInt8.ofNat v).toNat = v := by simp; omega
    show (if false = true then _ else (if (UInt8.ofNat v).toNat < 128 then _ else _)) = _
    rw [if_neg (by simp), e, if_pos hv, Nat.mod_eq_of_lt hv]; rfl
  | succ f ih =>
    intro k m a v hv hk
    rcases Nat.lt_or_ge v 128 with h | h
    · rw [uvarF_last k v h]
      have e : (UInt8.ofNat v).toNat = v := by simp; omega
      show (if false = true then _ else (if (UInt8.ofNat v).toNat < 128 then _ else _)) = _
      rw [if_neg (by simp), e, if_pos h, Nat.mod_eq_of_lt h]; rfl
    · obtain ⟨k, rfl⟩ : ∃ j, k = j + 1 := ⟨k - 1, by omega⟩
      rw [uvarF_more (k + 1) v h]
      have e : (UInt8.ofNat (v % 128 + 128)).toNat = v % 128 + 128 := by simp; omega
      show (if false = true then _ else (if (UInt8.ofNat (v % 128 + 128)).toNat < 128 then _ else numR (f + 1) (m * 128) (a + (UInt8.ofNat (v % 128 + 128)).toNat % 128 * m) ⟨uvarF (k + 1) (v / 128) ++ r, false⟩)) = _
      rw [if_neg (by simp), e, if_neg (by omega), ih k (m * 128) _ (v / 128) (Nat.div_lt_of_lt_mul (by rw [Nat.pow_succ] at hv; omega)) (by omega)]
      have e2 : (v % 128 + 128) % 128 = v % 128 := by omega
      have e3 : v / 128 * (m * 128) = 128 * (v / 128) * m := by rw [Nat.mul_comm m 128, ← Nat.mul_assoc, Nat.mul_comm (v / 128) 128]
      rw [e2, e3, Nat.add_assoc, ← Nat.add_mul, Nat.mod_add_div]
theorem numS_uvar {v : Nat} (hv : v < 34359738368) (r : List UInt8) : numS ⟨uvar v ++ r, false⟩ = (v, ⟨r, false⟩) := by
  have h := numR_uvar r 4 9 1 0 v (by simpa using hv) (by omega)
  rw [Nat.zero_add, Nat.mul_one] at h
  exact h
theorem numR_len : ∀ (f m a : Nat) (s : RS12), (numR f m a s).2.l.length ≤ s.l.length ∧ ((numR f m a s).2.bad = false → (numR f m a s).2.l.length < s.l.length ∧ s.bad = false)
  | 0, _, _, s => ⟨Nat.le_refl _, fun h => by cases h⟩
  | f + 1, m, a, ⟨l, b⟩ => by
    unfold numR
    cases b with
    | true => exact ⟨Nat.le_refl _, fun h => by cases h⟩
    | false =>
      rw [if_neg (by simp)]
      cases l with
      | nil => exact ⟨Nat.le_refl _, fun h => by cases h⟩
      | cons x r =>
        simp only
        split
        · exact ⟨by simp, fun _ => ⟨by simp, trivial⟩⟩
        · have ih := numR_len f (m * 128) (a + x.toNat % 128 * m) ⟨r, false⟩
          simp only [List.length_cons] at ih ⊢
          exact ⟨by omega, fun h => ⟨by have := (ih.2 h).1; omega, trivial⟩⟩
/-- Reader.Id. -/
def idS (s : RS12) : GId × RS12 := (⟨((numS s).1 : Int), ((numS (numS s).2).1 : Int), ((numS (numS (numS s).2).2).1 : Int)⟩, (numS (numS (numS s).2).2).2)
theorem idS_idL {x : GId} (hx : vI x = true) (r : List UInt8) : idS ⟨idL x ++ r, false⟩ = (x, ⟨r, false⟩) := by
  obtain ⟨c0, c1, o0, o1, p0, p1⟩ := vI_iff.1 hx
  obtain ⟨xc, xo, xp⟩ := x
  simp only at c0 c1 o0 o1 p0 p1
  have e : idL ⟨xc, xo, xp⟩ ++ r = uvar xc.toNat ++ (uvar xo.toNat ++ (uvar xp.toNat ++ r)) := by unfold idL; simp
  unfold idS
  rw [e, numS_uvar (by omega), numS_uvar (by omega), numS_uvar (by omega)]
  simp only [Prod.mk.injEq, GId.mk.injEq, and_true]
  omega
/-- The first k Ids, asx the loop of DecodeNode reads them. -/
def idsS : Nat → RS12 → List GId × RS12
  | 0, s => ([], s)
  | k + 1, s => if s.bad = true then ([], s) else ((idS s).1 :: (idsS k (idS s).2).1, (idsS k (idS s).2).2)
theorem idsS_flat : ∀ (xs : List GId) (_ : ∀ k (hk : k < xs.length), vI xs[k] = true) (r : List UInt8), idsS xs.length ⟨xs.flatMap idL ++ r, false⟩ = (xs, ⟨r, false⟩)
  | [], _, r => rfl
  | x :: xs, h, r => by
    have hx : vI x = true := h 0 (by simp)
    have ih := idsS_flat xs (fun k hk => by have := h (k + 1) (by simpa using hk); simpa using this) r
    rw [List.length_cons, idsS, if_neg (by simp), List.flatMap_cons, List.append_assoc, idS_idL hx]
    simp only [ih]
end Go.Proofs.Ytnoegjfokceghaa
