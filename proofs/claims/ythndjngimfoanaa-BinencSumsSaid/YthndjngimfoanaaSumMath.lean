/-
  Plain mathematics of the Internet checksum: it hangs on the sum of the words alone; data followed by its own checksum gives 0; a zero byte at an odd end changes nothing.
  Conditions: none beyond what each theorem says.
-/
import Derived.Test.YthndjngimfoanaaSum
namespace Go.Proofs.Ythndjngimfoanaa

/-- The sum with end-around carry of words whose plain sum is T. -/
def norm (T : Nat) : Nat := if T = 0 then 0 else (T - 1) % 65535 + 1
theorem norm_add (T v : Nat) (hv : v ≤ 65535) : add16 (norm T) v = norm (T + v) := by
  unfold add16 norm
  by_cases hT : T = 0
  · subst hT
    by_cases h0 : v = 0
    · subst h0; rfl
    · rw [if_pos rfl, if_neg (by omega), if_neg (by omega)]; omega
  · rw [if_neg hT, if_neg (show ¬ T + v = 0 by omega)]
    split <;> omega
def total (f : Nat → Nat) : Nat → Nat
  | 0 => 0
  | k + 1 => total f k + f k
theorem sumW_norm (f : Nat → Nat) (hf : ∀ i, f i ≤ 65535) (k : Nat) : sumW f k = norm (total f k) := by
  induction k with
  | zero => rfl
  | succ k ih => show add16 (sumW f k) (f k) = norm (total f k + f k); rw [ih, norm_add _ _ (hf k)]
theorem norm_le (T : Nat) : norm T ≤ 65535 := by unfold norm; split <;> omega

/-- The words as bytes, each with its upper byte first. -/
def wBytes : List Nat → List UInt8
  | [] => []
  | x :: l => UInt8.ofNat (x / 256) :: UInt8.ofNat x :: wBytes l
theorem length_wBytes (ws : List Nat) : (wBytes ws).length = 2 * ws.length := by
  induction ws with
  | nil => rfl
  | cons x ws ih => show (wBytes ws).length + 1 + 1 = _; rw [ih, List.length_cons]; omega
theorem wBytes_snoc (ws : List Nat) (x : Nat) : wBytes (ws ++ [x]) = wBytes ws ++ [UInt8.ofNat (x / 256), UInt8.ofNat x] := by
  induction ws with
  | nil => rfl
  | cons y ws ih => show _ :: _ :: wBytes (ws ++ [x]) = _; rw [ih]; rfl
theorem bt_wBytes : ∀ (ws : List Nat) (rest : List UInt8) (i : Nat), (∀ x ∈ ws, x ≤ 65535) → i < ws.length → wordAt (wBytes ws ++ rest) i = ws.getD i 0
  | [], _, _, _, h => by simp at h
  | x :: ws, rest, 0, hw, _ => by
    have hx := hw x (by simp)
    show (UInt8.ofNat (x / 256)).toNat * 256 + (UInt8.ofNat x).toNat = x
    rw [UInt8.toNat_ofNat', UInt8.toNat_ofNat']; omega
  | x :: ws, rest, i + 1, hw, h => by
    have ih := bt_wBytes ws rest i (fun y hy => hw y (by simp [hy])) (by simpa using h)
    have e : wordAt (wBytes (x :: ws) ++ rest) (i + 1) = wordAt (wBytes ws ++ rest) i := by
      unfold wordAt
      rw [show 2 * (i + 1) = 2 * i + 1 + 1 by omega]
      rfl
    rw [e, ih]; rfl
theorem total_getD (f : Nat → Nat) (ws : List Nat) : ∀ k, k ≤ ws.length → (∀ i, i < ws.length → f i = ws.getD i 0) → total f k = (ws.take k).sum
  | 0, _, _ => by simp [total]
  | k + 1, hk, hf => by
    show total f k + f k = _
    rw [total_getD f ws k (by omega) hf, hf k (by omega), List.take_succ_eq_append_getElem (by omega), List.sum_append, List.getD_eq_getElem?_getD, List.getElem?_eq_getElem (by omega)]
    simp
theorem sumOf_words (ws : List Nat) (hw : ∀ x ∈ ws, x ≤ 65535) : sumOf (wBytes ws) = 65535 - norm ws.sum := by
  unfold sumOf
  rw [length_wBytes, show (2 * ws.length + 1) / 2 = ws.length by omega, sumW_norm _ (wordAt_le _)]
  rw [total_getD _ ws ws.length (Nat.le_refl _) (fun i hi => by have := bt_wBytes ws [] i hw hi; rw [List.append_nil] at this; exact this), List.take_length]
theorem sumOf_own (ws : List Nat) (hw : ∀ x ∈ ws, x ≤ 65535) : sumOf (wBytes (ws ++ [65535 - norm ws.sum])) = 0 := by
  have hn := norm_le ws.sum
  have hw' : ∀ x ∈ ws ++ [65535 - norm ws.sum], x ≤ 65535 := by
    intro x hx
    rcases List.mem_append.1 hx with h | h
    · exact hw x h
    · simp at h; omega
  rw [sumOf_words _ hw', List.sum_append]
  have := norm_add ws.sum (65535 - norm ws.sum) (by omega)
  simp only [List.sum_cons, List.sum_nil, Nat.add_zero]
  rw [← this]
  unfold add16
  rw [if_neg (by omega)]; omega
theorem sumOf_zero (l : List UInt8) (h : l.length % 2 = 1) : sumOf (l ++ [0]) = sumOf l := by
  unfold sumOf
  have e : wordAt (l ++ [0]) = wordAt l := by
    have hb : ∀ j, bt (l ++ [0]) j = bt l j := fun j => by
      unfold bt
      rw [List.getD_eq_getElem?_getD, List.getD_eq_getElem?_getD]
      rcases Nat.lt_or_ge j l.length with hj | hj
      · rw [List.getElem?_append_left hj]
      · rw [List.getElem?_append_right hj, List.getElem?_eq_none hj]
        rcases Nat.eq_zero_or_pos (j - l.length) with h0 | h0
        · rw [h0]; rfl
        · rw [List.getElem?_eq_none (by simp; omega)]
    funext i
    unfold wordAt
    rw [hb, hb]
  rw [e, List.length_append]
  simp only [List.length_cons, List.length_nil]
  rw [show (l.length + (0 + 1) + 1) / 2 = (l.length + 1) / 2 by omega]
theorem sum_rotate (ws : List Nat) (k : Nat) : (ws.drop k ++ ws.take k).sum = ws.sum := by
  have h := congrArg List.sum (List.take_append_drop k ws)
  rw [List.sum_append] at h
  rw [List.sum_append]; omega
theorem getD_rotate (ws : List Nat) (k i : Nat) (hk : k ≤ ws.length) (hi : i < ws.length) : (ws.drop k ++ ws.take k).getD i 0 = ws.getD ((i + k) % ws.length) 0 := by
  rw [List.getD_eq_getElem?_getD, List.getD_eq_getElem?_getD]
  rcases Nat.lt_or_ge i (ws.length - k) with h | h
  · rw [List.getElem?_append_left (by rw [List.length_drop]; exact h), List.getElem?_drop, Nat.mod_eq_of_lt (by omega), Nat.add_comm]
  · rw [List.getElem?_append_right (by rw [List.length_drop]; exact h), List.length_drop, List.getElem?_take, if_pos (by omega)]
    have e : (i + k) % ws.length = i - (ws.length - k) := by
      rw [Nat.mod_eq_sub_mod (by omega), Nat.mod_eq_of_lt (by omega)]; omega
    rw [e]

end Go.Proofs.Ythndjngimfoanaa
