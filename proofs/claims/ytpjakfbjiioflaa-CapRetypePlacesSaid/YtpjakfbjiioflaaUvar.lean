/-
  The contracts of AppendUvarint, AppendVarint and AppendBytes: each returns a new slice, the bytes of its argument followed by the encoding, and turns nothing that was there.
  Conditions: the arguments read as lists of bytes, each of at most 2^32 elements.
-/
import Derived.Test.YtpjakfbjiioflaaBase
import Derived.Test.YtpjakfbjiioflaaJoin
import Derived.Test.YtpjakfbjiioflaaPlain
namespace Go.Proofs.Ytpjakfbjiioflaa

open Go.RowKit

theorem more_le {k x v : Nat} (h : x * 128 ^ k ≤ v) (hx : 128 ≤ x) (hv : v < 18446744073709551616) : k ≤ 8 := by
  rcases Nat.lt_or_ge 8 k with hk | hk
  · have h1 : 128 ^ 9 ≤ 128 ^ k := Nat.pow_le_pow_right (by omega) hk
    have h2 : 128 * 128 ^ 9 ≤ x * 128 ^ k := Nat.mul_le_mul hx h1
    have h3 : (128 : Nat) * 128 ^ 9 = 1180591620717411303424 := by decide
    omega
  · exact hk
theorem more_next {k x v : Nat} (h : x * 128 ^ k ≤ v) : (x / 128) * 128 ^ (k + 1) ≤ v := by
  refine Nat.le_trans ?_ h
  rw [Nat.pow_succ, Nat.mul_comm (128 ^ k) 128, ← Nat.mul_assoc]
  exact Nat.mul_le_mul_right _ (Nat.div_mul_le_self _ _)
theorem uvarF_more (f x : Nat) (h : 128 ≤ x) : uvarF (f + 1) x = UInt8.ofNat (x % 128 + 128) :: uvarF f (x / 128) := by
  show (if x < 128 then _ else _) = _
  rw [if_neg (by omega)]
theorem uvarF_last (f x : Nat) (h : x < 128) : uvarF (f + 1) x = [UInt8.ofNat x] := by
  show (if x < 128 then _ else _) = _
  rw [if_pos h]
theorem vals_snoc (l : List UInt8) (c : Nat) (h : c < 256) (z : List Value) (y : Value) : (vals l ++ y :: z).set l.length (.int .u8 (c : Int)) = vals (l ++ [UInt8.ofNat c]) ++ z := by
  rw [vals_append, List.append_assoc]
  rw [List.set_append_right _ _ (by rw [length_vals]; exact Nat.le_refl _), length_vals, Nat.sub_self]
  simp [vals, List.set, Nat.mod_eq_of_lt h]

theorem zeros_zero {k : Nat} (h : 0 < k) : (zeros k)[0]? = some (.int .u8 0) := by
  unfold zeros; rw [List.getElem?_replicate, if_pos h]
theorem zeros_cons {k : Nat} (h : 0 < k) : zeros k = .int .u8 0 :: zeros (k - 1) := by
  unfold zeros; cases k with
  | zero => omega
  | succ k => rfl

/-- The first bytes of a row of bytes, read as a slice. -/
theorem RowT.byt {w : World} {B g m : Nat} {t : TypeId} {l : List UInt8} {z : List Value} (h : RowT w g t (vals l ++ z)) (hg : g < B) (hm : l.length = m) : Byt w B (some ⟨g, 0, none⟩) m l := by
  refine ⟨hm, fun _ => ⟨g, 0, rfl, hg, fun j hj => ?_⟩⟩
  rw [h.cell, Nat.zero_add, List.getElem?_append_left (by rw [length_vals]; omega)]
  unfold byV vals bt
  rw [List.getElem?_map, List.getElem?_eq_getElem (by omega), List.getD_eq_getElem?_getD, List.getElem?_eq_getElem (by omega)]; rfl
theorem uvarF_len (f v : Nat) : (uvarF f v).length ≤ f := by
  induction f generalizing v with
  | zero => simp [uvarF]
  | succ f ih =>
    show (if v < 128 then _ else _ : List UInt8).length ≤ _
    split
    · simp
    · simp only [List.length_cons]; have := ih (v / 128); omega
theorem uvar_len (v : Nat) : (uvar v).length ≤ 10 := uvarF_len 10 v
theorem RowAt.byt' {w : World} {B g m : Nat} {l : List UInt8} (h : RowAt w g (vals l)) (hg : g < B) (hm : l.length = m) : Byt w B (some ⟨g, 0, none⟩) m l := by
  have h' : RowT w g 5 (vals l ++ []) := by rw [List.append_nil]; exact h
  exact h'.byt hg hm

end Go.Proofs.Ytpjakfbjiioflaa
