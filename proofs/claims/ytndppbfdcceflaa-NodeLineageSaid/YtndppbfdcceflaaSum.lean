/-
  The contracts of the two functions Sum16 (the program's and the reference's): both return the Internet checksum of the bytes that their argument holds, and leave the world as it was.
  Conditions: the argument reads as a list of bytes of at most maxLen elements.
-/
import Derived.Test.YtndppbfdcceflaaBase
import Derived.Test.YtndppbfdcceflaaPlain
namespace Go.Proofs.Ytndppbfdcceflaa

open Go.RowKit

/-- Word i of the bytes, the last one padded with 0. -/
def wordAt (l : List UInt8) (i : Nat) : Nat := bt l (2 * i) * 256 + bt l (2 * i + 1)
theorem wordAt_le (l : List UInt8) (i : Nat) : wordAt l i ≤ 65535 := by
  unfold wordAt; have := bt_lt l (2 * i); have := bt_lt l (2 * i + 1); omega
def sumOf (l : List UInt8) : Nat := 65535 - sumW (wordAt l) ((l.length + 1) / 2)
theorem bt_end (l : List UInt8) {j : Nat} (h : l.length ≤ j) : bt l j = 0 := by
  unfold bt; rw [List.getD_eq_getElem?_getD, List.getElem?_eq_none h]; rfl

theorem low16 (y : Nat) (h : y < 4294967296) : bits .and .u32 (y : Int) 65535 = ((y % 65536 : Nat) : Int) := by
  have := u32_and_nat y 65535 h (by omega); rw [nat_mask16] at this; exact this
/-- The program's step, the two bytes there. -/
theorem sum_two (x p q : Nat) (hx : x ≤ 65535) (hp : p < 256) (hq : q < 256) :
    (((x : Int) + (p : Int) * 256 + (q : Int)) / 65536 + bits .and .u32 ((x : Int) + (p : Int) * 256 + (q : Int)) 65535) % 4294967296 = ((add16 x (p * 256 + q) : Nat) : Int) := by
  have e : (x : Int) + (p : Int) * 256 + (q : Int) = ((x + (p * 256 + q) : Nat) : Int) := by omega
  rw [e, low16 _ (by omega), ← fold16 x (p * 256 + q) hx (by omega)]; omega
/-- The program's step, one byte there. -/
theorem sum_one (x p : Nat) (hx : x ≤ 65535) (hp : p < 256) :
    (((x : Int) + (p : Int) * 256) / 65536 + bits .and .u32 ((x : Int) + (p : Int) * 256) 65535) % 4294967296 = ((add16 x (p * 256) : Nat) : Int) := by
  have := sum_two x p 0 hx hp (by omega)
  simpa using this
theorem sumW_two (l : List UInt8) (k : Nat) (he : k % 2 = 0) : sumW (wordAt l) ((k + 2) / 2) = add16 (sumW (wordAt l) (k / 2)) (bt l k * 256 + bt l (k + 1)) := by
  have e : (k + 2) / 2 = k / 2 + 1 := by omega
  have e2 : wordAt l (k / 2) = bt l k * 256 + bt l (k + 1) := by unfold wordAt; rw [show 2 * (k / 2) = k by omega]
  rw [e, ← e2]; rfl
theorem sumW_one (l : List UInt8) (k : Nat) (he : k % 2 = 0) (hl : l.length ≤ k + 1) : sumW (wordAt l) ((k + 2) / 2) = add16 (sumW (wordAt l) (k / 2)) (bt l k * 256) := by
  rw [sumW_two l k he, bt_end l hl, Nat.add_zero]
theorem not_u16 (x : Nat) (h : x ≤ 65535) : bits .xor .u16 IntKind.u16.max (x : Int) = ((65535 - x : Nat) : Int) := by
  have e : IntKind.u16.max = ((65535 : Nat) : Int) := by decide
  rw [e, u16_xor_nat _ _ (by omega) (by omega)]
  have := xor_ones 16 x (by omega)
  rw [show 2 ^ 16 - 1 = 65535 by decide] at this
  rw [this]
theorem ret_k {k : IntKind} {a b : Int} (h : a = b) : Ending.returned (.int k a) = .returned (.int k b) := by rw [h]
theorem int_k {k : IntKind} {a b : Int} (h : a = b) : Value.int k a = .int k b := by rw [h]
theorem sum_end {l : List UInt8} {n k x : Nat} (hl : l.length = n) (hk : k ≤ n + 1) (he : k % 2 = 0) (hge : ¬ k < n) (hx : x = sumW (wordAt l) (k / 2)) :
    bits .xor .u16 IntKind.u16.max (x : Int) = ((sumOf l : Nat) : Int) := by
  have h1 := sumW_le (wordAt l) (wordAt_le l) (k / 2)
  rw [not_u16 x (by omega)]; unfold sumOf
  rw [hx, hl, show (n + 1) / 2 = k / 2 by omega]

theorem or_byte (p q : Nat) (hp : p < 256) (hq : q < 256) : bits .or .u32 ((p : Int) * 256) (q : Int) = (p : Int) * 256 + (q : Int) := by
  have e : (p : Int) * 256 = ((p * 256 : Nat) : Int) := by omega
  rw [e, u32_or_nat _ _ (by omega) (by omega), nat_join 8 (p * 256) q (by omega) (by omega)]; omega

end Go.Proofs.Ytndppbfdcceflaa
