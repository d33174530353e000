/-
  Plain mathematics for the statements of layer 1: the cyclic redundancy check, the Internet checksum, the variable-length integers. Nothing of the program is in here.
  Conditions: none beyond what each theorem says.
-/
import Derived.Laws.BitsAllLaws
import Derived.IntWalk
namespace Go.Proofs.Ytndppbfdcceflaa

/-- One step of the check: shifted right, and the polynomial added if the bit shifted out was 1. -/
def crcStep (c : Nat) : Nat := if c % 2 = 1 then c / 2 ^^^ 3988292384 else c / 2
def crcSteps : Nat → Nat → Nat
  | 0, c => c
  | k + 1, c => crcStep (crcSteps k c)
def crcByte (c x : Nat) : Nat := crcSteps 8 (c ^^^ x)
def crcGo (l : List UInt8) (c : Nat) : Nat := l.foldl (fun c x => crcByte c x.toNat) c
def crcOf (l : List UInt8) : Nat := 4294967295 - crcGo l 4294967295

theorem crcStep_lt {c : Nat} (h : c < 4294967296) : crcStep c < 4294967296 := by
  unfold crcStep
  split
  · exact Nat.xor_lt_two_pow (n := 32) (by omega) (by omega)
  · omega
theorem crcSteps_lt (k : Nat) {c : Nat} (h : c < 4294967296) : crcSteps k c < 4294967296 := by
  induction k with
  | zero => exact h
  | succ k ih => exact crcStep_lt ih
theorem crcByte_lt {c : Nat} (x : UInt8) (h : c < 4294967296) : crcByte c x.toNat < 4294967296 :=
  crcSteps_lt 8 (Nat.xor_lt_two_pow (n := 32) (by omega) (by have := x.toNat_lt; omega))
theorem crcGo_lt (l : List UInt8) {c : Nat} (h : c < 4294967296) : crcGo l c < 4294967296 := by
  unfold crcGo
  induction l generalizing c with
  | nil => exact h
  | cons x l ih => exact ih (crcByte_lt x h)
theorem crcGo_snoc (l : List UInt8) (x : UInt8) (c : Nat) : crcGo (l ++ [x]) c = crcByte (crcGo l c) x.toNat := by
  unfold crcGo; rw [List.foldl_append]; rfl

theorem neg_bit (c : Nat) : IntKind.u32.wrap (-((c % 2 : Nat) : Int)) = ((if c % 2 = 1 then 4294967295 else 0 : Nat) : Int) := by
  rw [IntKind.wrap_u32]; split <;> omega
theorem poly_and (c : Nat) : 3988292384 &&& (if c % 2 = 1 then 4294967295 else 0) = if c % 2 = 1 then 3988292384 else 0 := by
  split <;> rfl
/-- The step as the program computes it, with a mask. -/
theorem crc_mask (c : Nat) (h : c < 4294967296) : bits .xor .u32 ((c : Int) / 2) (bits .and .u32 3988292384 (IntKind.u32.wrap (-bits .and .u32 (c : Int) 1))) = ((crcStep c : Nat) : Int) := by
  have e1 : bits .and .u32 (c : Int) 1 = ((c % 2 : Nat) : Int) := by
    have := u32_and_nat c 1 h (by omega); rw [nat_mask1] at this; exact this
  rw [e1, neg_bit]
  have e2 := u32_and_nat 3988292384 (if c % 2 = 1 then 4294967295 else 0) (by omega) (by split <;> omega)
  rw [poly_and] at e2
  have e3 : ((3988292384 : Nat) : Int) = 3988292384 := rfl
  rw [e3] at e2
  rw [e2]
  have e4 : ((c : Int) / 2) = ((c / 2 : Nat) : Int) := by omega
  rw [e4, u32_xor_nat (c / 2) _ (by omega) (by split <;> omega)]
  unfold crcStep
  split <;> simp

/-- Addition of 16-bit words with end-around carry. -/
def add16 (s v : Nat) : Nat := if 65535 < s + v then s + v - 65535 else s + v
theorem add16_le {s v : Nat} (hs : s ≤ 65535) (hv : v ≤ 65535) : add16 s v ≤ 65535 := by unfold add16; split <;> omega
/-- The sum of the first k words of a sequence. -/
def sumW (f : Nat → Nat) : Nat → Nat
  | 0 => 0
  | k + 1 => add16 (sumW f k) (f k)
theorem sumW_le (f : Nat → Nat) (hf : ∀ i, f i ≤ 65535) (k : Nat) : sumW f k ≤ 65535 := by
  induction k with
  | zero => exact Nat.zero_le _
  | succ k ih => exact add16_le ih (hf k)
/-- The step as the program computes it: the upper part is added to the lower one. -/
theorem fold16 (s v : Nat) (hs : s ≤ 65535) (hv : v ≤ 65535) : (s + v) / 65536 + (s + v) % 65536 = add16 s v := by unfold add16; split <;> omega

/-- Xor with ones is the complement. -/
theorem xor_ones (k c : Nat) (h : c < 2 ^ k) : (2 ^ k - 1) ^^^ c = 2 ^ k - 1 - c := by
  have e := congrArg BitVec.toNat (BitVec.allOnes_xor (x := BitVec.ofNat k c))
  rw [BitVec.toNat_xor, BitVec.toNat_not, BitVec.toNat_allOnes, BitVec.toNat_ofNat, Nat.mod_eq_of_lt h] at e
  exact e

/-- The shortest encoding in groups of seven bits; the first argument bounds the number of groups. -/
def uvarF : Nat → Nat → List UInt8
  | 0, _ => []
  | f + 1, v => if v < 128 then [UInt8.ofNat v] else UInt8.ofNat (v % 128 + 128) :: uvarF f (v / 128)
def uvar (v : Nat) : List UInt8 := uvarF 10 v

theorem or_more (x : Nat) : bits .or .u8 ((x : Int) % 256) 128 = ((x % 128 + 128 : Nat) : Int) := by
  have e : (x : Int) % 256 = ((x % 256 : Nat) : Int) := by omega
  have e2 := u8_or_nat (x % 256) 128 (by omega) (by omega)
  rw [e]; refine e2.trans ?_
  have h : x % 256 ||| 128 = x % 128 + 128 := by
    have h1 : ∀ y, y < 256 → y ||| 128 = y % 128 + 128 := by decide +kernel
    rw [h1 (x % 256) (by omega)]; omega
  rw [h]

/-- Signed integers as unsigned ones. -/
def zz (v : Int) : Nat := if v < 0 then (-2 * v - 1).toNat else (2 * v).toNat
theorem zz_lt (v : Int) (h0 : -9223372036854775808 ≤ v) (h1 : v ≤ 9223372036854775807) : zz v < 18446744073709551616 := by unfold zz; split <;> omega

theorem zz_bits (v : Int) (h0 : -9223372036854775808 ≤ v) (h1 : v ≤ 9223372036854775807) :
    bits .xor .u64 (IntKind.u64.wrap (IntKind.u64.wrap v * 2)) (IntKind.u64.wrap (v / 9223372036854775808)) = ((zz v : Nat) : Int) := by
  simp only [IntKind.wrap_u64]
  by_cases hv : v < 0
  · have e1 : v % 18446744073709551616 * 2 % 18446744073709551616 = (((2 * v + 18446744073709551616).toNat : Nat) : Int) := by omega
    have e2 : v / 9223372036854775808 % 18446744073709551616 = ((18446744073709551615 : Nat) : Int) := by omega
    rw [e1, e2, u64_xor_nat _ _ (by omega) (by omega), Nat.xor_comm]
    have := xor_ones 64 (2 * v + 18446744073709551616).toNat (by omega)
    rw [show 2 ^ 64 - 1 = 18446744073709551615 by decide] at this
    rw [this]; unfold zz; rw [if_pos hv]; omega
  · have e1 : v % 18446744073709551616 * 2 % 18446744073709551616 = (((2 * v).toNat : Nat) : Int) := by omega
    have e2 : v / 9223372036854775808 % 18446744073709551616 = ((0 : Nat) : Int) := by omega
    rw [e1, e2, u64_xor_nat _ _ (by omega) (by omega), Nat.xor_zero]
    unfold zz; rw [if_neg hv]

end Go.Proofs.Ytndppbfdcceflaa
