/-
  The contracts of the two functions CRC32 (the program's and the reference's): both return the check of the bytes that their argument holds, and leave the world as it was.
  Conditions: the argument reads as a list of bytes of at most maxLen elements.
-/
import Derived.Test.YtndppbfdcceflaaBase
import Derived.Test.YtndppbfdcceflaaPlain
namespace Go.Proofs.Ytndppbfdcceflaa

open Go.RowKit


theorem u32_eq {a b : Int} (h : a = b) : Ending.returned (.int .u32 a) = .returned (.int .u32 b) := by rw [h]
theorem val_eq {k : IntKind} {a b : Int} (h : a = b) : Value.int k a = .int k b := by rw [h]
theorem take_step (l : List UInt8) (k : Nat) (h : k < l.length) : l.take (k + 1) = l.take k ++ [l.getD k 0] := by
  rw [List.take_succ_eq_append_getElem h, List.getD_eq_getElem?_getD, List.getElem?_eq_getElem h]; rfl
theorem crcGo_take (l : List UInt8) (k c : Nat) (h : k < l.length) : crcGo (l.take (k + 1)) c = crcSteps 8 (crcGo (l.take k) c ^^^ bt l k) := by
  rw [take_step l k h, crcGo_snoc]; rfl
theorem not_u32 (c : Nat) (h : c < 4294967296) : bits .xor .u32 IntKind.u32.max (c : Int) = ((4294967295 - c : Nat) : Int) := by
  have e : IntKind.u32.max = ((4294967295 : Nat) : Int) := by decide
  rw [e, u32_xor_nat _ _ (by omega) h]
  have := xor_ones 32 c (by omega)
  rw [show 2 ^ 32 - 1 = 4294967295 by decide] at this
  rw [this]

theorem low_bit (z : Nat) (h : z < 4294967296) : bits .and .u32 (z : Int) 1 = ((z % 2 : Nat) : Int) := by
  have := u32_and_nat z 1 h (by omega); rw [nat_mask1] at this; exact this
theorem low_one {z : Nat} (h : z < 4294967296) (ho : z % 2 = 1) : bits .and .u32 (z : Int) 1 = 1 := by rw [low_bit z h, ho]; rfl
theorem low_zero {z : Nat} (h : z < 4294967296) (ho : ¬ z % 2 = 1) : bits .and .u32 (z : Int) 1 = 0 := by rw [low_bit z h, show z % 2 = 0 by omega]; rfl
theorem step_odd {z : Nat} (h : z < 4294967296) (ho : z % 2 = 1) : bits .xor .u32 ((z : Int) / 2) 3988292384 = ((crcStep z : Nat) : Int) := by
  have e4 : ((z : Int) / 2) = ((z / 2 : Nat) : Int) := by omega
  have := u32_xor_nat (z / 2) 3988292384 (by omega) (by omega)
  rw [e4]; unfold crcStep; rw [if_pos ho]; exact this
theorem step_even {z : Nat} (ho : ¬ z % 2 = 1) : ((z : Int) / 2) = ((crcStep z : Nat) : Int) := by
  unfold crcStep; rw [if_neg ho]; omega

end Go.Proofs.Ytndppbfdcceflaa
