/-
  Contracts of the small functions of hwlex and of the reference that look at one byte, and of the loops that count bytes.
  Conditions: a byte is a number from 0 to 255; a text's length is at most maxLen.
-/
import Derived.Test.YthpcfidcpaikgaaDoorProg
import Derived.Test.YthpcfidcpaikgaaDoorLex
import Derived.WalkKit
import Derived.Handy
import Derived.Below
import Derived.Lib.Hide
namespace Go.Proofs.YthpcfidcpaikgaaDoor
open Go.RowKit

theorem ret_bool {a b : Bool} (h : a = b) : Ending.returned (.bool a) = .returned (.bool b) := by rw [h]
theorem ret_int {k : IntKind} {a b : Int} (h : a = b) : Ending.returned (.int k a) = .returned (.int k b) := by rw [h]
theorem byte_bd (c : UInt8) : (0 : Int) ≤ (c.toNat : Int) ∧ (c.toNat : Int) ≤ 255 := by have := c.toNat_lt; omega

theorem isDigit_any (n : Int) (w : World) (h0 : 0 ≤ n) (h1 : n ≤ 255) : Calls Tryd.prog 36 #[.int .u8 n] w fun e w' => e = .returned (.bool (digI n)) ∧ w = w' := by
  go_enter Tryd.func36, Tryd.ntmps36
  go_wp2
  all_goals go_ret
  all_goals refine ⟨ret_bool ?_, rfl⟩
  all_goals (rw [Bool.eq_iff_iff]; simp only [digI, decide_eq_true_eq, Bool.false_eq_true, false_iff]; omega)

theorem isWordByte_any (n : Int) (w : World) (h0 : 0 ≤ n) (h1 : n ≤ 255) : Calls Tryd.prog 39 #[.int .u8 n] w fun e w' => e = .returned (.bool (wbI n)) ∧ w = w' := by
  go_enter Tryd.func39, Tryd.ntmps39
  go_wp2_with (go_at_call 36; refine (isDigit_any _ _ h0 h1).mono ?_; rintro e w' ⟨rfl, rfl⟩)
  all_goals go_ret
  all_goals refine ⟨ret_bool ?_, rfl⟩
  all_goals (rw [Bool.eq_iff_iff]; simp only [wbI, ltrI, digI, decide_eq_true_eq, Bool.or_eq_true, beq_iff_eq, true_iff]; omega)

theorem isStringByte_any (n : Int) (w : World) (h0 : 0 ≤ n) (h1 : n ≤ 255) : Calls Tryd.prog 53 #[.int .u8 n] w fun e w' => e = .returned (.bool (strI n)) ∧ w = w' := by
  go_enter Tryd.func53, Tryd.ntmps53
  go_wp2
  all_goals go_ret
  all_goals refine ⟨ret_bool ?_, rfl⟩
  all_goals (rw [Bool.eq_iff_iff]; simp only [strI, decide_eq_true_eq, Bool.false_eq_true, false_iff, Bool.and_eq_true, bne_iff_ne]; omega)

theorem isHexLetter_any (n : Int) (w : World) (h0 : 0 ≤ n) (h1 : n ≤ 255) : Calls Tryd.prog 61 #[.int .u8 n] w fun e w' => e = .returned (.bool (hexI n)) ∧ w = w' := by
  go_enter Tryd.func61, Tryd.ntmps61
  go_wp2
  all_goals go_ret
  all_goals refine ⟨ret_bool ?_, rfl⟩
  all_goals (rw [Bool.eq_iff_iff]; simp only [hexI, decide_eq_true_eq, Bool.or_eq_true, true_iff, Bool.false_eq_true, false_iff]; omega)

theorem rLetter_any (n : Int) (w : World) (h0 : 0 ≤ n) (h1 : n ≤ 255) : Calls Tryd.prog 21 #[.int .u8 n] w fun e w' => e = .returned (.bool (ltrI n)) ∧ w = w' := by
  go_enter Tryd.func21, Tryd.ntmps21
  go_wp2
  all_goals go_ret
  all_goals refine ⟨ret_bool ?_, rfl⟩
  all_goals (rw [Bool.eq_iff_iff]; simp only [ltrI, decide_eq_true_eq, Bool.or_eq_true, beq_iff_eq, true_iff]; omega)

theorem rDigit_any (n : Int) (w : World) (h0 : 0 ≤ n) (h1 : n ≤ 255) : Calls Tryd.prog 22 #[.int .u8 n] w fun e w' => e = .returned (.bool (digI n)) ∧ w = w' := by
  go_enter Tryd.func22, Tryd.ntmps22
  go_wp2
  all_goals go_ret
  all_goals refine ⟨ret_bool ?_, rfl⟩
  all_goals (rw [Bool.eq_iff_iff]; simp only [digI, decide_eq_true_eq, Bool.false_eq_true, false_iff]; omega)

theorem rplain_any (n : Int) (w : World) (h0 : 0 ≤ n) (h1 : n ≤ 255) : Calls Tryd.prog 42 #[.int .u8 n] w fun e w' => e = .returned (.bool (strI n)) ∧ w = w' := by
  go_enter Tryd.func42, Tryd.ntmps42
  go_wp2
  all_goals go_ret
  all_goals refine ⟨ret_bool ?_, rfl⟩
  all_goals (rw [Bool.eq_iff_iff]; simp only [strI, decide_eq_true_eq, Bool.false_eq_true, false_iff, Bool.and_eq_true, bne_iff_ne]; omega)

theorem runLen_any (l : List UInt8) (w : World) (hl : l.length ≤ maxLen) : Calls Tryd.prog 37 #[.string ⟨l.toArray⟩] w fun e w' => e = .returned (.int .i64 (run isWB l : Int)) ∧ w = w' := by
  unfold maxLen at hl
  go_enter Tryd.func37, Tryd.ntmps37
  go_wp2
  go_loop [3] (fun i => ∃ k : Nat, k ≤ run isWB l ∧ i = .int .i64 k) (fun i => l.length - (intOf i).toNat)
  case atStart => exact ⟨0, Nat.zero_le _, rfl⟩
  case round =>
    obtain ⟨k, hk, rfl⟩ := hrel
    have hrl := @run_le isWB l
    by_cases hlt : k < l.length
    · have hb := byte_bd l[k]
      go_wp2_with fail
      refine (isWordByte_any _ _ hb.1 hb.2).mono ?_
      rintro e w' ⟨rfl, rfl⟩
      have hb2 : ({ data := l.toArray } : ByteArray)[k] = l[k] := rfl
      cases hd : wbI ((l[k].toNat : Int))
      · have HS : Hid (k = run isWB l) := run_stop hlt hk hd
        rw [hb2]
        clear hb2 hd
        go_wp2
        go_ret
        exact ⟨ret_int (by rw [← HS.out]), rfl⟩
      · have HG : Hid (k + 1 ≤ run isWB l) := run_go hlt hk hd
        rw [hb2]
        clear hb2 hd
        go_wp2
        go_round
        case rel => exact ⟨k + 1, HG.out, by go_num⟩
        case measure => simp [intOf]; omega
    · have HS : Hid (k = run isWB l) := run_end (by omega) hk
      go_wp2
      go_ret
      exact ⟨ret_int (by rw [← HS.out]), rfl⟩

theorem stringLen_any (l : List UInt8) (w : World) (hl : l.length ≤ maxLen) : Calls Tryd.prog 40 #[.string ⟨l.toArray⟩] w fun e w' => e = .returned (.int .i64 (run isStr l : Int)) ∧ w = w' := by
  unfold maxLen at hl
  go_enter Tryd.func40, Tryd.ntmps40
  go_wp2
  go_loop [3] (fun i => ∃ k : Nat, k ≤ run isStr l ∧ i = .int .i64 k) (fun i => l.length - (intOf i).toNat)
  case atStart => exact ⟨0, Nat.zero_le _, rfl⟩
  case round =>
    obtain ⟨k, hk, rfl⟩ := hrel
    have hrl := @run_le isStr l
    by_cases hlt : k < l.length
    · have hb := byte_bd l[k]
      go_wp2_with fail
      refine (isStringByte_any _ _ hb.1 hb.2).mono ?_
      rintro e w' ⟨rfl, rfl⟩
      have hb2 : ({ data := l.toArray } : ByteArray)[k] = l[k] := rfl
      cases hd : strI ((l[k].toNat : Int))
      · have HS : Hid (k = run isStr l) := run_stop hlt hk hd
        rw [hb2]
        clear hb2 hd
        go_wp2
        go_ret
        exact ⟨ret_int (by rw [← HS.out]), rfl⟩
      · have HG : Hid (k + 1 ≤ run isStr l) := run_go hlt hk hd
        rw [hb2]
        clear hb2 hd
        go_wp2
        go_round
        case rel => exact ⟨k + 1, HG.out, by go_num⟩
        case measure => simp [intOf]; omega
    · have HS : Hid (k = run isStr l) := run_end (by omega) hk
      go_wp2
      go_ret
      exact ⟨ret_int (by rw [← HS.out]), rfl⟩

end Go.Proofs.YthpcfidcpaikgaaDoor
