/-
  Contracts of the small functions of hwlex and of the reference that look at one byte, and of the loops that count bytes.
  Conditions: a byte is a number from 0 to 255; a text's length is at most maxLen.
-/
import Derived.Test.YtfmajccblnmglaaGreatDoorProg
import Derived.Test.YtfmajccblnmglaaGreatDoorLex
import Derived.WalkKit
import Derived.Handy
import Derived.Below
import Derived.Lib.Hide
namespace Go.Proofs.YtfmajccblnmglaaGreatDoor

open Go.RowKit

theorem ret_bool {a b : Bool} (h : a = b) : Ending.returned (.bool a) = .returned (.bool b) := by rw [h]
theorem ret_int {k : IntKind} {a b : Int} (h : a = b) : Ending.returned (.int k a) = .returned (.int k b) := by rw [h]
theorem byte_bd (c : UInt8) : (0 : Int) ≤ (c.toNat : Int) ∧ (c.toNat : Int) ≤ 255 := by have := c.toNat_lt; omega

theorem isDigit_any (n : Int) (w : World) (h0 : 0 ≤ n) (h1 : n ≤ 255) : Calls Tryz.prog 88 #[.int .u8 n] w fun e w' => e = .returned (.bool (digI n)) ∧ w = w' := by
  go_enter Tryz.func88, Tryz.ntmps88
  go_wp2
  all_goals go_ret
  all_goals refine ⟨ret_bool ?_, rfl⟩
  all_goals (rw [Bool.eq_iff_iff]; simp only [digI, decide_eq_true_eq, Bool.false_eq_true, false_iff]; omega)

theorem isWordByte_any (n : Int) (w : World) (h0 : 0 ≤ n) (h1 : n ≤ 255) : Calls Tryz.prog 91 #[.int .u8 n] w fun e w' => e = .returned (.bool (wbI n)) ∧ w = w' := by
  go_enter Tryz.func91, Tryz.ntmps91
  go_wp2_with (go_at_call 88; refine (isDigit_any _ _ h0 h1).mono ?_; rintro e w' ⟨rfl, rfl⟩)
  all_goals go_ret
  all_goals refine ⟨ret_bool ?_, rfl⟩
  all_goals (rw [Bool.eq_iff_iff]; simp only [wbI, ltrI, digI, decide_eq_true_eq, Bool.or_eq_true, beq_iff_eq, true_iff]; omega)

theorem isStringByte_any (n : Int) (w : World) (h0 : 0 ≤ n) (h1 : n ≤ 255) : Calls Tryz.prog 112 #[.int .u8 n] w fun e w' => e = .returned (.bool (strI n)) ∧ w = w' := by
  go_enter Tryz.func112, Tryz.ntmps112
  go_wp2
  all_goals go_ret
  all_goals refine ⟨ret_bool ?_, rfl⟩
  all_goals (rw [Bool.eq_iff_iff]; simp only [strI, decide_eq_true_eq, Bool.false_eq_true, false_iff, Bool.and_eq_true, bne_iff_ne]; omega)

theorem isHexLetter_any (n : Int) (w : World) (h0 : 0 ≤ n) (h1 : n ≤ 255) : Calls Tryz.prog 136 #[.int .u8 n] w fun e w' => e = .returned (.bool (hexI n)) ∧ w = w' := by
  go_enter Tryz.func136, Tryz.ntmps136
  go_wp2
  all_goals go_ret
  all_goals refine ⟨ret_bool ?_, rfl⟩
  all_goals (rw [Bool.eq_iff_iff]; simp only [hexI, decide_eq_true_eq, Bool.or_eq_true, true_iff, Bool.false_eq_true, false_iff]; omega)

theorem rLetter_any (n : Int) (w : World) (h0 : 0 ≤ n) (h1 : n ≤ 255) : Calls Tryz.prog 85 #[.int .u8 n] w fun e w' => e = .returned (.bool (ltrI n)) ∧ w = w' := by
  go_enter Tryz.func85, Tryz.ntmps85
  go_wp2
  all_goals go_ret
  all_goals refine ⟨ret_bool ?_, rfl⟩
  all_goals (rw [Bool.eq_iff_iff]; simp only [ltrI, decide_eq_true_eq, Bool.or_eq_true, beq_iff_eq, true_iff]; omega)

theorem rDigit_any (n : Int) (w : World) (h0 : 0 ≤ n) (h1 : n ≤ 255) : Calls Tryz.prog 86 #[.int .u8 n] w fun e w' => e = .returned (.bool (digI n)) ∧ w = w' := by
  go_enter Tryz.func86, Tryz.ntmps86
  go_wp2
  all_goals go_ret
  all_goals refine ⟨ret_bool ?_, rfl⟩
  all_goals (rw [Bool.eq_iff_iff]; simp only [digI, decide_eq_true_eq, Bool.false_eq_true, false_iff]; omega)

theorem rplain_any (n : Int) (w : World) (h0 : 0 ≤ n) (h1 : n ≤ 255) : Calls Tryz.prog 84 #[.int .u8 n] w fun e w' => e = .returned (.bool (strI n)) ∧ w = w' := by
  go_enter Tryz.func84, Tryz.ntmps84
  go_wp2
  all_goals go_ret
  all_goals refine ⟨ret_bool ?_, rfl⟩
  all_goals (rw [Bool.eq_iff_iff]; simp only [strI, decide_eq_true_eq, Bool.false_eq_true, false_iff, Bool.and_eq_true, bne_iff_ne]; omega)

theorem runLen_any (l : List UInt8) (w : World) (hl : l.length ≤ maxLen) : Calls Tryz.prog 89 #[.string ⟨l.toArray⟩] w fun e w' => e = .returned (.int .i64 (run isWB l : Int)) ∧ w = w' := by
  unfold maxLen at hl
  go_enter Tryz.func89, Tryz.ntmps89
  go_wp2
  go_loop [3] (fun i => ∃ k : Nat, k ≤ run isWB l ∧ i = .int .i64 k) (fun i => l.length - (intOf i).toNat)
  case atStart => exact ⟨0, Nat.zero_le _, rfl⟩
  case round =>
    obtain ⟨k, hk, rfl⟩ := hrel
    have hrl := @run_le isWB l
    by_cases hlt : k < l.length
    · have hb := byte_bd l[k]
      go_wp2_with fail
      refine (isWordByte_any _ _ hb.1 hb.2).mono ?_
      rintro e w' ⟨rfl, rfl⟩
      have hb2 : ({ data := l.toArray } : ByteArray)[k] = l[k] := rfl
      cases hd : wbI ((l[k].toNat : Int))
      · have HS : Hid (k = run isWB l) := run_stop hlt hk hd
        rw [hb2]
        clear hb2 hd
        go_wp2
        go_ret
        exact ⟨ret_int (by rw [← HS.out]), rfl⟩
      · have HG : Hid (k + 1 ≤ run isWB l) := run_go hlt hk hd
        rw [hb2]
        clear hb2 hd
        go_wp2
        go_round
        case rel => exact ⟨k + 1, HG.out, by go_num⟩
        case measure => simp [intOf]; omega
    · have HS : Hid (k = run isWB l) := run_end (by omega) hk
      go_wp2
      go_ret
      exact ⟨ret_int (by rw [← HS.out]), rfl⟩

theorem stringLen_any (l : List UInt8) (w : World) (hl : l.length ≤ maxLen) : Calls Tryz.prog 92 #[.string ⟨l.toArray⟩] w fun e w' => e = .returned (.int .i64 (run isStr l : Int)) ∧ w = w' := by
  unfold maxLen at hl
  go_enter Tryz.func92, Tryz.ntmps92
  go_wp2
  go_loop [3] (fun i => ∃ k : Nat, k ≤ run isStr l ∧ i = .int .i64 k) (fun i => l.length - (intOf i).toNat)
  case atStart => exact ⟨0, Nat.zero_le _, rfl⟩
  case round =>
    obtain ⟨k, hk, rfl⟩ := hrel
    have hrl := @run_le isStr l
    by_cases hlt : k < l.length
    · have hb := byte_bd l[k]
      go_wp2_with fail
      refine (isStringByte_any _ _ hb.1 hb.2).mono ?_
      rintro e w' ⟨rfl, rfl⟩
      have hb2 : ({ data := l.toArray } : ByteArray)[k] = l[k] := rfl
      cases hd : strI ((l[k].toNat : Int))
      · have HS : Hid (k = run isStr l) := run_stop hlt hk hd
        rw [hb2]
        clear hb2 hd
        go_wp2
        go_ret
        exact ⟨ret_int (by rw [← HS.out]), rfl⟩
      · have HG : Hid (k + 1 ≤ run isStr l) := run_go hlt hk hd
        rw [hb2]
        clear hb2 hd
        go_wp2
        go_round
        case rel => exact ⟨k + 1, HG.out, by go_num⟩
        case measure => simp [intOf]; omega
    · have HS : Hid (k = run isStr l) := run_end (by omega) hk
      go_wp2
      go_ret
      exact ⟨ret_int (by rw [← HS.out]), rfl⟩

end Go.Proofs.YtfmajccblnmglaaGreatDoor
