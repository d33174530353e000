/-
  What the program's blocks lean on: trailing zeros, cmp.Or of two ints, the comparison of two ranges.
  Conditions: the table of math/bits lies as the program's text lays it.
-/
import Derived.Test.YtndppbfdcceflaaGreatDoorMra
import Derived.Test.YtndppbfdcceflaaGreatDoorRngShelf
namespace Go.Proofs.YtndppbfdcceflaaGreatDoor

open Go.RowKit

set_option maxHeartbeats 1000000 in
theorem tz64_core (x k idx : Nat) (w : World) (hx0 : ((x : Int) == 0) = false)
    (key : IntKind.u64.wrap (bits BinOp.and IntKind.u64 (x : Int) (IntKind.u64.wrap (-(x : Int))) * 285870213051353865) / 288230376151711744 = (idx : Int))
    (hi : idx < 64) (hk : k < 64) (hcell : w.cell? ⟨1, idx, none⟩ = some (.int .u8 k)) :
    Calls Tryz.prog 146 #[.int .u64 x] w fun e w' => e = .returned (.int .i64 k) ∧ w' = w := by
  go_enter Tryz.func146, Tryz.ntmps146
  go_wp2_with (simp only [key])
  go_ret
  exact ⟨rfl, rfl⟩
theorem tz64_zero (w : World) : Calls Tryz.prog 146 #[.int .u64 0] w fun e w' => e = .returned (.int .i64 64) ∧ w' = w := by
  go_enter Tryz.func146, Tryz.ntmps146
  go_wp2
  go_ret
  exact ⟨rfl, rfl⟩
theorem tz64_any (x : Nat) (hx : x < 18446744073709551616) (w : World) (hT : T10 w) :
    Calls Tryz.prog 146 #[.int .u64 x] w fun e w' => e = .returned (.int .i64 (Lib.ctz 64 x)) ∧ w' = w := by
  by_cases hx0 : x = 0
  · subst hx0
    exact tz64_zero w
  · obtain ⟨hlow, hk⟩ := Lib.lowest_bit 64 x hx0 hx
    obtain ⟨hi, htab⟩ := Lib.deBruijn64_at _ hk
    have hcell := hT _ hi
    rw [htab] at hcell
    exact tz64_core x _ _ w (by simp; omega) (tz64_key x _ hx hx0 hlow) hi hk hcell
theorem tz_any (x : Nat) (hx : x < 18446744073709551616) (w : World) (hT : T10 w) :
    Calls Tryz.prog 130 #[.int .u64 x] w fun e w' => e = .returned (.int .i64 (Lib.ctz 64 x)) ∧ w' = w := by
  have C := Lib.hid (tz64_any x hx w hT)
  have hw : IntKind.u64.wrap (x : Int) = (x : Int) := by rw [IntKind.wrap_u64]; omega
  generalize Lib.ctz 64 x = k at *
  clear hT
  go_enter Tryz.func130, Tryz.ntmps130
  go_wp2_with fail
  go_fit C.out
  rintro e w1 ⟨rfl, hww⟩
  obtain rfl : w = w1 := hww.symm
  go_wp2
  go_ret
  exact ⟨rfl, rfl⟩
/-- The first of two numbers that isn't zero. -/
def orI (a b : Int) : Int := if a = 0 then b else a
set_option maxRecDepth 20000 in
theorem or_two (a b : Int) (n : Nat) (w : World) (h0 : w.cell? ⟨n, 0, none⟩ = some (.int .i64 a)) (h1 : w.cell? ⟨n, 1, none⟩ = some (.int .i64 b)) :
    Calls Tryz.prog 105 #[.slice (some ⟨n, 0, none⟩) 2 2] w fun e w' => e = .returned (.int .i64 (orI a b)) ∧ w' = w := by
  have HO : Hid (orI a b = if a = 0 then b else a) := Lib.hid rfl
  generalize orI a b = q at *
  by_cases ha : a = 0
  · rw [if_pos ha] at HO
    subst ha
    by_cases hb : b = 0
    · subst hb
      go_enter Tryz.func105, Tryz.ntmps105
      go_wp2
      go_loopw [8] (fun v8 wr => (v8 = .int .i64 0 ∨ v8 = .int .i64 1 ∨ v8 = .int .i64 2) ∧ wr = w) (fun v8 _ => 2 - (intOf v8).toNat)
      case atStart => exact ⟨.inl rfl, rfl⟩
      case round =>
        obtain ⟨rfl | rfl | rfl, rfl⟩ := hrel
        · go_wp2
          go_roundw
          case rel => exact ⟨.inr (.inl rfl), trivial⟩
          case measure => simp [intOf]
        · go_wp2
          go_roundw
          case rel => exact ⟨.inr (.inr rfl), trivial⟩
          case measure => simp [intOf]
        · go_wp2
          go_ret
          exact ⟨congrArg (fun x => Ending.returned (Value.int .i64 x)) HO.out.symm, rfl⟩
    · have f1 : (b == 0) = false := by rw [beq_eq_false_iff_ne]; exact hb
      have f2 : (b != 0) = true := by rw [bne, f1]; rfl
      go_enter Tryz.func105, Tryz.ntmps105
      go_wp2
      go_loopw [8] (fun v8 wr => (v8 = .int .i64 0 ∨ v8 = .int .i64 1) ∧ wr = w) (fun v8 _ => 2 - (intOf v8).toNat)
      case atStart => exact ⟨.inl rfl, rfl⟩
      case round =>
        obtain ⟨rfl | rfl, rfl⟩ := hrel
        · go_wp2
          go_roundw
          case rel => exact ⟨.inr rfl, trivial⟩
          case measure => simp [intOf]
        · go_wp2
          go_ret
          exact ⟨congrArg (fun x => Ending.returned (Value.int .i64 x)) HO.out.symm, rfl⟩
  · rw [if_neg ha] at HO
    have f1 : (a == 0) = false := by rw [beq_eq_false_iff_ne]; exact ha
    have f2 : (a != 0) = true := by rw [bne, f1]; rfl
    go_enter Tryz.func105, Tryz.ntmps105
    go_wp2
    go_loopw [8] (fun v8 wr => v8 = .int .i64 0 ∧ wr = w) (fun v8 _ => 2 - (intOf v8).toNat)
    case atStart => exact ⟨rfl, rfl⟩
    case round =>
      obtain ⟨rfl, rfl⟩ := hrel
      go_wp2
      go_ret
      exact ⟨congrArg (fun x => Ending.returned (Value.int .i64 x)) HO.out.symm, rfl⟩
end Go.Proofs.YtndppbfdcceflaaGreatDoor
