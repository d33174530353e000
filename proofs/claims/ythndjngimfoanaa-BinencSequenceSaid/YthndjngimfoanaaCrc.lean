/-
  The contracts of the two functions CRC32 (the program's and the reference's): both return the check of the bytes that their argument holds, and leave the world as it was.
  Conditions: the argument reads as a list of bytes of at most maxLen elements.
-/
import Derived.Test.YthndjngimfoanaaBase
import Derived.Test.YthndjngimfoanaaPlain
namespace Go.Proofs.Ythndjngimfoanaa
open Go.RowKit


theorem u32_eq {a b : Int} (h : a = b) : Ending.returned (.int .u32 a) = .returned (.int .u32 b) := by rw [h]
theorem val_eq {k : IntKind} {a b : Int} (h : a = b) : Value.int k a = .int k b := by rw [h]
theorem take_step (l : List UInt8) (k : Nat) (h : k < l.length) : l.take (k + 1) = l.take k ++ [l.getD k 0] := by
  rw [List.take_succ_eq_append_getElem h, List.getD_eq_getElem?_getD, List.getElem?_eq_getElem h]; rfl
theorem crcGo_take (l : List UInt8) (k c : Nat) (h : k < l.length) : crcGo (l.take (k + 1)) c = crcSteps 8 (crcGo (l.take k) c ^^^ bt l k) := by
  rw [take_step l k h, crcGo_snoc]; rfl
theorem not_u32 (c : Nat) (h : c < 4294967296) : bits .xor .u32 IntKind.u32.max (c : Int) = ((4294967295 - c : Nat) : Int) := by
  have e : IntKind.u32.max = ((4294967295 : Nat) : Int) := by decide
  rw [e, u32_xor_nat _ _ (by omega) h]
  have := xor_ones 32 c (by omega)
  rw [show 2 ^ 32 - 1 = 4294967295 by decide] at this
  rw [this]

set_option maxHeartbeats 400000 in
theorem crc_any (A : Option Addr) (n c B : Nat) (l : List UInt8) (w : World) (h : Byt w B A n l) (hn : n ≤ maxLen) :
    Calls Try.prog 35 #[.slice A n c] w fun e w' => e = .returned (.int .u32 (crcOf l : Nat)) ∧ w = w' := by
  unfold maxLen at hn
  have hl := Lib.hid h.1
  go_enter Try.func35, Try.ntmps35
  go_wp2
  go_loop [3, 8] (fun t i => ∃ k : Nat, k ≤ n ∧ i = .int .i64 k ∧ t = .int .u32 (crcGo (l.take k) 4294967295 : Nat)) (fun _ i => n - (intOf i).toNat)
  case atStart => exact ⟨0, Nat.zero_le _, rfl, rfl⟩
  case round =>
    obtain ⟨k, hk, rfl, rfl⟩ := hrel
    by_cases hlt : k < n
    · obtain ⟨b, off, rfl, hb, hc⟩ := h.at_ (by omega)
      have hck := hc k hlt
      have hbt := bt_lt l k
      have HS := Lib.hid (crcGo_take l k 4294967295 (by rw [hl.out]; exact hlt))
      have hg := crcGo_lt (l.take k) (c := 4294967295) (by omega)
      clear hc h
      obtain ⟨x, hx⟩ : ∃ x, x = crcGo (l.take k) 4294967295 := ⟨_, rfl⟩
      rw [← hx] at hg HS ⊢
      have HX := Lib.hid (u32_xor_nat x (bt l k) hg (by omega))
      have hy : x ^^^ bt l k < 4294967296 := Nat.xor_lt_two_pow (n := 32) (by omega) (by omega)
      obtain ⟨y, hy'⟩ : ∃ y, y = x ^^^ bt l k := ⟨_, rfl⟩
      rw [← hy'] at hy HX HS
      have HY := Lib.hid hy'
      have HXX := Lib.hid hx
      clear hx hy'
      go_wp2
      rw [HX.out]
      go_loop [3, 16] (fun t i => ∃ j : Nat, j ≤ 8 ∧ i = .int .i64 j ∧ t = .int .u32 (crcSteps j y : Nat)) (fun _ i => 8 - (intOf i).toNat)
      case atStart => exact ⟨0, Nat.zero_le _, rfl, rfl⟩
      case round =>
        obtain ⟨j, hj, rfl, rfl⟩ := hrel
        by_cases hj8 : j < 8
        · have hs := crcSteps_lt j hy
          obtain ⟨z, hz⟩ : ∃ z, z = crcSteps j y := ⟨_, rfl⟩
          have HM := Lib.hid (crc_mask z (by rw [hz]; exact hs))
          have HZ := Lib.hid hz
          rw [← hz] at hs ⊢
          clear hz
          go_wp2
          go_round
          case rel => exact ⟨j + 1, by omega, by go_num, by rw [crcSteps, ← HZ.out]; exact val_eq HM.out⟩
          case measure => simp [intOf]; omega
        · go_wp2
          go_round
          case rel => exact ⟨k + 1, by omega, by go_num, by rw [HS.out]; rw [show j = 8 by omega]⟩
          case measure => simp [intOf]; omega
    · go_wp2
      go_ret
      refine ⟨u32_eq ?_, rfl⟩
      rw [List.take_of_length_le (by rw [hl.out]; omega)]
      exact not_u32 _ (crcGo_lt l (by omega))

theorem low_bit (z : Nat) (h : z < 4294967296) : bits .and .u32 (z : Int) 1 = ((z % 2 : Nat) : Int) := by
  have := u32_and_nat z 1 h (by omega); rw [nat_mask1] at this; exact this
theorem low_one {z : Nat} (h : z < 4294967296) (ho : z % 2 = 1) : bits .and .u32 (z : Int) 1 = 1 := by rw [low_bit z h, ho]; rfl
theorem low_zero {z : Nat} (h : z < 4294967296) (ho : ¬ z % 2 = 1) : bits .and .u32 (z : Int) 1 = 0 := by rw [low_bit z h, show z % 2 = 0 by omega]; rfl
theorem step_odd {z : Nat} (h : z < 4294967296) (ho : z % 2 = 1) : bits .xor .u32 ((z : Int) / 2) 3988292384 = ((crcStep z : Nat) : Int) := by
  have e4 : ((z : Int) / 2) = ((z / 2 : Nat) : Int) := by omega
  have := u32_xor_nat (z / 2) 3988292384 (by omega) (by omega)
  rw [e4]; unfold crcStep; rw [if_pos ho]; exact this
theorem step_even {z : Nat} (ho : ¬ z % 2 = 1) : ((z : Int) / 2) = ((crcStep z : Nat) : Int) := by
  unfold crcStep; rw [if_neg ho]; omega

set_option maxHeartbeats 400000 in
theorem crcRef_any (A : Option Addr) (n c B : Nat) (l : List UInt8) (w : World) (h : Byt w B A n l) (hn : n ≤ maxLen) :
    Calls Try.prog 36 #[.slice A n c] w fun e w' => e = .returned (.int .u32 (crcOf l : Nat)) ∧ w = w' := by
  unfold maxLen at hn
  have hl := Lib.hid h.1
  go_enter Try.func36, Try.ntmps36
  go_wp2
  go_loop [3, 4] (fun t i => ∃ k : Nat, k ≤ n ∧ i = .int .i64 k ∧ t = .int .u32 (crcGo (l.take k) 4294967295 : Nat)) (fun _ i => n - (intOf i).toNat)
  case atStart => exact ⟨0, Nat.zero_le _, rfl, rfl⟩
  case round =>
    obtain ⟨k, hk, rfl, rfl⟩ := hrel
    by_cases hlt : k < n
    · obtain ⟨b, off, rfl, hb, hc⟩ := h.at_ (by omega)
      have hck := hc k hlt
      have hbt := bt_lt l k
      have HS := Lib.hid (crcGo_take l k 4294967295 (by rw [hl.out]; exact hlt))
      have hg := crcGo_lt (l.take k) (c := 4294967295) (by omega)
      clear hc h
      obtain ⟨x, hx⟩ : ∃ x, x = crcGo (l.take k) 4294967295 := ⟨_, rfl⟩
      rw [← hx] at hg HS ⊢
      have HX := Lib.hid (u32_xor_nat x (bt l k) hg (by omega))
      have hy : x ^^^ bt l k < 4294967296 := Nat.xor_lt_two_pow (n := 32) (by omega) (by omega)
      obtain ⟨y, hy'⟩ : ∃ y, y = x ^^^ bt l k := ⟨_, rfl⟩
      rw [← hy'] at hy HX HS
      clear hx hy'
      go_wp2
      rw [HX.out]
      go_loop [3, 5] (fun t i => ∃ j : Nat, j ≤ 8 ∧ i = .int .i64 j ∧ t = .int .u32 (crcSteps j y : Nat)) (fun _ i => 8 - (intOf i).toNat)
      case atStart => exact ⟨0, Nat.zero_le _, rfl, rfl⟩
      case round =>
        obtain ⟨j, hj, rfl, rfl⟩ := hrel
        by_cases hj8 : j < 8
        · have hs := crcSteps_lt j hy
          obtain ⟨z, hz⟩ : ∃ z, z = crcSteps j y := ⟨_, rfl⟩
          have HZ := Lib.hid hz
          rw [← hz] at hs ⊢
          clear hz
          by_cases ho : z % 2 = 1
          · have hlow := low_one hs ho
            have HM := Lib.hid (step_odd hs ho)
            clear ho
            go_wp2
            go_round
            case rel => exact ⟨j + 1, by omega, by go_num, by rw [crcSteps, ← HZ.out]; exact val_eq HM.out⟩
            case measure => simp [intOf]; omega
          · have hlow := low_zero hs ho
            have HM := Lib.hid (step_even ho)
            clear ho
            go_wp2
            go_round
            case rel => exact ⟨j + 1, by omega, by go_num, by rw [crcSteps, ← HZ.out]; exact val_eq HM.out⟩
            case measure => simp [intOf]; omega
        · go_wp2
          go_round
          case rel => exact ⟨k + 1, by omega, by go_num, by rw [HS.out]; rw [show j = 8 by omega]⟩
          case measure => simp [intOf]; omega
    · go_wp2
      go_ret
      refine ⟨u32_eq ?_, rfl⟩
      rw [List.take_of_length_le (by rw [hl.out]; omega)]
      exact not_u32 _ (crcGo_lt l (by omega))

end Go.Proofs.Ythndjngimfoanaa
