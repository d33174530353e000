/-
  The contracts of the two functions Sum16 (the program's and the reference's): both return the Internet checksum of the bytes that their argument holds, and leave the world as it was.
  Conditions: the argument reads as a list of bytes of at most maxLen elements.
-/
import Derived.Test.YthndjngimfoanaaBase
import Derived.Test.YthndjngimfoanaaPlain
namespace Go.Proofs.Ythndjngimfoanaa
open Go.RowKit

/-- Word i of the bytes, the last one padded with 0. -/
def wordAt (l : List UInt8) (i : Nat) : Nat := bt l (2 * i) * 256 + bt l (2 * i + 1)
theorem wordAt_le (l : List UInt8) (i : Nat) : wordAt l i ≤ 65535 := by
  unfold wordAt; have := bt_lt l (2 * i); have := bt_lt l (2 * i + 1); omega
def sumOf (l : List UInt8) : Nat := 65535 - sumW (wordAt l) ((l.length + 1) / 2)
theorem bt_end (l : List UInt8) {j : Nat} (h : l.length ≤ j) : bt l j = 0 := by
  unfold bt; rw [List.getD_eq_getElem?_getD, List.getElem?_eq_none h]; rfl

theorem low16 (y : Nat) (h : y < 4294967296) : bits .and .u32 (y : Int) 65535 = ((y % 65536 : Nat) : Int) := by
  have := u32_and_nat y 65535 h (by omega); rw [nat_mask16] at this; exact this
/-- The program's step, the two bytes there. -/
theorem sum_two (x p q : Nat) (hx : x ≤ 65535) (hp : p < 256) (hq : q < 256) :
    (((x : Int) + (p : Int) * 256 + (q : Int)) / 65536 + bits .and .u32 ((x : Int) + (p : Int) * 256 + (q : Int)) 65535) % 4294967296 = ((add16 x (p * 256 + q) : Nat) : Int) := by
  have e : (x : Int) + (p : Int) * 256 + (q : Int) = ((x + (p * 256 + q) : Nat) : Int) := by omega
  rw [e, low16 _ (by omega), ← fold16 x (p * 256 + q) hx (by omega)]; omega
/-- The program's step, one byte there. -/
theorem sum_one (x p : Nat) (hx : x ≤ 65535) (hp : p < 256) :
    (((x : Int) + (p : Int) * 256) / 65536 + bits .and .u32 ((x : Int) + (p : Int) * 256) 65535) % 4294967296 = ((add16 x (p * 256) : Nat) : Int) := by
  have := sum_two x p 0 hx hp (by omega)
  simpa using this
theorem sumW_two (l : List UInt8) (k : Nat) (he : k % 2 = 0) : sumW (wordAt l) ((k + 2) / 2) = add16 (sumW (wordAt l) (k / 2)) (bt l k * 256 + bt l (k + 1)) := by
  have e : (k + 2) / 2 = k / 2 + 1 := by omega
  have e2 : wordAt l (k / 2) = bt l k * 256 + bt l (k + 1) := by unfold wordAt; rw [show 2 * (k / 2) = k by omega]
  rw [e, ← e2]; rfl
theorem sumW_one (l : List UInt8) (k : Nat) (he : k % 2 = 0) (hl : l.length ≤ k + 1) : sumW (wordAt l) ((k + 2) / 2) = add16 (sumW (wordAt l) (k / 2)) (bt l k * 256) := by
  rw [sumW_two l k he, bt_end l hl, Nat.add_zero]
theorem not_u16 (x : Nat) (h : x ≤ 65535) : bits .xor .u16 IntKind.u16.max (x : Int) = ((65535 - x : Nat) : Int) := by
  have e : IntKind.u16.max = ((65535 : Nat) : Int) := by decide
  rw [e, u16_xor_nat _ _ (by omega) (by omega)]
  have := xor_ones 16 x (by omega)
  rw [show 2 ^ 16 - 1 = 65535 by decide] at this
  rw [this]
theorem ret_k {k : IntKind} {a b : Int} (h : a = b) : Ending.returned (.int k a) = .returned (.int k b) := by rw [h]
theorem int_k {k : IntKind} {a b : Int} (h : a = b) : Value.int k a = .int k b := by rw [h]
theorem sum_end {l : List UInt8} {n k x : Nat} (hl : l.length = n) (hk : k ≤ n + 1) (he : k % 2 = 0) (hge : ¬ k < n) (hx : x = sumW (wordAt l) (k / 2)) :
    bits .xor .u16 IntKind.u16.max (x : Int) = ((sumOf l : Nat) : Int) := by
  have h1 := sumW_le (wordAt l) (wordAt_le l) (k / 2)
  rw [not_u16 x (by omega)]; unfold sumOf
  rw [hx, hl, show (n + 1) / 2 = k / 2 by omega]

set_option maxHeartbeats 400000 in
theorem sum_any (A : Option Addr) (n c B : Nat) (l : List UInt8) (w : World) (h : Byt w B A n l) (hn : n ≤ 140737488355328) :
    Calls Try.prog 37 #[.slice A n c] w fun e w' => e = .returned (.int .u16 (sumOf l : Nat)) ∧ w = w' := by
  have hl := Lib.hid h.1
  go_enter Try.func37, Try.ntmps37
  go_wp2
  go_loop [3, 4] (fun t i => ∃ k : Nat, k ≤ n + 1 ∧ Hid (k % 2 = 0) ∧ i = .int .i64 k ∧ t = .int .u32 (sumW (wordAt l) (k / 2) : Nat)) (fun _ i => n + 1 - (intOf i).toNat)
  case atStart => exact ⟨0, Nat.zero_le _, rfl, rfl, rfl⟩
  case round =>
    obtain ⟨k, hk, HE, rfl, rfl⟩ := hrel
    have hs := sumW_le (wordAt l) (wordAt_le l) (k / 2)
    obtain ⟨x, hx⟩ : ∃ x, x = sumW (wordAt l) (k / 2) := ⟨_, rfl⟩
    have HX := Lib.hid hx
    rw [← hx] at hs ⊢
    clear hx
    by_cases hlt : k < n
    · obtain ⟨b, off, rfl, hb, hc⟩ := h.at_ (by omega)
      have hck := hc k hlt
      have hbt := bt_lt l k
      by_cases hlt2 : k + 1 < n
      · have hck2 := hc (k + 1) hlt2
        have hbt2 := bt_lt l (k + 1)
        clear hc h
        go_wp2
        go_round
        case rel => exact ⟨k + 2, by omega, Lib.hid (by have := HE.out; omega), by go_num, by rw [sumW_two l k HE.out, ← HX.out]; exact int_k (sum_two x _ _ hs hbt hbt2)⟩
        case measure => simp [intOf]; omega
      · clear hc h
        go_wp2
        go_round
        case rel => exact ⟨k + 2, by omega, Lib.hid (by have := HE.out; omega), by go_num, by rw [sumW_one l k HE.out (by rw [hl.out]; omega), ← HX.out]; exact int_k (sum_one x _ hs hbt)⟩
        case measure => simp [intOf]; omega
    · go_wp2
      go_ret
      exact ⟨ret_k (sum_end hl.out hk HE.out hlt HX.out), rfl⟩

theorem or_byte (p q : Nat) (hp : p < 256) (hq : q < 256) : bits .or .u32 ((p : Int) * 256) (q : Int) = (p : Int) * 256 + (q : Int) := by
  have e : (p : Int) * 256 = ((p * 256 : Nat) : Int) := by omega
  rw [e, u32_or_nat _ _ (by omega) (by omega), nat_join 8 (p * 256) q (by omega) (by omega)]; omega

set_option maxHeartbeats 400000 in
theorem sumRef_any (A : Option Addr) (n c B : Nat) (l : List UInt8) (w : World) (h : Byt w B A n l) (hn : n ≤ 140737488355328) :
    Calls Try.prog 38 #[.slice A n c] w fun e w' => e = .returned (.int .u16 (sumOf l : Nat)) ∧ w = w' := by
  have hl := Lib.hid h.1
  go_enter Try.func38, Try.ntmps38
  go_wp2
  go_loop [3, 4] (fun t i => ∃ k : Nat, k ≤ n + 1 ∧ Hid (k % 2 = 0) ∧ i = .int .i64 k ∧ t = .int .u32 (sumW (wordAt l) (k / 2) : Nat)) (fun _ i => n + 1 - (intOf i).toNat)
  case atStart => exact ⟨0, Nat.zero_le _, rfl, rfl, rfl⟩
  case round =>
    obtain ⟨k, hk, HE, rfl, rfl⟩ := hrel
    have hs := sumW_le (wordAt l) (wordAt_le l) (k / 2)
    obtain ⟨x, hx⟩ : ∃ x, x = sumW (wordAt l) (k / 2) := ⟨_, rfl⟩
    have HX := Lib.hid hx
    rw [← hx] at hs ⊢
    clear hx
    by_cases hlt : k < n
    · obtain ⟨b, off, rfl, hb, hc⟩ := h.at_ (by omega)
      have hck := hc k hlt
      have hbt := bt_lt l k
      by_cases hlt2 : k + 1 < n
      · have hck2 := hc (k + 1) hlt2
        have hbt2 := bt_lt l (k + 1)
        have hor := or_byte (bt l k) (bt l (k + 1)) hbt hbt2
        clear hc h
        go_wp2
        all_goals
          go_round
          case rel => exact ⟨k + 2, by omega, Lib.hid (by have := HE.out; omega), by go_num, by rw [sumW_two l k HE.out, ← HX.out]; unfold add16; refine int_k ?_; split <;> omega⟩
          case measure => simp [intOf]; omega
      · clear hc h
        go_wp2
        all_goals
          go_round
          case rel => exact ⟨k + 2, by omega, Lib.hid (by have := HE.out; omega), by go_num, by rw [sumW_one l k HE.out (by rw [hl.out]; omega), ← HX.out]; unfold add16; refine int_k ?_; split <;> omega⟩
          case measure => simp [intOf]; omega
    · go_wp2
      go_ret
      exact ⟨ret_k (sum_end hl.out hk HE.out hlt HX.out), rfl⟩

end Go.Proofs.Ythndjngimfoanaa
