/-
  Plain mathematics for the statements of layer 1: the cyclic redundancy check, the Internet checksum, the variable-length integers. Nothing of the program is in here.
  Conditions: none beyond what each theorem says.
  The contracts of AppendUvarint, AppendVarint and AppendBytes: each returns a new slice, the bytes of its argument followed by the encoding, and turns nothing that was there.
  Conditions: the arguments read as lists of bytes, each of at most 2^32 elements.
  The contracts of the two functions CRC32 (the program's and the reference's): both return the check of the bytes that their argument holds, and leave the world as it was.
  Conditions: the argument reads as a list of bytes of at most maxLen elements.
-/
import Derived.Laws.BitsAllLaws
import Derived.IntWalk
import Derived.Test.YtcenonnccodfoaaDoorMa1
namespace Go.Proofs.YtcenonnccodfoaaDoor

/-- One step of the check: shifted right, and the polynomial added if the bit shifted out was 1. -/
def crcStep (c : Nat) : Nat := if c % 2 = 1 then c / 2 ^^^ 3988292384 else c / 2
def crcSteps : Nat → Nat → Nat
  | 0, c => c
  | k + 1, c => crcStep (crcSteps k c)
def crcByte (c x : Nat) : Nat := crcSteps 8 (c ^^^ x)
def crcGo (l : List UInt8) (c : Nat) : Nat := l.foldl (fun c x => crcByte c x.toNat) c
def crcOf (l : List UInt8) : Nat := 4294967295 - crcGo l 4294967295

theorem crcStep_lt {c : Nat} (h : c < 4294967296) : crcStep c < 4294967296 := by
  unfold crcStep
  split
  · exact Nat.xor_lt_two_pow (n := 32) (by omega) (by omega)
  · omega
theorem crcSteps_lt (k : Nat) {c : Nat} (h : c < 4294967296) : crcSteps k c < 4294967296 := by
  induction k with
  | zero => exact h
  | succ k ih => exact crcStep_lt ih
theorem crcByte_lt {c : Nat} (x : UInt8) (h : c < 4294967296) : crcByte c x.toNat < 4294967296 :=
  crcSteps_lt 8 (Nat.xor_lt_two_pow (n := 32) (by omega) (by have := x.toNat_lt; omega))
theorem crcGo_lt (l : List UInt8) {c : Nat} (h : c < 4294967296) : crcGo l c < 4294967296 := by
  unfold crcGo
  induction l generalizing c with
  | nil => exact h
  | cons x l ih => exact ih (crcByte_lt x h)
theorem crcGo_snoc (l : List UInt8) (x : UInt8) (c : Nat) : crcGo (l ++ [x]) c = crcByte (crcGo l c) x.toNat := by
  unfold crcGo; rw [List.foldl_append]; rfl

theorem neg_bit (c : Nat) : IntKind.u32.wrap (-((c % 2 : Nat) : Int)) = ((if c % 2 = 1 then 4294967295 else 0 : Nat) : Int) := by
  rw [IntKind.wrap_u32]; split <;> omega
theorem poly_and (c : Nat) : 3988292384 &&& (if c % 2 = 1 then 4294967295 else 0) = if c % 2 = 1 then 3988292384 else 0 := by
  split <;> rfl
/-- The step asx the program computes it, with a mask. -/
theorem crc_mask (c : Nat) (h : c < 4294967296) : bits .xor .u32 ((c : Int) / 2) (bits .and .u32 3988292384 (IntKind.u32.wrap (-bits .and .u32 (c : Int) 1))) = ((crcStep c : Nat) : Int) := by
  have e1 : bits .and .u32 (c : Int) 1 = ((c % 2 : Nat) : Int) := by
    have := u32_and_nat c 1 h (by omega); rw [nat_mask1] at this; exact this
  rw [e1, neg_bit]
  have e2 := u32_and_nat 3988292384 (if c % 2 = 1 then 4294967295 else 0) (by omega) (by split <;> omega)
  rw [poly_and] at e2
  have e3 : ((3988292384 : Nat) : Int) = 3988292384 := rfl
  rw [e3] at e2
  rw [e2]
  have e4 : ((c : Int) / 2) = ((c / 2 : Nat) : Int) := by omega
  rw [e4, u32_xor_nat (c / 2) _ (by omega) (by split <;> omega)]
  unfold crcStep
  split <;> simp

/-- Addition of 16-bit words with end-around carry. -/
def add16 (s v : Nat) : Nat := if 65535 < s + v then s + v - 65535 else s + v
theorem add16_le {s v : Nat} (hs : s ≤ 65535) (hv : v ≤ 65535) : add16 s v ≤ 65535 := by unfold add16; split <;> omega
/-- The sum of the first k words of a sequence. -/
def sumW (f : Nat → Nat) : Nat → Nat
  | 0 => 0
  | k + 1 => add16 (sumW f k) (f k)
theorem sumW_le (f : Nat → Nat) (hf : ∀ i, f i ≤ 65535) (k : Nat) : sumW f k ≤ 65535 := by
  induction k with
  | zero => exact Nat.zero_le _
  | succ k ih => exact add16_le ih (hf k)
/-- The step asx the program computes it: the upper part is added to the lower one. -/
theorem fold16 (s v : Nat) (hs : s ≤ 65535) (hv : v ≤ 65535) : (s + v) / 65536 + (s + v) % 65536 = add16 s v := by unfold add16; split <;> omega

/-- Xor with ones is the complement. -/
theorem xor_ones (k c : Nat) (h : c < 2 ^ k) : (2 ^ k - 1) ^^^ c = 2 ^ k - 1 - c := by
  have e := congrArg BitVec.toNat (BitVec.allOnes_xor (x := BitVec.ofNat k c))
  rw [BitVec.toNat_xor, BitVec.toNat_not, BitVec.toNat_allOnes, BitVec.toNat_ofNat, Nat.mod_eq_of_lt h] at e
  exact e

/-- The shortest encoding in groups of seven bits; the first argument bounds the number of groups. -/
def uvarF : Nat → Nat → List UInt8
  | 0, _ => []
  | f + 1, v => if v < 128 then [UInt8.ofNat v] else UInt8.ofNat (v % 128 + 128) :: uvarF f (v / 128)
def uvar (v : Nat) : List UInt8 := uvarF 10 v

theorem or_more (x : Nat) : bits .or .u8 ((x : Int) % 256) 128 = ((x % 128 + 128 : Nat) : Int) := by
  have e : (x : Int) % 256 = ((x % 256 : Nat) : Int) := by omega
  have e2 := u8_or_nat (x % 256) 128 (by omega) (by omega)
  rw [e]; refine e2.trans ?_
  have h : x % 256 ||| 128 = x % 128 + 128 := by
    have h1 : ∀ y, y < 256 → y ||| 128 = y % 128 + 128 := by decide +kernel
    rw [h1 (x % 256) (by omega)]; omega
  rw [h]

/-- Signed integers asx unsigned ones. -/
def zz (v : Int) : Nat := if v < 0 then (-2 * v - 1).toNat else (2 * v).toNat
theorem zz_lt (v : Int) (h0 : -9223372036854775808 ≤ v) (h1 : v ≤ 9223372036854775807) : zz v < 18446744073709551616 := by unfold zz; split <;> omega

theorem zz_bits (v : Int) (h0 : -9223372036854775808 ≤ v) (h1 : v ≤ 9223372036854775807) :
    bits .xor .u64 (IntKind.u64.wrap (IntKind.u64.wrap v * 2)) (IntKind.u64.wrap (v / 9223372036854775808)) = ((zz v : Nat) : Int) := by
  simp only [IntKind.wrap_u64]
  by_cases hv : v < 0
  · have e1 : v % 18446744073709551616 * 2 % 18446744073709551616 = (((2 * v + 18446744073709551616).toNat : Nat) : Int) := by omega
    have e2 : v / 9223372036854775808 % 18446744073709551616 = ((18446744073709551615 : Nat) : Int) := by omega
    rw [e1, e2, u64_xor_nat _ _ (by omega) (by omega), Nat.xor_comm]
    have := xor_ones 64 (2 * v + 18446744073709551616).toNat (by omega)
    rw [show 2 ^ 64 - 1 = 18446744073709551615 by decide] at this
    rw [this]; unfold zz; rw [if_pos hv]; omega
  · have e1 : v % 18446744073709551616 * 2 % 18446744073709551616 = (((2 * v).toNat : Nat) : Int) := by omega
    have e2 : v / 9223372036854775808 % 18446744073709551616 = ((0 : Nat) : Int) := by omega
    rw [e1, e2, u64_xor_nat _ _ (by omega) (by omega), Nat.xor_zero]
    unfold zz; rw [if_neg hv]

end Go.Proofs.YtcenonnccodfoaaDoor


namespace Go.Proofs.YtcenonnccodfoaaDoor

open Go.RowKit

theorem more_le {k x v : Nat} (h : x * 128 ^ k ≤ v) (hx : 128 ≤ x) (hv : v < 18446744073709551616) : k ≤ 8 := by
  rcases Nat.lt_or_ge 8 k with hk | hk
  · have h1 : 128 ^ 9 ≤ 128 ^ k := Nat.pow_le_pow_right (by omega) hk
    have h2 : 128 * 128 ^ 9 ≤ x * 128 ^ k := Nat.mul_le_mul hx h1
    have h3 : (128 : Nat) * 128 ^ 9 = 1180591620717411303424 := by decide
    omega
  · exact hk
theorem more_next {k x v : Nat} (h : x * 128 ^ k ≤ v) : (x / 128) * 128 ^ (k + 1) ≤ v := by
  refine Nat.le_trans ?_ h
  rw [Nat.pow_succ, Nat.mul_comm (128 ^ k) 128, ← Nat.mul_assoc]
  exact Nat.mul_le_mul_right _ (Nat.div_mul_le_self _ _)
theorem uvarF_more (f x : Nat) (h : 128 ≤ x) : uvarF (f + 1) x = UInt8.ofNat (x % 128 + 128) :: uvarF f (x / 128) := by
  show (if x < 128 then _ else _) = _
  rw [if_neg (by omega)]
theorem uvarF_last (f x : Nat) (h : x < 128) : uvarF (f + 1) x = [UInt8.ofNat x] := by
  show (if x < 128 then _ else _) = _
  rw [if_pos h]
theorem vals_snoc (l : List UInt8) (c : Nat) (h : c < 256) (z : List Value) (y : Value) : (vals l ++ y :: z).set l.length (.int .u8 (c : Int)) = vals (l ++ [UInt8.ofNat c]) ++ z := by
  rw [vals_append, List.append_assoc]
  rw [List.set_append_right _ _ (by rw [length_vals]; exact Nat.le_refl _), length_vals, Nat.sub_self]
  simp [vals, List.set, Nat.mod_eq_of_lt h]

theorem zeros_zero {k : Nat} (h : 0 < k) : (zeros k)[0]? = some (.int .u8 0) := by
  unfold zeros; rw [List.getElem?_replicate, if_pos h]
theorem zeros_cons {k : Nat} (h : 0 < k) : zeros k = .int .u8 0 :: zeros (k - 1) := by
  unfold zeros; cases k with
  | zero => omega
  | succ k => rfl

/-- The first bytes of a row of bytes, read asx a slice. -/
theorem RowT.byt {w : World} {B g m : Nat} {t : TypeId} {l : List UInt8} {z : List Value} (h : RowT w g t (vals l ++ z)) (hg : g < B) (hm : l.length = m) : Byt w B (some ⟨g, 0, none⟩) m l := by
  refine ⟨hm, fun _ => ⟨g, 0, rfl, hg, fun j hj => ?_⟩⟩
  rw [h.cell, Nat.zero_add, List.getElem?_append_left (by rw [length_vals]; omega)]
  unfold byV vals bt
  rw [List.getElem?_map, List.getElem?_eq_getElem (by omega), List.getD_eq_getElem?_getD, List.getElem?_eq_getElem (by omega)]; rfl
/-- The parts are written into a new block: with the numbers asx the walk writes them. -/
theorem join_two (A : Option Addr) (n c : Nat) (l : List UInt8) (A2 : Option Addr) (n2 c2 : Nat) (l2 : List UInt8) (B : Nat) (W : World) (h : Byt W B A n l) (h2 : Byt W B A2 n2 l2) (hB : B ≤ W.heap.size) (hN : n + n2 ≤ 1099511627776) :
    Calls Tryd.prog 67 #[.slice (some ⟨W.heap.size, 0, none⟩) 2 2] (W.alloc (.cells #[.slice A n c, .slice A2 n2 c2] 23)) fun e w' =>
      e = .returned (.slice (some ⟨W.heap.size + 1, 0, none⟩) (n + n2) (n + n2)) ∧ RowAt w' (W.heap.size + 1) (vals (l ++ l2)) ∧ Below W.heap.size W w' := by
  have e : cat [⟨A, n, c, l⟩, ⟨A2, n2, c2, l2⟩] = l ++ l2 := by simp [cat]
  have e2 : (l ++ l2).length = n + n2 := by rw [List.length_append, h.1, h2.1]
  have := join_of [⟨A, n, c, l⟩, ⟨A2, n2, c2, l2⟩] B W (by
    intro p hp
    simp only [List.mem_cons, List.not_mem_nil, or_false] at hp
    rcases hp with rfl | rfl
    · exact h
    · exact h2) hB (by rw [e, e2]; exact hN) (by simp)
  rw [e, e2] at this
  exact this

theorem join_three (A : Option Addr) (n c : Nat) (l : List UInt8) (A2 : Option Addr) (n2 c2 : Nat) (l2 : List UInt8) (A3 : Option Addr) (n3 c3 : Nat) (l3 : List UInt8) (B : Nat) (W : World) (h : Byt W B A n l) (h2 : Byt W B A2 n2 l2) (h3 : Byt W B A3 n3 l3) (hB : B ≤ W.heap.size) (hN : n + n2 + n3 ≤ 1099511627776) :
    Calls Tryd.prog 67 #[.slice (some ⟨W.heap.size, 0, none⟩) 3 3] (W.alloc (.cells #[.slice A n c, .slice A2 n2 c2, .slice A3 n3 c3] 23)) fun e w' =>
      e = .returned (.slice (some ⟨W.heap.size + 1, 0, none⟩) (n + n2 + n3) (n + n2 + n3)) ∧ RowAt w' (W.heap.size + 1) (vals (l ++ l2 ++ l3)) ∧ Below W.heap.size W w' := by
  have e : cat [⟨A, n, c, l⟩, ⟨A2, n2, c2, l2⟩, ⟨A3, n3, c3, l3⟩] = l ++ l2 ++ l3 := by simp [cat]
  have e2 : (l ++ l2 ++ l3).length = n + n2 + n3 := by rw [List.length_append, List.length_append, h.1, h2.1, h3.1]
  have := join_of [⟨A, n, c, l⟩, ⟨A2, n2, c2, l2⟩, ⟨A3, n3, c3, l3⟩] B W (by
    intro p hp
    simp only [List.mem_cons, List.not_mem_nil, or_false] at hp
    rcases hp with rfl | rfl | rfl
    · exact h
    · exact h2
    · exact h3) hB (by rw [e, e2]; exact hN) (by simp)
  rw [e, e2] at this
  exact this
theorem join_one (A : Option Addr) (n c : Nat) (l : List UInt8) (B : Nat) (W : World) (h : Byt W B A n l) (hB : B ≤ W.heap.size) (hN : n ≤ 1099511627776) :
    Calls Tryd.prog 67 #[.slice (some ⟨W.heap.size, 0, none⟩) 1 1] (W.alloc (.cells #[.slice A n c] 23)) fun e w' =>
      e = .returned (.slice (some ⟨W.heap.size + 1, 0, none⟩) n n) ∧ RowAt w' (W.heap.size + 1) (vals l) ∧ Below W.heap.size W w' := by
  have e : cat [⟨A, n, c, l⟩] = l := by simp [cat]
  have := join_of [⟨A, n, c, l⟩] B W (by
    intro p hp
    simp only [List.mem_cons, List.not_mem_nil, or_false] at hp
    subst hp
    exact h) hB (by rw [e, h.1]; exact hN) (by simp)
  rw [e, h.1] at this
  exact this

theorem uvarF_len (f v : Nat) : (uvarF f v).length ≤ f := by
  induction f generalizing v with
  | zero => simp [uvarF]
  | succ f ih =>
    show (if v < 128 then _ else _ : List UInt8).length ≤ _
    split
    · simp
    · simp only [List.length_cons]; have := ih (v / 128); omega
theorem uvar_len (v : Nat) : (uvar v).length ≤ 10 := uvarF_len 10 v
theorem RowAt.byt' {w : World} {B g m : Nat} {l : List UInt8} (h : RowAt w g (vals l)) (hg : g < B) (hm : l.length = m) : Byt w B (some ⟨g, 0, none⟩) m l := by
  have h' : RowT w g 5 (vals l ++ []) := by rw [List.append_nil]; exact h
  exact h'.byt hg hm

end Go.Proofs.YtcenonnccodfoaaDoor


namespace Go.Proofs.YtcenonnccodfoaaDoor

open Go.RowKit


theorem u32_eq {a b : Int} (h : a = b) : Ending.returned (.int .u32 a) = .returned (.int .u32 b) := by rw [h]
theorem val_eq {k : IntKind} {a b : Int} (h : a = b) : Value.int k a = .int k b := by rw [h]
theorem take_step (l : List UInt8) (k : Nat) (h : k < l.length) : l.take (k + 1) = l.take k ++ [l.getD k 0] := by
  rw [List.take_succ_eq_append_getElem h, List.getD_eq_getElem?_getD, List.getElem?_eq_getElem h]; rfl
theorem crcGo_take (l : List UInt8) (k c : Nat) (h : k < l.length) : crcGo (l.take (k + 1)) c = crcSteps 8 (crcGo (l.take k) c ^^^ bt l k) := by
  rw [take_step l k h, crcGo_snoc]; rfl
theorem not_u32 (c : Nat) (h : c < 4294967296) : bits .xor .u32 IntKind.u32.max (c : Int) = ((4294967295 - c : Nat) : Int) := by
  have e : IntKind.u32.max = ((4294967295 : Nat) : Int) := by decide
  rw [e, u32_xor_nat _ _ (by omega) h]
  have := xor_ones 32 c (by omega)
  rw [show 2 ^ 32 - 1 = 4294967295 by decide] at this
  rw [this]

set_option maxHeartbeats 400000 in
theorem crc_any (A : Option Addr) (n c B : Nat) (l : List UInt8) (w : World) (h : Byt w B A n l) (hn : n ≤ maxLen) :
    Calls Tryd.prog 44 #[.slice A n c] w fun e w' => e = .returned (.int .u32 (crcOf l : Nat)) ∧ w = w' := by
  unfold maxLen at hn
  have hl := Lib.hid h.1
  go_enter Tryd.func44, Tryd.ntmps44
  go_wp2
  go_loop [3, 8] (fun t i => ∃ k : Nat, k ≤ n ∧ i = .int .i64 k ∧ t = .int .u32 (crcGo (l.take k) 4294967295 : Nat)) (fun _ i => n - (intOf i).toNat)
  case atStart => exact ⟨0, Nat.zero_le _, rfl, rfl⟩
  case round =>
    obtain ⟨k, hk, rfl, rfl⟩ := hrel
    by_cases hlt : k < n
    · obtain ⟨b, off, rfl, hb, hc⟩ := h.at_ (by omega)
      have hck := hc k hlt
      have hbt := bt_lt l k
      have HS := Lib.hid (crcGo_take l k 4294967295 (by rw [hl.out]; exact hlt))
      have hg := crcGo_lt (l.take k) (c := 4294967295) (by omega)
      clear hc h
      obtain ⟨x, hx⟩ : ∃ x, x = crcGo (l.take k) 4294967295 := ⟨_, rfl⟩
      rw [← hx] at hg HS ⊢
      have HX := Lib.hid (u32_xor_nat x (bt l k) hg (by omega))
      have hy : x ^^^ bt l k < 4294967296 := Nat.xor_lt_two_pow (n := 32) (by omega) (by omega)
      obtain ⟨y, hy'⟩ : ∃ y, y = x ^^^ bt l k := ⟨_, rfl⟩
      rw [← hy'] at hy HX HS
      have HY := Lib.hid hy'
      have HXX := Lib.hid hx
      clear hx hy'
      go_wp2
      rw [HX.out]
      go_loop [3, 16] (fun t i => ∃ j : Nat, j ≤ 8 ∧ i = .int .i64 j ∧ t = .int .u32 (crcSteps j y : Nat)) (fun _ i => 8 - (intOf i).toNat)
      case atStart => exact ⟨0, Nat.zero_le _, rfl, rfl⟩
      case round =>
        obtain ⟨j, hj, rfl, rfl⟩ := hrel
        by_cases hj8 : j < 8
        · have hs := crcSteps_lt j hy
          obtain ⟨z, hz⟩ : ∃ z, z = crcSteps j y := ⟨_, rfl⟩
          have HM := Lib.hid (crc_mask z (by rw [hz]; exact hs))
          have HZ := Lib.hid hz
          rw [← hz] at hs ⊢
          clear hz
          go_wp2
          go_round
          case rel => exact ⟨j + 1, by omega, by go_num, by rw [crcSteps, ← HZ.out]; exact val_eq HM.out⟩
          case measure => simp [intOf]; omega
        · go_wp2
          go_round
          case rel => exact ⟨k + 1, by omega, by go_num, by rw [HS.out]; rw [show j = 8 by omega]⟩
          case measure => simp [intOf]; omega
    · go_wp2
      go_ret
      refine ⟨u32_eq ?_, rfl⟩
      rw [List.take_of_length_le (by rw [hl.out]; omega)]
      exact not_u32 _ (crcGo_lt l (by omega))

theorem low_bit (z : Nat) (h : z < 4294967296) : bits .and .u32 (z : Int) 1 = ((z % 2 : Nat) : Int) := by
  have := u32_and_nat z 1 h (by omega); rw [nat_mask1] at this; exact this
theorem low_one {z : Nat} (h : z < 4294967296) (ho : z % 2 = 1) : bits .and .u32 (z : Int) 1 = 1 := by rw [low_bit z h, ho]; rfl
theorem low_zero {z : Nat} (h : z < 4294967296) (ho : ¬ z % 2 = 1) : bits .and .u32 (z : Int) 1 = 0 := by rw [low_bit z h, show z % 2 = 0 by omega]; rfl
theorem step_odd {z : Nat} (h : z < 4294967296) (ho : z % 2 = 1) : bits .xor .u32 ((z : Int) / 2) 3988292384 = ((crcStep z : Nat) : Int) := by
  have e4 : ((z : Int) / 2) = ((z / 2 : Nat) : Int) := by omega
  have := u32_xor_nat (z / 2) 3988292384 (by omega) (by omega)
  rw [e4]; unfold crcStep; rw [if_pos ho]; exact this
theorem step_even {z : Nat} (ho : ¬ z % 2 = 1) : ((z : Int) / 2) = ((crcStep z : Nat) : Int) := by
  unfold crcStep; rw [if_neg ho]; omega

set_option maxHeartbeats 400000 in
theorem crcRef_any (A : Option Addr) (n c B : Nat) (l : List UInt8) (w : World) (h : Byt w B A n l) (hn : n ≤ maxLen) :
    Calls Tryd.prog 32 #[.slice A n c] w fun e w' => e = .returned (.int .u32 (crcOf l : Nat)) ∧ w = w' := by
  unfold maxLen at hn
  have hl := Lib.hid h.1
  go_enter Tryd.func32, Tryd.ntmps32
  go_wp2
  go_loop [3, 4] (fun t i => ∃ k : Nat, k ≤ n ∧ i = .int .i64 k ∧ t = .int .u32 (crcGo (l.take k) 4294967295 : Nat)) (fun _ i => n - (intOf i).toNat)
  case atStart => exact ⟨0, Nat.zero_le _, rfl, rfl⟩
  case round =>
    obtain ⟨k, hk, rfl, rfl⟩ := hrel
    by_cases hlt : k < n
    · obtain ⟨b, off, rfl, hb, hc⟩ := h.at_ (by omega)
      have hck := hc k hlt
      have hbt := bt_lt l k
      have HS := Lib.hid (crcGo_take l k 4294967295 (by rw [hl.out]; exact hlt))
      have hg := crcGo_lt (l.take k) (c := 4294967295) (by omega)
      clear hc h
      obtain ⟨x, hx⟩ : ∃ x, x = crcGo (l.take k) 4294967295 := ⟨_, rfl⟩
      rw [← hx] at hg HS ⊢
      have HX := Lib.hid (u32_xor_nat x (bt l k) hg (by omega))
      have hy : x ^^^ bt l k < 4294967296 := Nat.xor_lt_two_pow (n := 32) (by omega) (by omega)
      obtain ⟨y, hy'⟩ : ∃ y, y = x ^^^ bt l k := ⟨_, rfl⟩
      rw [← hy'] at hy HX HS
      clear hx hy'
      go_wp2
      rw [HX.out]
      go_loop [3, 5] (fun t i => ∃ j : Nat, j ≤ 8 ∧ i = .int .i64 j ∧ t = .int .u32 (crcSteps j y : Nat)) (fun _ i => 8 - (intOf i).toNat)
      case atStart => exact ⟨0, Nat.zero_le _, rfl, rfl⟩
      case round =>
        obtain ⟨j, hj, rfl, rfl⟩ := hrel
        by_cases hj8 : j < 8
        · have hs := crcSteps_lt j hy
          obtain ⟨z, hz⟩ : ∃ z, z = crcSteps j y := ⟨_, rfl⟩
          have HZ := Lib.hid hz
          rw [← hz] at hs ⊢
          clear hz
          by_cases ho : z % 2 = 1
          · have hlow := low_one hs ho
            have HM := Lib.hid (step_odd hs ho)
            clear ho
            go_wp2
            go_round
            case rel => exact ⟨j + 1, by omega, by go_num, by rw [crcSteps, ← HZ.out]; exact val_eq HM.out⟩
            case measure => simp [intOf]; omega
          · have hlow := low_zero hs ho
            have HM := Lib.hid (step_even ho)
            clear ho
            go_wp2
            go_round
            case rel => exact ⟨j + 1, by omega, by go_num, by rw [crcSteps, ← HZ.out]; exact val_eq HM.out⟩
            case measure => simp [intOf]; omega
        · go_wp2
          go_round
          case rel => exact ⟨k + 1, by omega, by go_num, by rw [HS.out]; rw [show j = 8 by omega]⟩
          case measure => simp [intOf]; omega
    · go_wp2
      go_ret
      refine ⟨u32_eq ?_, rfl⟩
      rw [List.take_of_length_le (by rw [hl.out]; omega)]
      exact not_u32 _ (crcGo_lt l (by omega))

end Go.Proofs.YtcenonnccodfoaaDoor
