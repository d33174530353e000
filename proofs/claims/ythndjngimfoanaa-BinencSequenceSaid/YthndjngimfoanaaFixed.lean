/-
  The contracts of the fixed-width functions: the program's and the reference's decoders return the same value and error, and leave the world as it was; the appending ones return a new slice with the same bytes and turn nothing that was there.
  Conditions: the argument reads as a list of bytes of at most 2^32 elements.
-/
import Derived.Test.YthndjngimfoanaaOwn
import Derived.Test.YthndjngimfoanaaPlain
namespace Go.Proofs.Ythndjngimfoanaa
open Go.RowKit

/-- The integer in k bytes from off on, the least significant byte first. -/
def leUp (l : List UInt8) (off : Nat) : Nat → Nat
  | 0 => 0
  | k + 1 => leUp l off k + bt l (off + k) * 256 ^ k
def uintV (l : List UInt8) (off : Int) (k : Nat) : Nat := if off < 0 ∨ (l.length : Int) < off ∨ (l.length : Int) - off < k then 0 else leUp l off.toNat k
def uintE (l : List UInt8) (off : Int) (k : Nat) : Int := if off < 0 ∨ (l.length : Int) < off then 6 else if (l.length : Int) - off < k then 52 else 0

theorem leUp_lt (l : List UInt8) (o j : Nat) : leUp l o j < 256 ^ j := by
  induction j with
  | zero => exact Nat.one_pos
  | succ j ih =>
    have h1 := bt_lt l (o + j)
    have h2 : bt l (o + j) * 256 ^ j ≤ 255 * 256 ^ j := Nat.mul_le_mul_right _ (by omega)
    show leUp l o j + bt l (o + j) * 256 ^ j < 256 ^ (j + 1)
    rw [Nat.pow_succ]; omega
theorem pow_le_56 {j : Nat} (h : j < 8) : 256 ^ j ≤ 72057594037927936 :=
  Nat.le_trans (Nat.pow_le_pow_right (by omega) (show j ≤ 7 by omega)) (by decide)
/-- A byte put on top of j bytes. -/
theorem or_shift (x y j : Nat) (hx : x < 256 ^ j) (hy : y < 256) (hj : j < 8) : bits .or .u64 (x : Int) (IntKind.u64.wrap ((y : Int) * 2 ^ (8 * j))) = ((x + y * 256 ^ j : Nat) : Int) := by
  have hp := pow_le_56 hj
  have e0 : (2 : Nat) ^ (8 * j) = 256 ^ j := by rw [Nat.pow_mul]
  have hm : y * 256 ^ j ≤ 255 * 256 ^ j := Nat.mul_le_mul_right _ (by omega)
  have e1 : (y : Int) * 2 ^ (8 * j) = ((y * 256 ^ j : Nat) : Int) := by rw [← e0]; push_cast; rfl
  rw [e1, IntKind.wrap_u64]
  have e2 : ((y * 256 ^ j : Nat) : Int) % 18446744073709551616 = ((y * 256 ^ j : Nat) : Int) := by omega
  rw [e2, u64_or_nat _ _ (by omega) (by omega), Nat.or_comm, nat_join (8 * j) (y * 256 ^ j) x (by rw [e0]; exact Nat.mul_mod_left _ _) (by rw [e0]; exact hx), Nat.add_comm]

set_option maxRecDepth 20000 in
set_option maxHeartbeats 800000 in
theorem fixed_any (A : Option Addr) (n c B k : Nat) (off : Int) (l : List UInt8) (w : World) (h : Byt w B A n l) (hn : n ≤ 4294967296) (hk : k ≤ 8) :
    Calls Try.prog 40 #[.slice A n c, .int .i64 off, .int .i64 (k : Int)] w fun e w' => e = .returned (.tuple #[.int .u64 (uintV l off k : Nat), .int .i64 (uintE l off k)]) ∧ w = w' := by
  have HL := Lib.hid h.1
  by_cases hr : off < 0 ∨ (n : Int) < off
  · have e1 : uintV l off k = 0 := by unfold uintV; rw [if_pos (by rw [h.1]; omega)]
    have e2 : uintE l off k = 6 := by unfold uintE; rw [if_pos (by rw [h.1]; omega)]
    rw [e1, e2]
    clear e1 e2 h
    rcases hr with hr | hr
    · go_enter Try.func40, Try.ntmps40
      go_wp2
      go_ret2
      exact ⟨rfl, rfl⟩
    · have hr' : 0 ≤ off := by omega
      have hd : decide (off ≤ (n : Int)) = false := by simp; omega
      go_enter Try.func40, Try.ntmps40
      go_wp2
      go_ret2
      exact ⟨rfl, rfl⟩
  · obtain ⟨o, rfl⟩ : ∃ o : Nat, off = (o : Int) := ⟨off.toNat, by omega⟩
    have ho : o ≤ n := by omega
    have hd : decide (o ≤ n) = true := by simpa using ho
    clear hr
    by_cases ht : n - o < k
    · have e1 : uintV l (o : Int) k = 0 := by unfold uintV; rw [if_pos (by rw [h.1]; omega)]
      have e2 : uintE l (o : Int) k = 52 := by unfold uintE; rw [if_neg (by rw [h.1]; omega), if_pos (by rw [h.1]; omega)]
      rw [e1, e2]
      clear e1 e2 h
      have ht' : (n : Int) - (o : Int) < (k : Int) := by omega
      go_enter Try.func40, Try.ntmps40
      go_wp2
      go_ret2
      exact ⟨rfl, rfl⟩
    · have e1 : uintV l (o : Int) k = leUp l o k := by unfold uintV; rw [if_neg (by rw [h.1]; omega)]; rfl
      have e2 : uintE l (o : Int) k = 0 := by unfold uintE; rw [if_neg (by rw [h.1]; omega), if_neg (by rw [h.1]; omega)]
      rw [e1, e2]
      clear e1 e2
      have ht' : ¬ (n : Int) - (o : Int) < (k : Int) := by omega
      have HH := Lib.hid h
      clear h
      go_enter Try.func40, Try.ntmps40
      go_wp2
      go_loop [8, 21] (fun t i => ∃ j : Nat, j ≤ k ∧ i = .int .i64 j ∧ t = .int .u64 (leUp l o j : Nat)) (fun _ i => k - (intOf i).toNat)
      case atStart => exact ⟨0, Nat.zero_le _, rfl, rfl⟩
      case round =>
        obtain ⟨j, hj, rfl, rfl⟩ := hrel
        by_cases hlt : j < k
        · obtain ⟨b, off, rfl, hb, hc⟩ := HH.out.at_ (by omega)
          have hcj := hc (o + j) (by omega)
          have hbt := bt_lt l (o + j)
          clear hc
          obtain ⟨x, hx⟩ : ∃ x, x = leUp l o j := ⟨_, rfl⟩
          have HO := Lib.hid (or_shift (leUp l o j) (bt l (o + j)) j (leUp_lt l o j) hbt (by omega))
          rw [← hx] at HO ⊢
          have HX := Lib.hid hx
          clear hx
          go_wp2
          go_round
          case rel => exact ⟨j + 1, by omega, by go_num, by rw [leUp, ← HX.out]; exact int_k HO.out⟩
          case measure => simp [intOf]; omega
        · go_wp2
          go_ret2
          rw [show j = k by omega]
          exact ⟨rfl, rfl⟩

/-- What the reference has gathered when it comes down to byte j. -/
def leDown (l : List UInt8) (o k : Nat) (j : Nat) : Nat := leUp l (o + j) (k - j)
theorem leUp_front (l : List UInt8) (o k : Nat) : leUp l o (k + 1) = leUp l (o + 1) k * 256 + bt l o := by
  induction k with
  | zero => simp [leUp]
  | succ k ih =>
    show leUp l o (k + 1) + bt l (o + (k + 1)) * 256 ^ (k + 1) = (leUp l (o + 1) k + bt l (o + 1 + k) * 256 ^ k) * 256 + bt l o
    rw [ih, Nat.pow_succ, Nat.add_mul, show o + (k + 1) = o + 1 + k by omega, Nat.mul_assoc]
    omega
theorem or_low (x y : Nat) (hx : x < 72057594037927936) (hy : y < 256) : bits .or .u64 (IntKind.u64.wrap ((x : Int) * 256)) (y : Int) = ((x * 256 + y : Nat) : Int) := by
  have e1 : IntKind.u64.wrap ((x : Int) * 256) = ((x * 256 : Nat) : Int) := by rw [IntKind.wrap_u64]; omega
  rw [e1, u64_or_nat _ _ (by omega) (by omega), nat_join 8 (x * 256) y (by omega) (by omega)]

set_option maxRecDepth 20000 in
set_option maxHeartbeats 800000 in
theorem uintRef_any (A : Option Addr) (n c B k : Nat) (off : Int) (l : List UInt8) (w : World) (h : Byt w B A n l) (hn : n ≤ 4294967296) (hk : k ≤ 8) :
    Calls Try.prog 18 #[.slice A n c, .int .i64 off, .int .i64 (k : Int)] w fun e w' => e = .returned (.tuple #[.int .u64 (uintV l off k : Nat), .int .i64 (uintE l off k)]) ∧ w = w' := by
  have HL := Lib.hid h.1
  by_cases hr : off < 0 ∨ (n : Int) < off
  · have e1 : uintV l off k = 0 := by unfold uintV; rw [if_pos (by rw [h.1]; omega)]
    have e2 : uintE l off k = 6 := by unfold uintE; rw [if_pos (by rw [h.1]; omega)]
    rw [e1, e2]
    clear e1 e2 h
    rcases hr with hr | hr
    · have hd : decide (off < 0) = true := by simpa using hr
      go_enter Try.func18, Try.ntmps18
      go_wp2
      go_ret2
      exact ⟨rfl, rfl⟩
    · have hr' : decide (off < 0) = false := by simp; omega
      have hd : decide ((n : Int) < off) = true := by simpa using hr
      go_enter Try.func18, Try.ntmps18
      go_wp2
      go_ret2
      exact ⟨rfl, rfl⟩
  · obtain ⟨o, rfl⟩ : ∃ o : Nat, off = (o : Int) := ⟨off.toNat, by omega⟩
    have ho : o ≤ n := by omega
    have hr' : decide ((o : Int) < 0) = false := by simp
    have hd : decide (n < o) = false := by simpa using ho
    clear hr
    by_cases ht : n - o < k
    · have e1 : uintV l (o : Int) k = 0 := by unfold uintV; rw [if_pos (by rw [h.1]; omega)]
      have e2 : uintE l (o : Int) k = 52 := by unfold uintE; rw [if_neg (by rw [h.1]; omega), if_pos (by rw [h.1]; omega)]
      rw [e1, e2]
      clear e1 e2 h
      have ht' : (n : Int) - (o : Int) < (k : Int) := by omega
      go_enter Try.func18, Try.ntmps18
      go_wp2
      go_ret2
      exact ⟨rfl, rfl⟩
    · have e1 : uintV l (o : Int) k = leUp l o k := by unfold uintV; rw [if_neg (by rw [h.1]; omega)]; rfl
      have e2 : uintE l (o : Int) k = 0 := by unfold uintE; rw [if_neg (by rw [h.1]; omega), if_neg (by rw [h.1]; omega)]
      rw [e1, e2]
      clear e1 e2
      have ht' : ¬ (n : Int) - (o : Int) < (k : Int) := by omega
      have HH := Lib.hid h
      clear h
      go_enter Try.func18, Try.ntmps18
      go_wp2
      go_loop [8, 9] (fun t i => ∃ j : Nat, j ≤ k ∧ i = .int .i64 ((j : Int) - 1) ∧ t = .int .u64 (leDown l o k j : Nat)) (fun _ i => (intOf i + 1).toNat)
      case atStart => exact ⟨k, Nat.le_refl _, rfl, by unfold leDown; rw [Nat.sub_self]; rfl⟩
      case round =>
        obtain ⟨j, hj, rfl, rfl⟩ := hrel
        by_cases hlt : 0 < j
        · obtain ⟨b, off, rfl, hb, hc⟩ := HH.out.at_ (by omega)
          obtain ⟨i, rfl⟩ : ∃ i, j = i + 1 := ⟨j - 1, by omega⟩
          have hcj := hc (o + i) (by omega)
          have hbt := bt_lt l (o + i)
          clear hc
          have hD : leDown l o k i = leDown l o k (i + 1) * 256 + bt l (o + i) := by
            unfold leDown; rw [show k - i = (k - (i + 1)) + 1 by omega, leUp_front]; rfl
          have hxl : leDown l o k (i + 1) < 72057594037927936 := Nat.lt_of_lt_of_le (leUp_lt _ _ _) (pow_le_56 (by omega))
          obtain ⟨x, hx⟩ : ∃ x, x = leDown l o k (i + 1) := ⟨_, rfl⟩
          rw [← hx] at hD hxl ⊢
          have HO := Lib.hid (or_low x (bt l (o + i)) hxl hbt)
          have HD := Lib.hid hD
          have hi : ((i + 1 : Nat) : Int) - 1 = (i : Int) := by omega
          rw [hi]
          clear hx hD hxl hi
          go_wp2
          go_round
          case rel => exact ⟨i, by omega, rfl, by rw [HD.out]; exact int_k HO.out⟩
          case measure => simp [intOf]
        · obtain rfl : j = 0 := by omega
          go_wp2
          go_ret2
          exact ⟨rfl, rfl⟩

end Go.Proofs.Ythndjngimfoanaa
