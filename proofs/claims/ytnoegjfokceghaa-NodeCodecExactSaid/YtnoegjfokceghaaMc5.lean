/-
  The contracts of the fixed-width functions: the program's and the reference's decoders return the same value and error, and leave the world as it was; the appending ones return a new slice with the same bytes and turn nothing that was there.
  Conditions: the argument reads as a list of bytes of at most 2^32 elements.
  The contracts of the fixed-width appending functions: the program's and the reference's return a new slice, the bytes of the argument followed by the integer, the least significant byte first, and turn nothing that was there.
  Conditions: the argument reads as a list of bytes of at most 2^32 elements.
-/
import Derived.Test.YtnoegjfokceghaaMc4
import Derived.Test.YtnoegjfokceghaaMc2
namespace Go.Proofs.Ytnoegjfokceghaa

open Go.RowKit

/-- The integer in k bytes from off on, the least significant byte first. -/
def leUp (l : List UInt8) (off : Nat) : Nat → Nat
  | 0 => 0
  | k + 1 => leUp l off k + bt l (off + k) * 256 ^ k
def uintV (l : List UInt8) (off : Int) (k : Nat) : Nat := if off < 0 ∨ (l.length : Int) < off ∨ (l.length : Int) - off < k then 0 else leUp l off.toNat k
def uintE (l : List UInt8) (off : Int) (k : Nat) : Int := if off < 0 ∨ (l.length : Int) < off then 6 else if (l.length : Int) - off < k then 52 else 0

theorem leUp_lt (l : List UInt8) (o j : Nat) : leUp l o j < 256 ^ j := by
  induction j with
  | zero => exact Nat.one_pos
  | succ j ih =>
    have h1 := bt_lt l (o + j)
    have h2 : bt l (o + j) * 256 ^ j ≤ 255 * 256 ^ j := Nat.mul_le_mul_right _ (by omega)
    show leUp l o j + bt l (o + j) * 256 ^ j < 256 ^ (j + 1)
    rw [Nat.pow_succ]; omega
theorem pow_le_56 {j : Nat} (h : j < 8) : 256 ^ j ≤ 72057594037927936 :=
  Nat.le_trans (Nat.pow_le_pow_right (by omega) (show j ≤ 7 by omega)) (by decide)
/-- A byte put on top of j bytes. -/
theorem or_shift (x y j : Nat) (hx : x < 256 ^ j) (hy : y < 256) (hj : j < 8) : bits .or .u64 (x : Int) (IntKind.u64.wrap ((y : Int) * 2 ^ (8 * j))) = ((x + y * 256 ^ j : Nat) : Int) := by
  have hp := pow_le_56 hj
  have e0 : (2 : Nat) ^ (8 * j) = 256 ^ j := by rw [Nat.pow_mul]
  have hm : y * 256 ^ j ≤ 255 * 256 ^ j := Nat.mul_le_mul_right _ (by omega)
  have e1 : (y : Int) * 2 ^ (8 * j) = ((y * 256 ^ j : Nat) : Int) := by rw [← e0]; push_cast; rfl
  rw [e1, IntKind.wrap_u64]
  have e2 : ((y * 256 ^ j : Nat) : Int) % 18446744073709551616 = ((y * 256 ^ j : Nat) : Int) := by omega
  rw [e2, u64_or_nat _ _ (by omega) (by omega), Nat.or_comm, nat_join (8 * j) (y * 256 ^ j) x (by rw [e0]; exact Nat.mul_mod_left _ _) (by rw [e0]; exact hx), Nat.add_comm]

/-- What the reference has gathered when it comes down to byte j. -/
def leDown (l : List UInt8) (o k : Nat) (j : Nat) : Nat := leUp l (o + j) (k - j)
theorem leUp_front (l : List UInt8) (o k : Nat) : leUp l o (k + 1) = leUp l (o + 1) k * 256 + bt l o := by
  induction k with
  | zero => simp [leUp]
  | succ k ih =>
    show leUp l o (k + 1) + bt l (o + (k + 1)) * 256 ^ (k + 1) = (leUp l (o + 1) k + bt l (o + 1 + k) * 256 ^ k) * 256 + bt l o
    rw [ih, Nat.pow_succ, Nat.add_mul, show o + (k + 1) = o + 1 + k by omega, Nat.mul_assoc]
    omega
theorem or_low (x y : Nat) (hx : x < 72057594037927936) (hy : y < 256) : bits .or .u64 (IntKind.u64.wrap ((x : Int) * 256)) (y : Int) = ((x * 256 + y : Nat) : Int) := by
  have e1 : IntKind.u64.wrap ((x : Int) * 256) = ((x * 256 : Nat) : Int) := by rw [IntKind.wrap_u64]; omega
  rw [e1, u64_or_nat _ _ (by omega) (by omega), nat_join 8 (x * 256) y (by omega) (by omega)]

end Go.Proofs.Ytnoegjfokceghaa


namespace Go.Proofs.Ytnoegjfokceghaa

open Go.RowKit

/-- The k lowest bytes of v, the least significant one first. -/
def leB (v : Nat) : Nat → List UInt8
  | 0 => []
  | k + 1 => leB v k ++ [UInt8.ofNat (v / 256 ^ k % 256)]
theorem length_leB (v k : Nat) : (leB v k).length = k := by
  induction k with
  | zero => rfl
  | succ k ih => show (leB v k ++ [_]).length = _; rw [List.length_append, ih]; rfl
theorem byte_shift (v j : Nat) : ((v / 256 ^ j % 256 : Nat) : Int) = (v : Int) / 2 ^ (8 * j) % 256 := by
  have e0 : (2 : Nat) ^ (8 * j) = 256 ^ j := by rw [Nat.pow_mul]
  rw [← e0, Int.natCast_emod, Int.natCast_ediv, Int.natCast_pow]; rfl

/-- What the reference's loops carry: the slice so far, of the call's own. -/
def Grow (w wr : World) (t : Value) (l : List UInt8) : Prop := Own wr w.heap.size t l ∧ Below w.heap.size w wr
theorem Grow.size {w wr : World} {t : Value} {l : List UInt8} (h : Grow w wr t l) : w.heap.size ≤ wr.heap.size := h.2.size
/-- One byte more: the new cell is written, then appended. -/
theorem Grow.push {w wr : World} {t : Value} {l : List UInt8} (h : Grow w wr t l) (x : UInt8) (hl : l.length ≤ 1099511627775) :
    ∃ v' w', (Builtin.append_ #[45, 45] 45 #[t, .slice (some ⟨wr.heap.size, 0, none⟩) 1 1]).run Try.prog (wr.alloc (.cells #[.int .u8 (x.toNat : Int)] 5)) = .ok v' w' ∧ Grow w w' v' (l ++ [x]) := by
  obtain ⟨v', w', hrun, h1, h2, h3⟩ := (h.1.alloc (.cells #[.int .u8 (x.toNat : Int)] 5)).app 1 (Byt.lit wr _ [x] #[.int .u8 (x.toNat : Int)] 1 (by simp [vals]) rfl) (h.2.alloc h.2.size _) (by have := h.2.size; simp; omega) (by omega)
  exact ⟨v', w', hrun, h1, h2⟩
theorem Grow.start {w : World} {B : Nat} {A : Option Addr} {n : Nat} (c : Nat) {l : List UInt8} (h : Byt w B A n l) (hn : n ≤ 4294967296) :
    ∃ v' w', (Builtin.append_ #[45, 45] 45 #[.slice none 0 0, .slice A n c]).run Try.prog w = .ok v' w' ∧ Grow w w' v' l := by
  obtain ⟨v', w', hrun, h1, h2, h3⟩ := (Own.nil w w.heap.size).app c h (Below.refl _ _) (Nat.le_refl _) (by simp; omega)
  exact ⟨v', w', hrun, h1, h2⟩
theorem Grow.form {w wr : World} {t : Value} {l : List UInt8} (h : Grow w wr t l) : ∃ A cap, t = .slice A l.length cap ∧ l.length ≤ cap ∧ Byt wr wr.heap.size A l.length l := by
  obtain ⟨A, cap, e, h1, _, h2⟩ := h.1.form
  exact ⟨A, cap, e, h1, h2⟩
theorem ofNat_mod (x : Nat) : ((UInt8.ofNat (x % 256)).toNat : Int) = ((x % 256 : Nat) : Int) := by
  rw [UInt8.toNat_ofNat']; omega

theorem leUp_small (l : List UInt8) (off : Int) (k : Nat) : uintV l off k < 256 ^ k := by
  unfold uintV; split
  · exact Nat.pow_pos (by omega)
  · exact leUp_lt _ _ _

theorem leB_mod2 (v : Nat) : leB (v % 65536) 2 = leB v 2 := by
  have e0 : v % 65536 / 256 ^ 0 % 256 = v / 256 ^ 0 % 256 := by omega
  have e1 : v % 65536 / 256 ^ 1 % 256 = v / 256 ^ 1 % 256 := by omega
  simp only [leB, e0, e1]
theorem leB_mod4 (v : Nat) : leB (v % 4294967296) 4 = leB v 4 := by
  have e0 : v % 4294967296 / 256 ^ 0 % 256 = v / 256 ^ 0 % 256 := by omega
  have e1 : v % 4294967296 / 256 ^ 1 % 256 = v / 256 ^ 1 % 256 := by omega
  have e2 : v % 4294967296 / 256 ^ 2 % 256 = v / 256 ^ 2 % 256 := by omega
  have e3 : v % 4294967296 / 256 ^ 3 % 256 = v / 256 ^ 3 % 256 := by omega
  simp only [leB, e0, e1, e2, e3]

end Go.Proofs.Ytnoegjfokceghaa
