/-
  The contracts of the fixed-width functions: the program's and the reference's decoders return the same value and error, and leave the world as it was; the appending ones return a new slice with the same bytes and turn nothing that was there.
  Conditions: the argument reads as a list of bytes of at most 2^32 elements.
  The contracts of the fixed-width appending functions: the program's and the reference's return a new slice, the bytes of the argument followed by the integer, the least significant byte first, and turn nothing that was there.
  Conditions: the argument reads as a list of bytes of at most 2^32 elements.
  The builtin append of make([]byte, n)... onto a slice of bytes of the call's own: n zeros behind it.
  Conditions: at most 2^40 bytes together.
-/
import Derived.Test.YtcenonnccodfoaaDoorMa3
import Derived.Test.YtcenonnccodfoaaDoorMa2
namespace Go.Proofs.YtcenonnccodfoaaDoor

open Go.RowKit

/-- The integer in k bytes from off on, the least significant byte first. -/
def leUp (l : List UInt8) (off : Nat) : Nat → Nat
  | 0 => 0
  | k + 1 => leUp l off k + bt l (off + k) * 256 ^ k
def uintV (l : List UInt8) (off : Int) (k : Nat) : Nat := if off < 0 ∨ (l.length : Int) < off ∨ (l.length : Int) - off < k then 0 else leUp l off.toNat k
def uintE (l : List UInt8) (off : Int) (k : Nat) : Int := if off < 0 ∨ (l.length : Int) < off then 6 else if (l.length : Int) - off < k then 52 else 0

theorem leUp_lt (l : List UInt8) (o j : Nat) : leUp l o j < 256 ^ j := by
  induction j with
  | zero => exact Nat.one_pos
  | succ j ih =>
    have h1 := bt_lt l (o + j)
    have h2 : bt l (o + j) * 256 ^ j ≤ 255 * 256 ^ j := Nat.mul_le_mul_right _ (by omega)
    show leUp l o j + bt l (o + j) * 256 ^ j < 256 ^ (j + 1)
    rw [Nat.pow_succ]; omega
theorem pow_le_56 {j : Nat} (h : j < 8) : 256 ^ j ≤ 72057594037927936 :=
  Nat.le_trans (Nat.pow_le_pow_right (by omega) (show j ≤ 7 by omega)) (by decide)
/-- A byte put on top of j bytes. -/
theorem or_shift (x y j : Nat) (hx : x < 256 ^ j) (hy : y < 256) (hj : j < 8) : bits .or .u64 (x : Int) (IntKind.u64.wrap ((y : Int) * 2 ^ (8 * j))) = ((x + y * 256 ^ j : Nat) : Int) := by
  have hp := pow_le_56 hj
  have e0 : (2 : Nat) ^ (8 * j) = 256 ^ j := by rw [Nat.pow_mul]
  have hm : y * 256 ^ j ≤ 255 * 256 ^ j := Nat.mul_le_mul_right _ (by omega)
  have e1 : (y : Int) * 2 ^ (8 * j) = ((y * 256 ^ j : Nat) : Int) := by rw [← e0]; push_cast; rfl
  rw [e1, IntKind.wrap_u64]
  have e2 : ((y * 256 ^ j : Nat) : Int) % 18446744073709551616 = ((y * 256 ^ j : Nat) : Int) := by omega
  rw [e2, u64_or_nat _ _ (by omega) (by omega), Nat.or_comm, nat_join (8 * j) (y * 256 ^ j) x (by rw [e0]; exact Nat.mul_mod_left _ _) (by rw [e0]; exact hx), Nat.add_comm]

set_option maxRecDepth 20000 in
set_option maxHeartbeats 800000 in
theorem fixed_any (A : Option Addr) (n c B k : Nat) (off : Int) (l : List UInt8) (w : World) (h : Byt w B A n l) (hn : n ≤ 4294967296) (hk : k ≤ 8) :
    Calls Tryd.prog 60 #[.slice A n c, .int .i64 off, .int .i64 (k : Int)] w fun e w' => e = .returned (.tuple #[.int .u64 (uintV l off k : Nat), .int .i64 (uintE l off k)]) ∧ w = w' := by
  have HL := Lib.hid h.1
  by_cases hr : off < 0 ∨ (n : Int) < off
  · have e1 : uintV l off k = 0 := by unfold uintV; rw [if_pos (by rw [h.1]; omega)]
    have e2 : uintE l off k = 6 := by unfold uintE; rw [if_pos (by rw [h.1]; omega)]
    rw [e1, e2]
    clear e1 e2 h
    rcases hr with hr | hr
    · go_enter Tryd.func60, Tryd.ntmps60
      go_wp2
      go_ret2
      exact ⟨rfl, rfl⟩
    · have hr' : 0 ≤ off := by omega
      have hd : decide (off ≤ (n : Int)) = false := by simp; omega
      go_enter Tryd.func60, Tryd.ntmps60
      go_wp2
      go_ret2
      exact ⟨rfl, rfl⟩
  · obtain ⟨o, rfl⟩ : ∃ o : Nat, off = (o : Int) := ⟨off.toNat, by omega⟩
    have ho : o ≤ n := by omega
    have hd : decide (o ≤ n) = true := by simpa using ho
    clear hr
    by_cases ht : n - o < k
    · have e1 : uintV l (o : Int) k = 0 := by unfold uintV; rw [if_pos (by rw [h.1]; omega)]
      have e2 : uintE l (o : Int) k = 52 := by unfold uintE; rw [if_neg (by rw [h.1]; omega), if_pos (by rw [h.1]; omega)]
      rw [e1, e2]
      clear e1 e2 h
      have ht' : (n : Int) - (o : Int) < (k : Int) := by omega
      go_enter Tryd.func60, Tryd.ntmps60
      go_wp2
      go_ret2
      exact ⟨rfl, rfl⟩
    · have e1 : uintV l (o : Int) k = leUp l o k := by unfold uintV; rw [if_neg (by rw [h.1]; omega)]; rfl
      have e2 : uintE l (o : Int) k = 0 := by unfold uintE; rw [if_neg (by rw [h.1]; omega), if_neg (by rw [h.1]; omega)]
      rw [e1, e2]
      clear e1 e2
      have ht' : ¬ (n : Int) - (o : Int) < (k : Int) := by omega
      have HH := Lib.hid h
      clear h
      go_enter Tryd.func60, Tryd.ntmps60
      go_wp2
      go_loop [8, 21] (fun t i => ∃ j : Nat, j ≤ k ∧ i = .int .i64 j ∧ t = .int .u64 (leUp l o j : Nat)) (fun _ i => k - (intOf i).toNat)
      case atStart => exact ⟨0, Nat.zero_le _, rfl, rfl⟩
      case round =>
        obtain ⟨j, hj, rfl, rfl⟩ := hrel
        by_cases hlt : j < k
        · obtain ⟨b, off, rfl, hb, hc⟩ := HH.out.at_ (by omega)
          have hcj := hc (o + j) (by omega)
          have hbt := bt_lt l (o + j)
          clear hc
          obtain ⟨x, hx⟩ : ∃ x, x = leUp l o j := ⟨_, rfl⟩
          have HO := Lib.hid (or_shift (leUp l o j) (bt l (o + j)) j (leUp_lt l o j) hbt (by omega))
          rw [← hx] at HO ⊢
          have HX := Lib.hid hx
          clear hx
          go_wp2
          go_round
          case rel => exact ⟨j + 1, by omega, by go_num, by rw [leUp, ← HX.out]; exact int_k HO.out⟩
          case measure => simp [intOf]; omega
        · go_wp2
          go_ret2
          rw [show j = k by omega]
          exact ⟨rfl, rfl⟩

/-- What the reference has gathered when it comes down to byte j. -/
def leDown (l : List UInt8) (o k : Nat) (j : Nat) : Nat := leUp l (o + j) (k - j)
theorem leUp_front (l : List UInt8) (o k : Nat) : leUp l o (k + 1) = leUp l (o + 1) k * 256 + bt l o := by
  induction k with
  | zero => simp [leUp]
  | succ k ih =>
    show leUp l o (k + 1) + bt l (o + (k + 1)) * 256 ^ (k + 1) = (leUp l (o + 1) k + bt l (o + 1 + k) * 256 ^ k) * 256 + bt l o
    rw [ih, Nat.pow_succ, Nat.add_mul, show o + (k + 1) = o + 1 + k by omega, Nat.mul_assoc]
    omega
theorem or_low (x y : Nat) (hx : x < 72057594037927936) (hy : y < 256) : bits .or .u64 (IntKind.u64.wrap ((x : Int) * 256)) (y : Int) = ((x * 256 + y : Nat) : Int) := by
  have e1 : IntKind.u64.wrap ((x : Int) * 256) = ((x * 256 : Nat) : Int) := by rw [IntKind.wrap_u64]; omega
  rw [e1, u64_or_nat _ _ (by omega) (by omega), nat_join 8 (x * 256) y (by omega) (by omega)]

set_option maxRecDepth 20000 in
set_option maxHeartbeats 800000 in
theorem uintRef_any (A : Option Addr) (n c B k : Nat) (off : Int) (l : List UInt8) (w : World) (h : Byt w B A n l) (hn : n ≤ 4294967296) (hk : k ≤ 8) :
    Calls Tryd.prog 37 #[.slice A n c, .int .i64 off, .int .i64 (k : Int)] w fun e w' => e = .returned (.tuple #[.int .u64 (uintV l off k : Nat), .int .i64 (uintE l off k)]) ∧ w = w' := by
  have HL := Lib.hid h.1
  by_cases hr : off < 0 ∨ (n : Int) < off
  · have e1 : uintV l off k = 0 := by unfold uintV; rw [if_pos (by rw [h.1]; omega)]
    have e2 : uintE l off k = 6 := by unfold uintE; rw [if_pos (by rw [h.1]; omega)]
    rw [e1, e2]
    clear e1 e2 h
    rcases hr with hr | hr
    · have hd : decide (off < 0) = true := by simpa using hr
      go_enter Tryd.func37, Tryd.ntmps37
      go_wp2
      go_ret2
      exact ⟨rfl, rfl⟩
    · have hr' : decide (off < 0) = false := by simp; omega
      have hd : decide ((n : Int) < off) = true := by simpa using hr
      go_enter Tryd.func37, Tryd.ntmps37
      go_wp2
      go_ret2
      exact ⟨rfl, rfl⟩
  · obtain ⟨o, rfl⟩ : ∃ o : Nat, off = (o : Int) := ⟨off.toNat, by omega⟩
    have ho : o ≤ n := by omega
    have hr' : decide ((o : Int) < 0) = false := by simp
    have hd : decide (n < o) = false := by simpa using ho
    clear hr
    by_cases ht : n - o < k
    · have e1 : uintV l (o : Int) k = 0 := by unfold uintV; rw [if_pos (by rw [h.1]; omega)]
      have e2 : uintE l (o : Int) k = 52 := by unfold uintE; rw [if_neg (by rw [h.1]; omega), if_pos (by rw [h.1]; omega)]
      rw [e1, e2]
      clear e1 e2 h
      have ht' : (n : Int) - (o : Int) < (k : Int) := by omega
      go_enter Tryd.func37, Tryd.ntmps37
      go_wp2
      go_ret2
      exact ⟨rfl, rfl⟩
    · have e1 : uintV l (o : Int) k = leUp l o k := by unfold uintV; rw [if_neg (by rw [h.1]; omega)]; rfl
      have e2 : uintE l (o : Int) k = 0 := by unfold uintE; rw [if_neg (by rw [h.1]; omega), if_neg (by rw [h.1]; omega)]
      rw [e1, e2]
      clear e1 e2
      have ht' : ¬ (n : Int) - (o : Int) < (k : Int) := by omega
      have HH := Lib.hid h
      clear h
      go_enter Tryd.func37, Tryd.ntmps37
      go_wp2
      go_loop [8, 9] (fun t i => ∃ j : Nat, j ≤ k ∧ i = .int .i64 ((j : Int) - 1) ∧ t = .int .u64 (leDown l o k j : Nat)) (fun _ i => (intOf i + 1).toNat)
      case atStart => exact ⟨k, Nat.le_refl _, rfl, by unfold leDown; rw [Nat.sub_self]; rfl⟩
      case round =>
        obtain ⟨j, hj, rfl, rfl⟩ := hrel
        by_cases hlt : 0 < j
        · obtain ⟨b, off, rfl, hb, hc⟩ := HH.out.at_ (by omega)
          obtain ⟨i, rfl⟩ : ∃ i, j = i + 1 := ⟨j - 1, by omega⟩
          have hcj := hc (o + i) (by omega)
          have hbt := bt_lt l (o + i)
          clear hc
          have hD : leDown l o k i = leDown l o k (i + 1) * 256 + bt l (o + i) := by
            unfold leDown; rw [show k - i = (k - (i + 1)) + 1 by omega, leUp_front]; rfl
          have hxl : leDown l o k (i + 1) < 72057594037927936 := Nat.lt_of_lt_of_le (leUp_lt _ _ _) (pow_le_56 (by omega))
          obtain ⟨x, hx⟩ : ∃ x, x = leDown l o k (i + 1) := ⟨_, rfl⟩
          rw [← hx] at hD hxl ⊢
          have HO := Lib.hid (or_low x (bt l (o + i)) hxl hbt)
          have HD := Lib.hid hD
          have hi : ((i + 1 : Nat) : Int) - 1 = (i : Int) := by omega
          rw [hi]
          clear hx hD hxl hi
          go_wp2
          go_round
          case rel => exact ⟨i, by omega, rfl, by rw [HD.out]; exact int_k HO.out⟩
          case measure => simp [intOf]
        · obtain rfl : j = 0 := by omega
          go_wp2
          go_ret2
          exact ⟨rfl, rfl⟩

end Go.Proofs.YtcenonnccodfoaaDoor


namespace Go.Proofs.YtcenonnccodfoaaDoor

open Go.RowKit

/-- The k lowest bytes of v, the least significant one first. -/
def leB (v : Nat) : Nat → List UInt8
  | 0 => []
  | k + 1 => leB v k ++ [UInt8.ofNat (v / 256 ^ k % 256)]
theorem length_leB (v k : Nat) : (leB v k).length = k := by
  induction k with
  | zero => rfl
  | succ k ih => show (leB v k ++ [_]).length = _; rw [List.length_append, ih]; rfl
theorem arr8 : Tryd.prog.underlying 97 = some (.array (Tryd.prog.arrayLen 97) (Tryd.prog.elem 97)) := by kernel_rfl
theorem arr8_len : Tryd.prog.arrayLen 97 = 8 := by kernel_rfl
theorem arr8_size (W : World) : (sizeOf (Tryd.prog.elem 97)).run Tryd.prog W = .ok 1 W := by kernel_rfl
theorem arr8_to (g : Nat) (k : Nat) (h : k ≤ 8) (W : World) :
    (Instr.sliceAt 97 (.pointer (some ⟨g, 0, none⟩)) none (some (.int .i64 (k : Int))) none).run Tryd.prog W = .ok (.slice (some ⟨g, 0, none⟩) k 8) W := by
  rw [run_sliceAt_array_h _ _ _ arr8 .i64 (k : Int) (by omega) (by rw [arr8_len]; omega), arr8_size, arr8_len]
  simp [Result.andThen, slicedAt, Addr.add]

theorem byte_shift (v j : Nat) : ((v / 256 ^ j % 256 : Nat) : Int) = (v : Int) / 2 ^ (8 * j) % 256 := by
  have e0 : (2 : Nat) ^ (8 * j) = 256 ^ j := by rw [Nat.pow_mul]
  rw [← e0, Int.natCast_emod, Int.natCast_ediv, Int.natCast_pow]; rfl

set_option maxRecDepth 20000 in
set_option maxHeartbeats 800000 in
theorem appF_any (A : Option Addr) (n c B v k : Nat) (l : List UInt8) (w : World) (h : Byt w B A n l) (hB : B ≤ w.heap.size) (hn : n ≤ 4294967296) (hk : k ≤ 8) :
    Calls Tryd.prog 57 #[.slice A n c, .int .u64 (v : Int), .int .i64 (k : Int)] w fun e w' => 
      ∃ g, e = .returned (.slice (some ⟨g, 0, none⟩) (n + k) (n + k)) ∧ w.heap.size ≤ g ∧ RowAt w' g (vals (l ++ leB v k)) ∧ Below w.heap.size w w' := by
  have HH := Lib.hid h
  clear h
  have HNEW := Lib.hid (RowT.new w 97 (zeros 8))
  have HBE := Lib.hid ((Below.refl w.heap.size w).alloc (Nat.le_refl _) (.cells (zeros 8).toArray 97))
  go_enter Tryd.func57, Tryd.ntmps57
  go_wp2
  go_loopw [10] (fun i wr => ∃ j : Nat, j ≤ k ∧ i = .int .i64 (j : Int) ∧ Hid (RowT wr w.heap.size 97 (vals (leB v j) ++ zeros (8 - j))) ∧ Hid (Below w.heap.size w wr)) (fun i _ => 8 - (intOf i).toNat)
  case atStart => exact ⟨0, Nat.zero_le _, rfl, HNEW, HBE⟩
  case round =>
    obtain ⟨j, hj, rfl, HRW, HBW⟩ := hrel
    by_cases hlt : j < k
    · have hcell : wr.cell? ⟨w.heap.size, j, none⟩ = some (.int .u8 0) := by
        rw [HRW.out.cell, List.getElem?_append_right (by rw [length_vals, length_leB]; exact Nat.le_refl _), length_vals, length_leB, Nat.sub_self]
        exact zeros_zero (by omega)
      have hfr := HRW.out.frozen j
      go_wp2
      go_roundw
      case rel =>
        refine ⟨j + 1, by omega, by go_num, Lib.hid ?_, Lib.hid (HBW.out.setCell (Nat.le_refl _) _)⟩
        have h1 := HRW.out.set_ j (.int .u8 ((v / 256 ^ j % 256 : Nat) : Int))
        rw [zeros_cons (show 0 < 8 - j by omega)] at h1
        have h2 := vals_snoc (leB v j) (v / 256 ^ j % 256) (by omega) (zeros (8 - j - 1)) (.int .u8 0)
        rw [length_leB] at h2
        rw [h2, show 8 - j - 1 = 8 - (j + 1) by omega, byte_shift] at h1
        exact h1
      case measure => simp [intOf]; omega
    · have hcut := arr8_to w.heap.size k hk
      obtain rfl : k = j := by omega
      have hlt := HRW.out.lt
      have hj := join_two A n c l (some ⟨w.heap.size, 0, none⟩) k 8 (leB v k) wr.heap.size _ ((HH.out.below (HBW.out.mono hB)).wide (by omega)) (HRW.out.byt hlt (length_leB v k)) (Nat.le_refl _) (by omega)
      have HJ := Lib.hid hj
      clear hj
      go_wp2_with fail
      refine HJ.out.mono ?_
      rintro e w3 ⟨rfl, hr3, hb3⟩
      have HR3 := Lib.hid hr3
      have HB3 := Lib.hid hb3
      clear hr3 hb3
      go_wp2
      go_ret
      exact ⟨wr.heap.size + 1, rfl, by omega, HR3.out, HBW.out.trans (HB3.out.mono (by omega))⟩

/-- What the reference's loops carry: the slice so far, of the call's own. -/
def Grow (w wr : World) (t : Value) (l : List UInt8) : Prop := Own wr w.heap.size t l ∧ Below w.heap.size w wr
theorem Grow.size {w wr : World} {t : Value} {l : List UInt8} (h : Grow w wr t l) : w.heap.size ≤ wr.heap.size := h.2.size
/-- One byte more: the new cell is written, then appended. -/
theorem Grow.push {w wr : World} {t : Value} {l : List UInt8} (h : Grow w wr t l) (x : UInt8) (hl : l.length ≤ 1099511627775) :
    ∃ v' w', (Builtin.append_ #[23, 23] 23 #[t, .slice (some ⟨wr.heap.size, 0, none⟩) 1 1]).run Tryd.prog (wr.alloc (.cells #[.int .u8 (x.toNat : Int)] 5)) = .ok v' w' ∧ Grow w w' v' (l ++ [x]) := by
  obtain ⟨v', w', hrun, h1, h2, h3⟩ := (h.1.alloc (.cells #[.int .u8 (x.toNat : Int)] 5)).app 1 (Byt.lit wr _ [x] #[.int .u8 (x.toNat : Int)] 1 (by simp [vals]) rfl) (h.2.alloc h.2.size _) (by have := h.2.size; simp; omega) (by omega)
  exact ⟨v', w', hrun, h1, h2⟩
theorem Grow.start {w : World} {B : Nat} {A : Option Addr} {n : Nat} (c : Nat) {l : List UInt8} (h : Byt w B A n l) (hn : n ≤ 4294967296) :
    ∃ v' w', (Builtin.append_ #[23, 23] 23 #[.slice none 0 0, .slice A n c]).run Tryd.prog w = .ok v' w' ∧ Grow w w' v' l := by
  obtain ⟨v', w', hrun, h1, h2, h3⟩ := (Own.nil w w.heap.size).app c h (Below.refl _ _) (Nat.le_refl _) (by simp; omega)
  exact ⟨v', w', hrun, h1, h2⟩
theorem Grow.form {w wr : World} {t : Value} {l : List UInt8} (h : Grow w wr t l) : ∃ A cap, t = .slice A l.length cap ∧ l.length ≤ cap ∧ Byt wr wr.heap.size A l.length l := by
  obtain ⟨A, cap, e, h1, _, h2⟩ := h.1.form
  exact ⟨A, cap, e, h1, h2⟩
theorem ofNat_mod (x : Nat) : ((UInt8.ofNat (x % 256)).toNat : Int) = ((x % 256 : Nat) : Int) := by
  rw [UInt8.toNat_ofNat']; omega

set_option maxRecDepth 20000 in
set_option maxHeartbeats 800000 in
theorem appRef_any (A : Option Addr) (n c B v k : Nat) (l : List UInt8) (w : World) (h : Byt w B A n l) (hn : n ≤ 4294967296) (hk : k ≤ 8) :
    Calls Tryd.prog 47 #[.slice A n c, .int .u64 (v : Int), .int .i64 (k : Int)] w fun e w' => ∃ t, e = .returned t ∧ Grow w w' t (l ++ leB v k) := by
  have hln := h.1
  obtain ⟨v1, w1, hrun1, hg1⟩ := Grow.start c h hn
  have HR1 := Lib.hid hrun1
  have HG1 := Lib.hid hg1
  have HL := Lib.hid hln
  clear hrun1 hg1 hln h
  go_enter Tryd.func47, Tryd.ntmps47
  go_wp2_with (at_builtin; refine wpList_app_run HR1.out rfl rfl rfl rfl rfl ?_)
  go_loopw [7, 8] (fun t i wr => ∃ j : Nat, j ≤ k ∧ i = .int .i64 (j : Int) ∧ Hid (Grow w wr t (l ++ leB v j))) (fun _ i _ => k - (intOf i).toNat)
  case atStart => exact ⟨0, Nat.zero_le _, rfl, by rw [show leB v 0 = [] from rfl, List.append_nil]; exact HG1⟩
  case round =>
    obtain ⟨j, hj, rfl, HG⟩ := hrel
    by_cases hlt : j < k
    · obtain ⟨v2, w2, hrun2, hg2⟩ := HG.out.push (UInt8.ofNat (v / 256 ^ j % 256)) (by rw [List.length_append, HL.out, length_leB]; omega)
      rw [ofNat_mod, byte_shift, List.append_assoc] at *
      have HR2 := Lib.hid hrun2
      have HG2 := Lib.hid hg2
      clear hrun2 hg2
      go_wp2_with (at_builtin; refine wpList_app_run HR2.out rfl rfl rfl rfl rfl ?_)
      go_roundw
      case rel => exact ⟨j + 1, by omega, by go_num, HG2⟩
      case measure => simp [intOf]; omega
    · go_wp2
      go_ret
      rw [show k = j by omega]
      exact ⟨_, rfl, HG.out⟩


theorem leUp_small (l : List UInt8) (off : Int) (k : Nat) : uintV l off k < 256 ^ k := by
  unfold uintV; split
  · exact Nat.pow_pos (by omega)
  · exact leUp_lt _ _ _

set_option maxRecDepth 20000 in
theorem uint32_any (A : Option Addr) (n c B : Nat) (off : Int) (l : List UInt8) (w : World) (h : Byt w B A n l) (hn : n ≤ 4294967296) :
    Calls Tryd.prog 54 #[.slice A n c, .int .i64 off] w fun e w' => e = .returned (.tuple #[.int .u32 (uintV l off 4 : Nat), .int .i64 (uintE l off 4)]) ∧ w = w' := by
  have HC := Lib.hid (fixed_any A n c B 4 off l w h hn (by omega))
  have hv : uintV l off 4 < 4294967296 := leUp_small l off 4
  clear h
  go_enter Tryd.func54, Tryd.ntmps54
  go_wp2_with fail
  refine HC.out.mono ?_
  rintro e w1 ⟨rfl, rfl⟩
  go_wp2
  go_ret2
  exact ⟨rfl, rfl⟩
set_option maxRecDepth 20000 in
theorem app32_any (A : Option Addr) (n c B v : Nat) (l : List UInt8) (w : World) (h : Byt w B A n l) (hB : B ≤ w.heap.size) (hn : n ≤ 4294967296) (hv : v < 4294967296) :
    Calls Tryd.prog 52 #[.slice A n c, .int .u32 (v : Int)] w fun e w' =>
      ∃ g, e = .returned (.slice (some ⟨g, 0, none⟩) (n + 4) (n + 4)) ∧ w.heap.size ≤ g ∧ RowAt w' g (vals (l ++ leB v 4)) ∧ Below w.heap.size w w' := by
  have HC := Lib.hid (appF_any A n c B v 4 l w h hB hn (by omega))
  clear h
  go_enter Tryd.func52, Tryd.ntmps52
  go_wp2_with fail
  refine HC.out.mono ?_
  rintro e w1 ⟨g, rfl, hg, hr, hb⟩
  have HR := Lib.hid hr
  have HBB := Lib.hid hb
  clear hr hb
  go_wp2
  go_ret
  exact ⟨g, rfl, hg, HR.out, HBB.out⟩
theorem leB_mod2 (v : Nat) : leB (v % 65536) 2 = leB v 2 := by
  have e0 : v % 65536 / 256 ^ 0 % 256 = v / 256 ^ 0 % 256 := by omega
  have e1 : v % 65536 / 256 ^ 1 % 256 = v / 256 ^ 1 % 256 := by omega
  simp only [leB, e0, e1]
theorem leB_mod4 (v : Nat) : leB (v % 4294967296) 4 = leB v 4 := by
  have e0 : v % 4294967296 / 256 ^ 0 % 256 = v / 256 ^ 0 % 256 := by omega
  have e1 : v % 4294967296 / 256 ^ 1 % 256 = v / 256 ^ 1 % 256 := by omega
  have e2 : v % 4294967296 / 256 ^ 2 % 256 = v / 256 ^ 2 % 256 := by omega
  have e3 : v % 4294967296 / 256 ^ 3 % 256 = v / 256 ^ 3 % 256 := by omega
  simp only [leB, e0, e1, e2, e3]

end Go.Proofs.YtcenonnccodfoaaDoor


namespace Go.Proofs.YtcenonnccodfoaaDoor

open Go.RowKit

def zerosL (n : Nat) : List UInt8 := List.replicate n 0
theorem length_zeros (n : Nat) : (zerosL n).length = n := List.length_replicate
theorem zero_cells (n : Nat) : Builtin.zeroCells #[Value.int .u8 0] n = (vals (zerosL n)).toArray := by
  apply Array.ext
  · simp [Builtin.zeroCells, vals, zerosL]
  · intro i h1 h2
    simp [Builtin.zeroCells, vals, zerosL, Nat.mod_one]
theorem zero_cells2 (n : Nat) : Builtin.zeroCells (Value.int .u8 0).cells n = (vals (zerosL n)).toArray := zero_cells n
theorem und_int : Tryd.prog.underlying 3 = some (.int .i64) := by kernel_rfl
/-- The builtin append of n zeros. -/
theorem Own.zeros {W w0 : World} {base : Nat} {v : Value} {l : List UInt8} (h : Own W base v l) (n : Nat) (hb : Below base w0 W) (hbase : base ≤ W.heap.size) (hl : l.length + n ≤ 1099511627776) :
    ∃ v' w', (Builtin.append_ #[23, 3] 23 #[v, .int .i64 (n : Int)]).run Tryd.prog W = .ok v' w' ∧ Own w' base v' (l ++ zerosL n) ∧ Below base w0 w' ∧ W.heap.size ≤ w'.heap.size := by
  obtain ⟨i, hi, hz0, hz1, hz2⟩ := info_parts byte_info
  have ht := Tryd.underlying23
  have hlen : (vals (l ++ zerosL n)).length = (l ++ zerosL n).length * 1 := by rw [length_vals, Nat.mul_one]
  have hlz := length_zeros n
  have hw : IntKind.i64.wrap (n : Int) = n := by rw [IntKind.wrap_i64]; omega
  have hneg : ¬ ((n : Int) < 0) := by omega
  have h48 : ¬ (281474976710656 < (n : Int)) := by omega
  have e1 : (l ++ zerosL n).length = l.length + n := by rw [List.length_append, hlz]
  have grown : ∀ (old : Nat), (W.drew.alloc (.cells ((vals l).toArray ++ (vals (zerosL n)).toArray ++ Builtin.zeroCells #[Value.int .u8 0] (grownCap W (l.length + n) old 5 - (l.length + n))) 5)).ownsRow base 5 1
        (.slice (some ⟨W.heap.size, 0, none⟩) (l.length + n) (grownCap W (l.length + n) old 5)) (l ++ zerosL n).length (vals (l ++ zerosL n)) := by
    intro old
    have hge := grownCap_ge W (l.length + n) old 5
    have hcm : grownCap W (l.length + n) old 5 ≤ maxLen := grownCap_le_maxLen W (l.length + n) old 5 (by unfold maxLen; omega)
    rw [e1]
    refine ⟨by rw [length_vals, e1, Nat.mul_one], .inr ⟨W.heap.size, _, _, rfl, hbase, heap_alloc_new W.drew _, hge, hcm, ?_, ?_⟩⟩
    · simp only [Array.size_append, List.size_toArray, size_zeroCells, length_vals, hlz]
      simp
      omega
    · simp only [Array.toList_append]
      rw [← vals_append, Nat.mul_one, ← e1, ← length_vals]
      exact List.take_left
  have hgr : ∀ (o : Obj) (row : Option Nat), W.grownBy (W.drew.alloc o) row := fun o row => ⟨rfl, rfl, rfl, by simp, fun k hk _ => Below.heap_alloc _ _ _ hk⟩
  have hend : ∀ o : Obj, Below base w0 (W.drew.alloc o) := fun o => hb.drew.alloc hbase o
  rcases h.2 with ⟨rfl, h0⟩ | ⟨g, cap, cur, rfl, hbg, hg, hnc, hcm, hcs, htake⟩
  · have hl0 : l = [] := List.eq_nil_of_length_eq_zero h0
    subst hl0
    by_cases hn : n = 0
    · subst hn
      have hw0 : IntKind.i64.wrap 0 = 0 := by decide
      refine ⟨.slice none 0 0, W, ?_, Own.nil W base, hb, Nat.le_refl _⟩
      simp [Builtin.append_, run_underlying ht, run_underlying und_int, sizeOf, typeInfo, hi, asInt, asIntOf, hw0]
    · have hr := grown 0
      have h63' : ¬ (9223372036854775807 < (n : Int)) := by omega
      have h48' : ¬ (281474976710656 < Builtin.nextslicecap n 0) := by rw [nextslicecap_zero (by omega)]; omega
      refine ⟨_, _, ?_, hr, hend _, by simp⟩
      simp [Builtin.append_, run_underlying ht, run_underlying und_int, sizeOf, typeInfo, zeroValue, hi, hz0, hz1, hz2, asInt, asIntOf, hw, hneg, hn, h63', h48', h48, Question.forced, run_firstCells_none, newRow, grownCap, zero_cells, zero_cells2, show vals [] = [] from rfl]
  · by_cases hroom : l.length + n ≤ cap
    · have hvl : (vals (zerosL n)).length = n := by rw [length_vals, hlz]
      have hst := run_storeCells_at Tryd.prog g (l.length * 1) 5 (vals (zerosL n)) 0 cur W hg (by rw [hvl, hcs]; omega) (vals_one _)
      simp only [Nat.add_zero, Nat.mul_one] at hst
      have hown : (W.setRow g (cur.toList.take l.length ++ vals (zerosL n) ++ cur.toList.drop (l.length + (vals (zerosL n)).length)).toArray).ownsRow base 5 1 (.slice (some ⟨g, 0, none⟩) (l.length + n) cap) (l ++ zerosL n).length (vals (l ++ zerosL n)) := by
        rw [e1]
        refine ⟨by rw [length_vals, e1, Nat.mul_one], .inr ⟨g, cap, _, rfl, hbg, setRow_heap W g cur _ _ _ hg, hroom, hcm, ?_, ?_⟩⟩
        · simp only [List.size_toArray, List.length_append, List.length_take, List.length_drop, Array.length_toList, hvl]
          omega
        · rw [Nat.mul_one] at htake
          rw [htake, ← vals_append, Nat.mul_one, ← e1, ← length_vals]
          exact List.take_left
      refine ⟨_, _, ?_, hown, hb.trans ⟨rfl, rfl, rfl, by simp, fun k hk => setRow_other W g k _ (by omega)⟩, by simp⟩
      by_cases hn : n = 0
      · subst hn
        have hw0 : IntKind.i64.wrap 0 = 0 := by decide
        simp [Builtin.append_, run_underlying ht, run_underlying und_int, sizeOf, typeInfo, hi, asInt, asIntOf, hw0, hnc, storeCells]
        rw [show vals (zerosL 0) = [] from rfl]
        simp [setRow_self W g cur _ _ hg]
      · simp [Builtin.append_, run_underlying ht, run_underlying und_int, sizeOf, typeInfo, zeroValue, hi, hz0, hz1, hz2, asInt, asIntOf, hw, hneg, hn, h48, hroom, zero_cells2, Addr.add_lit, hst]
    · have hnn : ¬ (l.length + n ≤ cap) := hroom
      have hr := grown cap
      have hn : n ≠ 0 := by omega
      have h63' : ¬ (9223372036854775807 < ((l.length : Int) + (n : Int))) := by omega
      have hfits : Builtin.nextslicecap (l.length + n) cap * 1 ≤ 281474976710656 := growslice_fits (by omega) (by omega)
      have h48' : ¬ (281474976710656 < Builtin.nextslicecap (l.length + n) cap) := by omega
      have hfo := run_firstCells_some (P := Tryd.prog) W.drew 1 l.length ⟨g, 0, none⟩ l.length cap (vals l) (by rw [length_vals, Nat.mul_one]) (by simpa using World.ownsRow.cells (g := g) h rfl)
      refine ⟨_, _, ?_, hr, hend _, by simp⟩
      simp [Builtin.append_, run_underlying ht, run_underlying und_int, sizeOf, typeInfo, zeroValue, hi, hz0, hz1, hz2, asInt, asIntOf, hw, hneg, hn, hnn, h63', h48', h48, Question.forced, hfo, newRow, grownCap, zero_cells, zero_cells2]
end Go.Proofs.YtcenonnccodfoaaDoor
