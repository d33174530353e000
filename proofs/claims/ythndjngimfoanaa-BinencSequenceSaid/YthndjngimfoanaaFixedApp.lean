/-
  The contracts of the fixed-width appending functions: the program's and the reference's return a new slice, the bytes of the argument followed by the integer, the least significant byte first, and turn nothing that was there.
  Conditions: the argument reads as a list of bytes of at most 2^32 elements.
-/
import Derived.Test.YthndjngimfoanaaFixed
namespace Go.Proofs.Ythndjngimfoanaa
open Go.RowKit

/-- The k lowest bytes of v, the least significant one first. -/
def leB (v : Nat) : Nat → List UInt8
  | 0 => []
  | k + 1 => leB v k ++ [UInt8.ofNat (v / 256 ^ k % 256)]
theorem length_leB (v k : Nat) : (leB v k).length = k := by
  induction k with
  | zero => rfl
  | succ k ih => show (leB v k ++ [_]).length = _; rw [List.length_append, ih]; rfl
theorem arr8 : Try.prog.underlying 68 = some (.array (Try.prog.arrayLen 68) (Try.prog.elem 68)) := by kernel_rfl
theorem arr8_len : Try.prog.arrayLen 68 = 8 := by kernel_rfl
theorem arr8_size (W : World) : (sizeOf (Try.prog.elem 68)).run Try.prog W = .ok 1 W := by kernel_rfl
theorem arr8_to (g : Nat) (k : Nat) (h : k ≤ 8) (W : World) :
    (Instr.sliceAt 68 (.pointer (some ⟨g, 0, none⟩)) none (some (.int .i64 (k : Int))) none).run Try.prog W = .ok (.slice (some ⟨g, 0, none⟩) k 8) W := by
  rw [run_sliceAt_array_h _ _ _ arr8 .i64 (k : Int) (by omega) (by rw [arr8_len]; omega), arr8_size, arr8_len]
  simp [Result.andThen, slicedAt, Addr.add]

theorem byte_shift (v j : Nat) : ((v / 256 ^ j % 256 : Nat) : Int) = (v : Int) / 2 ^ (8 * j) % 256 := by
  have e0 : (2 : Nat) ^ (8 * j) = 256 ^ j := by rw [Nat.pow_mul]
  rw [← e0, Int.natCast_emod, Int.natCast_ediv, Int.natCast_pow]; rfl

set_option maxRecDepth 20000 in
set_option maxHeartbeats 800000 in
theorem appF_any (A : Option Addr) (n c B v k : Nat) (l : List UInt8) (w : World) (h : Byt w B A n l) (hB : B ≤ w.heap.size) (hn : n ≤ 4294967296) (hk : k ≤ 8) :
    Calls Try.prog 41 #[.slice A n c, .int .u64 (v : Int), .int .i64 (k : Int)] w fun e w' => 
      ∃ g, e = .returned (.slice (some ⟨g, 0, none⟩) (n + k) (n + k)) ∧ w.heap.size ≤ g ∧ RowAt w' g (vals (l ++ leB v k)) ∧ Below w.heap.size w w' := by
  have HH := Lib.hid h
  clear h
  have HNEW := Lib.hid (RowT.new w 68 (zeros 8))
  have HBE := Lib.hid ((Below.refl w.heap.size w).alloc (Nat.le_refl _) (.cells (zeros 8).toArray 68))
  go_enter Try.func41, Try.ntmps41
  go_wp2
  go_loopw [10] (fun i wr => ∃ j : Nat, j ≤ k ∧ i = .int .i64 (j : Int) ∧ Hid (RowT wr w.heap.size 68 (vals (leB v j) ++ zeros (8 - j))) ∧ Hid (Below w.heap.size w wr)) (fun i _ => 8 - (intOf i).toNat)
  case atStart => exact ⟨0, Nat.zero_le _, rfl, HNEW, HBE⟩
  case round =>
    obtain ⟨j, hj, rfl, HRW, HBW⟩ := hrel
    by_cases hlt : j < k
    · have hcell : wr.cell? ⟨w.heap.size, j, none⟩ = some (.int .u8 0) := by
        rw [HRW.out.cell, List.getElem?_append_right (by rw [length_vals, length_leB]; exact Nat.le_refl _), length_vals, length_leB, Nat.sub_self]
        exact zeros_zero (by omega)
      have hfr := HRW.out.frozen j
      go_wp2
      go_roundw
      case rel =>
        refine ⟨j + 1, by omega, by go_num, Lib.hid ?_, Lib.hid (HBW.out.setCell (Nat.le_refl _) _)⟩
        have h1 := HRW.out.set_ j (.int .u8 ((v / 256 ^ j % 256 : Nat) : Int))
        rw [zeros_cons (show 0 < 8 - j by omega)] at h1
        have h2 := vals_snoc (leB v j) (v / 256 ^ j % 256) (by omega) (zeros (8 - j - 1)) (.int .u8 0)
        rw [length_leB] at h2
        rw [h2, show 8 - j - 1 = 8 - (j + 1) by omega, byte_shift] at h1
        exact h1
      case measure => simp [intOf]; omega
    · have hcut := arr8_to w.heap.size k hk
      obtain rfl : k = j := by omega
      have hlt := HRW.out.lt
      have hj := join_two A n c l (some ⟨w.heap.size, 0, none⟩) k 8 (leB v k) wr.heap.size _ ((HH.out.below (HBW.out.mono hB)).wide (by omega)) (HRW.out.byt hlt (length_leB v k)) (Nat.le_refl _) (by omega)
      have HJ := Lib.hid hj
      clear hj
      go_wp2_with fail
      refine HJ.out.mono ?_
      rintro e w3 ⟨rfl, hr3, hb3⟩
      have HR3 := Lib.hid hr3
      have HB3 := Lib.hid hb3
      clear hr3 hb3
      go_wp2
      go_ret
      exact ⟨wr.heap.size + 1, rfl, by omega, HR3.out, HBW.out.trans (HB3.out.mono (by omega))⟩

/-- What the reference's loops carry: the slice so far, of the call's own. -/
def Grow (w wr : World) (t : Value) (l : List UInt8) : Prop := Own wr w.heap.size t l ∧ Below w.heap.size w wr
theorem Grow.size {w wr : World} {t : Value} {l : List UInt8} (h : Grow w wr t l) : w.heap.size ≤ wr.heap.size := h.2.size
/-- One byte more: the new cell is written, then appended. -/
theorem Grow.push {w wr : World} {t : Value} {l : List UInt8} (h : Grow w wr t l) (x : UInt8) (hl : l.length ≤ 1099511627775) :
    ∃ v' w', (Builtin.append_ #[22, 22] 22 #[t, .slice (some ⟨wr.heap.size, 0, none⟩) 1 1]).run Try.prog (wr.alloc (.cells #[.int .u8 (x.toNat : Int)] 5)) = .ok v' w' ∧ Grow w w' v' (l ++ [x]) := by
  obtain ⟨v', w', hrun, h1, h2, h3⟩ := (h.1.alloc (.cells #[.int .u8 (x.toNat : Int)] 5)).app 1 (Byt.lit wr _ [x] #[.int .u8 (x.toNat : Int)] 1 (by simp [vals]) rfl) (h.2.alloc h.2.size _) (by have := h.2.size; simp; omega) (by omega)
  exact ⟨v', w', hrun, h1, h2⟩
theorem Grow.start {w : World} {B : Nat} {A : Option Addr} {n : Nat} (c : Nat) {l : List UInt8} (h : Byt w B A n l) (hn : n ≤ 4294967296) :
    ∃ v' w', (Builtin.append_ #[22, 22] 22 #[.slice none 0 0, .slice A n c]).run Try.prog w = .ok v' w' ∧ Grow w w' v' l := by
  obtain ⟨v', w', hrun, h1, h2, h3⟩ := (Own.nil w w.heap.size).app c h (Below.refl _ _) (Nat.le_refl _) (by simp; omega)
  exact ⟨v', w', hrun, h1, h2⟩
theorem Grow.form {w wr : World} {t : Value} {l : List UInt8} (h : Grow w wr t l) : ∃ A cap, t = .slice A l.length cap ∧ l.length ≤ cap ∧ Byt wr wr.heap.size A l.length l := by
  obtain ⟨A, cap, e, h1, _, h2⟩ := h.1.form
  exact ⟨A, cap, e, h1, h2⟩
theorem ofNat_mod (x : Nat) : ((UInt8.ofNat (x % 256)).toNat : Int) = ((x % 256 : Nat) : Int) := by
  rw [UInt8.toNat_ofNat']; omega

set_option maxRecDepth 20000 in
set_option maxHeartbeats 800000 in
theorem appRef_any (A : Option Addr) (n c B v k : Nat) (l : List UInt8) (w : World) (h : Byt w B A n l) (hn : n ≤ 4294967296) (hk : k ≤ 8) :
    Calls Try.prog 20 #[.slice A n c, .int .u64 (v : Int), .int .i64 (k : Int)] w fun e w' => ∃ t, e = .returned t ∧ Grow w w' t (l ++ leB v k) := by
  have hln := h.1
  obtain ⟨v1, w1, hrun1, hg1⟩ := Grow.start c h hn
  have HR1 := Lib.hid hrun1
  have HG1 := Lib.hid hg1
  have HL := Lib.hid hln
  clear hrun1 hg1 hln h
  go_enter Try.func20, Try.ntmps20
  go_wp2_with (at_builtin; refine wpList_app_run HR1.out rfl rfl rfl rfl rfl ?_)
  go_loopw [7, 8] (fun t i wr => ∃ j : Nat, j ≤ k ∧ i = .int .i64 (j : Int) ∧ Hid (Grow w wr t (l ++ leB v j))) (fun _ i _ => k - (intOf i).toNat)
  case atStart => exact ⟨0, Nat.zero_le _, rfl, by rw [show leB v 0 = [] from rfl, List.append_nil]; exact HG1⟩
  case round =>
    obtain ⟨j, hj, rfl, HG⟩ := hrel
    by_cases hlt : j < k
    · obtain ⟨v2, w2, hrun2, hg2⟩ := HG.out.push (UInt8.ofNat (v / 256 ^ j % 256)) (by rw [List.length_append, HL.out, length_leB]; omega)
      rw [ofNat_mod, byte_shift, List.append_assoc] at *
      have HR2 := Lib.hid hrun2
      have HG2 := Lib.hid hg2
      clear hrun2 hg2
      go_wp2_with (at_builtin; refine wpList_app_run HR2.out rfl rfl rfl rfl rfl ?_)
      go_roundw
      case rel => exact ⟨j + 1, by omega, by go_num, HG2⟩
      case measure => simp [intOf]; omega
    · go_wp2
      go_ret
      rw [show k = j by omega]
      exact ⟨_, rfl, HG.out⟩


theorem leUp_small (l : List UInt8) (off : Int) (k : Nat) : uintV l off k < 256 ^ k := by
  unfold uintV; split
  · exact Nat.pow_pos (by omega)
  · exact leUp_lt _ _ _

set_option maxRecDepth 20000 in
theorem uint16_any (A : Option Addr) (n c B : Nat) (off : Int) (l : List UInt8) (w : World) (h : Byt w B A n l) (hn : n ≤ 4294967296) :
    Calls Try.prog 15 #[.slice A n c, .int .i64 off] w fun e w' => e = .returned (.tuple #[.int .u16 (uintV l off 2 : Nat), .int .i64 (uintE l off 2)]) ∧ w = w' := by
  have HC := Lib.hid (fixed_any A n c B 2 off l w h hn (by omega))
  have hv : uintV l off 2 < 65536 := leUp_small l off 2
  clear h
  go_enter Try.func15, Try.ntmps15
  go_wp2_with fail
  refine HC.out.mono ?_
  rintro e w1 ⟨rfl, rfl⟩
  go_wp2
  go_ret2
  exact ⟨rfl, rfl⟩
set_option maxRecDepth 20000 in
theorem uint32_any (A : Option Addr) (n c B : Nat) (off : Int) (l : List UInt8) (w : World) (h : Byt w B A n l) (hn : n ≤ 4294967296) :
    Calls Try.prog 16 #[.slice A n c, .int .i64 off] w fun e w' => e = .returned (.tuple #[.int .u32 (uintV l off 4 : Nat), .int .i64 (uintE l off 4)]) ∧ w = w' := by
  have HC := Lib.hid (fixed_any A n c B 4 off l w h hn (by omega))
  have hv : uintV l off 4 < 4294967296 := leUp_small l off 4
  clear h
  go_enter Try.func16, Try.ntmps16
  go_wp2_with fail
  refine HC.out.mono ?_
  rintro e w1 ⟨rfl, rfl⟩
  go_wp2
  go_ret2
  exact ⟨rfl, rfl⟩
set_option maxRecDepth 20000 in
theorem uint64_any (A : Option Addr) (n c B : Nat) (off : Int) (l : List UInt8) (w : World) (h : Byt w B A n l) (hn : n ≤ 4294967296) :
    Calls Try.prog 17 #[.slice A n c, .int .i64 off] w fun e w' => e = .returned (.tuple #[.int .u64 (uintV l off 8 : Nat), .int .i64 (uintE l off 8)]) ∧ w = w' := by
  have HC := Lib.hid (fixed_any A n c B 8 off l w h hn (by omega))
  clear h
  go_enter Try.func17, Try.ntmps17
  go_wp2_with fail
  refine HC.out.mono ?_
  rintro e w1 ⟨rfl, rfl⟩
  go_wp2
  go_ret2
  exact ⟨rfl, rfl⟩

set_option maxRecDepth 20000 in
theorem app16_any (A : Option Addr) (n c B v : Nat) (l : List UInt8) (w : World) (h : Byt w B A n l) (hB : B ≤ w.heap.size) (hn : n ≤ 4294967296) (hv : v < 65536) :
    Calls Try.prog 19 #[.slice A n c, .int .u16 (v : Int)] w fun e w' =>
      ∃ g, e = .returned (.slice (some ⟨g, 0, none⟩) (n + 2) (n + 2)) ∧ w.heap.size ≤ g ∧ RowAt w' g (vals (l ++ leB v 2)) ∧ Below w.heap.size w w' := by
  have HC := Lib.hid (appF_any A n c B v 2 l w h hB hn (by omega))
  clear h
  go_enter Try.func19, Try.ntmps19
  go_wp2_with fail
  refine HC.out.mono ?_
  rintro e w1 ⟨g, rfl, hg, hr, hb⟩
  have HR := Lib.hid hr
  have HBB := Lib.hid hb
  clear hr hb
  go_wp2
  go_ret
  exact ⟨g, rfl, hg, HR.out, HBB.out⟩
set_option maxRecDepth 20000 in
theorem app32_any (A : Option Addr) (n c B v : Nat) (l : List UInt8) (w : World) (h : Byt w B A n l) (hB : B ≤ w.heap.size) (hn : n ≤ 4294967296) (hv : v < 4294967296) :
    Calls Try.prog 21 #[.slice A n c, .int .u32 (v : Int)] w fun e w' =>
      ∃ g, e = .returned (.slice (some ⟨g, 0, none⟩) (n + 4) (n + 4)) ∧ w.heap.size ≤ g ∧ RowAt w' g (vals (l ++ leB v 4)) ∧ Below w.heap.size w w' := by
  have HC := Lib.hid (appF_any A n c B v 4 l w h hB hn (by omega))
  clear h
  go_enter Try.func21, Try.ntmps21
  go_wp2_with fail
  refine HC.out.mono ?_
  rintro e w1 ⟨g, rfl, hg, hr, hb⟩
  have HR := Lib.hid hr
  have HBB := Lib.hid hb
  clear hr hb
  go_wp2
  go_ret
  exact ⟨g, rfl, hg, HR.out, HBB.out⟩
set_option maxRecDepth 20000 in
theorem app64_any (A : Option Addr) (n c B v : Nat) (l : List UInt8) (w : World) (h : Byt w B A n l) (hB : B ≤ w.heap.size) (hn : n ≤ 4294967296) :
    Calls Try.prog 22 #[.slice A n c, .int .u64 (v : Int)] w fun e w' =>
      ∃ g, e = .returned (.slice (some ⟨g, 0, none⟩) (n + 8) (n + 8)) ∧ w.heap.size ≤ g ∧ RowAt w' g (vals (l ++ leB v 8)) ∧ Below w.heap.size w w' := by
  have HC := Lib.hid (appF_any A n c B v 8 l w h hB hn (by omega))
  clear h
  go_enter Try.func22, Try.ntmps22
  go_wp2_with fail
  refine HC.out.mono ?_
  rintro e w1 ⟨g, rfl, hg, hr, hb⟩
  have HR := Lib.hid hr
  have HBB := Lib.hid hb
  clear hr hb
  go_wp2
  go_ret
  exact ⟨g, rfl, hg, HR.out, HBB.out⟩
theorem leB_mod2 (v : Nat) : leB (v % 65536) 2 = leB v 2 := by
  have e0 : v % 65536 / 256 ^ 0 % 256 = v / 256 ^ 0 % 256 := by omega
  have e1 : v % 65536 / 256 ^ 1 % 256 = v / 256 ^ 1 % 256 := by omega
  simp only [leB, e0, e1]
theorem leB_mod4 (v : Nat) : leB (v % 4294967296) 4 = leB v 4 := by
  have e0 : v % 4294967296 / 256 ^ 0 % 256 = v / 256 ^ 0 % 256 := by omega
  have e1 : v % 4294967296 / 256 ^ 1 % 256 = v / 256 ^ 1 % 256 := by omega
  have e2 : v % 4294967296 / 256 ^ 2 % 256 = v / 256 ^ 2 % 256 := by omega
  have e3 : v % 4294967296 / 256 ^ 3 % 256 = v / 256 ^ 3 % 256 := by omega
  simp only [leB, e0, e1, e2, e3]

end Go.Proofs.Ythndjngimfoanaa
