/-
  The program's checkHeader: the first error that a header shows.
  Conditions: at most 2^31 bytes.
  Contracts of Go's library, as the kit's shelf has them, laid at this program: each is the library's own theorem at this program's numbers.
  Conditions: as each says.
  The library's bytes.Equal, bytes.Clone and strings.TrimRight in this proof's words; the program's view: the module that an entry describes.
  Conditions: as each theorem says.
-/
import Derived.Test.YtcenonnccodfoaaDoorMa13
import Derived.Shelf.Strings.Trim
import Derived.Shelf.Strings.Search1
import Derived.Ground.SlbCloneProg
import Derived.Shelf.Bytes.SlClone
import Derived.Shelf.Bytes.SlEqualAll
import Derived.Shelf.Bytes.Small
import Derived.Test.YtcenonnccodfoaaDoorProg
namespace Go.Proofs.YtcenonnccodfoaaDoor

open Go.RowKit

/-- The error that the header of b shows. -/
def headE (b : List UInt8) : Int :=
  if b.length < 16 then 52
  else if b.take 4 ≠ [77, 75, 66, 73] then 68
  else if uintV b 4 2 ≠ 1 then 69
  else if b.length < uintV b 8 4 then 52
  else if uintV b 8 4 < b.length then 53
  else if 16777216 < uintV b 8 4 then 15
  else if uintV b 12 4 ≠ crcOf (b.drop 16) then 55
  else 0
theorem isParse_bad {b : List UInt8} (h : headE b ≠ 0) : IsParse8 b [] (headE b) := by
  unfold headE at h ⊢
  unfold IsParse8
  by_cases h1 : b.length < 16
  · rw [if_pos h1, if_pos h1]; exact ⟨rfl, rfl⟩
  rw [if_neg h1] at h ⊢
  rw [if_neg h1]
  by_cases h2 : b.take 4 ≠ [77, 75, 66, 73]
  · rw [if_pos h2, if_pos h2]; exact ⟨rfl, rfl⟩
  rw [if_neg h2] at h ⊢
  rw [if_neg h2]
  by_cases h3 : uintV b 4 2 ≠ 1
  · rw [if_pos h3, if_pos h3]; exact ⟨rfl, rfl⟩
  rw [if_neg h3] at h ⊢
  rw [if_neg h3]
  by_cases h4 : b.length < uintV b 8 4
  · rw [if_pos h4, if_pos h4]; exact ⟨rfl, rfl⟩
  rw [if_neg h4] at h ⊢
  rw [if_neg h4]
  by_cases h5 : uintV b 8 4 < b.length
  · rw [if_pos h5, if_pos h5]; exact ⟨rfl, rfl⟩
  rw [if_neg h5] at h ⊢
  rw [if_neg h5]
  by_cases h6 : 16777216 < uintV b 8 4
  · rw [if_pos h6, if_pos h6]; exact ⟨rfl, rfl⟩
  rw [if_neg h6] at h ⊢
  rw [if_neg h6]
  by_cases h7 : uintV b 12 4 ≠ crcOf (b.drop 16)
  · rw [if_pos h7, if_pos h7]; exact ⟨rfl, rfl⟩
  rw [if_neg h7] at h
  exact absurd rfl h
theorem isParse_ok {b : List UInt8} {ms : List GMod} {e : Int} (h : headE b = 0) (hr : (e = 0 ∧ errM ms = 0 ∧ imageL ms = b) ∨ (e = 54 ∧ ms = [] ∧ ∀ xs, errM xs = 0 → imageL xs ≠ b)) : IsParse8 b ms e := by
  unfold headE at h
  unfold IsParse8
  split at h
  · cases h
  split at h
  · cases h
  split at h
  · cases h
  split at h
  · cases h
  split at h
  · cases h
  split at h
  · cases h
  split at h
  · cases h
  · rename_i h1 h2 h3 h4 h5 h6 h7
    rw [if_neg h1, if_neg h2, if_neg h3, if_neg h4, if_neg h5, if_neg h6, if_neg h7]
    exact hr
theorem headE_ok {b : List UInt8} (h : headE b = 0) : 16 ≤ b.length ∧ b.length ≤ 16777216 := by
  unfold headE at h
  split at h
  · cases h
  split at h
  · cases h
  split at h
  · cases h
  split at h
  · cases h
  split at h
  · cases h
  split at h
  · cases h
  · omega
theorem head_rd {b : List UInt8} (h : 16 ≤ b.length) : rdF b headF = [uintV b 4 2, uintV b 6 2, uintV b 8 4, uintV b 12 4] := by
  have h1 := uintV_in b 4 2 (by omega)
  have h2 := uintV_in b 6 2 (by omega)
  have h3 := uintV_in b 8 4 (by omega)
  have h4 := uintV_in b 12 4 (by omega)
  simp only [rdF, headF, List.map_cons, List.map_nil]
  rw [← h1, ← h2, ← h3, ← h4]; rfl
set_option maxRecDepth 50000 in
set_option maxHeartbeats 1000000 in
theorem checkHeader_any (A : Option Addr) (n c : Nat) (b : List UInt8) (w : World) (hb : Byt w w.heap.size A n b) (hc : n ≤ c) (hn : n ≤ 2147483648) :
    Calls Tryd.prog 33 #[.slice A n c] w fun e w' => e = .returned (.int .i64 (headE b)) ∧ Below w.heap.size w w' := by
  have hln := hb.1
  have HB := Lib.hid hb
  have HD : Hid (headE b = if b.length < 16 then 52 else if b.take 4 ≠ [77, 75, 66, 73] then 68 else if uintV b 4 2 ≠ 1 then 69 else if b.length < uintV b 8 4 then 52 else if uintV b 8 4 < b.length then 53 else if 16777216 < uintV b 8 4 then 15 else if uintV b 12 4 ≠ crcOf (b.drop 16) then 55 else 0) := Lib.hid rfl
  rw [hln] at HD
  clear hb
  by_cases h16 : n < 16
  · have HR : Hid (headE b = 52) := Lib.hid (by rw [HD.out, if_pos h16])
    have f0 : decide ((n : Int) < 16) = true := by simp; omega
    clear h16
    go_enter Tryd.func33, Tryd.ntmps33
    go_wp2
    go_ret
    exact ⟨congrArg (fun x : Int => Ending.returned (Value.int .i64 x)) HR.out.symm, Below.refl _ _⟩
  have f0 : decide ((n : Int) < 16) = false := by simp; omega
  rw [if_neg h16] at HD
  have hrd := head_rd (b := b) (by omega)
  go_enter Tryd.func33, Tryd.ntmps33
  go_wp2_with fail
  go_fit (headF_any w)
  rintro e w1 ⟨rfl, hf1, hb1⟩
  have HRF : Hid (Calls Tryd.prog 48 #[.slice A n c, .slice (some ⟨w.heap.size, 0, none⟩) 4 4] w1 fun e w' => ∃ r, e = .returned (.slice (some ⟨r, 0, none⟩) 4 4) ∧ NumsAt w' r (rdF b headF) ∧ w1.heap.size ≤ r ∧ Below w1.heap.size w1 w') := Lib.hid (readFields_any A n c w.heap.size b w.heap.size headF w1 (HB.out.below hb1) hb1.size hc (by omega) hf1 (by decide) (headF_ok (by omega)))
  have HB1 := Lib.hid hb1
  clear hb1 hf1
  go_wp2_with fail
  go_fit HRF.out
  rintro e w2 ⟨r, rfl, hnm, hrg, hb2⟩
  rw [hrd] at hnm
  have HBW := Lib.hid (bel_next8 HB1.out hb2)
  have HB2 := Lib.hid (HB.out.below HBW.out)
  have hstr := (HB2.out.to (k := 4) (by omega)).str c
  have hto : ∀ W : World, (Instr.slice 23 (.slice A n c) none (some (.int .i64 4)) none).run Tryd.prog W = .ok (.slice A 4 c) W := fun W => by
    have h := cut_to A n c 4 (by omega) W
    rw [run_sliceAt_slice _ _ _ _ _ _ byte_elem] at h
    exact h
  have hto2 : ∀ W : World, (Instr.sliceAt 23 (.slice A n c) none (some (.int .i64 4)) none).run Tryd.prog W = .ok (.slice A 4 c) W := fun W => cut_to A n c 4 (by omega) W
  have v0 := NumsAt.cell hnm (k := 0) (by simp)
  have v2 := NumsAt.cell hnm (k := 2) (by simp)
  have v3 := NumsAt.cell hnm (k := 3) (by simp)
  have hrw2 := RowT.lt hnm
  simp only [List.getElem_cons_zero, List.getElem_cons_succ] at v0 v2 v3
  have q0 := leUp_small b 4 2
  have q2 := leUp_small b 8 4
  have q3 := leUp_small b 12 4
  have hcr := crc_lt (b.drop 16)
  clear hrd hnm HRF hb2
  unfold bs at hstr
  generalize b.take 4 = mg at *
  generalize uintV b 4 2 = ver at *
  generalize uintV b 8 4 = len at *
  generalize uintV b 12 4 = sum at *
  have hlen : len < 4294967296 := by simpa using q2
  have hc64 : IntKind.u64.wrap (len : Int) = (len : Int) := by rw [IntKind.wrap_u64]; omega
  have hn64 : IntKind.u64.wrap (n : Int) = (n : Int) := by rw [IntKind.wrap_u64]; omega
  clear q0 q2
  by_cases e1 : mg = [77, 75, 66, 73]
  case neg =>
    have HR : Hid (headE b = 68) := Lib.hid (by rw [HD.out, if_pos e1])
    have g1 : (mg != [77, 75, 66, 73]) = true := by simp [e1]
    have g2 : (mg == [77, 75, 66, 73]) = false := by simp [e1]
    clear e1
    go_wp2
    go_ret
    exact ⟨congrArg (fun x : Int => Ending.returned (Value.int .i64 x)) HR.out.symm, HBW.out⟩
  have g1 : (mg != [77, 75, 66, 73]) = false := by simp [e1]
  have g2 : (mg == [77, 75, 66, 73]) = true := by simp [e1]
  rw [if_neg (by rw [e1]; simp)] at HD
  clear e1
  by_cases e2 : ver = 1
  case neg =>
    have HR : Hid (headE b = 69) := Lib.hid (by rw [HD.out, if_pos e2])
    have g3 : ((ver : Int) != 1) = true := by simp; omega
    clear e2
    go_wp2
    go_ret
    exact ⟨congrArg (fun x : Int => Ending.returned (Value.int .i64 x)) HR.out.symm, HBW.out⟩
  rw [if_neg (by rw [e2]; simp)] at HD
  have g3 : ((ver : Int) != 1) = false := by simp; omega
  clear e2
  by_cases e3 : n < len
  case pos =>
    have HR : Hid (headE b = 52) := Lib.hid (by rw [HD.out, if_pos e3])
    have g4 : decide ((n : Int) < (len : Int)) = true := by simp; omega
    have g4n : decide (n < len) = true := by simp; omega
    clear e3
    go_wp2
    go_ret
    exact ⟨congrArg (fun x : Int => Ending.returned (Value.int .i64 x)) HR.out.symm, HBW.out⟩
  rw [if_neg e3] at HD
  have g4 : decide ((n : Int) < (len : Int)) = false := by simp; omega
  have g4n : decide (n < len) = false := by simp; omega
  by_cases e4 : len < n
  case pos =>
    have HR : Hid (headE b = 53) := Lib.hid (by rw [HD.out, if_pos e4])
    have g5 : decide ((len : Int) < (n : Int)) = true := by simp; omega
    have g5n : decide (len < n) = true := by simp; omega
    clear e3 e4
    go_wp2
    go_ret
    exact ⟨congrArg (fun x : Int => Ending.returned (Value.int .i64 x)) HR.out.symm, HBW.out⟩
  rw [if_neg e4] at HD
  have g5 : decide ((len : Int) < (n : Int)) = false := by simp; omega
  have g5n : decide (len < n) = false := by simp; omega
  clear e3 e4
  by_cases e5 : 16777216 < len
  case pos =>
    have HR : Hid (headE b = 15) := Lib.hid (by rw [HD.out, if_pos e5])
    have g6 : decide ((16777216 : Int) < (len : Int)) = true := by simp; omega
    clear e5
    go_wp2
    go_ret
    exact ⟨congrArg (fun x : Int => Ending.returned (Value.int .i64 x)) HR.out.symm, HBW.out⟩
  rw [if_neg e5] at HD
  have g6 : decide ((16777216 : Int) < (len : Int)) = false := by simp; omega
  clear e5
  go_upto_region 15 with fail
  have hcut : ∀ W : World, (Instr.slice 23 (.slice A n c) (some (.int .i64 16)) none none).run Tryd.prog W = .ok (.slice (cutA A c 16) (n - 16) (c - 16)) W := fun W => by
    have h := cut_from A n c 16 (by omega) W
    rw [run_sliceAt_slice _ _ _ _ _ _ byte_elem] at h
    exact h
  have hcut2 : ∀ W : World, (Instr.sliceAt 23 (.slice A n c) (some (.int .i64 16)) none none).run Tryd.prog W = .ok (.slice (cutA A c 16) (n - 16) (c - 16)) W := fun W => cut_from A n c 16 (by omega) W
  have HCR : Hid (∀ W, Below w2.heap.size w2 W → Calls Tryd.prog 44 #[.slice (cutA A c 16) (n - 16) (c - 16)] W fun e w' => e = .returned (.int .u32 (crcOf (b.drop 16) : Nat)) ∧ W = w') := Lib.hid fun W hW => by
    have h := (HB2.out.below (hW.mono HBW.out.size)).cut (cap := c) (j := 16) (k := n) (by omega) (Nat.le_refl _) hc
    rw [List.take_of_length_le (by omega)] at h
    exact crc_any _ _ _ _ _ W h (by unfold maxLen; omega)
  have hS4 : Below w2.heap.size w2 w2.drew ∧ w2.drew.cell? ⟨r, 3, none⟩ = some (.int .u32 (sum : Int)) := ⟨(Below.refl _ _).drew, v3⟩
  clear v0 v2 v3 hstr hto hto2
  generalize crcOf (b.drop 16) = cr at *
  by_cases e6 : sum = cr
  case neg =>
    have HR : Hid (headE b = 55) := Lib.hid (by rw [HD.out, if_pos e6])
    have g7 : ((sum : Int) != (cr : Int)) = true := by simp; omega
    have g7n : (sum != cr) = true := by simp [e6]
    clear e6
    go_region_held3 (fun W => Below w2.heap.size w2 W ∧ W.cell? ⟨r, 3, none⟩ = some (.int .u32 (sum : Int)))
      (assumption)
      (first | (go_at_call 44; go_fit (HCR.out _ (And.left (by assumption))); rintro e w3 ⟨rfl, rfl⟩))
    have HBE := Lib.hid (bel_next8 HBW.out hS4.1)
    clear hS4
    go_wp2
    go_ret
    exact ⟨congrArg (fun x : Int => Ending.returned (Value.int .i64 x)) HR.out.symm, HBE.out⟩
  have HR : Hid (headE b = 0) := Lib.hid (by rw [HD.out, if_neg (by rw [e6]; simp)])
  have g7 : ((sum : Int) != (cr : Int)) = false := by simp; omega
  have g7n : (sum != cr) = false := by simp [e6]
  clear e6
  go_region_held3 (fun W => Below w2.heap.size w2 W ∧ W.cell? ⟨r, 3, none⟩ = some (.int .u32 (sum : Int)))
    (assumption)
    (first | (go_at_call 44; go_fit (HCR.out _ (And.left (by assumption))); rintro e w3 ⟨rfl, rfl⟩))
  have HBE := Lib.hid (bel_next8 HBW.out hS4.1)
  clear hS4
  go_wp2
  go_ret
  exact ⟨congrArg (fun x : Int => Ending.returned (Value.int .i64 x)) HR.out.symm, HBE.out⟩
end Go.Proofs.YtcenonnccodfoaaDoor


namespace Go.Proofs
open Go.Shelf
def Tryd.lays162_ren : Go.Shelf.Ren := ⟨fun | 162 => 55 | 232 => 61 | 227 => 62 | 234 => 63 | 236 => 64 | 228 => 69 | 271 => 70 | 151 => 71 | 120 => 73 | 197 => 74 | 152 => 75 | 260 => 76 | 137 => 77 | 119 => 78 | 224 => 79 | 225 => 80 | 217 => 81 | 266 => 82 | n => n, fun | 9 => 9 | 4 => 4 | 3 => 3 | 5 => 5 | 117 => 92 | 116 => 91 | 0 => 0 | 124 => 95 | 21 => 21 | 105 => 100 | 46 => 45 | 119 => 108 | 139 => 111 | 138 => 110 | n => n, fun | 3 => 0 | 4 => 1 | n => n⟩
theorem Tryd.lays162 : Go.Proofs.Lays.n162 Tryd.prog Tryd.lays162_ren := {
  mixed := by kernel_rfl
  f119 := Tryd.func78.trans (congrArg some (by kernel_rfl))
  f120 := Tryd.func73.trans (congrArg some (by kernel_rfl))
  f137 := Tryd.func77.trans (congrArg some (by kernel_rfl))
  f151 := Tryd.func71.trans (congrArg some (by kernel_rfl))
  f152 := Tryd.func75.trans (congrArg some (by kernel_rfl))
  f162 := Tryd.func55.trans (congrArg some (by kernel_rfl))
  f197 := Tryd.func74.trans (congrArg some (by kernel_rfl))
  f217 := Tryd.func81.trans (congrArg some (by kernel_rfl))
  f224 := Tryd.func79.trans (congrArg some (by kernel_rfl))
  f225 := Tryd.func80.trans (congrArg some (by kernel_rfl))
  f227 := Tryd.func62.trans (congrArg some (by kernel_rfl))
  f228 := Tryd.func69.trans (congrArg some (by kernel_rfl))
  f232 := Tryd.func61.trans (congrArg some (by kernel_rfl))
  f234 := Tryd.func63.trans (congrArg some (by kernel_rfl))
  f236 := Tryd.func64.trans (congrArg some (by kernel_rfl))
  f260 := Tryd.func76.trans (congrArg some (by kernel_rfl))
  f266 := Tryd.func82.trans (congrArg some (by kernel_rfl))
  f271 := Tryd.func70.trans (congrArg some (by kernel_rfl))
  t0 := Tryd.underlying0
  a0 := Tryd.isAgg0
  z0 := Tryd.sizeOf0
  v0 := Tryd.zeroValue0
  t3 := Tryd.underlying3
  a3 := Tryd.isAgg3
  z3 := Tryd.sizeOf3
  v3 := Tryd.zeroValue3
  t4 := Tryd.underlying4
  a4 := Tryd.isAgg4
  z4 := Tryd.sizeOf4
  v4 := Tryd.zeroValue4
  t5 := Tryd.underlying5
  a5 := Tryd.isAgg5
  z5 := Tryd.sizeOf5
  v5 := Tryd.zeroValue5
  t9 := Tryd.underlying9
  a9 := Tryd.isAgg9
  z9 := Tryd.sizeOf9
  v9 := Tryd.zeroValue9
  t21 := Tryd.underlying21
  a21 := Tryd.isAgg21
  z21 := Tryd.sizeOf21
  v21 := Tryd.zeroValue21
  t46 := Tryd.underlying45
  a46 := Tryd.isAgg45
  z46 := Tryd.sizeOf45
  v46 := Tryd.zeroValue45
  t105 := Tryd.underlying100
  a105 := Tryd.isAgg100
  z105 := Tryd.sizeOf100
  v105 := Tryd.zeroValue100
  t116 := Tryd.underlying91
  a116 := Tryd.isAgg91
  z116 := Tryd.sizeOf91
  t117 := Tryd.underlying92
  a117 := Tryd.isAgg92
  z117 := Tryd.sizeOf92
  v117 := Tryd.zeroValue92
  t119 := Tryd.underlying108
  a119 := Tryd.isAgg108
  z119 := Tryd.sizeOf108
  t124 := Tryd.underlying95
  a124 := Tryd.isAgg95
  z124 := Tryd.sizeOf95
  v124 := Tryd.zeroValue95
  t138 := Tryd.underlying110
  a138 := Tryd.isAgg110
  z138 := Tryd.sizeOf110
  v138 := Tryd.zeroValue110
  t139 := Tryd.underlying111
  a139 := Tryd.isAgg111
  z139 := Tryd.sizeOf111
  v139 := Tryd.zeroValue111
  g3 := by kernel_rfl
  g4 := by kernel_rfl }
open Go.RowKit in
theorem Tryd.strings_TrimRight_one (s : ByteArray) (c : UInt8) (hc : c.toNat < 128) (w : World) (hs : s.size ≤ 9223372036854775807) :
    Calls Tryd.prog 55 #[.string s, .string ⟨#[c]⟩] w fun e w' => e = .returned (.string ⟨(Lib.trimRightB s.data.toList c).toArray⟩) ∧ w' = w := Any.strings_TrimRight_one Tryd.lays162 s c hc w hs
def Tryd.laysSlK4_ren : Go.Shelf.Ren := ⟨fun | 4 => 36 | n => n, fun | 22 => 23 | 4 => 4 | 5 => 5 | n => n, fun | n => n⟩
theorem Tryd.laysSlK4 : Go.Proofs.SlLaysK.n4 Tryd.prog Tryd.laysSlK4_ren := {
  mixed := by kernel_rfl
  f4 := Tryd.func36.trans (congrArg some (by kernel_rfl))
  t4 := Tryd.underlying4
  a4 := Tryd.isAgg4
  z4 := Tryd.sizeOf4
  v4 := Tryd.zeroValue4
  t22 := Tryd.underlying23
  a22 := Tryd.isAgg23
  z22 := Tryd.sizeOf23
  v22 := Tryd.zeroValue23
  t5 := Tryd.underlying5
  i5 := by kernel_rfl }
open Go.RowKit Go.Lib in
theorem Tryd.bytes_Clone_at (a : Addr) (n c : Nat) (xs : List Int) (w : World) (hx : xs.length = n) (hbig : n ≤ 140737488355328) (hc : ∀ i, i < n → w.cell? (a.add i) = some (.int .u8 (xs.getD i 0))) :
    Calls Tryd.prog 36 #[.slice (some a) n c] w fun e w' => ∃ v', e = .returned v' ∧ w'.ownsRow w.heap.size 5 1 v' n (xs.map (Value.int .u8)) ∧ v' ≠ .slice none 0 0 ∧ Below w.heap.size w w' := Any.bytes_Clone_at Tryd.laysSlK4 a n c xs w hx hbig hc
open Go.RowKit Go.Lib in
theorem Tryd.bytes_Clone_nil (n c : Nat) (w : World) :
    Calls Tryd.prog 36 #[.slice none n c] w fun e w' => e = .returned (.slice none 0 0) ∧ w' = w := Any.bytes_Clone_nil Tryd.laysSlK4 n c w
def Tryd.laysnb115_ren : Go.Shelf.Ren := ⟨fun | 115 => 35 | n => n, fun | 37 => 23 | 4 => 4 | 9 => 9 | 5 => 5 | n => n, fun | n => n⟩
theorem Tryd.laysnb115 : Go.Proofs.Lays.nb115 Tryd.prog Tryd.laysnb115_ren := {
  mixed := by kernel_rfl
  f115 := Tryd.func35.trans (congrArg some (by kernel_rfl))
  t4 := Tryd.underlying4
  a4 := Tryd.isAgg4
  z4 := Tryd.sizeOf4
  v4 := Tryd.zeroValue4
  t9 := Tryd.underlying9
  a9 := Tryd.isAgg9
  z9 := Tryd.sizeOf9
  v9 := Tryd.zeroValue9
  t37 := Tryd.underlying23
  a37 := Tryd.isAgg23
  z37 := Tryd.sizeOf23
  v37 := Tryd.zeroValue23
  t5 := Tryd.underlying5
  a5 := Tryd.isAgg5
  z5 := Tryd.sizeOf5
  v5 := Tryd.zeroValue5 }
theorem Tryd.bytes_Equal_all (p1 p2 : Option Addr) (n c m d : Nat) (xs ys : List Int) (w : World) (hx : xs.length = n) (hy : ys.length = m) (h1 : Lib.BytesIn w p1 n xs) (h2 : Lib.BytesIn w p2 m ys) :
    Calls Tryd.prog 35 #[.slice p1 n c, .slice p2 m d] w fun e w' => e = .returned (.bool (Lib.bytesOf xs == Lib.bytesOf ys)) ∧ w' = w := Any.bytes_Equal_all Tryd.laysnb115 p1 p2 n c m d xs ys w hx hy h1 h2
end Go.Proofs


namespace Go.Proofs.YtcenonnccodfoaaDoor

open Go.RowKit

def intsL (l : List UInt8) : List Int := l.map fun x => (x.toNat : Int)
theorem intsL_get (l : List UInt8) (i : Nat) (h : i < l.length) : (intsL l).getD i 0 = (bt l i : Int) := by
  unfold intsL bt
  rw [List.getD_eq_getElem?_getD, List.getD_eq_getElem?_getD, List.getElem?_map, List.getElem?_eq_getElem h]; rfl
theorem intsL_bytes (l : List UInt8) : Lib.bytesOf (intsL l) = l := by
  unfold Lib.bytesOf intsL
  rw [List.map_map]
  have : ((fun n : Int => UInt8.ofNat n.toNat) ∘ fun x : UInt8 => (x.toNat : Int)) = id := by
    funext x
    simp
  rw [this, List.map_id]
theorem intsL_vals (l : List UInt8) : (intsL l).map (Value.int .u8) = vals l := by unfold intsL vals; rw [List.map_map]; rfl
theorem Byt.in_ {w : World} {B n : Nat} {A : Option Addr} {l : List UInt8} (h : Byt w B A n l) : Lib.BytesIn w A n (intsL l) := fun hn => by
  obtain ⟨b, off, e, _, hc⟩ := h.at_ hn
  exact ⟨b, off, e, fun i hi => by rw [hc i hi, intsL_get l i (by rw [h.1]; exact hi)]⟩
theorem equal_any (A1 A2 : Option Addr) (n c m d B1 B2 : Nat) (l1 l2 : List UInt8) (w : World) (h1 : Byt w B1 A1 n l1) (h2 : Byt w B2 A2 m l2) :
    Calls Tryd.prog 35 #[.slice A1 n c, .slice A2 m d] w fun e w' => e = .returned (.bool (l1 == l2)) ∧ w = w' := by
  have h := Tryd.bytes_Equal_all A1 A2 n c m d (intsL l1) (intsL l2) w (by rw [intsL, List.length_map, h1.1]) (by rw [intsL, List.length_map, h2.1]) h1.in_ h2.in_
  rw [intsL_bytes, intsL_bytes] at h
  exact h.mono fun e w' h => ⟨h.1, h.2.symm⟩
theorem clone_any (A : Option Addr) (n c B : Nat) (l : List UInt8) (w : World) (h : Byt w B A n l) (hn : n ≤ 4294967296) :
    Calls Tryd.prog 36 #[.slice A n c] w fun e w' => ∃ A' c', e = .returned (.slice A' n c') ∧ Own w' w.heap.size (.slice A' n c') l ∧ Below w.heap.size w w' := by
  cases A with
  | none =>
    have hn0 : n = 0 := by
      rcases Nat.eq_zero_or_pos n with h0 | h0
      · exact h0
      · obtain ⟨b, off, e, _⟩ := h.at_ h0
        cases e
    subst hn0
    have hl : l = [] := List.eq_nil_of_length_eq_zero h.1
    subst hl
    exact (Tryd.bytes_Clone_nil 0 c w).mono fun e w' h => ⟨none, 0, h.1, by rw [h.2]; exact Own.nil _ _, by rw [h.2]; exact Below.refl _ _⟩
  | some a =>
    refine (Tryd.bytes_Clone_at a n c (intsL l) w (by rw [intsL, List.length_map, h.1]) (by omega) (fun i hi => ?_)).mono fun e w' h' => ?_
    · obtain ⟨b, off, e, _, hc⟩ := h.at_ (by omega)
      cases e
      have e : (⟨b, off, none⟩ : Addr).add i = ⟨b, off + i, none⟩ := by unfold Addr.add; split <;> simp_all
      rw [e, hc i hi, intsL_get l i (by rw [h.1]; exact hi)]
    · obtain ⟨v', rfl, hown, _, hb⟩ := h'
      rw [intsL_vals] at hown
      have ho : Own w' w.heap.size v' l := by unfold Own; rw [h.1]; exact hown
      obtain ⟨A', cap, rfl, _, _, _⟩ := ho.form
      rw [h.1] at ho ⊢
      exact ⟨A', cap, rfl, ho, hb⟩
theorem trimR_any (l : List UInt8) (w : World) (hl : l.length ≤ 1000) :
    Calls Tryd.prog 55 #[.string ⟨l.toArray⟩, .string ⟨#[0]⟩] w fun e w' => e = .returned (.string ⟨(Lib.trimRightB l 0).toArray⟩) ∧ w = w' := by
  have h := Tryd.strings_TrimRight_one ⟨l.toArray⟩ 0 (by decide) w (by rw [ba_size]; omega)
  exact h.mono fun e w' h => ⟨h.1, h.2.symm⟩
end Go.Proofs.YtcenonnccodfoaaDoor
