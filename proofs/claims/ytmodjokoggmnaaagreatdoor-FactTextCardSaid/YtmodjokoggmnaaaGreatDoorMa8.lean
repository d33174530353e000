/-
  Contracts of Go's library, as the kit's shelf has them, laid at this program: each is the library's own theorem at this program's numbers.
  Conditions: as each says.
  Positions ascend; worlds that follow one another.
  Conditions: none beyond what each theorem says.
  The comparison of two values: cmp.Compare at int64, cmp.Or, facts.compareValues.
  Conditions: none.
-/
import Derived.Shelf.Strings.Builder1
import Derived.Shelf.Small.Bits
import Derived.Shelf.Small.Strs
import Derived.Shelf.Small.Wraps
import Derived.Shelf.Strconv.Itoa0
import Derived.Shelf.Strconv.Itoa1
import Derived.Shelf.LaysM
import Derived.Shelf.Strconv.Itoa2
import Derived.Shelf.Strconv.Itoa3
import Derived.Shelf.Strconv.Itoa4
import Derived.Shelf.Strconv.Clone
import Derived.Shelf.Strconv.Lower
import Derived.Shelf.Strconv.RangeError
import Derived.Shelf.LaysC
import Derived.Shelf.Strconv.ToErrorRange
import Derived.Shelf.Strconv.ParseUint10b64
import Derived.Ground.MpProg
import Derived.Shelf.Pu.ParseUintPublic10
import Derived.Shelf.Pu.ErrVarParseUint
import Derived.Shelf.Strings.Search1
import Derived.Shelf.Strings.Search2
import Derived.Shelf.Strings.Search3
import Derived.Shelf.Strings.Count
import Derived.Shelf.Strings.Shaped
import Derived.Shelf.Strings.LastIndex
import Derived.Shelf.Strings.Prefix
import Derived.Test.YtmodjokoggmnaaaGreatDoorProg
import Derived.Test.YtmodjokoggmnaaaGreatDoorMa5
import Derived.Test.YtmodjokoggmnaaaGreatDoorMa6
import Derived.Test.YtmodjokoggmnaaaGreatDoorMa7
import Derived.Test.YtmodjokoggmnaaaGreatDoorMa1
import Derived.Laws.StructEq
import Derived.Deep.RegionHeld3
import Derived.RegionTactic
import Derived.Deep.QuietTactic
import Derived.BigQuiet
namespace Go.Proofs
open Go.Shelf
def Tryz.lays125_ren : Go.Shelf.Ren := ⟨fun | 125 => 143 | 128 => 166 | 129 => 114 | n => n, fun | 46 => 140 | 3 => 3 | 51 => 156 | 53 => 50 | 4 => 4 | 5 => 5 | 9 => 9 | n => n, fun | n => n⟩
theorem Tryz.lays125 : Go.Proofs.Lays.n125 Tryz.prog Tryz.lays125_ren := {
  mixed := by kernel_rfl
  f125 := Tryz.func143.trans (congrArg some (by kernel_rfl))
  f128 := Tryz.func166.trans (congrArg some (by kernel_rfl))
  f129 := Tryz.func114.trans (congrArg some (by kernel_rfl))
  t3 := Tryz.underlying3
  a3 := Tryz.isAgg3
  z3 := Tryz.sizeOf3
  v3 := Tryz.zeroValue3
  t4 := Tryz.underlying4
  a4 := Tryz.isAgg4
  z4 := Tryz.sizeOf4
  v4 := Tryz.zeroValue4
  t5 := Tryz.underlying5
  a5 := Tryz.isAgg5
  z5 := Tryz.sizeOf5
  v5 := Tryz.zeroValue5
  t9 := Tryz.underlying9
  a9 := Tryz.isAgg9
  z9 := Tryz.sizeOf9
  v9 := Tryz.zeroValue9
  t46 := Tryz.underlying140
  a46 := Tryz.isAgg140
  z46 := Tryz.sizeOf140
  v46 := Tryz.zeroValue140
  t51 := Tryz.underlying156
  a51 := Tryz.isAgg156
  z51 := Tryz.sizeOf156
  v51 := Tryz.zeroValue156
  t53 := Tryz.underlying50
  a53 := Tryz.isAgg50
  z53 := Tryz.sizeOf50
  v53 := Tryz.zeroValue50 }
theorem Tryz.bits_Len (x : Int) (w : World) (h0 : 0 ≤ x) (h1 : x ≤ 18446744073709551615) :
    Calls Tryz.prog 143 #[.int .u64 x] w fun e w' => e = .returned (.int .i64 (Lib.bitLen x.toNat)) ∧ w' = w := Any.bits_Len Tryz.lays125 x w h0 h1
def Tryz.lays106_ren : Go.Shelf.Ren := ⟨fun | 106 => 42 | 213 => 73 | 265 => 107 | n => n, fun | 9 => 9 | 3 => 3 | n => n, fun | n => n⟩
theorem Tryz.lays106 : Go.Proofs.Lays.n106 Tryz.prog Tryz.lays106_ren := {
  mixed := by kernel_rfl
  f106 := Tryz.func42.trans (congrArg some (by kernel_rfl))
  f213 := Tryz.func73.trans (congrArg some (by kernel_rfl))
  f265 := Tryz.func107.trans (congrArg some (by kernel_rfl))
  t3 := Tryz.underlying3
  a3 := Tryz.isAgg3
  z3 := Tryz.sizeOf3
  v3 := Tryz.zeroValue3
  t9 := Tryz.underlying9
  a9 := Tryz.isAgg9
  z9 := Tryz.sizeOf9
  v9 := Tryz.zeroValue9 }
open Go.RowKit in
theorem Tryz.strings_Compare (a b : ByteArray) (w : World) :
    Calls Tryz.prog 42 #[.string a, .string b] w fun e w' => e = .returned (.int .i64 (Lib.compareBytes a.data.toList b.data.toList)) ∧ w' = w := Any.strings_Compare Tryz.lays106 a b w
def Tryz.lays122_ren : Go.Shelf.Ren := ⟨fun | 122 => 43 | 215 => 74 | n => n, fun | 3 => 3 | 4 => 4 | n => n, fun | n => n⟩
theorem Tryz.lays122 : Go.Proofs.Lays.n122 Tryz.prog Tryz.lays122_ren := {
  mixed := by kernel_rfl
  f122 := Tryz.func43.trans (congrArg some (by kernel_rfl))
  f215 := Tryz.func74.trans (congrArg some (by kernel_rfl))
  t3 := Tryz.underlying3
  a3 := Tryz.isAgg3
  z3 := Tryz.sizeOf3
  v3 := Tryz.zeroValue3
  t4 := Tryz.underlying4
  a4 := Tryz.isAgg4
  z4 := Tryz.sizeOf4
  v4 := Tryz.zeroValue4 }
open Go.RowKit in
theorem Tryz.cmp_Compare_int (x y : Int) (w : World) :
    Calls Tryz.prog 43 #[.int .i64 x, .int .i64 y] w fun e w' => e = .returned (.int .i64 (Lib.compareInt x y)) ∧ w' = w := Any.cmp_Compare_int Tryz.lays122 x y w
def Tryz.lays138_ren : Go.Shelf.Ren := ⟨fun | 138 => 50 | 195 => 85 | 218 => 86 | 143 => 87 | 219 => 116 | 217 => 109 | 225 => 139 | 224 => 140 | 267 => 141 | 266 => 134 | 314 => 157 | n => n, fun | 9 => 9 | 3 => 3 | 4 => 4 | 5 => 5 | 0 => 0 | 46 => 140 | 146 => 164 | 51 => 156 | n => n, fun | 1 => 0 | n => n⟩
theorem Tryz.lays138 : Go.Proofs.Lays.n138 Tryz.prog Tryz.lays138_ren := {
  mixed := by kernel_rfl
  f138 := Tryz.func50.trans (congrArg some (by kernel_rfl))
  f143 := Tryz.func87.trans (congrArg some (by kernel_rfl))
  f195 := Tryz.func85.trans (congrArg some (by kernel_rfl))
  f217 := Tryz.func109.trans (congrArg some (by kernel_rfl))
  f218 := Tryz.func86.trans (congrArg some (by kernel_rfl))
  f219 := Tryz.func116.trans (congrArg some (by kernel_rfl))
  f224 := Tryz.func140.trans (congrArg some (by kernel_rfl))
  f225 := Tryz.func139.trans (congrArg some (by kernel_rfl))
  f266 := Tryz.func134.trans (congrArg some (by kernel_rfl))
  f267 := Tryz.func141.trans (congrArg some (by kernel_rfl))
  f314 := Tryz.func157.trans (congrArg some (by kernel_rfl))
  t0 := Tryz.underlying0
  a0 := Tryz.isAgg0
  z0 := Tryz.sizeOf0
  v0 := Tryz.zeroValue0
  t3 := Tryz.underlying3
  a3 := Tryz.isAgg3
  z3 := Tryz.sizeOf3
  v3 := Tryz.zeroValue3
  t4 := Tryz.underlying4
  a4 := Tryz.isAgg4
  z4 := Tryz.sizeOf4
  v4 := Tryz.zeroValue4
  t5 := Tryz.underlying5
  a5 := Tryz.isAgg5
  z5 := Tryz.sizeOf5
  v5 := Tryz.zeroValue5
  t9 := Tryz.underlying9
  a9 := Tryz.isAgg9
  z9 := Tryz.sizeOf9
  v9 := Tryz.zeroValue9
  t46 := Tryz.underlying140
  a46 := Tryz.isAgg140
  z46 := Tryz.sizeOf140
  v46 := Tryz.zeroValue140
  t51 := Tryz.underlying156
  a51 := Tryz.isAgg156
  z51 := Tryz.sizeOf156
  v51 := Tryz.zeroValue156
  t146 := Tryz.underlying164
  a146 := Tryz.isAgg164
  z146 := Tryz.sizeOf164
  v146 := Tryz.zeroValue164
  g1 := by kernel_rfl }
open Go.RowKit Go.Lib in
theorem Tryz.strings_Count_one (s : ByteArray) (c : UInt8) (w : World) :
    Calls Tryz.prog 50 #[.string s, .string ⟨#[c]⟩] w fun e w' => e = .returned (.int .i64 (Lib.countByte s.data.toList c)) ∧ w' = w := Any.strings_Count_one Tryz.lays138 s c w
def Tryz.lays149_ren : Go.Shelf.Ren := ⟨fun | 149 => 51 | 222 => 88 | n => n, fun | 9 => 9 | 5 => 5 | 3 => 3 | 4 => 4 | n => n, fun | n => n⟩
theorem Tryz.lays149 : Go.Proofs.Lays.n149 Tryz.prog Tryz.lays149_ren := {
  mixed := by kernel_rfl
  f149 := Tryz.func51.trans (congrArg some (by kernel_rfl))
  f222 := Tryz.func88.trans (congrArg some (by kernel_rfl))
  t3 := Tryz.underlying3
  a3 := Tryz.isAgg3
  z3 := Tryz.sizeOf3
  v3 := Tryz.zeroValue3
  t4 := Tryz.underlying4
  a4 := Tryz.isAgg4
  z4 := Tryz.sizeOf4
  v4 := Tryz.zeroValue4
  t5 := Tryz.underlying5
  a5 := Tryz.isAgg5
  z5 := Tryz.sizeOf5
  v5 := Tryz.zeroValue5
  t9 := Tryz.underlying9
  a9 := Tryz.isAgg9
  z9 := Tryz.sizeOf9
  v9 := Tryz.zeroValue9 }
open Go.RowKit Go.Lib in
theorem Tryz.strings_LastIndexByte (s : ByteArray) (c : Int) (hs : s.size < 4611686018427387904) (w : World) :
    Calls Tryz.prog 51 #[.string s, .int .u8 c] w fun e w' => e = .returned (.int .i64 (Lib.lastIndexByte s c)) ∧ w' = w := Any.strings_LastIndexByte Tryz.lays149 s c hs w
end Go.Proofs


namespace Go.Proofs.YtmodjokoggmnaaaGreatDoor

open Go.RowKit Go.Shelf

theorem adv1_lt (q : Nat × Nat) (c : UInt8) : q.1 < (adv1 q c).1 ∨ (q.1 = (adv1 q c).1 ∧ q.2 < (adv1 q c).2) := by
  unfold adv1; split
  · left; simp
  · right; simp
theorem adv_lt (l : List UInt8) : ∀ q : Nat × Nat, l ≠ [] → q.1 < (adv q l).1 ∨ (q.1 = (adv q l).1 ∧ q.2 < (adv q l).2) := by
  induction l with
  | nil => intro q h; exact absurd rfl h
  | cons c r ih =>
    intro q _
    have h1 := adv1_lt q c
    have e : adv q (c :: r) = adv (adv1 q c) r := rfl
    rw [e]
    by_cases hr : r = []
    · subst hr; exact h1
    · have h2 := ih (adv1 q c) hr
      omega
theorem adv_inj {l : List UInt8} {q : Nat × Nat} {j k : Nat} (hj : j < k) (hk : k ≤ l.length) : adv q (l.take j) ≠ adv q (l.take k) := by
  intro h
  have e : adv q (l.take k) = adv (adv q (l.take j)) ((l.drop j).take (k - j)) := by rw [adv_split, show j + (k - j) = k by omega]
  have hne : (l.drop j).take (k - j) ≠ [] := by
    intro h0
    have := congrArg List.length h0
    rw [List.length_take, List.length_drop] at this
    simp at this; omega
  have := adv_lt _ (adv q (l.take j)) hne
  rw [← e, ← h] at this
  omega
theorem adv_bd (l : List UInt8) : ∀ q : Nat × Nat, 1 ≤ q.1 → 1 ≤ q.2 → 1 ≤ (adv q l).1 ∧ 1 ≤ (adv q l).2 ∧ (adv q l).1 ≤ q.1 + l.length ∧ (adv q l).2 ≤ q.2 + l.length := by
  induction l with
  | nil => intro q h1 h2; exact ⟨h1, h2, by simp [adv], by simp [adv]⟩
  | cons c r ih =>
    intro q h1 h2
    have e : adv q (c :: r) = adv (adv1 q c) r := rfl
    rw [e, List.length_cons]
    have h3 : 1 ≤ (adv1 q c).1 ∧ 1 ≤ (adv1 q c).2 ∧ (adv1 q c).1 ≤ q.1 + 1 ∧ (adv1 q c).2 ≤ q.2 + 1 := by unfold adv1; split <;> simp <;> omega
    have h4 := ih (adv1 q c) h3.1 h3.2.1
    omega
theorem adv_step {l : List UInt8} {q : Nat × Nat} {j : Nat} (hj : j < l.length) : adv q (l.take (j + 1)) = adv1 (adv q (l.take j)) l[j] := by
  rw [List.take_succ_eq_append_getElem hj, adv_append]; rfl

theorem bel_next {w w1 w2 : World} (h1 : Below w.heap.size w w1) (h2 : Below w1.heap.size w1 w2) : Below w.heap.size w w2 := h1.trans (h2.mono h1.size)
theorem bel_lit {w w1 : World} (h1 : Below w.heap.size w w1) (o : Obj) : Below w.heap.size w (w1.alloc o) := h1.alloc h1.size o
theorem bel_alloc {w w1 w2 : World} {o : Obj} (h1 : Below w.heap.size w w1) (h2 : Below (w1.alloc o).heap.size (w1.alloc o) w2) : Below w.heap.size w w2 := bel_next (bel_lit h1 o) h2
theorem two_set0 {w : World} {B : Nat} {p q : Value} {T : TypeId} (h : w.heap[B]? = some (.cells #[p, q] T (0, 0))) (v : Value) : (w.setCell ⟨B, 0, none⟩ v).heap[B]? = some (.cells #[v, q] T (0, 0)) := (heap_setCell_same w B 0 #[p, q] T v h).trans rfl
theorem two_set1 {w : World} {B : Nat} {p q : Value} {T : TypeId} (h : w.heap[B]? = some (.cells #[p, q] T (0, 0))) (v : Value) : (w.setCell ⟨B, 1, none⟩ v).heap[B]? = some (.cells #[p, v] T (0, 0)) := (heap_setCell_same w B 1 #[p, q] T v h).trans rfl
end Go.Proofs.YtmodjokoggmnaaaGreatDoor


namespace Go.Proofs.YtmodjokoggmnaaaGreatDoor

open Go.RowKit Go.Shelf

def GVal.cells (v : GVal) : List Value := [.int .i64 v.kind, .int .i64 v.int, .string ⟨v.word.toArray⟩]
def GVal.val (v : GVal) : Value := .agg #[.int .i64 v.kind, .int .i64 v.int, .string ⟨v.word.toArray⟩]
theorem GVal.len (v : GVal) : v.cells.length = 3 := rfl
theorem GVal.one (v : GVal) : ∀ u ∈ v.cells, u.oneCell' = true := by intro u hu; simp [GVal.cells] at hu; rcases hu with rfl | rfl | rfl <;> rfl
theorem elt_val : Elt 35 40 3 32 := Elt.of (.agg #[.int .i64 0, .int .i64 0, .string ⟨#[]⟩]) Tryz.underlying35 (by kernel_rfl) rfl (by decide)

theorem isNaN64 (x : Int) (w : World) : Calls Tryz.prog 108 #[.int .i64 x] w fun e w' => e = .returned (.bool false) ∧ w = w' := by
  go_enter Tryz.func108, Tryz.ntmps108
  go_wp2
  go_ret
  exact ⟨rfl, rfl⟩
theorem cmp64 (x y : Int) (w : World) : Calls Tryz.prog 76 #[.int .i64 x, .int .i64 y] w fun e w' => e = .returned (.int .i64 (Lib.compareInt x y)) ∧ w = w' := by
  have HX := Lib.hid (isNaN64 x w)
  have HY := Lib.hid (isNaN64 y w)
  have HC : Hid (Lib.compareInt x y = if x < y then -1 else if x > y then 1 else 0) := Lib.hid rfl
  go_enter Tryz.func76, Tryz.ntmps76
  go_wp2_with fail
  refine HX.out.mono ?_
  rintro e w' ⟨rfl, rfl⟩
  go_wp2_with fail
  refine HY.out.mono ?_
  rintro e w' ⟨rfl, rfl⟩
  go_wp2
  all_goals go_ret
  all_goals refine ⟨ret_int ?_, rfl⟩
  · rw [HC.out, if_pos (by assumption)]
  · rw [HC.out, if_neg (by omega), if_pos (by omega)]
  · rw [HC.out, if_neg (by omega), if_neg (by omega)]
set_option maxHeartbeats 1000000 in
theorem or3 (b : Nat) (x y z : Int) (w : World) (h0 : w.cell? ⟨b, 0, none⟩ = some (.int .i64 x)) (h1 : w.cell? ⟨b, 1, none⟩ = some (.int .i64 y)) (h2 : w.cell? ⟨b, 2, none⟩ = some (.int .i64 z)) :
    Calls Tryz.prog 75 #[.slice (some ⟨b, 0, none⟩) 3 3] w fun e w' => e = .returned (.int .i64 (then3 x (then3 y z))) ∧ w = w' := by
  have HT : Hid (∀ p q : Int, then3 p q = if p ≠ 0 then p else q) := Lib.hid fun _ _ => rfl
  go_enter Tryz.func75, Tryz.ntmps75
  go_wp2
  go_loop [8] (fun vi => ∃ k : Nat, vi = .int .i64 k ∧ k ≤ 3 ∧ (0 < k → x = 0) ∧ (1 < k → y = 0) ∧ (2 < k → z = 0)) (fun vi => 3 - (intOf vi).toNat)
  case atStart => exact ⟨0, rfl, by omega, by omega, by omega, by omega⟩
  case round =>
    obtain ⟨k, rfl, hk, k0, k1, k2⟩ := hrel
    rcases (by omega : k = 0 ∨ k = 1 ∨ k = 2 ∨ k = 3) with rfl | rfl | rfl | rfl
    · clear k0 k1 k2
      by_cases hx : x = 0
      · have fx : (x != 0) = false := by simp [hx]
        go_wp2
        go_round
        case rel => exact ⟨1, by go_num, by omega, fun _ => hx, by omega, by omega⟩
        case measure => simp [intOf]
      · have fx : (x != 0) = true := by simp [hx]
        go_wp2
        go_ret
        exact ⟨ret_int (by rw [HT.out, if_pos hx]), rfl⟩
    · have hx := k0 (by omega)
      have HX := Lib.hid hx
      clear k0 k1 k2 hx
      by_cases hy : y = 0
      · have fx : (y != 0) = false := by simp [hy]
        go_wp2
        go_round
        case rel => exact ⟨2, by go_num, by omega, fun _ => HX.out, fun _ => hy, by omega⟩
        case measure => simp [intOf]
      · have fx : (y != 0) = true := by simp [hy]
        go_wp2
        go_ret
        exact ⟨ret_int (by rw [HT.out, HT.out, if_neg (by have := HX.out; omega), if_pos hy]), rfl⟩
    · have HX := Lib.hid (k0 (by omega))
      have HY := Lib.hid (k1 (by omega))
      clear k0 k1 k2
      by_cases hz : z = 0
      · have fx : (z != 0) = false := by simp [hz]
        go_wp2
        go_round
        case rel => exact ⟨3, by go_num, by omega, fun _ => HX.out, fun _ => HY.out, fun _ => hz⟩
        case measure => simp [intOf]
      · have fx : (z != 0) = true := by simp [hz]
        go_wp2
        go_ret
        exact ⟨ret_int (by rw [HT.out, HT.out, if_neg (by have := HX.out; omega), if_neg (by have := HY.out; omega)]), rfl⟩
    · have HX := Lib.hid (k0 (by omega))
      have HY := Lib.hid (k1 (by omega))
      have HZ := Lib.hid (k2 (by omega))
      clear k0 k1 k2
      go_wp2
      go_ret
      exact ⟨ret_int (by rw [HT.out, HT.out, if_neg (by have := HX.out; omega), if_neg (by have := HY.out; omega)]; exact HZ.out.symm), rfl⟩

/-- The model's == at api.Value. -/
theorem val_eql (a b : GVal) (w : World) : (Op.equalIn 10000 40 a.val b.val).run Tryz.prog w = .ok (a.kind == b.kind && (a.int == b.int && a.word == b.word)) w := by
  have u3 := Tryz.underlying3
  have u2 := Tryz.underlying2
  have u9 := Tryz.underlying9
  have hS : Tryz.prog.underlying 40 = some (.struct (Tryz.prog.fieldsOf 40)) := by kernel_rfl
  have hp : Tryz.prog.stoodInHeld 40 = false := by kernel_rfl
  have a3 := Tryz.isAgg3
  have z3 := Tryz.sizeOf3
  have a2 := Tryz.isAgg2
  have z2 := Tryz.sizeOf2
  have a9 := Tryz.isAgg9
  have z9 := Tryz.sizeOf9
  simp only [GVal.val]
  rw [show (10000 : Nat) = 9999 + 1 from rfl, run_equalIn_struct w 9999 40 _ _ hS hp]
  simp only [Program.fieldsOf, Tryz.underlying40]
  go_simp
  by_cases h1 : a.kind = b.kind <;> by_cases h2 : a.int = b.int <;> by_cases h3 : a.word = b.word <;> simp [h1, h2, h3]
theorem val_same {a b : GVal} (h : (a.kind == b.kind && (a.int == b.int && a.word == b.word)) = true) : a = b := by
  simp at h
  obtain ⟨h1, h2, h3⟩ := h
  cases a; cases b; simp_all
set_option maxRecDepth 50000 in
set_option maxHeartbeats 1000000 in
theorem compareValues_any (a b : GVal) (w : World) :
    Calls Tryz.prog 45 #[a.val, b.val] w fun e w' => e = .returned (.int .i64 (cmpV a b)) ∧ Below w.heap.size w w' := by
  have HQ : Hid (∀ W, (Op.equalIn 10000 40 a.val b.val).run Tryz.prog W = .ok (a.kind == b.kind && (a.int == b.int && a.word == b.word)) W) := Lib.hid (val_eql a b)
  have HS : Hid ((a.kind == b.kind && (a.int == b.int && a.word == b.word)) = true → cmpV a b = 0) := Lib.hid fun h => by rw [val_same h]; exact ord_val.self _
  have HE := Lib.hid (cmpV_eq a b)
  obtain ⟨ak, ai, aw⟩ := a
  obtain ⟨bk, bi, bw⟩ := b
  have H1 := Lib.hid (Tryz.cmp_Compare_int ak bk)
  have H2 := Lib.hid (cmp64 ai bi)
  have H3 := Lib.hid (Tryz.strings_Compare ⟨aw.toArray⟩ ⟨bw.toArray⟩)
  simp only [GVal.val] at *
  have hq := fun W => HQ.out W
  generalize (ak == bk && (ai == bi && aw == bw)) = q at *
  clear HQ
  cases q
  · go_enter Tryz.func45, Tryz.ntmps45
    go_wp2
    go_region_held3 (fun W => W.cell? ⟨w.heap.size, 0, none⟩ = some (.int .i64 ak) ∧ W.cell? ⟨w.heap.size, 1, none⟩ = some (.int .i64 ai) ∧ W.cell? ⟨w.heap.size, 2, none⟩ = some (.string ⟨aw.toArray⟩) ∧ W.cell? ⟨w.heap.size + 1, 0, none⟩ = some (.int .i64 bk) ∧ W.cell? ⟨w.heap.size + 1, 1, none⟩ = some (.int .i64 bi) ∧ W.cell? ⟨w.heap.size + 1, 2, none⟩ = some (.string ⟨bw.toArray⟩))
      (first | assumption | go_keep)
      (first | (go_at_call 43; refine (H1.out _).mono ?_; rintro e w1 ⟨rfl, rfl⟩) | (go_at_call 76; refine (H2.out _).mono ?_; rintro e w1 ⟨rfl, rfl⟩) | (go_at_call 42; refine (H3.out _).mono ?_; rintro e w1 ⟨rfl, rfl⟩) | (go_at_call 75; refine (or3 _ (Lib.compareInt ak bk) (Lib.compareInt ai bi) (Lib.compareBytes aw bw) _ (by go_simp) (by go_simp) (by go_simp)).mono ?_; rintro e w1 ⟨rfl, rfl⟩))
    go_wp2
    go_ret
    refine ⟨?_, ?_⟩
    · rw [HE.out]; rfl
    · exact (bel_lit (bel_lit (bel_lit (Below.refl _ _) _) _) _).drew
  · go_enter Tryz.func45, Tryz.ntmps45
    go_wp2
    go_ret
    exact ⟨ret_int (HS.out trivial).symm, ((Below.refl _ _).alloc (Nat.le_refl _) _).alloc (by simp) _⟩
end Go.Proofs.YtmodjokoggmnaaaGreatDoor
