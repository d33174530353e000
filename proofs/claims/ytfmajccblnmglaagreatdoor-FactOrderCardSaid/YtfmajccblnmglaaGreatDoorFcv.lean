/-
  The comparison of two values: cmp.Compare at int64, cmp.Or, facts.compareValues.
  Conditions: none.
-/
import Derived.Test.YtfmajccblnmglaaGreatDoorRow
import Derived.Test.YtfmajccblnmglaaGreatDoorFcm
import Derived.Test.YtfmajccblnmglaaGreatDoorFactShelf
import Derived.Test.YtfmajccblnmglaaGreatDoorLexA
import Derived.Test.YtfmajccblnmglaaGreatDoorOffM
import Derived.Laws.StructEq
import Derived.Deep.RegionHeld3
import Derived.RegionTactic
import Derived.Deep.QuietTactic
import Derived.BigQuiet
namespace Go.Proofs.YtfmajccblnmglaaGreatDoor
open Go.RowKit Go.Shelf

def GVal.cells (v : GVal) : List Value := [.int .i64 v.kind, .int .i64 v.int, .string ⟨v.word.toArray⟩]
def GVal.val (v : GVal) : Value := .agg #[.int .i64 v.kind, .int .i64 v.int, .string ⟨v.word.toArray⟩]
theorem GVal.len (v : GVal) : v.cells.length = 3 := rfl
theorem GVal.one (v : GVal) : ∀ u ∈ v.cells, u.oneCell' = true := by intro u hu; simp [GVal.cells] at hu; rcases hu with rfl | rfl | rfl <;> rfl
theorem elt_val : Elt 23 40 3 32 := Elt.of (.agg #[.int .i64 0, .int .i64 0, .string ⟨#[]⟩]) Tryz.underlying23 (by kernel_rfl) rfl (by decide)

theorem isNaN64 (x : Int) (w : World) : Calls Tryz.prog 83 #[.int .i64 x] w fun e w' => e = .returned (.bool false) ∧ w = w' := by
  go_enter Tryz.func83, Tryz.ntmps83
  go_wp2
  go_ret
  exact ⟨rfl, rfl⟩
theorem cmp64 (x y : Int) (w : World) : Calls Tryz.prog 61 #[.int .i64 x, .int .i64 y] w fun e w' => e = .returned (.int .i64 (Lib.compareInt x y)) ∧ w = w' := by
  have HX := Lib.hid (isNaN64 x w)
  have HY := Lib.hid (isNaN64 y w)
  have HC : Hid (Lib.compareInt x y = if x < y then -1 else if x > y then 1 else 0) := Lib.hid rfl
  go_enter Tryz.func61, Tryz.ntmps61
  go_wp2_with fail
  refine HX.out.mono ?_
  rintro e w' ⟨rfl, rfl⟩
  go_wp2_with fail
  refine HY.out.mono ?_
  rintro e w' ⟨rfl, rfl⟩
  go_wp2
  all_goals go_ret
  all_goals refine ⟨ret_int ?_, rfl⟩
  · rw [HC.out, if_pos (by assumption)]
  · rw [HC.out, if_neg (by omega), if_pos (by omega)]
  · rw [HC.out, if_neg (by omega), if_neg (by omega)]
set_option maxHeartbeats 1000000 in
theorem or3 (b : Nat) (x y z : Int) (w : World) (h0 : w.cell? ⟨b, 0, none⟩ = some (.int .i64 x)) (h1 : w.cell? ⟨b, 1, none⟩ = some (.int .i64 y)) (h2 : w.cell? ⟨b, 2, none⟩ = some (.int .i64 z)) :
    Calls Tryz.prog 60 #[.slice (some ⟨b, 0, none⟩) 3 3] w fun e w' => e = .returned (.int .i64 (then3 x (then3 y z))) ∧ w = w' := by
  have HT : Hid (∀ p q : Int, then3 p q = if p ≠ 0 then p else q) := Lib.hid fun _ _ => rfl
  go_enter Tryz.func60, Tryz.ntmps60
  go_wp2
  go_loop [8] (fun vi => ∃ k : Nat, vi = .int .i64 k ∧ k ≤ 3 ∧ (0 < k → x = 0) ∧ (1 < k → y = 0) ∧ (2 < k → z = 0)) (fun vi => 3 - (intOf vi).toNat)
  case atStart => exact ⟨0, rfl, by omega, by omega, by omega, by omega⟩
  case round =>
    obtain ⟨k, rfl, hk, k0, k1, k2⟩ := hrel
    rcases (by omega : k = 0 ∨ k = 1 ∨ k = 2 ∨ k = 3) with rfl | rfl | rfl | rfl
    · clear k0 k1 k2
      by_cases hx : x = 0
      · have fx : (x != 0) = false := by simp [hx]
        go_wp2
        go_round
        case rel => exact ⟨1, by go_num, by omega, fun _ => hx, by omega, by omega⟩
        case measure => simp [intOf]
      · have fx : (x != 0) = true := by simp [hx]
        go_wp2
        go_ret
        exact ⟨ret_int (by rw [HT.out, if_pos hx]), rfl⟩
    · have hx := k0 (by omega)
      have HX := Lib.hid hx
      clear k0 k1 k2 hx
      by_cases hy : y = 0
      · have fx : (y != 0) = false := by simp [hy]
        go_wp2
        go_round
        case rel => exact ⟨2, by go_num, by omega, fun _ => HX.out, fun _ => hy, by omega⟩
        case measure => simp [intOf]
      · have fx : (y != 0) = true := by simp [hy]
        go_wp2
        go_ret
        exact ⟨ret_int (by rw [HT.out, HT.out, if_neg (by have := HX.out; omega), if_pos hy]), rfl⟩
    · have HX := Lib.hid (k0 (by omega))
      have HY := Lib.hid (k1 (by omega))
      clear k0 k1 k2
      by_cases hz : z = 0
      · have fx : (z != 0) = false := by simp [hz]
        go_wp2
        go_round
        case rel => exact ⟨3, by go_num, by omega, fun _ => HX.out, fun _ => HY.out, fun _ => hz⟩
        case measure => simp [intOf]
      · have fx : (z != 0) = true := by simp [hz]
        go_wp2
        go_ret
        exact ⟨ret_int (by rw [HT.out, HT.out, if_neg (by have := HX.out; omega), if_neg (by have := HY.out; omega)]), rfl⟩
    · have HX := Lib.hid (k0 (by omega))
      have HY := Lib.hid (k1 (by omega))
      have HZ := Lib.hid (k2 (by omega))
      clear k0 k1 k2
      go_wp2
      go_ret
      exact ⟨ret_int (by rw [HT.out, HT.out, if_neg (by have := HX.out; omega), if_neg (by have := HY.out; omega)]; exact HZ.out.symm), rfl⟩

/-- The model's == at api.Value. -/
theorem val_eql (a b : GVal) (w : World) : (Op.equalIn 10000 40 a.val b.val).run Tryz.prog w = .ok (a.kind == b.kind && (a.int == b.int && a.word == b.word)) w := by
  have u3 := Tryz.underlying3
  have u2 := Tryz.underlying2
  have u9 := Tryz.underlying9
  have hS : Tryz.prog.underlying 40 = some (.struct (Tryz.prog.fieldsOf 40)) := by kernel_rfl
  have hp : Tryz.prog.stoodInHeld 40 = false := by kernel_rfl
  have a3 := Tryz.isAgg3
  have z3 := Tryz.sizeOf3
  have a2 := Tryz.isAgg2
  have z2 := Tryz.sizeOf2
  have a9 := Tryz.isAgg9
  have z9 := Tryz.sizeOf9
  simp only [GVal.val]
  rw [show (10000 : Nat) = 9999 + 1 from rfl, run_equalIn_struct w 9999 40 _ _ hS hp]
  simp only [Program.fieldsOf, Tryz.underlying40]
  go_simp
  by_cases h1 : a.kind = b.kind <;> by_cases h2 : a.int = b.int <;> by_cases h3 : a.word = b.word <;> simp [h1, h2, h3]
theorem val_same {a b : GVal} (h : (a.kind == b.kind && (a.int == b.int && a.word == b.word)) = true) : a = b := by
  simp at h
  obtain ⟨h1, h2, h3⟩ := h
  cases a; cases b; simp_all
set_option maxRecDepth 50000 in
set_option maxHeartbeats 1000000 in
theorem compareValues_any (a b : GVal) (w : World) :
    Calls Tryz.prog 36 #[a.val, b.val] w fun e w' => e = .returned (.int .i64 (cmpV a b)) ∧ Below w.heap.size w w' := by
  have HQ : Hid (∀ W, (Op.equalIn 10000 40 a.val b.val).run Tryz.prog W = .ok (a.kind == b.kind && (a.int == b.int && a.word == b.word)) W) := Lib.hid (val_eql a b)
  have HS : Hid ((a.kind == b.kind && (a.int == b.int && a.word == b.word)) = true → cmpV a b = 0) := Lib.hid fun h => by rw [val_same h]; exact ord_val.self _
  have HE := Lib.hid (cmpV_eq a b)
  obtain ⟨ak, ai, aw⟩ := a
  obtain ⟨bk, bi, bw⟩ := b
  have H1 := Lib.hid (Tryz.cmp_Compare_int ak bk)
  have H2 := Lib.hid (cmp64 ai bi)
  have H3 := Lib.hid (Tryz.strings_Compare ⟨aw.toArray⟩ ⟨bw.toArray⟩)
  simp only [GVal.val] at *
  have hq := fun W => HQ.out W
  generalize (ak == bk && (ai == bi && aw == bw)) = q at *
  clear HQ
  cases q
  · go_enter Tryz.func36, Tryz.ntmps36
    go_wp2
    go_region_held3 (fun W => W.cell? ⟨w.heap.size, 0, none⟩ = some (.int .i64 ak) ∧ W.cell? ⟨w.heap.size, 1, none⟩ = some (.int .i64 ai) ∧ W.cell? ⟨w.heap.size, 2, none⟩ = some (.string ⟨aw.toArray⟩) ∧ W.cell? ⟨w.heap.size + 1, 0, none⟩ = some (.int .i64 bk) ∧ W.cell? ⟨w.heap.size + 1, 1, none⟩ = some (.int .i64 bi) ∧ W.cell? ⟨w.heap.size + 1, 2, none⟩ = some (.string ⟨bw.toArray⟩))
      (first | assumption | go_keep)
      (first | (go_at_call 34; refine (H1.out _).mono ?_; rintro e w1 ⟨rfl, rfl⟩) | (go_at_call 61; refine (H2.out _).mono ?_; rintro e w1 ⟨rfl, rfl⟩) | (go_at_call 33; refine (H3.out _).mono ?_; rintro e w1 ⟨rfl, rfl⟩) | (go_at_call 60; refine (or3 _ (Lib.compareInt ak bk) (Lib.compareInt ai bi) (Lib.compareBytes aw bw) _ (by go_simp) (by go_simp) (by go_simp)).mono ?_; rintro e w1 ⟨rfl, rfl⟩))
    go_wp2
    go_ret
    refine ⟨?_, ?_⟩
    · rw [HE.out]; rfl
    · exact (bel_lit (bel_lit (bel_lit (Below.refl _ _) _) _) _).drew
  · go_enter Tryz.func36, Tryz.ntmps36
    go_wp2
    go_ret
    exact ⟨ret_int (HS.out trivial).symm, ((Below.refl _ _).alloc (Nat.le_refl _) _).alloc (by simp) _⟩
end Go.Proofs.YtfmajccblnmglaaGreatDoor
