/-
  The library's Index and Contains at Ids, cmp's Compare and Or at ints, and the program's ValidId, Less and Below.
  Conditions: none.
-/
import Derived.Test.YtndppbfdcceflaaGreatDoorNad
namespace Go.Proofs.YtndppbfdcceflaaGreatDoor

open Go.RowKit

set_option maxRecDepth 20000 in
set_option maxHeartbeats 1000000 in
theorem pIdx_any (xs : List GId) (A : Option Addr) (c : Nat) (x : GId) (w : World) (h1 : GRow GId.cells 3 w w.heap.size A xs) (hl : xs.length ≤ 17179869184) :
    Calls Tryz.prog 126 #[.slice A xs.length c, x.val] w fun e w' => (∃ r : Int, e = .returned (.int .i64 r) ∧ hasI xs x = decide (0 ≤ r)) ∧ Below w.heap.size w w' := by
  have hb0 := belt (Below.refl _ w) (.cells #[.int .i64 x.core, .int .i64 x.op, .int .i64 x.part] 25)
  have H1 := Lib.hid (h1.next hb0)
  have HX := Lib.hid (IB.new w x)
  have HB0 := Lib.hid hb0
  have HQ : Hid (hasI xs x = decide (x ∈ xs)) := Lib.hid rfl
  have HEQ := Lib.hid fun k (hk : k < xs.length) W => id_eql x xs[k] W
  have HES := Lib.hid fun k (hk : k < xs.length) => eqI_iff x xs[k]
  generalize hasI xs x = q at *
  clear h1 hb0
  obtain ⟨xc, xo, xp⟩ := x
  simp only [GId.val] at *
  go_enter Tryz.func126, Tryz.ntmps126
  go_wp2
  generalize w.alloc (.cells #[.int .i64 xc, .int .i64 xo, .int .i64 xp] 25) = w1 at *
  go_loopw [8] (fun vi wr => ∃ k : Nat, vi = .int .i64 k ∧ k ≤ xs.length ∧ Hid (∀ j (hj : j < xs.length), j < k → xs[j] ≠ ⟨xc, xo, xp⟩) ∧ Hid (Below w1.heap.size w1 wr)) (fun vi _ => xs.length - (intOf vi).toNat)
  case atStart => exact ⟨0, rfl, Nat.zero_le _, Lib.hid fun j _ hj => absurd hj (by omega), Lib.hid (Below.refl _ _)⟩
  case round =>
    obtain ⟨k, rfl, hk, HT, HB⟩ := hrel
    rcases Nat.lt_or_ge k xs.length with hlt | hge
    · obtain ⟨b1, o1, rfl, hb1, x0, x1, x2⟩ := (H1.out.next HB.out).gid hlt
      obtain ⟨y0, y1, y2⟩ := (HX.out.next HB.out).cells
      simp only at y0 y1 y2
      have HBD := Lib.hid HB.out.drew
      have HE := Lib.hid fun W => HEQ.out k hlt W
      have hes := HES.out k hlt
      rcases he : eqI ⟨xc, xo, xp⟩ xs[k] with _ | _
      · have HT2 : Hid (∀ j (hj : j < xs.length), j < k + 1 → xs[j] ≠ ⟨xc, xo, xp⟩) := Lib.hid fun j hj hjk => by
          rcases Nat.lt_or_ge j k with h | h
          · exact HT.out j hj h
          · obtain rfl : j = k := by omega
            intro e
            rw [hes.2 e.symm] at he; cases he
        rw [he] at HE
        have heq := fun W => HE.out W
        clear he hes HE HT
        generalize xs[k] = y at *
        obtain ⟨yc, yo, yp⟩ := y
        simp only at heq x0 x1 x2
        go_upto_region 4 with fail
        go_region
        clear heq x0 x1 x2 y0 y1 y2
        go_wp2
        go_roundw
        case rel => exact ⟨k + 1, by go_num, by omega, HT2, HBD⟩
        case measure => simp [intOf]; omega
      · have HF : Hid (q = true) := Lib.hid (by
          rw [HQ.out, decide_eq_true_eq, hes.1 he]
          exact List.getElem_mem hlt)
        rw [he] at HE
        have heq := fun W => HE.out W
        clear he hes HE HT
        generalize xs[k] = y at *
        obtain ⟨yc, yo, yp⟩ := y
        simp only at heq x0 x1 x2
        have HBE := Lib.hid (HB0.out.trans (Below.mono HBD.out HB0.out.size))
        go_upto_region 4 with fail
        go_region
        clear heq x0 x1 x2 y0 y1 y2
        go_wp2
        go_ret
        exact ⟨⟨_, rfl, by rw [HF.out]; simp⟩, HBE.out⟩
    · have HF : Hid (q = false) := Lib.hid (by
        rw [HQ.out, decide_eq_false_iff_not]
        intro hm
        obtain ⟨j, hj, e⟩ := List.getElem_of_mem hm
        exact HT.out j hj (by omega) e)
      have HBE := Lib.hid (HB0.out.trans (Below.mono HB.out HB0.out.size))
      go_wp2
      go_ret
      exact ⟨⟨_, rfl, by rw [HF.out]; rfl⟩, HBE.out⟩
set_option maxRecDepth 20000 in
set_option maxHeartbeats 1000000 in
theorem pCts_any (xs : List GId) (A : Option Addr) (c : Nat) (x : GId) (w : World) (h1 : GRow GId.cells 3 w w.heap.size A xs) (hl : xs.length ≤ 17179869184) :
    Calls Tryz.prog 104 #[.slice A xs.length c, x.val] w fun e w' => e = .returned (.bool (hasI xs x)) ∧ Below w.heap.size w w' := by
  have HC := Lib.hid fun W (hW : Below w.heap.size w W) => pIdx_any xs A c x W (h1.next hW) hl
  have HB0 := Lib.hid (belt (Below.refl _ w) (.cells #[.int .i64 x.core, .int .i64 x.op, .int .i64 x.part] 25))
  generalize hasI xs x = q at *
  generalize xs.length = n at *
  clear h1
  obtain ⟨x0, x1, x2⟩ := x
  simp only [GId.val] at *
  go_enter Tryz.func104, Tryz.ntmps104
  go_wp2_with fail
  go_fit (HC.out _ HB0.out)
  rintro e w1 ⟨⟨r, rfl, hq⟩, hb1⟩
  have HB1 := Lib.hid (beln HB0.out hb1)
  have HQ := Lib.hid hq
  clear hb1 HC HB0 hq
  go_wp2
  go_ret
  exact ⟨congrArg (fun b => Ending.returned (Value.bool b)) HQ.out.symm, HB1.out⟩

def sgn (a b : Int) : Int := if a < b then -1 else if b < a then 1 else 0
theorem pNaN_any (a : Int) (w : World) : Calls Tryz.prog 127 #[.int .i64 a] w fun e w' => e = .returned (.bool false) ∧ w' = w := by
  go_enter Tryz.func127, Tryz.ntmps127
  go_wp2
  go_ret
  exact ⟨by simp, rfl⟩
set_option maxRecDepth 20000 in
theorem pCmp_any (a b : Int) (w : World) : Calls Tryz.prog 106 #[.int .i64 a, .int .i64 b] w fun e w' => e = .returned (.int .i64 (sgn a b)) ∧ w' = w := by
  have HN := Lib.hid fun a => pNaN_any a w
  have HQ : Hid (sgn a b = if a < b then -1 else if b < a then 1 else 0) := Lib.hid rfl
  generalize sgn a b = q at *
  go_enter Tryz.func106, Tryz.ntmps106
  go_wp2_with fail
  go_fit (HN.out a)
  rintro e w1 ⟨rfl, rfl⟩
  go_wp2_with fail
  go_fit (HN.out b)
  rintro e w2 ⟨rfl, rfl⟩
  go_wp2
  all_goals
    go_ret
    refine ⟨congrArg (fun b => Ending.returned (Value.int .i64 b)) ?_, rfl⟩
    rw [HQ.out]
    first | (simp [*]; done) | (repeat' split) <;> first | rfl | omega
def orI3 (a b c : Int) : Int := if a ≠ 0 then a else if b ≠ 0 then b else c
def at3 (a b c : Int) (k : Nat) : Int := if k = 0 then a else if k = 1 then b else c
set_option maxRecDepth 20000 in
set_option maxHeartbeats 1000000 in
theorem pOr_any (a b c : Int) (g d : Nat) (w : World) (h0 : w.cell? ⟨g, 0, none⟩ = some (.int .i64 a)) (h1 : w.cell? ⟨g, 1, none⟩ = some (.int .i64 b)) (h2 : w.cell? ⟨g, 2, none⟩ = some (.int .i64 c)) :
    Calls Tryz.prog 105 #[.slice (some ⟨g, 0, none⟩) 3 d] w fun e w' => e = .returned (.int .i64 (orI3 a b c)) ∧ w' = w := by
  have HX := Lib.hid fun (k : Nat) (hk : k < 3) => show w.cell? ⟨g, k, none⟩ = some (.int .i64 (at3 a b c k)) by
    rcases k with _ | _ | _ | k
    · exact h0
    · exact h1
    · exact h2
    · omega
  have HQ : Hid (orI3 a b c = if at3 a b c 0 ≠ 0 then at3 a b c 0 else if at3 a b c 1 ≠ 0 then at3 a b c 1 else at3 a b c 2) := Lib.hid rfl
  generalize orI3 a b c = q at *
  generalize at3 a b c = f at *
  clear h0 h1 h2
  go_enter Tryz.func105, Tryz.ntmps105
  go_wp2
  go_loopw [8] (fun vi wr => ∃ k : Nat, vi = .int .i64 k ∧ k ≤ 3 ∧ Hid (∀ j, j < k → f j = 0) ∧ Hid (wr = w)) (fun vi _ => 3 - (intOf vi).toNat)
  case atStart => exact ⟨0, rfl, Nat.zero_le _, Lib.hid fun j hj => absurd hj (by omega), Lib.hid rfl⟩
  case round =>
    obtain ⟨k, rfl, hk, HT, HB⟩ := hrel
    obtain rfl := HB.out
    rcases Nat.lt_or_ge k 3 with hlt | hge
    · have hx := HX.out k hlt
      by_cases hz : f k = 0
      · rw [hz] at hx
        have HT2 : Hid (∀ j, j < k + 1 → f j = 0) := Lib.hid fun j hj => by
          rcases Nat.lt_or_ge j k with h | h
          · exact HT.out j h
          · obtain rfl : j = k := by omega
            exact hz
        clear hz HT
        go_wp2
        go_roundw
        case rel => exact ⟨k + 1, by go_num, by omega, HT2, Lib.hid (by trivial)⟩
        case measure => simp [intOf]; omega
      · have HF : Hid (q = f k) := Lib.hid (by
          rw [HQ.out]
          obtain rfl | rfl | rfl : k = 0 ∨ k = 1 ∨ k = 2 := by omega
          · rw [if_pos hz]
          · rw [if_neg (by simp [HT.out 0 (by omega)]), if_pos hz]
          · rw [if_neg (by simp [HT.out 0 (by omega)]), if_neg (by simp [HT.out 1 (by omega)])])
        have fz : (f k != 0) = true := by simpa using hz
        clear hz
        go_wp2
        go_ret
        exact ⟨congrArg (fun b => Ending.returned (Value.int .i64 b)) HF.out.symm, rfl⟩
    · have HF : Hid (q = 0) := Lib.hid (by
        have t0 := HT.out 0 (by omega); have t1 := HT.out 1 (by omega); have t2 := HT.out 2 (by omega)
        rw [HQ.out, if_neg (by simp [t0]), if_neg (by simp [t1]), t2])
      go_wp2
      go_ret
      exact ⟨congrArg (fun b => Ending.returned (Value.int .i64 b)) HF.out.symm, rfl⟩
theorem sgn_zero {a b : Int} : sgn a b = 0 ↔ a = b := by unfold sgn; (repeat' split) <;> omega
theorem sgn_neg {a b : Int} : sgn a b < 0 ↔ a < b := by unfold sgn; (repeat' split) <;> omega
theorem ltI_or (i j : GId) : ltI i j = decide (orI3 (sgn i.core j.core) (sgn i.op j.op) (sgn i.part j.part) < 0) := by
  unfold ltI orI3
  simp only [ne_eq, sgn_zero]
  (repeat' split) <;> simp only [sgn_neg] <;> omega
set_option maxRecDepth 20000 in
set_option maxHeartbeats 1000000 in
theorem pVId_any (x : GId) (w : World) : Calls Tryz.prog 117 #[x.val] w fun e w' => e = .returned (.bool (vI x)) ∧ Below w.heap.size w w' := by
  have HR : Hid (vI x = (decide (0 ≤ x.core) && decide (x.core < 32) && decide (1 ≤ x.op) && decide (x.op ≤ 1073741824) && decide (0 ≤ x.part) && decide (x.part < 8))) := Lib.hid rfl
  generalize vI x = q at *
  obtain ⟨xc, xo, xp⟩ := x
  simp only [GId.val] at *
  go_enter Tryz.func117, Tryz.ntmps117
  go_wp2
  all_goals
    go_ret
    exact ⟨congrArg (fun b => Ending.returned (Value.bool b)) (by rw [HR.out]; first | (simp [*]; done) | (simp [*]; omega)), belt (Below.refl _ w) _⟩
set_option maxRecDepth 20000 in
set_option maxHeartbeats 1000000 in
theorem pBel_any (x : GN) (A : Option Addr) (c : Nat) (i : GId) (w : World) (h1 : PRow w w.heap.size A x.path) (hl : x.path.length ≤ 17179869184) (_hc : x.path.length ≤ c) : Calls Tryz.prog 64 #[x.val A c, i.val] w fun e w' => e = .returned (.bool (hasI x.path i)) ∧ Below w.heap.size w w' := by
  have HC := Lib.hid fun W (hW : Below w.heap.size w W) => pCts_any x.path A c i W (h1.next hW) hl
  have HB0 := Lib.hid (belt (belt (Below.refl _ w) (.cells #[.int .i64 x.id.core, .int .i64 x.id.op, .int .i64 x.id.part, .slice A x.path.length c, .int .i64 x.cap.kind, .int .i64 x.cap.base, .int .i64 x.cap.bits, .int .i64 x.cap.rights, .int .i64 x.cap.width, .int .i64 x.cap.level, .bool x.cap.device] 30)) (.cells #[.int .i64 i.core, .int .i64 i.op, .int .i64 i.part] 25))
  generalize hasI x.path i = q at *
  unfold GN.val at *
  clear h1
  obtain ⟨⟨x0, x1, x2⟩, xl, ⟨xa0, xa1, xa2, xa3, xa4, xa5, xa6⟩⟩ := x
  obtain ⟨i0, i1, i2⟩ := i
  simp only [GId.val] at *
  go_enter Tryz.func64, Tryz.ntmps64
  go_wp2_with fail
  go_fit (HC.out _ HB0.out)
  rintro e w1 ⟨rfl, hb1⟩
  have HB1 := Lib.hid (beln HB0.out hb1)
  clear hb1 HC HB0
  go_wp2
  go_ret
  exact ⟨rfl, HB1.out⟩
end Go.Proofs.YtndppbfdcceflaaGreatDoor
