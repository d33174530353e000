/-
  Capabilities in plain words, and the reference's small functions on them.
  Conditions: none.
-/
import Derived.Test.YtndppbfdcceflaaGreatDoorRge
namespace Go.Proofs.YtndppbfdcceflaaGreatDoor

open Go.RowKit

structure GC where
  kind : Int
  base : Int
  bits : Int
  rights : Int
  width : Int
  level : Int
  device : Bool
deriving DecidableEq
def GC.val (c : GC) : Value := .agg #[.int .i64 c.kind, .int .i64 c.base, .int .i64 c.bits, .int .i64 c.rights, .int .i64 c.width, .int .i64 c.level, .bool c.device]
def GC.cells (c : GC) : List Value := [.int .i64 c.kind, .int .i64 c.base, .int .i64 c.bits, .int .i64 c.rights, .int .i64 c.width, .int .i64 c.level, .bool c.device]
theorem GC.len (x : GC) : x.cells.length = 7 := rfl
theorem GC.one (x : GC) : ∀ u ∈ x.cells, u.oneCell' = true := by intro u hu; simp [GC.cells] at hu; rcases hu with rfl | rfl | rfl | rfl | rfl | rfl | rfl <;> rfl
def GC.rng (c : GC) : GR := ⟨c.base, c.bits⟩
def fixN (k : Int) : Int := if k = 3 then 12 else if k = 4 then 6 else if k = 5 then 10 else if k = 6 then 16 else 0
def sizB (k n : Int) : Bool := if k = 1 then decide (6 ≤ n) && decide (n ≤ 40) else if k = 2 then decide (12 ≤ n) && decide (n ≤ 40) else decide (3 ≤ k) && decide (k ≤ 6) && decide (n = fixN k)
def levB (w l : Int) : Bool := decide (0 ≤ l) && (decide (w = 32) && decide (l ≤ 1) || decide (w = 39) && decide (l ≤ 2))
def tabB (c : GC) : Bool := if c.kind = 3 then levB c.width c.level else decide (c.width = 0) && decide (c.level = 0)
def devB (c : GC) : Bool := !c.device || decide (c.kind = 1) || decide (c.kind = 2)
def vC (c : GC) : Bool := sizB c.kind c.bits && vR c.rng && decide (0 ≤ c.rights) && decide (c.rights ≤ 7) && tabB c && devB c
def sameO (a b : GC) : Bool := decide (a.kind = b.kind) && decide (a.base = b.base) && decide (a.bits = b.bits) && decide (a.width = b.width) && decide (a.level = b.level) && decide (a.device = b.device)
def coexB (a b : GC) : Bool := !ovR a.rng b.rng || sameO a b || (decide (a.kind = 1) && conR a.rng b.rng) || (decide (b.kind = 1) && conR b.rng a.rng)
def attC (c : GC) (m : Int) : GC := { c with rights := bits .and .i64 c.rights m }
theorem rFix_any (k : Int) (w : World) : Calls Tryz.prog 116 #[.int .i64 k] w fun e w' => e = .returned (.int .i64 (fixN k)) ∧ w' = w := by
  have HR : Hid (fixN k = if k = 3 then 12 else if k = 4 then 6 else if k = 5 then 10 else if k = 6 then 16 else 0) := Lib.hid rfl
  generalize fixN k = q at *
  by_cases h3 : k = 3
  · rw [if_pos h3] at HR
    subst h3
    go_enter Tryz.func116, Tryz.ntmps116
    go_wp2
    go_ret
    exact ⟨congrArg (fun b => Ending.returned (Value.int .i64 b)) HR.out.symm, rfl⟩
  rw [if_neg h3] at HR
  by_cases h4 : k = 4
  · rw [if_pos h4] at HR
    subst h4
    go_enter Tryz.func116, Tryz.ntmps116
    go_wp2
    go_ret
    exact ⟨congrArg (fun b => Ending.returned (Value.int .i64 b)) HR.out.symm, rfl⟩
  rw [if_neg h4] at HR
  by_cases h5 : k = 5
  · rw [if_pos h5] at HR
    subst h5
    go_enter Tryz.func116, Tryz.ntmps116
    go_wp2
    go_ret
    exact ⟨congrArg (fun b => Ending.returned (Value.int .i64 b)) HR.out.symm, rfl⟩
  rw [if_neg h5] at HR
  by_cases h6 : k = 6
  · rw [if_pos h6] at HR
    subst h6
    go_enter Tryz.func116, Tryz.ntmps116
    go_wp2
    go_ret
    exact ⟨congrArg (fun b => Ending.returned (Value.int .i64 b)) HR.out.symm, rfl⟩
  rw [if_neg h6] at HR
  have f3 : (k == 3) = false := beq_eq_false_iff_ne.2 h3
  have f4 : (k == 4) = false := beq_eq_false_iff_ne.2 h4
  have f5 : (k == 5) = false := beq_eq_false_iff_ne.2 h5
  have f6 : (k == 6) = false := beq_eq_false_iff_ne.2 h6
  go_enter Tryz.func116, Tryz.ntmps116
  go_wp2
  go_ret
  exact ⟨congrArg (fun b => Ending.returned (Value.int .i64 b)) HR.out.symm, rfl⟩
theorem rLev_any (w l : Int) (W : World) : Calls Tryz.prog 88 #[.int .i64 w, .int .i64 l] W fun e w' => e = .returned (.bool (levB w l)) ∧ w' = W := by
  have HR : Hid (levB w l = (decide (0 ≤ l) && (decide (w = 32) && decide (l ≤ 1) || decide (w = 39) && decide (l ≤ 2)))) := Lib.hid rfl
  generalize levB w l = q at *
  go_enter Tryz.func88, Tryz.ntmps88
  go_wp2
  all_goals
    go_ret
    exact ⟨congrArg (fun b => Ending.returned (Value.bool b)) (by rw [HR.out]; first | (simp [*]; done) | (simp [*]; omega)), rfl⟩
theorem rSiz_any (k n : Int) (W : World) : Calls Tryz.prog 87 #[.int .i64 k, .int .i64 n] W fun e w' => e = .returned (.bool (sizB k n)) ∧ w' = W := by
  have HF := Lib.hid (rFix_any k W)
  have HR : Hid (sizB k n = if k = 1 then decide (6 ≤ n) && decide (n ≤ 40) else if k = 2 then decide (12 ≤ n) && decide (n ≤ 40) else decide (3 ≤ k) && decide (k ≤ 6) && decide (n = fixN k)) := Lib.hid rfl
  generalize sizB k n = q at *
  generalize fixN k = fx at *
  by_cases h1 : k = 1
  · rw [if_pos h1] at HR
    subst h1
    clear HF
    go_enter Tryz.func87, Tryz.ntmps87
    go_wp2
    all_goals
      go_ret
      exact ⟨congrArg (fun b => Ending.returned (Value.bool b)) (by rw [HR.out]; first | (simp [*]; done) | (simp [*]; omega)), rfl⟩
  rw [if_neg h1] at HR
  have f1 : (k == 1) = false := beq_eq_false_iff_ne.2 h1
  by_cases h2 : k = 2
  · rw [if_pos h2] at HR
    subst h2
    clear HF
    go_enter Tryz.func87, Tryz.ntmps87
    go_wp2
    all_goals
      go_ret
      exact ⟨congrArg (fun b => Ending.returned (Value.bool b)) (by rw [HR.out]; first | (simp [*]; done) | (simp [*]; omega)), rfl⟩
  rw [if_neg h2] at HR
  have f2 : (k == 2) = false := beq_eq_false_iff_ne.2 h2
  by_cases h3 : 3 ≤ k
  · by_cases h6 : k ≤ 6
    · have g3 : decide (3 ≤ k) = true := decide_eq_true h3
      have g6 : decide (k ≤ 6) = true := decide_eq_true h6
      rw [g3, g6] at HR
      clear h1 h2
      go_enter Tryz.func87, Tryz.ntmps87
      go_wp2_with fail
      go_fit HF.out
      rintro e w1 ⟨rfl, hww⟩
      obtain rfl : W = w1 := hww.symm
      go_wp2
      go_ret
      exact ⟨congrArg (fun b => Ending.returned (Value.bool b)) (by rw [HR.out]; rw [Bool.eq_iff_iff]; simp), rfl⟩
    · have g3 : decide (3 ≤ k) = true := decide_eq_true h3
      have g6 : decide (k ≤ 6) = false := decide_eq_false h6
      rw [g3, g6] at HR
      clear h1 h2 HF
      go_enter Tryz.func87, Tryz.ntmps87
      go_wp2
      go_ret
      exact ⟨congrArg (fun b => Ending.returned (Value.bool b)) (by rw [HR.out]; rfl), rfl⟩
  · have g3 : decide (3 ≤ k) = false := decide_eq_false h3
    rw [g3] at HR
    clear h1 h2 HF
    go_enter Tryz.func87, Tryz.ntmps87
    go_wp2
    go_ret
    exact ⟨congrArg (fun b => Ending.returned (Value.bool b)) (by rw [HR.out]; rfl), rfl⟩
theorem rRng_any (c : GC) (w : World) : Calls Tryz.prog 82 #[c.val] w fun e w' => e = .returned c.rng.val ∧ Below w.heap.size w w' := by
  obtain ⟨k, b, n, r, wd, l, d⟩ := c
  simp only [GC.val, GC.rng, GR.val]
  go_enter Tryz.func82, Tryz.ntmps82
  go_wp2
  refine bodyPost_ret (v := .agg #[.int .i64 b, .int .i64 n]) (by simp [results, Tryz.results82, go_sem]) rfl ?_
  exact ⟨rfl, belt (belt (Below.refl _ w) _) _⟩
/-- A block of the call's own that holds a capability. -/
def CB (W : World) (N : Nat) (c : GC) : Prop := W.heap[N]? = some (.cells #[.int .i64 c.kind, .int .i64 c.base, .int .i64 c.bits, .int .i64 c.rights, .int .i64 c.width, .int .i64 c.level, .bool c.device] 28 (0, 0))
theorem CB.lt {W : World} {N : Nat} {c : GC} (h : CB W N c) : N < W.heap.size := by
  rcases Nat.lt_or_ge N W.heap.size with h1 | h1
  · exact h1
  · unfold CB at h; rw [Array.getElem?_eq_none h1] at h; cases h
theorem CB.next {W W' : World} {N : Nat} {c : GC} (h : CB W N c) (hb : Below W.heap.size W W') : CB W' N c := (hb.block N h.lt).trans h
theorem CB.new (w : World) (c : GC) : CB (w.alloc (.cells #[.int .i64 c.kind, .int .i64 c.base, .int .i64 c.bits, .int .i64 c.rights, .int .i64 c.width, .int .i64 c.level, .bool c.device] 28)) w.heap.size c := heap_alloc_new w _
structure CBF (W : World) (N : Nat) (c : GC) : Prop where
  c0 : W.cell? ⟨N, 0, none⟩ = some (.int .i64 c.kind)
  c1 : W.cell? ⟨N, 1, none⟩ = some (.int .i64 c.base)
  c2 : W.cell? ⟨N, 2, none⟩ = some (.int .i64 c.bits)
  c3 : W.cell? ⟨N, 3, none⟩ = some (.int .i64 c.rights)
  c4 : W.cell? ⟨N, 4, none⟩ = some (.int .i64 c.width)
  c5 : W.cell? ⟨N, 5, none⟩ = some (.int .i64 c.level)
  c6 : W.cell? ⟨N, 6, none⟩ = some (.bool c.device)
theorem CB.cells {W : World} {N : Nat} {c : GC} (h : CB W N c) : CBF W N c := by
  unfold CB at h
  exact ⟨by rw [Lib.cell_of_heap h]; rfl, by rw [Lib.cell_of_heap h]; rfl, by rw [Lib.cell_of_heap h]; rfl, by rw [Lib.cell_of_heap h]; rfl, by rw [Lib.cell_of_heap h]; rfl, by rw [Lib.cell_of_heap h]; rfl, by rw [Lib.cell_of_heap h]; rfl⟩
theorem CB.frz {W : World} {N : Nat} {c : GC} (h : CB W N c) (j : Nat) : W.frozen? ⟨N, j, none⟩ = false := Lib.frozen_of_heap h j
set_option maxRecDepth 20000 in
theorem rSam_any (a b : GC) (w : World) : Calls Tryz.prog 102 #[a.val, b.val] w fun e w' => e = .returned (.bool (sameO a b)) ∧ Below w.heap.size w w' := by
  have HR : Hid (sameO a b = (decide (a.kind = b.kind) && decide (a.base = b.base) && decide (a.bits = b.bits) && decide (a.width = b.width) && decide (a.level = b.level) && decide (a.device = b.device))) := Lib.hid rfl
  generalize sameO a b = q at *
  obtain ⟨ak, ab, an, ar, aw, al, ad⟩ := a
  obtain ⟨bk, bb, bn, br, bw, bl, bd⟩ := b
  simp only [GC.val] at *
  go_enter Tryz.func102, Tryz.ntmps102
  go_wp2
  all_goals
    go_ret
    exact ⟨congrArg (fun b => Ending.returned (Value.bool b)) (by rw [HR.out]; first | (simp [*]; done) | (cases ad <;> cases bd <;> simp [*])), belt (belt (Below.refl _ w) _) _⟩
set_option maxRecDepth 20000 in
theorem rAtt_any (c : GC) (m : Int) (w : World) : Calls Tryz.prog 95 #[c.val, .int .i64 m] w fun e w' => e = .returned (attC c m).val ∧ Below w.heap.size w w' := by
  obtain ⟨k, b, n, r, wd, l, d⟩ := c
  simp only [GC.val, attC]
  generalize hq : bits BinOp.and IntKind.i64 r m = q
  go_enter Tryz.func95, Tryz.ntmps95
  go_wp2
  refine bodyPost_ret (v := .agg #[.int .i64 k, .int .i64 b, .int .i64 n, .int .i64 q, .int .i64 wd, .int .i64 l, .bool d]) (by simp [results, Tryz.results95, go_sem]) rfl ?_
  exact ⟨rfl, belt (belt (Below.refl _ w) _) _⟩
set_option maxRecDepth 20000 in
set_option maxHeartbeats 1000000 in
theorem rVC_any (c : GC) (w : World) : Calls Tryz.prog 86 #[c.val] w fun e w' => e = .returned (.bool (vC c)) ∧ Below w.heap.size w w' := by
  have HS := Lib.hid fun W => rSiz_any c.kind c.bits W
  have HRG := Lib.hid fun W => rRng_any c W
  have HV := Lib.hid fun W => rValid_any c.rng W
  have HL := Lib.hid fun W => rLev_any c.width c.level W
  have HB := Lib.hid (CB.new w c)
  have HR : Hid (vC c = (sizB c.kind c.bits && vR c.rng && decide (0 ≤ c.rights) && decide (c.rights ≤ 7) && (if c.kind = 3 then levB c.width c.level else decide (c.width = 0) && decide (c.level = 0)) && (!c.device || decide (c.kind = 1) || decide (c.kind = 2)))) := Lib.hid rfl
  generalize vC c = q at *
  generalize sizB c.kind c.bits = s at *
  generalize vR c.rng = v at *
  generalize levB c.width c.level = lv at *
  generalize c.rng = g at *
  obtain ⟨gb, gn⟩ := g
  obtain ⟨k, b, n, r, wd, l, d⟩ := c
  simp only [GC.val, GR.val] at *
  rcases s with _ | _
  · go_enter Tryz.func86, Tryz.ntmps86
    go_wp2_with (go_at_call 87; go_fit (HS.out _); rintro e w1 ⟨rfl, rfl⟩)
    go_ret
    exact ⟨congrArg (fun b => Ending.returned (Value.bool b)) (by rw [HR.out]; simp), belt (Below.refl _ w) _⟩
  rcases v with _ | _
  · go_enter Tryz.func86, Tryz.ntmps86
    go_wp2_with (first | (go_at_call 87; go_fit (HS.out _); rintro e w1 ⟨rfl, rfl⟩) | (go_at_call 82; go_fit (HRG.out _); rintro e w1 ⟨rfl, hb1⟩) | (go_at_call 91; go_fit (HV.out _); rintro e w2 ⟨rfl, hb2⟩))
    go_ret
    exact ⟨congrArg (fun b => Ending.returned (Value.bool b)) (by rw [HR.out]; simp), beln (bela (Below.refl _ w) hb1) hb2⟩
  go_enter Tryz.func86, Tryz.ntmps86
  go_wp2_with fail
  go_fit (HS.out _)
  rintro e w1 ⟨rfl, rfl⟩
  go_wp2_with fail
  go_fit (HRG.out _)
  rintro e w1 ⟨rfl, hb1⟩
  go_wp2_with fail
  go_fit (HV.out _)
  rintro e w2 ⟨rfl, hb2⟩
  have HX := Lib.hid ((HB.out.next hb1).next hb2)
  have HBW := Lib.hid (beln (bela (Below.refl _ w) hb1) hb2)
  obtain ⟨y0, y1, y2, y3, y4, y5, y6⟩ := HX.out.cells
  simp only at y0 y1 y2 y3 y4 y5 y6
  clear hb1 hb2 HS HRG HV HB
  by_cases h3 : k = 3
  · subst h3
    go_wp2_with (go_at_call 88; go_fit (HL.out _); rintro e w1 ⟨rfl, hww⟩; obtain rfl : w2 = w1 := hww.symm)
    all_goals
      go_ret
      refine ⟨congrArg (fun b => Ending.returned (Value.bool b)) ?_, HBW.out⟩
      rw [HR.out]
      clear HBW HX HR HL
      first | (simp [*]; done) | (simp [*]; omega)
  · go_wp2
    all_goals
      go_ret
      refine ⟨congrArg (fun b => Ending.returned (Value.bool b)) ?_, HBW.out⟩
      rw [HR.out]
      clear HBW HX HR HL
      first | (simp [*]; done) | (simp [*]; omega) | (simp_all; done) | (simp_all; omega) | (simp_all; rw [Bool.eq_iff_iff]; simp [*]; done)
end Go.Proofs.YtndppbfdcceflaaGreatDoor
