/-
  The program's functions on one capability.
  Conditions: none.
-/
import Derived.Test.YtndppbfdcceflaaGreatDoorMrq
import Derived.Test.YtndppbfdcceflaaGreatDoorCea
namespace Go.Proofs.YtndppbfdcceflaaGreatDoor

open Go.RowKit

theorem pBit_any (k n : Int) (W : World) : Calls Tryz.prog 131 #[.int .i64 k, .int .i64 n] W fun e w' => e = .returned (.bool (sizB k n)) ∧ w' = W := by
  have HR : Hid (sizB k n = if k = 1 then decide (6 ≤ n) && decide (n ≤ 40) else if k = 2 then decide (12 ≤ n) && decide (n ≤ 40) else decide (3 ≤ k) && decide (k ≤ 6) && decide (n = fixN k)) := Lib.hid rfl
  generalize sizB k n = q at *
  by_cases h1 : k = 1
  · subst h1
    go_enter Tryz.func131, Tryz.ntmps131
    go_wp2
    all_goals
      go_ret
      exact ⟨congrArg (fun b => Ending.returned (Value.bool b)) (by rw [HR.out]; first | (simp [*]; done) | (simp [*]; omega)), rfl⟩
  by_cases h2 : k = 2
  · subst h2
    go_enter Tryz.func131, Tryz.ntmps131
    go_wp2
    all_goals
      go_ret
      exact ⟨congrArg (fun b => Ending.returned (Value.bool b)) (by rw [HR.out]; first | (simp [*]; done) | (simp [*]; omega)), rfl⟩
  by_cases h3 : k = 3
  · subst h3
    go_enter Tryz.func131, Tryz.ntmps131
    go_wp2
    all_goals
      go_ret
      exact ⟨congrArg (fun b => Ending.returned (Value.bool b)) (by rw [HR.out]; simp [fixN]; rfl), rfl⟩
  by_cases h4 : k = 4
  · subst h4
    go_enter Tryz.func131, Tryz.ntmps131
    go_wp2
    all_goals
      go_ret
      exact ⟨congrArg (fun b => Ending.returned (Value.bool b)) (by rw [HR.out]; simp [fixN]; rfl), rfl⟩
  by_cases h5 : k = 5
  · subst h5
    go_enter Tryz.func131, Tryz.ntmps131
    go_wp2
    all_goals
      go_ret
      exact ⟨congrArg (fun b => Ending.returned (Value.bool b)) (by rw [HR.out]; simp [fixN]; rfl), rfl⟩
  by_cases h6 : k = 6
  · subst h6
    go_enter Tryz.func131, Tryz.ntmps131
    go_wp2
    all_goals
      go_ret
      exact ⟨congrArg (fun b => Ending.returned (Value.bool b)) (by rw [HR.out]; simp [fixN]; rfl), rfl⟩
  have f1 : (k == 1) = false := beq_eq_false_iff_ne.2 h1
  have f2 : (k == 2) = false := beq_eq_false_iff_ne.2 h2
  have f3 : (k == 3) = false := beq_eq_false_iff_ne.2 h3
  have f4 : (k == 4) = false := beq_eq_false_iff_ne.2 h4
  have f5 : (k == 5) = false := beq_eq_false_iff_ne.2 h5
  have f6 : (k == 6) = false := beq_eq_false_iff_ne.2 h6
  have HF : Hid (q = false) := Lib.hid (by
    rw [HR.out, if_neg h1, if_neg h2]
    rcases Int.lt_or_le k 3 with h | h
    · simp; omega
    · simp; omega)
  clear h1 h2 h3 h4 h5 h6
  go_enter Tryz.func131, Tryz.ntmps131
  go_wp2
  go_ret
  exact ⟨congrArg (fun b => Ending.returned (Value.bool b)) HF.out.symm, rfl⟩
theorem pTab_any (w l : Int) (W : World) : Calls Tryz.prog 133 #[.int .i64 w, .int .i64 l] W fun e w' => e = .returned (.bool (levB w l)) ∧ w' = W := by
  have HR : Hid (levB w l = (decide (0 ≤ l) && (decide (w = 32) && decide (l ≤ 1) || decide (w = 39) && decide (l ≤ 2)))) := Lib.hid rfl
  generalize levB w l = q at *
  by_cases h32 : w = 32
  · subst h32
    go_enter Tryz.func133, Tryz.ntmps133
    go_wp2
    all_goals
      go_ret
      exact ⟨congrArg (fun b => Ending.returned (Value.bool b)) (by rw [HR.out]; first | (simp [*]; done) | (simp [*]; omega)), rfl⟩
  by_cases h39 : w = 39
  · subst h39
    go_enter Tryz.func133, Tryz.ntmps133
    go_wp2
    all_goals
      go_ret
      exact ⟨congrArg (fun b => Ending.returned (Value.bool b)) (by rw [HR.out]; first | (simp [*]; done) | (simp [*]; omega)), rfl⟩
  have f32 : (w == 32) = false := beq_eq_false_iff_ne.2 h32
  have f39 : (w == 39) = false := beq_eq_false_iff_ne.2 h39
  have HF : Hid (q = false) := Lib.hid (by rw [HR.out]; simp [h32, h39])
  clear h32 h39
  go_enter Tryz.func133, Tryz.ntmps133
  go_wp2
  go_ret
  exact ⟨congrArg (fun b => Ending.returned (Value.bool b)) HF.out.symm, rfl⟩
def devK (k : Int) : Bool := decide (k = 1) || decide (k = 2)
theorem pDev_any (k : Int) (W : World) : Calls Tryz.prog 132 #[.int .i64 k] W fun e w' => e = .returned (.bool (devK k)) ∧ w' = W := by
  have HR : Hid (devK k = (decide (k = 1) || decide (k = 2))) := Lib.hid rfl
  generalize devK k = q at *
  by_cases h1 : k = 1
  · subst h1
    go_enter Tryz.func132, Tryz.ntmps132
    go_wp2
    go_ret
    exact ⟨congrArg (fun b => Ending.returned (Value.bool b)) (by rw [HR.out]; rfl), rfl⟩
  by_cases h2 : k = 2
  · subst h2
    go_enter Tryz.func132, Tryz.ntmps132
    go_wp2
    go_ret
    exact ⟨congrArg (fun b => Ending.returned (Value.bool b)) (by rw [HR.out]; rfl), rfl⟩
  have f1 : (k == 1) = false := beq_eq_false_iff_ne.2 h1
  have f2 : (k == 2) = false := beq_eq_false_iff_ne.2 h2
  have HF : Hid (q = false) := Lib.hid (by rw [HR.out]; simp [h1, h2])
  clear h1 h2
  go_enter Tryz.func132, Tryz.ntmps132
  go_wp2
  go_ret
  exact ⟨congrArg (fun b => Ending.returned (Value.bool b)) HF.out.symm, rfl⟩
theorem pRng_any (c : GC) (w : World) : Calls Tryz.prog 80 #[c.val] w fun e w' => e = .returned c.rng.val ∧ Below w.heap.size w w' := by
  obtain ⟨k, b, n, r, wd, l, d⟩ := c
  simp only [GC.val, GC.rng, GR.val]
  go_enter Tryz.func80, Tryz.ntmps80
  go_wp2
  refine bodyPost_ret (v := .agg #[.int .i64 b, .int .i64 n]) (by simp [results, Tryz.results80, go_sem]) rfl ?_
  exact ⟨rfl, belt (belt (Below.refl _ w) _) _⟩
set_option maxRecDepth 20000 in
set_option maxHeartbeats 1000000 in
theorem pVC_any (c : GC) (w : World) : Calls Tryz.prog 118 #[c.val] w fun e w' => e = .returned (Value.bool (vC c)) ∧ Below w.heap.size w w' := by
  have HS := Lib.hid fun W => pBit_any c.kind c.bits W
  have HRG := Lib.hid fun W => pRng_any c W
  have HV := Lib.hid fun W => pValid_any c.rng W
  have HL := Lib.hid fun W => pTab_any c.width c.level W
  have HDV := Lib.hid fun W => pDev_any c.kind W
  have HB := Lib.hid (CB.new w c)
  have HR : Hid (vC c = (sizB c.kind c.bits && vR c.rng && decide (0 ≤ c.rights) && decide (c.rights ≤ 7) && (if c.kind = 3 then levB c.width c.level else decide (c.width = 0) && decide (c.level = 0)) && (!c.device || devK c.kind))) := Lib.hid (by unfold vC devB devK; rw [Bool.or_assoc]; rfl)
  generalize vC c = q at *
  generalize sizB c.kind c.bits = s at *
  generalize vR c.rng = v at *
  generalize levB c.width c.level = lv at *
  generalize devK c.kind = dv at *
  generalize c.rng = g at *
  obtain ⟨gb, gn⟩ := g
  obtain ⟨k, b, n, r, wd, l, d⟩ := c
  simp only [GC.val, GR.val] at *
  go_enter Tryz.func118, Tryz.ntmps118
  go_wp2_with fail
  go_fit (HRG.out _)
  rintro e w1 ⟨rfl, hb1⟩
  go_wp2_with fail
  go_fit (HV.out _)
  rintro e w2 ⟨rfl, hb2⟩
  have HX := Lib.hid ((HB.out.next hb1).next hb2)
  have HBW := Lib.hid (beln (bela (Below.refl _ w) hb1) hb2)
  obtain ⟨y0, y1, y2, y3, y4, y5, y6⟩ := HX.out.cells
  simp only at y0 y1 y2 y3 y4 y5 y6
  clear hb1 hb2 HRG HV HB
  rcases v with _ | _
  · go_wp2
    go_ret
    exact ⟨congrArg (fun b => Ending.returned (Value.bool b)) (by rw [HR.out]; simp), HBW.out⟩
  go_wp2_with fail
  go_fit (HS.out _)
  rintro e w3 ⟨rfl, hww⟩
  obtain rfl : w2 = w3 := hww.symm
  clear hww HS
  rcases s with _ | _
  · go_wp2
    go_ret
    exact ⟨congrArg (fun b => Ending.returned (Value.bool b)) (by rw [HR.out]; simp), HBW.out⟩
  by_cases g1 : r < 0
  · have f1 : decide (r < 0) = true := decide_eq_true g1
    have HF : Hid (q = false) := Lib.hid (by rw [HR.out]; simp; omega)
    clear g1
    go_wp2
    go_ret
    exact ⟨congrArg (fun b => Ending.returned (Value.bool b)) HF.out.symm, HBW.out⟩
  have f1 : decide (r < 0) = false := decide_eq_false g1
  by_cases g2 : 7 < r
  · have f2 : decide (7 < r) = true := decide_eq_true g2
    have HF : Hid (q = false) := Lib.hid (by rw [HR.out]; simp; omega)
    clear g1 g2
    go_wp2
    go_ret
    exact ⟨congrArg (fun b => Ending.returned (Value.bool b)) HF.out.symm, HBW.out⟩
  have f2 : decide (7 < r) = false := decide_eq_false g2
  have HR2 : Hid (q = ((if k = 3 then lv else decide (wd = 0) && decide (l = 0)) && (!d || dv))) := Lib.hid (by
    rw [HR.out]
    have a1 : decide (0 ≤ r) = true := decide_eq_true (by omega)
    have a2 : decide (r ≤ 7) = true := decide_eq_true (by omega)
    rw [a1, a2]; rfl)
  clear g1 g2 HR
  rcases d with _ | _
  rotate_left
  · rcases dv with _ | _
    · have HF : Hid (q = false) := Lib.hid (by rw [HR2.out]; simp)
      go_wp2_with fail
      go_fit (HDV.out _)
      rintro e w3 ⟨rfl, hww⟩
      obtain rfl : w2 = w3 := hww.symm
      clear hww HDV
      go_wp2
      go_ret
      exact ⟨congrArg (fun b => Ending.returned (Value.bool b)) HF.out.symm, HBW.out⟩
    · have HF : Hid (q = (if k = 3 then lv else decide (wd = 0) && decide (l = 0))) := Lib.hid (by rw [HR2.out]; simp)
      go_wp2_with fail
      go_fit (HDV.out _)
      rintro e w3 ⟨rfl, hww⟩
      obtain rfl : w2 = w3 := hww.symm
      clear hww HDV HR2
      by_cases h3 : k = 3
      · subst h3
        go_wp2_with fail
        go_fit (HL.out _)
        rintro e w3 ⟨rfl, hww⟩
        obtain rfl : w2 = w3 := hww.symm
        go_wp2
        go_ret
        exact ⟨congrArg (fun b => Ending.returned (Value.bool b)) (by rw [HF.out]; rfl), HBW.out⟩
      · rw [if_neg h3] at HF
        have f3 : (k == 3) = false := beq_eq_false_iff_ne.2 h3
        clear h3
        by_cases g3 : wd = 0
        · subst g3
          go_wp2
          go_ret
          exact ⟨congrArg (fun b => Ending.returned (Value.bool b)) (by rw [HF.out, Bool.eq_iff_iff]; simp), HBW.out⟩
        · have fg3 : (wd == 0) = false := beq_eq_false_iff_ne.2 g3
          have HF2 : Hid (q = false) := Lib.hid (by rw [HF.out]; simp [g3])
          clear g3
          go_wp2
          go_ret
          exact ⟨congrArg (fun b => Ending.returned (Value.bool b)) HF2.out.symm, HBW.out⟩
  · have HF : Hid (q = (if k = 3 then lv else decide (wd = 0) && decide (l = 0))) := Lib.hid (by rw [HR2.out]; simp)
    clear HR2 HDV
    by_cases h3 : k = 3
    · subst h3
      go_wp2_with fail
      go_fit (HL.out _)
      rintro e w3 ⟨rfl, hww⟩
      obtain rfl : w2 = w3 := hww.symm
      go_wp2
      go_ret
      exact ⟨congrArg (fun b => Ending.returned (Value.bool b)) (by rw [HF.out]; rfl), HBW.out⟩
    · rw [if_neg h3] at HF
      have f3 : (k == 3) = false := beq_eq_false_iff_ne.2 h3
      clear h3
      by_cases g3 : wd = 0
      · subst g3
        go_wp2
        go_ret
        exact ⟨congrArg (fun b => Ending.returned (Value.bool b)) (by rw [HF.out, Bool.eq_iff_iff]; simp), HBW.out⟩
      · have fg3 : (wd == 0) = false := beq_eq_false_iff_ne.2 g3
        have HF2 : Hid (q = false) := Lib.hid (by rw [HF.out]; simp [g3])
        clear g3
        go_wp2
        go_ret
        exact ⟨congrArg (fun b => Ending.returned (Value.bool b)) HF2.out.symm, HBW.out⟩
theorem eq_same (a b : GC) : eqC { a with rights := b.rights } b = sameO a b := by
  rw [Bool.eq_iff_iff]
  simp [eqC, sameO, and_assoc]
set_option maxRecDepth 20000 in
theorem pSam_any (a b : GC) (w : World) : Calls Tryz.prog 122 #[a.val, b.val] w fun e w' => e = .returned (Value.bool (sameO a b)) ∧ Below w.heap.size w w' := by
  have HEQ : Hid (∀ W, (Op.equalIn 10000 28 (GC.val { a with rights := b.rights }) b.val).run Tryz.prog W = .ok (sameO a b) W) := Lib.hid fun W => by rw [cap_eql, eq_same]
  generalize sameO a b = q at *
  obtain ⟨ak, ab, an, ar, aw, al, ad⟩ := a
  obtain ⟨bk, bb, bn, br, bw, bl, bd⟩ := b
  simp only [GC.val] at *
  go_enter Tryz.func122, Tryz.ntmps122
  have heq := fun W => HEQ.out W
  go_wp2
  go_ret
  exact ⟨rfl, belt (belt (Below.refl _ w) _) _⟩
end Go.Proofs.YtndppbfdcceflaaGreatDoor
