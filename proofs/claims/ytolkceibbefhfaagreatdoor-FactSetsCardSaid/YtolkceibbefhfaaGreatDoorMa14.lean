/-
  The comparison of facts, where what it leaves is said as new blocks and draws alone (as the library's sort asks it).
  Conditions: a fact has at most 2^40 arguments.
  The contract of the law's same: of two slices that hold the same tokens (with bare: the same but for their positions) it returns true.
  Conditions: the slices have at most 65536 elements.
-/
import Derived.Test.YtolkceibbefhfaaGreatDoorMa13
import Derived.Sort.Grow
import Derived.Deep.Draws
import Derived.Lib.AppendIntMem
import Derived.Test.YtolkceibbefhfaaGreatDoorMa12
namespace Go.Proofs.YtolkceibbefhfaaGreatDoor
open Go.RowKit Go.Shelf Go.Sort

/-- w' is w with draws and new blocks. -/
def Gr (w w' : World) : Prop := ∃ q os, w' = grow (w.drewN q) os
theorem Gr.refl (w : World) : Gr w w := ⟨0, #[], by rw [grow_empty]; rfl⟩
theorem Gr.drew {w w' : World} (h : Gr w w') : Gr w w'.drew := by
  obtain ⟨q, os, rfl⟩ := h
  exact ⟨q + 1, os, rfl⟩
theorem gr_lit {w w' : World} (h : Gr w w') (o : Obj) : Gr w (w'.alloc o) := by
  obtain ⟨q, os, rfl⟩ := h
  exact ⟨q, os ++ #[o], by rw [alloc_eq_grow, grow_grow]⟩
theorem gr_next {w w1 w2 : World} (h : Gr w w1) (h2 : Gr w1 w2) : Gr w w2 := by
  obtain ⟨q, os, rfl⟩ := h
  obtain ⟨q2, os2, rfl⟩ := h2
  refine ⟨q + q2, os ++ os2, ?_⟩
  unfold grow World.drewN
  simp [Array.append_assoc, Nat.add_assoc]
theorem Gr.bel {w w' : World} (h : Gr w w') : Below w.heap.size w w' := by
  obtain ⟨q, os, rfl⟩ := h
  exact Lib.below_grow _ w (Nat.le_refl _) q os

set_option maxRecDepth 50000 in
set_option maxHeartbeats 1000000 in
theorem compareValues_gr (a b : GVal) (w : World) :
    Calls Tryz.prog 36 #[a.val, b.val] w fun e w' => e = .returned (.int .i64 (cmpV a b)) ∧ Gr w w' := by
  have HQ : Hid (∀ W, (Op.equalIn 10000 40 a.val b.val).run Tryz.prog W = .ok (a.kind == b.kind && (a.int == b.int && a.word == b.word)) W) := Lib.hid (val_eql a b)
  have HS : Hid ((a.kind == b.kind && (a.int == b.int && a.word == b.word)) = true → cmpV a b = 0) := Lib.hid fun h => by rw [val_same h]; exact ord_val.self _
  have HE := Lib.hid (cmpV_eq a b)
  obtain ⟨ak, ai, aw⟩ := a
  obtain ⟨bk, bi, bw⟩ := b
  have H1 := Lib.hid (Tryz.cmp_Compare_int ak bk)
  have H2 := Lib.hid (cmp64 ai bi)
  have H3 := Lib.hid (Tryz.strings_Compare ⟨aw.toArray⟩ ⟨bw.toArray⟩)
  simp only [GVal.val] at *
  have hq := fun W => HQ.out W
  generalize (ak == bk && (ai == bi && aw == bw)) = q at *
  clear HQ
  cases q
  · go_enter Tryz.func36, Tryz.ntmps36
    go_wp2
    go_region_held3 (fun W => W.cell? ⟨w.heap.size, 0, none⟩ = some (.int .i64 ak) ∧ W.cell? ⟨w.heap.size, 1, none⟩ = some (.int .i64 ai) ∧ W.cell? ⟨w.heap.size, 2, none⟩ = some (.string ⟨aw.toArray⟩) ∧ W.cell? ⟨w.heap.size + 1, 0, none⟩ = some (.int .i64 bk) ∧ W.cell? ⟨w.heap.size + 1, 1, none⟩ = some (.int .i64 bi) ∧ W.cell? ⟨w.heap.size + 1, 2, none⟩ = some (.string ⟨bw.toArray⟩))
      (first | assumption | go_keep)
      (first | (go_at_call 34; refine (H1.out _).mono ?_; rintro e w1 ⟨rfl, rfl⟩) | (go_at_call 61; refine (H2.out _).mono ?_; rintro e w1 ⟨rfl, rfl⟩) | (go_at_call 33; refine (H3.out _).mono ?_; rintro e w1 ⟨rfl, rfl⟩) | (go_at_call 60; refine (or3 _ (Lib.compareInt ak bk) (Lib.compareInt ai bi) (Lib.compareBytes aw bw) _ (by go_simp) (by go_simp) (by go_simp)).mono ?_; rintro e w1 ⟨rfl, rfl⟩))
    go_wp2
    go_ret
    refine ⟨?_, ?_⟩
    · rw [HE.out]; rfl
    · exact (gr_lit (gr_lit (gr_lit (Gr.refl _) _) _) _).drew
  · go_enter Tryz.func36, Tryz.ntmps36
    go_wp2
    go_ret
    exact ⟨ret_int (HS.out trivial).symm, gr_lit (gr_lit (Gr.refl _) _) _⟩
def CmpRelG (xs ys : List GVal) (w : World) (vi : Value) (wr : World) : Prop := ∃ k : Nat, vi = .int .i64 k ∧ k ≤ xs.length ∧ k ≤ ys.length ∧ xs.take k = ys.take k ∧ Gr w wr

set_option maxRecDepth 50000 in
set_option maxHeartbeats 1000000 in
theorem compareFunc_gr (xs ys : List GVal) (A B : Option Addr) (ca cb : Nat) (w : World) (hA : GRow GVal.cells 3 w w.heap.size A xs) (hB : GRow GVal.cells 3 w w.heap.size B ys) (hx : xs.length ≤ 1099511627776) (hy : ys.length ≤ 1099511627776) :
    Calls Tryz.prog 35 #[.slice A xs.length ca, .slice B ys.length cb, .func (.func 36) #[] #[]] w fun e w' => e = .returned (.int .i64 (list3 cmpV xs ys)) ∧ Gr w w' := by
  have HA := Lib.hid hA
  have HB := Lib.hid hB
  clear hA hB
  go_enter Tryz.func35, Tryz.ntmps35
  go_wp2
  go_loopw [13] (fun vi wr => CmpRelG xs ys w vi wr) (fun vi _ => xs.length - (intOf vi).toNat)
  case atStart => exact ⟨0, rfl, by omega, by omega, by simp, Gr.refl _⟩
  case round =>
    rename_i wr
    obtain ⟨k, rfl, hkx, hky, htk, hb⟩ := hrel
    have HT := Lib.hid htk
    have HW := Lib.hid hb
    have hsz := hb.bel.size
    clear htk hb
    rcases Nat.lt_or_ge k xs.length with hlt | hge
    · obtain ⟨b1, o1, rfl, hb1, x0, x1, x2⟩ := (HA.out.below (Nat.le_refl _) HW.out.bel).val3 hlt
      rcases Nat.lt_or_ge k ys.length with hly | hgy
      · obtain ⟨b2, o2, rfl, hb2, y0, y1, y2⟩ := (HB.out.below (Nat.le_refl _) HW.out.bel).val3 hly
        have hl1 : b1 < wr.heap.size := by omega
        have hl2 : b2 < wr.heap.size := by omega
        have HD := Lib.hid (list3_diff HT.out hlt hly)
        have HS := Lib.hid (take_same HT.out hlt hly)
        have HC := Lib.hid fun W => compareValues_gr xs[k] ys[k] W
        generalize xs[k] = x at *
        generalize ys[k] = y at *
        obtain ⟨xk, xi, xw⟩ := x
        obtain ⟨yk, yi, yw⟩ := y
        simp only [GVal.val] at *
        generalize cmpV ⟨xk, xi, xw⟩ ⟨yk, yi, yw⟩ = c at *
        go_wp2_with fail
        refine (HC.out _).mono ?_
        rintro e w1 ⟨rfl, hb3⟩
        have HN := Lib.hid (gr_next (gr_lit (gr_lit HW.out _) _) hb3)
        clear hb3
        by_cases hc : c = 0
        · have fc : (c != 0) = false := by simp [hc]
          have HS2 := Lib.hid (HS.out hc)
          go_wp2
          go_roundw
          case rel => exact ⟨k + 1, by go_num, by omega, by omega, HS2.out, HN.out⟩
          case measure => simp [intOf]; omega
        · have fc : (c != 0) = true := by simp [hc]
          go_wp2
          go_ret
          exact ⟨ret_int (HD.out hc).symm, HN.out⟩
      · have HL := Lib.hid (list3_more HT.out hlt (by omega))
        go_wp2
        go_ret
        exact ⟨ret_int HL.out.symm, gr_lit HW.out _⟩
    · rcases Nat.lt_or_ge k ys.length with hly | hgy
      · have HL := Lib.hid (list3_less HT.out (by omega) hly)
        go_wp2
        go_ret
        exact ⟨ret_int HL.out.symm, HW.out⟩
      · have HL := Lib.hid (list3_done HT.out (by omega) (by omega))
        go_wp2
        go_ret
        exact ⟨ret_int HL.out.symm, HW.out⟩

set_option maxRecDepth 50000 in
set_option maxHeartbeats 1000000 in
theorem compare_gr (f g : GFact) (A B : Option Addr) (ca cb : Nat) (w : World) (hA : GRow GVal.cells 3 w w.heap.size A f.args) (hB : GRow GVal.cells 3 w w.heap.size B g.args) (hx : f.args.length ≤ 1099511627776) (hy : g.args.length ≤ 1099511627776) :
    Calls Tryz.prog 13 #[factV f.rel A f.args.length ca, factV g.rel B g.args.length cb] w fun e w' => e = .returned (.int .i64 (cmpF f g)) ∧ Gr w w' := by
  obtain ⟨r, xs⟩ := f
  obtain ⟨s, ys⟩ := g
  simp only at *
  have HE := Lib.hid (cmpF_eq ⟨r, xs⟩ ⟨s, ys⟩)
  have HT : Hid (∀ p q : Int, then3 p q = if p ≠ 0 then p else q) := Lib.hid fun _ _ => rfl
  have H1 := Lib.hid (Tryz.strings_Compare ⟨r.toArray⟩ ⟨s.toArray⟩)
  have H2 := Lib.hid (Tryz.cmp_Compare_int (xs.length : Int) (ys.length : Int))
  have HC := Lib.hid fun W (hW : Gr w W) => compareFunc_gr xs ys A B ca cb W (((hA.below (Nat.le_refl _) hW.bel).wide hW.bel.size)) (((hB.below (Nat.le_refl _) hW.bel).wide hW.bel.size)) hx hy
  have HB := Lib.hid (gr_lit (gr_lit (Gr.refl w) (.cells #[.string ⟨r.toArray⟩, .slice A xs.length ca] 25)) (.cells #[.string ⟨s.toArray⟩, .slice B ys.length cb] 25))
  simp only [factV]
  generalize cmpF ⟨r, xs⟩ ⟨s, ys⟩ = cf at *
  simp only at HE H1
  generalize Lib.compareBytes r s = c1 at *
  generalize Lib.compareInt (xs.length : Int) (ys.length : Int) = c2 at *
  generalize list3 cmpV xs ys = c3 at *
  clear hA hB
  go_enter Tryz.func13, Tryz.ntmps13
  go_wp2_with fail
  refine (H1.out _).mono ?_
  rintro e w1 ⟨rfl, rfl⟩
  by_cases h1 : c1 = 0
  · have f1 : (c1 != 0) = false := by simp [h1]
    have HZ := Lib.hid h1
    clear h1
    go_wp2_with fail
    refine (H2.out _).mono ?_
    rintro e w1 ⟨rfl, rfl⟩
    by_cases h2 : c2 = 0
    · have f2 : (c2 != 0) = false := by simp [h2]
      have HZ2 := Lib.hid h2
      clear h2
      go_wp2_with fail
      refine (HC.out _ HB.out).mono ?_
      rintro e w1 ⟨rfl, hb⟩
      go_wp2
      go_ret
      exact ⟨ret_int (by rw [HE.out, HT.out, if_neg (by have := HZ.out; omega), HT.out, if_neg (by have := HZ2.out; omega)]), gr_next HB.out hb⟩
    · have f2 : (c2 != 0) = true := by simp [h2]
      go_wp2
      go_ret
      exact ⟨ret_int (by rw [HE.out, HT.out, if_neg (by have := HZ.out; omega), HT.out, if_pos h2]), HB.out⟩
  · have f1 : (c1 != 0) = true := by simp [h1]
    go_wp2
    go_ret
    exact ⟨ret_int (by rw [HE.out, HT.out, if_pos h1]), HB.out⟩
set_option maxRecDepth 50000 in
theorem unionC_gr (f g : GFact) (A B : Option Addr) (ca cb : Nat) (w : World) (hA : GRow GVal.cells 3 w w.heap.size A f.args) (hB : GRow GVal.cells 3 w w.heap.size B g.args) (hx : f.args.length ≤ 1099511627776) (hy : g.args.length ≤ 1099511627776) :
    Calls Tryz.prog 56 #[factV f.rel A f.args.length ca, factV g.rel B g.args.length cb] w fun e w' => e = .returned (.int .i64 (cmpF f g)) ∧ Gr w w' := by
  obtain ⟨r, xs⟩ := f
  obtain ⟨s, ys⟩ := g
  simp only at *
  have HB := Lib.hid (gr_lit (gr_lit (Gr.refl w) (.cells #[.string ⟨r.toArray⟩, .slice A xs.length ca] 25)) (.cells #[.string ⟨s.toArray⟩, .slice B ys.length cb] 25))
  have HC := Lib.hid (compare_gr ⟨r, xs⟩ ⟨s, ys⟩ A B ca cb _ ((hA.below (Nat.le_refl _) HB.out.bel).wide HB.out.bel.size) ((hB.below (Nat.le_refl _) HB.out.bel).wide HB.out.bel.size) hx hy)
  simp only [factV] at *
  generalize cmpF ⟨r, xs⟩ ⟨s, ys⟩ = cf at *
  clear hA hB
  go_enter Tryz.func56, Tryz.ntmps56
  go_wp2_with fail
  refine HC.out.mono ?_
  rintro e w1 ⟨rfl, hb⟩
  go_wp2
  go_ret
  exact ⟨rfl, gr_next HB.out hb⟩
end Go.Proofs.YtolkceibbefhfaaGreatDoor


namespace Go.Proofs.YtolkceibbefhfaaGreatDoor

open Go.RowKit Go.Shelf

/-- The same token, positions aside. -/
def GTok.like (a b : GTok) : Prop := a.kind = b.kind ∧ a.text = b.text ∧ a.value = b.value
theorem TRow.cells5 {w : World} {B : Nat} {A : Option Addr} {ts : List GTok} (h : TRow w B A ts) {i : Nat} (hi : i < ts.length) : ∃ b off, A = some ⟨b, off, none⟩ ∧ b < B ∧
    w.cell? ⟨b, off + i * 5, none⟩ = some (.int .i64 ts[i].kind) ∧ w.cell? ⟨b, off + i * 5 + 1, none⟩ = some (.string ⟨ts[i].text.toArray⟩) ∧ w.cell? ⟨b, off + i * 5 + 2, none⟩ = some (.int .u64 ts[i].value) ∧
    w.cell? ⟨b, off + i * 5 + 3, none⟩ = some (.int .i64 ts[i].line) ∧ w.cell? ⟨b, off + i * 5 + 4, none⟩ = some (.int .i64 ts[i].col) := by
  obtain ⟨b, off, e, hb, hc⟩ := h (by omega)
  exact ⟨b, off, e, hb, by have := hc i hi 0 _ rfl; simpa [Nat.add_assoc] using this, by have := hc i hi 1 _ rfl; simpa [Nat.add_assoc] using this, by have := hc i hi 2 _ rfl; simpa [Nat.add_assoc] using this,
    by have := hc i hi 3 _ rfl; simpa [Nat.add_assoc] using this, by have := hc i hi 4 _ rfl; simpa [Nat.add_assoc] using this⟩

end Go.Proofs.YtolkceibbefhfaaGreatDoor
