/-
  The comparison of two values: cmp.Compare at int64, cmp.Or, facts.compareValues.
  Conditions: none.
  The comparison of two facts: slices.CompareFunc at values, facts.Compare.
  Conditions: a fact has at most 2^40 arguments.
  The contract of the law's same: of two slices that hold the same tokens (with bare: the same but for their positions) it returns true.
  Conditions: the slices have at most 65536 elements.
-/
import Derived.Test.YtmodjokoggmnaaaGreatDoorMa7
import Derived.Test.YtmodjokoggmnaaaGreatDoorMa8
import Derived.Test.YtmodjokoggmnaaaGreatDoorMa1
import Derived.Laws.StructEq
import Derived.Deep.RegionHeld3
import Derived.RegionTactic
import Derived.Deep.QuietTactic
import Derived.BigQuiet
namespace Go.Proofs.YtmodjokoggmnaaaGreatDoor

open Go.RowKit Go.Shelf

def GVal.cells (v : GVal) : List Value := [.int .i64 v.kind, .int .i64 v.int, .string ⟨v.word.toArray⟩]
def GVal.val (v : GVal) : Value := .agg #[.int .i64 v.kind, .int .i64 v.int, .string ⟨v.word.toArray⟩]
theorem GVal.len (v : GVal) : v.cells.length = 3 := rfl
theorem GVal.one (v : GVal) : ∀ u ∈ v.cells, u.oneCell' = true := by intro u hu; simp [GVal.cells] at hu; rcases hu with rfl | rfl | rfl <;> rfl
theorem elt_val : Elt 35 40 3 32 := Elt.of (.agg #[.int .i64 0, .int .i64 0, .string ⟨#[]⟩]) Tryz.underlying35 (by kernel_rfl) rfl (by decide)

theorem isNaN64 (x : Int) (w : World) : Calls Tryz.prog 108 #[.int .i64 x] w fun e w' => e = .returned (.bool false) ∧ w = w' := by
  go_enter Tryz.func108, Tryz.ntmps108
  go_wp2
  go_ret
  exact ⟨rfl, rfl⟩
theorem cmp64 (x y : Int) (w : World) : Calls Tryz.prog 76 #[.int .i64 x, .int .i64 y] w fun e w' => e = .returned (.int .i64 (Lib.compareInt x y)) ∧ w = w' := by
  have HX := Lib.hid (isNaN64 x w)
  have HY := Lib.hid (isNaN64 y w)
  have HC : Hid (Lib.compareInt x y = if x < y then -1 else if x > y then 1 else 0) := Lib.hid rfl
  go_enter Tryz.func76, Tryz.ntmps76
  go_wp2_with fail
  refine HX.out.mono ?_
  rintro e w' ⟨rfl, rfl⟩
  go_wp2_with fail
  refine HY.out.mono ?_
  rintro e w' ⟨rfl, rfl⟩
  go_wp2
  all_goals go_ret
  all_goals refine ⟨ret_int ?_, rfl⟩
  · rw [HC.out, if_pos (by assumption)]
  · rw [HC.out, if_neg (by omega), if_pos (by omega)]
  · rw [HC.out, if_neg (by omega), if_neg (by omega)]
set_option maxHeartbeats 1000000 in
theorem or3 (b : Nat) (x y z : Int) (w : World) (h0 : w.cell? ⟨b, 0, none⟩ = some (.int .i64 x)) (h1 : w.cell? ⟨b, 1, none⟩ = some (.int .i64 y)) (h2 : w.cell? ⟨b, 2, none⟩ = some (.int .i64 z)) :
    Calls Tryz.prog 75 #[.slice (some ⟨b, 0, none⟩) 3 3] w fun e w' => e = .returned (.int .i64 (then3 x (then3 y z))) ∧ w = w' := by
  have HT : Hid (∀ p q : Int, then3 p q = if p ≠ 0 then p else q) := Lib.hid fun _ _ => rfl
  go_enter Tryz.func75, Tryz.ntmps75
  go_wp2
  go_loop [8] (fun vi => ∃ k : Nat, vi = .int .i64 k ∧ k ≤ 3 ∧ (0 < k → x = 0) ∧ (1 < k → y = 0) ∧ (2 < k → z = 0)) (fun vi => 3 - (intOf vi).toNat)
  case atStart => exact ⟨0, rfl, by omega, by omega, by omega, by omega⟩
  case round =>
    obtain ⟨k, rfl, hk, k0, k1, k2⟩ := hrel
    rcases (by omega : k = 0 ∨ k = 1 ∨ k = 2 ∨ k = 3) with rfl | rfl | rfl | rfl
    · clear k0 k1 k2
      by_cases hx : x = 0
      · have fx : (x != 0) = false := by simp [hx]
        go_wp2
        go_round
        case rel => exact ⟨1, by go_num, by omega, fun _ => hx, by omega, by omega⟩
        case measure => simp [intOf]
      · have fx : (x != 0) = true := by simp [hx]
        go_wp2
        go_ret
        exact ⟨ret_int (by rw [HT.out, if_pos hx]), rfl⟩
    · have hx := k0 (by omega)
      have HX := Lib.hid hx
      clear k0 k1 k2 hx
      by_cases hy : y = 0
      · have fx : (y != 0) = false := by simp [hy]
        go_wp2
        go_round
        case rel => exact ⟨2, by go_num, by omega, fun _ => HX.out, fun _ => hy, by omega⟩
        case measure => simp [intOf]
      · have fx : (y != 0) = true := by simp [hy]
        go_wp2
        go_ret
        exact ⟨ret_int (by rw [HT.out, HT.out, if_neg (by have := HX.out; omega), if_pos hy]), rfl⟩
    · have HX := Lib.hid (k0 (by omega))
      have HY := Lib.hid (k1 (by omega))
      clear k0 k1 k2
      by_cases hz : z = 0
      · have fx : (z != 0) = false := by simp [hz]
        go_wp2
        go_round
        case rel => exact ⟨3, by go_num, by omega, fun _ => HX.out, fun _ => HY.out, fun _ => hz⟩
        case measure => simp [intOf]
      · have fx : (z != 0) = true := by simp [hz]
        go_wp2
        go_ret
        exact ⟨ret_int (by rw [HT.out, HT.out, if_neg (by have := HX.out; omega), if_neg (by have := HY.out; omega)]), rfl⟩
    · have HX := Lib.hid (k0 (by omega))
      have HY := Lib.hid (k1 (by omega))
      have HZ := Lib.hid (k2 (by omega))
      clear k0 k1 k2
      go_wp2
      go_ret
      exact ⟨ret_int (by rw [HT.out, HT.out, if_neg (by have := HX.out; omega), if_neg (by have := HY.out; omega)]; exact HZ.out.symm), rfl⟩

/-- The model's == at api.Value. -/
theorem val_eql (a b : GVal) (w : World) : (Op.equalIn 10000 40 a.val b.val).run Tryz.prog w = .ok (a.kind == b.kind && (a.int == b.int && a.word == b.word)) w := by
  have u3 := Tryz.underlying3
  have u2 := Tryz.underlying2
  have u9 := Tryz.underlying9
  have hS : Tryz.prog.underlying 40 = some (.struct (Tryz.prog.fieldsOf 40)) := by kernel_rfl
  have hp : Tryz.prog.stoodInHeld 40 = false := by kernel_rfl
  have a3 := Tryz.isAgg3
  have z3 := Tryz.sizeOf3
  have a2 := Tryz.isAgg2
  have z2 := Tryz.sizeOf2
  have a9 := Tryz.isAgg9
  have z9 := Tryz.sizeOf9
  simp only [GVal.val]
  rw [show (10000 : Nat) = 9999 + 1 from rfl, run_equalIn_struct w 9999 40 _ _ hS hp]
  simp only [Program.fieldsOf, Tryz.underlying40]
  go_simp
  by_cases h1 : a.kind = b.kind <;> by_cases h2 : a.int = b.int <;> by_cases h3 : a.word = b.word <;> simp [h1, h2, h3]
theorem val_same {a b : GVal} (h : (a.kind == b.kind && (a.int == b.int && a.word == b.word)) = true) : a = b := by
  simp at h
  obtain ⟨h1, h2, h3⟩ := h
  cases a; cases b; simp_all
set_option maxRecDepth 50000 in
set_option maxHeartbeats 1000000 in
theorem compareValues_any (a b : GVal) (w : World) :
    Calls Tryz.prog 45 #[a.val, b.val] w fun e w' => e = .returned (.int .i64 (cmpV a b)) ∧ Below w.heap.size w w' := by
  have HQ : Hid (∀ W, (Op.equalIn 10000 40 a.val b.val).run Tryz.prog W = .ok (a.kind == b.kind && (a.int == b.int && a.word == b.word)) W) := Lib.hid (val_eql a b)
  have HS : Hid ((a.kind == b.kind && (a.int == b.int && a.word == b.word)) = true → cmpV a b = 0) := Lib.hid fun h => by rw [val_same h]; exact ord_val.self _
  have HE := Lib.hid (cmpV_eq a b)
  obtain ⟨ak, ai, aw⟩ := a
  obtain ⟨bk, bi, bw⟩ := b
  have H1 := Lib.hid (Tryz.cmp_Compare_int ak bk)
  have H2 := Lib.hid (cmp64 ai bi)
  have H3 := Lib.hid (Tryz.strings_Compare ⟨aw.toArray⟩ ⟨bw.toArray⟩)
  simp only [GVal.val] at *
  have hq := fun W => HQ.out W
  generalize (ak == bk && (ai == bi && aw == bw)) = q at *
  clear HQ
  cases q
  · go_enter Tryz.func45, Tryz.ntmps45
    go_wp2
    go_region_held3 (fun W => W.cell? ⟨w.heap.size, 0, none⟩ = some (.int .i64 ak) ∧ W.cell? ⟨w.heap.size, 1, none⟩ = some (.int .i64 ai) ∧ W.cell? ⟨w.heap.size, 2, none⟩ = some (.string ⟨aw.toArray⟩) ∧ W.cell? ⟨w.heap.size + 1, 0, none⟩ = some (.int .i64 bk) ∧ W.cell? ⟨w.heap.size + 1, 1, none⟩ = some (.int .i64 bi) ∧ W.cell? ⟨w.heap.size + 1, 2, none⟩ = some (.string ⟨bw.toArray⟩))
      (first | assumption | go_keep)
      (first | (go_at_call 43; refine (H1.out _).mono ?_; rintro e w1 ⟨rfl, rfl⟩) | (go_at_call 76; refine (H2.out _).mono ?_; rintro e w1 ⟨rfl, rfl⟩) | (go_at_call 42; refine (H3.out _).mono ?_; rintro e w1 ⟨rfl, rfl⟩) | (go_at_call 75; refine (or3 _ (Lib.compareInt ak bk) (Lib.compareInt ai bi) (Lib.compareBytes aw bw) _ (by go_simp) (by go_simp) (by go_simp)).mono ?_; rintro e w1 ⟨rfl, rfl⟩))
    go_wp2
    go_ret
    refine ⟨?_, ?_⟩
    · rw [HE.out]; rfl
    · exact (bel_lit (bel_lit (bel_lit (Below.refl _ _) _) _) _).drew
  · go_enter Tryz.func45, Tryz.ntmps45
    go_wp2
    go_ret
    exact ⟨ret_int (HS.out trivial).symm, ((Below.refl _ _).alloc (Nat.le_refl _) _).alloc (by simp) _⟩
end Go.Proofs.YtmodjokoggmnaaaGreatDoor


namespace Go.Proofs.YtmodjokoggmnaaaGreatDoor

open Go.RowKit Go.Shelf

theorem list3_more {xs ys : List GVal} {k : Nat} (h : xs.take k = ys.take k) (h1 : k < xs.length) (h2 : k = ys.length) : list3 cmpV xs ys = 1 := by
  rw [list3_at ord_val.self k xs ys h (by omega) (by omega), List.drop_eq_getElem_cons h1, List.drop_eq_nil_of_le (show ys.length ≤ k by omega)]; rfl
theorem list3_less {xs ys : List GVal} {k : Nat} (h : xs.take k = ys.take k) (h1 : k = xs.length) (h2 : k < ys.length) : list3 cmpV xs ys = -1 := by
  rw [list3_at ord_val.self k xs ys h (by omega) (by omega), List.drop_eq_getElem_cons h2, List.drop_eq_nil_of_le (show xs.length ≤ k by omega)]; rfl
theorem list3_done {xs ys : List GVal} {k : Nat} (h : xs.take k = ys.take k) (h1 : k = xs.length) (h2 : k = ys.length) : list3 cmpV xs ys = 0 := by
  rw [list3_at ord_val.self k xs ys h (by omega) (by omega), List.drop_eq_nil_of_le (show ys.length ≤ k by omega), List.drop_eq_nil_of_le (show xs.length ≤ k by omega)]; rfl
theorem list3_diff {xs ys : List GVal} {k : Nat} (h : xs.take k = ys.take k) (h1 : k < xs.length) (h2 : k < ys.length) (hc : cmpV xs[k] ys[k] ≠ 0) : list3 cmpV xs ys = cmpV xs[k] ys[k] := by
  rw [list3_at ord_val.self k xs ys h (by omega) (by omega), List.drop_eq_getElem_cons h1, List.drop_eq_getElem_cons h2]
  show then3 _ _ = _
  unfold then3; rw [if_pos hc]
theorem take_same {xs ys : List GVal} {k : Nat} (h : xs.take k = ys.take k) (h1 : k < xs.length) (h2 : k < ys.length) (hc : cmpV xs[k] ys[k] = 0) : xs.take (k + 1) = ys.take (k + 1) := by
  rw [List.take_succ_eq_append_getElem h1, List.take_succ_eq_append_getElem h2, h, (ord_val.z _ _).1 hc]
theorem GRow.val3 {w : World} {B : Nat} {A : Option Addr} {vs : List GVal} (h : GRow GVal.cells 3 w B A vs) {i : Nat} (hi : i < vs.length) : ∃ b off, A = some ⟨b, off, none⟩ ∧ b < B ∧
    w.cell? ⟨b, off + i * 3, none⟩ = some (.int .i64 vs[i].kind) ∧ w.cell? ⟨b, off + i * 3 + 1, none⟩ = some (.int .i64 vs[i].int) ∧ w.cell? ⟨b, off + i * 3 + 2, none⟩ = some (.string ⟨vs[i].word.toArray⟩) := by
  obtain ⟨b, off, e, hb, hc⟩ := h (by omega)
  exact ⟨b, off, e, hb, hc i hi 0 _ rfl, hc i hi 1 _ rfl, hc i hi 2 _ rfl⟩
def CmpRel (xs ys : List GVal) (w : World) (vi : Value) (wr : World) : Prop := ∃ k : Nat, vi = .int .i64 k ∧ k ≤ xs.length ∧ k ≤ ys.length ∧ xs.take k = ys.take k ∧ Below w.heap.size w wr

set_option maxRecDepth 50000 in
set_option maxHeartbeats 1000000 in
theorem compareFunc_any (xs ys : List GVal) (A B : Option Addr) (ca cb : Nat) (w : World) (hA : GRow GVal.cells 3 w w.heap.size A xs) (hB : GRow GVal.cells 3 w w.heap.size B ys) (hx : xs.length ≤ 1099511627776) (hy : ys.length ≤ 1099511627776) :
    Calls Tryz.prog 44 #[.slice A xs.length ca, .slice B ys.length cb, .func (.func 45) #[] #[]] w fun e w' => e = .returned (.int .i64 (list3 cmpV xs ys)) ∧ Below w.heap.size w w' := by
  have HA := Lib.hid hA
  have HB := Lib.hid hB
  clear hA hB
  go_enter Tryz.func44, Tryz.ntmps44
  go_wp2
  go_loopw [13] (fun vi wr => CmpRel xs ys w vi wr) (fun vi _ => xs.length - (intOf vi).toNat)
  case atStart => exact ⟨0, rfl, by omega, by omega, by simp, Below.refl _ _⟩
  case round =>
    rename_i wr
    obtain ⟨k, rfl, hkx, hky, htk, hb⟩ := hrel
    have HT := Lib.hid htk
    have HW := Lib.hid hb
    have hsz := hb.size
    clear htk hb
    rcases Nat.lt_or_ge k xs.length with hlt | hge
    · obtain ⟨b1, o1, rfl, hb1, x0, x1, x2⟩ := (HA.out.below (Nat.le_refl _) HW.out).val3 hlt
      rcases Nat.lt_or_ge k ys.length with hly | hgy
      · obtain ⟨b2, o2, rfl, hb2, y0, y1, y2⟩ := (HB.out.below (Nat.le_refl _) HW.out).val3 hly
        have hl1 : b1 < wr.heap.size := by omega
        have hl2 : b2 < wr.heap.size := by omega
        have HD := Lib.hid (list3_diff HT.out hlt hly)
        have HS := Lib.hid (take_same HT.out hlt hly)
        have HC := Lib.hid fun W => compareValues_any xs[k] ys[k] W
        generalize xs[k] = x at *
        generalize ys[k] = y at *
        obtain ⟨xk, xi, xw⟩ := x
        obtain ⟨yk, yi, yw⟩ := y
        simp only [GVal.val] at *
        generalize cmpV ⟨xk, xi, xw⟩ ⟨yk, yi, yw⟩ = c at *
        go_wp2_with fail
        refine (HC.out _).mono ?_
        rintro e w1 ⟨rfl, hb3⟩
        have HN := Lib.hid (bel_next (bel_lit (bel_lit HW.out _) _) hb3)
        clear hb3
        by_cases hc : c = 0
        · have fc : (c != 0) = false := by simp [hc]
          have HS2 := Lib.hid (HS.out hc)
          go_wp2
          go_roundw
          case rel => exact ⟨k + 1, by go_num, by omega, by omega, HS2.out, HN.out⟩
          case measure => simp [intOf]; omega
        · have fc : (c != 0) = true := by simp [hc]
          go_wp2
          go_ret
          exact ⟨ret_int (HD.out hc).symm, HN.out⟩
      · have HL := Lib.hid (list3_more HT.out hlt (by omega))
        go_wp2
        go_ret
        exact ⟨ret_int HL.out.symm, bel_lit HW.out _⟩
    · rcases Nat.lt_or_ge k ys.length with hly | hgy
      · have HL := Lib.hid (list3_less HT.out (by omega) hly)
        go_wp2
        go_ret
        exact ⟨ret_int HL.out.symm, HW.out⟩
      · have HL := Lib.hid (list3_done HT.out (by omega) (by omega))
        go_wp2
        go_ret
        exact ⟨ret_int HL.out.symm, HW.out⟩

/-- A fact asx an argument. -/
def factV (r : List UInt8) (A : Option Addr) (n c : Nat) : Value := .agg #[.string ⟨r.toArray⟩, .slice A n c]
set_option maxRecDepth 50000 in
set_option maxHeartbeats 1000000 in
theorem compare_any (f g : GFact) (A B : Option Addr) (ca cb : Nat) (w : World) (hA : GRow GVal.cells 3 w w.heap.size A f.args) (hB : GRow GVal.cells 3 w w.heap.size B g.args) (hx : f.args.length ≤ 1099511627776) (hy : g.args.length ≤ 1099511627776) :
    Calls Tryz.prog 18 #[factV f.rel A f.args.length ca, factV g.rel B g.args.length cb] w fun e w' => e = .returned (.int .i64 (cmpF f g)) ∧ Below w.heap.size w w' := by
  obtain ⟨r, xs⟩ := f
  obtain ⟨s, ys⟩ := g
  simp only at *
  have HE := Lib.hid (cmpF_eq ⟨r, xs⟩ ⟨s, ys⟩)
  have HT : Hid (∀ p q : Int, then3 p q = if p ≠ 0 then p else q) := Lib.hid fun _ _ => rfl
  have H1 := Lib.hid (Tryz.strings_Compare ⟨r.toArray⟩ ⟨s.toArray⟩)
  have H2 := Lib.hid (Tryz.cmp_Compare_int (xs.length : Int) (ys.length : Int))
  have HC := Lib.hid fun W (hW : Below w.heap.size w W) => compareFunc_any xs ys A B ca cb W (((hA.below (Nat.le_refl _) hW).wide hW.size)) (((hB.below (Nat.le_refl _) hW).wide hW.size)) hx hy
  have HB := Lib.hid (bel_lit (bel_lit (Below.refl w.heap.size w) (.cells #[.string ⟨r.toArray⟩, .slice A xs.length ca] 37)) (.cells #[.string ⟨s.toArray⟩, .slice B ys.length cb] 37))
  simp only [factV]
  generalize cmpF ⟨r, xs⟩ ⟨s, ys⟩ = cf at *
  simp only at HE H1
  generalize Lib.compareBytes r s = c1 at *
  generalize Lib.compareInt (xs.length : Int) (ys.length : Int) = c2 at *
  generalize list3 cmpV xs ys = c3 at *
  clear hA hB
  go_enter Tryz.func18, Tryz.ntmps18
  go_wp2_with fail
  refine (H1.out _).mono ?_
  rintro e w1 ⟨rfl, rfl⟩
  by_cases h1 : c1 = 0
  · have f1 : (c1 != 0) = false := by simp [h1]
    have HZ := Lib.hid h1
    clear h1
    go_wp2_with fail
    refine (H2.out _).mono ?_
    rintro e w1 ⟨rfl, rfl⟩
    by_cases h2 : c2 = 0
    · have f2 : (c2 != 0) = false := by simp [h2]
      have HZ2 := Lib.hid h2
      clear h2
      go_wp2_with fail
      refine (HC.out _ HB.out).mono ?_
      rintro e w1 ⟨rfl, hb⟩
      go_wp2
      go_ret
      exact ⟨ret_int (by rw [HE.out, HT.out, if_neg (by have := HZ.out; omega), HT.out, if_neg (by have := HZ2.out; omega)]), bel_next HB.out hb⟩
    · have f2 : (c2 != 0) = true := by simp [h2]
      go_wp2
      go_ret
      exact ⟨ret_int (by rw [HE.out, HT.out, if_neg (by have := HZ.out; omega), HT.out, if_pos h2]), HB.out⟩
  · have f1 : (c1 != 0) = true := by simp [h1]
    go_wp2
    go_ret
    exact ⟨ret_int (by rw [HE.out, HT.out, if_pos h1]), HB.out⟩
end Go.Proofs.YtmodjokoggmnaaaGreatDoor


namespace Go.Proofs.YtmodjokoggmnaaaGreatDoor

open Go.RowKit Go.Shelf

/-- The same token, positions aside. -/
def GTok.like (a b : GTok) : Prop := a.kind = b.kind ∧ a.text = b.text ∧ a.value = b.value
theorem TRow.cells5 {w : World} {B : Nat} {A : Option Addr} {ts : List GTok} (h : TRow w B A ts) {i : Nat} (hi : i < ts.length) : ∃ b off, A = some ⟨b, off, none⟩ ∧ b < B ∧
    w.cell? ⟨b, off + i * 5, none⟩ = some (.int .i64 ts[i].kind) ∧ w.cell? ⟨b, off + i * 5 + 1, none⟩ = some (.string ⟨ts[i].text.toArray⟩) ∧ w.cell? ⟨b, off + i * 5 + 2, none⟩ = some (.int .u64 ts[i].value) ∧
    w.cell? ⟨b, off + i * 5 + 3, none⟩ = some (.int .i64 ts[i].line) ∧ w.cell? ⟨b, off + i * 5 + 4, none⟩ = some (.int .i64 ts[i].col) := by
  obtain ⟨b, off, e, hb, hc⟩ := h (by omega)
  exact ⟨b, off, e, hb, by have := hc i hi 0 _ rfl; simpa [Nat.add_assoc] using this, by have := hc i hi 1 _ rfl; simpa [Nat.add_assoc] using this, by have := hc i hi 2 _ rfl; simpa [Nat.add_assoc] using this,
    by have := hc i hi 3 _ rfl; simpa [Nat.add_assoc] using this, by have := hc i hi 4 _ rfl; simpa [Nat.add_assoc] using this⟩

end Go.Proofs.YtmodjokoggmnaaaGreatDoor
