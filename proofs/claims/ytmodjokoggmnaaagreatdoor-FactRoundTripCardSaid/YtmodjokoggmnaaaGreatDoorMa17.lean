/-
  The comparison of facts, where what it leaves is said as new blocks and draws alone (as the library's sort asks it).
  Conditions: a fact has at most 2^40 arguments.
  Facts in a row, with what they are; equal neighbours; the closure that merged hands to slices.CompactFunc.
  Conditions: as each theorem says.
  Stores into a row of the call's own: an element anew; the end cleared.
  Conditions: as each theorem says.
-/
import Derived.Test.YtmodjokoggmnaaaGreatDoorMa9
import Derived.Sort.Grow
import Derived.Deep.Draws
import Derived.Lib.AppendIntMem
import Derived.Test.YtmodjokoggmnaaaGreatDoorMa13
import Derived.Test.YtmodjokoggmnaaaGreatDoorMa16
import Derived.Deep.DeepFit
import Derived.Laws.IdiomCopy
import Derived.Lib.SliceRun
namespace Go.Proofs.YtmodjokoggmnaaaGreatDoor

open Go.RowKit Go.Shelf Go.Sort

/-- w' is w with draws and new blocks. -/
def Gr (w w' : World) : Prop := ∃ q os, w' = grow (w.drewN q) os
theorem Gr.refl (w : World) : Gr w w := ⟨0, #[], by rw [grow_empty]; rfl⟩
theorem Gr.drew {w w' : World} (h : Gr w w') : Gr w w'.drew := by
  obtain ⟨q, os, rfl⟩ := h
  exact ⟨q + 1, os, rfl⟩
theorem gr_lit {w w' : World} (h : Gr w w') (o : Obj) : Gr w (w'.alloc o) := by
  obtain ⟨q, os, rfl⟩ := h
  exact ⟨q, os ++ #[o], by rw [alloc_eq_grow, grow_grow]⟩
theorem gr_next {w w1 w2 : World} (h : Gr w w1) (h2 : Gr w1 w2) : Gr w w2 := by
  obtain ⟨q, os, rfl⟩ := h
  obtain ⟨q2, os2, rfl⟩ := h2
  refine ⟨q + q2, os ++ os2, ?_⟩
  unfold grow World.drewN
  simp [Array.append_assoc, Nat.add_assoc]
theorem Gr.bel {w w' : World} (h : Gr w w') : Below w.heap.size w w' := by
  obtain ⟨q, os, rfl⟩ := h
  exact Lib.below_grow _ w (Nat.le_refl _) q os

set_option maxRecDepth 50000 in
set_option maxHeartbeats 1000000 in
theorem compareValues_gr (a b : GVal) (w : World) :
    Calls Tryz.prog 45 #[a.val, b.val] w fun e w' => e = .returned (.int .i64 (cmpV a b)) ∧ Gr w w' := by
  have HQ : Hid (∀ W, (Op.equalIn 10000 40 a.val b.val).run Tryz.prog W = .ok (a.kind == b.kind && (a.int == b.int && a.word == b.word)) W) := Lib.hid (val_eql a b)
  have HS : Hid ((a.kind == b.kind && (a.int == b.int && a.word == b.word)) = true → cmpV a b = 0) := Lib.hid fun h => by rw [val_same h]; exact ord_val.self _
  have HE := Lib.hid (cmpV_eq a b)
  obtain ⟨ak, ai, aw⟩ := a
  obtain ⟨bk, bi, bw⟩ := b
  have H1 := Lib.hid (Tryz.cmp_Compare_int ak bk)
  have H2 := Lib.hid (cmp64 ai bi)
  have H3 := Lib.hid (Tryz.strings_Compare ⟨aw.toArray⟩ ⟨bw.toArray⟩)
  simp only [GVal.val] at *
  have hq := fun W => HQ.out W
  generalize (ak == bk && (ai == bi && aw == bw)) = q at *
  clear HQ
  cases q
  · go_enter Tryz.func45, Tryz.ntmps45
    go_wp2
    go_region_held3 (fun W => W.cell? ⟨w.heap.size, 0, none⟩ = some (.int .i64 ak) ∧ W.cell? ⟨w.heap.size, 1, none⟩ = some (.int .i64 ai) ∧ W.cell? ⟨w.heap.size, 2, none⟩ = some (.string ⟨aw.toArray⟩) ∧ W.cell? ⟨w.heap.size + 1, 0, none⟩ = some (.int .i64 bk) ∧ W.cell? ⟨w.heap.size + 1, 1, none⟩ = some (.int .i64 bi) ∧ W.cell? ⟨w.heap.size + 1, 2, none⟩ = some (.string ⟨bw.toArray⟩))
      (first | assumption | go_keep)
      (first | (go_at_call 43; refine (H1.out _).mono ?_; rintro e w1 ⟨rfl, rfl⟩) | (go_at_call 76; refine (H2.out _).mono ?_; rintro e w1 ⟨rfl, rfl⟩) | (go_at_call 42; refine (H3.out _).mono ?_; rintro e w1 ⟨rfl, rfl⟩) | (go_at_call 75; refine (or3 _ (Lib.compareInt ak bk) (Lib.compareInt ai bi) (Lib.compareBytes aw bw) _ (by go_simp) (by go_simp) (by go_simp)).mono ?_; rintro e w1 ⟨rfl, rfl⟩))
    go_wp2
    go_ret
    refine ⟨?_, ?_⟩
    · rw [HE.out]; rfl
    · exact (gr_lit (gr_lit (gr_lit (Gr.refl _) _) _) _).drew
  · go_enter Tryz.func45, Tryz.ntmps45
    go_wp2
    go_ret
    exact ⟨ret_int (HS.out trivial).symm, gr_lit (gr_lit (Gr.refl _) _) _⟩
def CmpRelG (xs ys : List GVal) (w : World) (vi : Value) (wr : World) : Prop := ∃ k : Nat, vi = .int .i64 k ∧ k ≤ xs.length ∧ k ≤ ys.length ∧ xs.take k = ys.take k ∧ Gr w wr

set_option maxRecDepth 50000 in
set_option maxHeartbeats 1000000 in
theorem compareFunc_gr (xs ys : List GVal) (A B : Option Addr) (ca cb : Nat) (w : World) (hA : GRow GVal.cells 3 w w.heap.size A xs) (hB : GRow GVal.cells 3 w w.heap.size B ys) (hx : xs.length ≤ 1099511627776) (hy : ys.length ≤ 1099511627776) :
    Calls Tryz.prog 44 #[.slice A xs.length ca, .slice B ys.length cb, .func (.func 45) #[] #[]] w fun e w' => e = .returned (.int .i64 (list3 cmpV xs ys)) ∧ Gr w w' := by
  have HA := Lib.hid hA
  have HB := Lib.hid hB
  clear hA hB
  go_enter Tryz.func44, Tryz.ntmps44
  go_wp2
  go_loopw [13] (fun vi wr => CmpRelG xs ys w vi wr) (fun vi _ => xs.length - (intOf vi).toNat)
  case atStart => exact ⟨0, rfl, by omega, by omega, by simp, Gr.refl _⟩
  case round =>
    rename_i wr
    obtain ⟨k, rfl, hkx, hky, htk, hb⟩ := hrel
    have HT := Lib.hid htk
    have HW := Lib.hid hb
    have hsz := hb.bel.size
    clear htk hb
    rcases Nat.lt_or_ge k xs.length with hlt | hge
    · obtain ⟨b1, o1, rfl, hb1, x0, x1, x2⟩ := (HA.out.below (Nat.le_refl _) HW.out.bel).val3 hlt
      rcases Nat.lt_or_ge k ys.length with hly | hgy
      · obtain ⟨b2, o2, rfl, hb2, y0, y1, y2⟩ := (HB.out.below (Nat.le_refl _) HW.out.bel).val3 hly
        have hl1 : b1 < wr.heap.size := by omega
        have hl2 : b2 < wr.heap.size := by omega
        have HD := Lib.hid (list3_diff HT.out hlt hly)
        have HS := Lib.hid (take_same HT.out hlt hly)
        have HC := Lib.hid fun W => compareValues_gr xs[k] ys[k] W
        generalize xs[k] = x at *
        generalize ys[k] = y at *
        obtain ⟨xk, xi, xw⟩ := x
        obtain ⟨yk, yi, yw⟩ := y
        simp only [GVal.val] at *
        generalize cmpV ⟨xk, xi, xw⟩ ⟨yk, yi, yw⟩ = c at *
        go_wp2_with fail
        refine (HC.out _).mono ?_
        rintro e w1 ⟨rfl, hb3⟩
        have HN := Lib.hid (gr_next (gr_lit (gr_lit HW.out _) _) hb3)
        clear hb3
        by_cases hc : c = 0
        · have fc : (c != 0) = false := by simp [hc]
          have HS2 := Lib.hid (HS.out hc)
          go_wp2
          go_roundw
          case rel => exact ⟨k + 1, by go_num, by omega, by omega, HS2.out, HN.out⟩
          case measure => simp [intOf]; omega
        · have fc : (c != 0) = true := by simp [hc]
          go_wp2
          go_ret
          exact ⟨ret_int (HD.out hc).symm, HN.out⟩
      · have HL := Lib.hid (list3_more HT.out hlt (by omega))
        go_wp2
        go_ret
        exact ⟨ret_int HL.out.symm, gr_lit HW.out _⟩
    · rcases Nat.lt_or_ge k ys.length with hly | hgy
      · have HL := Lib.hid (list3_less HT.out (by omega) hly)
        go_wp2
        go_ret
        exact ⟨ret_int HL.out.symm, HW.out⟩
      · have HL := Lib.hid (list3_done HT.out (by omega) (by omega))
        go_wp2
        go_ret
        exact ⟨ret_int HL.out.symm, HW.out⟩

set_option maxRecDepth 50000 in
set_option maxHeartbeats 1000000 in
theorem compare_gr (f g : GFact) (A B : Option Addr) (ca cb : Nat) (w : World) (hA : GRow GVal.cells 3 w w.heap.size A f.args) (hB : GRow GVal.cells 3 w w.heap.size B g.args) (hx : f.args.length ≤ 1099511627776) (hy : g.args.length ≤ 1099511627776) :
    Calls Tryz.prog 18 #[factV f.rel A f.args.length ca, factV g.rel B g.args.length cb] w fun e w' => e = .returned (.int .i64 (cmpF f g)) ∧ Gr w w' := by
  obtain ⟨r, xs⟩ := f
  obtain ⟨s, ys⟩ := g
  simp only at *
  have HE := Lib.hid (cmpF_eq ⟨r, xs⟩ ⟨s, ys⟩)
  have HT : Hid (∀ p q : Int, then3 p q = if p ≠ 0 then p else q) := Lib.hid fun _ _ => rfl
  have H1 := Lib.hid (Tryz.strings_Compare ⟨r.toArray⟩ ⟨s.toArray⟩)
  have H2 := Lib.hid (Tryz.cmp_Compare_int (xs.length : Int) (ys.length : Int))
  have HC := Lib.hid fun W (hW : Gr w W) => compareFunc_gr xs ys A B ca cb W (((hA.below (Nat.le_refl _) hW.bel).wide hW.bel.size)) (((hB.below (Nat.le_refl _) hW.bel).wide hW.bel.size)) hx hy
  have HB := Lib.hid (gr_lit (gr_lit (Gr.refl w) (.cells #[.string ⟨r.toArray⟩, .slice A xs.length ca] 37)) (.cells #[.string ⟨s.toArray⟩, .slice B ys.length cb] 37))
  simp only [factV]
  generalize cmpF ⟨r, xs⟩ ⟨s, ys⟩ = cf at *
  simp only at HE H1
  generalize Lib.compareBytes r s = c1 at *
  generalize Lib.compareInt (xs.length : Int) (ys.length : Int) = c2 at *
  generalize list3 cmpV xs ys = c3 at *
  clear hA hB
  go_enter Tryz.func18, Tryz.ntmps18
  go_wp2_with fail
  refine (H1.out _).mono ?_
  rintro e w1 ⟨rfl, rfl⟩
  by_cases h1 : c1 = 0
  · have f1 : (c1 != 0) = false := by simp [h1]
    have HZ := Lib.hid h1
    clear h1
    go_wp2_with fail
    refine (H2.out _).mono ?_
    rintro e w1 ⟨rfl, rfl⟩
    by_cases h2 : c2 = 0
    · have f2 : (c2 != 0) = false := by simp [h2]
      have HZ2 := Lib.hid h2
      clear h2
      go_wp2_with fail
      refine (HC.out _ HB.out).mono ?_
      rintro e w1 ⟨rfl, hb⟩
      go_wp2
      go_ret
      exact ⟨ret_int (by rw [HE.out, HT.out, if_neg (by have := HZ.out; omega), HT.out, if_neg (by have := HZ2.out; omega)]), gr_next HB.out hb⟩
    · have f2 : (c2 != 0) = true := by simp [h2]
      go_wp2
      go_ret
      exact ⟨ret_int (by rw [HE.out, HT.out, if_neg (by have := HZ.out; omega), HT.out, if_pos h2]), HB.out⟩
  · have f1 : (c1 != 0) = true := by simp [h1]
    go_wp2
    go_ret
    exact ⟨ret_int (by rw [HE.out, HT.out, if_pos h1]), HB.out⟩
set_option maxRecDepth 50000 in
theorem unionC_gr (f g : GFact) (A B : Option Addr) (ca cb : Nat) (w : World) (hA : GRow GVal.cells 3 w w.heap.size A f.args) (hB : GRow GVal.cells 3 w w.heap.size B g.args) (hx : f.args.length ≤ 1099511627776) (hy : g.args.length ≤ 1099511627776) :
    Calls Tryz.prog 94 #[factV f.rel A f.args.length ca, factV g.rel B g.args.length cb] w fun e w' => e = .returned (.int .i64 (cmpF f g)) ∧ Gr w w' := by
  obtain ⟨r, xs⟩ := f
  obtain ⟨s, ys⟩ := g
  simp only at *
  have HB := Lib.hid (gr_lit (gr_lit (Gr.refl w) (.cells #[.string ⟨r.toArray⟩, .slice A xs.length ca] 37)) (.cells #[.string ⟨s.toArray⟩, .slice B ys.length cb] 37))
  have HC := Lib.hid (compare_gr ⟨r, xs⟩ ⟨s, ys⟩ A B ca cb _ ((hA.below (Nat.le_refl _) HB.out.bel).wide HB.out.bel.size) ((hB.below (Nat.le_refl _) HB.out.bel).wide HB.out.bel.size) hx hy)
  simp only [factV] at *
  generalize cmpF ⟨r, xs⟩ ⟨s, ys⟩ = cf at *
  clear hA hB
  go_enter Tryz.func94, Tryz.ntmps94
  go_wp2_with fail
  refine HC.out.mono ?_
  rintro e w1 ⟨rfl, hb⟩
  go_wp2
  go_ret
  exact ⟨rfl, gr_next HB.out hb⟩
end Go.Proofs.YtmodjokoggmnaaaGreatDoor


namespace Go.Proofs.YtmodjokoggmnaaaGreatDoor

open Go.RowKit Go.Shelf

/-- A fact asx it lies in memory, with what it is; w0: a world in which its arguments lie. -/
def Elem (w0 : World) : Type := { p : SFact × GFact // FHold w0 w0.heap.size p.1 p.2 }
instance (w0 : World) : Inhabited (Elem w0) := ⟨⟨(⟨[], none, 0, 0⟩, ⟨[], []⟩), ⟨rfl, rfl, GRow.nil, by simp⟩⟩⟩
def Elem.sf {w0 : World} (x : Elem w0) : SFact := x.1.1
def Elem.enc {w0 : World} (x : Elem w0) : List Value := x.sf.cells
def Elem.fact {w0 : World} (x : Elem w0) : GFact := x.1.2
def Elem.cf {w0 : World} (x y : Elem w0) : Int := cmpF x.fact y.fact
def Elem.val {w0 : World} (x : Elem w0) : Value := .agg #[.string ⟨x.sf.rel.toArray⟩, .slice x.sf.A x.sf.n x.sf.c]
theorem Elem.len {w0 : World} (x : Elem w0) : x.enc.length = 2 := rfl
theorem Elem.one {w0 : World} (x : Elem w0) : ∀ u ∈ x.enc, u.oneCell' = true := SFact.one x.sf
theorem Elem.hold {w0 w : World} (x : Elem w0) (hb : Below w0.heap.size w0 w) : FHold w w.heap.size x.sf x.fact := x.2.next (Nat.le_refl _) hb
/-- The closure that union hands on. -/
theorem unionE_gr {w0 : World} (x y : Elem w0) (w : World) (hb : Below w0.heap.size w0 w) :
    Calls Tryz.prog 94 #[x.val, y.val] w fun e w' => e = .returned (.int .i64 (Elem.cf x y)) ∧ Gr w w' := by
  have hx := x.hold hb
  have hy := y.hold hb
  have h := unionC_gr x.fact y.fact x.sf.A y.sf.A x.sf.c y.sf.c w hx.row hy.row hx.few hy.few
  unfold Elem.val
  rw [hx.rel, hx.n, hy.rel, hy.n]
  exact h
def eqE {w0 : World} (x y : Elem w0) : Bool := decide (Elem.cf x y = 0)
set_option maxRecDepth 50000 in
set_option maxHeartbeats 1000000 in
theorem mergedC_gr {w0 : World} (x y : Elem w0) (bx : Nat) (w : World) (hb : Below w0.heap.size w0 w) (hx : w.cell? ⟨bx, 0, none⟩ = some (.func (.func 94) #[] #[])) :
    Calls Tryz.prog 124 #[x.val, y.val, .pointer (some ⟨bx, 0, none⟩)] w fun e w' => e = .returned (.bool (eqE x y)) ∧ Gr w w' := by
  have HB := Lib.hid (gr_lit (gr_lit (Gr.refl w) (.cells #[.string ⟨x.sf.rel.toArray⟩, .slice x.sf.A x.sf.n x.sf.c] 37)) (.cells #[.string ⟨y.sf.rel.toArray⟩, .slice y.sf.A y.sf.n y.sf.c] 37))
  have HC := Lib.hid (unionE_gr x y _ (bel_next hb HB.out.bel))
  have HD : Hid (eqE x y = decide (Elem.cf x y = 0)) := Lib.hid rfl
  have hbx := World.block_lt_of_cell? w _ hx
  simp only at hbx
  unfold Elem.val at *
  generalize eqE x y = q at *
  generalize Elem.cf x y = k at *
  generalize x.sf = s at *
  generalize y.sf = t at *
  obtain ⟨sr, sA, sn, sc⟩ := s
  obtain ⟨tr, tA, tn, tc⟩ := t
  simp only at *
  clear hb
  go_enter Tryz.func124, Tryz.ntmps124
  go_wp2_with fail
  go_fit HC.out
  rintro e w1 ⟨rfl, hb1⟩
  have HN := Lib.hid (gr_next HB.out hb1)
  clear hb1
  by_cases hk : k = 0
  · have fk : (k == 0) = true := by simp [hk]
    go_wp2
    go_ret
    exact ⟨ret_bool (by rw [HD.out]; simp [hk]), HN.out⟩
  · have fk : (k == 0) = false := by simp [hk]
    go_wp2
    go_ret
    exact ⟨ret_bool (by rw [HD.out]; simp [hk]), HN.out⟩

/-- Of equal neighbours the first is kept. -/
def compFrom {w0 : World} : Elem w0 → List (Elem w0) → List (Elem w0)
  | _, [] => []
  | p, y :: r => if eqE y p then compFrom y r else y :: compFrom y r
def compE {w0 : World} : List (Elem w0) → List (Elem w0)
  | [] => []
  | x :: r => x :: compFrom x r
theorem compFrom_snoc {w0 : World} : ∀ (r : List (Elem w0)) (p q y : Elem w0), (p :: r).getLast? = some q → compFrom p (r ++ [y]) = compFrom p r ++ if eqE y q then [] else [y]
  | [], p, q, y, h => by
    simp at h
    subst h
    simp only [List.nil_append, compFrom]
  | z :: r, p, q, y, h => by
    have h' : (z :: r).getLast? = some q := by simpa [List.getLast?_cons_cons] using h
    have ih := compFrom_snoc r z q y h'
    show (if eqE z p then compFrom z (r ++ [y]) else z :: compFrom z (r ++ [y])) = (if eqE z p then compFrom z r else z :: compFrom z r) ++ _
    rw [ih]
    by_cases e : eqE z p = true
    · rw [if_pos e, if_pos e]
    · rw [if_neg e, if_neg e]; rfl
theorem compE_step {w0 : World} {es : List (Elem w0)} {k : Nat} (h0 : 1 ≤ k) (h : k < es.length) :
    compE (es.take (k + 1)) = if eqE es[k] (es[k - 1]'(by omega)) then compE (es.take k) else compE (es.take k) ++ [es[k]] := by
  rw [List.take_succ_eq_append_getElem h]
  cases es with
  | nil => simp at h
  | cons x r =>
    obtain ⟨m, rfl⟩ : ∃ m, k = m + 1 := ⟨k - 1, by omega⟩
    have hm : m < r.length := by simpa using h
    simp only [List.take_succ_cons, List.cons_append]
    have hl : (x :: r.take m).getLast? = some ((x :: r)[m]'(by simp; omega)) := by
      rw [List.getLast?_eq_getElem?]
      have e : (x :: r.take m).length - 1 = m := by simp; omega
      rw [e, ← List.take_succ_cons, List.getElem?_take_of_lt (by omega), List.getElem?_eq_getElem]
    show x :: compFrom x (r.take m ++ [_]) = _
    rw [compFrom_snoc _ _ _ _ hl]
    simp only [Nat.add_sub_cancel]
    by_cases e : eqE (x :: r)[m + 1] ((x :: r)[m]'(by simp; omega)) = true
    · rw [if_pos e, if_pos e]; simp [compE]
    · rw [if_neg e, if_neg e]; simp [compE]
theorem compE_one {w0 : World} {es : List (Elem w0)} (h : 1 ≤ es.length) : compE (es.take 1) = es.take 1 := by
  cases es with
  | nil => simp at h
  | cons x r => simp [compE, compFrom]
/-- Ascending elements without equal neighbours ascend strictly; no fact is lost. -/
theorem compFrom_mem {w0 : World} : ∀ (r : List (Elem w0)) (p : Elem w0) (f : GFact), (f = p.fact ∨ ∃ x ∈ compFrom p r, x.fact = f) ↔ (f = p.fact ∨ ∃ x ∈ r, x.fact = f)
  | [], p, f => by simp [compFrom]
  | y :: r, p, f => by
    have ih := compFrom_mem r y f
    unfold compFrom
    by_cases e : eqE y p = true
    · rw [if_pos e]
      have hyp : y.fact = p.fact := (ord_fact.z _ _).1 (of_decide_eq_true e)
      rw [← hyp, ih]
      constructor
      · rintro (h | ⟨x, hx, h⟩)
        · exact .inl h
        · exact .inr ⟨x, List.mem_cons_of_mem _ hx, h⟩
      · rintro (h | ⟨x, hx, h⟩)
        · exact .inl h
        · rcases List.mem_cons.1 hx with rfl | hx
          · exact .inl h.symm
          · exact .inr ⟨x, hx, h⟩
    · rw [if_neg e]
      constructor
      · rintro (h | ⟨x, hx, h⟩)
        · exact .inl h
        · rcases List.mem_cons.1 hx with rfl | hx
          · exact .inr ⟨x, List.mem_cons_self, h⟩
          · rcases ih.1 (.inr ⟨x, hx, h⟩) with h1 | ⟨z, hz, h1⟩
            · exact .inr ⟨y, List.mem_cons_self, h1.symm⟩
            · exact .inr ⟨z, List.mem_cons_of_mem _ hz, h1⟩
      · rintro (h | ⟨x, hx, h⟩)
        · exact .inl h
        · rcases List.mem_cons.1 hx with rfl | hx
          · exact .inr ⟨x, List.mem_cons_self, h⟩
          · rcases ih.2 (.inr ⟨x, hx, h⟩) with h1 | ⟨z, hz, h1⟩
            · exact .inr ⟨y, List.mem_cons_self, h1.symm⟩
            · exact .inr ⟨z, List.mem_cons_of_mem _ hz, h1⟩
theorem compE_mem {w0 : World} (es : List (Elem w0)) (f : GFact) : (∃ x ∈ compE es, x.fact = f) ↔ ∃ x ∈ es, x.fact = f := by
  cases es with
  | nil => simp [compE]
  | cons p r =>
    have := compFrom_mem r p f
    simp only [compE, List.mem_cons, exists_eq_or_imp]
    rw [eq_comm (a := p.fact)]
    exact this
def SortedE {w0 : World} (es : List (Elem w0)) : Prop := es.Pairwise fun x y => Elem.cf x y ≤ 0
def StrictF (fs : List GFact) : Prop := fs.Pairwise fun x y => cmpF x y < 0
theorem compFrom_strict {w0 : World} : ∀ (r : List (Elem w0)) (p : Elem w0), SortedE (p :: r) → StrictF (p.fact :: (compFrom p r).map Elem.fact)
  | [], p, _ => by simp [compFrom, StrictF]
  | y :: r, p, h => by
    have h1 := List.pairwise_cons.1 h
    have ih := compFrom_strict r y h1.2
    have ih1 := List.pairwise_cons.1 ih
    unfold compFrom
    by_cases e : eqE y p = true
    · rw [if_pos e]
      have hyp : y.fact = p.fact := (ord_fact.z _ _).1 (of_decide_eq_true e)
      rw [← hyp]; exact ih
    · rw [if_neg e]
      have hle := h1.1 y List.mem_cons_self
      have hlt : cmpF p.fact y.fact < 0 := by
        have hn : ¬ cmpF y.fact p.fact = 0 := fun hc => e (decide_eq_true hc)
        have := ord_fact.n p.fact y.fact
        have hle' : cmpF p.fact y.fact ≤ 0 := hle
        omega
      rw [List.map_cons]
      refine List.pairwise_cons.2 ⟨fun z hz => ?_, ih⟩
      rcases List.mem_cons.1 hz with rfl | hz
      · exact hlt
      · exact ord_fact.t _ _ _ hlt (ih1.1 z hz)
theorem compE_strict {w0 : World} {es : List (Elem w0)} (h : SortedE es) : StrictF ((compE es).map Elem.fact) := by
  cases es with
  | nil => simp [compE, StrictF]
  | cons p r => exact compFrom_strict r p h
theorem compE_len {w0 : World} : ∀ (es : List (Elem w0)), (compE es).length ≤ es.length := by
  have key : ∀ (r : List (Elem w0)) (p : Elem w0), (compFrom p r).length ≤ r.length := by
    intro r
    induction r with
    | nil => intro p; simp [compFrom]
    | cons y r ih =>
      intro p
      unfold compFrom
      split
      · have := ih y; simp; omega
      · have := ih y; simp; omega
  intro es
  cases es with
  | nil => simp [compE]
  | cons p r => have := key r p; simp [compE]; omega
end Go.Proofs.YtmodjokoggmnaaaGreatDoor


namespace Go.Proofs.YtmodjokoggmnaaaGreatDoor

open Go.RowKit Go.Shelf

section

variable {α : Type} {enc : α → List Value} {T : TypeId} {k : Nat}

theorem set_heap {w : World} {g t : Nat} {v : Value} {cur : Array Value} (hh : w.heap[g]? = some (.cells cur T (0, 0))) : (w.setCell ⟨g, t, none⟩ v).heap[g]? = some (.cells (cur.set! t v) T (0, 0)) := by
  simp [World.setCell, Array.getElem?_modify, hh]
theorem sets_heap {g : Nat} : ∀ (vs : List Value) (o : Nat) (w : World) (cur : Array Value), w.heap[g]? = some (.cells cur T (0, 0)) → ∃ cur', (w.setCells g o vs).heap[g]? = some (.cells cur' T (0, 0)) ∧ cur'.size = cur.size ∧ ∀ t, t < o → cur'[t]? = cur[t]?
  | [], o, w, cur, h => ⟨cur, h, rfl, fun _ _ => rfl⟩
  | v :: r, o, w, cur, h => by
    obtain ⟨cur', h1, h2, h3⟩ := sets_heap r (o + 1) (w.setCell ⟨g, o, none⟩ v) (cur.set! o v) (set_heap h)
    refine ⟨cur', h1, by rw [h2]; simp, fun t ht => ?_⟩
    rw [h3 t (by omega)]
    simp [Array.getElem?_setIfInBounds]
    omega
theorem gcells_set (hk : ∀ x, (enc x).length = 2) (l : List α) (i : Nat) (hi : i < l.length) (x : α) (a b : Value) (he : enc x = [a, b]) : ((gcells enc l).set (i * 2) a).set (i * 2 + 1) b = gcells enc (l.set i x) := by
  induction l generalizing i with
  | nil => simp at hi
  | cons y r ih =>
    obtain ⟨u, v, hy⟩ : ∃ u v, enc y = [u, v] := by
      have := hk y
      match h : enc y, this with
      | [u, v], _ => exact ⟨u, v, rfl⟩
    have e : gcells enc (y :: r) = u :: v :: gcells enc r := by show enc y ++ gcells enc r = _; rw [hy]; rfl
    cases i with
    | zero =>
      have e2 : gcells enc (x :: r) = a :: b :: gcells enc r := by show enc x ++ gcells enc r = _; rw [he]; rfl
      show (((gcells enc (y :: r)).set (0 * 2) a).set (0 * 2 + 1) b) = gcells enc (x :: r)
      rw [e, e2]; rfl
    | succ i =>
      have e2 : gcells enc (y :: r.set i x) = u :: v :: gcells enc (r.set i x) := by show enc y ++ gcells enc _ = _; rw [hy]; rfl
      rw [List.set_cons_succ, e, e2, ← ih i (by simpa using hi), show (i + 1) * 2 = i * 2 + 1 + 1 by omega]
      rfl
theorem take_set (l : List Value) (n t : Nat) (v : Value) : (l.set t v).take n = (l.take n).set t v := by
  refine List.ext_getElem? fun j => ?_
  rw [List.getElem?_set, List.getElem?_take, List.getElem?_take, List.getElem?_set, List.length_take]
  by_cases hj : j < n
  · simp only [hj, if_true]
    by_cases ht : t = j
    · subst ht
      by_cases hl : t < l.length
      · simp [hl]; omega
      · simp [hl]; omega
    · simp [ht]
  · simp only [hj, if_false]
    by_cases ht : t = j
    · subst ht; simp; omega
    · simp [ht]
/-- An element is stored anew. -/
theorem OwnG.setElem (hk : ∀ x, (enc x).length = 2) {w : World} {base g cap n : Nat} {l : List α} (h : OwnG enc T 2 w base (.slice (some ⟨g, 0, none⟩) n cap) l) (hn : l.length = n) {i : Nat} (hi : i < l.length) (x : α) {a b : Value} (he : enc x = [a, b]) :
    OwnG enc T 2 ((w.setCell ⟨g, i * 2, none⟩ a).setCell ⟨g, i * 2 + 1, none⟩ b) base (.slice (some ⟨g, 0, none⟩) n cap) (l.set i x) := by
  refine ⟨gcells_len hk _, ?_⟩
  rcases h.2 with ⟨hh, _⟩ | ⟨g', cap', cur, e, hb, hh, hn', hm, hs, ht⟩
  · cases hh
  · cases e
    refine .inr ⟨g, cap, _, by rw [List.length_set], hb, set_heap (set_heap hh), by rw [List.length_set]; exact hn', hm, by simp [hs], ?_⟩
    rw [List.length_set, ← gcells_set hk l i hi x a b he, ← ht]
    simp [take_set]
/-- The end of the row is turned and left out. -/
theorem OwnG.cut (hk : ∀ x, (enc x).length = 2) {w : World} {base g cap n : Nat} {l : List α} (h : OwnG enc T 2 w base (.slice (some ⟨g, 0, none⟩) n cap) l) (hn : l.length = n) {i : Nat} (hi : i ≤ l.length) (vs : List Value) :
    OwnG enc T 2 (w.setCells g (i * 2) vs) base (.slice (some ⟨g, 0, none⟩) i cap) (l.take i) := by
  have hlt : (l.take i).length = i := by rw [List.length_take]; omega
  refine ⟨gcells_len hk _, ?_⟩
  rcases h.2 with ⟨hh, _⟩ | ⟨g', cap', cur, e, hb, hh, hn', hm, hs, ht⟩
  · cases hh
  · cases e
    obtain ⟨cur', h1, h2, h3⟩ := sets_heap vs (i * 2) w cur hh
    refine .inr ⟨g, cap, cur', by rw [hlt], hb, h1, by omega, hm, by omega, ?_⟩
    rw [hlt]
    have e1 : cur'.toList.take (i * 2) = cur.toList.take (i * 2) := by
      refine List.ext_getElem? fun t => ?_
      rw [List.getElem?_take, List.getElem?_take]
      by_cases hti : t < i * 2
      · simp only [hti, if_true]
        simpa using h3 t hti
      · simp [hti]
    have e2 : gcells enc (l.take i) = (gcells enc l).take (i * 2) := by
      conv => rhs; rw [← List.take_append_drop i l, gcells_append]
      have hg := gcells_len hk (l.take i)
      rw [hlt] at hg
      rw [← hg, List.take_left']
      rfl
    rw [e1, e2, ← ht, List.take_take]
    congr 1
    omega
end

def zerosF (n : Nat) : List Value := (Builtin.zeroCells #[.string ⟨#[]⟩, .slice none 0 0] n).toList
/-- clear of a slice of n facts. -/
theorem run_clearF (w : World) (b o n c : Nat) (hn : 0 < n) (hc : ∀ j, j < n * 2 → (w.cell? ⟨b, o + j, none⟩).isSome = true) (hf : ∀ j, j < n * 2 → w.frozen? ⟨b, o + j, none⟩ = false) (ty : TypeId) :
    (Builtin.clear_ #[22] ty #[.slice (some ⟨b, o, none⟩) n c]).run Tryz.prog w = .ok (.tuple #[]) (w.setCells b o (zerosF n)) := by
  have hl : (Builtin.zeroCells #[.string ⟨#[]⟩, .slice none 0 0] n).toList.length = n * 2 := by simp [Builtin.zeroCells]
  have hst := run_storeCells_cells (P := Tryz.prog) b o (Builtin.zeroCells #[.string ⟨#[]⟩, .slice none 0 0] n).toList 0 w (by rw [hl]; simpa using hc) (by rw [hl]; simpa using hf) (by
    intro v hv
    simp [Builtin.zeroCells] at hv
    obtain ⟨i, _, rfl⟩ := hv
    rcases (by omega : i % 2 = 0 ∨ i % 2 = 1) with h | h <;> rw [h] <;> rfl)
  simp only [Nat.add_zero] at hst
  obtain ⟨m, rfl⟩ : ∃ m, n = m + 1 := ⟨n - 1, by omega⟩
  simp [Builtin.clear_, run_underlying Tryz.underlying22, Value.cells, hst, zerosF]
theorem gb_cell {w w1 : World} {g : Nat} (h : w.grownBy w1 (some g)) (j : Nat) (v : Value) : w.grownBy (w1.setCell ⟨g, j, none⟩ v) (some g) :=
  ⟨h.os, h.tape, h.output, by have := h.size; simp; omega, fun b hb hne => (Below.heap_setCell _ _ _ b (fun e => hne (by rw [e]))).trans (h.block b hb hne)⟩
theorem gb_cells {w : World} {g : Nat} : ∀ (vs : List Value) (o : Nat) (w1 : World), w.grownBy w1 (some g) → w.grownBy (w1.setCells g o vs) (some g)
  | [], _, _, h => h
  | v :: r, o, _, h => gb_cells r (o + 1) _ (gb_cell h o v)
theorem gb_gr {w w1 w2 : World} {q : Option Nat} (h : w.grownBy w1 q) (h2 : Gr w1 w2) : w.grownBy w2 q :=
  ⟨h2.bel.os.trans h.os, h2.bel.tape.trans h.tape, h2.bel.output.trans h.output, Nat.le_trans h.size h2.bel.size, fun b hb hne => (h2.bel.block b (Nat.lt_of_lt_of_le hb h.size)).trans (h.block b hb hne)⟩
end Go.Proofs.YtmodjokoggmnaaaGreatDoor
