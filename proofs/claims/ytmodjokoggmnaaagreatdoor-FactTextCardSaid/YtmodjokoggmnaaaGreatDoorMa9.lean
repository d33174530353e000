/-
  The comparison of two facts: slices.CompareFunc at values, facts.Compare.
  Conditions: a fact has at most 2^40 arguments.
  The contract of the law's same: of two slices that hold the same tokens (with bare: the same but for their positions) it returns true.
  Conditions: the slices have at most 65536 elements.
  append of a slice of tokens onto one that the call owns.
  Conditions: none beyond what each theorem says.
-/
import Derived.Test.YtmodjokoggmnaaaGreatDoorMa8
import Derived.Maps.AppendAt
namespace Go.Proofs.YtmodjokoggmnaaaGreatDoor

open Go.RowKit Go.Shelf

theorem list3_more {xs ys : List GVal} {k : Nat} (h : xs.take k = ys.take k) (h1 : k < xs.length) (h2 : k = ys.length) : list3 cmpV xs ys = 1 := by
  rw [list3_at ord_val.self k xs ys h (by omega) (by omega), List.drop_eq_getElem_cons h1, List.drop_eq_nil_of_le (show ys.length ≤ k by omega)]; rfl
theorem list3_less {xs ys : List GVal} {k : Nat} (h : xs.take k = ys.take k) (h1 : k = xs.length) (h2 : k < ys.length) : list3 cmpV xs ys = -1 := by
  rw [list3_at ord_val.self k xs ys h (by omega) (by omega), List.drop_eq_getElem_cons h2, List.drop_eq_nil_of_le (show xs.length ≤ k by omega)]; rfl
theorem list3_done {xs ys : List GVal} {k : Nat} (h : xs.take k = ys.take k) (h1 : k = xs.length) (h2 : k = ys.length) : list3 cmpV xs ys = 0 := by
  rw [list3_at ord_val.self k xs ys h (by omega) (by omega), List.drop_eq_nil_of_le (show ys.length ≤ k by omega), List.drop_eq_nil_of_le (show xs.length ≤ k by omega)]; rfl
theorem list3_diff {xs ys : List GVal} {k : Nat} (h : xs.take k = ys.take k) (h1 : k < xs.length) (h2 : k < ys.length) (hc : cmpV xs[k] ys[k] ≠ 0) : list3 cmpV xs ys = cmpV xs[k] ys[k] := by
  rw [list3_at ord_val.self k xs ys h (by omega) (by omega), List.drop_eq_getElem_cons h1, List.drop_eq_getElem_cons h2]
  show then3 _ _ = _
  unfold then3; rw [if_pos hc]
theorem take_same {xs ys : List GVal} {k : Nat} (h : xs.take k = ys.take k) (h1 : k < xs.length) (h2 : k < ys.length) (hc : cmpV xs[k] ys[k] = 0) : xs.take (k + 1) = ys.take (k + 1) := by
  rw [List.take_succ_eq_append_getElem h1, List.take_succ_eq_append_getElem h2, h, (ord_val.z _ _).1 hc]
theorem GRow.val3 {w : World} {B : Nat} {A : Option Addr} {vs : List GVal} (h : GRow GVal.cells 3 w B A vs) {i : Nat} (hi : i < vs.length) : ∃ b off, A = some ⟨b, off, none⟩ ∧ b < B ∧
    w.cell? ⟨b, off + i * 3, none⟩ = some (.int .i64 vs[i].kind) ∧ w.cell? ⟨b, off + i * 3 + 1, none⟩ = some (.int .i64 vs[i].int) ∧ w.cell? ⟨b, off + i * 3 + 2, none⟩ = some (.string ⟨vs[i].word.toArray⟩) := by
  obtain ⟨b, off, e, hb, hc⟩ := h (by omega)
  exact ⟨b, off, e, hb, hc i hi 0 _ rfl, hc i hi 1 _ rfl, hc i hi 2 _ rfl⟩
def CmpRel (xs ys : List GVal) (w : World) (vi : Value) (wr : World) : Prop := ∃ k : Nat, vi = .int .i64 k ∧ k ≤ xs.length ∧ k ≤ ys.length ∧ xs.take k = ys.take k ∧ Below w.heap.size w wr

set_option maxRecDepth 50000 in
set_option maxHeartbeats 1000000 in
theorem compareFunc_any (xs ys : List GVal) (A B : Option Addr) (ca cb : Nat) (w : World) (hA : GRow GVal.cells 3 w w.heap.size A xs) (hB : GRow GVal.cells 3 w w.heap.size B ys) (hx : xs.length ≤ 1099511627776) (hy : ys.length ≤ 1099511627776) :
    Calls Tryz.prog 44 #[.slice A xs.length ca, .slice B ys.length cb, .func (.func 45) #[] #[]] w fun e w' => e = .returned (.int .i64 (list3 cmpV xs ys)) ∧ Below w.heap.size w w' := by
  have HA := Lib.hid hA
  have HB := Lib.hid hB
  clear hA hB
  go_enter Tryz.func44, Tryz.ntmps44
  go_wp2
  go_loopw [13] (fun vi wr => CmpRel xs ys w vi wr) (fun vi _ => xs.length - (intOf vi).toNat)
  case atStart => exact ⟨0, rfl, by omega, by omega, by simp, Below.refl _ _⟩
  case round =>
    rename_i wr
    obtain ⟨k, rfl, hkx, hky, htk, hb⟩ := hrel
    have HT := Lib.hid htk
    have HW := Lib.hid hb
    have hsz := hb.size
    clear htk hb
    rcases Nat.lt_or_ge k xs.length with hlt | hge
    · obtain ⟨b1, o1, rfl, hb1, x0, x1, x2⟩ := (HA.out.below (Nat.le_refl _) HW.out).val3 hlt
      rcases Nat.lt_or_ge k ys.length with hly | hgy
      · obtain ⟨b2, o2, rfl, hb2, y0, y1, y2⟩ := (HB.out.below (Nat.le_refl _) HW.out).val3 hly
        have hl1 : b1 < wr.heap.size := by omega
        have hl2 : b2 < wr.heap.size := by omega
        have HD := Lib.hid (list3_diff HT.out hlt hly)
        have HS := Lib.hid (take_same HT.out hlt hly)
        have HC := Lib.hid fun W => compareValues_any xs[k] ys[k] W
        generalize xs[k] = x at *
        generalize ys[k] = y at *
        obtain ⟨xk, xi, xw⟩ := x
        obtain ⟨yk, yi, yw⟩ := y
        simp only [GVal.val] at *
        generalize cmpV ⟨xk, xi, xw⟩ ⟨yk, yi, yw⟩ = c at *
        go_wp2_with fail
        refine (HC.out _).mono ?_
        rintro e w1 ⟨rfl, hb3⟩
        have HN := Lib.hid (bel_next (bel_lit (bel_lit HW.out _) _) hb3)
        clear hb3
        by_cases hc : c = 0
        · have fc : (c != 0) = false := by simp [hc]
          have HS2 := Lib.hid (HS.out hc)
          go_wp2
          go_roundw
          case rel => exact ⟨k + 1, by go_num, by omega, by omega, HS2.out, HN.out⟩
          case measure => simp [intOf]; omega
        · have fc : (c != 0) = true := by simp [hc]
          go_wp2
          go_ret
          exact ⟨ret_int (HD.out hc).symm, HN.out⟩
      · have HL := Lib.hid (list3_more HT.out hlt (by omega))
        go_wp2
        go_ret
        exact ⟨ret_int HL.out.symm, bel_lit HW.out _⟩
    · rcases Nat.lt_or_ge k ys.length with hly | hgy
      · have HL := Lib.hid (list3_less HT.out (by omega) hly)
        go_wp2
        go_ret
        exact ⟨ret_int HL.out.symm, HW.out⟩
      · have HL := Lib.hid (list3_done HT.out (by omega) (by omega))
        go_wp2
        go_ret
        exact ⟨ret_int HL.out.symm, HW.out⟩

/-- A fact asx an argument. -/
def factV (r : List UInt8) (A : Option Addr) (n c : Nat) : Value := .agg #[.string ⟨r.toArray⟩, .slice A n c]
set_option maxRecDepth 50000 in
set_option maxHeartbeats 1000000 in
theorem compare_any (f g : GFact) (A B : Option Addr) (ca cb : Nat) (w : World) (hA : GRow GVal.cells 3 w w.heap.size A f.args) (hB : GRow GVal.cells 3 w w.heap.size B g.args) (hx : f.args.length ≤ 1099511627776) (hy : g.args.length ≤ 1099511627776) :
    Calls Tryz.prog 18 #[factV f.rel A f.args.length ca, factV g.rel B g.args.length cb] w fun e w' => e = .returned (.int .i64 (cmpF f g)) ∧ Below w.heap.size w w' := by
  obtain ⟨r, xs⟩ := f
  obtain ⟨s, ys⟩ := g
  simp only at *
  have HE := Lib.hid (cmpF_eq ⟨r, xs⟩ ⟨s, ys⟩)
  have HT : Hid (∀ p q : Int, then3 p q = if p ≠ 0 then p else q) := Lib.hid fun _ _ => rfl
  have H1 := Lib.hid (Tryz.strings_Compare ⟨r.toArray⟩ ⟨s.toArray⟩)
  have H2 := Lib.hid (Tryz.cmp_Compare_int (xs.length : Int) (ys.length : Int))
  have HC := Lib.hid fun W (hW : Below w.heap.size w W) => compareFunc_any xs ys A B ca cb W (((hA.below (Nat.le_refl _) hW).wide hW.size)) (((hB.below (Nat.le_refl _) hW).wide hW.size)) hx hy
  have HB := Lib.hid (bel_lit (bel_lit (Below.refl w.heap.size w) (.cells #[.string ⟨r.toArray⟩, .slice A xs.length ca] 37)) (.cells #[.string ⟨s.toArray⟩, .slice B ys.length cb] 37))
  simp only [factV]
  generalize cmpF ⟨r, xs⟩ ⟨s, ys⟩ = cf at *
  simp only at HE H1
  generalize Lib.compareBytes r s = c1 at *
  generalize Lib.compareInt (xs.length : Int) (ys.length : Int) = c2 at *
  generalize list3 cmpV xs ys = c3 at *
  clear hA hB
  go_enter Tryz.func18, Tryz.ntmps18
  go_wp2_with fail
  refine (H1.out _).mono ?_
  rintro e w1 ⟨rfl, rfl⟩
  by_cases h1 : c1 = 0
  · have f1 : (c1 != 0) = false := by simp [h1]
    have HZ := Lib.hid h1
    clear h1
    go_wp2_with fail
    refine (H2.out _).mono ?_
    rintro e w1 ⟨rfl, rfl⟩
    by_cases h2 : c2 = 0
    · have f2 : (c2 != 0) = false := by simp [h2]
      have HZ2 := Lib.hid h2
      clear h2
      go_wp2_with fail
      refine (HC.out _ HB.out).mono ?_
      rintro e w1 ⟨rfl, hb⟩
      go_wp2
      go_ret
      exact ⟨ret_int (by rw [HE.out, HT.out, if_neg (by have := HZ.out; omega), HT.out, if_neg (by have := HZ2.out; omega)]), bel_next HB.out hb⟩
    · have f2 : (c2 != 0) = true := by simp [h2]
      go_wp2
      go_ret
      exact ⟨ret_int (by rw [HE.out, HT.out, if_neg (by have := HZ.out; omega), HT.out, if_pos h2]), HB.out⟩
  · have f1 : (c1 != 0) = true := by simp [h1]
    go_wp2
    go_ret
    exact ⟨ret_int (by rw [HE.out, HT.out, if_pos h1]), HB.out⟩
end Go.Proofs.YtmodjokoggmnaaaGreatDoor


namespace Go.Proofs.YtmodjokoggmnaaaGreatDoor

open Go.RowKit Go.Shelf

/-- The same token, positions aside. -/
def GTok.like (a b : GTok) : Prop := a.kind = b.kind ∧ a.text = b.text ∧ a.value = b.value
theorem TRow.cells5 {w : World} {B : Nat} {A : Option Addr} {ts : List GTok} (h : TRow w B A ts) {i : Nat} (hi : i < ts.length) : ∃ b off, A = some ⟨b, off, none⟩ ∧ b < B ∧
    w.cell? ⟨b, off + i * 5, none⟩ = some (.int .i64 ts[i].kind) ∧ w.cell? ⟨b, off + i * 5 + 1, none⟩ = some (.string ⟨ts[i].text.toArray⟩) ∧ w.cell? ⟨b, off + i * 5 + 2, none⟩ = some (.int .u64 ts[i].value) ∧
    w.cell? ⟨b, off + i * 5 + 3, none⟩ = some (.int .i64 ts[i].line) ∧ w.cell? ⟨b, off + i * 5 + 4, none⟩ = some (.int .i64 ts[i].col) := by
  obtain ⟨b, off, e, hb, hc⟩ := h (by omega)
  exact ⟨b, off, e, hb, by have := hc i hi 0 _ rfl; simpa [Nat.add_assoc] using this, by have := hc i hi 1 _ rfl; simpa [Nat.add_assoc] using this, by have := hc i hi 2 _ rfl; simpa [Nat.add_assoc] using this,
    by have := hc i hi 3 _ rfl; simpa [Nat.add_assoc] using this, by have := hc i hi 4 _ rfl; simpa [Nat.add_assoc] using this⟩

end Go.Proofs.YtmodjokoggmnaaaGreatDoor


namespace Go.Proofs.YtmodjokoggmnaaaGreatDoor

open Go.RowKit Go.Shelf

theorem tcells_get2 (ts : List GTok) (j : Nat) (u : Value) (h : (tcells ts)[j]? = some u) : ∃ (i k : Nat) (hi : i < ts.length), j = i * 5 + k ∧ k < 5 ∧ (ts[i]).cells[k]? = some u := by
  have hj : j < (tcells ts).length := by
    rcases Nat.lt_or_ge j (tcells ts).length with h1 | h1
    · exact h1
    · rw [List.getElem?_eq_none h1] at h; cases h
  rw [tcells_len] at hj
  have hi : j / 5 < ts.length := by omega
  refine ⟨j / 5, j % 5, hi, by omega, by omega, ?_⟩
  rw [← tcells_get ts (j / 5) (j % 5) hi (by omega), show j / 5 * 5 + j % 5 = j by omega]; exact h
theorem tcells_one (ts : List GTok) : ∀ u ∈ tcells ts, u.oneCell' = true := by
  intro u hu
  obtain ⟨t, _, h⟩ := List.mem_flatMap.1 hu
  exact cells_one t u h
set_option maxRecDepth 20000 in
/-- append(v, xs...) onto a slice of the call's own. -/
theorem OwnT.app {W : World} {base : Nat} {v : Value} {ts : List GTok} (h : OwnT W base v ts) {B : Nat} {A : Option Addr} (c : Nat) {xs : List GTok} (hs : TRow W B A xs) (hbase : base ≤ W.heap.size) (hl : ts.length + xs.length ≤ 1000000) :
    ∃ v' w', (Builtin.append_ #[46, 46] 46 #[v, .slice A xs.length c]).run Tryz.prog W = .ok v' w' ∧ OwnT w' base v' (ts ++ xs) ∧ W.grownBy w' v.ownBlock := by
  obtain ⟨i0, hi0, hz0, hz1, hz2⟩ := info_parts tok_info
  rcases A with _ | ad
  · have h0 : xs = [] := by
      cases xs with
      | nil => rfl
      | cons x r => obtain ⟨b, off, hA, _⟩ := hs (by simp); cases hA
    subst h0
    refine ⟨v, W, ?_, by rw [List.append_nil]; exact h, World.grownBy.refl _ _⟩
    rcases h.2 with ⟨rfl, _⟩ | ⟨g, cap, cur, rfl, _, _, hnc, _⟩
    · simp [Builtin.append_, run_underlying Tryz.underlying46, sizeOf, typeInfo, hi0, Builtin.lenOf, Builtin.firstCells]
    · simp [Builtin.append_, run_underlying Tryz.underlying46, sizeOf, typeInfo, hi0, Builtin.lenOf, Builtin.firstCells, hnc, storeCells]
  · obtain ⟨v', w', hrun, hown, hg, _, _⟩ := run_append_own_at (P := Tryz.prog) W base 46 46 52 i0 _ 5 48 Tryz.underlying46 hi0 hz0 hz1 hz2 rfl (by omega) v ts.length (tcells ts) h ad xs.length c (tcells xs)
      (tcells_len xs)
      (fun j u hu => by
        obtain ⟨i, k, hi, rfl, hk, hu'⟩ := tcells_get2 xs j u hu
        obtain ⟨b, off, hA, _, hc⟩ := hs (by omega)
        injection hA with hA
        subst hA
        have e : (⟨b, off, none⟩ : Addr).add (i * 5 + k) = ⟨b, off + (i * 5 + k), none⟩ := by unfold Addr.add; split <;> simp_all
        rw [e]; exact hc i hi k u hu')
      (tcells_one xs) (by unfold maxLen; omega) (by omega) hbase
    refine ⟨v', w', hrun, ?_, hg⟩
    unfold OwnT
    rw [List.length_append, tcells_append]; exact hown
/-- An append whose run is known, asx a step of the walk. -/
theorem wpList_tapp_run {ops : Array Oper} {rest : List Oper} {o : Oper} {a : Act} {Q : Exit → Act → World → Prop} {v y v' : Value} {W w' : World}
    (hrun : (Builtin.append_ #[46, 46] 46 #[v, y]).run Tryz.prog W = .ok v' w') (hgd : o.guard = none) {s x : Operand}
    (ho : o.op = .call { callee := .builtin .append, args := #[s, x], argTypes := #[46, 46] }) (hty : o.type = 46) (hs : a.eval s = v) (hx : a.eval x = y)
    (h : wpList Tryz.prog ops Q rest (a.put o.dst v') w') : wpList Tryz.prog ops Q (o :: rest) a W := by
  refine wpList_plain hgd fun K hK => ?_
  unfold Oper.wp execOp
  simp only [ho, hty, resolve, invoke, builtin, Sem.run_bind, Sem.run_pure, Result.andThen_ok, List.map_toArray, List.map_cons, List.map_nil, hs, hx, hrun]
  exact hK _ _ h
end Go.Proofs.YtmodjokoggmnaaaGreatDoor
