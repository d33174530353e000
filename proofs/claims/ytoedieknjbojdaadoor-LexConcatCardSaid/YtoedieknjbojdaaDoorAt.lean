/-
  The contract of the reference's At at a text's end, and of append of a slice of tokens onto one that the call owns.
  Conditions: the text has at most 65536 bytes.
-/
import Derived.Test.YtoedieknjbojdaaDoorPos
import Derived.Test.YtoedieknjbojdaaDoorLexC
import Derived.Maps.AppendAt
namespace Go.Proofs.YtoedieknjbojdaaDoor
open Go.RowKit Go.Shelf

set_option maxRecDepth 50000 in
set_option maxHeartbeats 1000000 in
theorem at_any (l : List UInt8) (hl : l.length ≤ 65536) (w : World) :
    Calls Tryd.prog 23 #[.string ⟨l.toArray⟩, .int .i64 l.length] w fun e w' => e = .returned (.agg #[.int .i64 (adv (1, 1) l).1, .int .i64 (adv (1, 1) l).2]) ∧ Below w.heap.size w w' := by
  have hsz : (⟨l.toArray⟩ : ByteArray).size = l.length := ba_size l
  go_enter Tryd.func23, Tryd.ntmps23
  go_wp2
  go_loopw [6] (fun vi wr => ∃ j x y : Nat, vi = .int .i64 j ∧ j ≤ l.length ∧ Hid (adv (1, 1) (l.take j) = (x, y)) ∧ Hid (wr.heap[w.heap.size]? = some (.cells #[.int .i64 0, .int .i64 0] 25 (0, 0))) ∧ Hid (wr.heap[w.heap.size + 1]? = some (.cells #[.int .i64 x, .int .i64 y] 25 (0, 0))) ∧ Hid (Below w.heap.size w wr))
    (fun vi _ => l.length + 1 - (intOf vi).toNat)
  case atStart =>
    refine ⟨0, 1, 1, rfl, Nat.zero_le _, rfl, ?_, ?_, Lib.hid (((Below.refl _ _).alloc (Nat.le_refl _) _).alloc (by simp) _)⟩
    · exact (Below.heap_alloc _ _ _ (by simp)).trans (heap_alloc_new w _)
    · have := heap_alloc_new (w.alloc (.cells #[.int .i64 0, .int .i64 0] 25)) (.cells #[.int .i64 1, .int .i64 1] 25)
      have e : (w.alloc (.cells #[.int .i64 0, .int .i64 0] 25)).heap.size = w.heap.size + 1 := by simp
      rw [e] at this; exact this
  case round =>
    obtain ⟨j, x, y, rfl, hj, HX, H0, H1, HB⟩ := hrel
    have bd := adv_bd (l.take j) (1, 1) (Nat.le_refl _) (Nat.le_refl _)
    rw [HX.out, List.length_take] at bd
    have bx : x ≤ 65537 := by have := bd.2.2.1; simp at this; omega
    have by' : y ≤ 65537 := by have := bd.2.2.2; simp at this; omega
    clear bd
    have d0 : wr.cell? ⟨w.heap.size + 1, 0, none⟩ = some (.int .i64 x) := by simp [World.cell?, H1.out]
    have d1 : wr.cell? ⟨w.heap.size + 1, 1, none⟩ = some (.int .i64 y) := by simp [World.cell?, H1.out]
    have z1 : ∀ i, wr.frozen? ⟨w.heap.size + 1, i, none⟩ = false := fun i => by simp [World.frozen?, H1.out]
    have c0 : wr.cell? ⟨w.heap.size, 0, none⟩ = some (.int .i64 0) := by simp [World.cell?, H0.out]
    have c1 : wr.cell? ⟨w.heap.size, 1, none⟩ = some (.int .i64 0) := by simp [World.cell?, H0.out]
    have z0 : ∀ i, wr.frozen? ⟨w.heap.size, i, none⟩ = false := fun i => by simp [World.frozen?, H0.out]
    rcases Nat.lt_or_ge j l.length with hjl | hge
    · have hx : (⟨l.toArray⟩ : ByteArray)[j]'(by rw [hsz]; exact hjl) = l[j] := rfl
      clear c0 c1 z0
      by_cases h10 : l[j].toNat = 10
      · have f10 : ((l[j].toNat : Int) == 10) = true := by simp; omega
        have HA : Hid (adv (1, 1) (l.take (j + 1)) = (x + 1, 1)) := Lib.hid (by rw [adv_step hjl, HX.out]; simp [adv1, show l[j] = 10 from UInt8.toNat_inj.1 h10])
        have HK := Lib.hid (two_set1 (two_set0 (two_set1 H1.out (.int .i64 ((y : Int) + 1))) (.int .i64 ((x : Int) + 1))) (.int .i64 1))
        go_wp2
        go_roundw
        case rel => exact ⟨j + 1, x + 1, 1, by go_num, by omega, HA, Lib.hid (by rw [Below.heap_setCell _ _ _ _ (by show w.heap.size ≠ w.heap.size + 1; omega), Below.heap_setCell _ _ _ _ (by show w.heap.size ≠ w.heap.size + 1; omega), Below.heap_setCell _ _ _ _ (by show w.heap.size ≠ w.heap.size + 1; omega)]; exact H0.out), HK, Lib.hid (((HB.out.setCell (Nat.le_succ _) _).setCell (Nat.le_succ _) _).setCell (Nat.le_succ _) _)⟩
        case measure => simp [intOf]; omega
      · have f10 : ((l[j].toNat : Int) == 10) = false := by simp; omega
        have HA : Hid (adv (1, 1) (l.take (j + 1)) = (x, y + 1)) := Lib.hid (by rw [adv_step hjl, HX.out]; simp [adv1]; exact fun h => h10 (by rw [h]; rfl))
        have HK := Lib.hid (two_set1 H1.out (.int .i64 ((y : Int) + 1)))
        go_wp2
        go_roundw
        case rel => exact ⟨j + 1, x, y + 1, by go_num, by omega, HA, Lib.hid (by rw [Below.heap_setCell _ _ _ _ (by show w.heap.size ≠ w.heap.size + 1; omega)]; exact H0.out), HK, Lib.hid (HB.out.setCell (Nat.le_succ _) _)⟩
        case measure => simp [intOf]; omega
    · have hjk : j = l.length := by omega
      subst hjk
      have HE : Hid (adv (1, 1) l = (x, y)) := Lib.hid (by have := HX.out; rwa [List.take_length] at this)
      go_wp2
      refine bodyPost_ret (v := .agg #[.int .i64 x, .int .i64 y]) (by simp [results, Tryd.results23, go_sem, c0, c1]) rfl ?_
      rw [HE.out]
      exact ⟨rfl, (HB.out.setCell (Nat.le_refl _) _).setCell (Nat.le_refl _) _⟩

theorem tcells_get2 (ts : List GTok) (j : Nat) (u : Value) (h : (tcells ts)[j]? = some u) : ∃ (i k : Nat) (hi : i < ts.length), j = i * 5 + k ∧ k < 5 ∧ (ts[i]).cells[k]? = some u := by
  have hj : j < (tcells ts).length := by
    rcases Nat.lt_or_ge j (tcells ts).length with h1 | h1
    · exact h1
    · rw [List.getElem?_eq_none h1] at h; cases h
  rw [tcells_len] at hj
  have hi : j / 5 < ts.length := by omega
  refine ⟨j / 5, j % 5, hi, by omega, by omega, ?_⟩
  rw [← tcells_get ts (j / 5) (j % 5) hi (by omega), show j / 5 * 5 + j % 5 = j by omega]; exact h
theorem tcells_one (ts : List GTok) : ∀ u ∈ tcells ts, u.oneCell' = true := by
  intro u hu
  obtain ⟨t, _, h⟩ := List.mem_flatMap.1 hu
  exact cells_one t u h
set_option maxRecDepth 20000 in
/-- append(v, xs...) onto a slice of the call's own. -/
theorem OwnT.app {W : World} {base : Nat} {v : Value} {ts : List GTok} (h : OwnT W base v ts) {B : Nat} {A : Option Addr} (c : Nat) {xs : List GTok} (hs : TRow W B A xs) (hbase : base ≤ W.heap.size) (hl : ts.length + xs.length ≤ 1000000) :
    ∃ v' w', (Builtin.append_ #[23, 23] 23 #[v, .slice A xs.length c]).run Tryd.prog W = .ok v' w' ∧ OwnT w' base v' (ts ++ xs) ∧ W.grownBy w' v.ownBlock := by
  obtain ⟨i0, hi0, hz0, hz1, hz2⟩ := info_parts tok_info
  rcases A with _ | ad
  · have h0 : xs = [] := by
      cases xs with
      | nil => rfl
      | cons x r => obtain ⟨b, off, hA, _⟩ := hs (by simp); cases hA
    subst h0
    refine ⟨v, W, ?_, by rw [List.append_nil]; exact h, World.grownBy.refl _ _⟩
    rcases h.2 with ⟨rfl, _⟩ | ⟨g, cap, cur, rfl, _, _, hnc, _⟩
    · simp [Builtin.append_, run_underlying Tryd.underlying23, sizeOf, typeInfo, hi0, Builtin.lenOf, Builtin.firstCells]
    · simp [Builtin.append_, run_underlying Tryd.underlying23, sizeOf, typeInfo, hi0, Builtin.lenOf, Builtin.firstCells, hnc, storeCells]
  · obtain ⟨v', w', hrun, hown, hg, _, _⟩ := run_append_own_at (P := Tryd.prog) W base 23 23 33 i0 _ 5 48 Tryd.underlying23 hi0 hz0 hz1 hz2 rfl (by omega) v ts.length (tcells ts) h ad xs.length c (tcells xs)
      (tcells_len xs)
      (fun j u hu => by
        obtain ⟨i, k, hi, rfl, hk, hu'⟩ := tcells_get2 xs j u hu
        obtain ⟨b, off, hA, _, hc⟩ := hs (by omega)
        injection hA with hA
        subst hA
        have e : (⟨b, off, none⟩ : Addr).add (i * 5 + k) = ⟨b, off + (i * 5 + k), none⟩ := by unfold Addr.add; split <;> simp_all
        rw [e]; exact hc i hi k u hu')
      (tcells_one xs) (by unfold maxLen; omega) (by omega) hbase
    refine ⟨v', w', hrun, ?_, hg⟩
    unfold OwnT
    rw [List.length_append, tcells_append]; exact hown
/-- An append whose run is known, as a step of the walk. -/
theorem wpList_tapp_run {ops : Array Oper} {rest : List Oper} {o : Oper} {a : Act} {Q : Exit → Act → World → Prop} {v y v' : Value} {W w' : World}
    (hrun : (Builtin.append_ #[23, 23] 23 #[v, y]).run Tryd.prog W = .ok v' w') (hgd : o.guard = none) {s x : Operand}
    (ho : o.op = .call { callee := .builtin .append, args := #[s, x], argTypes := #[23, 23] }) (hty : o.type = 23) (hs : a.eval s = v) (hx : a.eval x = y)
    (h : wpList Tryd.prog ops Q rest (a.put o.dst v') w') : wpList Tryd.prog ops Q (o :: rest) a W := by
  refine wpList_plain hgd fun K hK => ?_
  unfold Oper.wp execOp
  simp only [ho, hty, resolve, invoke, builtin, Sem.run_bind, Sem.run_pure, Result.andThen_ok, List.map_toArray, List.map_cons, List.map_nil, hs, hx, hrun]
  exact hK _ _ h
end Go.Proofs.YtoedieknjbojdaaDoor
