/-
  append of a slice of tokens onto one that the call owns.
  Conditions: none beyond what each theorem says.
-/
import Derived.Test.YtfmajccblnmglaaGreatDoorSame
import Derived.Maps.AppendAt
namespace Go.Proofs.YtfmajccblnmglaaGreatDoor

open Go.RowKit Go.Shelf

theorem tcells_get2 (ts : List GTok) (j : Nat) (u : Value) (h : (tcells ts)[j]? = some u) : ∃ (i k : Nat) (hi : i < ts.length), j = i * 5 + k ∧ k < 5 ∧ (ts[i]).cells[k]? = some u := by
  have hj : j < (tcells ts).length := by
    rcases Nat.lt_or_ge j (tcells ts).length with h1 | h1
    · exact h1
    · rw [List.getElem?_eq_none h1] at h; cases h
  rw [tcells_len] at hj
  have hi : j / 5 < ts.length := by omega
  refine ⟨j / 5, j % 5, hi, by omega, by omega, ?_⟩
  rw [← tcells_get ts (j / 5) (j % 5) hi (by omega), show j / 5 * 5 + j % 5 = j by omega]; exact h
theorem tcells_one (ts : List GTok) : ∀ u ∈ tcells ts, u.oneCell' = true := by
  intro u hu
  obtain ⟨t, _, h⟩ := List.mem_flatMap.1 hu
  exact cells_one t u h
set_option maxRecDepth 20000 in
/-- append(v, xs...) onto a slice of the call's own. -/
theorem OwnT.app {W : World} {base : Nat} {v : Value} {ts : List GTok} (h : OwnT W base v ts) {B : Nat} {A : Option Addr} (c : Nat) {xs : List GTok} (hs : TRow W B A xs) (hbase : base ≤ W.heap.size) (hl : ts.length + xs.length ≤ 1000000) :
    ∃ v' w', (Builtin.append_ #[64, 64] 64 #[v, .slice A xs.length c]).run Tryz.prog W = .ok v' w' ∧ OwnT w' base v' (ts ++ xs) ∧ W.grownBy w' v.ownBlock := by
  obtain ⟨i0, hi0, hz0, hz1, hz2⟩ := info_parts tok_info
  rcases A with _ | ad
  · have h0 : xs = [] := by
      cases xs with
      | nil => rfl
      | cons x r => obtain ⟨b, off, hA, _⟩ := hs (by simp); cases hA
    subst h0
    refine ⟨v, W, ?_, by rw [List.append_nil]; exact h, World.grownBy.refl _ _⟩
    rcases h.2 with ⟨rfl, _⟩ | ⟨g, cap, cur, rfl, _, _, hnc, _⟩
    · simp [Builtin.append_, run_underlying Tryz.underlying64, sizeOf, typeInfo, hi0, Builtin.lenOf, Builtin.firstCells]
    · simp [Builtin.append_, run_underlying Tryz.underlying64, sizeOf, typeInfo, hi0, Builtin.lenOf, Builtin.firstCells, hnc, storeCells]
  · obtain ⟨v', w', hrun, hown, hg, _, _⟩ := run_append_own_at (P := Tryz.prog) W base 64 64 70 i0 _ 5 48 Tryz.underlying64 hi0 hz0 hz1 hz2 rfl (by omega) v ts.length (tcells ts) h ad xs.length c (tcells xs)
      (tcells_len xs)
      (fun j u hu => by
        obtain ⟨i, k, hi, rfl, hk, hu'⟩ := tcells_get2 xs j u hu
        obtain ⟨b, off, hA, _, hc⟩ := hs (by omega)
        injection hA with hA
        subst hA
        have e : (⟨b, off, none⟩ : Addr).add (i * 5 + k) = ⟨b, off + (i * 5 + k), none⟩ := by unfold Addr.add; split <;> simp_all
        rw [e]; exact hc i hi k u hu')
      (tcells_one xs) (by unfold maxLen; omega) (by omega) hbase
    refine ⟨v', w', hrun, ?_, hg⟩
    unfold OwnT
    rw [List.length_append, tcells_append]; exact hown
/-- An append whose run is known, as a step of the walk. -/
theorem wpList_tapp_run {ops : Array Oper} {rest : List Oper} {o : Oper} {a : Act} {Q : Exit → Act → World → Prop} {v y v' : Value} {W w' : World}
    (hrun : (Builtin.append_ #[64, 64] 64 #[v, y]).run Tryz.prog W = .ok v' w') (hgd : o.guard = none) {s x : Operand}
    (ho : o.op = .call { callee := .builtin .append, args := #[s, x], argTypes := #[64, 64] }) (hty : o.type = 64) (hs : a.eval s = v) (hx : a.eval x = y)
    (h : wpList Tryz.prog ops Q rest (a.put o.dst v') w') : wpList Tryz.prog ops Q (o :: rest) a W := by
  refine wpList_plain hgd fun K hK => ?_
  unfold Oper.wp execOp
  simp only [ho, hty, resolve, invoke, builtin, Sem.run_bind, Sem.run_pure, Result.andThen_ok, List.map_toArray, List.map_cons, List.map_nil, hs, hx, hrun]
  exact hK _ _ h
end Go.Proofs.YtfmajccblnmglaaGreatDoor
