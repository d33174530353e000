/-
  A region that leaves its order open, walked in one written order under a condition that every later world keeps.
  Conditions: as each theorem says.
-/
import Derived.Test.YtndppbfdcceflaaGreatDoorRow
import Derived.Test.YtndppbfdcceflaaGreatDoorGrow
namespace Go.Proofs.YtndppbfdcceflaaGreatDoor

open Go.RowKit

section

variable {P : Program} {ops : Array Oper} {Q : Exit → Act → World → Prop} {md : Region.Mode} {S : World → Prop}

/-- The walk in one order, S kept by all. -/
def wpGrowS (P : Program) (ops : Array Oper) (Q : Exit → Act → World → Prop) (S : World → Prop) : List (Nat × Bool) → Act → World → Prop
  | [], a, w => Q .normal a w
  | (i, true) :: rest, a, w => ∃ oi v, ops[i]? = some oi ∧ YieldsIf P ops S oi v a ∧ wpGrowS P ops Q S rest (a.put oi.dst v) w
  | (i, false) :: rest, a, w => wpOp P ops Q i (fun a' w' => S w' ∧ wpGrowS P ops Q S rest a' w') a w
theorem growS_sound (hs : Region.noSelect ops = true) (hQ : ∀ c a d v w, Q (.panic c) (Act.put a d v) w → Q (.panic c) a w) : ∀ (ord : List (Nat × Bool)) (listed : Array Bool) (a : Act) (w : World),
    growOk md ops ord listed = true → S w → wpGrowS P ops Q S ord a w → wpAnyH P md ops Q S ord.length listed a w
  | [], listed, a, w, hok, _, h => wpAnyH_done (by simpa [growOk] using hok) h 0
  | (i, true) :: rest, listed, a, w, hok, hS, h => by
    simp only [growOk, Bool.and_eq_true] at hok
    obtain ⟨oi, v, hi, hy, h⟩ := h
    exact wpAnyH_take hi hs hok.1.2 hok.1.1 (fun c a w => hQ c a _ _ w) hy hS (growS_sound hs hQ rest _ _ _ hok.2 hS h)
  | (i, false) :: rest, listed, a, w, hok, hS, h => by
    simp only [growOk, Bool.and_eq_true, beq_iff_eq] at hok
    refine wpAnyH_all hok.1 (by simp) fun j hj => ?_
    obtain rfl : j = i := by simpa using hj
    exact wpOp_mono (fun a' w' h' => ⟨h'.1, growS_sound hs hQ rest _ _ _ hok.2 h'.1 h'.2⟩) h
theorem wp_region_growS {id : Nat} {a : Act} {w : World} (ord : List (Nat × Bool)) (hm : P.follows .mixedOrders = true) (hs : Region.noSelect ops = true)
    (hok : growOk .any ops ord (Array.replicate ops.size false) = true) (hn : ord.length = ops.size) (hQ : ∀ c a d v w, Q (.panic c) (Act.put a d v) w → Q (.panic c) a w)
    (hS : S w.drew) (h : wpGrowS P ops Q S ord a w.drew) : (Code.region id ops true).wp P Q a w := by
  have h1 := growS_sound hs hQ ord _ a w.drew hok hS h
  rw [hn] at h1
  exact wp_region_held hm h1
theorem wpGrowS_nil {a : Act} {w : World} (h : Q .normal a w) : wpGrowS P ops Q S [] a w := h
theorem wpGrowS_float {i : Nat} {oi : Oper} {v : Value} {rest : List (Nat × Bool)} {a : Act} {w : World} (hi : ops[i]? = some oi) (hw : Region.wanted oi (yielded ops a.tmps) = true)
    (hy : ∀ w', S w' → (execOp a.eval oi).run P w' = .ok (.value v) w') (h : wpGrowS P ops Q S rest (a.put oi.dst v) w) : wpGrowS P ops Q S ((i, true) :: rest) a w :=
  ⟨oi, v, hi, .inl ⟨hw, hy⟩, h⟩
theorem wpGrowS_skip {i : Nat} {oi : Oper} {rest : List (Nat × Bool)} {a : Act} {w : World} (hi : ops[i]? = some oi) (hw : Region.wanted oi (yielded ops a.tmps) = false)
    (h : wpGrowS P ops Q S rest (a.put oi.dst undef) w) : wpGrowS P ops Q S ((i, true) :: rest) a w :=
  ⟨oi, undef, hi, .inr ⟨hw, rfl⟩, h⟩
theorem wpGrowS_pass {i : Nat} {oi : Oper} {rest : List (Nat × Bool)} {a : Act} {w : World} (hS : S w) (hi : ops[i]? = some oi) (hw : Region.wanted oi (yielded ops a.tmps) = false)
    (h : wpGrowS P ops Q S rest (a.put oi.dst undef) w) : wpGrowS P ops Q S ((i, false) :: rest) a w := by
  show wpOp P ops Q i _ a w
  unfold wpOp
  simp only [hi, hw]
  exact ⟨hS, h⟩
theorem wpGrowS_call {i : Nat} {oi : Oper} {rest : List (Nat × Bool)} {a : Act} {w : World} (hi : ops[i]? = some oi) (hw : Region.wanted oi (yielded ops a.tmps) = true)
    (h : ∀ K : Act → World → Prop, (∀ a' w', S w' → wpGrowS P ops Q S rest a' w' → K a' w') → oi.wp P a w K Q) : wpGrowS P ops Q S ((i, false) :: rest) a w := by
  show wpOp P ops Q i _ a w
  unfold wpOp
  simp only [hi, hw, if_true]
  exact .inl (h _ fun a' w' h1 h2 => ⟨h1, h2⟩)
end

/-- An append whose run is known by what it leaves, as one operation. -/
theorem oper_app10 {S : TypeId} {o : Oper} {a : Act} {K : Act → World → Prop} {Q : Exit → Act → World → Prop} {v y : Value} {W : World} {R : Value → World → Prop}
    (H : ∃ v' w', (Builtin.append_ #[S, S] S #[v, y]).run Tryz.prog W = .ok v' w' ∧ R v' w') {s x : Operand}
    (ho : o.op = .call { callee := .builtin .append, args := #[s, x], argTypes := #[S, S] }) (hty : o.type = S) (hs : a.eval s = v) (hx : a.eval x = y)
    (h : ∀ v' w', R v' w' → K (a.put o.dst v') w') : Oper.wp Tryz.prog o a W K Q := by
  obtain ⟨v', w', hr, h2⟩ := H
  unfold Oper.wp execOp
  simp only [ho, hty, resolve, invoke, builtin, Sem.run_bind, Sem.run_pure, Result.andThen_ok, List.map_toArray, List.map_cons, List.map_nil, hs, hx, hr]
  exact h _ _ h2
end Go.Proofs.YtndppbfdcceflaaGreatDoor
