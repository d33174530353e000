/-
  A region that leaves its order open, walked along a written tree of orders: at a fork two operations may come next.
  Conditions: as each theorem says.
-/
import Derived.Test.YtndppbfdcceflaaGreatDoorGrs
namespace Go.Proofs.YtndppbfdcceflaaGreatDoor

open Go.RowKit

inductive GT where
  | nil
  | fl (i : Nat) (t : GT)
  | op (i : Nat) (t : GT)
  | two (i j : Nat) (t u : GT)
def GT.len : GT → Nat
  | .nil => 0
  | .fl _ t => t.len + 1
  | .op _ t => t.len + 1
  | .two _ _ t _ => t.len + 1
section

variable {P : Program} {ops : Array Oper} {Q : Exit → Act → World → Prop} {md : Region.Mode} {S : World → Prop}

def gtOk (md : Region.Mode) (ops : Array Oper) : GT → Array Bool → Bool
  | .nil, listed => (Region.ready md ops listed).isEmpty
  | .fl i t, listed => (Region.ready md ops listed).contains i && Region.free md ops listed i && gtOk md ops t (listed.setIfInBounds i true)
  | .op i t, listed => Region.ready md ops listed == [i] && gtOk md ops t (listed.setIfInBounds i true)
  | .two i j t u, listed => Region.ready md ops listed == [i, j] && t.len == u.len && gtOk md ops t (listed.setIfInBounds i true) && gtOk md ops u (listed.setIfInBounds j true)
/-- The walk along the tree, S kept by all. -/
def wpGT (P : Program) (ops : Array Oper) (Q : Exit → Act → World → Prop) (S : World → Prop) : GT → Act → World → Prop
  | .nil, a, w => Q .normal a w
  | .fl i t, a, w => ∃ oi v, ops[i]? = some oi ∧ YieldsIf P ops S oi v a ∧ wpGT P ops Q S t (a.put oi.dst v) w
  | .op i t, a, w => wpOp P ops Q i (fun a' w' => S w' ∧ wpGT P ops Q S t a' w') a w
  | .two i j t u, a, w => wpOp P ops Q i (fun a' w' => S w' ∧ wpGT P ops Q S t a' w') a w ∧ wpOp P ops Q j (fun a' w' => S w' ∧ wpGT P ops Q S u a' w') a w
theorem gt_sound (hs : Region.noSelect ops = true) (hQ : ∀ c a d v w, Q (.panic c) (Act.put a d v) w → Q (.panic c) a w) : ∀ (ord : GT) (listed : Array Bool) (a : Act) (w : World),
    gtOk md ops ord listed = true → S w → wpGT P ops Q S ord a w → wpAnyH P md ops Q S ord.len listed a w
  | .nil, listed, a, w, hok, _, h => wpAnyH_done (by simpa [gtOk] using hok) h 0
  | .fl i t, listed, a, w, hok, hS, h => by
    simp only [gtOk, Bool.and_eq_true] at hok
    obtain ⟨oi, v, hi, hy, h⟩ := h
    exact wpAnyH_take hi hs hok.1.2 hok.1.1 (fun c a w => hQ c a _ _ w) hy hS (gt_sound hs hQ t _ _ _ hok.2 hS h)
  | .op i t, listed, a, w, hok, hS, h => by
    simp only [gtOk, Bool.and_eq_true, beq_iff_eq] at hok
    refine wpAnyH_all hok.1 (by simp) fun j hj => ?_
    obtain rfl : j = i := by simpa using hj
    exact wpOp_mono (fun a' w' h' => ⟨h'.1, gt_sound hs hQ t _ _ _ hok.2 h'.1 h'.2⟩) h
  | .two i j t u, listed, a, w, hok, hS, h => by
    simp only [gtOk, Bool.and_eq_true, beq_iff_eq] at hok
    obtain ⟨⟨⟨h1, h2⟩, h3⟩, h4⟩ := hok
    refine wpAnyH_all h1 (by simp) fun k hk => ?_
    simp only [List.mem_cons, List.not_mem_nil, or_false] at hk
    rcases hk with rfl | rfl
    · exact wpOp_mono (fun a' w' h' => ⟨h'.1, gt_sound hs hQ t _ _ _ h3 h'.1 h'.2⟩) h.1
    · exact wpOp_mono (fun a' w' h' => ⟨h'.1, by rw [h2]; exact gt_sound hs hQ u _ _ _ h4 h'.1 h'.2⟩) h.2
theorem wp_region_gt {id : Nat} {a : Act} {w : World} (ord : GT) (hm : P.follows .mixedOrders = true) (hs : Region.noSelect ops = true)
    (hok : gtOk .any ops ord (Array.replicate ops.size false) = true) (hn : ord.len = ops.size) (hQ : ∀ c a d v w, Q (.panic c) (Act.put a d v) w → Q (.panic c) a w)
    (hS : S w.drew) (h : wpGT P ops Q S ord a w.drew) : (Code.region id ops true).wp P Q a w := by
  have h1 := gt_sound hs hQ ord _ a w.drew hok hS h
  rw [hn] at h1
  exact wp_region_held hm h1
theorem wpGT_nil {a : Act} {w : World} (h : Q .normal a w) : wpGT P ops Q S .nil a w := h
theorem wpGT_float {i : Nat} {oi : Oper} {v : Value} {t : GT} {a : Act} {w : World} (hi : ops[i]? = some oi) (hw : Region.wanted oi (yielded ops a.tmps) = true)
    (hy : ∀ w', S w' → (execOp a.eval oi).run P w' = .ok (.value v) w') (h : wpGT P ops Q S t (a.put oi.dst v) w) : wpGT P ops Q S (.fl i t) a w :=
  ⟨oi, v, hi, .inl ⟨hw, hy⟩, h⟩
theorem wpGT_skip {i : Nat} {oi : Oper} {t : GT} {a : Act} {w : World} (hi : ops[i]? = some oi) (hw : Region.wanted oi (yielded ops a.tmps) = false)
    (h : wpGT P ops Q S t (a.put oi.dst undef) w) : wpGT P ops Q S (.fl i t) a w :=
  ⟨oi, undef, hi, .inr ⟨hw, rfl⟩, h⟩
theorem wpOp_pass {i : Nat} {oi : Oper} {t : GT} {a : Act} {w : World} (hS : S w) (hi : ops[i]? = some oi) (hw : Region.wanted oi (yielded ops a.tmps) = false)
    (h : wpGT P ops Q S t (a.put oi.dst undef) w) : wpOp P ops Q i (fun a' w' => S w' ∧ wpGT P ops Q S t a' w') a w := by
  unfold wpOp
  simp only [hi, hw]
  exact ⟨hS, h⟩
theorem wpOp_call {i : Nat} {oi : Oper} {t : GT} {a : Act} {w : World} (hi : ops[i]? = some oi) (hw : Region.wanted oi (yielded ops a.tmps) = true)
    (h : ∀ K : Act → World → Prop, (∀ a' w', S w' → wpGT P ops Q S t a' w' → K a' w') → oi.wp P a w K Q) : wpOp P ops Q i (fun a' w' => S w' ∧ wpGT P ops Q S t a' w') a w := by
  unfold wpOp
  simp only [hi, hw, if_true]
  exact .inl (h _ fun a' w' h1 h2 => ⟨h1, h2⟩)
theorem wpGT_pass {i : Nat} {oi : Oper} {t : GT} {a : Act} {w : World} (hS : S w) (hi : ops[i]? = some oi) (hw : Region.wanted oi (yielded ops a.tmps) = false)
    (h : wpGT P ops Q S t (a.put oi.dst undef) w) : wpGT P ops Q S (.op i t) a w := wpOp_pass hS hi hw h
theorem wpGT_call {i : Nat} {oi : Oper} {t : GT} {a : Act} {w : World} (hi : ops[i]? = some oi) (hw : Region.wanted oi (yielded ops a.tmps) = true)
    (h : ∀ K : Act → World → Prop, (∀ a' w', S w' → wpGT P ops Q S t a' w' → K a' w') → oi.wp P a w K Q) : wpGT P ops Q S (.op i t) a w := wpOp_call hi hw h
theorem wpGT_two {i j : Nat} {t u : GT} {a : Act} {w : World} (h1 : wpOp P ops Q i (fun a' w' => S w' ∧ wpGT P ops Q S t a' w') a w) (h2 : wpOp P ops Q j (fun a' w' => S w' ∧ wpGT P ops Q S u a' w') a w) : wpGT P ops Q S (.two i j t u) a w := ⟨h1, h2⟩
end

end Go.Proofs.YtndppbfdcceflaaGreatDoor
