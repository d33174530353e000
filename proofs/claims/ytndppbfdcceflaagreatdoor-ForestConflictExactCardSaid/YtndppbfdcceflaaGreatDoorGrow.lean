/-
  A region that leaves its order open, whose calls only make new memory: it may be walked in ONE order that is written out. What is read or computed is read as soon as it can be; its value holds in every later world, since later calls turn nothing that is there.
  Conditions: none beyond what each theorem says.
-/
import Derived.OrdersHeld
import Derived.Below
import Derived.Deep.RegionHeld
namespace Go.Proofs.YtndppbfdcceflaaGreatDoor

open Go.RowKit

/-- w' is a later world: nothing that was there in w has turned. -/
def Fut (w w' : World) : Prop := Below w.heap.size w w'
theorem Fut.refl (w : World) : Fut w w := Below.refl _ _
theorem Fut.trans {a b c : World} (h : Fut a b) (k : Fut b c) : Fut a c := Below.trans h (Below.mono k (Below.size h))
theorem Fut.drew {a b : World} (h : Fut a b) : Fut a b.drew := Below.drew h

section

variable {P : Program} {ops : Array Oper} {Q : Exit → Act → World → Prop} {md : Region.Mode}

theorem held_weaker {S T : World → Prop} (hST : ∀ w, S w → T w) : ∀ (fuel : Nat) (listed : Array Bool) (a : Act) (w : World), wpAnyH P md ops Q S fuel listed a w → wpAnyH P md ops Q T fuel listed a w
  | 0, _, _, _, h => h
  | fuel + 1, _, _, _, h => ⟨h.1, fun i hi => wpOp_mono (fun a' w' h' => ⟨hST _ h'.1, held_weaker hST fuel _ a' w' h'.2⟩) (h.2 i hi)⟩

/-- The walk in one order. 'true': what is computed or read, taken first; 'false': a call, when nothing else may come up. -/
def wpGrow (P : Program) (ops : Array Oper) (Q : Exit → Act → World → Prop) : List (Nat × Bool) → Act → World → Prop
  | [], a, w => Q .normal a w
  | (i, true) :: rest, a, w => ∃ oi v, ops[i]? = some oi ∧ YieldsIf P ops (Fut w) oi v a ∧ wpGrow P ops Q rest (a.put oi.dst v) w
  | (i, false) :: rest, a, w => wpOp P ops Q i (fun a' w' => Fut w w' ∧ wpGrow P ops Q rest a' w') a w

/-- That the order may be walked so: a closed fact on the region's edges. -/
def growOk (md : Region.Mode) (ops : Array Oper) : List (Nat × Bool) → Array Bool → Bool
  | [], listed => (Region.ready md ops listed).isEmpty
  | (i, true) :: rest, listed => (Region.ready md ops listed).contains i && Region.free md ops listed i && growOk md ops rest (listed.setIfInBounds i true)
  | (i, false) :: rest, listed => Region.ready md ops listed == [i] && growOk md ops rest (listed.setIfInBounds i true)

theorem grow_sound (hs : Region.noSelect ops = true) (hQ : ∀ c a d v w, Q (.panic c) (Act.put a d v) w → Q (.panic c) a w) : ∀ (ord : List (Nat × Bool)) (listed : Array Bool) (a : Act) (w : World),
    growOk md ops ord listed = true → wpGrow P ops Q ord a w → wpAnyH P md ops Q (Fut w) ord.length listed a w
  | [], listed, a, w, hok, h => wpAnyH_done (by simpa [growOk] using hok) h 0
  | (i, true) :: rest, listed, a, w, hok, h => by
    simp only [growOk, Bool.and_eq_true] at hok
    obtain ⟨oi, v, hi, hy, h⟩ := h
    exact wpAnyH_take hi hs hok.1.2 hok.1.1 (fun c a w => hQ c a _ _ w) hy (Fut.refl w) (grow_sound hs hQ rest _ _ _ hok.2 h)
  | (i, false) :: rest, listed, a, w, hok, h => by
    simp only [growOk, Bool.and_eq_true, beq_iff_eq] at hok
    refine wpAnyH_all hok.1 (by simp) fun j hj => ?_
    obtain rfl : j = i := by simpa using hj
    exact wpOp_mono (fun a' w' h' => ⟨h'.1, held_weaker (fun _ hk => h'.1.trans hk) _ _ _ _ (grow_sound hs hQ rest _ _ _ hok.2 h'.2)⟩) h

/-- THE BEGINNING: the order is written out by the prover, and checked. -/
theorem wp_region_grow {id : Nat} {a : Act} {w : World} (ord : List (Nat × Bool)) (hm : P.follows .mixedOrders = true) (hs : Region.noSelect ops = true)
    (hok : growOk .any ops ord (Array.replicate ops.size false) = true) (hn : ord.length = ops.size) (hQ : ∀ c a d v w, Q (.panic c) (Act.put a d v) w → Q (.panic c) a w)
    (h : wpGrow P ops Q ord a w.drew) : (Code.region id ops true).wp P Q a w := by
  have h1 := grow_sound hs hQ ord _ a w.drew hok h
  rw [hn] at h1
  exact wp_region_held hm h1

theorem wpGrow_nil {a : Act} {w : World} (h : Q .normal a w) : wpGrow P ops Q [] a w := h
theorem wpGrow_float {i : Nat} {oi : Oper} {v : Value} {rest : List (Nat × Bool)} {a : Act} {w : World} (hi : ops[i]? = some oi) (hw : Region.wanted oi (yielded ops a.tmps) = true)
    (hy : ∀ w', Fut w w' → (execOp a.eval oi).run P w' = .ok (.value v) w') (h : wpGrow P ops Q rest (a.put oi.dst v) w) : wpGrow P ops Q ((i, true) :: rest) a w :=
  ⟨oi, v, hi, .inl ⟨hw, hy⟩, h⟩
theorem wpGrow_skip {i : Nat} {oi : Oper} {rest : List (Nat × Bool)} {a : Act} {w : World} (hi : ops[i]? = some oi) (hw : Region.wanted oi (yielded ops a.tmps) = false)
    (h : wpGrow P ops Q rest (a.put oi.dst undef) w) : wpGrow P ops Q ((i, true) :: rest) a w :=
  ⟨oi, undef, hi, .inr ⟨hw, rfl⟩, h⟩
/-- A call that its guard passes over. -/
theorem wpGrow_pass {i : Nat} {oi : Oper} {rest : List (Nat × Bool)} {a : Act} {w : World} (hi : ops[i]? = some oi) (hw : Region.wanted oi (yielded ops a.tmps) = false)
    (h : wpGrow P ops Q rest (a.put oi.dst undef) w) : wpGrow P ops Q ((i, false) :: rest) a w := by
  show wpOp P ops Q i _ a w
  unfold wpOp
  simp only [hi, hw]
  exact ⟨Fut.refl w, h⟩
theorem wpGrow_call {i : Nat} {oi : Oper} {rest : List (Nat × Bool)} {a : Act} {w : World} (hi : ops[i]? = some oi) (hw : Region.wanted oi (yielded ops a.tmps) = true)
    (h : ∀ K : Act → World → Prop, (∀ a' w', Fut w w' → wpGrow P ops Q rest a' w' → K a' w') → oi.wp P a w K Q) : wpGrow P ops Q ((i, false) :: rest) a w := by
  show wpOp P ops Q i _ a w
  unfold wpOp
  simp only [hi, hw, if_true]
  exact .inl (h _ fun a' w' h1 h2 => ⟨h1, h2⟩)
end

end Go.Proofs.YtndppbfdcceflaaGreatDoor
