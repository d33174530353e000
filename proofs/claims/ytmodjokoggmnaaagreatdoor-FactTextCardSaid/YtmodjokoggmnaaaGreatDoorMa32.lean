/-
  facts.Remove: the facts that are not the one given, and their set.
  Conditions: the list has at most 1000000 facts, each of at most 1000000 arguments.
  facts.Remove in terms of plain facts.
  Conditions: the list has at most 1000000 facts, each of at most 1000000 arguments.
  facts.Insert: a fact that is not well formed is refused; else the set with it comes back.
  Conditions: the list has at most 8000 facts, each of at most 1000000 arguments; the table of powers of ten lies as the program's text writes it; words have at most 65536 bytes.
-/
import Derived.Test.YtmodjokoggmnaaaGreatDoorMa20
import Derived.Test.YtmodjokoggmnaaaGreatDoorMa15
namespace Go.Proofs.YtmodjokoggmnaaaGreatDoor

open Go.RowKit Go.Shelf

def keepE {w0 : World} (f : GFact) (es : List (Elem w0)) : List (Elem w0) := es.filter fun x => !isF f x.fact
theorem keepE_step {w0 : World} {f : GFact} {es : List (Elem w0)} {k : Nat} (h : k < es.length) : keepE f (es.take (k + 1)) = if isF f es[k].fact then keepE f (es.take k) else keepE f (es.take k) ++ [es[k]] := by
  unfold keepE
  rw [List.take_succ_eq_append_getElem h, List.filter_append]
  cases hq : isF f es[k].fact
  · simp [hq]
  · simp [hq]
theorem keepE_len {w0 : World} (f : GFact) (es : List (Elem w0)) : (keepE f es).length ≤ es.length := List.length_filter_le _ _
def SelEnd {w0 : World} (f : GFact) (es : List (Elem w0)) (e : Ending) (w' : World) : Prop := ∃ v, e = .returned v ∧ OwnG Elem.enc 37 2 w' w0.heap.size v (keepE f es) ∧ Below w0.heap.size w0 w'
end Go.Proofs.YtmodjokoggmnaaaGreatDoor


namespace Go.Proofs.YtmodjokoggmnaaaGreatDoor

open Go.RowKit Go.Shelf

def RemoveEnd (fa : List GFact) (f : GFact) (w : World) (e : Ending) (w' : World) : Prop :=
  ∃ v, ∃ ss : List SFact, ∃ fs : List GFact, e = .returned (.tuple #[v, .bool (fa.any (isF f))]) ∧ OwnG SFact.cells 37 2 w' w.heap.size v ss ∧ SetV w' v ss fs ∧ StrictF fs ∧ (∀ g, g ∈ fs ↔ g ∈ fa ∧ g ≠ f) ∧ fs.length ≤ fa.length ∧ Below w.heap.size w w'
theorem isF_iff (f g : GFact) : isF f g = true ↔ f = g := by
  unfold isF
  rw [decide_eq_true_eq]
  exact ord_fact.z f g
theorem keepE_any {w0 : World} (f : GFact) (es : List (Elem w0)) : decide ((keepE f es).length < es.length) = (es.map Elem.fact).any (isF f) := by
  induction es with
  | nil => rfl
  | cons x r ih =>
    have hl := keepE_len f r
    have e : keepE f (x :: r) = if isF f x.fact then keepE f r else x :: keepE f r := by
      unfold keepE
      rw [List.filter_cons]
      cases isF f x.fact <;> rfl
    rw [e, List.map_cons, List.any_cons, ← ih]
    cases hq : isF f x.fact
    · simp
    · simp; omega
theorem keepE_mem {w0 : World} (f : GFact) (es : List (Elem w0)) (g : GFact) : g ∈ (keepE f es).map Elem.fact ↔ g ∈ es.map Elem.fact ∧ g ≠ f := by
  rw [List.mem_map, List.mem_map]
  constructor
  · rintro ⟨x, hx, rfl⟩
    have h := List.mem_filter.1 hx
    refine ⟨⟨x, h.1, rfl⟩, fun e => ?_⟩
    have h2 := h.2
    rw [(isF_iff f x.fact).2 e.symm] at h2
    cases h2
  · rintro ⟨⟨x, hx, rfl⟩, hne⟩
    refine ⟨x, List.mem_filter.2 ⟨hx, ?_⟩, rfl⟩
    cases hq : isF f x.fact
    · rfl
    · exact absurd ((isF_iff f x.fact).1 hq).symm hne
end Go.Proofs.YtmodjokoggmnaaaGreatDoor


namespace Go.Proofs.YtmodjokoggmnaaaGreatDoor

open Go.RowKit Go.Shelf

def InsertEnd (fa : List GFact) (f : GFact) (w : World) (e : Ending) (w' : World) : Prop :=
  (gwfF f = false ∧ e = .returned (.tuple #[.slice none 0 0, .int .i64 63]) ∧ Below w.heap.size w w') ∨
  (gwfF f = true ∧ ∃ v, ∃ ss : List SFact, ∃ fs : List GFact, e = .returned (.tuple #[v, .int .i64 0]) ∧ OwnG SFact.cells 37 2 w' w.heap.size v ss ∧ SetV w' v ss fs ∧ StrictF fs ∧ (∀ g, g ∈ fs ↔ g ∈ fa ∨ g = f) ∧ fs.length ≤ fa.length + 1 ∧ Below w.heap.size w w')
theorem setV_one (w : World) (s : SFact) (f : GFact) (h : FHold w w.heap.size s f) : SetV (w.alloc (.cells #[.string ⟨s.rel.toArray⟩, .slice s.A s.n s.c] 37)) (.slice (some ⟨w.heap.size, 0, none⟩) 1 1) [s] [f] := by
  refine ⟨.inr ⟨⟨w.heap.size, 0, none⟩, 1, rfl, GRow.lit SFact.len w 37 [s] _ rfl (by unfold maxLen; simp)⟩, rfl, fun i h1 _ => ?_⟩
  have h0 : i = 0 := by simp at h1; omega
  subst h0
  exact h.next (Nat.le_refl _) (bel_lit (Below.refl _ _) _)
end Go.Proofs.YtmodjokoggmnaaaGreatDoor
