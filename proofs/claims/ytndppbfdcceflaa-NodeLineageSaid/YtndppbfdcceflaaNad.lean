/-
  The reference's Child and ParentOf.
  Conditions: none.
-/
import Derived.Test.YtndppbfdcceflaaNac
import Derived.Test.YtndppbfdcceflaaGrt
namespace Go.Proofs.Ytndppbfdcceflaa

open Go.RowKit

theorem OwnG.low {α : Type} {enc : α → List Value} {T : TypeId} {k : Nat} {w : World} {b b' : Nat} {v : Value} {l : List α} (h : OwnG enc T k w b v l) (hb : b' ≤ b) : OwnG enc T k w b' v l := by
  refine ⟨h.1, ?_⟩
  rcases h.2 with hh | ⟨g, c, cur, e1, hbs, rest⟩
  · exact .inl hh
  · exact .inr ⟨g, c, cur, e1, by omega, rest⟩
theorem lit_id (w : World) (x : GId) : GRow GId.cells 3 (w.alloc (.cells #[.int .i64 x.core, .int .i64 x.op, .int .i64 x.part] 24)) (w.heap.size + 1) (some ⟨w.heap.size, 0, none⟩) [x] := by
  have h := (OwnG.lit GId.len w w.heap.size (T := 24) [x] #[.int .i64 x.core, .int .i64 x.op, .int .i64 x.part] rfl (Nat.le_refl _) (by unfold maxLen; simp)).row GId.len
  obtain ⟨A, c', e, _, _, hr⟩ := h
  cases e
  simpa using hr
/-- An Id that lies in a new block is appended to a row of the call's own. -/
theorem OwnI.lit {w1 : World} {base : Nat} {v : Value} {xs : List GId} (h : OwnG GId.cells 24 3 w1 base v xs) (hb : base ≤ w1.heap.size) (x : GId) (hl : xs.length ≤ 1000000) :
    ∃ v' w', (Builtin.append_ #[26, 26] 26 #[v, .slice (some ⟨w1.heap.size, 0, none⟩) 1 1]).run Try.prog (w1.alloc (.cells #[.int .i64 x.core, .int .i64 x.op, .int .i64 x.part] 24)) = .ok v' w' ∧ OwnG GId.cells 24 3 w' base v' (xs ++ [x]) ∧ (w1.alloc (.cells #[.int .i64 x.core, .int .i64 x.op, .int .i64 x.part] 24)).grownBy w' v.ownBlock ∧ (∀ g, v.ownBlock = some g → base ≤ g) := by
  obtain ⟨v', w', hrun, hown, hg, _⟩ := OwnG.app elt_id GId.len GId.one (h.alloc (.cells #[.int .i64 x.core, .int .i64 x.op, .int .i64 x.part] 24)) 1 (lit_id w1 x) (by simp; omega) (by unfold maxLen; simp; omega) (by simp; omega)
  exact ⟨v', w', hrun, hown, hg, fun g e => (h.lt g e).1⟩
def CH1 (s : GN) (i : GId) (c : GC) : Prop := vN s = true ∧ vI i = true ∧ vC c = true ∧ i ≠ s.id ∧ hasI s.path i = false
instance (s : GN) (i : GId) (c : GC) : Decidable (CH1 s i c) := by unfold CH1; infer_instance
/-- The error of Child; 0 if there is none. -/
def chE (s : GN) (i : GId) (c : GC) : Int := if CH1 s i c then (if s.path.length = 8 then 9 else 0) else 1
def zN : GN := ⟨⟨0, 0, 0⟩, [], ⟨0, 0, 0, 0, 0, 0, false⟩⟩
def chN (s : GN) (i : GId) (c : GC) : GN := if chE s i c = 0 then ⟨i, s.path ++ [s.id], c⟩ else zN
/-- What Child hands back: a node in memory of the call's own, and an error. -/
def ChEnd (q : Int) (x : GN) (w : World) (e : Ending) (w' : World) : Prop := ∃ A c, e = .returned (.tuple #[x.val A c, .int .i64 q]) ∧ x.path.length ≤ c ∧ OwnG GId.cells 24 3 w' w.heap.size (.slice A x.path.length c) x.path ∧ Below w.heap.size w w'
theorem ch_bad {s : GN} {i : GId} {c : GC} (h : chE s i c ≠ 0) (w W : World) (hb : Below w.heap.size w W) : ChEnd (chE s i c) (chN s i c) w (.returned (.tuple #[.agg #[.int .i64 0, .int .i64 0, .int .i64 0, .slice none 0 0, .int .i64 0, .int .i64 0, .int .i64 0, .int .i64 0, .int .i64 0, .int .i64 0, .bool false], .int .i64 (chE s i c)])) W := by
  have e : chN s i c = zN := by unfold chN; rw [if_neg h]
  rw [e]
  exact ⟨none, 0, rfl, by simp [zN], OwnG.nil _ _, hb⟩
theorem ch_1 {s : GN} {i : GId} {c : GC} (h : ¬ CH1 s i c) : chE s i c = 1 := by unfold chE; rw [if_neg h]
theorem ch_9 {s : GN} {i : GId} {c : GC} (h : CH1 s i c) (h8 : s.path.length = 8) : chE s i c = 9 := by unfold chE; rw [if_pos h, if_pos h8]
theorem ch_0 {s : GN} {i : GId} {c : GC} (h : CH1 s i c) (h8 : s.path.length ≠ 8) : chE s i c = 0 ∧ chN s i c = ⟨i, s.path ++ [s.id], c⟩ := by
  have e : chE s i c = 0 := by unfold chE; rw [if_pos h, if_neg h8]
  exact ⟨e, by unfold chN; rw [if_pos e]⟩
theorem CH1.short {s : GN} {i : GId} {c : GC} (h : CH1 s i c) : s.path.length ≤ 8 := by
  have h1 := h.1
  unfold vN at h1
  simp only [Bool.and_eq_true, decide_eq_true_eq] at h1
  exact h1.1.1.2
end Go.Proofs.Ytndppbfdcceflaa
