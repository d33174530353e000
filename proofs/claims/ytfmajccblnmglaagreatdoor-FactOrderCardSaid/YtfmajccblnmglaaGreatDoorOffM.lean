/-
  Positions ascend; worlds that follow one another.
  Conditions: none beyond what each theorem says.
-/
import Derived.Test.YtfmajccblnmglaaGreatDoorAwk
import Derived.Test.YtfmajccblnmglaaGreatDoorLexQ
namespace Go.Proofs.YtfmajccblnmglaaGreatDoor

open Go.RowKit Go.Shelf

theorem adv1_lt (q : Nat × Nat) (c : UInt8) : q.1 < (adv1 q c).1 ∨ (q.1 = (adv1 q c).1 ∧ q.2 < (adv1 q c).2) := by
  unfold adv1; split
  · left; simp
  · right; simp
theorem adv_lt (l : List UInt8) : ∀ q : Nat × Nat, l ≠ [] → q.1 < (adv q l).1 ∨ (q.1 = (adv q l).1 ∧ q.2 < (adv q l).2) := by
  induction l with
  | nil => intro q h; exact absurd rfl h
  | cons c r ih =>
    intro q _
    have h1 := adv1_lt q c
    have e : adv q (c :: r) = adv (adv1 q c) r := rfl
    rw [e]
    by_cases hr : r = []
    · subst hr; exact h1
    · have h2 := ih (adv1 q c) hr
      omega
theorem adv_inj {l : List UInt8} {q : Nat × Nat} {j k : Nat} (hj : j < k) (hk : k ≤ l.length) : adv q (l.take j) ≠ adv q (l.take k) := by
  intro h
  have e : adv q (l.take k) = adv (adv q (l.take j)) ((l.drop j).take (k - j)) := by rw [adv_split, show j + (k - j) = k by omega]
  have hne : (l.drop j).take (k - j) ≠ [] := by
    intro h0
    have := congrArg List.length h0
    rw [List.length_take, List.length_drop] at this
    simp at this; omega
  have := adv_lt _ (adv q (l.take j)) hne
  rw [← e, ← h] at this
  omega
theorem adv_bd (l : List UInt8) : ∀ q : Nat × Nat, 1 ≤ q.1 → 1 ≤ q.2 → 1 ≤ (adv q l).1 ∧ 1 ≤ (adv q l).2 ∧ (adv q l).1 ≤ q.1 + l.length ∧ (adv q l).2 ≤ q.2 + l.length := by
  induction l with
  | nil => intro q h1 h2; exact ⟨h1, h2, by simp [adv], by simp [adv]⟩
  | cons c r ih =>
    intro q h1 h2
    have e : adv q (c :: r) = adv (adv1 q c) r := rfl
    rw [e, List.length_cons]
    have h3 : 1 ≤ (adv1 q c).1 ∧ 1 ≤ (adv1 q c).2 ∧ (adv1 q c).1 ≤ q.1 + 1 ∧ (adv1 q c).2 ≤ q.2 + 1 := by unfold adv1; split <;> simp <;> omega
    have h4 := ih (adv1 q c) h3.1 h3.2.1
    omega
theorem adv_step {l : List UInt8} {q : Nat × Nat} {j : Nat} (hj : j < l.length) : adv q (l.take (j + 1)) = adv1 (adv q (l.take j)) l[j] := by
  rw [List.take_succ_eq_append_getElem hj, adv_append]; rfl

theorem bel_next {w w1 w2 : World} (h1 : Below w.heap.size w w1) (h2 : Below w1.heap.size w1 w2) : Below w.heap.size w w2 := h1.trans (h2.mono h1.size)
theorem bel_lit {w w1 : World} (h1 : Below w.heap.size w w1) (o : Obj) : Below w.heap.size w (w1.alloc o) := h1.alloc h1.size o
theorem bel_alloc {w w1 w2 : World} {o : Obj} (h1 : Below w.heap.size w w1) (h2 : Below (w1.alloc o).heap.size (w1.alloc o) w2) : Below w.heap.size w w2 := bel_next (bel_lit h1 o) h2
theorem two_set0 {w : World} {B : Nat} {p q : Value} {T : TypeId} (h : w.heap[B]? = some (.cells #[p, q] T (0, 0))) (v : Value) : (w.setCell ⟨B, 0, none⟩ v).heap[B]? = some (.cells #[v, q] T (0, 0)) := (heap_setCell_same w B 0 #[p, q] T v h).trans rfl
theorem two_set1 {w : World} {B : Nat} {p q : Value} {T : TypeId} (h : w.heap[B]? = some (.cells #[p, q] T (0, 0))) (v : Value) : (w.setCell ⟨B, 1, none⟩ v).heap[B]? = some (.cells #[p, v] T (0, 0)) := (heap_setCell_same w B 1 #[p, q] T v h).trans rfl
end Go.Proofs.YtfmajccblnmglaaGreatDoor
