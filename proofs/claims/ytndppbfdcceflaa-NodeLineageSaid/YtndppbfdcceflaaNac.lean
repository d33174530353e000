/-
  Valid nodes, and the reference's ValidNode.
  Conditions: none.
-/
import Derived.Test.YtndppbfdcceflaaNab
namespace Go.Proofs.Ytndppbfdcceflaa

open Go.RowKit

def vP (xs : List GId) : Bool := xs.all vI && decide (xs.Pairwise (· ≠ ·))
def vN (x : GN) : Bool := vI x.id && vC x.cap && decide (x.path.length ≤ 8) && !hasI x.path x.id && vP x.path
theorem vP_iff {xs : List GId} : vP xs = true ↔ ∀ j (hj : j < xs.length), vI xs[j] = true ∧ hasI (xs.take j) xs[j] = false := by
  unfold vP hasI
  rw [Bool.and_eq_true, List.all_eq_true, decide_eq_true_eq, List.pairwise_iff_getElem]
  constructor
  · rintro ⟨h1, h2⟩ j hj
    refine ⟨h1 _ (List.getElem_mem hj), ?_⟩
    rw [decide_eq_false_iff_not, List.mem_take_iff_getElem]
    rintro ⟨i, hi, e⟩
    exact h2 i j (by omega) hj (by omega) e
  · intro h
    refine ⟨fun x hx => ?_, fun i j hi hj hij e => ?_⟩
    · obtain ⟨j, hj, rfl⟩ := List.getElem_of_mem hx
      exact (h j hj).1
    · have h2 := (h j hj).2
      rw [decide_eq_false_iff_not, List.mem_take_iff_getElem] at h2
      exact h2 ⟨i, by omega, e⟩
theorem id_elem : Try.prog.underlying 26 = some (.slice (Try.prog.elem 26)) := by kernel_rfl
theorem run_idSize (W : World) : (sizeOf (Try.prog.elem 26)).run Try.prog W = .ok 3 W := by kernel_rfl
theorem run_take (w : World) (a : Option Addr) (len cap k : Nat) (hk : k ≤ cap) :
    (Instr.sliceAt 26 (.slice a len cap) none (some (.int .i64 (k : Int))) none).run Try.prog w = .ok (.slice a k cap) w := by
  rw [run_sliceAt_slice _ _ _ _ _ _ id_elem, run_slice_h _ _ _ _ _ id_elem .i64 (k : Int) (by omega) (by omega), run_idSize]
  cases a <;> simp [Result.andThen, sliced, Addr.add]
theorem GRow.take {α : Type} {enc : α → List Value} {k : Nat} {w : World} {B : Nat} {A : Option Addr} {xs : List α} (h : GRow enc k w B A xs) (j : Nat) : GRow enc k w B A (xs.take j) := fun hn => by
  rw [List.length_take] at hn
  obtain ⟨b, off, e, hb, hc⟩ := h (by omega)
  refine ⟨b, off, e, hb, fun i hi m u hu => ?_⟩
  rw [List.length_take] at hi
  rw [List.getElem_take] at hu
  exact hc i (by omega) m u hu
end Go.Proofs.Ytndppbfdcceflaa
