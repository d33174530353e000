/-
  The reference's EncodeNode.
  Conditions: none.
-/
import Derived.Test.YtndppbfdcceflaaNag
namespace Go.Proofs.Ytndppbfdcceflaa

open Go.RowKit

def hdN (x : GN) : List UInt8 := idL x.id ++ uvar x.path.length
def encN (x : GN) : List UInt8 := hdN x ++ x.path.flatMap idL ++ encC x.cap
theorem flat_len (xs : List GId) : (xs.flatMap idL).length ≤ 30 * xs.length := by
  induction xs with
  | nil => simp
  | cons y r ih => have := idL_len y; rw [List.flatMap_cons, List.length_append, List.length_cons]; omega
theorem flat_succ (xs : List GId) {k : Nat} (hk : k < xs.length) : (xs.take (k + 1)).flatMap idL = (xs.take k).flatMap idL ++ idL xs[k] := by
  rw [List.take_succ_eq_append_getElem hk, List.flatMap_append]; simp
theorem vN_facts {x : GN} (h : vN x = true) : vI x.id = true ∧ vC x.cap = true ∧ x.path.length ≤ 8 ∧ (∀ k (hk : k < x.path.length), vI x.path[k] = true) ∧ hasI x.path x.id = false ∧ x.path.Pairwise (· ≠ ·) := by
  unfold vN vP at h
  simp only [Bool.and_eq_true, decide_eq_true_eq, Bool.not_eq_true', List.all_eq_true] at h
  exact ⟨h.1.1.1.1, h.1.1.1.2, h.1.1.2, fun k hk => h.2.1 _ (List.getElem_mem hk), h.1.2, h.2.2⟩
theorem Own.keepB {w w' : World} {base B : Nat} {v : Value} {l : List UInt8} (h : Own w base v l) (hb : Below B w w') (hB : w.heap.size ≤ B) : Own w' base v l := Own.g12.2 ((Own.g12.1 h).keep fun g hg => hb.block g (Nat.lt_of_lt_of_le ((Own.g12.1 h).lt g hg).2 hB))
end Go.Proofs.Ytndppbfdcceflaa
