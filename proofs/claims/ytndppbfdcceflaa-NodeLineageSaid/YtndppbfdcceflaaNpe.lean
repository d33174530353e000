/-
  The program's Parent: a range over a function.
  Conditions: none.
-/
import Derived.RangeFuncNested
import Derived.RangeFuncLeaves
import Derived.Shelf.Abstract
import Derived.WalkKit
import Derived.OwnWalkIn
import Derived.TacticsInMore
import Derived.LoopNIn
import Derived.LoopIn
import Derived.Test.YtndppbfdcceflaaNpd
import Derived.Test.YtndppbfdcceflaaNae
namespace Go.Proofs.Ytndppbfdcceflaa

open Go.RowKit Go.Shelf

attribute [local go_sem] Oper.semAt_some

theorem GRow.keepB {α : Type} {enc : α → List Value} {k : Nat} {w w' : World} {B : Nat} {A : Option Addr} {xs : List α} (h : GRow enc k w B A xs) (hb : Below B w w') : GRow enc k w' B A xs := fun hn => by
  obtain ⟨b, off, e, hB, hc⟩ := h hn
  exact ⟨b, off, e, hB, fun j hj i v hi => (hb.cell (p := ⟨b, off + (j * k + i), none⟩) hB).trans (hc j hj i v hi)⟩
theorem drop_rev {xs : List GId} {k : Nat} (h : k < xs.length) : (xs.drop k).reverse = (xs.drop (k + 1)).reverse ++ [xs[k]] := by
  rw [List.drop_eq_getElem_cons h, List.reverse_cons]
theorem drop_pre (xs : List GId) (k : Nat) : (xs.drop k).reverse <+: xs.reverse := by
  refine ⟨(xs.take k).reverse, ?_⟩
  rw [← List.reverse_append, List.take_append_drop]
theorem keepsFrom_below {B : Nat} {W W' : World} (h : Below W.heap.size W W') : KeepsFrom B W W' :=
  ⟨h.size, fun k _ _ hk _ => (h.block k (Array.getElem?_eq_some_iff.1 hk).1).trans hk⟩
/-- Three cells hold an Id. -/
def IC (W : World) (N : Nat) (x : GId) : Prop := W.cell? ⟨N, 0, none⟩ = some (.int .i64 x.core) ∧ W.cell? ⟨N, 1, none⟩ = some (.int .i64 x.op) ∧ W.cell? ⟨N, 2, none⟩ = some (.int .i64 x.part)
theorem IC.kept {W W' : World} {N : Nat} {x : GId} {row : Option Nat} (h : IC W N x) (hg : W.grownBy W' row) (hr : ∀ r, row = some r → ∃ o : Obj, W.heap[r]? = some o ∧ o.isCells = false) : IC W' N x :=
  ⟨cell_kept h.1 hg hr, cell_kept h.2.1 hg hr, cell_kept h.2.2 hg hr⟩
theorem par_last {xs ls ini : List GId} {y : GId} (hp : (ini ++ [y]) <+: xs.reverse) (hi : ∀ z ∈ ini, hasI ls z = false) (hy : hasI ls y = true) : parI xs ls = y ∧ parB xs ls = true := by
  refine par_some ?_
  unfold parO
  obtain ⟨r, e⟩ := hp
  rw [← e, List.append_assoc, List.find?_append, List.find?_eq_none.2 (by intro z hz; rw [hi z hz]; simp), Option.none_or, List.singleton_append, List.find?_cons, hy]
theorem par_all {xs ls : List GId} (hi : ∀ z ∈ xs.reverse, hasI ls z = false) : parI xs ls = ⟨0, 0, 0⟩ ∧ parB xs ls = false := by
  refine par_none ?_
  unfold parO
  exact List.find?_eq_none.2 (by intro z hz; rw [hi z hz]; simp)
end Go.Proofs.Ytndppbfdcceflaa
