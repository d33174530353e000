/-
  The reference's Find.
  Conditions: at most 100000 used ranges.
-/
import Derived.Test.YtndppbfdcceflaaGreatDoorRgg
namespace Go.Proofs.YtndppbfdcceflaaGreatDoor

open Go.RowKit

theorem rFreeL_any (r : GR) (us : List GR) (A : Option Addr) (c : Nat) (w : World) (h : GRow GR.cells 2 w w.heap.size A us) (hl : us.length ≤ 100000) :
    Calls Tryz.prog 85 #[r.val, .slice A us.length c] w (FreeEnd (freeL r us) w) := by
  by_cases hv : VR r
  · have := rFree_any 35 r us A c w hv (by have := hv.hi; omega) h hl
    unfold freeL
    rwa [if_pos (vR_iff.2 hv)]
  · have := rFree_bad r A us.length c w hv
    unfold freeL
    rwa [if_neg (by rw [vR_not.2 hv]; simp)]
theorem freeL_len (r : GR) (us : List GR) : (freeL r us).length ≤ 17179869184 := by
  unfold freeL
  by_cases hv : VR r
  · rw [if_pos (vR_iff.2 hv)]; exact free_len us hv 35 (by have := hv.hi; omega)
  · rw [if_neg (by rw [vR_not.2 hv]; simp)]; simp
def optV : Option GR → Value
  | some x => .tuple #[x.val, .bool true]
  | none => .tuple #[zR.val, .bool false]
theorem find_step {p : GR → Bool} {l : List GR} {j : Nat} (h : j < l.length) : (l.drop j).find? p = if p l[j] = true then some l[j] else (l.drop (j + 1)).find? p := by
  rw [List.drop_eq_getElem_cons h]
  by_cases hp : p l[j] = true
  · rw [if_pos hp, List.find?_cons_of_pos hp]
  · rw [if_neg hp, List.find?_cons_of_neg hp]
end Go.Proofs.YtndppbfdcceflaaGreatDoor
