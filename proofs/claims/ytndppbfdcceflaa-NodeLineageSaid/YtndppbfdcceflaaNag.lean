/-
  The reference's PutId.
  Conditions: none.
-/
import Derived.Test.YtndppbfdcceflaaNaf
import Derived.Test.YtndppbfdcceflaaGrs
namespace Go.Proofs.Ytndppbfdcceflaa

open Go.RowKit

def idL (x : GId) : List UInt8 := uvar x.core.toNat ++ uvar x.op.toNat ++ uvar x.part.toNat
theorem idL_len (x : GId) : (idL x).length ≤ 30 := by
  have h1 := uvar_len x.core.toNat
  have h2 := uvar_len x.op.toNat
  have h3 := uvar_len x.part.toNat
  unfold idL
  simp only [List.length_append]; omega
theorem IB.keepP {w w' : World} {v v' : Value} {N : Nat} {x : GId} (h : IB w N x) (hk : Kp w v w' v') (hn : v.ownBlock ≠ some N) : IB w' N x := (hk.gb.block N h.lt (fun e => hn e.symm)).trans h
theorem Kp.ne {w w' : World} {v v' : Value} {N : Nat} (hk : Kp w v w' v') (hn : v.ownBlock ≠ some N) (hl : N < w.heap.size) : v'.ownBlock ≠ some N := by
  rcases hk.ob with e | ⟨g, e, hg⟩
  · rw [e]; exact hn
  · rw [e]; intro h; injection h with h; omega
theorem Kp.drew {w w1 : World} {v v1 : Value} (h : Kp w v w1 v1) : Kp w v w1.drew v1 := h.trans ⟨⟨rfl, rfl, rfl, Nat.le_refl _, fun _ _ _ => rfl⟩, .inl rfl⟩
end Go.Proofs.Ytndppbfdcceflaa
