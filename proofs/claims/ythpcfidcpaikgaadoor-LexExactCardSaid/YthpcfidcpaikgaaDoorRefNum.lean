/-
  The contract of the reference's number, whatever the suffix.
  Conditions: the text is not empty and has at most 65536 bytes.
-/
import Derived.Test.YthpcfidcpaikgaaDoorRefK
import Derived.Test.YthpcfidcpaikgaaDoorRefM
import Derived.Test.YthpcfidcpaikgaaDoorRefG
import Derived.Test.YthpcfidcpaikgaaDoorRefN
namespace Go.Proofs.YthpcfidcpaikgaaDoor
open Go.RowKit Go.Shelf

theorem rnumber_any (l : List UInt8) (w : World) (hne : l ≠ []) (hl : l.length ≤ 65536) :
    Calls Tryd.prog 23 #[.string ⟨l.toArray⟩] w fun e w' => e = .returned (.tuple #[.int .u64 (numV (num l)), .int .i64 (numE (num l))]) ∧ Below w.heap.size w w' := by
  obtain ⟨r, c, rfl⟩ : ∃ r c, l = r ++ [c] := ⟨l.dropLast, l.getLast hne, (List.dropLast_concat_getLast hne).symm⟩
  have hr : r.length ≤ 65536 := by simp at hl; omega
  by_cases h1 : c = 75
  · subst h1; exact rnum_K r w hr
  by_cases h2 : c = 77
  · subst h2; exact rnum_M r w hr
  by_cases h3 : c = 71
  · subst h3; exact rnum_G r w hr
  exact rnum_N (r ++ [c]) w hl r c rfl (by unfold shiftOf; rw [if_neg h1, if_neg h2, if_neg h3])
end Go.Proofs.YthpcfidcpaikgaaDoor
