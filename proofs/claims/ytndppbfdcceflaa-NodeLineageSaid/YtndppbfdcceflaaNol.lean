/-
  A slice of ints that is read, and as an argument that comes in.
  Conditions: none beyond the frame's.
-/
import Derived.Test.YtndppbfdcceflaaNop
namespace Go.Proofs.Ytndppbfdcceflaa

open Go.ChangeShapes Go.WideShapes Go.RowKit

/-- A slice of ints that is read. -/
structure IRow (w : World) (B : Nat) (A : Option Addr) (len cap : Nat) (zs : List Int) : Prop where
  count : zs.length = len
  le : len ≤ cap
  max : cap ≤ 9223372036854775807
  row : 0 < len → ∃ b off, A = some ⟨b, off, none⟩ ∧ b < B ∧ ∀ i, i < len → w.cell? ⟨b, off + i, none⟩ = some (.int .i64 (zs.getD i 0))
  wf : ∀ z ∈ zs, (Lit.int .i64 z).wf = true
theorem IRow.below {w w' : World} {B B' : Nat} {A : Option Addr} {len cap : Nat} {zs : List Int} (h : IRow w B A len cap zs) (hB : B ≤ B') (hb : Below B' w w') : IRow w' B A len cap zs :=
  ⟨h.count, h.le, h.max, fun hn => by
    obtain ⟨b, off, e, hlt, hc⟩ := h.row hn
    exact ⟨b, off, e, hlt, fun i hi => (hb.cell (p := ⟨b, off + i, none⟩) (by show b < B'; omega)).trans (hc i hi)⟩, h.wf⟩
section

variable {H : Type} {enc : TypeId × Value → H} {W : World} {base : Nat} {held : Bool}

theorem IsInts_open {a : Option Addr} {len cap : Nat} {d : DataW H} {p : List MemPlace} (h : DataW.Trod enc Try.prog W base (fun _ => true) held 22 (.slice a len cap) d p) : ∃ zs, IRow W W.heap.size a len cap zs := by
  obtain ⟨fuel, hf⟩ := h
  rcases open_ints Try.underlying22 Try.underlying3 (by kernel_rfl) hf with ⟨hcs, _⟩ | ⟨x, l, c, zs, hcs, _, hl, hm, hz, _, hc, hw⟩
  · simp [Value.cells] at hcs
    obtain ⟨rfl, rfl, rfl⟩ := hcs
    exact ⟨[], rfl, Nat.le_refl _, Nat.zero_le _, fun h => absurd h (by omega), fun z hz => (by cases hz)⟩
  · simp [Value.cells] at hcs
    obtain ⟨rfl, rfl, rfl⟩ := hcs
    have hzl : len ≤ zs.length := by rw [hz]; simp; omega
    refine ⟨zs.take len, by simp; omega, hl, by unfold maxLen at hm; omega, fun h0 => ?_, fun z hz => hw z (List.mem_of_mem_take hz)⟩
    obtain ⟨b, off, rfl, hat⟩ := ints_at hc (by omega)
    refine ⟨b, off, rfl, ?_, fun i hi => ?_⟩
    · have := World.block_lt_of_cell? W _ (hat 0 (by omega))
      simpa using this
    · rw [hat i (by omega), List.getD_eq_getElem?_getD, List.getD_eq_getElem?_getD, List.getElem?_take, if_pos hi]
end

end Go.Proofs.Ytndppbfdcceflaa
