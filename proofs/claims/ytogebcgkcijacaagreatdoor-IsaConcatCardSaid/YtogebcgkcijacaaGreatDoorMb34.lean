/-
  A slice of ints that comes in as an argument, as the library opens it, reads as a list.
  Conditions: none beyond the frame's.
-/
import Derived.Test.YtogebcgkcijacaaGreatDoorMb27
import Derived.OpenShut
import Derived.ChangeSlices
namespace Go.Proofs.YtogebcgkcijacaaGreatDoor

open Go.ChangeShapes Go.WideShapes Go.RowKit

def IsInts (w : World) (a : Option Addr) (len cap : Nat) (zs : List Int) : Prop := IRow w w.heap.size a len cap zs
section

variable {H : Type} {enc : TypeId × Value → H} {W : World} {base : Nat} {held : Bool}

theorem IsInts_open {a : Option Addr} {len cap : Nat} {d : DataW H} {p : List MemPlace} (h : DataW.Trod enc Tryz.prog W base (fun _ => true) held 39 (.slice a len cap) d p) (_ : ∀ n ∈ d.weights Tryz.prog 39, n ≤ reachBytes) : ∃ zs, IsInts W a len cap zs := by
  obtain ⟨fuel, hf⟩ := h
  rcases open_ints Tryz.underlying39 Tryz.underlying3 (by kernel_rfl) hf with ⟨hcs, _⟩ | ⟨x, l, c, zs, hcs, _, hl, hm, hz, _, hc, hw⟩
  · simp [Value.cells] at hcs
    obtain ⟨rfl, rfl, rfl⟩ := hcs
    exact ⟨[], rfl, Nat.le_refl _, Nat.zero_le _, fun h => absurd h (by omega), fun z hz => (by cases hz)⟩
  · simp [Value.cells] at hcs
    obtain ⟨rfl, rfl, rfl⟩ := hcs
    have hzl : len ≤ zs.length := by rw [hz]; simp; omega
    refine ⟨zs.take len, by simp; omega, hl, by unfold maxLen at hm; omega, fun h0 => ?_, fun z hz => hw z (List.mem_of_mem_take hz)⟩
    obtain ⟨b, off, rfl, hat⟩ := ints_at hc (by omega)
    refine ⟨b, off, rfl, ?_, fun i hi => ?_⟩
    · have := World.block_lt_of_cell? W _ (hat 0 (by omega))
      simpa using this
    · rw [hat i (by omega), List.getD_eq_getElem?_getD, List.getD_eq_getElem?_getD, List.getElem?_take, if_pos hi]
end

end Go.Proofs.YtogebcgkcijacaaGreatDoor
