/-
  The reference's functions on ranges: what they return.
  Conditions: none.
-/
import Derived.Test.YtndppbfdcceflaaRgd
import Derived.Test.YtndppbfdcceflaaGrow
import Derived.Deep.RegionHeld3
import Derived.Lib.Builder
import Derived.StillTailTactics
import Derived.Deep.DeepCutAuto
import Derived.RegionTactic
import Derived.Deep.RegionLaw
namespace Go.Proofs.Ytndppbfdcceflaa

open Go.RowKit

theorem beln {w w1 w2 : World} (h1 : Below w.heap.size w w1) (h2 : Below w1.heap.size w1 w2) : Below w.heap.size w w2 := h1.trans (h2.mono h1.size)
theorem belt {w w1 : World} (h1 : Below w.heap.size w w1) (o : Obj) : Below w.heap.size w (w1.alloc o) := h1.alloc h1.size o
theorem bela {w w1 w2 : World} {o : Obj} (h1 : Below w.heap.size w w1) (h2 : Below (w1.alloc o).heap.size (w1.alloc o) w2) : Below w.heap.size w w2 := beln (belt h1 o) h2
theorem shl_one {n : Int} (h0 : 0 ≤ n) (h1 : n ≤ 62) : IntKind.i64.wrap (2 ^ n.toNat) = pw n := by
  have hp := pw_pos n
  have hl : pw n ≤ pw 62 := pw_le h1 h0
  have h6 : pw 62 = 4611686018427387904 := by decide
  exact IntWalk.i64_in _ (by unfold pw at *; omega)
theorem shl_one64 {n : Int} (h0 : 0 ≤ n) (h1 : n ≤ 62) : wrap64 (2 ^ n.toNat) = pw n := by
  have hp := pw_pos n
  have hl : pw n ≤ pw 62 := pw_le h1 h0
  have h6 : pw 62 = 4611686018427387904 := by decide
  exact IntWalk.wrap64_in _ (by unfold pw at *; omega)
/-- Two ranges that lie in blocks N and N + 1. -/
def Two (w0 : World) (N : Nat) (a b : GR) (W : World) : Prop := Below N w0 W ∧ N + 1 < W.heap.size ∧ W.cell? ⟨N, 0, none⟩ = some (.int .i64 a.base) ∧ W.cell? ⟨N, 1, none⟩ = some (.int .i64 a.bits) ∧ W.cell? ⟨N + 1, 0, none⟩ = some (.int .i64 b.base) ∧ W.cell? ⟨N + 1, 1, none⟩ = some (.int .i64 b.bits)
theorem Two.next {w0 : World} {N : Nat} {a b : GR} {W W' : World} (h : Two w0 N a b W) (hb : Below W.heap.size W W') : Two w0 N a b W' := by
  obtain ⟨h0, h1, h2, h3, h4, h5⟩ := h
  have hs := hb.size
  exact ⟨h0.trans (hb.mono (by omega)), by omega, (hb.cell (p := ⟨N, 0, none⟩) (by simp; omega)).trans h2, (hb.cell (p := ⟨N, 1, none⟩) (by simp; omega)).trans h3, (hb.cell (p := ⟨N + 1, 0, none⟩) (by simp; omega)).trans h4, (hb.cell (p := ⟨N + 1, 1, none⟩) (by simp; omega)).trans h5⟩
theorem Two.mk (w : World) (a b : GR) (T : TypeId) : Two w w.heap.size a b ((w.alloc (.cells #[.int .i64 a.base, .int .i64 a.bits] T)).alloc (.cells #[.int .i64 b.base, .int .i64 b.bits] T)) := by
  have e : (w.alloc (.cells #[.int .i64 a.base, .int .i64 a.bits] T)).heap.size = w.heap.size + 1 := by simp
  have hb := Below.heap_alloc (w.alloc (.cells #[.int .i64 a.base, .int .i64 a.bits] T)) (.cells #[.int .i64 b.base, .int .i64 b.bits] T) w.heap.size (by omega)
  have h1 := hb.trans (heap_alloc_new w (.cells #[.int .i64 a.base, .int .i64 a.bits] T))
  have h2 := heap_alloc_new (w.alloc (.cells #[.int .i64 a.base, .int .i64 a.bits] T)) (.cells #[.int .i64 b.base, .int .i64 b.bits] T)
  rw [e] at h2
  exact ⟨belt (belt (Below.refl _ w) _) _, by simp, by rw [Lib.cell_of_heap h1]; rfl, by rw [Lib.cell_of_heap h1]; rfl, by rw [Lib.cell_of_heap h2]; rfl, by rw [Lib.cell_of_heap h2]; rfl⟩
end Go.Proofs.Ytndppbfdcceflaa
