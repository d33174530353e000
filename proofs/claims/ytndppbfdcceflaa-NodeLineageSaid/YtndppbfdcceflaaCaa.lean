/-
  Capabilities in plain words, and the reference's small functions on them.
  Conditions: none.
-/
import Derived.Test.YtndppbfdcceflaaRge
namespace Go.Proofs.Ytndppbfdcceflaa

open Go.RowKit

structure GC where
  kind : Int
  base : Int
  bits : Int
  rights : Int
  width : Int
  level : Int
  device : Bool
deriving DecidableEq
def GC.val (c : GC) : Value := .agg #[.int .i64 c.kind, .int .i64 c.base, .int .i64 c.bits, .int .i64 c.rights, .int .i64 c.width, .int .i64 c.level, .bool c.device]
def GC.cells (c : GC) : List Value := [.int .i64 c.kind, .int .i64 c.base, .int .i64 c.bits, .int .i64 c.rights, .int .i64 c.width, .int .i64 c.level, .bool c.device]
theorem GC.len (x : GC) : x.cells.length = 7 := rfl
theorem GC.one (x : GC) : ∀ u ∈ x.cells, u.oneCell' = true := by intro u hu; simp [GC.cells] at hu; rcases hu with rfl | rfl | rfl | rfl | rfl | rfl | rfl <;> rfl
def GC.rng (c : GC) : GR := ⟨c.base, c.bits⟩
def fixN (k : Int) : Int := if k = 3 then 12 else if k = 4 then 6 else if k = 5 then 10 else if k = 6 then 16 else 0
def sizB (k n : Int) : Bool := if k = 1 then decide (6 ≤ n) && decide (n ≤ 40) else if k = 2 then decide (12 ≤ n) && decide (n ≤ 40) else decide (3 ≤ k) && decide (k ≤ 6) && decide (n = fixN k)
def levB (w l : Int) : Bool := decide (0 ≤ l) && (decide (w = 32) && decide (l ≤ 1) || decide (w = 39) && decide (l ≤ 2))
def tabB (c : GC) : Bool := if c.kind = 3 then levB c.width c.level else decide (c.width = 0) && decide (c.level = 0)
def devB (c : GC) : Bool := !c.device || decide (c.kind = 1) || decide (c.kind = 2)
def vC (c : GC) : Bool := sizB c.kind c.bits && vR c.rng && decide (0 ≤ c.rights) && decide (c.rights ≤ 7) && tabB c && devB c
def sameO (a b : GC) : Bool := decide (a.kind = b.kind) && decide (a.base = b.base) && decide (a.bits = b.bits) && decide (a.width = b.width) && decide (a.level = b.level) && decide (a.device = b.device)
def coexB (a b : GC) : Bool := !ovR a.rng b.rng || sameO a b || (decide (a.kind = 1) && conR a.rng b.rng) || (decide (b.kind = 1) && conR b.rng a.rng)
def attC (c : GC) (m : Int) : GC := { c with rights := bits .and .i64 c.rights m }
/-- A block of the call's own that holds a capability. -/
def CB (W : World) (N : Nat) (c : GC) : Prop := W.heap[N]? = some (.cells #[.int .i64 c.kind, .int .i64 c.base, .int .i64 c.bits, .int .i64 c.rights, .int .i64 c.width, .int .i64 c.level, .bool c.device] 28 (0, 0))
theorem CB.lt {W : World} {N : Nat} {c : GC} (h : CB W N c) : N < W.heap.size := by
  rcases Nat.lt_or_ge N W.heap.size with h1 | h1
  · exact h1
  · unfold CB at h; rw [Array.getElem?_eq_none h1] at h; cases h
theorem CB.next {W W' : World} {N : Nat} {c : GC} (h : CB W N c) (hb : Below W.heap.size W W') : CB W' N c := (hb.block N h.lt).trans h
theorem CB.new (w : World) (c : GC) : CB (w.alloc (.cells #[.int .i64 c.kind, .int .i64 c.base, .int .i64 c.bits, .int .i64 c.rights, .int .i64 c.width, .int .i64 c.level, .bool c.device] 28)) w.heap.size c := heap_alloc_new w _
structure CBF (W : World) (N : Nat) (c : GC) : Prop where
  c0 : W.cell? ⟨N, 0, none⟩ = some (.int .i64 c.kind)
  c1 : W.cell? ⟨N, 1, none⟩ = some (.int .i64 c.base)
  c2 : W.cell? ⟨N, 2, none⟩ = some (.int .i64 c.bits)
  c3 : W.cell? ⟨N, 3, none⟩ = some (.int .i64 c.rights)
  c4 : W.cell? ⟨N, 4, none⟩ = some (.int .i64 c.width)
  c5 : W.cell? ⟨N, 5, none⟩ = some (.int .i64 c.level)
  c6 : W.cell? ⟨N, 6, none⟩ = some (.bool c.device)
theorem CB.cells {W : World} {N : Nat} {c : GC} (h : CB W N c) : CBF W N c := by
  unfold CB at h
  exact ⟨by rw [Lib.cell_of_heap h]; rfl, by rw [Lib.cell_of_heap h]; rfl, by rw [Lib.cell_of_heap h]; rfl, by rw [Lib.cell_of_heap h]; rfl, by rw [Lib.cell_of_heap h]; rfl, by rw [Lib.cell_of_heap h]; rfl, by rw [Lib.cell_of_heap h]; rfl⟩
theorem CB.frz {W : World} {N : Nat} {c : GC} (h : CB W N c) (j : Nat) : W.frozen? ⟨N, j, none⟩ = false := Lib.frozen_of_heap h j
end Go.Proofs.Ytndppbfdcceflaa
