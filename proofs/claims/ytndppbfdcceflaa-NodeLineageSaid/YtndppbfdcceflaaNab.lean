/-
  Nodes in plain words; boxes that hold a node; the reference's comparison and copy of nodes.
  Conditions: none.
-/
import Derived.Test.YtndppbfdcceflaaNaa
import Derived.Test.YtndppbfdcceflaaCea
namespace Go.Proofs.Ytndppbfdcceflaa

open Go.RowKit

structure GN where
  id : GId
  path : List GId
  cap : GC
deriving DecidableEq
/-- The value of a node whose path lies at A. -/
def GN.val (x : GN) (A : Option Addr) (c : Nat) : Value := .agg #[.int .i64 x.id.core, .int .i64 x.id.op, .int .i64 x.id.part, .slice A x.path.length c, .int .i64 x.cap.kind, .int .i64 x.cap.base, .int .i64 x.cap.bits, .int .i64 x.cap.rights, .int .i64 x.cap.width, .int .i64 x.cap.level, .bool x.cap.device]
abbrev PRow (w : World) (B : Nat) (A : Option Addr) (xs : List GId) : Prop := GRow GId.cells 3 w B A xs
/-- A block of the call's own that holds a node whose path, n Ids, lies at A. -/
def NB (W : World) (N : Nat) (i : GId) (A : Option Addr) (n c : Nat) (p : GC) : Prop := W.heap[N]? = some (.cells #[.int .i64 i.core, .int .i64 i.op, .int .i64 i.part, .slice A n c, .int .i64 p.kind, .int .i64 p.base, .int .i64 p.bits, .int .i64 p.rights, .int .i64 p.width, .int .i64 p.level, .bool p.device] 30 (0, 0))
theorem NB.lt {W : World} {N : Nat} {i : GId} {A : Option Addr} {n c : Nat} {p : GC} (h : NB W N i A n c p) : N < W.heap.size := by
  rcases Nat.lt_or_ge N W.heap.size with h1 | h1
  · exact h1
  · unfold NB at h; rw [Array.getElem?_eq_none h1] at h; cases h
theorem NB.next {W W' : World} {N : Nat} {i : GId} {A : Option Addr} {n c : Nat} {p : GC} (h : NB W N i A n c p) (hb : Below W.heap.size W W') : NB W' N i A n c p := (hb.block N h.lt).trans h
theorem NB.new (w : World) (i : GId) (A : Option Addr) (n c : Nat) (p : GC) : NB (w.alloc (.cells #[.int .i64 i.core, .int .i64 i.op, .int .i64 i.part, .slice A n c, .int .i64 p.kind, .int .i64 p.base, .int .i64 p.bits, .int .i64 p.rights, .int .i64 p.width, .int .i64 p.level, .bool p.device] 30)) w.heap.size i A n c p := heap_alloc_new w _
structure NBF (W : World) (N : Nat) (i : GId) (A : Option Addr) (n c : Nat) (p : GC) : Prop where
  c0 : W.cell? ⟨N, 0, none⟩ = some (.int .i64 i.core)
  c1 : W.cell? ⟨N, 1, none⟩ = some (.int .i64 i.op)
  c2 : W.cell? ⟨N, 2, none⟩ = some (.int .i64 i.part)
  c3 : W.cell? ⟨N, 3, none⟩ = some (.slice A n c)
  c4 : W.cell? ⟨N, 4, none⟩ = some (.int .i64 p.kind)
  c5 : W.cell? ⟨N, 5, none⟩ = some (.int .i64 p.base)
  c6 : W.cell? ⟨N, 6, none⟩ = some (.int .i64 p.bits)
  c7 : W.cell? ⟨N, 7, none⟩ = some (.int .i64 p.rights)
  c8 : W.cell? ⟨N, 8, none⟩ = some (.int .i64 p.width)
  c9 : W.cell? ⟨N, 9, none⟩ = some (.int .i64 p.level)
  c10 : W.cell? ⟨N, 10, none⟩ = some (.bool p.device)
theorem NB.cells {W : World} {N : Nat} {i : GId} {A : Option Addr} {n c : Nat} {p : GC} (h : NB W N i A n c p) : NBF W N i A n c p := by
  unfold NB at h
  exact ⟨by rw [Lib.cell_of_heap h]; rfl, by rw [Lib.cell_of_heap h]; rfl, by rw [Lib.cell_of_heap h]; rfl, by rw [Lib.cell_of_heap h]; rfl, by rw [Lib.cell_of_heap h]; rfl, by rw [Lib.cell_of_heap h]; rfl, by rw [Lib.cell_of_heap h]; rfl, by rw [Lib.cell_of_heap h]; rfl, by rw [Lib.cell_of_heap h]; rfl, by rw [Lib.cell_of_heap h]; rfl, by rw [Lib.cell_of_heap h]; rfl⟩
theorem NB.frz {W : World} {N : Nat} {i : GId} {A : Option Addr} {n c : Nat} {p : GC} (h : NB W N i A n c p) (j : Nat) : W.frozen? ⟨N, j, none⟩ = false := Lib.frozen_of_heap h j
theorem gn_dec (a b : GN) : decide (a = b) = (eqI a.id b.id && eqC a.cap b.cap && decide (a.path = b.path)) := by
  rw [Bool.eq_iff_iff]
  simp only [decide_eq_true_eq, Bool.and_eq_true, eqI_iff, eqC_iff]
  cases a; cases b
  simp only [GN.mk.injEq]
  exact ⟨fun h => ⟨⟨h.1, h.2.2⟩, h.2.1⟩, fun h => ⟨h.1.1, h.2, h.1.2⟩⟩
theorem OwnG.setOther {α : Type} {enc : α → List Value} {T : TypeId} {k : Nat} {W : World} {base : Nat} {v : Value} {xs : List α} (h : OwnG enc T k W base v xs) {g0 : Nat} (hg0 : g0 < base) (j : Nat) (u : Value) : OwnG enc T k (W.setCell ⟨g0, j, none⟩ u) base v xs :=
  h.keep fun g hg => Below.heap_setCell W ⟨g0, j, none⟩ u g (by have := (h.lt g hg).1; show g ≠ g0; omega)
theorem OwnG.rowAt {α : Type} {enc : α → List Value} {T : TypeId} {k : Nat} (hk : ∀ x, (enc x).length = k) {W : World} {base n c : Nat} {A : Option Addr} {xs : List α} (h : OwnG enc T k W base (.slice A n c) xs) : n = xs.length ∧ GRow enc k W W.heap.size A xs := by
  obtain ⟨A', c', e, _, _, hr⟩ := h.row hk
  injection e with e1 e2 e3
  subst e1 e2 e3
  exact ⟨rfl, hr⟩
/-- A copy: the same node, its path in memory of the call's own. -/
def CpyEnd (x : GN) (w : World) (e : Ending) (w' : World) : Prop := ∃ A c, e = .returned (x.val A c) ∧ x.path.length ≤ c ∧ PRow w' w'.heap.size A x.path ∧ Below w.heap.size w w'
end Go.Proofs.Ytndppbfdcceflaa
