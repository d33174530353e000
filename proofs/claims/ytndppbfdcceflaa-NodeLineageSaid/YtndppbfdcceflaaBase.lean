/-
  Words for memory that the proofs of layer 1 share: a slice that reads as a row of values, a slice that reads as a list of bytes; how they are kept.
  Conditions: none beyond what each theorem says.
-/
import Derived.Test.YtndppbfdcceflaaProg
import Derived.WalkKit
import Derived.Handy
import Derived.Below
import Derived.Lib.Hide
import Derived.Deep.Draws
import Derived.Deep.AppendLies
import Derived.Maps.AppendAt
import Derived.Laws.CopyOwn
import Derived.WalkLawsBesides
namespace Go.Proofs.Ytndppbfdcceflaa

open Go.RowKit

/-- Byte j of a list, 0 behind its end. -/
def bt (l : List UInt8) (j : Nat) : Nat := (l.getD j 0).toNat
def byV (l : List UInt8) (j : Nat) : Value := .int .u8 (bt l j : Int)
def vals (l : List UInt8) : List Value := l.map fun c => .int .u8 (c.toNat : Int)
theorem bt_lt (l : List UInt8) (j : Nat) : bt l j < 256 := (l.getD j 0).toNat_lt

/-- The slice value with address A and n elements, one cell each, holds f 0 .. f (n - 1) and lies below block B. -/
def Row (w : World) (B : Nat) (A : Option Addr) (n : Nat) (f : Nat → Value) : Prop :=
  0 < n → ∃ b off, A = some ⟨b, off, none⟩ ∧ b < B ∧ ∀ j, j < n → w.cell? ⟨b, off + j, none⟩ = some (f j)
/-- The same for bytes. -/
def Byt (w : World) (B : Nat) (A : Option Addr) (n : Nat) (l : List UInt8) : Prop := l.length = n ∧ Row w B A n (byV l)

section

variable {w w' : World} {B B' n : Nat} {A : Option Addr} {f : Nat → Value} {l : List UInt8}

theorem Row.keep (h : Row w B A n f) (hk : ∀ p : Addr, p.block < B → w'.cell? p = w.cell? p) : Row w' B A n f := fun hn => by
  obtain ⟨b, off, e, hb, hc⟩ := h hn
  exact ⟨b, off, e, hb, fun j hj => (hk ⟨b, off + j, none⟩ hb).trans (hc j hj)⟩
theorem Row.wide (h : Row w B A n f) (hB : B ≤ B') : Row w B' A n f := fun hn => by
  obtain ⟨b, off, e, hb, hc⟩ := h hn
  exact ⟨b, off, e, by omega, hc⟩
theorem Row.below (h : Row w B A n f) (hb : Below B w w') : Row w' B A n f := h.keep fun _ hp => hb.cell hp
theorem Row.at_ (h : Row w B A n f) (hn : 0 < n) : ∃ b off, A = some ⟨b, off, none⟩ ∧ b < B ∧ ∀ j, j < n → w.cell? ⟨b, off + j, none⟩ = some (f j) := h hn
theorem Byt.below (h : Byt w B A n l) (hb : Below B w w') : Byt w' B A n l := ⟨h.1, h.2.below hb⟩
theorem Byt.wide (h : Byt w B A n l) (hB : B ≤ B') : Byt w B' A n l := ⟨h.1, h.2.wide hB⟩
theorem Byt.nil : Byt w B A 0 [] := ⟨rfl, fun h => absurd h (by omega)⟩
/-- Where there is an element the address is a plain one, and each byte is at hand. -/
theorem Byt.at_ (h : Byt w B A n l) (hn : 0 < n) : ∃ b off, A = some ⟨b, off, none⟩ ∧ b < B ∧ ∀ j, j < n → w.cell? ⟨b, off + j, none⟩ = some (.int .u8 (bt l j : Int)) := h.2 hn
end

/-- Where the cut s[k:] of a slice begins: at the capacity the old address is kept. -/
def cutA (a : Option Addr) (cap k : Nat) : Option Addr := if cap = k then a else a.map (·.add k)
theorem byte_size : (Try.prog.info? 5).map (·.size) = some 1 := by kernel_rfl
theorem byte_elem : Try.prog.underlying 39 = some (.slice (Try.prog.elem 39)) := by kernel_rfl
theorem run_byteSize (W : World) : (sizeOf (Try.prog.elem 39)).run Try.prog W = .ok 1 W := by kernel_rfl
theorem cut_from (a : Option Addr) (len cap k : Nat) (h : k ≤ len) (W : World) :
    (Instr.sliceAt 39 (.slice a len cap) (some (.int .i64 (k : Int))) none none).run Try.prog W = .ok (.slice (cutA a cap k) (len - k) (cap - k)) W := by
  rw [run_sliceAt_slice _ _ _ _ _ _ byte_elem, run_slice_l _ _ _ _ _ byte_elem .i64 (k : Int) (by omega) (by omega), run_byteSize]
  simp [Result.andThen, sliced, cutA]
theorem cut_to (a : Option Addr) (len cap k : Nat) (h : k ≤ cap) (W : World) :
    (Instr.sliceAt 39 (.slice a len cap) none (some (.int .i64 (k : Int))) none).run Try.prog W = .ok (.slice a k cap) W := by
  rw [run_sliceAt_slice _ _ _ _ _ _ byte_elem, run_slice_h _ _ _ _ _ byte_elem .i64 (k : Int) (by omega) (by omega), run_byteSize]
  cases a <;> simp [Result.andThen, sliced, Addr.add]
theorem cut_both (a : Option Addr) (len cap j k : Nat) (hjk : j ≤ k) (h : k ≤ cap) (W : World) :
    (Instr.sliceAt 39 (.slice a len cap) (some (.int .i64 (j : Int))) (some (.int .i64 (k : Int))) none).run Try.prog W = .ok (.slice (cutA a cap j) (k - j) (cap - j)) W := by
  rw [run_sliceAt_slice _ _ _ _ _ _ byte_elem, run_slice_lh _ _ _ _ _ byte_elem .i64 .i64 (j : Int) (k : Int) (by omega) (by omega) (by omega), run_byteSize]
  simp [Result.andThen, sliced, cutA]
theorem cutA_at (b off cap k : Nat) (h : k < cap) : cutA (some ⟨b, off, none⟩) cap k = some ⟨b, off + k, none⟩ := by
  unfold cutA; rw [if_neg (by omega)]
  simp only [Option.map_some, Addr.add]
  split
  · subst_vars; rfl
  · rfl
theorem bt_drop (l : List UInt8) (k j : Nat) : bt (l.drop k) j = bt l (k + j) := by
  unfold bt; rw [List.getD_eq_getElem?_getD, List.getD_eq_getElem?_getD, List.getElem?_drop]
theorem bt_take (l : List UInt8) (k j : Nat) (h : j < k) : bt (l.take k) j = bt l j := by
  unfold bt; rw [List.getD_eq_getElem?_getD, List.getD_eq_getElem?_getD, List.getElem?_take, if_pos h]
/-- A part of a slice reads as the part of its list. -/
theorem Byt.cut {w : World} {B n j k cap : Nat} {A : Option Addr} {l : List UInt8} (h : Byt w B A n l) (hjk : j ≤ k) (hk : k ≤ n) (hc : n ≤ cap) : Byt w B (cutA A cap j) (k - j) ((l.take k).drop j) := by
  refine ⟨by rw [List.length_drop, List.length_take, h.1]; omega, fun h0 => ?_⟩
  obtain ⟨b, off, rfl, hb, hcell⟩ := h.2 (by omega)
  refine ⟨b, off + j, cutA_at b off cap j (by omega), hb, fun i hi => ?_⟩
  rw [Nat.add_assoc, hcell (j + i) (by omega)]
  unfold byV; rw [bt_drop, bt_take _ _ _ (by omega)]
theorem Byt.to {w : World} {B n k : Nat} {A : Option Addr} {l : List UInt8} (h : Byt w B A n l) (hk : k ≤ n) : Byt w B A k (l.take k) := by
  refine ⟨by rw [List.length_take, h.1]; omega, fun h0 => ?_⟩
  obtain ⟨b, off, rfl, hb, hcell⟩ := h.2 (by omega)
  refine ⟨b, off, rfl, hb, fun i hi => ?_⟩
  rw [hcell i (by omega)]; unfold byV; rw [bt_take _ _ _ hi]

/-- Block g is just the cells cs, of element type t, none of them frozen. -/
def RowT (w : World) (g : Nat) (t : TypeId) (cs : List Value) : Prop := w.heap[g]? = some (.cells cs.toArray t (0, 0))
section

variable {w w' : World} {g : Nat} {t : TypeId} {cs : List Value}

theorem RowT.cell (h : RowT w g t cs) (i : Nat) : w.cell? ⟨g, i, none⟩ = cs[i]? := by
  rw [cell_of_row w g i _ _ _ h]; simp
theorem RowT.frozen (h : RowT w g t cs) (i : Nat) : w.frozen? ⟨g, i, none⟩ = false := by
  unfold RowT at h; simp [World.frozen?, h]
theorem RowT.lt (h : RowT w g t cs) : g < w.heap.size := by
  rcases Nat.lt_or_ge g w.heap.size with hlt | hge
  · exact hlt
  · unfold RowT at h; rw [Array.getElem?_eq_none hge] at h; cases h
theorem RowT.set_ (h : RowT w g t cs) (i : Nat) (u : Value) : RowT (w.setCell ⟨g, i, none⟩ u) g t (cs.set i u) := by
  unfold RowT at h ⊢
  simp [World.setCell, Array.getElem?_modify, h]
theorem RowT.below {B : Nat} (h : RowT w g t cs) (hb : Below B w w') (hg : g < B) : RowT w' g t cs := (hb.block g hg).trans h
theorem RowT.new (w : World) (t : TypeId) (cs : List Value) : RowT (w.alloc (.cells cs.toArray t)) w.heap.size t cs := heap_alloc_new w _
end

end Go.Proofs.Ytndppbfdcceflaa
