/-
  The makers of ranges and capabilities out of numbers.
  Conditions: none beyond what each theorem says.
-/
import Derived.Test.YtndppbfdcceflaaCae
import Derived.Test.YtndppbfdcceflaaGrs
import Derived.Deep.CutBlock
import Derived.Lib.SmallJoins
import Derived.Deep.DeepCutAuto
namespace Go.Proofs.Ytndppbfdcceflaa

open Go.RowKit

def zR : GR := ⟨0, 0⟩
/-- A block of the call's own that holds a range. -/
def RB (W : World) (N : Nat) (r : GR) : Prop := W.heap[N]? = some (.cells #[.int .i64 r.base, .int .i64 r.bits] 57 (0, 0))
theorem RB.lt {W : World} {N : Nat} {r : GR} (h : RB W N r) : N < W.heap.size := by
  rcases Nat.lt_or_ge N W.heap.size with h1 | h1
  · exact h1
  · unfold RB at h; rw [Array.getElem?_eq_none h1] at h; cases h
theorem RB.next {W W' : World} {N : Nat} {r : GR} (h : RB W N r) (hb : Below W.heap.size W W') : RB W' N r := (hb.block N h.lt).trans h
theorem RB.facts {W : World} {N : Nat} {r : GR} (h : RB W N r) : W.cell? ⟨N, 0, none⟩ = some (.int .i64 r.base) ∧ W.cell? ⟨N, 1, none⟩ = some (.int .i64 r.bits) ∧ W.frozen? ⟨N, 0, none⟩ = false ∧ W.frozen? ⟨N, 1, none⟩ = false := by
  unfold RB at h
  exact ⟨by rw [Lib.cell_of_heap h]; rfl, by rw [Lib.cell_of_heap h]; rfl, Lib.frozen_of_heap h 0, Lib.frozen_of_heap h 1⟩
theorem RB.new (w : World) (r : GR) : RB (w.alloc (.cells #[.int .i64 r.base, .int .i64 r.bits] 57)) w.heap.size r := heap_alloc_new w _
theorem mPlace_any (v n : Int) (hn : 1 ≤ n) (hn2 : n ≤ 4611686018427387904) (w : World) :
    Calls Try.prog 23 #[.int .i64 v, .int .i64 n] w fun e w' => ∃ p : Int, 0 ≤ p ∧ p < n ∧ e = .returned (.int .i64 p) ∧ w = w' := by
  have hb1 : v.tmod n < n := Int.tmod_lt_of_pos v (by omega)
  have hb2 : -n < v.tmod n := Int.lt_tmod_of_pos v (by omega)
  have hnz : ¬ n = 0 := by omega
  go_enter Try.func23, Try.ntmps23
  go_wp2
  all_goals go_ret
  · exact ⟨_, by omega, by omega, rfl, rfl⟩
  · exact ⟨_, by omega, by omega, rfl, rfl⟩
theorem pw_top {n : Int} (h0 : 0 ≤ n) (h1 : n ≤ 40) : pw n ≤ 1099511627776 := by
  have h2 := pw_le h1 h0
  have h3 : pw 40 = 1099511627776 := by decide
  omega
theorem mk_VR {k t p : Int} (h6 : 6 ≤ k) (hkt : k ≤ t) (ht : t ≤ 40) (h0 : 0 ≤ p) (hp : p < pw (t - k)) : VR ⟨p * pw k, k⟩ ∧ p * pw k + pw k ≤ pw t := by
  have hs := pw_pos k
  have e : pw t = pw (t - k) * pw k := by
    unfold pw
    rw [← Int.pow_add, show (t - k).toNat + k.toNat = t.toNat by omega]
  have h1 := Int.mul_le_mul_of_nonneg_right (show p + 1 ≤ pw (t - k) by omega) (Int.le_of_lt hs)
  rw [Int.add_mul, Int.one_mul, ← e] at h1
  have h2 : pw t ≤ pw 40 := pw_le ht (by omega)
  have h3 : pw 40 = 1099511627776 := by decide
  have h4 := Int.mul_nonneg h0 (Int.le_of_lt hs)
  exact ⟨⟨h6, by simp only; omega, h4, Int.mul_emod_left _ _, by show p * pw k + pw k ≤ _; omega⟩, h1⟩
theorem shl_p {k p : Int} (h0 : 0 ≤ p * pw k) (h1 : p * pw k ≤ 1099511627776) : wrap64 (p * 2 ^ k.toNat) = p * pw k := IntWalk.wrap64_in _ (by unfold pw at *; omega)
/-- What the maker has made of a capability before its place: all but the base. -/
structure MadeC (c : GC) : Prop where
  b0 : c.base = 0
  n1 : c.bits ≤ 20
  sz : sizB c.kind c.bits = true
  r0 : 0 ≤ c.rights
  r1 : c.rights ≤ 7
  tb : tabB c = true
  dv : devB c = true
theorem siz_bound' {k n : Int} (h : sizB k n = true) : 6 ≤ n ∧ n ≤ 40 := by
  unfold sizB at h
  split at h
  · simp at h; omega
  · split at h
    · simp at h; omega
    · simp at h
      have := h.2
      unfold fixN at this
      split at this
      · omega
      · split at this
        · omega
        · split at this
          · omega
          · split at this <;> omega
theorem CB.setBase {W : World} {N : Nat} {c : GC} (h : CB W N c) (x : Int) : CB (W.setCell ⟨N, 1, none⟩ (.int .i64 x)) N { c with base := x } := by
  unfold CB at *
  rw [Joins.block_setCell h]; rfl
theorem CB.other {W : World} {M N j : Nat} {v : Value} {c : GC} (h : CB W M c) (hne : M ≠ N) : CB (W.setCell ⟨N, j, none⟩ v) M c := (Below.heap_setCell W ⟨N, j, none⟩ v M hne).trans h
end Go.Proofs.Ytndppbfdcceflaa
