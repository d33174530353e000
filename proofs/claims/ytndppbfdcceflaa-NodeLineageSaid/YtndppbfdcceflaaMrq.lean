/-
  The program's functions on one or two ranges.
  Conditions: none.
-/
import Derived.Test.YtndppbfdcceflaaRge
import Derived.Test.YtndppbfdcceflaaGrow
import Derived.StillTailTactics
namespace Go.Proofs.Ytndppbfdcceflaa

open Go.RowKit

theorem nest' {a b : GR} (ha : VR a) (hb : VR b) (h1 : a.base < b.base + b.sz) (h2 : b.base < a.base + a.sz) : conR a b = true ∨ conR b a = true := by
  have ho : ovR a b = true := ov_iff.2 ⟨ha, hb, h1, h2⟩
  rcases Int.le_total a.bits b.bits with h | h
  · exact .inr (nest ho h)
  · exact .inl (nest (by rw [ov_comm]; exact ho) h)
set_option maxRecDepth 20000 in
theorem pValid_any (r : GR) (w : World) : Calls Try.prog 25 #[r.val] w fun e w' => e = .returned (.bool (vR r)) ∧ Below w.heap.size w w' := by
  by_cases h1 : r.bits < 6
  · have HR : Hid (vR r = false) := Lib.hid (vR_not.2 fun h => by have := h.lo; omega)
    generalize vR r = q at *
    obtain ⟨b, n⟩ := r
    simp only at h1
    unfold GR.val
    go_enter Try.func25, Try.ntmps25
    go_wp2
    go_ret
    exact ⟨congrArg (fun b => Ending.returned (Value.bool b)) HR.out.symm, (Below.refl _ _).alloc (Nat.le_refl _) _⟩
  by_cases h2 : 40 < r.bits
  · have HR : Hid (vR r = false) := Lib.hid (vR_not.2 fun h => by have := h.hi; omega)
    generalize vR r = q at *
    obtain ⟨b, n⟩ := r
    simp only at h1 h2
    unfold GR.val
    go_enter Try.func25, Try.ntmps25
    go_wp2
    go_ret
    exact ⟨congrArg (fun b => Ending.returned (Value.bool b)) HR.out.symm, (Below.refl _ _).alloc (Nat.le_refl _) _⟩
  have hsz := sz_pos r
  have hsl : r.sz ≤ 1099511627776 := by have h9 : r.sz ≤ pw 40 := pw_le (by omega) (by omega); have : pw 40 = 1099511627776 := by decide
                                        omega
  have hsh : IntKind.i64.wrap (2 ^ r.bits.toNat) = r.sz := shl_one (by omega) (by omega)
  by_cases h3 : r.base < 0
  · have HR : Hid (vR r = false) := Lib.hid (vR_not.2 fun h => by have := h.b0; omega)
    generalize vR r = q at *
    generalize r.sz = z at *
    obtain ⟨b, n⟩ := r
    simp only at h1 h2 h3 hsh
    unfold GR.val
    go_enter Try.func25, Try.ntmps25
    go_wp2
    go_ret
    exact ⟨congrArg (fun b => Ending.returned (Value.bool b)) HR.out.symm, (Below.refl _ _).alloc (Nat.le_refl _) _⟩
  have HR : Hid (vR r = (decide (r.base % r.sz = 0) && decide (r.base ≤ 1099511627776 - r.sz))) := Lib.hid (by
    rw [Bool.eq_iff_iff, vR_iff, Bool.and_eq_true, decide_eq_true_eq, decide_eq_true_eq]
    exact ⟨fun h => ⟨h.al, by have := h.top; omega⟩, fun h => ⟨by omega, by omega, by omega, h.1, by omega⟩⟩)
  generalize vR r = q at *
  generalize r.sz = z at *
  obtain ⟨b, n⟩ := r
  simp only at h1 h2 h3 HR hsh
  unfold GR.val
  go_enter Try.func25, Try.ntmps25
  go_wp2
  all_goals
    go_ret
    exact ⟨congrArg (fun b => Ending.returned (Value.bool b)) (by rw [HR.out]; simp [*]), (Below.refl _ _).alloc (Nat.le_refl _) _⟩
theorem ov_con (a b : GR) : ovR a b = (conR a b || conR b a) := by
  rw [Bool.eq_iff_iff, Bool.or_eq_true]
  constructor
  · intro h
    have h' := ov_iff.1 h
    exact nest' h'.1 h'.2.1 h'.2.2.1 h'.2.2.2
  · rintro (h | h)
    · exact con_ov h
    · rw [ov_comm]; exact con_ov h
end Go.Proofs.Ytndppbfdcceflaa
