/-
  A retype split into retypes of one object. Plain mathematics.
  Conditions: none.
-/
import Derived.Test.YtpjakfbjiioflaaLca
namespace Go.Proofs.Ytpjakfbjiioflaa

open Go.RowKit

theorem split_none {s : GC} {obj n lev wid off cnt : Int} (h : retErr s obj n lev wid off cnt ≠ 0) : retL s obj n lev wid off cnt = [] := by
  unfold retL; rw [if_neg h]
theorem split_ok {s : GC} {obj n lev wid off cnt : Int} (h : retErr s obj n lev wid off cnt = 0) : 1 ≤ cnt ∧ cnt ≤ 8 ∧ 0 ≤ off ∧ off ≤ 1099511627776 ∧ 6 ≤ n ∧ n ≤ 40 ∧ ((retL s obj n lev wid off cnt).length : Int) = cnt ∧ retErr s obj n lev wid off 0 = 1 ∧
    ∀ (i : Nat) (hi : i < (retL s obj n lev wid off cnt).length), 0 ≤ (i : Int) * pw n ∧ (i : Int) * pw n ≤ 1099511627776 ∧ retErr s obj n lev wid (off + (i : Int) * pw n) 1 = 0 ∧ retL s obj n lev wid (off + (i : Int) * pw n) 1 = [(retL s obj n lev wid off cnt)[i]] := by
  obtain ⟨h1, h2, h3, h4, h5⟩ := ret_zero h
  have hsz := siz_bound h3.1
  obtain ⟨z1, z2, z3, z4, z5⟩ := h3
  obtain ⟨y1, y2, y3, y4⟩ := h5
  have hv := vC_facts h1.1
  have hpb : pw s.bits ≤ 1099511627776 := pw_top (by omega) (by omega)
  have hp := pw_pos n
  have hl : retL s obj n lev wid off cnt = (List.range cnt.toNat).map (retOne s obj n lev wid off) := by unfold retL; rw [if_pos h]
  have hlen : (retL s obj n lev wid off cnt).length = cnt.toNat := by rw [hl, List.length_map, List.length_range]
  refine ⟨z3, z4, z5, by omega, hsz.1, hsz.2, by omega, ?_, fun i hi => ?_⟩
  · unfold retErr
    rw [if_pos h1, if_neg h2, if_neg (fun hh => by have := hh.2.2.1; omega)]
  · have hi2 : i < cnt.toNat := by omega
    have i0 : 0 ≤ (i : Int) * pw n := Int.mul_nonneg (by omega) (by omega)
    have i1 : ((i : Int) + 1) * pw n ≤ cnt * pw n := Int.mul_le_mul_of_nonneg_right (by omega) (by omega)
    rw [Int.add_mul, Int.one_mul] at i1
    have e : retErr s obj n lev wid (off + (i : Int) * pw n) 1 = 0 := ret_mk h1 h2 ⟨z1, z2, by omega, by omega, by omega⟩ h4 ⟨by rw [Int.add_mul_emod_self_right]; exact y1, by omega, by rw [Int.one_mul]; omega, y4⟩
    refine ⟨i0, by omega, e, ?_⟩
    have e2 : (retL s obj n lev wid off cnt)[i] = retOne s obj n lev wid off i := by simp [hl]
    rw [e2]
    unfold retL
    rw [if_pos e]
    show [retOne s obj n lev wid (off + (i : Int) * pw n) 0] = _
    unfold retOne
    congr 2
    show s.base + (off + (i : Int) * pw n) + ((0 : Nat) : Int) * pw n = _
    rw [Int.natCast_zero, Int.zero_mul]; omega
end Go.Proofs.Ytpjakfbjiioflaa
