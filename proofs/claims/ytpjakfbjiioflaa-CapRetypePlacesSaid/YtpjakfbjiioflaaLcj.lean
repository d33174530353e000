/-
  The places of a retype's objects. Plain mathematics.
  Conditions: as each theorem says.
-/
import Derived.Test.YtpjakfbjiioflaaLch
import Derived.Test.YtpjakfbjiioflaaLcg
namespace Go.Proofs.Ytpjakfbjiioflaa

open Go.RowKit

def plK (a s : Int) : Int := if a = 0 then 6 + s else if a = 1 then 12 else if a = 2 then 12 else if a = 3 then 6 else if a = 4 then 10 else 16
theorem plK_ok {a s : Int} (ha : 0 ≤ a ∧ a < 6) (hs : 0 ≤ s ∧ s < 11) : sizB (1 + a) (plK a s) = true ∧ 6 ≤ plK a s ∧ plK a s ≤ 16 := by
  have : ∀ a : Fin 6, ∀ s : Fin 11, sizB (1 + (a.val : Int)) (plK a.val s.val) = true ∧ 6 ≤ plK (a.val : Int) s.val ∧ plK (a.val : Int) s.val ≤ 16 := by decide +kernel
  have h := this ⟨a.toNat, by omega⟩ ⟨s.toNat, by omega⟩
  simp only at h
  rwa [Int.toNat_of_nonneg ha.1, Int.toNat_of_nonneg hs.1] at h
theorem pl_rights : ∀ p : Fin 8, bits .and .i64 (bits .or .i64 (p.val : Int) 2) 2 ≠ 0 ∧ 0 ≤ bits .or .i64 (p.val : Int) 2 ∧ bits .or .i64 (p.val : Int) 2 ≤ 7 := by decide +kernel
theorem pl_src {b n r : Int} (hv : VR ⟨b, n⟩) (hr : 0 ≤ r ∧ r ≤ 7) : vC ⟨1, b, n, r, 0, 0, false⟩ = true := by
  have h1 := hv.lo
  have h2 := hv.hi
  simp only at h1 h2
  have hs : sizB 1 n = true := by simp [sizB]; omega
  have hg : vR (GC.rng ⟨1, b, n, r, 0, 0, false⟩) = true := vR_iff.2 hv
  unfold vC
  rw [hg]
  simp [hs, tabB, devB, hr.1, hr.2]
theorem pl_err {b n r o k at_ cnt : Int} (hv : VR ⟨b, n⟩) (hr : 0 ≤ r ∧ r ≤ 7) (hr2 : bits .and .i64 r 2 ≠ 0) (hk : sizB o k = true) (hc : 1 ≤ cnt ∧ cnt ≤ 8) (h0 : 0 ≤ at_) (ha : at_ % pw k = 0) :
    retErr ⟨1, b, n, r, 0, 0, false⟩ o k 1 39 at_ cnt = if at_ + cnt * pw k ≤ pw n ∧ ¬ (o = 1 ∧ n ≤ k) then 0 else 6 := by
  have hp := pw_pos k
  have hck : 1 * pw k ≤ cnt * pw k := Int.mul_le_mul_of_nonneg_right (by omega) (by omega)
  have h1 : RC1 ⟨1, b, n, r, 0, 0, false⟩ := ⟨pl_src hv hr, rfl⟩
  have h3 : RC3 o k 1 39 at_ cnt := ⟨hk, fun _ => by decide, hc.1, hc.2, h0⟩
  have h4 : RC4 ⟨1, b, n, r, 0, 0, false⟩ o := fun h => by cases h
  unfold retErr
  rw [if_pos h1, if_neg hr2, if_pos h3, if_pos h4]
  have h5 : RC5 ⟨1, b, n, r, 0, 0, false⟩ o k at_ cnt ↔ (at_ + cnt * pw k ≤ pw n ∧ ¬ (o = 1 ∧ n ≤ k)) := by
    unfold RC5
    simp only
    constructor
    · rintro ⟨_, _, y3, y4⟩
      exact ⟨by omega, fun hh => by have := y4 hh.1; omega⟩
    · rintro ⟨y1, y2⟩
      exact ⟨ha, by omega, by omega, fun hh => by
        rcases Int.lt_or_le k n with h9 | h9
        · exact h9
        · exact absurd ⟨hh, h9⟩ y2⟩
  by_cases hh : at_ + cnt * pw k ≤ pw n ∧ ¬ (o = 1 ∧ n ≤ k)
  · rw [if_pos hh, if_pos (h5.2 hh)]
  · rw [if_neg hh, if_neg (fun h => hh (h5.1 h))]
/-- One object of a retype that fits. -/
def plO (b r o k at_ : Int) (i : Nat) : GC := ⟨o, b + at_ + (i : Int) * pw k, k, r, if o = 3 then 39 else 0, if o = 3 then 1 else 0, false⟩
theorem pl_list {b n r o k at_ cnt : Int} (h : retErr ⟨1, b, n, r, 0, 0, false⟩ o k 1 39 at_ cnt = 0) : retL ⟨1, b, n, r, 0, 0, false⟩ o k 1 39 at_ cnt = (List.range cnt.toNat).map (plO b r o k at_) := by
  unfold retL; rw [if_pos h]; rfl
theorem pl_one {b n r o k at_ cnt : Int} (hv : VR ⟨b, n⟩) (hn : n ≤ 16) (hr : 0 ≤ r ∧ r ≤ 7) (hk : sizB o k = true) (hk6 : 6 ≤ k) (h0 : 0 ≤ at_) (ha : at_ % pw k = 0) (hf : at_ + cnt * pw k ≤ pw n) (i : Nat) (hi : (i : Int) < cnt) :
    vC (plO b r o k at_ i) = true ∧ coexB ⟨1, b, n, r, 0, 0, false⟩ (plO b r o k at_ i) = true ∧ coexB (plO b r o k at_ i) ⟨1, b, n, r, 0, 0, false⟩ = true ∧ (∀ j : Nat, j + 1 = i → ovR (plO b r o k at_ j).rng (plO b r o k at_ i).rng = false) := by
  have hp := pw_pos k
  have i0 : 0 ≤ (i : Int) * pw k := Int.mul_nonneg (by omega) (by omega)
  have i1 : ((i : Int) + 1) * pw k ≤ cnt * pw k := Int.mul_le_mul_of_nonneg_right (by omega) (by omega)
  rw [Int.add_mul, Int.one_mul] at i1
  have hkn : k ≤ n := by
    rcases Int.lt_or_le n k with h | h
    · have := pw_lt h (by have := hv.lo; simp only at this; omega)
      omega
    · exact h
  obtain ⟨q, hq0, hq⟩ := pw_dvd hkn (by omega)
  have hb0 := hv.b0
  have hal : b % pw n = 0 := hv.al
  have htop : b + pw n ≤ 1099511627776 := hv.top
  simp only at hb0
  have hbk : (b + at_ + (i : Int) * pw k) % pw k = 0 := by
    rw [Int.add_mul_emod_self_right]
    have h1 : pw k ∣ b := Int.dvd_trans ⟨q, by rw [hq, Int.mul_comm]⟩ (Int.dvd_of_emod_eq_zero hal)
    have h2 : pw k ∣ at_ := Int.dvd_of_emod_eq_zero ha
    exact Int.emod_eq_zero_of_dvd (Int.dvd_add h1 h2)
  have hvr : VR ⟨b + at_ + (i : Int) * pw k, k⟩ := ⟨hk6, by show k ≤ 40; omega, by show 0 ≤ b + at_ + (i : Int) * pw k; omega, hbk, by show b + at_ + (i : Int) * pw k + pw k ≤ 1099511627776; omega⟩
  have hvc : vC (plO b r o k at_ i) = true := by
    have hg : vR (plO b r o k at_ i).rng = true := vR_iff.2 hvr
    unfold vC
    rw [hg]
    unfold plO
    by_cases h3 : o = 3
    · subst h3
      have : levB 39 1 = true := by decide
      simp [hk, tabB, devB, hr.1, hr.2, this]
    · simp [hk, tabB, devB, hr.1, hr.2, h3]
  have hcon : conR (GC.rng ⟨1, b, n, r, 0, 0, false⟩) (plO b r o k at_ i).rng = true := con_iff.2 ⟨hv, hvr, by show b ≤ b + at_ + (i : Int) * pw k; omega, by show b + at_ + (i : Int) * pw k + pw k ≤ b + pw n; omega⟩
  have hco : coexB ⟨1, b, n, r, 0, 0, false⟩ (plO b r o k at_ i) = true := by
    unfold coexB
    rw [hcon]
    simp
  refine ⟨hvc, hco, by rw [coex_comm]; exact hco, fun j hj => ?_⟩
  cases ho : ovR (plO b r o k at_ j).rng (plO b r o k at_ i).rng with
  | false => rfl
  | true =>
    exfalso
    have h4 : b + at_ + (i : Int) * pw k < b + at_ + (j : Int) * pw k + pw k := (ov_iff.1 ho).2.2.2
    have h5 : (i : Int) = (j : Int) + 1 := by omega
    rw [h5, Int.add_mul, Int.one_mul] at h4
    omega
end Go.Proofs.Ytpjakfbjiioflaa
