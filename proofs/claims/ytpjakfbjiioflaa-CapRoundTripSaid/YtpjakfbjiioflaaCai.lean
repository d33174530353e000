/-
  Encoding and decoding of capabilities, plain; rights as bit strings.
  Conditions: none.
-/
import Derived.Test.YtpjakfbjiioflaaCah
namespace Go.Proofs.Ytpjakfbjiioflaa

open Go.RowKit

theorem enc_len (c : GC) : (encC c).length = 10 := rfl
theorem bI_u8 (n : Int) : (((u8 n).toNat : Nat) : Int) = n % 256 := u8_val n
theorem raw_enc {c : GC} (h : vC c = true) : rawC (encC c) = c ∧ bI (encC c) 2 < 16 := by
  obtain ⟨hv, n0, n1, k0, k1, r0, r1, d0, d1, l0, l1⟩ := vC_facts h
  have hb0 := hv.b0
  have htp := hv.top
  have hsp := sz_pos c.rng
  obtain ⟨k, b, n, r, wd, l, d⟩ := c
  simp only [GC.rng] at hb0 htp hsp
  have e0 : bI (encC ⟨k, b, n, r, wd, l, d⟩) 0 = k % 256 := u8_val k
  have e1 : bI (encC ⟨k, b, n, r, wd, l, d⟩) 1 = n % 256 := u8_val n
  have e2 : bI (encC ⟨k, b, n, r, wd, l, d⟩) 2 = (if d = true then r + 8 else r) % 256 := u8_val _
  have e3 : bI (encC ⟨k, b, n, r, wd, l, d⟩) 3 = wd % 256 := u8_val wd
  have e4 : bI (encC ⟨k, b, n, r, wd, l, d⟩) 4 = l % 256 := u8_val l
  have e5 : bI (encC ⟨k, b, n, r, wd, l, d⟩) 5 = b % 256 := u8_val b
  have e6 : bI (encC ⟨k, b, n, r, wd, l, d⟩) 6 = b / 256 % 256 := u8_val _
  have e7 : bI (encC ⟨k, b, n, r, wd, l, d⟩) 7 = b / 65536 % 256 := u8_val _
  have e8 : bI (encC ⟨k, b, n, r, wd, l, d⟩) 8 = b / 16777216 % 256 := u8_val _
  have e9 : bI (encC ⟨k, b, n, r, wd, l, d⟩) 9 = b / 4294967296 % 256 := u8_val _
  have ep : pB (encC ⟨k, b, n, r, wd, l, d⟩) 5 = b := by
    show bI _ 5 + bI _ 6 * 256 + bI _ 7 * 65536 + bI _ 8 * 16777216 + bI _ 9 * 4294967296 = b
    rw [e5, e6, e7, e8, e9]
    omega
  unfold rawC
  rw [ep, e0, e1, e2, e3, e4]
  simp only at *
  cases d
  · simp only [Bool.false_eq_true, if_false]
    refine ⟨?_, by omega⟩
    rw [Int.emod_eq_of_lt (by omega) (by omega), Int.emod_eq_of_lt (show 0 ≤ n by omega) (by omega), Int.emod_eq_of_lt (show 0 ≤ r by omega) (by omega), Int.emod_eq_of_lt (show 0 ≤ wd by omega) (by omega), Int.emod_eq_of_lt (show 0 ≤ l by omega) (by omega), Int.emod_eq_of_lt (show 0 ≤ r by omega) (by omega), show decide (8 ≤ r) = false from decide_eq_false (by omega)]
  · simp only [if_true]
    refine ⟨?_, by omega⟩
    rw [Int.emod_eq_of_lt (by omega) (by omega), Int.emod_eq_of_lt (show 0 ≤ n by omega) (by omega), Int.emod_eq_of_lt (show 0 ≤ r + 8 by omega) (by omega), Int.emod_eq_of_lt (show 0 ≤ wd by omega) (by omega), Int.emod_eq_of_lt (show 0 ≤ l by omega) (by omega), show (r + 8) % 8 = r by omega, show decide (8 ≤ r + 8) = true from decide_eq_true (by omega)]
theorem dec_enc {c : GC} (h : vC c = true) : decC (encC c) = c ∧ decE (encC c) = 0 := by
  obtain ⟨e, h2⟩ := raw_enc h
  have hp : decP (encC c) := ⟨rfl, h2, by rw [e]; exact h⟩
  unfold decC decE
  rw [if_pos hp, if_pos hp]
  exact ⟨e, rfl⟩
theorem enc_dec {l : List UInt8} (h : decP l) : encC (rawC l) = l := by
  obtain ⟨h10, h2, _⟩ := h
  match l, h10 with
  | [a0, a1, a2, a3, a4, a5, a6, a7, a8, a9], _ =>
    have b : ∀ a : UInt8, 0 ≤ (a.toNat : Int) ∧ (a.toNat : Int) < 256 := fun a => by have := a.toNat_lt; omega
    have e0 : bI [a0, a1, a2, a3, a4, a5, a6, a7, a8, a9] 0 = a0.toNat := rfl
    have e1 : bI [a0, a1, a2, a3, a4, a5, a6, a7, a8, a9] 1 = a1.toNat := rfl
    have e2 : bI [a0, a1, a2, a3, a4, a5, a6, a7, a8, a9] 2 = a2.toNat := rfl
    have e3 : bI [a0, a1, a2, a3, a4, a5, a6, a7, a8, a9] 3 = a3.toNat := rfl
    have e4 : bI [a0, a1, a2, a3, a4, a5, a6, a7, a8, a9] 4 = a4.toNat := rfl
    have ep : pB [a0, a1, a2, a3, a4, a5, a6, a7, a8, a9] 5 = (a5.toNat : Int) + a6.toNat * 256 + a7.toNat * 65536 + a8.toNat * 16777216 + a9.toNat * 4294967296 := rfl
    rw [e2] at h2
    have p5 := b a5
    have p6 := b a6
    have p7 := b a7
    have p8 := b a8
    have p9 := b a9
    have p2 := b a2
    unfold encC headC baseC rawC
    simp only [e0, e1, e2, e3, e4, ep, u8_back]
    have key : ∀ (n : Int) (a : UInt8), n % 256 = (a.toNat : Int) → u8 n = a := fun n a hn => by
      apply UInt8.toNat_inj.1
      have := u8_val n
      omega
    generalize hS : (a5.toNat : Int) + a6.toNat * 256 + a7.toNat * 65536 + a8.toNat * 16777216 + a9.toNat * 4294967296 = S
    rw [key S a5 (by omega), key (S / 256) a6 (by omega), key (S / 65536) a7 (by omega), key (S / 16777216) a8 (by omega), key (S / 4294967296) a9 (by omega)]
    have hr : u8 (if decide (8 ≤ (a2.toNat : Int)) = true then (a2.toNat : Int) % 8 + 8 else (a2.toNat : Int) % 8) = a2 := by
      refine key _ a2 ?_
      split
      · rename_i h; have := of_decide_eq_true h; omega
      · rename_i h; have : ¬ 8 ≤ (a2.toNat : Int) := fun h' => h (decide_eq_true h'); omega
    rw [hr]
    rfl
end Go.Proofs.Ytpjakfbjiioflaa
