/-
  The walk of the law BinencBurst: it returns true and turns nothing that was there.
  Conditions: the argument reads as a list of bytes.
-/
import Derived.Test.YthndjngimfoanaaOpen
import Derived.Test.YthndjngimfoanaaRound
import Derived.Test.YthndjngimfoanaaCrcMath
namespace Go.Proofs.Ythndjngimfoanaa
open Go.RowKit
set_option linter.unusedVariables false

/-- A slice of the call's own, its block known whole. -/
theorem Own.row {w : World} {base : Nat} {v : Value} {l : List UInt8} (h : Own w base v l) (hl : 0 < l.length) : ∃ g cap z, v = .slice (some ⟨g, 0, none⟩) l.length cap ∧ base ≤ g ∧ l.length ≤ cap ∧ RowT w g 5 (vals l ++ z) := by
  rcases h.2 with ⟨hv, h0⟩ | ⟨g, cap, cur, hv, hbg, hh, hn, hm, hs, ht⟩
  · omega
  · have e : cur.toList = vals l ++ cur.toList.drop l.length := by
      have := (List.take_append_drop (l.length * 1) cur.toList).symm
      rw [ht, Nat.mul_one] at this; exact this
    refine ⟨g, cap, cur.toList.drop l.length, hv, hbg, hn, ?_⟩
    unfold RowT; rw [← e]; simpa using hh
theorem vals_set (l : List UInt8) (q c : Nat) (hq : q < l.length) (hc : c < 256) (z : List Value) : (vals l ++ z).set q (.int .u8 (c : Int)) = vals (l.set q (UInt8.ofNat c)) ++ z := by
  rw [List.set_append_left _ _ (by rw [length_vals]; exact hq)]
  congr 1
  unfold vals
  rw [List.map_set]
  congr 2
  rw [UInt8.toNat_ofNat', Nat.mod_eq_of_lt hc]
theorem cell_vals {w : World} {g q : Nat} {t : TypeId} {l : List UInt8} {z : List Value} (h : RowT w g t (vals l ++ z)) (hq : q < l.length) : w.cell? ⟨g, q, none⟩ = some (.int .u8 (bt l q : Int)) := by
  rw [h.cell, List.getElem?_append_left (by rw [length_vals]; exact hq)]
  unfold vals bt
  rw [List.getElem?_map, List.getElem?_eq_getElem hq, List.getD_eq_getElem?_getD, List.getElem?_eq_getElem hq]; rfl

theorem bit_at (B i : Nat) (hB : B < 4294967296) : bits .and .u32 ((B : Int) / 2 ^ i) 1 = ((B / 2 ^ i % 2 : Nat) : Int) := by
  have e : (B : Int) / 2 ^ i = ((B / 2 ^ i : Nat) : Int) := by rw [Int.natCast_ediv, Int.natCast_pow]; rfl
  rw [e]
  exact low_bit _ (Nat.lt_of_le_of_lt (Nat.div_le_self _ _) hB)

theorem pow8 {r : Nat} (h : r < 8) : 2 ^ r < 2 ^ 8 := Nat.pow_lt_pow_right (by omega) h
theorem flip_val (b r : Nat) (hb : b < 256) (hr : r < 8) : bits .xor .u8 (b : Int) (2 ^ r % 256) = ((b ^^^ 2 ^ r : Nat) : Int) := by
  have hp := pow8 hr
  have e : (2 : Int) ^ r % 256 = ((2 ^ r : Nat) : Int) := by
    obtain ⟨p, hpp⟩ : ∃ p : Nat, p = 2 ^ r := ⟨_, rfl⟩
    rw [show (2 : Int) ^ r = ((2 ^ r : Nat) : Int) by rw [Int.natCast_pow]; rfl, ← hpp]
    rw [← hpp] at hp
    omega
  rw [e, u8_xor_nat _ _ hb (by omega)]

set_option maxRecDepth 100000 in
set_option maxHeartbeats 1600000 in
theorem burst_walk (A : Option Addr) (n c : Nat) (at_ : Int) (B : Nat) (l : List UInt8) (w : World) (h : Byt w w.heap.size A n l) (hB : B < 4294967296) :
    Calls Try.prog 11 #[.slice A n c, .int .i64 at_, .int .u32 (B : Int)] w fun e w' => e = .returned (.bool true) ∧ Below w.heap.size w w' := by
  have HH := Lib.hid h
  clear h
  by_cases hout : n < 4 ∨ 1000 < n ∨ B = 0
  · have HA := Lib.hid (awake_any w)
    by_cases h1 : n < 4
    · have hd1 : decide ((n : Int) < 4) = true := by simp; omega
      go_enter Try.func11, Try.ntmps11
      go_wp2_with fail
      refine HA.out.mono ?_
      rintro e w1 ⟨rfl, hb⟩
      have HB := Lib.hid hb
      clear hb
      go_wp2
      go_ret
      exact ⟨rfl, HB.out⟩
    · have hd1 : decide ((n : Int) < 4) = false := by simp; omega
      by_cases h2 : 1000 < n
      · have hd2 : decide ((1000 : Int) < (n : Int)) = true := by simp; omega
        go_enter Try.func11, Try.ntmps11
        go_wp2_with fail
        refine HA.out.mono ?_
        rintro e w1 ⟨rfl, hb⟩
        have HB := Lib.hid hb
        clear hb
        go_wp2
        go_ret
        exact ⟨rfl, HB.out⟩
      · have hd2 : decide ((1000 : Int) < (n : Int)) = false := by simp; omega
        have hd3 : ((B : Int) == 0) = true := by simp; omega
        clear hout
        go_enter Try.func11, Try.ntmps11
        go_wp2_with fail
        refine HA.out.mono ?_
        rintro e w1 ⟨rfl, hb⟩
        have HB := Lib.hid hb
        clear hb
        go_wp2
        go_ret
        exact ⟨rfl, HB.out⟩
  · have hd1 : decide ((n : Int) < 4) = false := by simp; omega
    have hd2 : decide ((1000 : Int) < (n : Int)) = false := by simp; omega
    have hd3 : ((B : Int) == 0) = false := by simp; omega
    have hB0 : B ≠ 0 := by omega
    have hn4 : 4 ≤ n := by omega
    have hn1 : n ≤ 1000 := by omega
    clear hout
    obtain ⟨f, hf⟩ : ∃ f : Nat, at_ % (8 * (n : Int) - 31) = (f : Int) := ⟨(at_ % (8 * (n : Int) - 31)).toNat, by have := Int.emod_nonneg at_ (show 8 * (n : Int) - 31 ≠ 0 by omega); omega⟩
    have hf2 : f + 31 < 8 * n := by have := Int.emod_lt_of_pos at_ (show 0 < 8 * (n : Int) - 31 by omega); omega
    have hpl := place_any at_ (8 * (n : Int) - 31) w (by omega) (by omega)
    rw [hf] at hpl
    have HPL := Lib.hid hpl
    clear hpl hf
    obtain ⟨v1, w1, hrun1, hg1⟩ := Grow.start c HH.out (by omega)
    obtain ⟨g, cap, z, rfl, hgb, hcap, hrow⟩ := hg1.1.row (by rw [HH.out.1]; omega)
    rw [HH.out.1] at hrun1 hcap
    have HR1 := Lib.hid hrun1
    have HROW := Lib.hid hrow
    have HB1 := Lib.hid hg1.2
    have HB0 := Lib.hid hB0
    clear hrun1 hg1 hrow hB0
    go_enter Try.func11, Try.ntmps11
    go_wp2_with fail
    refine HPL.out.mono ?_
    rintro e w2 ⟨rfl, rfl⟩
    go_wp2_with (at_builtin; refine wpList_app_run HR1.out rfl rfl rfl rfl rfl ?_)
    clear HR1 HPL
    go_loopw [9] (fun i wr => ∃ (j : Nat) (cur : List UInt8), j ≤ 32 ∧ i = .int .i64 (j : Int) ∧ Hid (RowT wr g 5 (vals cur ++ z)) ∧ Hid (cur.length = n) ∧ Hid (leNum cur = leNum l ^^^ 2 ^ f * (B % 2 ^ j)) ∧ Hid (Below w.heap.size w wr)) (fun i _ => 32 - (intOf i).toNat)
    case atStart => exact ⟨0, l, by omega, rfl, HROW, Lib.hid HH.out.1, Lib.hid (by rw [Nat.pow_zero, Nat.mod_one, Nat.mul_zero, Nat.xor_zero]), HB1⟩
    case round =>
      obtain ⟨j, cur, hj, rfl, HRW, HCL, HNUM, HBW⟩ := hrel
      by_cases hj32 : j < 32
      · have hbit := bit_at B j hB
        by_cases hodd : B / 2 ^ j % 2 = 1
        · rw [hodd] at hbit
          have HNX := Lib.hid (flip_next f B j hodd)
          obtain ⟨q, hq⟩ : ∃ q, q = (f + j) / 8 := ⟨_, rfl⟩
          obtain ⟨r, hr⟩ : ∃ r, r = (f + j) % 8 := ⟨_, rfl⟩
          have hq1 : ((f : Int) + (j : Int)) / 8 = (q : Int) := by omega
          have hr1 : ((f : Int) + (j : Int)) % 8 = (r : Int) := by omega
          have hqn : q < n := by omega
          have hr8 : r < 8 := by omega
          have HQR := Lib.hid (show f + j = 8 * q + r by omega)
          clear hodd hq hr
          have hcell := cell_vals HRW.out (q := q) (by rw [HCL.out]; exact hqn)
          have hfr := HRW.out.frozen q
          have hbt := bt_lt cur q
          have HV := Lib.hid (flip_val (bt cur q) r hbt hr8)
          have HLT := Lib.hid (Nat.xor_lt_two_pow (n := 8) hbt (pow8 hr8))
          go_wp2
          go_roundw
          case rel =>
            refine ⟨j + 1, cur.set q (UInt8.ofNat (bt cur q ^^^ 2 ^ r)), by omega, by go_num, Lib.hid ?_, Lib.hid ?_, Lib.hid ?_, Lib.hid (HBW.out.setCell hgb _)⟩
            · rw [HV.out, ← vals_set cur q _ (by rw [HCL.out]; exact hqn) HLT.out]
              exact HRW.out.set_ q _
            · rw [List.length_set]; exact HCL.out
            · rw [leNum_flip cur q r (by rw [HCL.out]; exact hqn) hr8, HNUM.out, Nat.xor_assoc, ← HQR.out, HNX.out]
          case measure => simp [intOf]; omega
        · rw [show B / 2 ^ j % 2 = 0 by omega] at hbit
          have HSM := Lib.hid (flip_same B j (by omega))
          clear hodd
          go_wp2
          go_roundw
          case rel => exact ⟨j + 1, cur, by omega, by go_num, HRW, HCL, Lib.hid (by rw [HSM.out]; exact HNUM.out), HBW⟩
          case measure => simp [intOf]; omega
      · obtain rfl : j = 32 := by omega
        have hm : B % 2 ^ 32 = B := Nat.mod_eq_of_lt hB
        have hne : crcOf l ≠ crcOf cur := crc_burst l cur f B (by rw [HH.out.1, HCL.out]) (by have := HNUM.out; rw [hm] at this; exact this) hB HB0.out (by rw [HH.out.1]; omega)
        have hne' : (((crcOf l : Nat) : Int) != ((crcOf cur : Nat) : Int)) = true := by
          simp only [bne_iff_ne, ne_eq, Int.natCast_inj]
          exact hne
        have HNE := Lib.hid hne
        have C1 := Lib.hid (crc_any A n c _ l wr (HH.out.below HBW.out) (by unfold maxLen; omega))
        have C2 := Lib.hid (crc_any _ n cap _ cur wr (HRW.out.byt HRW.out.lt HCL.out) (by unfold maxLen; omega))
        have HA := Lib.hid (awake_any wr)
        clear hm hne
        go_wp2_with fail
        refine C1.out.mono ?_
        rintro e w3 ⟨rfl, rfl⟩
        clear C1
        go_wp2_with fail
        refine C2.out.mono ?_
        rintro e w3 ⟨rfl, rfl⟩
        clear C2
        go_wp2_with fail
        refine HA.out.mono ?_
        rintro e w3 ⟨rfl, hb3⟩
        have HB3 := Lib.hid (Below.trans HBW.out (hb3.mono HBW.out.size))
        clear hb3
        go_wp2
        go_ret
        exact ⟨rfl, HB3.out⟩

end Go.Proofs.Ythndjngimfoanaa
