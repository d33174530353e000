/-
  The walk of the law BinencRoundTrip: it returns true and turns nothing that was there.
  Conditions: the arguments read as lists of bytes.
-/
import Derived.Test.YthndjngimfoanaaOpen
import Derived.Test.YthndjngimfoanaaRound
namespace Go.Proofs.Ythndjngimfoanaa
open Go.RowKit
set_option linter.unusedVariables false

theorem more_nine {j y x : Nat} (h : y * 128 ^ j ≤ x) (hy : 0 < y) (hx : x < 18446744073709551616) : j ≤ 9 := by
  rcases Nat.lt_or_ge 9 j with hk | hk
  · have h1 : 128 ^ 10 ≤ 128 ^ j := Nat.pow_le_pow_right (by omega) hk
    have h2 : 1 * 128 ^ 10 ≤ y * 128 ^ j := Nat.mul_le_mul hy h1
    have h3 : (128 : Nat) ^ 10 = 1180591620717411303424 := by decide
    omega
  · exact hk

set_option maxRecDepth 100000 in
set_option maxHeartbeats 1600000 in
/-- From the value on. -/
theorem round_walk (A : Option Addr) (n c v : Nat) (bits x : Int) (A5 : Option Addr) (n5 c5 : Nat) (l l5 : List UInt8) (w : World) (h : Byt w w.heap.size A n l) (h5 : Byt w w.heap.size A5 n5 l5) (hv : Hid (v < 18446744073709551616)) (hx0 : Hid (-9223372036854775808 ≤ x)) (hx1 : Hid (x ≤ 9223372036854775807)) :
    Calls Try.prog 7 #[.slice A n c, .int .u64 (v : Int), .int .i64 bits, .int .i64 x, .slice A5 n5 c5] w fun e w' => e = .returned (.bool true) ∧ Below w.heap.size w w' := by
  have HH := Lib.hid h
  have HH5 := Lib.hid h5
  clear h h5
  by_cases hbig : 100 < n ∨ 100 < n5
  · have HA := Lib.hid (awake_any w)
    by_cases hn1 : 100 < n
    · have hd : decide ((100 : Int) < (n : Int)) = true := by simp; omega
      go_enter Try.func7, Try.ntmps7
      go_wp2_with fail
      refine HA.out.mono ?_
      rintro e w1 ⟨rfl, hb⟩
      have HB := Lib.hid hb
      clear hb
      go_wp2
      go_ret
      exact ⟨rfl, HB.out⟩
    · have hd : decide ((100 : Int) < (n : Int)) = false := by simp; omega
      have hd2 : decide ((100 : Int) < (n5 : Int)) = true := by simp; omega
      go_enter Try.func7, Try.ntmps7
      go_wp2_with fail
      refine HA.out.mono ?_
      rintro e w1 ⟨rfl, hb⟩
      have HB := Lib.hid hb
      clear hb
      go_wp2
      go_ret
      exact ⟨rfl, HB.out⟩
  · have hd : decide ((100 : Int) < (n : Int)) = false := by simp; omega
    have hd2 : decide ((100 : Int) < (n5 : Int)) = false := by simp; omega
    obtain ⟨r, hr⟩ : ∃ r : Nat, bits % 64 = (r : Int) := ⟨(bits % 64).toNat, by omega⟩
    have hr64 : r < 64 := by omega
    have hpl := place_any bits 64 w (by omega) (by omega)
    rw [hr] at hpl
    have HPL := Lib.hid hpl
    clear hpl hr
    go_enter Try.func7, Try.ntmps7
    go_wp2_with fail
    refine HPL.out.mono ?_
    rintro e w1 ⟨rfl, rfl⟩
    go_wp2_with fail
    have hdiv : (v : Int) / 2 ^ r = ((v / 2 ^ r : Nat) : Int) := by rw [Int.natCast_ediv, Int.natCast_pow]; rfl
    rw [hdiv]
    have hy64 : v / 2 ^ r < 18446744073709551616 := Nat.lt_of_le_of_lt (Nat.div_le_self _ _) hv.out
    obtain ⟨y, hy⟩ : ∃ y, y = v / 2 ^ r := ⟨_, rfl⟩
    rw [← hy] at hy64 ⊢
    have HY := Lib.hid hy64
    clear hdiv hy hy64
    obtain ⟨L, hL⟩ : ∃ L, L = (uvar y).length := ⟨_, rfl⟩
    have hL10 : L ≤ 10 := by rw [hL]; exact uvar_len y
    have HL := Lib.hid hL
    clear hL
    obtain ⟨L2, hL2⟩ : ∃ L, L = (uvar (zz x)).length := ⟨_, rfl⟩
    have hL210 : L2 ≤ 10 := by rw [hL2]; exact uvar_len (zz x)
    have HL2 := Lib.hid hL2
    clear hL2
    go_loop [12, 13] (fun t i => ∃ j z : Nat, j ≤ 10 ∧ t = .int .i64 (j : Int) ∧ i = .int .u64 (z : Int) ∧ Hid (L = j + more (10 - j) z) ∧ Hid (z * 128 ^ j ≤ y)) (fun _ i => (intOf i).toNat)
    case atStart => exact ⟨1, y / 128, by omega, rfl, by go_num, Lib.hid (by rw [HL.out]; exact length_uvarF 9 y), Lib.hid (by rw [Nat.pow_one]; exact Nat.div_mul_le_self _ _)⟩
    case round =>
      obtain ⟨j, z, hj, rfl, rfl, HM, HZ⟩ := hrel
      by_cases hz : 0 < z
      · have hj9 := more_nine HZ.out hz HY.out
        have hzd : decide ((0 : Int) < (z : Int)) = true := by simp; omega
        go_wp2
        go_round
        case rel => exact ⟨j + 1, z / 128, by omega, by go_num, by go_num, Lib.hid (by have h1 := HM.out; rw [show 10 - j = (10 - (j + 1)) + 1 by omega, more_step _ _ hz] at h1; omega), Lib.hid (more_next HZ.out)⟩
        case measure => simp [intOf]; omega
      · have hLj : L = j := by
          have h1 := HM.out
          rw [show z = 0 by omega] at h1
          simpa [more] using h1
        have hzd : decide ((0 : Int) < (z : Int)) = false := by simp; omega
        have C1 := Lib.hid (appU_any A n c _ y l w HH.out (Nat.le_refl _) (by omega) HY.out)
        rw [← HL.out] at C1
        obtain rfl : L = j := hLj
        clear HM HZ
        go_wp2_with fail
        refine C1.out.mono ?_
        rintro e w1 ⟨g1, rfl, hg1, hr1, hb1⟩
        have HF1 := Lib.hid (show Fut w w1 from hb1)
        have C2 := Lib.hid (appV_any _ (n + L) (n + L) w1.heap.size x (l ++ uvar y) w1 (hr1.byt' hr1.lt (by rw [List.length_append, HH.out.1, ← HL.out])) (Nat.le_refl _) (by omega) hx0.out hx1.out)
        rw [← HL2.out] at C2
        clear hr1 hb1 C1
        go_wp2_with fail
        refine C2.out.mono ?_
        rintro e w2 ⟨g2, rfl, hg2, hr2, hb2⟩
        have HF2 := Lib.hid (HF1.out.trans hb2)
        have HBY := Lib.hid (hr2.byt' hr2.lt (m := n + L + L2) (by rw [List.length_append, List.length_append, HH.out.1, ← HL.out, ← HL2.out]))
        have HFx := Lib.hid (show Fut w1 w2 from hb2)
        clear hr2 hb2 C2
        obtain ⟨v3, w3, hrun3, hg3⟩ := Grow.start (n + L + L2) HBY.out (by omega)
        obtain ⟨v4, w4, hrun4, ho4, hb4, _⟩ := hg3.1.app c5 (HH5.out.below (HF2.out.trans hg3.2)) hg3.2 hg3.2.size (by rw [List.length_append, List.length_append, HH.out.1, ← HL.out, ← HL2.out]; omega)
        obtain ⟨A4, cap4, e4, _, _, hb4'⟩ := ho4.form
        rw [show ((l ++ uvar y ++ uvar (zz x)) ++ l5).length = n + L + L2 + n5 by simp only [List.length_append]; rw [HH.out.1, ← HL.out, ← HL2.out, HH5.out.1]] at e4 hb4'
        subst e4
        have hdec : uvR ((l ++ uvar y ++ uvar (zz x)) ++ l5) (n : Int) = (y, n + L, 0) := by
          have := uvR_uvar l y (uvar (zz x) ++ l5) HY.out
          rw [HH.out.1, ← HL.out] at this
          simpa [List.append_assoc] using this
        have hcc := uvarint_any A4 (n + L + L2 + n5) cap4 _ (n : Int) _ w4 hb4' (by omega)
        rw [hdec] at hcc
        simp only at hcc
        have C3 := Lib.hid hcc
        have HR3 := Lib.hid hrun3
        have HR4 := Lib.hid hrun4
        have HF4 := Lib.hid (show Fut w w4 from HF2.out.trans hb4)
        have HFy := Lib.hid (show Fut w2 w4 from hb4)
        clear hrun3 hg3 hrun4 ho4 hb4 hb4' hdec hcc
        go_wp2_with (at_builtin; (first | refine wpList_app_run HR3.out rfl rfl rfl rfl rfl ?_ | refine wpList_app_run HR4.out rfl rfl rfl rfl rfl ?_))
        refine C3.out.mono ?_
        rintro e w5 ⟨rfl, rfl⟩
        clear C3 HR3 HR4
        obtain ⟨v6, w6, hrun6, hg6⟩ := Grow.start (n + L + L2) (HBY.out.below HFy.out) (by omega)
        obtain ⟨v7, w7, hrun7, ho7, hb7, _⟩ := hg6.1.app c5 (HH5.out.below (HF4.out.trans hg6.2)) hg6.2 hg6.2.size (by rw [List.length_append, List.length_append, HH.out.1, ← HL.out, ← HL2.out]; omega)
        obtain ⟨A7, cap7, e7, _, _, hb7'⟩ := ho7.form
        rw [show ((l ++ uvar y ++ uvar (zz x)) ++ l5).length = n + L + L2 + n5 by simp only [List.length_append]; rw [HH.out.1, ← HL.out, ← HL2.out, HH5.out.1]] at e7 hb7'
        subst e7
        have hdec : uvR ((l ++ uvar y ++ uvar (zz x)) ++ l5) ((n + L : Nat) : Int) = (zz x, n + L + L2, 0) := by
          have := uvR_uvar (l ++ uvar y) (zz x) l5 (zz_lt x hx0.out hx1.out)
          rw [List.length_append, HH.out.1, ← HL.out, ← HL2.out] at this
          simpa [List.append_assoc] using this
        have hcc := varint_any A7 (n + L + L2 + n5) cap7 _ ((n + L : Nat) : Int) _ w7 hb7' (by omega)
        unfold vrR at hcc
        rw [hdec] at hcc
        simp only [unzz_zz] at hcc
        rw [show ((n + L : Nat) : Int) = (n : Int) + (L : Int) from Int.natCast_add n L] at hcc
        have C3 := Lib.hid hcc
        have HR6 := Lib.hid hrun6
        have HR7 := Lib.hid hrun7
        have HF7 := Lib.hid (show Fut w w7 from HF4.out.trans hb7)
        clear hrun6 hg6 hrun7 ho7 hb7 hb7' hdec hcc
        go_wp2_with (at_builtin; (first | refine wpList_app_run HR6.out rfl rfl rfl rfl rfl ?_ | refine wpList_app_run HR7.out rfl rfl rfl rfl rfl ?_))
        refine C3.out.mono ?_
        rintro e w8 ⟨rfl, rfl⟩
        clear C3 HR6 HR7
        have HA := Lib.hid (awake_any w7)
        go_wp2_with fail
        refine HA.out.mono ?_
        rintro e w8 ⟨rfl, hb8⟩
        have HF8 := Lib.hid (HF7.out.trans hb8)
        clear hb8
        go_wp2
        go_ret
        exact ⟨rfl, HF8.out⟩

end Go.Proofs.Ythndjngimfoanaa
