/-
  The program's checks ahead of a Retype.
  Conditions: none.
-/
import Derived.Test.YtpjakfbjiioflaaMca
import Derived.Test.YtpjakfbjiioflaaCac
namespace Go.Proofs.Ytpjakfbjiioflaa
open Go.RowKit

set_option maxRecDepth 20000 in
set_option maxHeartbeats 4000000 in
theorem pChk_any (s : GC) (obj n lev wid off cnt : Int) (w : World) :
    Calls Try.prog 44 #[s.val, .int .i64 obj, .int .i64 n, .int .i64 lev, .int .i64 wid, .int .i64 off, .int .i64 cnt] w fun e w' => e = .returned (.int .i64 (retErr s obj n lev wid off cnt)) ∧ Below w.heap.size w w' := by
  have HV := Lib.hid fun W => pVC_any s W
  have HS := Lib.hid fun W => pBit_any obj n W
  have HL := Lib.hid fun W => pTab_any wid lev W
  have HD := Lib.hid fun W => pDev_any obj W
  have HR := Lib.hid (ret_s s obj n lev wid off cnt)
  have HX := Lib.hid (CB.new w s)
  have HSB := Lib.hid (siz_bound (k := obj) (n := n))
  have HVS : Hid (vC s = true → VR s.rng ∧ 6 ≤ s.bits ∧ s.bits ≤ 40) := Lib.hid fun h => by
    unfold vC at h
    simp at h
    exact ⟨vR_iff.1 h.1.1.1.1.2, siz_bound h.1.1.1.1.1⟩
  generalize retErr s obj n lev wid off cnt = q at *
  generalize vC s = vc at *
  generalize sizB obj n = sz at *
  generalize levB wid lev = lv at *
  obtain ⟨sk, sb, sn, sr, sw, sl, sd⟩ := s
  simp only [GC.val, GC.rng] at *
  have HB0 := Lib.hid (belt (Below.refl _ w) (.cells #[.int .i64 sk, .int .i64 sb, .int .i64 sn, .int .i64 sr, .int .i64 sw, .int .i64 sl, .bool sd] 23))
  go_enter Try.func44, Try.ntmps44
  go_wp2_with fail
  go_fit (HV.out _)
  rintro e w1 ⟨rfl, hb1⟩
  have HX1 := Lib.hid (HX.out.next hb1)
  have HB1 := Lib.hid (beln HB0.out hb1)
  clear hb1 HV HX HB0
  obtain ⟨y0, y1, y2, y3, y4, y5, y6⟩ := HX1.out.cells
  simp only at y0 y1 y2 y3 y4 y5 y6
  rcases vc with _ | _
  · have HE := Lib.hid (HR.out.e1 (by simp))
    go_wp2
    go_ret
    exact ⟨congrArg (fun b => Ending.returned (Value.int .i64 b)) HE.out.symm, HB1.out⟩
  by_cases hk : sk = 1
  rotate_left
  · have fk : (sk == 1) = false := beq_eq_false_iff_ne.2 hk
    have fk2 : (sk != 1) = true := by rw [bne, fk]; rfl
    have HE := Lib.hid (HR.out.e1 fun h => hk h.2)
    clear hk fk
    go_wp2
    go_ret
    exact ⟨congrArg (fun b => Ending.returned (Value.int .i64 b)) HE.out.symm, HB1.out⟩
  subst hk
  obtain ⟨ra, hra⟩ : ∃ ra, bits BinOp.and IntKind.i64 sr 2 = ra := ⟨_, rfl⟩
  by_cases h0 : ra = 0
  · subst h0
    have HE := Lib.hid (HR.out.e2 rfl rfl hra)
    go_wp2
    go_ret
    exact ⟨congrArg (fun b => Ending.returned (Value.int .i64 b)) HE.out.symm, HB1.out⟩
  have fra : (ra == 0) = false := beq_eq_false_iff_ne.2 h0
  have HRN : Hid (bits BinOp.and IntKind.i64 sr 2 ≠ 0) := Lib.hid (by rw [hra]; exact h0)
  clear h0
  go_wp2_with fail
  go_fit (HS.out _)
  rintro e w2 ⟨rfl, hww⟩
  obtain rfl : w1 = w2 := hww.symm
  clear HS hra fra
  rcases sz with _ | _
  · have HE := Lib.hid (HR.out.e3 rfl rfl HRN.out fun h => by cases h.1)
    go_wp2
    go_ret
    exact ⟨congrArg (fun b => Ending.returned (Value.int .i64 b)) HE.out.symm, HB1.out⟩
  obtain ⟨n0, n1⟩ := HSB.out rfl
  obtain ⟨hvr, s0, s1⟩ := HVS.out (by simp)
  have HZ0 := pw_pos n
  have HZ1 := pw_le (m := n) (n := 40) n1 (by omega)
  have HY0 := pw_pos sn
  have HY1 := pw_le (m := sn) (n := 40) s1 (by omega)
  have hcu : IntKind.u64.wrap n = n := by rw [IntKind.wrap_u64]; omega
  have hcs : IntKind.u64.wrap sn = sn := by rw [IntKind.wrap_u64]; omega
  have hsh : IntKind.i64.wrap (2 ^ n.toNat) = pw n := shl_one (by omega) (by omega)
  have hss : IntKind.i64.wrap (2 ^ sn.toNat) = pw sn := shl_one (by omega) (by omega)
  have hshw : (2 : Int) ^ n.toNat = pw n := rfl
  rw [show pw 40 = 1099511627776 by decide] at HZ1 HY1
  have HE5 : Hid (C3P true lv obj cnt off → C4P sd obj → ¬ (off % pw n = 0 ∧ off ≤ pw sn ∧ cnt * pw n ≤ pw sn - off ∧ (obj = 1 → n < sn)) → q = 6) := Lib.hid (HR.out.e5 rfl rfl HRN.out)
  have HE0 : Hid (C3P true lv obj cnt off → C4P sd obj → (off % pw n = 0 ∧ off ≤ pw sn ∧ cnt * pw n ≤ pw sn - off ∧ (obj = 1 → n < sn)) → q = 0) := Lib.hid (HR.out.e0 rfl rfl HRN.out)
  generalize pw n = z at *
  generalize pw sn = y at *
  clear hvr HSB HVS
  by_cases h3 : obj = 3
  · subst h3
    go_wp2_with fail
    go_fit (HL.out _)
    rintro e w2 ⟨rfl, hww⟩
    obtain rfl : w1 = w2 := hww.symm
    clear HL
    rcases lv with _ | _
    · have HE := Lib.hid (HR.out.e3 rfl rfl HRN.out fun h => by have := h.2.1 rfl; cases this)
      go_wp2
      go_ret
      exact ⟨congrArg (fun b => Ending.returned (Value.int .i64 b)) HE.out.symm, HB1.out⟩
    by_cases g1 : cnt < 1
    · have HE := Lib.hid (HR.out.e3 rfl rfl HRN.out fun h => by have := h.2.2; omega)
      have fb : decide (cnt < 1) = true := decide_eq_true g1
      clear HE5 HE0
      go_wp2
      go_ret
      exact ⟨congrArg (fun b => Ending.returned (Value.int .i64 b)) HE.out.symm, HB1.out⟩
    by_cases g2 : 8 < cnt
    · have HE := Lib.hid (HR.out.e3 rfl rfl HRN.out fun h => by have := h.2.2; omega)
      have fb : decide (8 < cnt) = true := decide_eq_true g2
      clear HE5 HE0
      go_wp2
      go_ret
      exact ⟨congrArg (fun b => Ending.returned (Value.int .i64 b)) HE.out.symm, HB1.out⟩
    by_cases g3 : off < 0
    · have HE := Lib.hid (HR.out.e3 rfl rfl HRN.out fun h => by have := h.2.2; omega)
      have fb : decide (off < 0) = true := decide_eq_true g3
      clear HE5 HE0
      go_wp2
      go_ret
      exact ⟨congrArg (fun b => Ending.returned (Value.int .i64 b)) HE.out.symm, HB1.out⟩
    have fg1 : decide (cnt < 1) = false := decide_eq_false g1
    have fg2 : decide (8 < cnt) = false := decide_eq_false g2
    have fg3 : decide (off < 0) = false := decide_eq_false g3
    have hm : IntKind.i64.wrap (cnt * z) = cnt * z := IntWalk.i64_in _ (by
      have h1 : cnt * z ≤ 8 * z := Int.mul_le_mul_of_nonneg_right (by omega) (by omega)
      have h2 : 0 ≤ cnt * z := Int.mul_nonneg (by omega) (by omega)
      omega)
    have hcb : z ≤ cnt * z ∧ cnt * z ≤ 8 * z := ⟨by have := Int.mul_le_mul_of_nonneg_right (show (1 : Int) ≤ cnt by omega) (Int.le_of_lt HZ0); omega, Int.mul_le_mul_of_nonneg_right (by omega) (by omega)⟩
    obtain ⟨cz, hcz⟩ : ∃ cz, cnt * z = cz := ⟨_, rfl⟩
    have HCZ := Lib.hid hcz
    rw [hcz] at hm hcb
    have HC3 : Hid (C3P true true 3 cnt off) := Lib.hid ⟨rfl, fun _ => rfl, by omega, by omega, by omega⟩
    rcases sd with _ | _
    rotate_left
    · have HE := Lib.hid (HR.out.e4 rfl rfl HRN.out HC3.out rfl (by decide) (by decide))
      have HDK := Lib.hid (show devK 3 = false from rfl)
      rw [HDK.out] at HD
      clear hm HE5 HE0
      go_wp2_with fail
      go_fit (HD.out _)
      rintro e w2 ⟨rfl, hww⟩
      obtain rfl : w1 = w2 := hww.symm
      clear HD HDK
      go_wp2
      go_ret
      exact ⟨congrArg (fun b => Ending.returned (Value.int .i64 b)) HE.out.symm, HB1.out⟩
    clear HD
    replace HE5 := Lib.hid (HE5.out HC3.out (fun h => by cases h))
    replace HE0 := Lib.hid (HE0.out HC3.out (fun h => by cases h))
    by_cases g7 : off % z = 0
    rotate_left
    · have HE := Lib.hid (HE5.out fun h => g7 h.1)
      have fb : (off % z == 0) = false := beq_eq_false_iff_ne.2 g7
      have fb2 : (off % z != 0) = true := by rw [bne, fb]; rfl
      clear g7 hm
      go_upto_region 11 with fail
      go_region
      go_wp2
      go_ret
      exact ⟨congrArg (fun b => Ending.returned (Value.int .i64 b)) HE.out.symm, HB1.out.drew⟩
    have fb : (off % z == 0) = true := beq_iff_eq.2 g7
    have fb2 : (off % z != 0) = false := by rw [bne, fb]; rfl
    have HG7 := Lib.hid g7
    clear g7 fb
    have hsub : IntKind.i64.wrap (y - cz) = y - cz := IntWalk.i64_in _ (by omega)
    by_cases g8 : y - cz < off
    · have HE := Lib.hid (HE5.out fun h => by have := h.2.2.1; have := HCZ.out; omega)
      have fb3 : decide (y - cz < off) = true := decide_eq_true g8
      clear g8
      go_upto_region 11 with fail
      go_region
      go_wp2
      go_ret
      exact ⟨congrArg (fun b => Ending.returned (Value.int .i64 b)) HE.out.symm, HB1.out.drew⟩
    have fb3 : decide (y - cz < off) = false := decide_eq_false g8
    have HE := Lib.hid (HE0.out ⟨HG7.out, by omega, by have := HCZ.out; omega, fun h => absurd h (by decide)⟩)
    clear g8
    go_upto_region 11 with fail
    go_region
    go_wp2
    go_ret
    exact ⟨congrArg (fun b => Ending.returned (Value.int .i64 b)) HE.out.symm, HB1.out.drew⟩
  have f3 : (obj == 3) = false := beq_eq_false_iff_ne.2 h3
  have HN3 := Lib.hid h3
  clear HL
  by_cases h1 : obj = 1
  · subst h1
    by_cases g1 : cnt < 1
    · have HE := Lib.hid (HR.out.e3 rfl rfl HRN.out fun h => by have := h.2.2; omega)
      have fb : decide (cnt < 1) = true := decide_eq_true g1
      clear HE5 HE0
      go_wp2
      go_ret
      exact ⟨congrArg (fun b => Ending.returned (Value.int .i64 b)) HE.out.symm, HB1.out⟩
    by_cases g2 : 8 < cnt
    · have HE := Lib.hid (HR.out.e3 rfl rfl HRN.out fun h => by have := h.2.2; omega)
      have fb : decide (8 < cnt) = true := decide_eq_true g2
      clear HE5 HE0
      go_wp2
      go_ret
      exact ⟨congrArg (fun b => Ending.returned (Value.int .i64 b)) HE.out.symm, HB1.out⟩
    by_cases g3 : off < 0
    · have HE := Lib.hid (HR.out.e3 rfl rfl HRN.out fun h => by have := h.2.2; omega)
      have fb : decide (off < 0) = true := decide_eq_true g3
      clear HE5 HE0
      go_wp2
      go_ret
      exact ⟨congrArg (fun b => Ending.returned (Value.int .i64 b)) HE.out.symm, HB1.out⟩
    have fg1 : decide (cnt < 1) = false := decide_eq_false g1
    have fg2 : decide (8 < cnt) = false := decide_eq_false g2
    have fg3 : decide (off < 0) = false := decide_eq_false g3
    have hm : IntKind.i64.wrap (cnt * z) = cnt * z := IntWalk.i64_in _ (by
      have h1 : cnt * z ≤ 8 * z := Int.mul_le_mul_of_nonneg_right (by omega) (by omega)
      have h2 : 0 ≤ cnt * z := Int.mul_nonneg (by omega) (by omega)
      omega)
    have hcb : z ≤ cnt * z ∧ cnt * z ≤ 8 * z := ⟨by have := Int.mul_le_mul_of_nonneg_right (show (1 : Int) ≤ cnt by omega) (Int.le_of_lt HZ0); omega, Int.mul_le_mul_of_nonneg_right (by omega) (by omega)⟩
    obtain ⟨cz, hcz⟩ : ∃ cz, cnt * z = cz := ⟨_, rfl⟩
    have HCZ := Lib.hid hcz
    rw [hcz] at hm hcb
    have HC3 : Hid (C3P true lv 1 cnt off) := Lib.hid ⟨rfl, fun h => absurd h (by decide), by omega, by omega, by omega⟩
    rcases sd with _ | _
    rotate_left
    · have HDK := Lib.hid (show devK 1 = true from rfl)
      rw [HDK.out] at HD
      go_wp2_with fail
      go_fit (HD.out _)
      rintro e w2 ⟨rfl, hww⟩
      obtain rfl : w1 = w2 := hww.symm
      clear HD HDK
      replace HE5 := Lib.hid (HE5.out HC3.out (fun _ => .inl rfl))
      replace HE0 := Lib.hid (HE0.out HC3.out (fun _ => .inl rfl))
      by_cases g7 : off % z = 0
      rotate_left
      · have HE := Lib.hid (HE5.out fun h => g7 h.1)
        have fb : (off % z == 0) = false := beq_eq_false_iff_ne.2 g7
        have fb2 : (off % z != 0) = true := by rw [bne, fb]; rfl
        clear g7 hm
        go_upto_region 11 with fail
        go_region
        go_wp2
        go_ret
        exact ⟨congrArg (fun b => Ending.returned (Value.int .i64 b)) HE.out.symm, HB1.out.drew⟩
      have fb : (off % z == 0) = true := beq_iff_eq.2 g7
      have fb2 : (off % z != 0) = false := by rw [bne, fb]; rfl
      have HG7 := Lib.hid g7
      clear g7 fb
      have hsub : IntKind.i64.wrap (y - cz) = y - cz := IntWalk.i64_in _ (by omega)
      by_cases g8 : y - cz < off
      · have HE := Lib.hid (HE5.out fun h => by have := h.2.2.1; have := HCZ.out; omega)
        have fb3 : decide (y - cz < off) = true := decide_eq_true g8
        clear g8
        go_upto_region 11 with fail
        go_region
        go_wp2
        go_ret
        exact ⟨congrArg (fun b => Ending.returned (Value.int .i64 b)) HE.out.symm, HB1.out.drew⟩
      have fb3 : decide (y - cz < off) = false := decide_eq_false g8
      by_cases g10 : sn ≤ n
      · have HE := Lib.hid (HE5.out fun h => by have := h.2.2.2 (by trivial); omega)
        have fb5 : decide (sn ≤ n) = true := decide_eq_true g10
        clear g8 g10
        go_upto_region 11 with fail
        go_region
        go_wp2
        go_ret
        exact ⟨congrArg (fun b => Ending.returned (Value.int .i64 b)) HE.out.symm, HB1.out.drew⟩
      have fb5 : decide (sn ≤ n) = false := decide_eq_false g10
      have HE := Lib.hid (HE0.out ⟨HG7.out, by omega, by have := HCZ.out; omega, fun _ => by omega⟩)
      clear g8
      go_upto_region 11 with fail
      go_region
      go_wp2
      go_ret
      exact ⟨congrArg (fun b => Ending.returned (Value.int .i64 b)) HE.out.symm, HB1.out.drew⟩
    clear HD
    replace HE5 := Lib.hid (HE5.out HC3.out (fun h => by cases h))
    replace HE0 := Lib.hid (HE0.out HC3.out (fun h => by cases h))
    by_cases g7 : off % z = 0
    rotate_left
    · have HE := Lib.hid (HE5.out fun h => g7 h.1)
      have fb : (off % z == 0) = false := beq_eq_false_iff_ne.2 g7
      have fb2 : (off % z != 0) = true := by rw [bne, fb]; rfl
      clear g7 hm
      go_upto_region 11 with fail
      go_region
      go_wp2
      go_ret
      exact ⟨congrArg (fun b => Ending.returned (Value.int .i64 b)) HE.out.symm, HB1.out.drew⟩
    have fb : (off % z == 0) = true := beq_iff_eq.2 g7
    have fb2 : (off % z != 0) = false := by rw [bne, fb]; rfl
    have HG7 := Lib.hid g7
    clear g7 fb
    have hsub : IntKind.i64.wrap (y - cz) = y - cz := IntWalk.i64_in _ (by omega)
    by_cases g8 : y - cz < off
    · have HE := Lib.hid (HE5.out fun h => by have := h.2.2.1; have := HCZ.out; omega)
      have fb3 : decide (y - cz < off) = true := decide_eq_true g8
      clear g8
      go_upto_region 11 with fail
      go_region
      go_wp2
      go_ret
      exact ⟨congrArg (fun b => Ending.returned (Value.int .i64 b)) HE.out.symm, HB1.out.drew⟩
    have fb3 : decide (y - cz < off) = false := decide_eq_false g8
    by_cases g10 : sn ≤ n
    · have HE := Lib.hid (HE5.out fun h => by have := h.2.2.2 (by trivial); omega)
      have fb5 : decide (sn ≤ n) = true := decide_eq_true g10
      clear g8 g10
      go_upto_region 11 with fail
      go_region
      go_wp2
      go_ret
      exact ⟨congrArg (fun b => Ending.returned (Value.int .i64 b)) HE.out.symm, HB1.out.drew⟩
    have fb5 : decide (sn ≤ n) = false := decide_eq_false g10
    have HE := Lib.hid (HE0.out ⟨HG7.out, by omega, by have := HCZ.out; omega, fun _ => by omega⟩)
    clear g8
    go_upto_region 11 with fail
    go_region
    go_wp2
    go_ret
    exact ⟨congrArg (fun b => Ending.returned (Value.int .i64 b)) HE.out.symm, HB1.out.drew⟩
  by_cases h2 : obj = 2
  · subst h2
    by_cases g1 : cnt < 1
    · have HE := Lib.hid (HR.out.e3 rfl rfl HRN.out fun h => by have := h.2.2; omega)
      have fb : decide (cnt < 1) = true := decide_eq_true g1
      clear HE5 HE0
      go_wp2
      go_ret
      exact ⟨congrArg (fun b => Ending.returned (Value.int .i64 b)) HE.out.symm, HB1.out⟩
    by_cases g2 : 8 < cnt
    · have HE := Lib.hid (HR.out.e3 rfl rfl HRN.out fun h => by have := h.2.2; omega)
      have fb : decide (8 < cnt) = true := decide_eq_true g2
      clear HE5 HE0
      go_wp2
      go_ret
      exact ⟨congrArg (fun b => Ending.returned (Value.int .i64 b)) HE.out.symm, HB1.out⟩
    by_cases g3 : off < 0
    · have HE := Lib.hid (HR.out.e3 rfl rfl HRN.out fun h => by have := h.2.2; omega)
      have fb : decide (off < 0) = true := decide_eq_true g3
      clear HE5 HE0
      go_wp2
      go_ret
      exact ⟨congrArg (fun b => Ending.returned (Value.int .i64 b)) HE.out.symm, HB1.out⟩
    have fg1 : decide (cnt < 1) = false := decide_eq_false g1
    have fg2 : decide (8 < cnt) = false := decide_eq_false g2
    have fg3 : decide (off < 0) = false := decide_eq_false g3
    have hm : IntKind.i64.wrap (cnt * z) = cnt * z := IntWalk.i64_in _ (by
      have h1 : cnt * z ≤ 8 * z := Int.mul_le_mul_of_nonneg_right (by omega) (by omega)
      have h2 : 0 ≤ cnt * z := Int.mul_nonneg (by omega) (by omega)
      omega)
    have hcb : z ≤ cnt * z ∧ cnt * z ≤ 8 * z := ⟨by have := Int.mul_le_mul_of_nonneg_right (show (1 : Int) ≤ cnt by omega) (Int.le_of_lt HZ0); omega, Int.mul_le_mul_of_nonneg_right (by omega) (by omega)⟩
    obtain ⟨cz, hcz⟩ : ∃ cz, cnt * z = cz := ⟨_, rfl⟩
    have HCZ := Lib.hid hcz
    rw [hcz] at hm hcb
    have HC3 : Hid (C3P true lv 2 cnt off) := Lib.hid ⟨rfl, fun h => absurd h (by decide), by omega, by omega, by omega⟩
    rcases sd with _ | _
    rotate_left
    · have HDK := Lib.hid (show devK 2 = true from rfl)
      rw [HDK.out] at HD
      go_wp2_with fail
      go_fit (HD.out _)
      rintro e w2 ⟨rfl, hww⟩
      obtain rfl : w1 = w2 := hww.symm
      clear HD HDK
      replace HE5 := Lib.hid (HE5.out HC3.out (fun _ => .inr rfl))
      replace HE0 := Lib.hid (HE0.out HC3.out (fun _ => .inr rfl))
      by_cases g7 : off % z = 0
      rotate_left
      · have HE := Lib.hid (HE5.out fun h => g7 h.1)
        have fb : (off % z == 0) = false := beq_eq_false_iff_ne.2 g7
        have fb2 : (off % z != 0) = true := by rw [bne, fb]; rfl
        clear g7 hm
        go_upto_region 11 with fail
        go_region
        go_wp2
        go_ret
        exact ⟨congrArg (fun b => Ending.returned (Value.int .i64 b)) HE.out.symm, HB1.out.drew⟩
      have fb : (off % z == 0) = true := beq_iff_eq.2 g7
      have fb2 : (off % z != 0) = false := by rw [bne, fb]; rfl
      have HG7 := Lib.hid g7
      clear g7 fb
      have hsub : IntKind.i64.wrap (y - cz) = y - cz := IntWalk.i64_in _ (by omega)
      by_cases g8 : y - cz < off
      · have HE := Lib.hid (HE5.out fun h => by have := h.2.2.1; have := HCZ.out; omega)
        have fb3 : decide (y - cz < off) = true := decide_eq_true g8
        clear g8
        go_upto_region 11 with fail
        go_region
        go_wp2
        go_ret
        exact ⟨congrArg (fun b => Ending.returned (Value.int .i64 b)) HE.out.symm, HB1.out.drew⟩
      have fb3 : decide (y - cz < off) = false := decide_eq_false g8
      have HE := Lib.hid (HE0.out ⟨HG7.out, by omega, by have := HCZ.out; omega, fun h => absurd h (by decide)⟩)
      clear g8
      go_upto_region 11 with fail
      go_region
      go_wp2
      go_ret
      exact ⟨congrArg (fun b => Ending.returned (Value.int .i64 b)) HE.out.symm, HB1.out.drew⟩
    clear HD
    replace HE5 := Lib.hid (HE5.out HC3.out (fun h => by cases h))
    replace HE0 := Lib.hid (HE0.out HC3.out (fun h => by cases h))
    by_cases g7 : off % z = 0
    rotate_left
    · have HE := Lib.hid (HE5.out fun h => g7 h.1)
      have fb : (off % z == 0) = false := beq_eq_false_iff_ne.2 g7
      have fb2 : (off % z != 0) = true := by rw [bne, fb]; rfl
      clear g7 hm
      go_upto_region 11 with fail
      go_region
      go_wp2
      go_ret
      exact ⟨congrArg (fun b => Ending.returned (Value.int .i64 b)) HE.out.symm, HB1.out.drew⟩
    have fb : (off % z == 0) = true := beq_iff_eq.2 g7
    have fb2 : (off % z != 0) = false := by rw [bne, fb]; rfl
    have HG7 := Lib.hid g7
    clear g7 fb
    have hsub : IntKind.i64.wrap (y - cz) = y - cz := IntWalk.i64_in _ (by omega)
    by_cases g8 : y - cz < off
    · have HE := Lib.hid (HE5.out fun h => by have := h.2.2.1; have := HCZ.out; omega)
      have fb3 : decide (y - cz < off) = true := decide_eq_true g8
      clear g8
      go_upto_region 11 with fail
      go_region
      go_wp2
      go_ret
      exact ⟨congrArg (fun b => Ending.returned (Value.int .i64 b)) HE.out.symm, HB1.out.drew⟩
    have fb3 : decide (y - cz < off) = false := decide_eq_false g8
    have HE := Lib.hid (HE0.out ⟨HG7.out, by omega, by have := HCZ.out; omega, fun h => absurd h (by decide)⟩)
    clear g8
    go_upto_region 11 with fail
    go_region
    go_wp2
    go_ret
    exact ⟨congrArg (fun b => Ending.returned (Value.int .i64 b)) HE.out.symm, HB1.out.drew⟩
  have f1 : (obj == 1) = false := beq_eq_false_iff_ne.2 h1
  have f2 : (obj == 2) = false := beq_eq_false_iff_ne.2 h2
  have HN1 := Lib.hid h1
  have HN2 := Lib.hid h2
  clear h1 h2 h3
  by_cases g1 : cnt < 1
  · have HE := Lib.hid (HR.out.e3 rfl rfl HRN.out fun h => by have := h.2.2; omega)
    have fb : decide (cnt < 1) = true := decide_eq_true g1
    clear HE5 HE0
    go_wp2
    go_ret
    exact ⟨congrArg (fun b => Ending.returned (Value.int .i64 b)) HE.out.symm, HB1.out⟩
  by_cases g2 : 8 < cnt
  · have HE := Lib.hid (HR.out.e3 rfl rfl HRN.out fun h => by have := h.2.2; omega)
    have fb : decide (8 < cnt) = true := decide_eq_true g2
    clear HE5 HE0
    go_wp2
    go_ret
    exact ⟨congrArg (fun b => Ending.returned (Value.int .i64 b)) HE.out.symm, HB1.out⟩
  by_cases g3 : off < 0
  · have HE := Lib.hid (HR.out.e3 rfl rfl HRN.out fun h => by have := h.2.2; omega)
    have fb : decide (off < 0) = true := decide_eq_true g3
    clear HE5 HE0
    go_wp2
    go_ret
    exact ⟨congrArg (fun b => Ending.returned (Value.int .i64 b)) HE.out.symm, HB1.out⟩
  have fg1 : decide (cnt < 1) = false := decide_eq_false g1
  have fg2 : decide (8 < cnt) = false := decide_eq_false g2
  have fg3 : decide (off < 0) = false := decide_eq_false g3
  have hm : IntKind.i64.wrap (cnt * z) = cnt * z := IntWalk.i64_in _ (by
    have h1 : cnt * z ≤ 8 * z := Int.mul_le_mul_of_nonneg_right (by omega) (by omega)
    have h2 : 0 ≤ cnt * z := Int.mul_nonneg (by omega) (by omega)
    omega)
  have hcb : z ≤ cnt * z ∧ cnt * z ≤ 8 * z := ⟨by have := Int.mul_le_mul_of_nonneg_right (show (1 : Int) ≤ cnt by omega) (Int.le_of_lt HZ0); omega, Int.mul_le_mul_of_nonneg_right (by omega) (by omega)⟩
  obtain ⟨cz, hcz⟩ : ∃ cz, cnt * z = cz := ⟨_, rfl⟩
  have HCZ := Lib.hid hcz
  rw [hcz] at hm hcb
  have HC3 : Hid (C3P true lv obj cnt off) := Lib.hid ⟨rfl, fun h => absurd h HN3.out, by omega, by omega, by omega⟩
  rcases sd with _ | _
  rotate_left
  · have HE := Lib.hid (HR.out.e4 rfl rfl HRN.out HC3.out rfl HN1.out HN2.out)
    have HDK := Lib.hid (show devK obj = false from by unfold devK; rw [decide_eq_false HN1.out, decide_eq_false HN2.out]; rfl)
    rw [HDK.out] at HD
    clear hm HE5 HE0
    go_wp2_with fail
    go_fit (HD.out _)
    rintro e w2 ⟨rfl, hww⟩
    obtain rfl : w1 = w2 := hww.symm
    clear HD HDK
    go_wp2
    go_ret
    exact ⟨congrArg (fun b => Ending.returned (Value.int .i64 b)) HE.out.symm, HB1.out⟩
  clear HD
  replace HE5 := Lib.hid (HE5.out HC3.out (fun h => by cases h))
  replace HE0 := Lib.hid (HE0.out HC3.out (fun h => by cases h))
  by_cases g7 : off % z = 0
  rotate_left
  · have HE := Lib.hid (HE5.out fun h => g7 h.1)
    have fb : (off % z == 0) = false := beq_eq_false_iff_ne.2 g7
    have fb2 : (off % z != 0) = true := by rw [bne, fb]; rfl
    clear g7 hm
    go_upto_region 11 with fail
    go_region
    go_wp2
    go_ret
    exact ⟨congrArg (fun b => Ending.returned (Value.int .i64 b)) HE.out.symm, HB1.out.drew⟩
  have fb : (off % z == 0) = true := beq_iff_eq.2 g7
  have fb2 : (off % z != 0) = false := by rw [bne, fb]; rfl
  have HG7 := Lib.hid g7
  clear g7 fb
  have hsub : IntKind.i64.wrap (y - cz) = y - cz := IntWalk.i64_in _ (by omega)
  by_cases g8 : y - cz < off
  · have HE := Lib.hid (HE5.out fun h => by have := h.2.2.1; have := HCZ.out; omega)
    have fb3 : decide (y - cz < off) = true := decide_eq_true g8
    clear g8
    go_upto_region 11 with fail
    go_region
    go_wp2
    go_ret
    exact ⟨congrArg (fun b => Ending.returned (Value.int .i64 b)) HE.out.symm, HB1.out.drew⟩
  have fb3 : decide (y - cz < off) = false := decide_eq_false g8
  have HE := Lib.hid (HE0.out ⟨HG7.out, by omega, by have := HCZ.out; omega, fun h => absurd h HN1.out⟩)
  clear g8
  go_upto_region 11 with fail
  go_region
  go_wp2
  go_ret
  exact ⟨congrArg (fun b => Ending.returned (Value.int .i64 b)) HE.out.symm, HB1.out.drew⟩
end Go.Proofs.Ytpjakfbjiioflaa
