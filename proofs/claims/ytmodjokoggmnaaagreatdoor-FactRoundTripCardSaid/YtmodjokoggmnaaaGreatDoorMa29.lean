/-
  The contract of the reference's number: the numeral's value, or the error that the chapter names.
  Conditions: the text is not empty and has at most 65536 bytes.
  The contract of the reference's number: the numeral's value, or the error that the chapter names.
  Conditions: the text is not empty and has at most 65536 bytes.
  The contract of the reference's number, whatever the suffix.
  Conditions: the text is not empty and has at most 65536 bytes.
-/
import Derived.Test.YtmodjokoggmnaaaGreatDoorMa28
import Derived.RegionTactic
namespace Go.Proofs.YtmodjokoggmnaaaGreatDoor

open Go.RowKit Go.Shelf


set_option maxRecDepth 50000 in
set_option maxHeartbeats 1000000 in
theorem rnum_G_hex (b : List UInt8) (w : World) (hbl : b.length ≤ 65536) (r : List UInt8) (hbe : b = 48 :: 120 :: r) (hr : ¬ r = []) :
    Calls Tryz.prog 99 #[.string ⟨(b ++ [71]).toArray⟩] w fun e w' => e = .returned (.tuple #[.int .u64 (numV (num (b ++ [71]))), .int .i64 (numE (num (b ++ [71])))]) ∧ Below w.heap.size w w' := by
  have hszl : b.length < (⟨(b ++ [71]).toArray⟩ : ByteArray).size := by rw [ba_size]; simp
  have hxl : (⟨(b ++ [71]).toArray⟩ : ByteArray)[b.length]'hszl = 71 := by rw [at_eq _ _ _ (by simp)]; simp
  have hcutl := cut_to' (b ++ [71]) b.length
  rw [List.take_left] at hcutl
  have hB : body (b ++ [71]) = b ∧ sfx (b ++ [71]) = 30 := by rw [body_snoc, sfx_snoc]; exact ⟨rfl, rfl⟩
  have hnum : num (b ++ [71]) = numB 30 b := by rw [num_eqB, hB.1, hB.2]
  generalize num (b ++ [71]) = nn at *
  clear hB
  have hs0 : 0 < (⟨b.toArray⟩ : ByteArray).size := by rw [ba_size, hbe]; simp
  have hx0 : (⟨b.toArray⟩ : ByteArray)[0]'hs0 = 48 := by rw [at_eq _ _ _ (by rw [hbe]; simp)]; simp [hbe]
  have hs1 : 1 < (⟨b.toArray⟩ : ByteArray).size := by rw [ba_size, hbe]; simp
  have hx1 : (⟨b.toArray⟩ : ByteArray)[1]'hs1 = 120 := by rw [at_eq _ _ _ (by rw [hbe]; simp)]; simp [hbe]
  have h1 : 1 < b.length := by rw [hbe]; simp
  have hl0 : ((b.length : Int) == 0) = false := by rw [beq_eq_false_iff_ne]; omega
  have h2 : 2 < b.length := by
    rw [hbe]
    have := List.length_pos_iff.2 hr
    simp; omega
  have hcut2 := cut_from' b 2 b.length (Nat.le_refl _)
  have hdr : b.drop 2 = r := by rw [hbe]; rfl
  rw [hdr] at hcut2
  have hsl : r.length ≤ 65536 := by have := congrArg List.length hbe; simp at this; omega
  have HN : Hid (nn = digits 16 30 r) := Lib.hid (by rw [hnum, hbe]; exact numB_hex _ r)
  clear hnum hbe hdr
  go_enter Tryz.func99, Tryz.ntmps99
  go_wp2
  go_region
  all_goals go_wp2
  go_loop [6, 7, 8] (fun vv vb vi => ∃ (k : Nat) (a : Int) (bg : Bool), vv = .int .u64 a ∧ vb = .bool bg ∧ vi = .int .i64 k ∧ k ≤ r.length ∧ 0 ≤ a ∧ a < 18446744073709551616 ∧ Hid (NInv 16 r k a bg)) (fun _ _ vi => r.length - (intOf vi).toNat)
  case atStart => exact ⟨0, 0, false, rfl, rfl, rfl, Nat.zero_le _, by omega, by omega, Lib.hid ⟨rfl, fun _ => rfl, fun h => by cases h⟩⟩
  case round =>
    obtain ⟨k, a, bg, rfl, rfl, rfl, hk, ha0, ha1, HI⟩ := hrel
    rcases Nat.lt_or_ge k r.length with hlt | hge
    · have hbd := byte_bd r[k]
      have hszk : k < (⟨r.toArray⟩ : ByteArray).size := by rw [ba_size]; exact hlt
      have hxk : (⟨r.toArray⟩ : ByteArray)[k]'hszk = r[k] := rfl
      have hok := hx_ok r[k] 16 (by omega)
      have hvl := hx_val r[k]
      have HGO := Lib.hid fun ho (d : Int) hd (a2 : Int) (bg2 : Bool) h1 h2 => HI.out.go hlt (by omega) ho (d := d) hd (a2 := a2) (bg2 := bg2) h1 h2
      have HBD := Lib.hid fun ho => NInv.bad (base := 16) (sh := 30) hlt ho
      have H255 : hxI (r[k].toNat : Int) ≤ 15 ∧ -1 ≤ hxI (r[k].toNat : Int) := by unfold hxI; (repeat' split) <;> omega
      generalize r[k] = c at *
      obtain ⟨d, hd⟩ : ∃ d, d = hxI (c.toNat : Int) := ⟨_, rfl⟩
      rw [← hd] at hok hvl H255
      have hcall := fun W => rhex_any (c.toNat : Int) W hbd.1 hbd.2
      rw [← hd] at hcall
      have HCALL := Lib.hid hcall
      obtain ⟨hd15, hd1⟩ := H255
      clear hcall hd
      by_cases hd0 : d < 0
      · have HQ := Lib.hid (HBD.out (by rw [hok]; simp; omega))
        clear hok hvl hd1
        go_wp2_with (go_at_call 126; refine (HCALL.out _).mono ?_; rintro e w' ⟨rfl, rfl⟩)
        go_ret2
        exact ⟨by rw [HN.out, HQ.out]; rfl, by first | exact Below.refl _ _ | exact (Below.refl _ _).drew⟩
      by_cases hdb : 16 ≤ d
      · have HQ := Lib.hid (HBD.out (by rw [hok]; simp; omega))
        have hd0' : 0 ≤ d := by omega
        clear hok hvl hd1 hd0
        go_wp2_with (go_at_call 126; refine (HCALL.out _).mono ?_; rintro e w' ⟨rfl, rfl⟩)
        go_ret2
        exact ⟨by rw [HN.out, HQ.out]; rfl, by first | exact Below.refl _ _ | exact (Below.refl _ _).drew⟩
      have hd0' : 0 ≤ d := by omega
      have hdb' : d < 16 := by omega
      have ho : okDig 16 c = true := by rw [hok]; simp; omega
      have hdv := hvl hd0'
      by_cases hov : a * 16 + d < 18446744073709551616
      · have HNX := Lib.hid (HGO.out ho d hdv (a * 16 + d) bg (fun _ => ⟨rfl, rfl⟩) (fun h => absurd hov h))
        have htest : a ≤ (18446744073709551615 - d) / 16 := by omega
        clear hok hvl hd1 hd0 hdb ho hdv
        go_wp2_with (go_at_call 126; refine (HCALL.out _).mono ?_; rintro e w' ⟨rfl, rfl⟩)
        go_round
        case rel => exact ⟨k + 1, a * 16 + d, bg, rfl, rfl, by go_num, by omega, by omega, hov, HNX⟩
        case measure => simp [intOf]; omega
      · have hb64 : 0 ≤ (a * 16 + d) % 18446744073709551616 ∧ (a * 16 + d) % 18446744073709551616 < 18446744073709551616 := by omega
        have HNX := Lib.hid (HGO.out ho d hdv ((a * 16 + d) % 18446744073709551616) true (fun h => absurd h hov) (fun _ => rfl))
        have htest : (18446744073709551615 - d) / 16 < a := by omega
        clear hok hvl hd1 hd0 hdb ho hdv
        go_wp2_with (go_at_call 126; refine (HCALL.out _).mono ?_; rintro e w' ⟨rfl, rfl⟩)
        go_round
        case rel => exact ⟨k + 1, (a * 16 + d) % 18446744073709551616, true, congrArg (Value.int .u64) (by rw [IntKind.wrap_u64, IntKind.wrap_u64]; omega), rfl, by go_num, by omega, hb64.1, hb64.2, HNX⟩
        case measure => simp [intOf]; omega
    · have hkl : k = r.length := by omega
      subst hkl
      cases bg
      · obtain ⟨v, u, hv, hu, hv1, hv2⟩ := NInv.finP (sh := 30) (P := 1073741824) (by decide) HI.out hr
        by_cases hsv : u < 18446744073709551616
        · have HQ := Lib.hid (hv1 hsv)
          have hle : a ≤ 17179869183 := by omega
          have HVV : Hid (((u : Nat) : Int) = a * 1073741824) := Lib.hid (by omega)
          clear hv1 hv2 hsv hv hu
          go_wp2
          go_ret2
          refine ⟨ret_two (congrArg (Value.int .u64) ?_) (by rw [HN.out, HQ.out, numE_val]; rfl), by first | exact Below.refl _ _ | exact (Below.refl _ _).drew⟩
          rw [HN.out, HQ.out, numV_val, HVV.out]
          all_goals omega
        · have HQ := Lib.hid (hv2 hsv)
          have hle : 17179869183 < a := by omega
          clear hv1 hv2 hsv hv hu
          go_wp2
          go_ret2
          exact ⟨by rw [HN.out, HQ.out]; rfl, by first | exact Below.refl _ _ | exact (Below.refl _ _).drew⟩
      · have HQ := Lib.hid (NInv.fin_big (sh := 30) HI.out hr)
        go_wp2
        go_ret2
        exact ⟨by rw [HN.out, HQ.out]; rfl, by first | exact Below.refl _ _ | exact (Below.refl _ _).drew⟩

set_option maxRecDepth 50000 in
set_option maxHeartbeats 1000000 in
theorem rnum_G_bad (b : List UInt8) (w : World) (hbl : b.length ≤ 65536) (d : UInt8) (r : List UInt8) (hbe : b = 48 :: d :: r) (hbad : d ≠ 120 ∨ r = []) :
    Calls Tryz.prog 99 #[.string ⟨(b ++ [71]).toArray⟩] w fun e w' => e = .returned (.tuple #[.int .u64 (numV (num (b ++ [71]))), .int .i64 (numE (num (b ++ [71])))]) ∧ Below w.heap.size w w' := by
  have hszl : b.length < (⟨(b ++ [71]).toArray⟩ : ByteArray).size := by rw [ba_size]; simp
  have hxl : (⟨(b ++ [71]).toArray⟩ : ByteArray)[b.length]'hszl = 71 := by rw [at_eq _ _ _ (by simp)]; simp
  have hcutl := cut_to' (b ++ [71]) b.length
  rw [List.take_left] at hcutl
  have hB : body (b ++ [71]) = b ∧ sfx (b ++ [71]) = 30 := by rw [body_snoc, sfx_snoc]; exact ⟨rfl, rfl⟩
  have hnum : num (b ++ [71]) = numB 30 b := by rw [num_eqB, hB.1, hB.2]
  generalize num (b ++ [71]) = nn at *
  clear hB
  have hs0 : 0 < (⟨b.toArray⟩ : ByteArray).size := by rw [ba_size, hbe]; simp
  have hx0 : (⟨b.toArray⟩ : ByteArray)[0]'hs0 = 48 := by rw [at_eq _ _ _ (by rw [hbe]; simp)]; simp [hbe]
  have hs1 : 1 < (⟨b.toArray⟩ : ByteArray).size := by rw [ba_size, hbe]; simp
  have hx1 : (⟨b.toArray⟩ : ByteArray)[1]'hs1 = d := by rw [at_eq _ _ _ (by rw [hbe]; simp)]; simp [hbe]
  have h1 : 1 < b.length := by rw [hbe]; simp
  have hl0 : ((b.length : Int) == 0) = false := by rw [beq_eq_false_iff_ne]; omega
  have HN : Hid (nn = .bad) := Lib.hid (by rw [hnum, hbe]; exact numB_bad _ d r hbad)
  clear hnum
  rcases Nat.lt_or_ge 2 b.length with h2 | h2
  · have hdb : ((d.toNat : Int) == 120) = false := by
      rcases hbad with h | h
      · have : d.toNat ≠ 120 := fun hh => h (UInt8.toNat_inj.1 hh)
        simp; omega
      · rw [hbe, h] at h2; simp at h2
    clear hbe hbad
    go_enter Tryz.func99, Tryz.ntmps99
    go_wp2
    go_ret2
    exact ⟨by rw [HN.out]; rfl, Below.refl _ _⟩
  · clear hbe hbad
    go_enter Tryz.func99, Tryz.ntmps99
    go_wp2
    go_ret2
    exact ⟨by rw [HN.out]; rfl, Below.refl _ _⟩

set_option maxRecDepth 50000 in
set_option maxHeartbeats 1000000 in
theorem rnum_G_long (b : List UInt8) (w : World) (hbl : b.length ≤ 65536) (c d : UInt8) (r : List UInt8) (hbe : b = c :: d :: r) (hc : c ≠ 48) (h2 : 2 < b.length) :
    Calls Tryz.prog 99 #[.string ⟨(b ++ [71]).toArray⟩] w fun e w' => e = .returned (.tuple #[.int .u64 (numV (num (b ++ [71]))), .int .i64 (numE (num (b ++ [71])))]) ∧ Below w.heap.size w w' := by
  have hszl : b.length < (⟨(b ++ [71]).toArray⟩ : ByteArray).size := by rw [ba_size]; simp
  have hxl : (⟨(b ++ [71]).toArray⟩ : ByteArray)[b.length]'hszl = 71 := by rw [at_eq _ _ _ (by simp)]; simp
  have hcutl := cut_to' (b ++ [71]) b.length
  rw [List.take_left] at hcutl
  have hB : body (b ++ [71]) = b ∧ sfx (b ++ [71]) = 30 := by rw [body_snoc, sfx_snoc]; exact ⟨rfl, rfl⟩
  have hnum : num (b ++ [71]) = numB 30 b := by rw [num_eqB, hB.1, hB.2]
  generalize num (b ++ [71]) = nn at *
  clear hB
  have hs0 : 0 < (⟨b.toArray⟩ : ByteArray).size := by rw [ba_size, hbe]; simp
  have hx0 : (⟨b.toArray⟩ : ByteArray)[0]'hs0 = c := by rw [at_eq _ _ _ (by rw [hbe]; simp)]; simp [hbe]
  have hs1 : 1 < (⟨b.toArray⟩ : ByteArray).size := by rw [ba_size, hbe]; simp
  have hx1 : (⟨b.toArray⟩ : ByteArray)[1]'hs1 = d := by rw [at_eq _ _ _ (by rw [hbe]; simp)]; simp [hbe]
  have h1 : 1 < b.length := by rw [hbe]; simp
  have hl0 : ((b.length : Int) == 0) = false := by rw [beq_eq_false_iff_ne]; omega
  have hcb : ((c.toNat : Int) == 48) = false := by
    have : c.toNat ≠ 48 := fun h => hc (UInt8.toNat_inj.1 h)
    simp; omega
  have hcp : ¬ ((c.toNat : Int) = 48) := by
    have : c.toNat ≠ 48 := fun h => hc (UInt8.toNat_inj.1 h)
    omega
  have hsne : ¬ b = [] := by rw [hbe]; simp
  have HN : Hid (nn = digits 10 30 b) := Lib.hid (by rw [hnum, hbe]; exact numB_dec _ _ (fun x y h => hc (List.cons.inj h).1))
  clear hnum hbe hc
  have hsl : b.length ≤ 65536 := hbl
  go_enter Tryz.func99, Tryz.ntmps99
  go_wp2
  go_loop [6, 7, 8] (fun vv vb vi => ∃ (k : Nat) (a : Int) (bg : Bool), vv = .int .u64 a ∧ vb = .bool bg ∧ vi = .int .i64 k ∧ k ≤ b.length ∧ 0 ≤ a ∧ a < 18446744073709551616 ∧ Hid (NInv 10 b k a bg)) (fun _ _ vi => b.length - (intOf vi).toNat)
  case atStart => exact ⟨0, 0, false, rfl, rfl, rfl, Nat.zero_le _, by omega, by omega, Lib.hid ⟨rfl, fun _ => rfl, fun h => by cases h⟩⟩
  case round =>
    obtain ⟨k, a, bg, rfl, rfl, rfl, hk, ha0, ha1, HI⟩ := hrel
    rcases Nat.lt_or_ge k b.length with hlt | hge
    · have hbd := byte_bd b[k]
      have hszk : k < (⟨b.toArray⟩ : ByteArray).size := by rw [ba_size]; exact hlt
      have hxk : (⟨b.toArray⟩ : ByteArray)[k]'hszk = b[k] := rfl
      have hok := hx_ok b[k] 10 (by omega)
      have hvl := hx_val b[k]
      have HGO := Lib.hid fun ho (d : Int) hd (a2 : Int) (bg2 : Bool) h1 h2 => HI.out.go hlt (by omega) ho (d := d) hd (a2 := a2) (bg2 := bg2) h1 h2
      have HBD := Lib.hid fun ho => NInv.bad (base := 10) (sh := 30) hlt ho
      have H255 : hxI (b[k].toNat : Int) ≤ 15 ∧ -1 ≤ hxI (b[k].toNat : Int) := by unfold hxI; (repeat' split) <;> omega
      generalize b[k] = c at *
      obtain ⟨d, hd⟩ : ∃ d, d = hxI (c.toNat : Int) := ⟨_, rfl⟩
      rw [← hd] at hok hvl H255
      have hcall := fun W => rhex_any (c.toNat : Int) W hbd.1 hbd.2
      rw [← hd] at hcall
      have HCALL := Lib.hid hcall
      obtain ⟨hd15, hd1⟩ := H255
      clear hcall hd
      by_cases hd0 : d < 0
      · have HQ := Lib.hid (HBD.out (by rw [hok]; simp; omega))
        clear hok hvl hd1
        go_wp2_with (go_at_call 126; refine (HCALL.out _).mono ?_; rintro e w' ⟨rfl, rfl⟩)
        go_ret2
        exact ⟨by rw [HN.out, HQ.out]; rfl, by first | exact Below.refl _ _ | exact (Below.refl _ _).drew⟩
      by_cases hdb : 10 ≤ d
      · have HQ := Lib.hid (HBD.out (by rw [hok]; simp; omega))
        have hd0' : 0 ≤ d := by omega
        clear hok hvl hd1 hd0
        go_wp2_with (go_at_call 126; refine (HCALL.out _).mono ?_; rintro e w' ⟨rfl, rfl⟩)
        go_ret2
        exact ⟨by rw [HN.out, HQ.out]; rfl, by first | exact Below.refl _ _ | exact (Below.refl _ _).drew⟩
      have hd0' : 0 ≤ d := by omega
      have hdb' : d < 10 := by omega
      have ho : okDig 10 c = true := by rw [hok]; simp; omega
      have hdv := hvl hd0'
      by_cases hov : a * 10 + d < 18446744073709551616
      · have HNX := Lib.hid (HGO.out ho d hdv (a * 10 + d) bg (fun _ => ⟨rfl, rfl⟩) (fun h => absurd hov h))
        have htest : a ≤ (18446744073709551615 - d) / 10 := by omega
        clear hok hvl hd1 hd0 hdb ho hdv
        go_wp2_with (go_at_call 126; refine (HCALL.out _).mono ?_; rintro e w' ⟨rfl, rfl⟩)
        go_round
        case rel => exact ⟨k + 1, a * 10 + d, bg, rfl, rfl, by go_num, by omega, by omega, hov, HNX⟩
        case measure => simp [intOf]; omega
      · have hb64 : 0 ≤ (a * 10 + d) % 18446744073709551616 ∧ (a * 10 + d) % 18446744073709551616 < 18446744073709551616 := by omega
        have HNX := Lib.hid (HGO.out ho d hdv ((a * 10 + d) % 18446744073709551616) true (fun h => absurd h hov) (fun _ => rfl))
        have htest : (18446744073709551615 - d) / 10 < a := by omega
        clear hok hvl hd1 hd0 hdb ho hdv
        go_wp2_with (go_at_call 126; refine (HCALL.out _).mono ?_; rintro e w' ⟨rfl, rfl⟩)
        go_round
        case rel => exact ⟨k + 1, (a * 10 + d) % 18446744073709551616, true, congrArg (Value.int .u64) (by rw [IntKind.wrap_u64, IntKind.wrap_u64]; omega), rfl, by go_num, by omega, hb64.1, hb64.2, HNX⟩
        case measure => simp [intOf]; omega
    · have hkl : k = b.length := by omega
      subst hkl
      cases bg
      · obtain ⟨v, u, hv, hu, hv1, hv2⟩ := NInv.finP (sh := 30) (P := 1073741824) (by decide) HI.out hsne
        by_cases hsv : u < 18446744073709551616
        · have HQ := Lib.hid (hv1 hsv)
          have hle : a ≤ 17179869183 := by omega
          have HVV : Hid (((u : Nat) : Int) = a * 1073741824) := Lib.hid (by omega)
          clear hv1 hv2 hsv hv hu
          go_wp2
          go_ret2
          refine ⟨ret_two (congrArg (Value.int .u64) ?_) (by rw [HN.out, HQ.out, numE_val]; rfl), by first | exact Below.refl _ _ | exact (Below.refl _ _).drew⟩
          rw [HN.out, HQ.out, numV_val, HVV.out]
          all_goals omega
        · have HQ := Lib.hid (hv2 hsv)
          have hle : 17179869183 < a := by omega
          clear hv1 hv2 hsv hv hu
          go_wp2
          go_ret2
          exact ⟨by rw [HN.out, HQ.out]; rfl, by first | exact Below.refl _ _ | exact (Below.refl _ _).drew⟩
      · have HQ := Lib.hid (NInv.fin_big (sh := 30) HI.out hsne)
        go_wp2
        go_ret2
        exact ⟨by rw [HN.out, HQ.out]; rfl, by first | exact Below.refl _ _ | exact (Below.refl _ _).drew⟩

set_option maxRecDepth 50000 in
set_option maxHeartbeats 1000000 in
theorem rnum_G_two (b : List UInt8) (w : World) (hbl : b.length ≤ 65536) (c d : UInt8) (r : List UInt8) (hbe : b = c :: d :: r) (hc : c ≠ 48) (h2 : b.length ≤ 2) :
    Calls Tryz.prog 99 #[.string ⟨(b ++ [71]).toArray⟩] w fun e w' => e = .returned (.tuple #[.int .u64 (numV (num (b ++ [71]))), .int .i64 (numE (num (b ++ [71])))]) ∧ Below w.heap.size w w' := by
  have hszl : b.length < (⟨(b ++ [71]).toArray⟩ : ByteArray).size := by rw [ba_size]; simp
  have hxl : (⟨(b ++ [71]).toArray⟩ : ByteArray)[b.length]'hszl = 71 := by rw [at_eq _ _ _ (by simp)]; simp
  have hcutl := cut_to' (b ++ [71]) b.length
  rw [List.take_left] at hcutl
  have hB : body (b ++ [71]) = b ∧ sfx (b ++ [71]) = 30 := by rw [body_snoc, sfx_snoc]; exact ⟨rfl, rfl⟩
  have hnum : num (b ++ [71]) = numB 30 b := by rw [num_eqB, hB.1, hB.2]
  generalize num (b ++ [71]) = nn at *
  clear hB
  have hs0 : 0 < (⟨b.toArray⟩ : ByteArray).size := by rw [ba_size, hbe]; simp
  have hx0 : (⟨b.toArray⟩ : ByteArray)[0]'hs0 = c := by rw [at_eq _ _ _ (by rw [hbe]; simp)]; simp [hbe]
  have hs1 : 1 < (⟨b.toArray⟩ : ByteArray).size := by rw [ba_size, hbe]; simp
  have hx1 : (⟨b.toArray⟩ : ByteArray)[1]'hs1 = d := by rw [at_eq _ _ _ (by rw [hbe]; simp)]; simp [hbe]
  have h1 : 1 < b.length := by rw [hbe]; simp
  have hl0 : ((b.length : Int) == 0) = false := by rw [beq_eq_false_iff_ne]; omega
  have hcb : ((c.toNat : Int) == 48) = false := by
    have : c.toNat ≠ 48 := fun h => hc (UInt8.toNat_inj.1 h)
    simp; omega
  have hcp : ¬ ((c.toNat : Int) = 48) := by
    have : c.toNat ≠ 48 := fun h => hc (UInt8.toNat_inj.1 h)
    omega
  have hsne : ¬ b = [] := by rw [hbe]; simp
  have HN : Hid (nn = digits 10 30 b) := Lib.hid (by rw [hnum, hbe]; exact numB_dec _ _ (fun x y h => hc (List.cons.inj h).1))
  clear hnum hbe hc
  have hsl : b.length ≤ 65536 := hbl
  go_enter Tryz.func99, Tryz.ntmps99
  go_wp2
  go_loop [6, 7, 8] (fun vv vb vi => ∃ (k : Nat) (a : Int) (bg : Bool), vv = .int .u64 a ∧ vb = .bool bg ∧ vi = .int .i64 k ∧ k ≤ b.length ∧ 0 ≤ a ∧ a < 18446744073709551616 ∧ Hid (NInv 10 b k a bg)) (fun _ _ vi => b.length - (intOf vi).toNat)
  case atStart => exact ⟨0, 0, false, rfl, rfl, rfl, Nat.zero_le _, by omega, by omega, Lib.hid ⟨rfl, fun _ => rfl, fun h => by cases h⟩⟩
  case round =>
    obtain ⟨k, a, bg, rfl, rfl, rfl, hk, ha0, ha1, HI⟩ := hrel
    rcases Nat.lt_or_ge k b.length with hlt | hge
    · have hbd := byte_bd b[k]
      have hszk : k < (⟨b.toArray⟩ : ByteArray).size := by rw [ba_size]; exact hlt
      have hxk : (⟨b.toArray⟩ : ByteArray)[k]'hszk = b[k] := rfl
      have hok := hx_ok b[k] 10 (by omega)
      have hvl := hx_val b[k]
      have HGO := Lib.hid fun ho (d : Int) hd (a2 : Int) (bg2 : Bool) h1 h2 => HI.out.go hlt (by omega) ho (d := d) hd (a2 := a2) (bg2 := bg2) h1 h2
      have HBD := Lib.hid fun ho => NInv.bad (base := 10) (sh := 30) hlt ho
      have H255 : hxI (b[k].toNat : Int) ≤ 15 ∧ -1 ≤ hxI (b[k].toNat : Int) := by unfold hxI; (repeat' split) <;> omega
      generalize b[k] = c at *
      obtain ⟨d, hd⟩ : ∃ d, d = hxI (c.toNat : Int) := ⟨_, rfl⟩
      rw [← hd] at hok hvl H255
      have hcall := fun W => rhex_any (c.toNat : Int) W hbd.1 hbd.2
      rw [← hd] at hcall
      have HCALL := Lib.hid hcall
      obtain ⟨hd15, hd1⟩ := H255
      clear hcall hd
      by_cases hd0 : d < 0
      · have HQ := Lib.hid (HBD.out (by rw [hok]; simp; omega))
        clear hok hvl hd1
        go_wp2_with (go_at_call 126; refine (HCALL.out _).mono ?_; rintro e w' ⟨rfl, rfl⟩)
        go_ret2
        exact ⟨by rw [HN.out, HQ.out]; rfl, by first | exact Below.refl _ _ | exact (Below.refl _ _).drew⟩
      by_cases hdb : 10 ≤ d
      · have HQ := Lib.hid (HBD.out (by rw [hok]; simp; omega))
        have hd0' : 0 ≤ d := by omega
        clear hok hvl hd1 hd0
        go_wp2_with (go_at_call 126; refine (HCALL.out _).mono ?_; rintro e w' ⟨rfl, rfl⟩)
        go_ret2
        exact ⟨by rw [HN.out, HQ.out]; rfl, by first | exact Below.refl _ _ | exact (Below.refl _ _).drew⟩
      have hd0' : 0 ≤ d := by omega
      have hdb' : d < 10 := by omega
      have ho : okDig 10 c = true := by rw [hok]; simp; omega
      have hdv := hvl hd0'
      by_cases hov : a * 10 + d < 18446744073709551616
      · have HNX := Lib.hid (HGO.out ho d hdv (a * 10 + d) bg (fun _ => ⟨rfl, rfl⟩) (fun h => absurd hov h))
        have htest : a ≤ (18446744073709551615 - d) / 10 := by omega
        clear hok hvl hd1 hd0 hdb ho hdv
        go_wp2_with (go_at_call 126; refine (HCALL.out _).mono ?_; rintro e w' ⟨rfl, rfl⟩)
        go_round
        case rel => exact ⟨k + 1, a * 10 + d, bg, rfl, rfl, by go_num, by omega, by omega, hov, HNX⟩
        case measure => simp [intOf]; omega
      · have hb64 : 0 ≤ (a * 10 + d) % 18446744073709551616 ∧ (a * 10 + d) % 18446744073709551616 < 18446744073709551616 := by omega
        have HNX := Lib.hid (HGO.out ho d hdv ((a * 10 + d) % 18446744073709551616) true (fun h => absurd h hov) (fun _ => rfl))
        have htest : (18446744073709551615 - d) / 10 < a := by omega
        clear hok hvl hd1 hd0 hdb ho hdv
        go_wp2_with (go_at_call 126; refine (HCALL.out _).mono ?_; rintro e w' ⟨rfl, rfl⟩)
        go_round
        case rel => exact ⟨k + 1, (a * 10 + d) % 18446744073709551616, true, congrArg (Value.int .u64) (by rw [IntKind.wrap_u64, IntKind.wrap_u64]; omega), rfl, by go_num, by omega, hb64.1, hb64.2, HNX⟩
        case measure => simp [intOf]; omega
    · have hkl : k = b.length := by omega
      subst hkl
      cases bg
      · obtain ⟨v, u, hv, hu, hv1, hv2⟩ := NInv.finP (sh := 30) (P := 1073741824) (by decide) HI.out hsne
        by_cases hsv : u < 18446744073709551616
        · have HQ := Lib.hid (hv1 hsv)
          have hle : a ≤ 17179869183 := by omega
          have HVV : Hid (((u : Nat) : Int) = a * 1073741824) := Lib.hid (by omega)
          clear hv1 hv2 hsv hv hu
          go_wp2
          go_ret2
          refine ⟨ret_two (congrArg (Value.int .u64) ?_) (by rw [HN.out, HQ.out, numE_val]; rfl), by first | exact Below.refl _ _ | exact (Below.refl _ _).drew⟩
          rw [HN.out, HQ.out, numV_val, HVV.out]
          all_goals omega
        · have HQ := Lib.hid (hv2 hsv)
          have hle : 17179869183 < a := by omega
          clear hv1 hv2 hsv hv hu
          go_wp2
          go_ret2
          exact ⟨by rw [HN.out, HQ.out]; rfl, by first | exact Below.refl _ _ | exact (Below.refl _ _).drew⟩
      · have HQ := Lib.hid (NInv.fin_big (sh := 30) HI.out hsne)
        go_wp2
        go_ret2
        exact ⟨by rw [HN.out, HQ.out]; rfl, by first | exact Below.refl _ _ | exact (Below.refl _ _).drew⟩

set_option maxRecDepth 50000 in
set_option maxHeartbeats 1000000 in
theorem rnum_G_one (b : List UInt8) (w : World) (hbl : b.length ≤ 65536) (c : UInt8) (hbe : b = [c]) :
    Calls Tryz.prog 99 #[.string ⟨(b ++ [71]).toArray⟩] w fun e w' => e = .returned (.tuple #[.int .u64 (numV (num (b ++ [71]))), .int .i64 (numE (num (b ++ [71])))]) ∧ Below w.heap.size w w' := by
  have hszl : b.length < (⟨(b ++ [71]).toArray⟩ : ByteArray).size := by rw [ba_size]; simp
  have hxl : (⟨(b ++ [71]).toArray⟩ : ByteArray)[b.length]'hszl = 71 := by rw [at_eq _ _ _ (by simp)]; simp
  have hcutl := cut_to' (b ++ [71]) b.length
  rw [List.take_left] at hcutl
  have hB : body (b ++ [71]) = b ∧ sfx (b ++ [71]) = 30 := by rw [body_snoc, sfx_snoc]; exact ⟨rfl, rfl⟩
  have hnum : num (b ++ [71]) = numB 30 b := by rw [num_eqB, hB.1, hB.2]
  generalize num (b ++ [71]) = nn at *
  clear hB
  have hsne : ¬ b = [] := by rw [hbe]; simp
  have h1 : b.length ≤ 1 := by rw [hbe]; simp
  have h0 : 0 < b.length := by rw [hbe]; simp
  have hl0 : ((b.length : Int) == 0) = false := by rw [beq_eq_false_iff_ne]; omega
  have HN : Hid (nn = digits 10 30 b) := Lib.hid (by rw [hnum]; exact numB_dec _ _ (fun x y h => by rw [h] at h1; simp at h1))
  clear hnum hbe
  have hsl : b.length ≤ 65536 := hbl
  go_enter Tryz.func99, Tryz.ntmps99
  go_wp2
  go_loop [6, 7, 8] (fun vv vb vi => ∃ (k : Nat) (a : Int) (bg : Bool), vv = .int .u64 a ∧ vb = .bool bg ∧ vi = .int .i64 k ∧ k ≤ b.length ∧ 0 ≤ a ∧ a < 18446744073709551616 ∧ Hid (NInv 10 b k a bg)) (fun _ _ vi => b.length - (intOf vi).toNat)
  case atStart => exact ⟨0, 0, false, rfl, rfl, rfl, Nat.zero_le _, by omega, by omega, Lib.hid ⟨rfl, fun _ => rfl, fun h => by cases h⟩⟩
  case round =>
    obtain ⟨k, a, bg, rfl, rfl, rfl, hk, ha0, ha1, HI⟩ := hrel
    rcases Nat.lt_or_ge k b.length with hlt | hge
    · have hbd := byte_bd b[k]
      have hszk : k < (⟨b.toArray⟩ : ByteArray).size := by rw [ba_size]; exact hlt
      have hxk : (⟨b.toArray⟩ : ByteArray)[k]'hszk = b[k] := rfl
      have hok := hx_ok b[k] 10 (by omega)
      have hvl := hx_val b[k]
      have HGO := Lib.hid fun ho (d : Int) hd (a2 : Int) (bg2 : Bool) h1 h2 => HI.out.go hlt (by omega) ho (d := d) hd (a2 := a2) (bg2 := bg2) h1 h2
      have HBD := Lib.hid fun ho => NInv.bad (base := 10) (sh := 30) hlt ho
      have H255 : hxI (b[k].toNat : Int) ≤ 15 ∧ -1 ≤ hxI (b[k].toNat : Int) := by unfold hxI; (repeat' split) <;> omega
      generalize b[k] = c at *
      obtain ⟨d, hd⟩ : ∃ d, d = hxI (c.toNat : Int) := ⟨_, rfl⟩
      rw [← hd] at hok hvl H255
      have hcall := fun W => rhex_any (c.toNat : Int) W hbd.1 hbd.2
      rw [← hd] at hcall
      have HCALL := Lib.hid hcall
      obtain ⟨hd15, hd1⟩ := H255
      clear hcall hd
      by_cases hd0 : d < 0
      · have HQ := Lib.hid (HBD.out (by rw [hok]; simp; omega))
        clear hok hvl hd1
        go_wp2_with (go_at_call 126; refine (HCALL.out _).mono ?_; rintro e w' ⟨rfl, rfl⟩)
        go_ret2
        exact ⟨by rw [HN.out, HQ.out]; rfl, by first | exact Below.refl _ _ | exact (Below.refl _ _).drew⟩
      by_cases hdb : 10 ≤ d
      · have HQ := Lib.hid (HBD.out (by rw [hok]; simp; omega))
        have hd0' : 0 ≤ d := by omega
        clear hok hvl hd1 hd0
        go_wp2_with (go_at_call 126; refine (HCALL.out _).mono ?_; rintro e w' ⟨rfl, rfl⟩)
        go_ret2
        exact ⟨by rw [HN.out, HQ.out]; rfl, by first | exact Below.refl _ _ | exact (Below.refl _ _).drew⟩
      have hd0' : 0 ≤ d := by omega
      have hdb' : d < 10 := by omega
      have ho : okDig 10 c = true := by rw [hok]; simp; omega
      have hdv := hvl hd0'
      by_cases hov : a * 10 + d < 18446744073709551616
      · have HNX := Lib.hid (HGO.out ho d hdv (a * 10 + d) bg (fun _ => ⟨rfl, rfl⟩) (fun h => absurd hov h))
        have htest : a ≤ (18446744073709551615 - d) / 10 := by omega
        clear hok hvl hd1 hd0 hdb ho hdv
        go_wp2_with (go_at_call 126; refine (HCALL.out _).mono ?_; rintro e w' ⟨rfl, rfl⟩)
        go_round
        case rel => exact ⟨k + 1, a * 10 + d, bg, rfl, rfl, by go_num, by omega, by omega, hov, HNX⟩
        case measure => simp [intOf]; omega
      · have hb64 : 0 ≤ (a * 10 + d) % 18446744073709551616 ∧ (a * 10 + d) % 18446744073709551616 < 18446744073709551616 := by omega
        have HNX := Lib.hid (HGO.out ho d hdv ((a * 10 + d) % 18446744073709551616) true (fun h => absurd h hov) (fun _ => rfl))
        have htest : (18446744073709551615 - d) / 10 < a := by omega
        clear hok hvl hd1 hd0 hdb ho hdv
        go_wp2_with (go_at_call 126; refine (HCALL.out _).mono ?_; rintro e w' ⟨rfl, rfl⟩)
        go_round
        case rel => exact ⟨k + 1, (a * 10 + d) % 18446744073709551616, true, congrArg (Value.int .u64) (by rw [IntKind.wrap_u64, IntKind.wrap_u64]; omega), rfl, by go_num, by omega, hb64.1, hb64.2, HNX⟩
        case measure => simp [intOf]; omega
    · have hkl : k = b.length := by omega
      subst hkl
      cases bg
      · obtain ⟨v, u, hv, hu, hv1, hv2⟩ := NInv.finP (sh := 30) (P := 1073741824) (by decide) HI.out hsne
        by_cases hsv : u < 18446744073709551616
        · have HQ := Lib.hid (hv1 hsv)
          have hle : a ≤ 17179869183 := by omega
          have HVV : Hid (((u : Nat) : Int) = a * 1073741824) := Lib.hid (by omega)
          clear hv1 hv2 hsv hv hu
          go_wp2
          go_ret2
          refine ⟨ret_two (congrArg (Value.int .u64) ?_) (by rw [HN.out, HQ.out, numE_val]; rfl), by first | exact Below.refl _ _ | exact (Below.refl _ _).drew⟩
          rw [HN.out, HQ.out, numV_val, HVV.out]
          all_goals omega
        · have HQ := Lib.hid (hv2 hsv)
          have hle : 17179869183 < a := by omega
          clear hv1 hv2 hsv hv hu
          go_wp2
          go_ret2
          exact ⟨by rw [HN.out, HQ.out]; rfl, by first | exact Below.refl _ _ | exact (Below.refl _ _).drew⟩
      · have HQ := Lib.hid (NInv.fin_big (sh := 30) HI.out hsne)
        go_wp2
        go_ret2
        exact ⟨by rw [HN.out, HQ.out]; rfl, by first | exact Below.refl _ _ | exact (Below.refl _ _).drew⟩

set_option maxRecDepth 50000 in
set_option maxHeartbeats 1000000 in
theorem rnum_G_nil (b : List UInt8) (w : World) (hbl : b.length ≤ 65536) (hbe : b = []) :
    Calls Tryz.prog 99 #[.string ⟨(b ++ [71]).toArray⟩] w fun e w' => e = .returned (.tuple #[.int .u64 (numV (num (b ++ [71]))), .int .i64 (numE (num (b ++ [71])))]) ∧ Below w.heap.size w w' := by
  have hszl : b.length < (⟨(b ++ [71]).toArray⟩ : ByteArray).size := by rw [ba_size]; simp
  have hxl : (⟨(b ++ [71]).toArray⟩ : ByteArray)[b.length]'hszl = 71 := by rw [at_eq _ _ _ (by simp)]; simp
  have hcutl := cut_to' (b ++ [71]) b.length
  rw [List.take_left] at hcutl
  have hB : body (b ++ [71]) = b ∧ sfx (b ++ [71]) = 30 := by rw [body_snoc, sfx_snoc]; exact ⟨rfl, rfl⟩
  have hnum : num (b ++ [71]) = numB 30 b := by rw [num_eqB, hB.1, hB.2]
  generalize num (b ++ [71]) = nn at *
  clear hB
  have HN : Hid (nn = .bad) := Lib.hid (by rw [hnum, hbe]; exact (numB_dec _ _ (fun x y h => by cases h)).trans (digits_bad1 _ _ _ rfl))
  clear hnum
  subst hbe
  go_enter Tryz.func99, Tryz.ntmps99
  go_wp2
  go_ret2
  exact ⟨by rw [HN.out]; rfl, Below.refl _ _⟩

theorem rnum_G (b : List UInt8) (w : World) (hbl : b.length ≤ 65536) :
    Calls Tryz.prog 99 #[.string ⟨(b ++ [71]).toArray⟩] w fun e w' => e = .returned (.tuple #[.int .u64 (numV (num (b ++ [71]))), .int .i64 (numE (num (b ++ [71])))]) ∧ Below w.heap.size w w' := by
  match hbe : b with
  | [] => exact rnum_G_nil _ w hbl rfl
  | [c] => exact rnum_G_one _ w hbl c rfl
  | c :: d :: r =>
    by_cases hc : c = 48
    · subst hc
      by_cases h : d = 120 ∧ ¬ r = []
      · obtain ⟨rfl, hr⟩ := h
        exact rnum_G_hex _ w hbl r rfl hr
      · refine rnum_G_bad _ w hbl d r rfl ?_
        by_cases hd : d = 120
        · exact .inr (Classical.not_not.1 fun hr => h ⟨hd, hr⟩)
        · exact .inl hd
    · rcases Nat.lt_or_ge 2 (c :: d :: r).length with h2 | h2
      · exact rnum_G_long _ w hbl c d r rfl hc h2
      · exact rnum_G_two _ w hbl c d r rfl hc h2
end Go.Proofs.YtmodjokoggmnaaaGreatDoor


namespace Go.Proofs.YtmodjokoggmnaaaGreatDoor

open Go.RowKit Go.Shelf


set_option maxRecDepth 50000 in
set_option maxHeartbeats 1000000 in
theorem rnum_N_hex (b : List UInt8) (w : World) (hbl : b.length ≤ 65536) (r0 : List UInt8) (c0 : UInt8) (hb0 : b = r0 ++ [c0]) (hc0 : shiftOf c0 = 0) (r : List UInt8) (hbe : b = 48 :: 120 :: r) (hr : ¬ r = []) :
    Calls Tryz.prog 99 #[.string ⟨b.toArray⟩] w fun e w' => e = .returned (.tuple #[.int .u64 (numV (num b)), .int .i64 (numE (num b))]) ∧ Below w.heap.size w w' := by
  have hlr : b.length = r0.length + 1 := by rw [hb0]; simp
  have hszl : b.length - 1 < (⟨b.toArray⟩ : ByteArray).size := by rw [ba_size]; omega
  have hxl : (⟨b.toArray⟩ : ByteArray)[b.length - 1]'hszl = c0 := by
    rw [at_eq _ _ _ (by omega)]
    subst hb0; simp
  have hB : body b = b ∧ sfx b = 0 := by rw [hb0, body_snoc, sfx_snoc, if_pos hc0]; exact ⟨rfl, hc0⟩
  have hcn : c0.toNat ≠ 75 ∧ c0.toNat ≠ 77 ∧ c0.toNat ≠ 71 := by
    refine ⟨fun h => ?_, fun h => ?_, fun h => ?_⟩
    · rw [show c0 = 75 from UInt8.toNat_inj.1 h] at hc0; cases hc0
    · rw [show c0 = 77 from UInt8.toNat_inj.1 h] at hc0; cases hc0
    · rw [show c0 = 71 from UInt8.toNat_inj.1 h] at hc0; cases hc0
  have f75 : ((c0.toNat : Int) == 75) = false := by simp; omega
  have f77 : ((c0.toNat : Int) == 77) = false := by simp; omega
  have f71 : ((c0.toNat : Int) == 71) = false := by simp; omega
  have hbp : 1 ≤ b.length := by omega
  clear hcn hb0 hc0 hlr
  have hnum : num b = numB 0 b := by rw [num_eqB, hB.1, hB.2]
  generalize num b = nn at *
  clear hB
  have hs0 : 0 < (⟨b.toArray⟩ : ByteArray).size := by rw [ba_size, hbe]; simp
  have hx0 : (⟨b.toArray⟩ : ByteArray)[0]'hs0 = 48 := by rw [at_eq _ _ _ (by rw [hbe]; simp)]; simp [hbe]
  have hs1 : 1 < (⟨b.toArray⟩ : ByteArray).size := by rw [ba_size, hbe]; simp
  have hx1 : (⟨b.toArray⟩ : ByteArray)[1]'hs1 = 120 := by rw [at_eq _ _ _ (by rw [hbe]; simp)]; simp [hbe]
  have h1 : 1 < b.length := by rw [hbe]; simp
  have hl0 : ((b.length : Int) == 0) = false := by rw [beq_eq_false_iff_ne]; omega
  have h2 : 2 < b.length := by
    rw [hbe]
    have := List.length_pos_iff.2 hr
    simp; omega
  have hcut2 := cut_from' b 2 b.length (Nat.le_refl _)
  have hdr : b.drop 2 = r := by rw [hbe]; rfl
  rw [hdr] at hcut2
  have hsl : r.length ≤ 65536 := by have := congrArg List.length hbe; simp at this; omega
  have HN : Hid (nn = digits 16 0 r) := Lib.hid (by rw [hnum, hbe]; exact numB_hex _ r)
  clear hnum hbe hdr
  go_enter Tryz.func99, Tryz.ntmps99
  go_wp2
  go_region
  all_goals go_wp2
  go_loop [6, 7, 8] (fun vv vb vi => ∃ (k : Nat) (a : Int) (bg : Bool), vv = .int .u64 a ∧ vb = .bool bg ∧ vi = .int .i64 k ∧ k ≤ r.length ∧ 0 ≤ a ∧ a < 18446744073709551616 ∧ Hid (NInv 16 r k a bg)) (fun _ _ vi => r.length - (intOf vi).toNat)
  case atStart => exact ⟨0, 0, false, rfl, rfl, rfl, Nat.zero_le _, by omega, by omega, Lib.hid ⟨rfl, fun _ => rfl, fun h => by cases h⟩⟩
  case round =>
    obtain ⟨k, a, bg, rfl, rfl, rfl, hk, ha0, ha1, HI⟩ := hrel
    rcases Nat.lt_or_ge k r.length with hlt | hge
    · have hbd := byte_bd r[k]
      have hszk : k < (⟨r.toArray⟩ : ByteArray).size := by rw [ba_size]; exact hlt
      have hxk : (⟨r.toArray⟩ : ByteArray)[k]'hszk = r[k] := rfl
      have hok := hx_ok r[k] 16 (by omega)
      have hvl := hx_val r[k]
      have HGO := Lib.hid fun ho (d : Int) hd (a2 : Int) (bg2 : Bool) h1 h2 => HI.out.go hlt (by omega) ho (d := d) hd (a2 := a2) (bg2 := bg2) h1 h2
      have HBD := Lib.hid fun ho => NInv.bad (base := 16) (sh := 0) hlt ho
      have H255 : hxI (r[k].toNat : Int) ≤ 15 ∧ -1 ≤ hxI (r[k].toNat : Int) := by unfold hxI; (repeat' split) <;> omega
      generalize r[k] = c at *
      obtain ⟨d, hd⟩ : ∃ d, d = hxI (c.toNat : Int) := ⟨_, rfl⟩
      rw [← hd] at hok hvl H255
      have hcall := fun W => rhex_any (c.toNat : Int) W hbd.1 hbd.2
      rw [← hd] at hcall
      have HCALL := Lib.hid hcall
      obtain ⟨hd15, hd1⟩ := H255
      clear hcall hd
      by_cases hd0 : d < 0
      · have HQ := Lib.hid (HBD.out (by rw [hok]; simp; omega))
        clear hok hvl hd1
        go_wp2_with (go_at_call 126; refine (HCALL.out _).mono ?_; rintro e w' ⟨rfl, rfl⟩)
        go_ret2
        exact ⟨by rw [HN.out, HQ.out]; rfl, by first | exact Below.refl _ _ | exact (Below.refl _ _).drew⟩
      by_cases hdb : 16 ≤ d
      · have HQ := Lib.hid (HBD.out (by rw [hok]; simp; omega))
        have hd0' : 0 ≤ d := by omega
        clear hok hvl hd1 hd0
        go_wp2_with (go_at_call 126; refine (HCALL.out _).mono ?_; rintro e w' ⟨rfl, rfl⟩)
        go_ret2
        exact ⟨by rw [HN.out, HQ.out]; rfl, by first | exact Below.refl _ _ | exact (Below.refl _ _).drew⟩
      have hd0' : 0 ≤ d := by omega
      have hdb' : d < 16 := by omega
      have ho : okDig 16 c = true := by rw [hok]; simp; omega
      have hdv := hvl hd0'
      by_cases hov : a * 16 + d < 18446744073709551616
      · have HNX := Lib.hid (HGO.out ho d hdv (a * 16 + d) bg (fun _ => ⟨rfl, rfl⟩) (fun h => absurd hov h))
        have htest : a ≤ (18446744073709551615 - d) / 16 := by omega
        clear hok hvl hd1 hd0 hdb ho hdv
        go_wp2_with (go_at_call 126; refine (HCALL.out _).mono ?_; rintro e w' ⟨rfl, rfl⟩)
        go_round
        case rel => exact ⟨k + 1, a * 16 + d, bg, rfl, rfl, by go_num, by omega, by omega, hov, HNX⟩
        case measure => simp [intOf]; omega
      · have hb64 : 0 ≤ (a * 16 + d) % 18446744073709551616 ∧ (a * 16 + d) % 18446744073709551616 < 18446744073709551616 := by omega
        have HNX := Lib.hid (HGO.out ho d hdv ((a * 16 + d) % 18446744073709551616) true (fun h => absurd h hov) (fun _ => rfl))
        have htest : (18446744073709551615 - d) / 16 < a := by omega
        clear hok hvl hd1 hd0 hdb ho hdv
        go_wp2_with (go_at_call 126; refine (HCALL.out _).mono ?_; rintro e w' ⟨rfl, rfl⟩)
        go_round
        case rel => exact ⟨k + 1, (a * 16 + d) % 18446744073709551616, true, congrArg (Value.int .u64) (by rw [IntKind.wrap_u64, IntKind.wrap_u64]; omega), rfl, by go_num, by omega, hb64.1, hb64.2, HNX⟩
        case measure => simp [intOf]; omega
    · have hkl : k = r.length := by omega
      subst hkl
      cases bg
      · obtain ⟨v, u, hv, hu, hv1, hv2⟩ := NInv.finP (sh := 0) (P := 1) (by decide) HI.out hr
        by_cases hsv : u < 18446744073709551616
        · have HQ := Lib.hid (hv1 hsv)
          have hle : a ≤ 18446744073709551615 := by omega
          have HVV : Hid (((u : Nat) : Int) = a * 1) := Lib.hid (by omega)
          clear hv1 hv2 hsv hv hu
          go_wp2
          go_ret2
          refine ⟨ret_two (congrArg (Value.int .u64) ?_) (by rw [HN.out, HQ.out, numE_val]; rfl), by first | exact Below.refl _ _ | exact (Below.refl _ _).drew⟩
          rw [HN.out, HQ.out, numV_val, HVV.out]
          all_goals omega
        · have HQ := Lib.hid (hv2 hsv)
          have hle : 18446744073709551615 < a := by omega
          clear hv1 hv2 hsv hv hu
          go_wp2
          go_ret2
          exact ⟨by rw [HN.out, HQ.out]; rfl, by first | exact Below.refl _ _ | exact (Below.refl _ _).drew⟩
      · have HQ := Lib.hid (NInv.fin_big (sh := 0) HI.out hr)
        go_wp2
        go_ret2
        exact ⟨by rw [HN.out, HQ.out]; rfl, by first | exact Below.refl _ _ | exact (Below.refl _ _).drew⟩

set_option maxRecDepth 50000 in
set_option maxHeartbeats 1000000 in
theorem rnum_N_bad (b : List UInt8) (w : World) (hbl : b.length ≤ 65536) (r0 : List UInt8) (c0 : UInt8) (hb0 : b = r0 ++ [c0]) (hc0 : shiftOf c0 = 0) (d : UInt8) (r : List UInt8) (hbe : b = 48 :: d :: r) (hbad : d ≠ 120 ∨ r = []) :
    Calls Tryz.prog 99 #[.string ⟨b.toArray⟩] w fun e w' => e = .returned (.tuple #[.int .u64 (numV (num b)), .int .i64 (numE (num b))]) ∧ Below w.heap.size w w' := by
  have hlr : b.length = r0.length + 1 := by rw [hb0]; simp
  have hszl : b.length - 1 < (⟨b.toArray⟩ : ByteArray).size := by rw [ba_size]; omega
  have hxl : (⟨b.toArray⟩ : ByteArray)[b.length - 1]'hszl = c0 := by
    rw [at_eq _ _ _ (by omega)]
    subst hb0; simp
  have hB : body b = b ∧ sfx b = 0 := by rw [hb0, body_snoc, sfx_snoc, if_pos hc0]; exact ⟨rfl, hc0⟩
  have hcn : c0.toNat ≠ 75 ∧ c0.toNat ≠ 77 ∧ c0.toNat ≠ 71 := by
    refine ⟨fun h => ?_, fun h => ?_, fun h => ?_⟩
    · rw [show c0 = 75 from UInt8.toNat_inj.1 h] at hc0; cases hc0
    · rw [show c0 = 77 from UInt8.toNat_inj.1 h] at hc0; cases hc0
    · rw [show c0 = 71 from UInt8.toNat_inj.1 h] at hc0; cases hc0
  have f75 : ((c0.toNat : Int) == 75) = false := by simp; omega
  have f77 : ((c0.toNat : Int) == 77) = false := by simp; omega
  have f71 : ((c0.toNat : Int) == 71) = false := by simp; omega
  have hbp : 1 ≤ b.length := by omega
  clear hcn hb0 hc0 hlr
  have hnum : num b = numB 0 b := by rw [num_eqB, hB.1, hB.2]
  generalize num b = nn at *
  clear hB
  have hs0 : 0 < (⟨b.toArray⟩ : ByteArray).size := by rw [ba_size, hbe]; simp
  have hx0 : (⟨b.toArray⟩ : ByteArray)[0]'hs0 = 48 := by rw [at_eq _ _ _ (by rw [hbe]; simp)]; simp [hbe]
  have hs1 : 1 < (⟨b.toArray⟩ : ByteArray).size := by rw [ba_size, hbe]; simp
  have hx1 : (⟨b.toArray⟩ : ByteArray)[1]'hs1 = d := by rw [at_eq _ _ _ (by rw [hbe]; simp)]; simp [hbe]
  have h1 : 1 < b.length := by rw [hbe]; simp
  have hl0 : ((b.length : Int) == 0) = false := by rw [beq_eq_false_iff_ne]; omega
  have HN : Hid (nn = .bad) := Lib.hid (by rw [hnum, hbe]; exact numB_bad _ d r hbad)
  clear hnum
  rcases Nat.lt_or_ge 2 b.length with h2 | h2
  · have hdb : ((d.toNat : Int) == 120) = false := by
      rcases hbad with h | h
      · have : d.toNat ≠ 120 := fun hh => h (UInt8.toNat_inj.1 hh)
        simp; omega
      · rw [hbe, h] at h2; simp at h2
    clear hbe hbad
    go_enter Tryz.func99, Tryz.ntmps99
    go_wp2
    go_ret2
    exact ⟨by rw [HN.out]; rfl, Below.refl _ _⟩
  · clear hbe hbad
    go_enter Tryz.func99, Tryz.ntmps99
    go_wp2
    go_ret2
    exact ⟨by rw [HN.out]; rfl, Below.refl _ _⟩

set_option maxRecDepth 50000 in
set_option maxHeartbeats 1000000 in
theorem rnum_N_long (b : List UInt8) (w : World) (hbl : b.length ≤ 65536) (r0 : List UInt8) (c0 : UInt8) (hb0 : b = r0 ++ [c0]) (hc0 : shiftOf c0 = 0) (c d : UInt8) (r : List UInt8) (hbe : b = c :: d :: r) (hc : c ≠ 48) (h2 : 2 < b.length) :
    Calls Tryz.prog 99 #[.string ⟨b.toArray⟩] w fun e w' => e = .returned (.tuple #[.int .u64 (numV (num b)), .int .i64 (numE (num b))]) ∧ Below w.heap.size w w' := by
  have hlr : b.length = r0.length + 1 := by rw [hb0]; simp
  have hszl : b.length - 1 < (⟨b.toArray⟩ : ByteArray).size := by rw [ba_size]; omega
  have hxl : (⟨b.toArray⟩ : ByteArray)[b.length - 1]'hszl = c0 := by
    rw [at_eq _ _ _ (by omega)]
    subst hb0; simp
  have hB : body b = b ∧ sfx b = 0 := by rw [hb0, body_snoc, sfx_snoc, if_pos hc0]; exact ⟨rfl, hc0⟩
  have hcn : c0.toNat ≠ 75 ∧ c0.toNat ≠ 77 ∧ c0.toNat ≠ 71 := by
    refine ⟨fun h => ?_, fun h => ?_, fun h => ?_⟩
    · rw [show c0 = 75 from UInt8.toNat_inj.1 h] at hc0; cases hc0
    · rw [show c0 = 77 from UInt8.toNat_inj.1 h] at hc0; cases hc0
    · rw [show c0 = 71 from UInt8.toNat_inj.1 h] at hc0; cases hc0
  have f75 : ((c0.toNat : Int) == 75) = false := by simp; omega
  have f77 : ((c0.toNat : Int) == 77) = false := by simp; omega
  have f71 : ((c0.toNat : Int) == 71) = false := by simp; omega
  have hbp : 1 ≤ b.length := by omega
  clear hcn hb0 hc0 hlr
  have hnum : num b = numB 0 b := by rw [num_eqB, hB.1, hB.2]
  generalize num b = nn at *
  clear hB
  have hs0 : 0 < (⟨b.toArray⟩ : ByteArray).size := by rw [ba_size, hbe]; simp
  have hx0 : (⟨b.toArray⟩ : ByteArray)[0]'hs0 = c := by rw [at_eq _ _ _ (by rw [hbe]; simp)]; simp [hbe]
  have hs1 : 1 < (⟨b.toArray⟩ : ByteArray).size := by rw [ba_size, hbe]; simp
  have hx1 : (⟨b.toArray⟩ : ByteArray)[1]'hs1 = d := by rw [at_eq _ _ _ (by rw [hbe]; simp)]; simp [hbe]
  have h1 : 1 < b.length := by rw [hbe]; simp
  have hl0 : ((b.length : Int) == 0) = false := by rw [beq_eq_false_iff_ne]; omega
  have hcb : ((c.toNat : Int) == 48) = false := by
    have : c.toNat ≠ 48 := fun h => hc (UInt8.toNat_inj.1 h)
    simp; omega
  have hcp : ¬ ((c.toNat : Int) = 48) := by
    have : c.toNat ≠ 48 := fun h => hc (UInt8.toNat_inj.1 h)
    omega
  have hsne : ¬ b = [] := by rw [hbe]; simp
  have HN : Hid (nn = digits 10 0 b) := Lib.hid (by rw [hnum, hbe]; exact numB_dec _ _ (fun x y h => hc (List.cons.inj h).1))
  clear hnum hbe hc
  have hsl : b.length ≤ 65536 := hbl
  go_enter Tryz.func99, Tryz.ntmps99
  go_wp2
  go_loop [6, 7, 8] (fun vv vb vi => ∃ (k : Nat) (a : Int) (bg : Bool), vv = .int .u64 a ∧ vb = .bool bg ∧ vi = .int .i64 k ∧ k ≤ b.length ∧ 0 ≤ a ∧ a < 18446744073709551616 ∧ Hid (NInv 10 b k a bg)) (fun _ _ vi => b.length - (intOf vi).toNat)
  case atStart => exact ⟨0, 0, false, rfl, rfl, rfl, Nat.zero_le _, by omega, by omega, Lib.hid ⟨rfl, fun _ => rfl, fun h => by cases h⟩⟩
  case round =>
    obtain ⟨k, a, bg, rfl, rfl, rfl, hk, ha0, ha1, HI⟩ := hrel
    rcases Nat.lt_or_ge k b.length with hlt | hge
    · have hbd := byte_bd b[k]
      have hszk : k < (⟨b.toArray⟩ : ByteArray).size := by rw [ba_size]; exact hlt
      have hxk : (⟨b.toArray⟩ : ByteArray)[k]'hszk = b[k] := rfl
      have hok := hx_ok b[k] 10 (by omega)
      have hvl := hx_val b[k]
      have HGO := Lib.hid fun ho (d : Int) hd (a2 : Int) (bg2 : Bool) h1 h2 => HI.out.go hlt (by omega) ho (d := d) hd (a2 := a2) (bg2 := bg2) h1 h2
      have HBD := Lib.hid fun ho => NInv.bad (base := 10) (sh := 0) hlt ho
      have H255 : hxI (b[k].toNat : Int) ≤ 15 ∧ -1 ≤ hxI (b[k].toNat : Int) := by unfold hxI; (repeat' split) <;> omega
      generalize b[k] = c at *
      obtain ⟨d, hd⟩ : ∃ d, d = hxI (c.toNat : Int) := ⟨_, rfl⟩
      rw [← hd] at hok hvl H255
      have hcall := fun W => rhex_any (c.toNat : Int) W hbd.1 hbd.2
      rw [← hd] at hcall
      have HCALL := Lib.hid hcall
      obtain ⟨hd15, hd1⟩ := H255
      clear hcall hd
      by_cases hd0 : d < 0
      · have HQ := Lib.hid (HBD.out (by rw [hok]; simp; omega))
        clear hok hvl hd1
        go_wp2_with (go_at_call 126; refine (HCALL.out _).mono ?_; rintro e w' ⟨rfl, rfl⟩)
        go_ret2
        exact ⟨by rw [HN.out, HQ.out]; rfl, by first | exact Below.refl _ _ | exact (Below.refl _ _).drew⟩
      by_cases hdb : 10 ≤ d
      · have HQ := Lib.hid (HBD.out (by rw [hok]; simp; omega))
        have hd0' : 0 ≤ d := by omega
        clear hok hvl hd1 hd0
        go_wp2_with (go_at_call 126; refine (HCALL.out _).mono ?_; rintro e w' ⟨rfl, rfl⟩)
        go_ret2
        exact ⟨by rw [HN.out, HQ.out]; rfl, by first | exact Below.refl _ _ | exact (Below.refl _ _).drew⟩
      have hd0' : 0 ≤ d := by omega
      have hdb' : d < 10 := by omega
      have ho : okDig 10 c = true := by rw [hok]; simp; omega
      have hdv := hvl hd0'
      by_cases hov : a * 10 + d < 18446744073709551616
      · have HNX := Lib.hid (HGO.out ho d hdv (a * 10 + d) bg (fun _ => ⟨rfl, rfl⟩) (fun h => absurd hov h))
        have htest : a ≤ (18446744073709551615 - d) / 10 := by omega
        clear hok hvl hd1 hd0 hdb ho hdv
        go_wp2_with (go_at_call 126; refine (HCALL.out _).mono ?_; rintro e w' ⟨rfl, rfl⟩)
        go_round
        case rel => exact ⟨k + 1, a * 10 + d, bg, rfl, rfl, by go_num, by omega, by omega, hov, HNX⟩
        case measure => simp [intOf]; omega
      · have hb64 : 0 ≤ (a * 10 + d) % 18446744073709551616 ∧ (a * 10 + d) % 18446744073709551616 < 18446744073709551616 := by omega
        have HNX := Lib.hid (HGO.out ho d hdv ((a * 10 + d) % 18446744073709551616) true (fun h => absurd h hov) (fun _ => rfl))
        have htest : (18446744073709551615 - d) / 10 < a := by omega
        clear hok hvl hd1 hd0 hdb ho hdv
        go_wp2_with (go_at_call 126; refine (HCALL.out _).mono ?_; rintro e w' ⟨rfl, rfl⟩)
        go_round
        case rel => exact ⟨k + 1, (a * 10 + d) % 18446744073709551616, true, congrArg (Value.int .u64) (by rw [IntKind.wrap_u64, IntKind.wrap_u64]; omega), rfl, by go_num, by omega, hb64.1, hb64.2, HNX⟩
        case measure => simp [intOf]; omega
    · have hkl : k = b.length := by omega
      subst hkl
      cases bg
      · obtain ⟨v, u, hv, hu, hv1, hv2⟩ := NInv.finP (sh := 0) (P := 1) (by decide) HI.out hsne
        by_cases hsv : u < 18446744073709551616
        · have HQ := Lib.hid (hv1 hsv)
          have hle : a ≤ 18446744073709551615 := by omega
          have HVV : Hid (((u : Nat) : Int) = a * 1) := Lib.hid (by omega)
          clear hv1 hv2 hsv hv hu
          go_wp2
          go_ret2
          refine ⟨ret_two (congrArg (Value.int .u64) ?_) (by rw [HN.out, HQ.out, numE_val]; rfl), by first | exact Below.refl _ _ | exact (Below.refl _ _).drew⟩
          rw [HN.out, HQ.out, numV_val, HVV.out]
          all_goals omega
        · have HQ := Lib.hid (hv2 hsv)
          have hle : 18446744073709551615 < a := by omega
          clear hv1 hv2 hsv hv hu
          go_wp2
          go_ret2
          exact ⟨by rw [HN.out, HQ.out]; rfl, by first | exact Below.refl _ _ | exact (Below.refl _ _).drew⟩
      · have HQ := Lib.hid (NInv.fin_big (sh := 0) HI.out hsne)
        go_wp2
        go_ret2
        exact ⟨by rw [HN.out, HQ.out]; rfl, by first | exact Below.refl _ _ | exact (Below.refl _ _).drew⟩

set_option maxRecDepth 50000 in
set_option maxHeartbeats 1000000 in
theorem rnum_N_two (b : List UInt8) (w : World) (hbl : b.length ≤ 65536) (r0 : List UInt8) (c0 : UInt8) (hb0 : b = r0 ++ [c0]) (hc0 : shiftOf c0 = 0) (c d : UInt8) (r : List UInt8) (hbe : b = c :: d :: r) (hc : c ≠ 48) (h2 : b.length ≤ 2) :
    Calls Tryz.prog 99 #[.string ⟨b.toArray⟩] w fun e w' => e = .returned (.tuple #[.int .u64 (numV (num b)), .int .i64 (numE (num b))]) ∧ Below w.heap.size w w' := by
  have hlr : b.length = r0.length + 1 := by rw [hb0]; simp
  have hszl : b.length - 1 < (⟨b.toArray⟩ : ByteArray).size := by rw [ba_size]; omega
  have hxl : (⟨b.toArray⟩ : ByteArray)[b.length - 1]'hszl = c0 := by
    rw [at_eq _ _ _ (by omega)]
    subst hb0; simp
  have hB : body b = b ∧ sfx b = 0 := by rw [hb0, body_snoc, sfx_snoc, if_pos hc0]; exact ⟨rfl, hc0⟩
  have hcn : c0.toNat ≠ 75 ∧ c0.toNat ≠ 77 ∧ c0.toNat ≠ 71 := by
    refine ⟨fun h => ?_, fun h => ?_, fun h => ?_⟩
    · rw [show c0 = 75 from UInt8.toNat_inj.1 h] at hc0; cases hc0
    · rw [show c0 = 77 from UInt8.toNat_inj.1 h] at hc0; cases hc0
    · rw [show c0 = 71 from UInt8.toNat_inj.1 h] at hc0; cases hc0
  have f75 : ((c0.toNat : Int) == 75) = false := by simp; omega
  have f77 : ((c0.toNat : Int) == 77) = false := by simp; omega
  have f71 : ((c0.toNat : Int) == 71) = false := by simp; omega
  have hbp : 1 ≤ b.length := by omega
  clear hcn hb0 hc0 hlr
  have hnum : num b = numB 0 b := by rw [num_eqB, hB.1, hB.2]
  generalize num b = nn at *
  clear hB
  have hs0 : 0 < (⟨b.toArray⟩ : ByteArray).size := by rw [ba_size, hbe]; simp
  have hx0 : (⟨b.toArray⟩ : ByteArray)[0]'hs0 = c := by rw [at_eq _ _ _ (by rw [hbe]; simp)]; simp [hbe]
  have hs1 : 1 < (⟨b.toArray⟩ : ByteArray).size := by rw [ba_size, hbe]; simp
  have hx1 : (⟨b.toArray⟩ : ByteArray)[1]'hs1 = d := by rw [at_eq _ _ _ (by rw [hbe]; simp)]; simp [hbe]
  have h1 : 1 < b.length := by rw [hbe]; simp
  have hl0 : ((b.length : Int) == 0) = false := by rw [beq_eq_false_iff_ne]; omega
  have hcb : ((c.toNat : Int) == 48) = false := by
    have : c.toNat ≠ 48 := fun h => hc (UInt8.toNat_inj.1 h)
    simp; omega
  have hcp : ¬ ((c.toNat : Int) = 48) := by
    have : c.toNat ≠ 48 := fun h => hc (UInt8.toNat_inj.1 h)
    omega
  have hsne : ¬ b = [] := by rw [hbe]; simp
  have HN : Hid (nn = digits 10 0 b) := Lib.hid (by rw [hnum, hbe]; exact numB_dec _ _ (fun x y h => hc (List.cons.inj h).1))
  clear hnum hbe hc
  have hsl : b.length ≤ 65536 := hbl
  go_enter Tryz.func99, Tryz.ntmps99
  go_wp2
  go_loop [6, 7, 8] (fun vv vb vi => ∃ (k : Nat) (a : Int) (bg : Bool), vv = .int .u64 a ∧ vb = .bool bg ∧ vi = .int .i64 k ∧ k ≤ b.length ∧ 0 ≤ a ∧ a < 18446744073709551616 ∧ Hid (NInv 10 b k a bg)) (fun _ _ vi => b.length - (intOf vi).toNat)
  case atStart => exact ⟨0, 0, false, rfl, rfl, rfl, Nat.zero_le _, by omega, by omega, Lib.hid ⟨rfl, fun _ => rfl, fun h => by cases h⟩⟩
  case round =>
    obtain ⟨k, a, bg, rfl, rfl, rfl, hk, ha0, ha1, HI⟩ := hrel
    rcases Nat.lt_or_ge k b.length with hlt | hge
    · have hbd := byte_bd b[k]
      have hszk : k < (⟨b.toArray⟩ : ByteArray).size := by rw [ba_size]; exact hlt
      have hxk : (⟨b.toArray⟩ : ByteArray)[k]'hszk = b[k] := rfl
      have hok := hx_ok b[k] 10 (by omega)
      have hvl := hx_val b[k]
      have HGO := Lib.hid fun ho (d : Int) hd (a2 : Int) (bg2 : Bool) h1 h2 => HI.out.go hlt (by omega) ho (d := d) hd (a2 := a2) (bg2 := bg2) h1 h2
      have HBD := Lib.hid fun ho => NInv.bad (base := 10) (sh := 0) hlt ho
      have H255 : hxI (b[k].toNat : Int) ≤ 15 ∧ -1 ≤ hxI (b[k].toNat : Int) := by unfold hxI; (repeat' split) <;> omega
      generalize b[k] = c at *
      obtain ⟨d, hd⟩ : ∃ d, d = hxI (c.toNat : Int) := ⟨_, rfl⟩
      rw [← hd] at hok hvl H255
      have hcall := fun W => rhex_any (c.toNat : Int) W hbd.1 hbd.2
      rw [← hd] at hcall
      have HCALL := Lib.hid hcall
      obtain ⟨hd15, hd1⟩ := H255
      clear hcall hd
      by_cases hd0 : d < 0
      · have HQ := Lib.hid (HBD.out (by rw [hok]; simp; omega))
        clear hok hvl hd1
        go_wp2_with (go_at_call 126; refine (HCALL.out _).mono ?_; rintro e w' ⟨rfl, rfl⟩)
        go_ret2
        exact ⟨by rw [HN.out, HQ.out]; rfl, by first | exact Below.refl _ _ | exact (Below.refl _ _).drew⟩
      by_cases hdb : 10 ≤ d
      · have HQ := Lib.hid (HBD.out (by rw [hok]; simp; omega))
        have hd0' : 0 ≤ d := by omega
        clear hok hvl hd1 hd0
        go_wp2_with (go_at_call 126; refine (HCALL.out _).mono ?_; rintro e w' ⟨rfl, rfl⟩)
        go_ret2
        exact ⟨by rw [HN.out, HQ.out]; rfl, by first | exact Below.refl _ _ | exact (Below.refl _ _).drew⟩
      have hd0' : 0 ≤ d := by omega
      have hdb' : d < 10 := by omega
      have ho : okDig 10 c = true := by rw [hok]; simp; omega
      have hdv := hvl hd0'
      by_cases hov : a * 10 + d < 18446744073709551616
      · have HNX := Lib.hid (HGO.out ho d hdv (a * 10 + d) bg (fun _ => ⟨rfl, rfl⟩) (fun h => absurd hov h))
        have htest : a ≤ (18446744073709551615 - d) / 10 := by omega
        clear hok hvl hd1 hd0 hdb ho hdv
        go_wp2_with (go_at_call 126; refine (HCALL.out _).mono ?_; rintro e w' ⟨rfl, rfl⟩)
        go_round
        case rel => exact ⟨k + 1, a * 10 + d, bg, rfl, rfl, by go_num, by omega, by omega, hov, HNX⟩
        case measure => simp [intOf]; omega
      · have hb64 : 0 ≤ (a * 10 + d) % 18446744073709551616 ∧ (a * 10 + d) % 18446744073709551616 < 18446744073709551616 := by omega
        have HNX := Lib.hid (HGO.out ho d hdv ((a * 10 + d) % 18446744073709551616) true (fun h => absurd h hov) (fun _ => rfl))
        have htest : (18446744073709551615 - d) / 10 < a := by omega
        clear hok hvl hd1 hd0 hdb ho hdv
        go_wp2_with (go_at_call 126; refine (HCALL.out _).mono ?_; rintro e w' ⟨rfl, rfl⟩)
        go_round
        case rel => exact ⟨k + 1, (a * 10 + d) % 18446744073709551616, true, congrArg (Value.int .u64) (by rw [IntKind.wrap_u64, IntKind.wrap_u64]; omega), rfl, by go_num, by omega, hb64.1, hb64.2, HNX⟩
        case measure => simp [intOf]; omega
    · have hkl : k = b.length := by omega
      subst hkl
      cases bg
      · obtain ⟨v, u, hv, hu, hv1, hv2⟩ := NInv.finP (sh := 0) (P := 1) (by decide) HI.out hsne
        by_cases hsv : u < 18446744073709551616
        · have HQ := Lib.hid (hv1 hsv)
          have hle : a ≤ 18446744073709551615 := by omega
          have HVV : Hid (((u : Nat) : Int) = a * 1) := Lib.hid (by omega)
          clear hv1 hv2 hsv hv hu
          go_wp2
          go_ret2
          refine ⟨ret_two (congrArg (Value.int .u64) ?_) (by rw [HN.out, HQ.out, numE_val]; rfl), by first | exact Below.refl _ _ | exact (Below.refl _ _).drew⟩
          rw [HN.out, HQ.out, numV_val, HVV.out]
          all_goals omega
        · have HQ := Lib.hid (hv2 hsv)
          have hle : 18446744073709551615 < a := by omega
          clear hv1 hv2 hsv hv hu
          go_wp2
          go_ret2
          exact ⟨by rw [HN.out, HQ.out]; rfl, by first | exact Below.refl _ _ | exact (Below.refl _ _).drew⟩
      · have HQ := Lib.hid (NInv.fin_big (sh := 0) HI.out hsne)
        go_wp2
        go_ret2
        exact ⟨by rw [HN.out, HQ.out]; rfl, by first | exact Below.refl _ _ | exact (Below.refl _ _).drew⟩

set_option maxRecDepth 50000 in
set_option maxHeartbeats 1000000 in
theorem rnum_N_one (b : List UInt8) (w : World) (hbl : b.length ≤ 65536) (r0 : List UInt8) (c0 : UInt8) (hb0 : b = r0 ++ [c0]) (hc0 : shiftOf c0 = 0) (c : UInt8) (hbe : b = [c]) :
    Calls Tryz.prog 99 #[.string ⟨b.toArray⟩] w fun e w' => e = .returned (.tuple #[.int .u64 (numV (num b)), .int .i64 (numE (num b))]) ∧ Below w.heap.size w w' := by
  have hlr : b.length = r0.length + 1 := by rw [hb0]; simp
  have hszl : b.length - 1 < (⟨b.toArray⟩ : ByteArray).size := by rw [ba_size]; omega
  have hxl : (⟨b.toArray⟩ : ByteArray)[b.length - 1]'hszl = c0 := by
    rw [at_eq _ _ _ (by omega)]
    subst hb0; simp
  have hB : body b = b ∧ sfx b = 0 := by rw [hb0, body_snoc, sfx_snoc, if_pos hc0]; exact ⟨rfl, hc0⟩
  have hcn : c0.toNat ≠ 75 ∧ c0.toNat ≠ 77 ∧ c0.toNat ≠ 71 := by
    refine ⟨fun h => ?_, fun h => ?_, fun h => ?_⟩
    · rw [show c0 = 75 from UInt8.toNat_inj.1 h] at hc0; cases hc0
    · rw [show c0 = 77 from UInt8.toNat_inj.1 h] at hc0; cases hc0
    · rw [show c0 = 71 from UInt8.toNat_inj.1 h] at hc0; cases hc0
  have f75 : ((c0.toNat : Int) == 75) = false := by simp; omega
  have f77 : ((c0.toNat : Int) == 77) = false := by simp; omega
  have f71 : ((c0.toNat : Int) == 71) = false := by simp; omega
  have hbp : 1 ≤ b.length := by omega
  clear hcn hb0 hc0 hlr
  have hnum : num b = numB 0 b := by rw [num_eqB, hB.1, hB.2]
  generalize num b = nn at *
  clear hB
  have hsne : ¬ b = [] := by rw [hbe]; simp
  have h1 : b.length ≤ 1 := by rw [hbe]; simp
  have h0 : 0 < b.length := by rw [hbe]; simp
  have hl0 : ((b.length : Int) == 0) = false := by rw [beq_eq_false_iff_ne]; omega
  have HN : Hid (nn = digits 10 0 b) := Lib.hid (by rw [hnum]; exact numB_dec _ _ (fun x y h => by rw [h] at h1; simp at h1))
  have hz0 : 0 < (⟨b.toArray⟩ : ByteArray).size := by rw [ba_size]; exact h0
  have hx00 : (⟨b.toArray⟩ : ByteArray)[0]'hz0 = c0 := by
    have e : b.length - 1 = 0 := by omega
    have := hxl
    simp only [e] at this
    exact this
  clear hnum hbe
  have hsl : b.length ≤ 65536 := hbl
  go_enter Tryz.func99, Tryz.ntmps99
  go_wp2
  go_loop [6, 7, 8] (fun vv vb vi => ∃ (k : Nat) (a : Int) (bg : Bool), vv = .int .u64 a ∧ vb = .bool bg ∧ vi = .int .i64 k ∧ k ≤ b.length ∧ 0 ≤ a ∧ a < 18446744073709551616 ∧ Hid (NInv 10 b k a bg)) (fun _ _ vi => b.length - (intOf vi).toNat)
  case atStart => exact ⟨0, 0, false, rfl, rfl, rfl, Nat.zero_le _, by omega, by omega, Lib.hid ⟨rfl, fun _ => rfl, fun h => by cases h⟩⟩
  case round =>
    obtain ⟨k, a, bg, rfl, rfl, rfl, hk, ha0, ha1, HI⟩ := hrel
    rcases Nat.lt_or_ge k b.length with hlt | hge
    · have hbd := byte_bd b[k]
      have hszk : k < (⟨b.toArray⟩ : ByteArray).size := by rw [ba_size]; exact hlt
      have hxk : (⟨b.toArray⟩ : ByteArray)[k]'hszk = b[k] := rfl
      have hok := hx_ok b[k] 10 (by omega)
      have hvl := hx_val b[k]
      have HGO := Lib.hid fun ho (d : Int) hd (a2 : Int) (bg2 : Bool) h1 h2 => HI.out.go hlt (by omega) ho (d := d) hd (a2 := a2) (bg2 := bg2) h1 h2
      have HBD := Lib.hid fun ho => NInv.bad (base := 10) (sh := 0) hlt ho
      have H255 : hxI (b[k].toNat : Int) ≤ 15 ∧ -1 ≤ hxI (b[k].toNat : Int) := by unfold hxI; (repeat' split) <;> omega
      generalize b[k] = c at *
      obtain ⟨d, hd⟩ : ∃ d, d = hxI (c.toNat : Int) := ⟨_, rfl⟩
      rw [← hd] at hok hvl H255
      have hcall := fun W => rhex_any (c.toNat : Int) W hbd.1 hbd.2
      rw [← hd] at hcall
      have HCALL := Lib.hid hcall
      obtain ⟨hd15, hd1⟩ := H255
      clear hcall hd
      by_cases hd0 : d < 0
      · have HQ := Lib.hid (HBD.out (by rw [hok]; simp; omega))
        clear hok hvl hd1
        go_wp2_with (go_at_call 126; refine (HCALL.out _).mono ?_; rintro e w' ⟨rfl, rfl⟩)
        go_ret2
        exact ⟨by rw [HN.out, HQ.out]; rfl, by first | exact Below.refl _ _ | exact (Below.refl _ _).drew⟩
      by_cases hdb : 10 ≤ d
      · have HQ := Lib.hid (HBD.out (by rw [hok]; simp; omega))
        have hd0' : 0 ≤ d := by omega
        clear hok hvl hd1 hd0
        go_wp2_with (go_at_call 126; refine (HCALL.out _).mono ?_; rintro e w' ⟨rfl, rfl⟩)
        go_ret2
        exact ⟨by rw [HN.out, HQ.out]; rfl, by first | exact Below.refl _ _ | exact (Below.refl _ _).drew⟩
      have hd0' : 0 ≤ d := by omega
      have hdb' : d < 10 := by omega
      have ho : okDig 10 c = true := by rw [hok]; simp; omega
      have hdv := hvl hd0'
      by_cases hov : a * 10 + d < 18446744073709551616
      · have HNX := Lib.hid (HGO.out ho d hdv (a * 10 + d) bg (fun _ => ⟨rfl, rfl⟩) (fun h => absurd hov h))
        have htest : a ≤ (18446744073709551615 - d) / 10 := by omega
        clear hok hvl hd1 hd0 hdb ho hdv
        go_wp2_with (go_at_call 126; refine (HCALL.out _).mono ?_; rintro e w' ⟨rfl, rfl⟩)
        go_round
        case rel => exact ⟨k + 1, a * 10 + d, bg, rfl, rfl, by go_num, by omega, by omega, hov, HNX⟩
        case measure => simp [intOf]; omega
      · have hb64 : 0 ≤ (a * 10 + d) % 18446744073709551616 ∧ (a * 10 + d) % 18446744073709551616 < 18446744073709551616 := by omega
        have HNX := Lib.hid (HGO.out ho d hdv ((a * 10 + d) % 18446744073709551616) true (fun h => absurd h hov) (fun _ => rfl))
        have htest : (18446744073709551615 - d) / 10 < a := by omega
        clear hok hvl hd1 hd0 hdb ho hdv
        go_wp2_with (go_at_call 126; refine (HCALL.out _).mono ?_; rintro e w' ⟨rfl, rfl⟩)
        go_round
        case rel => exact ⟨k + 1, (a * 10 + d) % 18446744073709551616, true, congrArg (Value.int .u64) (by rw [IntKind.wrap_u64, IntKind.wrap_u64]; omega), rfl, by go_num, by omega, hb64.1, hb64.2, HNX⟩
        case measure => simp [intOf]; omega
    · have hkl : k = b.length := by omega
      subst hkl
      cases bg
      · obtain ⟨v, u, hv, hu, hv1, hv2⟩ := NInv.finP (sh := 0) (P := 1) (by decide) HI.out hsne
        by_cases hsv : u < 18446744073709551616
        · have HQ := Lib.hid (hv1 hsv)
          have hle : a ≤ 18446744073709551615 := by omega
          have HVV : Hid (((u : Nat) : Int) = a * 1) := Lib.hid (by omega)
          clear hv1 hv2 hsv hv hu
          go_wp2
          go_ret2
          refine ⟨ret_two (congrArg (Value.int .u64) ?_) (by rw [HN.out, HQ.out, numE_val]; rfl), by first | exact Below.refl _ _ | exact (Below.refl _ _).drew⟩
          rw [HN.out, HQ.out, numV_val, HVV.out]
          all_goals omega
        · have HQ := Lib.hid (hv2 hsv)
          have hle : 18446744073709551615 < a := by omega
          clear hv1 hv2 hsv hv hu
          go_wp2
          go_ret2
          exact ⟨by rw [HN.out, HQ.out]; rfl, by first | exact Below.refl _ _ | exact (Below.refl _ _).drew⟩
      · have HQ := Lib.hid (NInv.fin_big (sh := 0) HI.out hsne)
        go_wp2
        go_ret2
        exact ⟨by rw [HN.out, HQ.out]; rfl, by first | exact Below.refl _ _ | exact (Below.refl _ _).drew⟩

theorem rnum_N (b : List UInt8) (w : World) (hbl : b.length ≤ 65536) (r0 : List UInt8) (c0 : UInt8) (hb0 : b = r0 ++ [c0]) (hc0 : shiftOf c0 = 0) :
    Calls Tryz.prog 99 #[.string ⟨b.toArray⟩] w fun e w' => e = .returned (.tuple #[.int .u64 (numV (num b)), .int .i64 (numE (num b))]) ∧ Below w.heap.size w w' := by
  match hbe : b with
  | [] => exact absurd hb0 (by simp)
  | [c] => exact rnum_N_one _ w hbl r0 c0 hb0 hc0 c rfl
  | c :: d :: r =>
    by_cases hc : c = 48
    · subst hc
      by_cases h : d = 120 ∧ ¬ r = []
      · obtain ⟨rfl, hr⟩ := h
        exact rnum_N_hex _ w hbl r0 c0 hb0 hc0 r rfl hr
      · refine rnum_N_bad _ w hbl r0 c0 hb0 hc0 d r rfl ?_
        by_cases hd : d = 120
        · exact .inr (Classical.not_not.1 fun hr => h ⟨hd, hr⟩)
        · exact .inl hd
    · rcases Nat.lt_or_ge 2 (c :: d :: r).length with h2 | h2
      · exact rnum_N_long _ w hbl r0 c0 hb0 hc0 c d r rfl hc h2
      · exact rnum_N_two _ w hbl r0 c0 hb0 hc0 c d r rfl hc h2
end Go.Proofs.YtmodjokoggmnaaaGreatDoor


namespace Go.Proofs.YtmodjokoggmnaaaGreatDoor

open Go.RowKit Go.Shelf

theorem rnumber_any (l : List UInt8) (w : World) (hne : l ≠ []) (hl : l.length ≤ 65536) :
    Calls Tryz.prog 99 #[.string ⟨l.toArray⟩] w fun e w' => e = .returned (.tuple #[.int .u64 (numV (num l)), .int .i64 (numE (num l))]) ∧ Below w.heap.size w w' := by
  obtain ⟨r, c, rfl⟩ : ∃ r c, l = r ++ [c] := ⟨l.dropLast, l.getLast hne, (List.dropLast_concat_getLast hne).symm⟩
  have hr : r.length ≤ 65536 := by simp at hl; omega
  by_cases h1 : c = 75
  · subst h1; exact rnum_K r w hr
  by_cases h2 : c = 77
  · subst h2; exact rnum_M r w hr
  by_cases h3 : c = 71
  · subst h3; exact rnum_G r w hr
  exact rnum_N (r ++ [c]) w hl r c rfl (by unfold shiftOf; rw [if_neg h1, if_neg h2, if_neg h3])
end Go.Proofs.YtmodjokoggmnaaaGreatDoor
