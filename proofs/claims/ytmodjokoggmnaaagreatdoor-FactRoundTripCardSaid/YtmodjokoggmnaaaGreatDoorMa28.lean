/-
  The contract of the reference's number: the numeral's value, or the error that the chapter names.
  Conditions: the text is not empty and has at most 65536 bytes.
  The contract of the reference's number: the numeral's value, or the error that the chapter names.
  Conditions: the text is not empty and has at most 65536 bytes.
-/
import Derived.Test.YtmodjokoggmnaaaGreatDoorMa10
import Derived.RegionTactic
namespace Go.Proofs.YtmodjokoggmnaaaGreatDoor

open Go.RowKit Go.Shelf

def numB (sh : Nat) (b : List UInt8) : Num := if hexed b = true then digits 16 sh (b.drop 2) else match b with | 48 :: _ :: _ => .bad | _ => digits 10 sh b
theorem numV_val (x : Nat) : numV (.val x) = x := rfl
theorem numE_val (x : Nat) : numE (.val x) = 0 := rfl
theorem num_eqB (l : List UInt8) : num l = numB (sfx l) (body l) := rfl
theorem numB_hex (sh : Nat) (r : List UInt8) : numB sh (48 :: 120 :: r) = digits 16 sh r := rfl
theorem numB_bad (sh : Nat) (d : UInt8) (r : List UInt8) (h : d ≠ 120 ∨ r = []) : numB sh (48 :: d :: r) = .bad := by
  unfold numB
  split
  · rename_i hh
    rcases h with h | h
    · unfold hexed at hh
      split at hh
      · rename_i heq
        injection heq with _ heq
        injection heq with h1 _
        exact absurd h1 h
      · cases hh
    · subst h; exact digits_bad1 _ _ _ rfl
  · rfl
theorem numB_dec (sh : Nat) (b : List UInt8) (hl : ∀ c r, b = 48 :: c :: r → False) : numB sh b = digits 10 sh b := by
  have hhx : hexed b = false := by
    unfold hexed; split
    · exact absurd rfl (fun h => hl _ _ h)
    · rfl
  unfold numB
  rw [hhx, if_neg (by simp)]
  split
  · exact absurd rfl (fun h => hl _ _ h)
  · rfl
theorem hx_ok (c : UInt8) (base : Nat) (hb : base = 10 ∨ base = 16) : okDig base c = decide (0 ≤ hxI (c.toNat : Int) ∧ hxI (c.toNat : Int) < base) := by
  have h256 := c.toNat_lt
  rw [Bool.eq_iff_iff, decide_eq_true_eq]
  unfold hxI
  rcases hb with rfl | rfl
  · simp only [okDig, if_true, isDig, digI, decide_eq_true_eq]
    repeat' split
    all_goals omega
  · simp only [okDig, show ¬ (16 : Nat) = 10 by omega, if_false, isHex, digI, hexI, Bool.or_eq_true, decide_eq_true_eq]
    repeat' split
    all_goals omega
theorem hx_val (c : UInt8) (h : 0 ≤ hxI (c.toNat : Int)) : ((dval c : Nat) : Int) = hxI (c.toNat : Int) := by
  have h256 := c.toNat_lt
  unfold hxI at h ⊢
  unfold dval
  repeat' split
  all_goals (simp_all; try omega)
theorem valFrom_snoc (base : Nat) (l : List UInt8) (c : UInt8) : valFrom base 0 (l ++ [c]) = valFrom base 0 l * base + dval c := by simp [valFrom]
/-- What the loop of the reference's number knows: the digits so far are valid; the value, or that it is too great. -/
def NInv (base : Nat) (s : List UInt8) (k : Nat) (a : Int) (bg : Bool) : Prop :=
  (s.take k).all (okDig base) = true ∧ (bg = false → a = (valFrom base 0 (s.take k) : Nat)) ∧ (bg = true → 18446744073709551616 ≤ valFrom base 0 (s.take k))
theorem NInv.go {base : Nat} {s : List UInt8} {k : Nat} {a : Int} {bg : Bool} (h : NInv base s k a bg) (hk : k < s.length) (hb : 1 ≤ base) (ho : okDig base s[k] = true) {d : Int} (hd : ((dval s[k] : Nat) : Int) = d) {a2 : Int} {bg2 : Bool}
    (h1 : a * base + d < 18446744073709551616 → bg2 = bg ∧ a2 = a * base + d) (h2 : ¬ a * base + d < 18446744073709551616 → bg2 = true) : NInv base s (k + 1) a2 bg2 := by
  obtain ⟨ha, hv, hg⟩ := h
  have hs := List.take_succ_eq_append_getElem hk
  unfold NInv
  rw [hs, valFrom_snoc]
  refine ⟨by rw [List.all_append, ha]; simp [ho], ?_, ?_⟩
  · intro h0
    by_cases hlt : a * base + d < 18446744073709551616
    · obtain ⟨e1, e2⟩ := h1 hlt
      rw [e2, hv (by rw [← e1]; exact h0), ← hd]; simp
    · rw [h2 hlt] at h0; cases h0
  · intro h0
    by_cases hlt : a * base + d < 18446744073709551616
    · obtain ⟨e1, e2⟩ := h1 hlt
      have := hg (by rw [← e1]; exact h0)
      have h3 : valFrom base 0 (s.take k) ≤ valFrom base 0 (s.take k) * base := Nat.le_mul_of_pos_right _ hb
      omega
    · cases hbg : bg with
      | false =>
        have e := hv hbg
        rw [e, ← hd] at hlt
        have : ((valFrom base 0 (s.take k) * base + dval s[k] : Nat) : Int) = (valFrom base 0 (s.take k) : Nat) * (base : Int) + (dval s[k] : Nat) := by simp
        omega
      | true =>
        have := hg hbg
        have h3 : valFrom base 0 (s.take k) ≤ valFrom base 0 (s.take k) * base := Nat.le_mul_of_pos_right _ hb
        omega
theorem NInv.bad {base sh : Nat} {s : List UInt8} {k : Nat} (hk : k < s.length) (ho : okDig base s[k] = false) : digits base sh s = .bad := digits_bad2 base sh s (all_stop _ s k hk ho)
theorem NInv.fin_big {base sh : Nat} {s : List UInt8} {a : Int} (h : NInv base s s.length a true) (hs : ¬ s = []) : digits base sh s = .big := by
  obtain ⟨ha, _, hg⟩ := h
  rw [List.take_length] at ha hg
  have := hg rfl
  refine digits_big base sh s hs ha (fun h => ?_)
  have h2 : value base s ≤ value base s * 2 ^ sh := Nat.le_mul_of_pos_right _ (Nat.pow_pos (by omega))
  rw [value_eq] at h h2
  omega
theorem NInv.fin {base sh : Nat} {s : List UInt8} {a : Int} (h : NInv base s s.length a false) (hs : ¬ s = []) : ∃ v : Nat, a = (v : Int) ∧ (v * 2 ^ sh < 18446744073709551616 → digits base sh s = .val (v * 2 ^ sh)) ∧ (¬ v * 2 ^ sh < 18446744073709551616 → digits base sh s = .big) := by
  obtain ⟨ha, hv, _⟩ := h
  rw [List.take_length] at ha hv
  exact ⟨value base s, hv rfl, fun h => digits_val base sh s hs ha h, fun h => digits_big base sh s hs ha h⟩
theorem NInv.finP {base sh P : Nat} {s : List UInt8} {a : Int} (hP : 2 ^ sh = P) (h : NInv base s s.length a false) (hs : ¬ s = []) : ∃ v u : Nat, a = (v : Int) ∧ u = v * P ∧ (u < 18446744073709551616 → digits base sh s = .val u) ∧ (¬ u < 18446744073709551616 → digits base sh s = .big) := by
  obtain ⟨v, h1, h2, h3⟩ := h.fin (sh := sh) hs
  rw [hP] at h2 h3
  exact ⟨v, v * P, h1, rfl, h2, h3⟩


set_option maxRecDepth 50000 in
set_option maxHeartbeats 1000000 in
theorem rnum_K_hex (b : List UInt8) (w : World) (hbl : b.length ≤ 65536) (r : List UInt8) (hbe : b = 48 :: 120 :: r) (hr : ¬ r = []) :
    Calls Tryz.prog 99 #[.string ⟨(b ++ [75]).toArray⟩] w fun e w' => e = .returned (.tuple #[.int .u64 (numV (num (b ++ [75]))), .int .i64 (numE (num (b ++ [75])))]) ∧ Below w.heap.size w w' := by
  have hszl : b.length < (⟨(b ++ [75]).toArray⟩ : ByteArray).size := by rw [ba_size]; simp
  have hxl : (⟨(b ++ [75]).toArray⟩ : ByteArray)[b.length]'hszl = 75 := by rw [at_eq _ _ _ (by simp)]; simp
  have hcutl := cut_to' (b ++ [75]) b.length
  rw [List.take_left] at hcutl
  have hB : body (b ++ [75]) = b ∧ sfx (b ++ [75]) = 10 := by rw [body_snoc, sfx_snoc]; exact ⟨rfl, rfl⟩
  have hnum : num (b ++ [75]) = numB 10 b := by rw [num_eqB, hB.1, hB.2]
  generalize num (b ++ [75]) = nn at *
  clear hB
  have hs0 : 0 < (⟨b.toArray⟩ : ByteArray).size := by rw [ba_size, hbe]; simp
  have hx0 : (⟨b.toArray⟩ : ByteArray)[0]'hs0 = 48 := by rw [at_eq _ _ _ (by rw [hbe]; simp)]; simp [hbe]
  have hs1 : 1 < (⟨b.toArray⟩ : ByteArray).size := by rw [ba_size, hbe]; simp
  have hx1 : (⟨b.toArray⟩ : ByteArray)[1]'hs1 = 120 := by rw [at_eq _ _ _ (by rw [hbe]; simp)]; simp [hbe]
  have h1 : 1 < b.length := by rw [hbe]; simp
  have hl0 : ((b.length : Int) == 0) = false := by rw [beq_eq_false_iff_ne]; omega
  have h2 : 2 < b.length := by
    rw [hbe]
    have := List.length_pos_iff.2 hr
    simp; omega
  have hcut2 := cut_from' b 2 b.length (Nat.le_refl _)
  have hdr : b.drop 2 = r := by rw [hbe]; rfl
  rw [hdr] at hcut2
  have hsl : r.length ≤ 65536 := by have := congrArg List.length hbe; simp at this; omega
  have HN : Hid (nn = digits 16 10 r) := Lib.hid (by rw [hnum, hbe]; exact numB_hex _ r)
  clear hnum hbe hdr
  go_enter Tryz.func99, Tryz.ntmps99
  go_wp2
  go_region
  all_goals go_wp2
  go_loop [6, 7, 8] (fun vv vb vi => ∃ (k : Nat) (a : Int) (bg : Bool), vv = .int .u64 a ∧ vb = .bool bg ∧ vi = .int .i64 k ∧ k ≤ r.length ∧ 0 ≤ a ∧ a < 18446744073709551616 ∧ Hid (NInv 16 r k a bg)) (fun _ _ vi => r.length - (intOf vi).toNat)
  case atStart => exact ⟨0, 0, false, rfl, rfl, rfl, Nat.zero_le _, by omega, by omega, Lib.hid ⟨rfl, fun _ => rfl, fun h => by cases h⟩⟩
  case round =>
    obtain ⟨k, a, bg, rfl, rfl, rfl, hk, ha0, ha1, HI⟩ := hrel
    rcases Nat.lt_or_ge k r.length with hlt | hge
    · have hbd := byte_bd r[k]
      have hszk : k < (⟨r.toArray⟩ : ByteArray).size := by rw [ba_size]; exact hlt
      have hxk : (⟨r.toArray⟩ : ByteArray)[k]'hszk = r[k] := rfl
      have hok := hx_ok r[k] 16 (by omega)
      have hvl := hx_val r[k]
      have HGO := Lib.hid fun ho (d : Int) hd (a2 : Int) (bg2 : Bool) h1 h2 => HI.out.go hlt (by omega) ho (d := d) hd (a2 := a2) (bg2 := bg2) h1 h2
      have HBD := Lib.hid fun ho => NInv.bad (base := 16) (sh := 10) hlt ho
      have H255 : hxI (r[k].toNat : Int) ≤ 15 ∧ -1 ≤ hxI (r[k].toNat : Int) := by unfold hxI; (repeat' split) <;> omega
      generalize r[k] = c at *
      obtain ⟨d, hd⟩ : ∃ d, d = hxI (c.toNat : Int) := ⟨_, rfl⟩
      rw [← hd] at hok hvl H255
      have hcall := fun W => rhex_any (c.toNat : Int) W hbd.1 hbd.2
      rw [← hd] at hcall
      have HCALL := Lib.hid hcall
      obtain ⟨hd15, hd1⟩ := H255
      clear hcall hd
      by_cases hd0 : d < 0
      · have HQ := Lib.hid (HBD.out (by rw [hok]; simp; omega))
        clear hok hvl hd1
        go_wp2_with (go_at_call 126; refine (HCALL.out _).mono ?_; rintro e w' ⟨rfl, rfl⟩)
        go_ret2
        exact ⟨by rw [HN.out, HQ.out]; rfl, by first | exact Below.refl _ _ | exact (Below.refl _ _).drew⟩
      by_cases hdb : 16 ≤ d
      · have HQ := Lib.hid (HBD.out (by rw [hok]; simp; omega))
        have hd0' : 0 ≤ d := by omega
        clear hok hvl hd1 hd0
        go_wp2_with (go_at_call 126; refine (HCALL.out _).mono ?_; rintro e w' ⟨rfl, rfl⟩)
        go_ret2
        exact ⟨by rw [HN.out, HQ.out]; rfl, by first | exact Below.refl _ _ | exact (Below.refl _ _).drew⟩
      have hd0' : 0 ≤ d := by omega
      have hdb' : d < 16 := by omega
      have ho : okDig 16 c = true := by rw [hok]; simp; omega
      have hdv := hvl hd0'
      by_cases hov : a * 16 + d < 18446744073709551616
      · have HNX := Lib.hid (HGO.out ho d hdv (a * 16 + d) bg (fun _ => ⟨rfl, rfl⟩) (fun h => absurd hov h))
        have htest : a ≤ (18446744073709551615 - d) / 16 := by omega
        clear hok hvl hd1 hd0 hdb ho hdv
        go_wp2_with (go_at_call 126; refine (HCALL.out _).mono ?_; rintro e w' ⟨rfl, rfl⟩)
        go_round
        case rel => exact ⟨k + 1, a * 16 + d, bg, rfl, rfl, by go_num, by omega, by omega, hov, HNX⟩
        case measure => simp [intOf]; omega
      · have hb64 : 0 ≤ (a * 16 + d) % 18446744073709551616 ∧ (a * 16 + d) % 18446744073709551616 < 18446744073709551616 := by omega
        have HNX := Lib.hid (HGO.out ho d hdv ((a * 16 + d) % 18446744073709551616) true (fun h => absurd h hov) (fun _ => rfl))
        have htest : (18446744073709551615 - d) / 16 < a := by omega
        clear hok hvl hd1 hd0 hdb ho hdv
        go_wp2_with (go_at_call 126; refine (HCALL.out _).mono ?_; rintro e w' ⟨rfl, rfl⟩)
        go_round
        case rel => exact ⟨k + 1, (a * 16 + d) % 18446744073709551616, true, congrArg (Value.int .u64) (by rw [IntKind.wrap_u64, IntKind.wrap_u64]; omega), rfl, by go_num, by omega, hb64.1, hb64.2, HNX⟩
        case measure => simp [intOf]; omega
    · have hkl : k = r.length := by omega
      subst hkl
      cases bg
      · obtain ⟨v, u, hv, hu, hv1, hv2⟩ := NInv.finP (sh := 10) (P := 1024) (by decide) HI.out hr
        by_cases hsv : u < 18446744073709551616
        · have HQ := Lib.hid (hv1 hsv)
          have hle : a ≤ 18014398509481983 := by omega
          have HVV : Hid (((u : Nat) : Int) = a * 1024) := Lib.hid (by omega)
          clear hv1 hv2 hsv hv hu
          go_wp2
          go_ret2
          refine ⟨ret_two (congrArg (Value.int .u64) ?_) (by rw [HN.out, HQ.out, numE_val]; rfl), by first | exact Below.refl _ _ | exact (Below.refl _ _).drew⟩
          rw [HN.out, HQ.out, numV_val, HVV.out]
          all_goals omega
        · have HQ := Lib.hid (hv2 hsv)
          have hle : 18014398509481983 < a := by omega
          clear hv1 hv2 hsv hv hu
          go_wp2
          go_ret2
          exact ⟨by rw [HN.out, HQ.out]; rfl, by first | exact Below.refl _ _ | exact (Below.refl _ _).drew⟩
      · have HQ := Lib.hid (NInv.fin_big (sh := 10) HI.out hr)
        go_wp2
        go_ret2
        exact ⟨by rw [HN.out, HQ.out]; rfl, by first | exact Below.refl _ _ | exact (Below.refl _ _).drew⟩

set_option maxRecDepth 50000 in
set_option maxHeartbeats 1000000 in
theorem rnum_K_bad (b : List UInt8) (w : World) (hbl : b.length ≤ 65536) (d : UInt8) (r : List UInt8) (hbe : b = 48 :: d :: r) (hbad : d ≠ 120 ∨ r = []) :
    Calls Tryz.prog 99 #[.string ⟨(b ++ [75]).toArray⟩] w fun e w' => e = .returned (.tuple #[.int .u64 (numV (num (b ++ [75]))), .int .i64 (numE (num (b ++ [75])))]) ∧ Below w.heap.size w w' := by
  have hszl : b.length < (⟨(b ++ [75]).toArray⟩ : ByteArray).size := by rw [ba_size]; simp
  have hxl : (⟨(b ++ [75]).toArray⟩ : ByteArray)[b.length]'hszl = 75 := by rw [at_eq _ _ _ (by simp)]; simp
  have hcutl := cut_to' (b ++ [75]) b.length
  rw [List.take_left] at hcutl
  have hB : body (b ++ [75]) = b ∧ sfx (b ++ [75]) = 10 := by rw [body_snoc, sfx_snoc]; exact ⟨rfl, rfl⟩
  have hnum : num (b ++ [75]) = numB 10 b := by rw [num_eqB, hB.1, hB.2]
  generalize num (b ++ [75]) = nn at *
  clear hB
  have hs0 : 0 < (⟨b.toArray⟩ : ByteArray).size := by rw [ba_size, hbe]; simp
  have hx0 : (⟨b.toArray⟩ : ByteArray)[0]'hs0 = 48 := by rw [at_eq _ _ _ (by rw [hbe]; simp)]; simp [hbe]
  have hs1 : 1 < (⟨b.toArray⟩ : ByteArray).size := by rw [ba_size, hbe]; simp
  have hx1 : (⟨b.toArray⟩ : ByteArray)[1]'hs1 = d := by rw [at_eq _ _ _ (by rw [hbe]; simp)]; simp [hbe]
  have h1 : 1 < b.length := by rw [hbe]; simp
  have hl0 : ((b.length : Int) == 0) = false := by rw [beq_eq_false_iff_ne]; omega
  have HN : Hid (nn = .bad) := Lib.hid (by rw [hnum, hbe]; exact numB_bad _ d r hbad)
  clear hnum
  rcases Nat.lt_or_ge 2 b.length with h2 | h2
  · have hdb : ((d.toNat : Int) == 120) = false := by
      rcases hbad with h | h
      · have : d.toNat ≠ 120 := fun hh => h (UInt8.toNat_inj.1 hh)
        simp; omega
      · rw [hbe, h] at h2; simp at h2
    clear hbe hbad
    go_enter Tryz.func99, Tryz.ntmps99
    go_wp2
    go_ret2
    exact ⟨by rw [HN.out]; rfl, Below.refl _ _⟩
  · clear hbe hbad
    go_enter Tryz.func99, Tryz.ntmps99
    go_wp2
    go_ret2
    exact ⟨by rw [HN.out]; rfl, Below.refl _ _⟩

set_option maxRecDepth 50000 in
set_option maxHeartbeats 1000000 in
theorem rnum_K_long (b : List UInt8) (w : World) (hbl : b.length ≤ 65536) (c d : UInt8) (r : List UInt8) (hbe : b = c :: d :: r) (hc : c ≠ 48) (h2 : 2 < b.length) :
    Calls Tryz.prog 99 #[.string ⟨(b ++ [75]).toArray⟩] w fun e w' => e = .returned (.tuple #[.int .u64 (numV (num (b ++ [75]))), .int .i64 (numE (num (b ++ [75])))]) ∧ Below w.heap.size w w' := by
  have hszl : b.length < (⟨(b ++ [75]).toArray⟩ : ByteArray).size := by rw [ba_size]; simp
  have hxl : (⟨(b ++ [75]).toArray⟩ : ByteArray)[b.length]'hszl = 75 := by rw [at_eq _ _ _ (by simp)]; simp
  have hcutl := cut_to' (b ++ [75]) b.length
  rw [List.take_left] at hcutl
  have hB : body (b ++ [75]) = b ∧ sfx (b ++ [75]) = 10 := by rw [body_snoc, sfx_snoc]; exact ⟨rfl, rfl⟩
  have hnum : num (b ++ [75]) = numB 10 b := by rw [num_eqB, hB.1, hB.2]
  generalize num (b ++ [75]) = nn at *
  clear hB
  have hs0 : 0 < (⟨b.toArray⟩ : ByteArray).size := by rw [ba_size, hbe]; simp
  have hx0 : (⟨b.toArray⟩ : ByteArray)[0]'hs0 = c := by rw [at_eq _ _ _ (by rw [hbe]; simp)]; simp [hbe]
  have hs1 : 1 < (⟨b.toArray⟩ : ByteArray).size := by rw [ba_size, hbe]; simp
  have hx1 : (⟨b.toArray⟩ : ByteArray)[1]'hs1 = d := by rw [at_eq _ _ _ (by rw [hbe]; simp)]; simp [hbe]
  have h1 : 1 < b.length := by rw [hbe]; simp
  have hl0 : ((b.length : Int) == 0) = false := by rw [beq_eq_false_iff_ne]; omega
  have hcb : ((c.toNat : Int) == 48) = false := by
    have : c.toNat ≠ 48 := fun h => hc (UInt8.toNat_inj.1 h)
    simp; omega
  have hcp : ¬ ((c.toNat : Int) = 48) := by
    have : c.toNat ≠ 48 := fun h => hc (UInt8.toNat_inj.1 h)
    omega
  have hsne : ¬ b = [] := by rw [hbe]; simp
  have HN : Hid (nn = digits 10 10 b) := Lib.hid (by rw [hnum, hbe]; exact numB_dec _ _ (fun x y h => hc (List.cons.inj h).1))
  clear hnum hbe hc
  have hsl : b.length ≤ 65536 := hbl
  go_enter Tryz.func99, Tryz.ntmps99
  go_wp2
  go_loop [6, 7, 8] (fun vv vb vi => ∃ (k : Nat) (a : Int) (bg : Bool), vv = .int .u64 a ∧ vb = .bool bg ∧ vi = .int .i64 k ∧ k ≤ b.length ∧ 0 ≤ a ∧ a < 18446744073709551616 ∧ Hid (NInv 10 b k a bg)) (fun _ _ vi => b.length - (intOf vi).toNat)
  case atStart => exact ⟨0, 0, false, rfl, rfl, rfl, Nat.zero_le _, by omega, by omega, Lib.hid ⟨rfl, fun _ => rfl, fun h => by cases h⟩⟩
  case round =>
    obtain ⟨k, a, bg, rfl, rfl, rfl, hk, ha0, ha1, HI⟩ := hrel
    rcases Nat.lt_or_ge k b.length with hlt | hge
    · have hbd := byte_bd b[k]
      have hszk : k < (⟨b.toArray⟩ : ByteArray).size := by rw [ba_size]; exact hlt
      have hxk : (⟨b.toArray⟩ : ByteArray)[k]'hszk = b[k] := rfl
      have hok := hx_ok b[k] 10 (by omega)
      have hvl := hx_val b[k]
      have HGO := Lib.hid fun ho (d : Int) hd (a2 : Int) (bg2 : Bool) h1 h2 => HI.out.go hlt (by omega) ho (d := d) hd (a2 := a2) (bg2 := bg2) h1 h2
      have HBD := Lib.hid fun ho => NInv.bad (base := 10) (sh := 10) hlt ho
      have H255 : hxI (b[k].toNat : Int) ≤ 15 ∧ -1 ≤ hxI (b[k].toNat : Int) := by unfold hxI; (repeat' split) <;> omega
      generalize b[k] = c at *
      obtain ⟨d, hd⟩ : ∃ d, d = hxI (c.toNat : Int) := ⟨_, rfl⟩
      rw [← hd] at hok hvl H255
      have hcall := fun W => rhex_any (c.toNat : Int) W hbd.1 hbd.2
      rw [← hd] at hcall
      have HCALL := Lib.hid hcall
      obtain ⟨hd15, hd1⟩ := H255
      clear hcall hd
      by_cases hd0 : d < 0
      · have HQ := Lib.hid (HBD.out (by rw [hok]; simp; omega))
        clear hok hvl hd1
        go_wp2_with (go_at_call 126; refine (HCALL.out _).mono ?_; rintro e w' ⟨rfl, rfl⟩)
        go_ret2
        exact ⟨by rw [HN.out, HQ.out]; rfl, by first | exact Below.refl _ _ | exact (Below.refl _ _).drew⟩
      by_cases hdb : 10 ≤ d
      · have HQ := Lib.hid (HBD.out (by rw [hok]; simp; omega))
        have hd0' : 0 ≤ d := by omega
        clear hok hvl hd1 hd0
        go_wp2_with (go_at_call 126; refine (HCALL.out _).mono ?_; rintro e w' ⟨rfl, rfl⟩)
        go_ret2
        exact ⟨by rw [HN.out, HQ.out]; rfl, by first | exact Below.refl _ _ | exact (Below.refl _ _).drew⟩
      have hd0' : 0 ≤ d := by omega
      have hdb' : d < 10 := by omega
      have ho : okDig 10 c = true := by rw [hok]; simp; omega
      have hdv := hvl hd0'
      by_cases hov : a * 10 + d < 18446744073709551616
      · have HNX := Lib.hid (HGO.out ho d hdv (a * 10 + d) bg (fun _ => ⟨rfl, rfl⟩) (fun h => absurd hov h))
        have htest : a ≤ (18446744073709551615 - d) / 10 := by omega
        clear hok hvl hd1 hd0 hdb ho hdv
        go_wp2_with (go_at_call 126; refine (HCALL.out _).mono ?_; rintro e w' ⟨rfl, rfl⟩)
        go_round
        case rel => exact ⟨k + 1, a * 10 + d, bg, rfl, rfl, by go_num, by omega, by omega, hov, HNX⟩
        case measure => simp [intOf]; omega
      · have hb64 : 0 ≤ (a * 10 + d) % 18446744073709551616 ∧ (a * 10 + d) % 18446744073709551616 < 18446744073709551616 := by omega
        have HNX := Lib.hid (HGO.out ho d hdv ((a * 10 + d) % 18446744073709551616) true (fun h => absurd h hov) (fun _ => rfl))
        have htest : (18446744073709551615 - d) / 10 < a := by omega
        clear hok hvl hd1 hd0 hdb ho hdv
        go_wp2_with (go_at_call 126; refine (HCALL.out _).mono ?_; rintro e w' ⟨rfl, rfl⟩)
        go_round
        case rel => exact ⟨k + 1, (a * 10 + d) % 18446744073709551616, true, congrArg (Value.int .u64) (by rw [IntKind.wrap_u64, IntKind.wrap_u64]; omega), rfl, by go_num, by omega, hb64.1, hb64.2, HNX⟩
        case measure => simp [intOf]; omega
    · have hkl : k = b.length := by omega
      subst hkl
      cases bg
      · obtain ⟨v, u, hv, hu, hv1, hv2⟩ := NInv.finP (sh := 10) (P := 1024) (by decide) HI.out hsne
        by_cases hsv : u < 18446744073709551616
        · have HQ := Lib.hid (hv1 hsv)
          have hle : a ≤ 18014398509481983 := by omega
          have HVV : Hid (((u : Nat) : Int) = a * 1024) := Lib.hid (by omega)
          clear hv1 hv2 hsv hv hu
          go_wp2
          go_ret2
          refine ⟨ret_two (congrArg (Value.int .u64) ?_) (by rw [HN.out, HQ.out, numE_val]; rfl), by first | exact Below.refl _ _ | exact (Below.refl _ _).drew⟩
          rw [HN.out, HQ.out, numV_val, HVV.out]
          all_goals omega
        · have HQ := Lib.hid (hv2 hsv)
          have hle : 18014398509481983 < a := by omega
          clear hv1 hv2 hsv hv hu
          go_wp2
          go_ret2
          exact ⟨by rw [HN.out, HQ.out]; rfl, by first | exact Below.refl _ _ | exact (Below.refl _ _).drew⟩
      · have HQ := Lib.hid (NInv.fin_big (sh := 10) HI.out hsne)
        go_wp2
        go_ret2
        exact ⟨by rw [HN.out, HQ.out]; rfl, by first | exact Below.refl _ _ | exact (Below.refl _ _).drew⟩

set_option maxRecDepth 50000 in
set_option maxHeartbeats 1000000 in
theorem rnum_K_two (b : List UInt8) (w : World) (hbl : b.length ≤ 65536) (c d : UInt8) (r : List UInt8) (hbe : b = c :: d :: r) (hc : c ≠ 48) (h2 : b.length ≤ 2) :
    Calls Tryz.prog 99 #[.string ⟨(b ++ [75]).toArray⟩] w fun e w' => e = .returned (.tuple #[.int .u64 (numV (num (b ++ [75]))), .int .i64 (numE (num (b ++ [75])))]) ∧ Below w.heap.size w w' := by
  have hszl : b.length < (⟨(b ++ [75]).toArray⟩ : ByteArray).size := by rw [ba_size]; simp
  have hxl : (⟨(b ++ [75]).toArray⟩ : ByteArray)[b.length]'hszl = 75 := by rw [at_eq _ _ _ (by simp)]; simp
  have hcutl := cut_to' (b ++ [75]) b.length
  rw [List.take_left] at hcutl
  have hB : body (b ++ [75]) = b ∧ sfx (b ++ [75]) = 10 := by rw [body_snoc, sfx_snoc]; exact ⟨rfl, rfl⟩
  have hnum : num (b ++ [75]) = numB 10 b := by rw [num_eqB, hB.1, hB.2]
  generalize num (b ++ [75]) = nn at *
  clear hB
  have hs0 : 0 < (⟨b.toArray⟩ : ByteArray).size := by rw [ba_size, hbe]; simp
  have hx0 : (⟨b.toArray⟩ : ByteArray)[0]'hs0 = c := by rw [at_eq _ _ _ (by rw [hbe]; simp)]; simp [hbe]
  have hs1 : 1 < (⟨b.toArray⟩ : ByteArray).size := by rw [ba_size, hbe]; simp
  have hx1 : (⟨b.toArray⟩ : ByteArray)[1]'hs1 = d := by rw [at_eq _ _ _ (by rw [hbe]; simp)]; simp [hbe]
  have h1 : 1 < b.length := by rw [hbe]; simp
  have hl0 : ((b.length : Int) == 0) = false := by rw [beq_eq_false_iff_ne]; omega
  have hcb : ((c.toNat : Int) == 48) = false := by
    have : c.toNat ≠ 48 := fun h => hc (UInt8.toNat_inj.1 h)
    simp; omega
  have hcp : ¬ ((c.toNat : Int) = 48) := by
    have : c.toNat ≠ 48 := fun h => hc (UInt8.toNat_inj.1 h)
    omega
  have hsne : ¬ b = [] := by rw [hbe]; simp
  have HN : Hid (nn = digits 10 10 b) := Lib.hid (by rw [hnum, hbe]; exact numB_dec _ _ (fun x y h => hc (List.cons.inj h).1))
  clear hnum hbe hc
  have hsl : b.length ≤ 65536 := hbl
  go_enter Tryz.func99, Tryz.ntmps99
  go_wp2
  go_loop [6, 7, 8] (fun vv vb vi => ∃ (k : Nat) (a : Int) (bg : Bool), vv = .int .u64 a ∧ vb = .bool bg ∧ vi = .int .i64 k ∧ k ≤ b.length ∧ 0 ≤ a ∧ a < 18446744073709551616 ∧ Hid (NInv 10 b k a bg)) (fun _ _ vi => b.length - (intOf vi).toNat)
  case atStart => exact ⟨0, 0, false, rfl, rfl, rfl, Nat.zero_le _, by omega, by omega, Lib.hid ⟨rfl, fun _ => rfl, fun h => by cases h⟩⟩
  case round =>
    obtain ⟨k, a, bg, rfl, rfl, rfl, hk, ha0, ha1, HI⟩ := hrel
    rcases Nat.lt_or_ge k b.length with hlt | hge
    · have hbd := byte_bd b[k]
      have hszk : k < (⟨b.toArray⟩ : ByteArray).size := by rw [ba_size]; exact hlt
      have hxk : (⟨b.toArray⟩ : ByteArray)[k]'hszk = b[k] := rfl
      have hok := hx_ok b[k] 10 (by omega)
      have hvl := hx_val b[k]
      have HGO := Lib.hid fun ho (d : Int) hd (a2 : Int) (bg2 : Bool) h1 h2 => HI.out.go hlt (by omega) ho (d := d) hd (a2 := a2) (bg2 := bg2) h1 h2
      have HBD := Lib.hid fun ho => NInv.bad (base := 10) (sh := 10) hlt ho
      have H255 : hxI (b[k].toNat : Int) ≤ 15 ∧ -1 ≤ hxI (b[k].toNat : Int) := by unfold hxI; (repeat' split) <;> omega
      generalize b[k] = c at *
      obtain ⟨d, hd⟩ : ∃ d, d = hxI (c.toNat : Int) := ⟨_, rfl⟩
      rw [← hd] at hok hvl H255
      have hcall := fun W => rhex_any (c.toNat : Int) W hbd.1 hbd.2
      rw [← hd] at hcall
      have HCALL := Lib.hid hcall
      obtain ⟨hd15, hd1⟩ := H255
      clear hcall hd
      by_cases hd0 : d < 0
      · have HQ := Lib.hid (HBD.out (by rw [hok]; simp; omega))
        clear hok hvl hd1
        go_wp2_with (go_at_call 126; refine (HCALL.out _).mono ?_; rintro e w' ⟨rfl, rfl⟩)
        go_ret2
        exact ⟨by rw [HN.out, HQ.out]; rfl, by first | exact Below.refl _ _ | exact (Below.refl _ _).drew⟩
      by_cases hdb : 10 ≤ d
      · have HQ := Lib.hid (HBD.out (by rw [hok]; simp; omega))
        have hd0' : 0 ≤ d := by omega
        clear hok hvl hd1 hd0
        go_wp2_with (go_at_call 126; refine (HCALL.out _).mono ?_; rintro e w' ⟨rfl, rfl⟩)
        go_ret2
        exact ⟨by rw [HN.out, HQ.out]; rfl, by first | exact Below.refl _ _ | exact (Below.refl _ _).drew⟩
      have hd0' : 0 ≤ d := by omega
      have hdb' : d < 10 := by omega
      have ho : okDig 10 c = true := by rw [hok]; simp; omega
      have hdv := hvl hd0'
      by_cases hov : a * 10 + d < 18446744073709551616
      · have HNX := Lib.hid (HGO.out ho d hdv (a * 10 + d) bg (fun _ => ⟨rfl, rfl⟩) (fun h => absurd hov h))
        have htest : a ≤ (18446744073709551615 - d) / 10 := by omega
        clear hok hvl hd1 hd0 hdb ho hdv
        go_wp2_with (go_at_call 126; refine (HCALL.out _).mono ?_; rintro e w' ⟨rfl, rfl⟩)
        go_round
        case rel => exact ⟨k + 1, a * 10 + d, bg, rfl, rfl, by go_num, by omega, by omega, hov, HNX⟩
        case measure => simp [intOf]; omega
      · have hb64 : 0 ≤ (a * 10 + d) % 18446744073709551616 ∧ (a * 10 + d) % 18446744073709551616 < 18446744073709551616 := by omega
        have HNX := Lib.hid (HGO.out ho d hdv ((a * 10 + d) % 18446744073709551616) true (fun h => absurd h hov) (fun _ => rfl))
        have htest : (18446744073709551615 - d) / 10 < a := by omega
        clear hok hvl hd1 hd0 hdb ho hdv
        go_wp2_with (go_at_call 126; refine (HCALL.out _).mono ?_; rintro e w' ⟨rfl, rfl⟩)
        go_round
        case rel => exact ⟨k + 1, (a * 10 + d) % 18446744073709551616, true, congrArg (Value.int .u64) (by rw [IntKind.wrap_u64, IntKind.wrap_u64]; omega), rfl, by go_num, by omega, hb64.1, hb64.2, HNX⟩
        case measure => simp [intOf]; omega
    · have hkl : k = b.length := by omega
      subst hkl
      cases bg
      · obtain ⟨v, u, hv, hu, hv1, hv2⟩ := NInv.finP (sh := 10) (P := 1024) (by decide) HI.out hsne
        by_cases hsv : u < 18446744073709551616
        · have HQ := Lib.hid (hv1 hsv)
          have hle : a ≤ 18014398509481983 := by omega
          have HVV : Hid (((u : Nat) : Int) = a * 1024) := Lib.hid (by omega)
          clear hv1 hv2 hsv hv hu
          go_wp2
          go_ret2
          refine ⟨ret_two (congrArg (Value.int .u64) ?_) (by rw [HN.out, HQ.out, numE_val]; rfl), by first | exact Below.refl _ _ | exact (Below.refl _ _).drew⟩
          rw [HN.out, HQ.out, numV_val, HVV.out]
          all_goals omega
        · have HQ := Lib.hid (hv2 hsv)
          have hle : 18014398509481983 < a := by omega
          clear hv1 hv2 hsv hv hu
          go_wp2
          go_ret2
          exact ⟨by rw [HN.out, HQ.out]; rfl, by first | exact Below.refl _ _ | exact (Below.refl _ _).drew⟩
      · have HQ := Lib.hid (NInv.fin_big (sh := 10) HI.out hsne)
        go_wp2
        go_ret2
        exact ⟨by rw [HN.out, HQ.out]; rfl, by first | exact Below.refl _ _ | exact (Below.refl _ _).drew⟩

set_option maxRecDepth 50000 in
set_option maxHeartbeats 1000000 in
theorem rnum_K_one (b : List UInt8) (w : World) (hbl : b.length ≤ 65536) (c : UInt8) (hbe : b = [c]) :
    Calls Tryz.prog 99 #[.string ⟨(b ++ [75]).toArray⟩] w fun e w' => e = .returned (.tuple #[.int .u64 (numV (num (b ++ [75]))), .int .i64 (numE (num (b ++ [75])))]) ∧ Below w.heap.size w w' := by
  have hszl : b.length < (⟨(b ++ [75]).toArray⟩ : ByteArray).size := by rw [ba_size]; simp
  have hxl : (⟨(b ++ [75]).toArray⟩ : ByteArray)[b.length]'hszl = 75 := by rw [at_eq _ _ _ (by simp)]; simp
  have hcutl := cut_to' (b ++ [75]) b.length
  rw [List.take_left] at hcutl
  have hB : body (b ++ [75]) = b ∧ sfx (b ++ [75]) = 10 := by rw [body_snoc, sfx_snoc]; exact ⟨rfl, rfl⟩
  have hnum : num (b ++ [75]) = numB 10 b := by rw [num_eqB, hB.1, hB.2]
  generalize num (b ++ [75]) = nn at *
  clear hB
  have hsne : ¬ b = [] := by rw [hbe]; simp
  have h1 : b.length ≤ 1 := by rw [hbe]; simp
  have h0 : 0 < b.length := by rw [hbe]; simp
  have hl0 : ((b.length : Int) == 0) = false := by rw [beq_eq_false_iff_ne]; omega
  have HN : Hid (nn = digits 10 10 b) := Lib.hid (by rw [hnum]; exact numB_dec _ _ (fun x y h => by rw [h] at h1; simp at h1))
  clear hnum hbe
  have hsl : b.length ≤ 65536 := hbl
  go_enter Tryz.func99, Tryz.ntmps99
  go_wp2
  go_loop [6, 7, 8] (fun vv vb vi => ∃ (k : Nat) (a : Int) (bg : Bool), vv = .int .u64 a ∧ vb = .bool bg ∧ vi = .int .i64 k ∧ k ≤ b.length ∧ 0 ≤ a ∧ a < 18446744073709551616 ∧ Hid (NInv 10 b k a bg)) (fun _ _ vi => b.length - (intOf vi).toNat)
  case atStart => exact ⟨0, 0, false, rfl, rfl, rfl, Nat.zero_le _, by omega, by omega, Lib.hid ⟨rfl, fun _ => rfl, fun h => by cases h⟩⟩
  case round =>
    obtain ⟨k, a, bg, rfl, rfl, rfl, hk, ha0, ha1, HI⟩ := hrel
    rcases Nat.lt_or_ge k b.length with hlt | hge
    · have hbd := byte_bd b[k]
      have hszk : k < (⟨b.toArray⟩ : ByteArray).size := by rw [ba_size]; exact hlt
      have hxk : (⟨b.toArray⟩ : ByteArray)[k]'hszk = b[k] := rfl
      have hok := hx_ok b[k] 10 (by omega)
      have hvl := hx_val b[k]
      have HGO := Lib.hid fun ho (d : Int) hd (a2 : Int) (bg2 : Bool) h1 h2 => HI.out.go hlt (by omega) ho (d := d) hd (a2 := a2) (bg2 := bg2) h1 h2
      have HBD := Lib.hid fun ho => NInv.bad (base := 10) (sh := 10) hlt ho
      have H255 : hxI (b[k].toNat : Int) ≤ 15 ∧ -1 ≤ hxI (b[k].toNat : Int) := by unfold hxI; (repeat' split) <;> omega
      generalize b[k] = c at *
      obtain ⟨d, hd⟩ : ∃ d, d = hxI (c.toNat : Int) := ⟨_, rfl⟩
      rw [← hd] at hok hvl H255
      have hcall := fun W => rhex_any (c.toNat : Int) W hbd.1 hbd.2
      rw [← hd] at hcall
      have HCALL := Lib.hid hcall
      obtain ⟨hd15, hd1⟩ := H255
      clear hcall hd
      by_cases hd0 : d < 0
      · have HQ := Lib.hid (HBD.out (by rw [hok]; simp; omega))
        clear hok hvl hd1
        go_wp2_with (go_at_call 126; refine (HCALL.out _).mono ?_; rintro e w' ⟨rfl, rfl⟩)
        go_ret2
        exact ⟨by rw [HN.out, HQ.out]; rfl, by first | exact Below.refl _ _ | exact (Below.refl _ _).drew⟩
      by_cases hdb : 10 ≤ d
      · have HQ := Lib.hid (HBD.out (by rw [hok]; simp; omega))
        have hd0' : 0 ≤ d := by omega
        clear hok hvl hd1 hd0
        go_wp2_with (go_at_call 126; refine (HCALL.out _).mono ?_; rintro e w' ⟨rfl, rfl⟩)
        go_ret2
        exact ⟨by rw [HN.out, HQ.out]; rfl, by first | exact Below.refl _ _ | exact (Below.refl _ _).drew⟩
      have hd0' : 0 ≤ d := by omega
      have hdb' : d < 10 := by omega
      have ho : okDig 10 c = true := by rw [hok]; simp; omega
      have hdv := hvl hd0'
      by_cases hov : a * 10 + d < 18446744073709551616
      · have HNX := Lib.hid (HGO.out ho d hdv (a * 10 + d) bg (fun _ => ⟨rfl, rfl⟩) (fun h => absurd hov h))
        have htest : a ≤ (18446744073709551615 - d) / 10 := by omega
        clear hok hvl hd1 hd0 hdb ho hdv
        go_wp2_with (go_at_call 126; refine (HCALL.out _).mono ?_; rintro e w' ⟨rfl, rfl⟩)
        go_round
        case rel => exact ⟨k + 1, a * 10 + d, bg, rfl, rfl, by go_num, by omega, by omega, hov, HNX⟩
        case measure => simp [intOf]; omega
      · have hb64 : 0 ≤ (a * 10 + d) % 18446744073709551616 ∧ (a * 10 + d) % 18446744073709551616 < 18446744073709551616 := by omega
        have HNX := Lib.hid (HGO.out ho d hdv ((a * 10 + d) % 18446744073709551616) true (fun h => absurd h hov) (fun _ => rfl))
        have htest : (18446744073709551615 - d) / 10 < a := by omega
        clear hok hvl hd1 hd0 hdb ho hdv
        go_wp2_with (go_at_call 126; refine (HCALL.out _).mono ?_; rintro e w' ⟨rfl, rfl⟩)
        go_round
        case rel => exact ⟨k + 1, (a * 10 + d) % 18446744073709551616, true, congrArg (Value.int .u64) (by rw [IntKind.wrap_u64, IntKind.wrap_u64]; omega), rfl, by go_num, by omega, hb64.1, hb64.2, HNX⟩
        case measure => simp [intOf]; omega
    · have hkl : k = b.length := by omega
      subst hkl
      cases bg
      · obtain ⟨v, u, hv, hu, hv1, hv2⟩ := NInv.finP (sh := 10) (P := 1024) (by decide) HI.out hsne
        by_cases hsv : u < 18446744073709551616
        · have HQ := Lib.hid (hv1 hsv)
          have hle : a ≤ 18014398509481983 := by omega
          have HVV : Hid (((u : Nat) : Int) = a * 1024) := Lib.hid (by omega)
          clear hv1 hv2 hsv hv hu
          go_wp2
          go_ret2
          refine ⟨ret_two (congrArg (Value.int .u64) ?_) (by rw [HN.out, HQ.out, numE_val]; rfl), by first | exact Below.refl _ _ | exact (Below.refl _ _).drew⟩
          rw [HN.out, HQ.out, numV_val, HVV.out]
          all_goals omega
        · have HQ := Lib.hid (hv2 hsv)
          have hle : 18014398509481983 < a := by omega
          clear hv1 hv2 hsv hv hu
          go_wp2
          go_ret2
          exact ⟨by rw [HN.out, HQ.out]; rfl, by first | exact Below.refl _ _ | exact (Below.refl _ _).drew⟩
      · have HQ := Lib.hid (NInv.fin_big (sh := 10) HI.out hsne)
        go_wp2
        go_ret2
        exact ⟨by rw [HN.out, HQ.out]; rfl, by first | exact Below.refl _ _ | exact (Below.refl _ _).drew⟩

set_option maxRecDepth 50000 in
set_option maxHeartbeats 1000000 in
theorem rnum_K_nil (b : List UInt8) (w : World) (hbl : b.length ≤ 65536) (hbe : b = []) :
    Calls Tryz.prog 99 #[.string ⟨(b ++ [75]).toArray⟩] w fun e w' => e = .returned (.tuple #[.int .u64 (numV (num (b ++ [75]))), .int .i64 (numE (num (b ++ [75])))]) ∧ Below w.heap.size w w' := by
  have hszl : b.length < (⟨(b ++ [75]).toArray⟩ : ByteArray).size := by rw [ba_size]; simp
  have hxl : (⟨(b ++ [75]).toArray⟩ : ByteArray)[b.length]'hszl = 75 := by rw [at_eq _ _ _ (by simp)]; simp
  have hcutl := cut_to' (b ++ [75]) b.length
  rw [List.take_left] at hcutl
  have hB : body (b ++ [75]) = b ∧ sfx (b ++ [75]) = 10 := by rw [body_snoc, sfx_snoc]; exact ⟨rfl, rfl⟩
  have hnum : num (b ++ [75]) = numB 10 b := by rw [num_eqB, hB.1, hB.2]
  generalize num (b ++ [75]) = nn at *
  clear hB
  have HN : Hid (nn = .bad) := Lib.hid (by rw [hnum, hbe]; exact (numB_dec _ _ (fun x y h => by cases h)).trans (digits_bad1 _ _ _ rfl))
  clear hnum
  subst hbe
  go_enter Tryz.func99, Tryz.ntmps99
  go_wp2
  go_ret2
  exact ⟨by rw [HN.out]; rfl, Below.refl _ _⟩

theorem rnum_K (b : List UInt8) (w : World) (hbl : b.length ≤ 65536) :
    Calls Tryz.prog 99 #[.string ⟨(b ++ [75]).toArray⟩] w fun e w' => e = .returned (.tuple #[.int .u64 (numV (num (b ++ [75]))), .int .i64 (numE (num (b ++ [75])))]) ∧ Below w.heap.size w w' := by
  match hbe : b with
  | [] => exact rnum_K_nil _ w hbl rfl
  | [c] => exact rnum_K_one _ w hbl c rfl
  | c :: d :: r =>
    by_cases hc : c = 48
    · subst hc
      by_cases h : d = 120 ∧ ¬ r = []
      · obtain ⟨rfl, hr⟩ := h
        exact rnum_K_hex _ w hbl r rfl hr
      · refine rnum_K_bad _ w hbl d r rfl ?_
        by_cases hd : d = 120
        · exact .inr (Classical.not_not.1 fun hr => h ⟨hd, hr⟩)
        · exact .inl hd
    · rcases Nat.lt_or_ge 2 (c :: d :: r).length with h2 | h2
      · exact rnum_K_long _ w hbl c d r rfl hc h2
      · exact rnum_K_two _ w hbl c d r rfl hc h2
end Go.Proofs.YtmodjokoggmnaaaGreatDoor


namespace Go.Proofs.YtmodjokoggmnaaaGreatDoor

open Go.RowKit Go.Shelf


set_option maxRecDepth 50000 in
set_option maxHeartbeats 1000000 in
theorem rnum_M_hex (b : List UInt8) (w : World) (hbl : b.length ≤ 65536) (r : List UInt8) (hbe : b = 48 :: 120 :: r) (hr : ¬ r = []) :
    Calls Tryz.prog 99 #[.string ⟨(b ++ [77]).toArray⟩] w fun e w' => e = .returned (.tuple #[.int .u64 (numV (num (b ++ [77]))), .int .i64 (numE (num (b ++ [77])))]) ∧ Below w.heap.size w w' := by
  have hszl : b.length < (⟨(b ++ [77]).toArray⟩ : ByteArray).size := by rw [ba_size]; simp
  have hxl : (⟨(b ++ [77]).toArray⟩ : ByteArray)[b.length]'hszl = 77 := by rw [at_eq _ _ _ (by simp)]; simp
  have hcutl := cut_to' (b ++ [77]) b.length
  rw [List.take_left] at hcutl
  have hB : body (b ++ [77]) = b ∧ sfx (b ++ [77]) = 20 := by rw [body_snoc, sfx_snoc]; exact ⟨rfl, rfl⟩
  have hnum : num (b ++ [77]) = numB 20 b := by rw [num_eqB, hB.1, hB.2]
  generalize num (b ++ [77]) = nn at *
  clear hB
  have hs0 : 0 < (⟨b.toArray⟩ : ByteArray).size := by rw [ba_size, hbe]; simp
  have hx0 : (⟨b.toArray⟩ : ByteArray)[0]'hs0 = 48 := by rw [at_eq _ _ _ (by rw [hbe]; simp)]; simp [hbe]
  have hs1 : 1 < (⟨b.toArray⟩ : ByteArray).size := by rw [ba_size, hbe]; simp
  have hx1 : (⟨b.toArray⟩ : ByteArray)[1]'hs1 = 120 := by rw [at_eq _ _ _ (by rw [hbe]; simp)]; simp [hbe]
  have h1 : 1 < b.length := by rw [hbe]; simp
  have hl0 : ((b.length : Int) == 0) = false := by rw [beq_eq_false_iff_ne]; omega
  have h2 : 2 < b.length := by
    rw [hbe]
    have := List.length_pos_iff.2 hr
    simp; omega
  have hcut2 := cut_from' b 2 b.length (Nat.le_refl _)
  have hdr : b.drop 2 = r := by rw [hbe]; rfl
  rw [hdr] at hcut2
  have hsl : r.length ≤ 65536 := by have := congrArg List.length hbe; simp at this; omega
  have HN : Hid (nn = digits 16 20 r) := Lib.hid (by rw [hnum, hbe]; exact numB_hex _ r)
  clear hnum hbe hdr
  go_enter Tryz.func99, Tryz.ntmps99
  go_wp2
  go_region
  all_goals go_wp2
  go_loop [6, 7, 8] (fun vv vb vi => ∃ (k : Nat) (a : Int) (bg : Bool), vv = .int .u64 a ∧ vb = .bool bg ∧ vi = .int .i64 k ∧ k ≤ r.length ∧ 0 ≤ a ∧ a < 18446744073709551616 ∧ Hid (NInv 16 r k a bg)) (fun _ _ vi => r.length - (intOf vi).toNat)
  case atStart => exact ⟨0, 0, false, rfl, rfl, rfl, Nat.zero_le _, by omega, by omega, Lib.hid ⟨rfl, fun _ => rfl, fun h => by cases h⟩⟩
  case round =>
    obtain ⟨k, a, bg, rfl, rfl, rfl, hk, ha0, ha1, HI⟩ := hrel
    rcases Nat.lt_or_ge k r.length with hlt | hge
    · have hbd := byte_bd r[k]
      have hszk : k < (⟨r.toArray⟩ : ByteArray).size := by rw [ba_size]; exact hlt
      have hxk : (⟨r.toArray⟩ : ByteArray)[k]'hszk = r[k] := rfl
      have hok := hx_ok r[k] 16 (by omega)
      have hvl := hx_val r[k]
      have HGO := Lib.hid fun ho (d : Int) hd (a2 : Int) (bg2 : Bool) h1 h2 => HI.out.go hlt (by omega) ho (d := d) hd (a2 := a2) (bg2 := bg2) h1 h2
      have HBD := Lib.hid fun ho => NInv.bad (base := 16) (sh := 20) hlt ho
      have H255 : hxI (r[k].toNat : Int) ≤ 15 ∧ -1 ≤ hxI (r[k].toNat : Int) := by unfold hxI; (repeat' split) <;> omega
      generalize r[k] = c at *
      obtain ⟨d, hd⟩ : ∃ d, d = hxI (c.toNat : Int) := ⟨_, rfl⟩
      rw [← hd] at hok hvl H255
      have hcall := fun W => rhex_any (c.toNat : Int) W hbd.1 hbd.2
      rw [← hd] at hcall
      have HCALL := Lib.hid hcall
      obtain ⟨hd15, hd1⟩ := H255
      clear hcall hd
      by_cases hd0 : d < 0
      · have HQ := Lib.hid (HBD.out (by rw [hok]; simp; omega))
        clear hok hvl hd1
        go_wp2_with (go_at_call 126; refine (HCALL.out _).mono ?_; rintro e w' ⟨rfl, rfl⟩)
        go_ret2
        exact ⟨by rw [HN.out, HQ.out]; rfl, by first | exact Below.refl _ _ | exact (Below.refl _ _).drew⟩
      by_cases hdb : 16 ≤ d
      · have HQ := Lib.hid (HBD.out (by rw [hok]; simp; omega))
        have hd0' : 0 ≤ d := by omega
        clear hok hvl hd1 hd0
        go_wp2_with (go_at_call 126; refine (HCALL.out _).mono ?_; rintro e w' ⟨rfl, rfl⟩)
        go_ret2
        exact ⟨by rw [HN.out, HQ.out]; rfl, by first | exact Below.refl _ _ | exact (Below.refl _ _).drew⟩
      have hd0' : 0 ≤ d := by omega
      have hdb' : d < 16 := by omega
      have ho : okDig 16 c = true := by rw [hok]; simp; omega
      have hdv := hvl hd0'
      by_cases hov : a * 16 + d < 18446744073709551616
      · have HNX := Lib.hid (HGO.out ho d hdv (a * 16 + d) bg (fun _ => ⟨rfl, rfl⟩) (fun h => absurd hov h))
        have htest : a ≤ (18446744073709551615 - d) / 16 := by omega
        clear hok hvl hd1 hd0 hdb ho hdv
        go_wp2_with (go_at_call 126; refine (HCALL.out _).mono ?_; rintro e w' ⟨rfl, rfl⟩)
        go_round
        case rel => exact ⟨k + 1, a * 16 + d, bg, rfl, rfl, by go_num, by omega, by omega, hov, HNX⟩
        case measure => simp [intOf]; omega
      · have hb64 : 0 ≤ (a * 16 + d) % 18446744073709551616 ∧ (a * 16 + d) % 18446744073709551616 < 18446744073709551616 := by omega
        have HNX := Lib.hid (HGO.out ho d hdv ((a * 16 + d) % 18446744073709551616) true (fun h => absurd h hov) (fun _ => rfl))
        have htest : (18446744073709551615 - d) / 16 < a := by omega
        clear hok hvl hd1 hd0 hdb ho hdv
        go_wp2_with (go_at_call 126; refine (HCALL.out _).mono ?_; rintro e w' ⟨rfl, rfl⟩)
        go_round
        case rel => exact ⟨k + 1, (a * 16 + d) % 18446744073709551616, true, congrArg (Value.int .u64) (by rw [IntKind.wrap_u64, IntKind.wrap_u64]; omega), rfl, by go_num, by omega, hb64.1, hb64.2, HNX⟩
        case measure => simp [intOf]; omega
    · have hkl : k = r.length := by omega
      subst hkl
      cases bg
      · obtain ⟨v, u, hv, hu, hv1, hv2⟩ := NInv.finP (sh := 20) (P := 1048576) (by decide) HI.out hr
        by_cases hsv : u < 18446744073709551616
        · have HQ := Lib.hid (hv1 hsv)
          have hle : a ≤ 17592186044415 := by omega
          have HVV : Hid (((u : Nat) : Int) = a * 1048576) := Lib.hid (by omega)
          clear hv1 hv2 hsv hv hu
          go_wp2
          go_ret2
          refine ⟨ret_two (congrArg (Value.int .u64) ?_) (by rw [HN.out, HQ.out, numE_val]; rfl), by first | exact Below.refl _ _ | exact (Below.refl _ _).drew⟩
          rw [HN.out, HQ.out, numV_val, HVV.out]
          all_goals omega
        · have HQ := Lib.hid (hv2 hsv)
          have hle : 17592186044415 < a := by omega
          clear hv1 hv2 hsv hv hu
          go_wp2
          go_ret2
          exact ⟨by rw [HN.out, HQ.out]; rfl, by first | exact Below.refl _ _ | exact (Below.refl _ _).drew⟩
      · have HQ := Lib.hid (NInv.fin_big (sh := 20) HI.out hr)
        go_wp2
        go_ret2
        exact ⟨by rw [HN.out, HQ.out]; rfl, by first | exact Below.refl _ _ | exact (Below.refl _ _).drew⟩

set_option maxRecDepth 50000 in
set_option maxHeartbeats 1000000 in
theorem rnum_M_bad (b : List UInt8) (w : World) (hbl : b.length ≤ 65536) (d : UInt8) (r : List UInt8) (hbe : b = 48 :: d :: r) (hbad : d ≠ 120 ∨ r = []) :
    Calls Tryz.prog 99 #[.string ⟨(b ++ [77]).toArray⟩] w fun e w' => e = .returned (.tuple #[.int .u64 (numV (num (b ++ [77]))), .int .i64 (numE (num (b ++ [77])))]) ∧ Below w.heap.size w w' := by
  have hszl : b.length < (⟨(b ++ [77]).toArray⟩ : ByteArray).size := by rw [ba_size]; simp
  have hxl : (⟨(b ++ [77]).toArray⟩ : ByteArray)[b.length]'hszl = 77 := by rw [at_eq _ _ _ (by simp)]; simp
  have hcutl := cut_to' (b ++ [77]) b.length
  rw [List.take_left] at hcutl
  have hB : body (b ++ [77]) = b ∧ sfx (b ++ [77]) = 20 := by rw [body_snoc, sfx_snoc]; exact ⟨rfl, rfl⟩
  have hnum : num (b ++ [77]) = numB 20 b := by rw [num_eqB, hB.1, hB.2]
  generalize num (b ++ [77]) = nn at *
  clear hB
  have hs0 : 0 < (⟨b.toArray⟩ : ByteArray).size := by rw [ba_size, hbe]; simp
  have hx0 : (⟨b.toArray⟩ : ByteArray)[0]'hs0 = 48 := by rw [at_eq _ _ _ (by rw [hbe]; simp)]; simp [hbe]
  have hs1 : 1 < (⟨b.toArray⟩ : ByteArray).size := by rw [ba_size, hbe]; simp
  have hx1 : (⟨b.toArray⟩ : ByteArray)[1]'hs1 = d := by rw [at_eq _ _ _ (by rw [hbe]; simp)]; simp [hbe]
  have h1 : 1 < b.length := by rw [hbe]; simp
  have hl0 : ((b.length : Int) == 0) = false := by rw [beq_eq_false_iff_ne]; omega
  have HN : Hid (nn = .bad) := Lib.hid (by rw [hnum, hbe]; exact numB_bad _ d r hbad)
  clear hnum
  rcases Nat.lt_or_ge 2 b.length with h2 | h2
  · have hdb : ((d.toNat : Int) == 120) = false := by
      rcases hbad with h | h
      · have : d.toNat ≠ 120 := fun hh => h (UInt8.toNat_inj.1 hh)
        simp; omega
      · rw [hbe, h] at h2; simp at h2
    clear hbe hbad
    go_enter Tryz.func99, Tryz.ntmps99
    go_wp2
    go_ret2
    exact ⟨by rw [HN.out]; rfl, Below.refl _ _⟩
  · clear hbe hbad
    go_enter Tryz.func99, Tryz.ntmps99
    go_wp2
    go_ret2
    exact ⟨by rw [HN.out]; rfl, Below.refl _ _⟩

set_option maxRecDepth 50000 in
set_option maxHeartbeats 1000000 in
theorem rnum_M_long (b : List UInt8) (w : World) (hbl : b.length ≤ 65536) (c d : UInt8) (r : List UInt8) (hbe : b = c :: d :: r) (hc : c ≠ 48) (h2 : 2 < b.length) :
    Calls Tryz.prog 99 #[.string ⟨(b ++ [77]).toArray⟩] w fun e w' => e = .returned (.tuple #[.int .u64 (numV (num (b ++ [77]))), .int .i64 (numE (num (b ++ [77])))]) ∧ Below w.heap.size w w' := by
  have hszl : b.length < (⟨(b ++ [77]).toArray⟩ : ByteArray).size := by rw [ba_size]; simp
  have hxl : (⟨(b ++ [77]).toArray⟩ : ByteArray)[b.length]'hszl = 77 := by rw [at_eq _ _ _ (by simp)]; simp
  have hcutl := cut_to' (b ++ [77]) b.length
  rw [List.take_left] at hcutl
  have hB : body (b ++ [77]) = b ∧ sfx (b ++ [77]) = 20 := by rw [body_snoc, sfx_snoc]; exact ⟨rfl, rfl⟩
  have hnum : num (b ++ [77]) = numB 20 b := by rw [num_eqB, hB.1, hB.2]
  generalize num (b ++ [77]) = nn at *
  clear hB
  have hs0 : 0 < (⟨b.toArray⟩ : ByteArray).size := by rw [ba_size, hbe]; simp
  have hx0 : (⟨b.toArray⟩ : ByteArray)[0]'hs0 = c := by rw [at_eq _ _ _ (by rw [hbe]; simp)]; simp [hbe]
  have hs1 : 1 < (⟨b.toArray⟩ : ByteArray).size := by rw [ba_size, hbe]; simp
  have hx1 : (⟨b.toArray⟩ : ByteArray)[1]'hs1 = d := by rw [at_eq _ _ _ (by rw [hbe]; simp)]; simp [hbe]
  have h1 : 1 < b.length := by rw [hbe]; simp
  have hl0 : ((b.length : Int) == 0) = false := by rw [beq_eq_false_iff_ne]; omega
  have hcb : ((c.toNat : Int) == 48) = false := by
    have : c.toNat ≠ 48 := fun h => hc (UInt8.toNat_inj.1 h)
    simp; omega
  have hcp : ¬ ((c.toNat : Int) = 48) := by
    have : c.toNat ≠ 48 := fun h => hc (UInt8.toNat_inj.1 h)
    omega
  have hsne : ¬ b = [] := by rw [hbe]; simp
  have HN : Hid (nn = digits 10 20 b) := Lib.hid (by rw [hnum, hbe]; exact numB_dec _ _ (fun x y h => hc (List.cons.inj h).1))
  clear hnum hbe hc
  have hsl : b.length ≤ 65536 := hbl
  go_enter Tryz.func99, Tryz.ntmps99
  go_wp2
  go_loop [6, 7, 8] (fun vv vb vi => ∃ (k : Nat) (a : Int) (bg : Bool), vv = .int .u64 a ∧ vb = .bool bg ∧ vi = .int .i64 k ∧ k ≤ b.length ∧ 0 ≤ a ∧ a < 18446744073709551616 ∧ Hid (NInv 10 b k a bg)) (fun _ _ vi => b.length - (intOf vi).toNat)
  case atStart => exact ⟨0, 0, false, rfl, rfl, rfl, Nat.zero_le _, by omega, by omega, Lib.hid ⟨rfl, fun _ => rfl, fun h => by cases h⟩⟩
  case round =>
    obtain ⟨k, a, bg, rfl, rfl, rfl, hk, ha0, ha1, HI⟩ := hrel
    rcases Nat.lt_or_ge k b.length with hlt | hge
    · have hbd := byte_bd b[k]
      have hszk : k < (⟨b.toArray⟩ : ByteArray).size := by rw [ba_size]; exact hlt
      have hxk : (⟨b.toArray⟩ : ByteArray)[k]'hszk = b[k] := rfl
      have hok := hx_ok b[k] 10 (by omega)
      have hvl := hx_val b[k]
      have HGO := Lib.hid fun ho (d : Int) hd (a2 : Int) (bg2 : Bool) h1 h2 => HI.out.go hlt (by omega) ho (d := d) hd (a2 := a2) (bg2 := bg2) h1 h2
      have HBD := Lib.hid fun ho => NInv.bad (base := 10) (sh := 20) hlt ho
      have H255 : hxI (b[k].toNat : Int) ≤ 15 ∧ -1 ≤ hxI (b[k].toNat : Int) := by unfold hxI; (repeat' split) <;> omega
      generalize b[k] = c at *
      obtain ⟨d, hd⟩ : ∃ d, d = hxI (c.toNat : Int) := ⟨_, rfl⟩
      rw [← hd] at hok hvl H255
      have hcall := fun W => rhex_any (c.toNat : Int) W hbd.1 hbd.2
      rw [← hd] at hcall
      have HCALL := Lib.hid hcall
      obtain ⟨hd15, hd1⟩ := H255
      clear hcall hd
      by_cases hd0 : d < 0
      · have HQ := Lib.hid (HBD.out (by rw [hok]; simp; omega))
        clear hok hvl hd1
        go_wp2_with (go_at_call 126; refine (HCALL.out _).mono ?_; rintro e w' ⟨rfl, rfl⟩)
        go_ret2
        exact ⟨by rw [HN.out, HQ.out]; rfl, by first | exact Below.refl _ _ | exact (Below.refl _ _).drew⟩
      by_cases hdb : 10 ≤ d
      · have HQ := Lib.hid (HBD.out (by rw [hok]; simp; omega))
        have hd0' : 0 ≤ d := by omega
        clear hok hvl hd1 hd0
        go_wp2_with (go_at_call 126; refine (HCALL.out _).mono ?_; rintro e w' ⟨rfl, rfl⟩)
        go_ret2
        exact ⟨by rw [HN.out, HQ.out]; rfl, by first | exact Below.refl _ _ | exact (Below.refl _ _).drew⟩
      have hd0' : 0 ≤ d := by omega
      have hdb' : d < 10 := by omega
      have ho : okDig 10 c = true := by rw [hok]; simp; omega
      have hdv := hvl hd0'
      by_cases hov : a * 10 + d < 18446744073709551616
      · have HNX := Lib.hid (HGO.out ho d hdv (a * 10 + d) bg (fun _ => ⟨rfl, rfl⟩) (fun h => absurd hov h))
        have htest : a ≤ (18446744073709551615 - d) / 10 := by omega
        clear hok hvl hd1 hd0 hdb ho hdv
        go_wp2_with (go_at_call 126; refine (HCALL.out _).mono ?_; rintro e w' ⟨rfl, rfl⟩)
        go_round
        case rel => exact ⟨k + 1, a * 10 + d, bg, rfl, rfl, by go_num, by omega, by omega, hov, HNX⟩
        case measure => simp [intOf]; omega
      · have hb64 : 0 ≤ (a * 10 + d) % 18446744073709551616 ∧ (a * 10 + d) % 18446744073709551616 < 18446744073709551616 := by omega
        have HNX := Lib.hid (HGO.out ho d hdv ((a * 10 + d) % 18446744073709551616) true (fun h => absurd h hov) (fun _ => rfl))
        have htest : (18446744073709551615 - d) / 10 < a := by omega
        clear hok hvl hd1 hd0 hdb ho hdv
        go_wp2_with (go_at_call 126; refine (HCALL.out _).mono ?_; rintro e w' ⟨rfl, rfl⟩)
        go_round
        case rel => exact ⟨k + 1, (a * 10 + d) % 18446744073709551616, true, congrArg (Value.int .u64) (by rw [IntKind.wrap_u64, IntKind.wrap_u64]; omega), rfl, by go_num, by omega, hb64.1, hb64.2, HNX⟩
        case measure => simp [intOf]; omega
    · have hkl : k = b.length := by omega
      subst hkl
      cases bg
      · obtain ⟨v, u, hv, hu, hv1, hv2⟩ := NInv.finP (sh := 20) (P := 1048576) (by decide) HI.out hsne
        by_cases hsv : u < 18446744073709551616
        · have HQ := Lib.hid (hv1 hsv)
          have hle : a ≤ 17592186044415 := by omega
          have HVV : Hid (((u : Nat) : Int) = a * 1048576) := Lib.hid (by omega)
          clear hv1 hv2 hsv hv hu
          go_wp2
          go_ret2
          refine ⟨ret_two (congrArg (Value.int .u64) ?_) (by rw [HN.out, HQ.out, numE_val]; rfl), by first | exact Below.refl _ _ | exact (Below.refl _ _).drew⟩
          rw [HN.out, HQ.out, numV_val, HVV.out]
          all_goals omega
        · have HQ := Lib.hid (hv2 hsv)
          have hle : 17592186044415 < a := by omega
          clear hv1 hv2 hsv hv hu
          go_wp2
          go_ret2
          exact ⟨by rw [HN.out, HQ.out]; rfl, by first | exact Below.refl _ _ | exact (Below.refl _ _).drew⟩
      · have HQ := Lib.hid (NInv.fin_big (sh := 20) HI.out hsne)
        go_wp2
        go_ret2
        exact ⟨by rw [HN.out, HQ.out]; rfl, by first | exact Below.refl _ _ | exact (Below.refl _ _).drew⟩

set_option maxRecDepth 50000 in
set_option maxHeartbeats 1000000 in
theorem rnum_M_two (b : List UInt8) (w : World) (hbl : b.length ≤ 65536) (c d : UInt8) (r : List UInt8) (hbe : b = c :: d :: r) (hc : c ≠ 48) (h2 : b.length ≤ 2) :
    Calls Tryz.prog 99 #[.string ⟨(b ++ [77]).toArray⟩] w fun e w' => e = .returned (.tuple #[.int .u64 (numV (num (b ++ [77]))), .int .i64 (numE (num (b ++ [77])))]) ∧ Below w.heap.size w w' := by
  have hszl : b.length < (⟨(b ++ [77]).toArray⟩ : ByteArray).size := by rw [ba_size]; simp
  have hxl : (⟨(b ++ [77]).toArray⟩ : ByteArray)[b.length]'hszl = 77 := by rw [at_eq _ _ _ (by simp)]; simp
  have hcutl := cut_to' (b ++ [77]) b.length
  rw [List.take_left] at hcutl
  have hB : body (b ++ [77]) = b ∧ sfx (b ++ [77]) = 20 := by rw [body_snoc, sfx_snoc]; exact ⟨rfl, rfl⟩
  have hnum : num (b ++ [77]) = numB 20 b := by rw [num_eqB, hB.1, hB.2]
  generalize num (b ++ [77]) = nn at *
  clear hB
  have hs0 : 0 < (⟨b.toArray⟩ : ByteArray).size := by rw [ba_size, hbe]; simp
  have hx0 : (⟨b.toArray⟩ : ByteArray)[0]'hs0 = c := by rw [at_eq _ _ _ (by rw [hbe]; simp)]; simp [hbe]
  have hs1 : 1 < (⟨b.toArray⟩ : ByteArray).size := by rw [ba_size, hbe]; simp
  have hx1 : (⟨b.toArray⟩ : ByteArray)[1]'hs1 = d := by rw [at_eq _ _ _ (by rw [hbe]; simp)]; simp [hbe]
  have h1 : 1 < b.length := by rw [hbe]; simp
  have hl0 : ((b.length : Int) == 0) = false := by rw [beq_eq_false_iff_ne]; omega
  have hcb : ((c.toNat : Int) == 48) = false := by
    have : c.toNat ≠ 48 := fun h => hc (UInt8.toNat_inj.1 h)
    simp; omega
  have hcp : ¬ ((c.toNat : Int) = 48) := by
    have : c.toNat ≠ 48 := fun h => hc (UInt8.toNat_inj.1 h)
    omega
  have hsne : ¬ b = [] := by rw [hbe]; simp
  have HN : Hid (nn = digits 10 20 b) := Lib.hid (by rw [hnum, hbe]; exact numB_dec _ _ (fun x y h => hc (List.cons.inj h).1))
  clear hnum hbe hc
  have hsl : b.length ≤ 65536 := hbl
  go_enter Tryz.func99, Tryz.ntmps99
  go_wp2
  go_loop [6, 7, 8] (fun vv vb vi => ∃ (k : Nat) (a : Int) (bg : Bool), vv = .int .u64 a ∧ vb = .bool bg ∧ vi = .int .i64 k ∧ k ≤ b.length ∧ 0 ≤ a ∧ a < 18446744073709551616 ∧ Hid (NInv 10 b k a bg)) (fun _ _ vi => b.length - (intOf vi).toNat)
  case atStart => exact ⟨0, 0, false, rfl, rfl, rfl, Nat.zero_le _, by omega, by omega, Lib.hid ⟨rfl, fun _ => rfl, fun h => by cases h⟩⟩
  case round =>
    obtain ⟨k, a, bg, rfl, rfl, rfl, hk, ha0, ha1, HI⟩ := hrel
    rcases Nat.lt_or_ge k b.length with hlt | hge
    · have hbd := byte_bd b[k]
      have hszk : k < (⟨b.toArray⟩ : ByteArray).size := by rw [ba_size]; exact hlt
      have hxk : (⟨b.toArray⟩ : ByteArray)[k]'hszk = b[k] := rfl
      have hok := hx_ok b[k] 10 (by omega)
      have hvl := hx_val b[k]
      have HGO := Lib.hid fun ho (d : Int) hd (a2 : Int) (bg2 : Bool) h1 h2 => HI.out.go hlt (by omega) ho (d := d) hd (a2 := a2) (bg2 := bg2) h1 h2
      have HBD := Lib.hid fun ho => NInv.bad (base := 10) (sh := 20) hlt ho
      have H255 : hxI (b[k].toNat : Int) ≤ 15 ∧ -1 ≤ hxI (b[k].toNat : Int) := by unfold hxI; (repeat' split) <;> omega
      generalize b[k] = c at *
      obtain ⟨d, hd⟩ : ∃ d, d = hxI (c.toNat : Int) := ⟨_, rfl⟩
      rw [← hd] at hok hvl H255
      have hcall := fun W => rhex_any (c.toNat : Int) W hbd.1 hbd.2
      rw [← hd] at hcall
      have HCALL := Lib.hid hcall
      obtain ⟨hd15, hd1⟩ := H255
      clear hcall hd
      by_cases hd0 : d < 0
      · have HQ := Lib.hid (HBD.out (by rw [hok]; simp; omega))
        clear hok hvl hd1
        go_wp2_with (go_at_call 126; refine (HCALL.out _).mono ?_; rintro e w' ⟨rfl, rfl⟩)
        go_ret2
        exact ⟨by rw [HN.out, HQ.out]; rfl, by first | exact Below.refl _ _ | exact (Below.refl _ _).drew⟩
      by_cases hdb : 10 ≤ d
      · have HQ := Lib.hid (HBD.out (by rw [hok]; simp; omega))
        have hd0' : 0 ≤ d := by omega
        clear hok hvl hd1 hd0
        go_wp2_with (go_at_call 126; refine (HCALL.out _).mono ?_; rintro e w' ⟨rfl, rfl⟩)
        go_ret2
        exact ⟨by rw [HN.out, HQ.out]; rfl, by first | exact Below.refl _ _ | exact (Below.refl _ _).drew⟩
      have hd0' : 0 ≤ d := by omega
      have hdb' : d < 10 := by omega
      have ho : okDig 10 c = true := by rw [hok]; simp; omega
      have hdv := hvl hd0'
      by_cases hov : a * 10 + d < 18446744073709551616
      · have HNX := Lib.hid (HGO.out ho d hdv (a * 10 + d) bg (fun _ => ⟨rfl, rfl⟩) (fun h => absurd hov h))
        have htest : a ≤ (18446744073709551615 - d) / 10 := by omega
        clear hok hvl hd1 hd0 hdb ho hdv
        go_wp2_with (go_at_call 126; refine (HCALL.out _).mono ?_; rintro e w' ⟨rfl, rfl⟩)
        go_round
        case rel => exact ⟨k + 1, a * 10 + d, bg, rfl, rfl, by go_num, by omega, by omega, hov, HNX⟩
        case measure => simp [intOf]; omega
      · have hb64 : 0 ≤ (a * 10 + d) % 18446744073709551616 ∧ (a * 10 + d) % 18446744073709551616 < 18446744073709551616 := by omega
        have HNX := Lib.hid (HGO.out ho d hdv ((a * 10 + d) % 18446744073709551616) true (fun h => absurd h hov) (fun _ => rfl))
        have htest : (18446744073709551615 - d) / 10 < a := by omega
        clear hok hvl hd1 hd0 hdb ho hdv
        go_wp2_with (go_at_call 126; refine (HCALL.out _).mono ?_; rintro e w' ⟨rfl, rfl⟩)
        go_round
        case rel => exact ⟨k + 1, (a * 10 + d) % 18446744073709551616, true, congrArg (Value.int .u64) (by rw [IntKind.wrap_u64, IntKind.wrap_u64]; omega), rfl, by go_num, by omega, hb64.1, hb64.2, HNX⟩
        case measure => simp [intOf]; omega
    · have hkl : k = b.length := by omega
      subst hkl
      cases bg
      · obtain ⟨v, u, hv, hu, hv1, hv2⟩ := NInv.finP (sh := 20) (P := 1048576) (by decide) HI.out hsne
        by_cases hsv : u < 18446744073709551616
        · have HQ := Lib.hid (hv1 hsv)
          have hle : a ≤ 17592186044415 := by omega
          have HVV : Hid (((u : Nat) : Int) = a * 1048576) := Lib.hid (by omega)
          clear hv1 hv2 hsv hv hu
          go_wp2
          go_ret2
          refine ⟨ret_two (congrArg (Value.int .u64) ?_) (by rw [HN.out, HQ.out, numE_val]; rfl), by first | exact Below.refl _ _ | exact (Below.refl _ _).drew⟩
          rw [HN.out, HQ.out, numV_val, HVV.out]
          all_goals omega
        · have HQ := Lib.hid (hv2 hsv)
          have hle : 17592186044415 < a := by omega
          clear hv1 hv2 hsv hv hu
          go_wp2
          go_ret2
          exact ⟨by rw [HN.out, HQ.out]; rfl, by first | exact Below.refl _ _ | exact (Below.refl _ _).drew⟩
      · have HQ := Lib.hid (NInv.fin_big (sh := 20) HI.out hsne)
        go_wp2
        go_ret2
        exact ⟨by rw [HN.out, HQ.out]; rfl, by first | exact Below.refl _ _ | exact (Below.refl _ _).drew⟩

set_option maxRecDepth 50000 in
set_option maxHeartbeats 1000000 in
theorem rnum_M_one (b : List UInt8) (w : World) (hbl : b.length ≤ 65536) (c : UInt8) (hbe : b = [c]) :
    Calls Tryz.prog 99 #[.string ⟨(b ++ [77]).toArray⟩] w fun e w' => e = .returned (.tuple #[.int .u64 (numV (num (b ++ [77]))), .int .i64 (numE (num (b ++ [77])))]) ∧ Below w.heap.size w w' := by
  have hszl : b.length < (⟨(b ++ [77]).toArray⟩ : ByteArray).size := by rw [ba_size]; simp
  have hxl : (⟨(b ++ [77]).toArray⟩ : ByteArray)[b.length]'hszl = 77 := by rw [at_eq _ _ _ (by simp)]; simp
  have hcutl := cut_to' (b ++ [77]) b.length
  rw [List.take_left] at hcutl
  have hB : body (b ++ [77]) = b ∧ sfx (b ++ [77]) = 20 := by rw [body_snoc, sfx_snoc]; exact ⟨rfl, rfl⟩
  have hnum : num (b ++ [77]) = numB 20 b := by rw [num_eqB, hB.1, hB.2]
  generalize num (b ++ [77]) = nn at *
  clear hB
  have hsne : ¬ b = [] := by rw [hbe]; simp
  have h1 : b.length ≤ 1 := by rw [hbe]; simp
  have h0 : 0 < b.length := by rw [hbe]; simp
  have hl0 : ((b.length : Int) == 0) = false := by rw [beq_eq_false_iff_ne]; omega
  have HN : Hid (nn = digits 10 20 b) := Lib.hid (by rw [hnum]; exact numB_dec _ _ (fun x y h => by rw [h] at h1; simp at h1))
  clear hnum hbe
  have hsl : b.length ≤ 65536 := hbl
  go_enter Tryz.func99, Tryz.ntmps99
  go_wp2
  go_loop [6, 7, 8] (fun vv vb vi => ∃ (k : Nat) (a : Int) (bg : Bool), vv = .int .u64 a ∧ vb = .bool bg ∧ vi = .int .i64 k ∧ k ≤ b.length ∧ 0 ≤ a ∧ a < 18446744073709551616 ∧ Hid (NInv 10 b k a bg)) (fun _ _ vi => b.length - (intOf vi).toNat)
  case atStart => exact ⟨0, 0, false, rfl, rfl, rfl, Nat.zero_le _, by omega, by omega, Lib.hid ⟨rfl, fun _ => rfl, fun h => by cases h⟩⟩
  case round =>
    obtain ⟨k, a, bg, rfl, rfl, rfl, hk, ha0, ha1, HI⟩ := hrel
    rcases Nat.lt_or_ge k b.length with hlt | hge
    · have hbd := byte_bd b[k]
      have hszk : k < (⟨b.toArray⟩ : ByteArray).size := by rw [ba_size]; exact hlt
      have hxk : (⟨b.toArray⟩ : ByteArray)[k]'hszk = b[k] := rfl
      have hok := hx_ok b[k] 10 (by omega)
      have hvl := hx_val b[k]
      have HGO := Lib.hid fun ho (d : Int) hd (a2 : Int) (bg2 : Bool) h1 h2 => HI.out.go hlt (by omega) ho (d := d) hd (a2 := a2) (bg2 := bg2) h1 h2
      have HBD := Lib.hid fun ho => NInv.bad (base := 10) (sh := 20) hlt ho
      have H255 : hxI (b[k].toNat : Int) ≤ 15 ∧ -1 ≤ hxI (b[k].toNat : Int) := by unfold hxI; (repeat' split) <;> omega
      generalize b[k] = c at *
      obtain ⟨d, hd⟩ : ∃ d, d = hxI (c.toNat : Int) := ⟨_, rfl⟩
      rw [← hd] at hok hvl H255
      have hcall := fun W => rhex_any (c.toNat : Int) W hbd.1 hbd.2
      rw [← hd] at hcall
      have HCALL := Lib.hid hcall
      obtain ⟨hd15, hd1⟩ := H255
      clear hcall hd
      by_cases hd0 : d < 0
      · have HQ := Lib.hid (HBD.out (by rw [hok]; simp; omega))
        clear hok hvl hd1
        go_wp2_with (go_at_call 126; refine (HCALL.out _).mono ?_; rintro e w' ⟨rfl, rfl⟩)
        go_ret2
        exact ⟨by rw [HN.out, HQ.out]; rfl, by first | exact Below.refl _ _ | exact (Below.refl _ _).drew⟩
      by_cases hdb : 10 ≤ d
      · have HQ := Lib.hid (HBD.out (by rw [hok]; simp; omega))
        have hd0' : 0 ≤ d := by omega
        clear hok hvl hd1 hd0
        go_wp2_with (go_at_call 126; refine (HCALL.out _).mono ?_; rintro e w' ⟨rfl, rfl⟩)
        go_ret2
        exact ⟨by rw [HN.out, HQ.out]; rfl, by first | exact Below.refl _ _ | exact (Below.refl _ _).drew⟩
      have hd0' : 0 ≤ d := by omega
      have hdb' : d < 10 := by omega
      have ho : okDig 10 c = true := by rw [hok]; simp; omega
      have hdv := hvl hd0'
      by_cases hov : a * 10 + d < 18446744073709551616
      · have HNX := Lib.hid (HGO.out ho d hdv (a * 10 + d) bg (fun _ => ⟨rfl, rfl⟩) (fun h => absurd hov h))
        have htest : a ≤ (18446744073709551615 - d) / 10 := by omega
        clear hok hvl hd1 hd0 hdb ho hdv
        go_wp2_with (go_at_call 126; refine (HCALL.out _).mono ?_; rintro e w' ⟨rfl, rfl⟩)
        go_round
        case rel => exact ⟨k + 1, a * 10 + d, bg, rfl, rfl, by go_num, by omega, by omega, hov, HNX⟩
        case measure => simp [intOf]; omega
      · have hb64 : 0 ≤ (a * 10 + d) % 18446744073709551616 ∧ (a * 10 + d) % 18446744073709551616 < 18446744073709551616 := by omega
        have HNX := Lib.hid (HGO.out ho d hdv ((a * 10 + d) % 18446744073709551616) true (fun h => absurd h hov) (fun _ => rfl))
        have htest : (18446744073709551615 - d) / 10 < a := by omega
        clear hok hvl hd1 hd0 hdb ho hdv
        go_wp2_with (go_at_call 126; refine (HCALL.out _).mono ?_; rintro e w' ⟨rfl, rfl⟩)
        go_round
        case rel => exact ⟨k + 1, (a * 10 + d) % 18446744073709551616, true, congrArg (Value.int .u64) (by rw [IntKind.wrap_u64, IntKind.wrap_u64]; omega), rfl, by go_num, by omega, hb64.1, hb64.2, HNX⟩
        case measure => simp [intOf]; omega
    · have hkl : k = b.length := by omega
      subst hkl
      cases bg
      · obtain ⟨v, u, hv, hu, hv1, hv2⟩ := NInv.finP (sh := 20) (P := 1048576) (by decide) HI.out hsne
        by_cases hsv : u < 18446744073709551616
        · have HQ := Lib.hid (hv1 hsv)
          have hle : a ≤ 17592186044415 := by omega
          have HVV : Hid (((u : Nat) : Int) = a * 1048576) := Lib.hid (by omega)
          clear hv1 hv2 hsv hv hu
          go_wp2
          go_ret2
          refine ⟨ret_two (congrArg (Value.int .u64) ?_) (by rw [HN.out, HQ.out, numE_val]; rfl), by first | exact Below.refl _ _ | exact (Below.refl _ _).drew⟩
          rw [HN.out, HQ.out, numV_val, HVV.out]
          all_goals omega
        · have HQ := Lib.hid (hv2 hsv)
          have hle : 17592186044415 < a := by omega
          clear hv1 hv2 hsv hv hu
          go_wp2
          go_ret2
          exact ⟨by rw [HN.out, HQ.out]; rfl, by first | exact Below.refl _ _ | exact (Below.refl _ _).drew⟩
      · have HQ := Lib.hid (NInv.fin_big (sh := 20) HI.out hsne)
        go_wp2
        go_ret2
        exact ⟨by rw [HN.out, HQ.out]; rfl, by first | exact Below.refl _ _ | exact (Below.refl _ _).drew⟩

set_option maxRecDepth 50000 in
set_option maxHeartbeats 1000000 in
theorem rnum_M_nil (b : List UInt8) (w : World) (hbl : b.length ≤ 65536) (hbe : b = []) :
    Calls Tryz.prog 99 #[.string ⟨(b ++ [77]).toArray⟩] w fun e w' => e = .returned (.tuple #[.int .u64 (numV (num (b ++ [77]))), .int .i64 (numE (num (b ++ [77])))]) ∧ Below w.heap.size w w' := by
  have hszl : b.length < (⟨(b ++ [77]).toArray⟩ : ByteArray).size := by rw [ba_size]; simp
  have hxl : (⟨(b ++ [77]).toArray⟩ : ByteArray)[b.length]'hszl = 77 := by rw [at_eq _ _ _ (by simp)]; simp
  have hcutl := cut_to' (b ++ [77]) b.length
  rw [List.take_left] at hcutl
  have hB : body (b ++ [77]) = b ∧ sfx (b ++ [77]) = 20 := by rw [body_snoc, sfx_snoc]; exact ⟨rfl, rfl⟩
  have hnum : num (b ++ [77]) = numB 20 b := by rw [num_eqB, hB.1, hB.2]
  generalize num (b ++ [77]) = nn at *
  clear hB
  have HN : Hid (nn = .bad) := Lib.hid (by rw [hnum, hbe]; exact (numB_dec _ _ (fun x y h => by cases h)).trans (digits_bad1 _ _ _ rfl))
  clear hnum
  subst hbe
  go_enter Tryz.func99, Tryz.ntmps99
  go_wp2
  go_ret2
  exact ⟨by rw [HN.out]; rfl, Below.refl _ _⟩

theorem rnum_M (b : List UInt8) (w : World) (hbl : b.length ≤ 65536) :
    Calls Tryz.prog 99 #[.string ⟨(b ++ [77]).toArray⟩] w fun e w' => e = .returned (.tuple #[.int .u64 (numV (num (b ++ [77]))), .int .i64 (numE (num (b ++ [77])))]) ∧ Below w.heap.size w w' := by
  match hbe : b with
  | [] => exact rnum_M_nil _ w hbl rfl
  | [c] => exact rnum_M_one _ w hbl c rfl
  | c :: d :: r =>
    by_cases hc : c = 48
    · subst hc
      by_cases h : d = 120 ∧ ¬ r = []
      · obtain ⟨rfl, hr⟩ := h
        exact rnum_M_hex _ w hbl r rfl hr
      · refine rnum_M_bad _ w hbl d r rfl ?_
        by_cases hd : d = 120
        · exact .inr (Classical.not_not.1 fun hr => h ⟨hd, hr⟩)
        · exact .inl hd
    · rcases Nat.lt_or_ge 2 (c :: d :: r).length with h2 | h2
      · exact rnum_M_long _ w hbl c d r rfl hc h2
      · exact rnum_M_two _ w hbl c d r rfl hc h2
end Go.Proofs.YtmodjokoggmnaaaGreatDoor
