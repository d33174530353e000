/-
  The program's Decode.
  Conditions: none.
-/
import Derived.Test.YtpjakfbjiioflaaMca
import Derived.Test.YtpjakfbjiioflaaCae
namespace Go.Proofs.Ytpjakfbjiioflaa

open Go.RowKit

theorem or_eq (a b : Int) : bits .or .i64 a b = IntKind.i64.wrap ((mN a ||| mN b : Nat) : Int) := by
  show IntKind.i64.wrap ((BitVec.ofInt 64 a ||| BitVec.ofInt 64 b).toNat : Int) = _
  rw [BitVec.toNat_or]; rfl
/-- A byte below a number of bytes. -/
theorem or_byte8 (x y : Int) (hx : 0 ≤ x) (hx1 : x < 1099511627776) (hy : 0 ≤ y) (hy1 : y < 256) : bits .or .i64 (x * 256) y = x * 256 + y := by
  obtain ⟨p, rfl⟩ : ∃ p : Nat, x = p := ⟨x.toNat, by omega⟩
  obtain ⟨q, rfl⟩ : ∃ q : Nat, y = q := ⟨y.toNat, by omega⟩
  rw [or_eq, show ((p : Int) * 256) = ((p * 256 : Nat) : Int) by omega, mN_nat (by omega), mN_nat (by omega)]
  have h := Nat.shiftLeft_add_eq_or_of_lt (a := p) (b := q) (i := 8) (by omega)
  rw [Nat.shiftLeft_eq, show (2 : Nat) ^ 8 = 256 by decide] at h
  rw [← h, IntWalk.i64_in _ (by omega)]
  omega
/-- The j highest bytes of the address. -/
def qB (l : List UInt8) : Nat → Int
  | 0 => 0
  | j + 1 => qB l j * 256 + bI l (9 - j)
theorem qB_five (l : List UInt8) : qB l 5 = pB l 5 := by
  show ((((0 * 256 + bI l 9) * 256 + bI l 8) * 256 + bI l 7) * 256 + bI l 6) * 256 + bI l 5 = bI l 5 + bI l 6 * 256 + bI l 7 * 65536 + bI l 8 * 16777216 + bI l 9 * 4294967296
  omega
theorem qB_range (l : List UInt8) : ∀ j, j ≤ 5 → 0 ≤ qB l j ∧ qB l j < 1099511627776 := by
  intro j hj
  have h9 := bI_lt l 9
  have h8 := bI_lt l 8
  have h7 := bI_lt l 7
  have h6 := bI_lt l 6
  have h5 := bI_lt l 5
  rcases (show j = 0 ∨ j = 1 ∨ j = 2 ∨ j = 3 ∨ j = 4 ∨ j = 5 by omega) with rfl | rfl | rfl | rfl | rfl | rfl
  · show 0 ≤ (0 : Int) ∧ (0 : Int) < _; omega
  · show 0 ≤ 0 * 256 + bI l 9 ∧ 0 * 256 + bI l 9 < _; omega
  · show 0 ≤ (0 * 256 + bI l 9) * 256 + bI l 8 ∧ (0 * 256 + bI l 9) * 256 + bI l 8 < _; omega
  · show 0 ≤ ((0 * 256 + bI l 9) * 256 + bI l 8) * 256 + bI l 7 ∧ ((0 * 256 + bI l 9) * 256 + bI l 8) * 256 + bI l 7 < _; omega
  · show 0 ≤ (((0 * 256 + bI l 9) * 256 + bI l 8) * 256 + bI l 7) * 256 + bI l 6 ∧ (((0 * 256 + bI l 9) * 256 + bI l 8) * 256 + bI l 7) * 256 + bI l 6 < _; omega
  · show 0 ≤ ((((0 * 256 + bI l 9) * 256 + bI l 8) * 256 + bI l 7) * 256 + bI l 6) * 256 + bI l 5 ∧ ((((0 * 256 + bI l 9) * 256 + bI l 8) * 256 + bI l 7) * 256 + bI l 6) * 256 + bI l 5 < _; omega
/-- The third byte: the rights, and the mark of a device. -/
theorem flag_bits : ∀ x : Fin 256, (x.val < 16 → bits .andNot .i64 (x.val : Int) 8 = (x.val : Int) % 8 ∧ (bits .and .u8 (x.val : Int) 8 != 0) = decide (8 ≤ (x.val : Int))) ∧ (16 ≤ x.val → 7 < bits .andNot .i64 (x.val : Int) 8) := by decide +kernel
def rawD (l : List UInt8) : GC := ⟨bI l 0, pB l 5, bI l 1, bits .andNot .i64 (bI l 2) 8, bI l 3, bI l 4, bits .and .u8 (bI l 2) 8 != 0⟩
theorem rawD_ok (l : List UInt8) : (vC (rawD l) = true ↔ bI l 2 < 16 ∧ vC (rawC l) = true) ∧ (bI l 2 < 16 → rawD l = rawC l) := by
  have hb := bI_lt l 2
  have hf := flag_bits ⟨(bI l 2).toNat, by omega⟩
  simp only at hf
  rw [Int.toNat_of_nonneg hb.1] at hf
  have e : bI l 2 < 16 → rawD l = rawC l := fun h => by
    obtain ⟨h1, h2⟩ := hf.1 (by omega)
    unfold rawD rawC
    rw [h1, h2]
  refine ⟨⟨fun h => ?_, fun h => by rw [e h.1]; exact h.2⟩, e⟩
  rcases Int.lt_or_le (bI l 2) 16 with h16 | h16
  · exact ⟨h16, by rw [← e h16]; exact h⟩
  · exfalso
    have h7 := hf.2 (by omega)
    have hv := vC_facts h
    have : (rawD l).rights = bits .andNot .i64 (bI l 2) 8 := rfl
    omega
set_option maxRecDepth 20000 in
set_option maxHeartbeats 4000000 in
theorem pDec_any (l : List UInt8) (A : Option Addr) (c : Nat) (w : World) (h : Byt w w.heap.size A l.length l) :
    Calls Try.prog 28 #[.slice A l.length c] w fun e w' => e = .returned (.tuple #[(decC l).val, .int .i64 (decE l)]) ∧ Below w.heap.size w w' := by
  have HV := Lib.hid fun W => pVC_any (rawD l) W
  have HY : Hid (¬ decP l → decC l = zC ∧ decE l = 14) := Lib.hid fun h => by unfold decC decE; rw [if_neg h, if_neg h]; exact ⟨rfl, rfl⟩
  have HN : Hid (decP l → decC l = rawD l ∧ decE l = 0) := Lib.hid fun h => by unfold decC decE; rw [if_pos h, if_pos h, (rawD_ok l).2 h.2.1]; exact ⟨rfl, rfl⟩
  have HP : Hid (decP l ↔ l.length = 10 ∧ vC (rawD l) = true) := Lib.hid (by rw [(rawD_ok l).1]; exact Iff.rfl)
  generalize decC l = q at *
  generalize decE l = er at *
  by_cases h10 : l.length = 10
  rotate_left
  · have fb : ((l.length : Int) == 10) = false := by rw [beq_eq_false_iff_ne]; omega
    have fb2 : ((l.length : Int) != 10) = true := by rw [bne, fb]; rfl
    obtain ⟨e1, e2⟩ := HY.out fun hp => h10 (HP.out.1 hp).1
    subst e1 e2
    simp only [GC.val, zC]
    clear h10 HV HN HP h fb HY
    generalize (l.length : Nat) = n at *
    go_enter Try.func28, Try.ntmps28
    go_wp2
    refine bodyPost_ret (v := .tuple #[.agg #[.int .i64 0, .int .i64 0, .int .i64 0, .int .i64 0, .int .i64 0, .int .i64 0, .bool false], .int .i64 14]) (by simp [results, Try.results28, go_sem]) rfl ?_
    exact ⟨rfl, belt (Below.refl _ w) _⟩
  rw [h10] at h ⊢
  obtain ⟨b, off, rfl, hb, hc⟩ := h.at_ (by omega)
  have HC : Hid (∀ j, j < 10 → w.cell? ⟨b, off + j, none⟩ = some (.int .u8 (bI l j))) := Lib.hid fun j hj => hc j (by omega)
  have HBI := Lib.hid fun j => bI_lt l j
  have HQS : Hid (∀ j, qB l (j + 1) = qB l j * 256 + bI l (9 - j)) := Lib.hid fun _ => rfl
  have HQR := Lib.hid (qB_range l)
  have HQ5 := Lib.hid (qB_five l)
  have HQ00 : Hid (qB l 0 = 0) := Lib.hid rfl
  have HR : Hid (rawD l = ⟨bI l 0, pB l 5, bI l 1, bits .andNot .i64 (bI l 2) 8, bI l 3, bI l 4, bits .and .u8 (bI l 2) 8 != 0⟩) := Lib.hid rfl
  generalize rawD l = rc at *
  generalize pB l 5 = g5 at *
  generalize bI l = f at *
  generalize qB l = g at *
  clear hc h
  go_enter Try.func28, Try.ntmps28
  go_wp2
  go_loopw [4, 5] (fun v4 v5 wr => ∃ j : Nat, v5 = .int .i64 (9 - (j : Int)) ∧ j ≤ 5 ∧ v4 = .int .i64 (g j) ∧ wr = w.alloc (.cells #[.int .i64 0, .int .i64 0, .int .i64 0, .int .i64 0, .int .i64 0, .int .i64 0, .bool false] 23)) (fun _ v5 _ => (intOf v5).toNat)
  case atStart => exact ⟨0, rfl, by omega, by rw [HQ00.out], rfl⟩
  case round =>
    obtain ⟨j, rfl, hj, rfl, rfl⟩ := hrel
    by_cases h5 : j < 5
    · have fj : decide (5 ≤ 9 - (j : Int)) = true := by simp; omega
      have cj := HC.out (9 - j) (by omega)
      obtain ⟨b0, b1⟩ := HBI.out (9 - j)
      obtain ⟨g0, g1⟩ := HQR.out j hj
      obtain ⟨_, g2⟩ := HQR.out (j + 1) (by omega)
      have hq := HQS.out j
      rw [hq] at g2
      have HG := Lib.hid hq
      clear hq
      generalize f (9 - j) = x at *
      generalize g j = y at *
      have ho := or_byte8 y x g0 g1 b0 b1
      have hw1 : wrap64 (y * 256) = y * 256 := IntWalk.wrap64_in _ (by omega)
      have hx : IntKind.i64.wrap x = x := IntWalk.i64_in _ (by omega)
      have hn : (9 - (j : Int)).toNat = 9 - j := by omega
      have hd : IntKind.i64.wrap (9 - (j : Int) - 1) = 9 - (j : Int) - 1 := IntWalk.i64_in _ (by omega)
      have hl : decide (9 - (j : Int) < 10) = true := by simp; omega
      have hl2 : decide (9 - (j : Int) < 0) = false := by simp; omega
      have HM : Hid ((9 - (j : Int) - 1).toNat < (9 - (j : Int)).toNat ∧ 9 - (j : Int) - 1 = 9 - ((j + 1 : Nat) : Int)) := Lib.hid (by omega)
      go_wp2
      go_roundw
      case rel => exact ⟨j + 1, by rw [HM.out.2], by omega, by rw [HG.out], trivial⟩
      case measure => exact HM.out.1
    · obtain rfl : j = 5 := by omega
      have fj : decide ((5 : Int) ≤ 9 - ((5 : Nat) : Int)) = false := by decide
      go_upto_region 8 with fail
      rw [HQ5.out]
      have c0 := HC.out 0 (by omega)
      have c1 := HC.out 1 (by omega)
      have c2 := HC.out 2 (by omega)
      have c3 := HC.out 3 (by omega)
      have c4 := HC.out 4 (by omega)
      have b0 := HBI.out 0
      have b1 := HBI.out 1
      have b2 := HBI.out 2
      have b3 := HBI.out 3
      have b4 := HBI.out 4
      generalize f 0 = x0 at *
      generalize f 1 = x1 at *
      generalize f 2 = x2 at *
      generalize f 3 = x3 at *
      generalize f 4 = x4 at *
      rw [Nat.add_zero] at c0
      generalize hw1 : w.alloc (.cells #[.int .i64 0, .int .i64 0, .int .i64 0, .int .i64 0, .int .i64 0, .int .i64 0, .bool false] 23) = w1 at *
      have HW1 : Hid (Below w.heap.size w w1) := Lib.hid (by rw [← hw1]; exact belt (Below.refl _ w) _)
      have HZ : Hid (CB w1 w.heap.size zC) := Lib.hid (by rw [← hw1]; exact CB.new w zC)
      have hsz := HZ.out.lt
      have hb2 : b < w1.heap.size := by omega
      have d0 : w1.cell? ⟨b, off, none⟩ = some (.int .u8 x0) := (HW1.out.cell (p := ⟨b, off, none⟩) hb).trans c0
      have d1 : w1.cell? ⟨b, off + 1, none⟩ = some (.int .u8 x1) := (HW1.out.cell (p := ⟨b, off + 1, none⟩) hb).trans c1
      have d2 : w1.cell? ⟨b, off + 2, none⟩ = some (.int .u8 x2) := (HW1.out.cell (p := ⟨b, off + 2, none⟩) hb).trans c2
      have d3 : w1.cell? ⟨b, off + 3, none⟩ = some (.int .u8 x3) := (HW1.out.cell (p := ⟨b, off + 3, none⟩) hb).trans c3
      have d4 : w1.cell? ⟨b, off + 4, none⟩ = some (.int .u8 x4) := (HW1.out.cell (p := ⟨b, off + 4, none⟩) hb).trans c4
      have e0 : IntKind.i64.wrap x0 = x0 := IntWalk.i64_in _ (by omega)
      have e1 : IntKind.i64.wrap x1 = x1 := IntWalk.i64_in _ (by omega)
      have e2 : IntKind.i64.wrap x2 = x2 := IntWalk.i64_in _ (by omega)
      have e3 : IntKind.i64.wrap x3 = x3 := IntWalk.i64_in _ (by omega)
      have e4 : IntKind.i64.wrap x4 = x4 := IntWalk.i64_in _ (by omega)
      clear hw1 c0 c1 c2 c3 c4 fj hj h5
      have hS := (Below.refl w1.heap.size w1).drew
      refine wp_region_growS (S := fun W => Below w1.heap.size w1 W) [(0, true), (1, true), (2, true), (3, true), (4, true), (5, true), (6, true), (7, true), (8, true), (9, true), (10, true), (11, true), (12, true), (13, true), (14, true), (15, true), (16, true), (17, true), (18, true), (19, true), (20, true), (21, true), (22, true), (23, true), (24, true), (25, true), (26, true), (27, true), (28, false), (29, false)] (by kernel_rfl) (by kernel_rfl) (by kernel_rfl) (by kernel_rfl) (by intro c a d v w h; cases d <;> exact h) hS ?_
      iterate 28
        (first
          | (refine wpGrowS_float (v := ?_) (by simp only [List.getElem?_toArray, List.getElem?_cons_succ, List.getElem?_cons_zero]; rfl) (by rfl) ?_ ?_
             rotate_left
             · (intro W hW; have t0 := (hW.cell (p := ⟨b, off, none⟩) hb2).trans d0; have t1 := (hW.cell (p := ⟨b, off + 1, none⟩) hb2).trans d1; have t2 := (hW.cell (p := ⟨b, off + 2, none⟩) hb2).trans d2; have t3 := (hW.cell (p := ⟨b, off + 3, none⟩) hb2).trans d3; have t4 := (hW.cell (p := ⟨b, off + 4, none⟩) hb2).trans d4; (try simp only at *); go_simp; try with_reducible rfl)
             simp only [Act.put, List.setIfInBounds_toArray, List.set_cons_zero, List.set_cons_succ])
          | (refine wpGrowS_skip (by simp only [List.getElem?_toArray, List.getElem?_cons_succ, List.getElem?_cons_zero]; rfl) (by rfl) ?_
             simp only [Act.put, List.setIfInBounds_toArray, List.set_cons_zero, List.set_cons_succ]))
      refine wpGrowS_call (by simp only [List.getElem?_toArray, List.getElem?_cons_succ, List.getElem?_cons_zero]; rfl) (by rfl) fun K hK => ?_
      go_simp
      refine hK _ _ (belt (Below.refl _ w1).drew _) ?_
      clear hK K
      try simp only [Act.put, List.setIfInBounds_toArray, List.set_cons_zero, List.set_cons_succ]
      refine wpGrowS_call (by simp only [List.getElem?_toArray, List.getElem?_cons_succ, List.getElem?_cons_zero]; rfl) (by rfl) fun K hK => ?_
      go_simp
      refine hK _ _ (belt (Below.refl _ w1) _).drew ?_
      clear hK K
      try simp only [Act.put, List.setIfInBounds_toArray, List.set_cons_zero, List.set_cons_succ]
      refine wpGrowS_nil ?_
      generalize hd1 : bits .andNot .i64 x2 8 = xr at *
      generalize hd2 : (bits .and .u8 x2 8 != 0) = xd at *
      generalize hw2 : (w1.alloc (.cells #[.int .i64 x0, .int .i64 g5, .int .i64 x1, .int .i64 xr, .int .i64 x3, .int .i64 x4, .bool xd] 23)).drew = w2 at *
      have HB2 : Hid (Below w1.heap.size w1 w2) := Lib.hid (by rw [← hw2]; exact (belt (Below.refl _ w1) _).drew)
      have HX2 : Hid (CB w2 w1.heap.size rc) := Lib.hid (by rw [← hw2, HR.out]; exact (CB.new w1 ⟨x0, g5, x1, xr, x3, x4, xd⟩).next (Below.refl _ _).drew)
      have HZ2 := Lib.hid (HZ.out.next HB2.out)
      have HBW := Lib.hid (beln HW1.out HB2.out)
      clear hw2 hS d0 d1 d2 d3 d4 e0 e1 e2 e3 e4 hd1 hd2 HR b0 b1 b2 b3 b4
      have HS : ∀ (W : World) (p : Value), Below w.heap.size w W → ∀ j, Below w.heap.size w (W.setCell ⟨w.heap.size, j, none⟩ p) := fun W p hb j => hb.setCell (p := ⟨w.heap.size, j, none⟩) (Nat.le_refl _) p
      have HSC := Lib.hid HS
      clear HS
      have HVC := Lib.hid (HV.out w2)
      rcases hvc : vC rc with _ | _
      · obtain ⟨q1, q2⟩ := HY.out fun hp => by rw [(HP.out.1 hp).2] at hvc; cases hvc
        rw [hvc] at HVC
        subst q1 q2
        clear HY HN HP HV hvc
        obtain ⟨rk, rb, rn, rr, rw_, rl, rd⟩ := rc
        obtain ⟨t0, t1, t2, t3, t4, t5, t6⟩ := HX2.out.cells
        simp only [GC.val] at *
        have htl := HX2.out.lt
        go_wp2_with fail
        go_fit HVC.out
        rintro e w3 ⟨rfl, hb3⟩
        have HB3 := Lib.hid (beln HBW.out hb3)
        have HZ3 := Lib.hid (HZ2.out.next hb3)
        clear hb3 t0 t1 t2 t3 t4 t5 t6 HVC
        obtain ⟨z0, z1, z2, z3, z4, z5, z6⟩ := HZ3.out.cells
        have zf := HZ3.out.frz
        have hzl := HZ3.out.lt
        simp only [zC] at z0 z1 z2 z3 z4 z5 z6 ⊢
        go_wp2
        refine bodyPost_ret (v := .tuple #[.agg #[.int .i64 0, .int .i64 0, .int .i64 0, .int .i64 0, .int .i64 0, .int .i64 0, .bool false], .int .i64 14]) (by simp [results, Try.results28, go_sem, z0, z1, z2, z3, z4, z5, z6]) rfl ?_
        exact ⟨rfl, HSC.out _ _ (HSC.out _ _ (HSC.out _ _ (HSC.out _ _ (HSC.out _ _ (HSC.out _ _ (HSC.out _ _ HB3.out _) _) _) _) _) _) _⟩
      · obtain ⟨q1, q2⟩ := HN.out (HP.out.2 ⟨h10, hvc⟩)
        rw [hvc] at HVC
        subst q1 q2
        clear HY HN HP HV hvc
        obtain ⟨rk, rb, rn, rr, rw_, rl, rd⟩ := q
        obtain ⟨t0, t1, t2, t3, t4, t5, t6⟩ := HX2.out.cells
        simp only [GC.val] at *
        have htl := HX2.out.lt
        go_wp2_with fail
        go_fit HVC.out
        rintro e w3 ⟨rfl, hb3⟩
        have HB3 := Lib.hid (beln HBW.out hb3)
        have HZ3 := Lib.hid (HZ2.out.next hb3)
        have HX3 := Lib.hid (HX2.out.next hb3)
        clear hb3 t0 t1 t2 t3 t4 t5 t6 HVC
        obtain ⟨t0, t1, t2, t3, t4, t5, t6⟩ := HX3.out.cells
        obtain ⟨z0, z1, z2, z3, z4, z5, z6⟩ := HZ3.out.cells
        have zf := HZ3.out.frz
        have hzl := HZ3.out.lt
        have htl := HX3.out.lt
        simp only [zC] at z0 z1 z2 z3 z4 z5 z6 t0 t1 t2 t3 t4 t5 t6
        go_wp2
        refine bodyPost_ret (v := .tuple #[.agg #[.int .i64 rk, .int .i64 rb, .int .i64 rn, .int .i64 rr, .int .i64 rw_, .int .i64 rl, .bool rd], .int .i64 0]) (by simp [results, Try.results28, go_sem, z0, z1, z2, z3, z4, z5, z6]) rfl ?_
        exact ⟨rfl, HSC.out _ _ (HSC.out _ _ (HSC.out _ _ (HSC.out _ _ (HSC.out _ _ (HSC.out _ _ (HSC.out _ _ HB3.out _) _) _) _) _) _) _⟩
end Go.Proofs.Ytpjakfbjiioflaa
