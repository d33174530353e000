/-
  The program's Decode.
  Conditions: none.
  The program's Decode.
  Conditions: at most a million bytes.
  The law NodeRoundTrip returns true.
  Conditions: none.
-/
import Derived.Test.YtnoegjfokceghaaMca
import Derived.Test.YtnoegjfokceghaaCae
import Derived.Test.YtnoegjfokceghaaMe2
import Derived.Test.YtnoegjfokceghaaNmn
import Derived.Test.YtnoegjfokceghaaNol
import Derived.Test.YtnoegjfokceghaaMe3
namespace Go.Proofs.Ytnoegjfokceghaa

open Go.RowKit

theorem or_eq (a b : Int) : bits .or .i64 a b = IntKind.i64.wrap ((mN a ||| mN b : Nat) : Int) := by
  show IntKind.i64.wrap ((BitVec.ofInt 64 a ||| BitVec.ofInt 64 b).toNat : Int) = _
  rw [BitVec.toNat_or]; rfl
/-- A byte below a number of bytes. -/
theorem or_byte8 (x y : Int) (hx : 0 ≤ x) (hx1 : x < 1099511627776) (hy : 0 ≤ y) (hy1 : y < 256) : bits .or .i64 (x * 256) y = x * 256 + y := by
  obtain ⟨p, rfl⟩ : ∃ p : Nat, x = p := ⟨x.toNat, by omega⟩
  obtain ⟨q, rfl⟩ : ∃ q : Nat, y = q := ⟨y.toNat, by omega⟩
  rw [or_eq, show ((p : Int) * 256) = ((p * 256 : Nat) : Int) by omega, mN_nat (by omega), mN_nat (by omega)]
  have h := Nat.shiftLeft_add_eq_or_of_lt (a := p) (b := q) (i := 8) (by omega)
  rw [Nat.shiftLeft_eq, show (2 : Nat) ^ 8 = 256 by decide] at h
  rw [← h, IntWalk.i64_in _ (by omega)]
  omega
/-- The j highest bytes of the address. -/
def qB (l : List UInt8) : Nat → Int
  | 0 => 0
  | j + 1 => qB l j * 256 + bI l (9 - j)
theorem qB_five (l : List UInt8) : qB l 5 = pB l 5 := by
  show ((((0 * 256 + bI l 9) * 256 + bI l 8) * 256 + bI l 7) * 256 + bI l 6) * 256 + bI l 5 = bI l 5 + bI l 6 * 256 + bI l 7 * 65536 + bI l 8 * 16777216 + bI l 9 * 4294967296
  omega
theorem qB_range (l : List UInt8) : ∀ j, j ≤ 5 → 0 ≤ qB l j ∧ qB l j < 1099511627776 := by
  intro j hj
  have h9 := bI_lt l 9
  have h8 := bI_lt l 8
  have h7 := bI_lt l 7
  have h6 := bI_lt l 6
  have h5 := bI_lt l 5
  rcases (show j = 0 ∨ j = 1 ∨ j = 2 ∨ j = 3 ∨ j = 4 ∨ j = 5 by omega) with rfl | rfl | rfl | rfl | rfl | rfl
  · show 0 ≤ (0 : Int) ∧ (0 : Int) < _; omega
  · show 0 ≤ 0 * 256 + bI l 9 ∧ 0 * 256 + bI l 9 < _; omega
  · show 0 ≤ (0 * 256 + bI l 9) * 256 + bI l 8 ∧ (0 * 256 + bI l 9) * 256 + bI l 8 < _; omega
  · show 0 ≤ ((0 * 256 + bI l 9) * 256 + bI l 8) * 256 + bI l 7 ∧ ((0 * 256 + bI l 9) * 256 + bI l 8) * 256 + bI l 7 < _; omega
  · show 0 ≤ (((0 * 256 + bI l 9) * 256 + bI l 8) * 256 + bI l 7) * 256 + bI l 6 ∧ (((0 * 256 + bI l 9) * 256 + bI l 8) * 256 + bI l 7) * 256 + bI l 6 < _; omega
  · show 0 ≤ ((((0 * 256 + bI l 9) * 256 + bI l 8) * 256 + bI l 7) * 256 + bI l 6) * 256 + bI l 5 ∧ ((((0 * 256 + bI l 9) * 256 + bI l 8) * 256 + bI l 7) * 256 + bI l 6) * 256 + bI l 5 < _; omega
/-- The third byte: the rights, and the mark of a device. -/
theorem flag_bits : ∀ x : Fin 256, (x.val < 16 → bits .andNot .i64 (x.val : Int) 8 = (x.val : Int) % 8 ∧ (bits .and .u8 (x.val : Int) 8 != 0) = decide (8 ≤ (x.val : Int))) ∧ (16 ≤ x.val → 7 < bits .andNot .i64 (x.val : Int) 8) := by decide +kernel
def rawD (l : List UInt8) : GC := ⟨bI l 0, pB l 5, bI l 1, bits .andNot .i64 (bI l 2) 8, bI l 3, bI l 4, bits .and .u8 (bI l 2) 8 != 0⟩
theorem rawD_ok (l : List UInt8) : (vC (rawD l) = true ↔ bI l 2 < 16 ∧ vC (rawC l) = true) ∧ (bI l 2 < 16 → rawD l = rawC l) := by
  have hb := bI_lt l 2
  have hf := flag_bits ⟨(bI l 2).toNat, by omega⟩
  simp only at hf
  rw [Int.toNat_of_nonneg hb.1] at hf
  have e : bI l 2 < 16 → rawD l = rawC l := fun h => by
    obtain ⟨h1, h2⟩ := hf.1 (by omega)
    unfold rawD rawC
    rw [h1, h2]
  refine ⟨⟨fun h => ?_, fun h => by rw [e h.1]; exact h.2⟩, e⟩
  rcases Int.lt_or_le (bI l 2) 16 with h16 | h16
  · exact ⟨h16, by rw [← e h16]; exact h⟩
  · exfalso
    have h7 := hf.2 (by omega)
    have hv := vC_facts h
    have : (rawD l).rights = bits .andNot .i64 (bI l 2) 8 := rfl
    omega
set_option maxRecDepth 20000 in
set_option maxHeartbeats 4000000 in
theorem pDec_any (l : List UInt8) (A : Option Addr) (c : Nat) (w : World) (h : Byt w w.heap.size A l.length l) :
    Calls Try.prog 57 #[.slice A l.length c] w fun e w' => e = .returned (.tuple #[(decC l).val, .int .i64 (decE l)]) ∧ Below w.heap.size w w' := by
  have HV := Lib.hid fun W => pVC_any (rawD l) W
  have HY : Hid (¬ decP l → decC l = zC ∧ decE l = 14) := Lib.hid fun h => by unfold decC decE; rw [if_neg h, if_neg h]; exact ⟨rfl, rfl⟩
  have HN : Hid (decP l → decC l = rawD l ∧ decE l = 0) := Lib.hid fun h => by unfold decC decE; rw [if_pos h, if_pos h, (rawD_ok l).2 h.2.1]; exact ⟨rfl, rfl⟩
  have HP : Hid (decP l ↔ l.length = 10 ∧ vC (rawD l) = true) := Lib.hid (by rw [(rawD_ok l).1]; exact Iff.rfl)
  generalize decC l = q at *
  generalize decE l = er at *
  by_cases h10 : l.length = 10
  rotate_left
  · have fb : ((l.length : Int) == 10) = false := by rw [beq_eq_false_iff_ne]; omega
    have fb2 : ((l.length : Int) != 10) = true := by rw [bne, fb]; rfl
    obtain ⟨e1, e2⟩ := HY.out fun hp => h10 (HP.out.1 hp).1
    subst e1 e2
    simp only [GC.val, zC]
    clear h10 HV HN HP h fb HY
    generalize (l.length : Nat) = n at *
    go_enter Try.func57, Try.ntmps57
    go_wp2
    refine bodyPost_ret (v := .tuple #[.agg #[.int .i64 0, .int .i64 0, .int .i64 0, .int .i64 0, .int .i64 0, .int .i64 0, .bool false], .int .i64 14]) (by simp [results, Try.results57, go_sem]) rfl ?_
    exact ⟨rfl, belt (Below.refl _ w) _⟩
  rw [h10] at h ⊢
  obtain ⟨b, off, rfl, hb, hc⟩ := h.at_ (by omega)
  have HC : Hid (∀ j, j < 10 → w.cell? ⟨b, off + j, none⟩ = some (.int .u8 (bI l j))) := Lib.hid fun j hj => hc j (by omega)
  have HBI := Lib.hid fun j => bI_lt l j
  have HQS : Hid (∀ j, qB l (j + 1) = qB l j * 256 + bI l (9 - j)) := Lib.hid fun _ => rfl
  have HQR := Lib.hid (qB_range l)
  have HQ5 := Lib.hid (qB_five l)
  have HQ00 : Hid (qB l 0 = 0) := Lib.hid rfl
  have HR : Hid (rawD l = ⟨bI l 0, pB l 5, bI l 1, bits .andNot .i64 (bI l 2) 8, bI l 3, bI l 4, bits .and .u8 (bI l 2) 8 != 0⟩) := Lib.hid rfl
  generalize rawD l = rc at *
  generalize pB l 5 = g5 at *
  generalize bI l = f at *
  generalize qB l = g at *
  clear hc h
  go_enter Try.func57, Try.ntmps57
  go_wp2
  go_loopw [4, 5] (fun v4 v5 wr => ∃ j : Nat, v5 = .int .i64 (9 - (j : Int)) ∧ j ≤ 5 ∧ v4 = .int .i64 (g j) ∧ wr = w.alloc (.cells #[.int .i64 0, .int .i64 0, .int .i64 0, .int .i64 0, .int .i64 0, .int .i64 0, .bool false] 26)) (fun _ v5 _ => (intOf v5).toNat)
  case atStart => exact ⟨0, rfl, by omega, by rw [HQ00.out], rfl⟩
  case round =>
    obtain ⟨j, rfl, hj, rfl, rfl⟩ := hrel
    by_cases h5 : j < 5
    · have fj : decide (5 ≤ 9 - (j : Int)) = true := by simp; omega
      have cj := HC.out (9 - j) (by omega)
      obtain ⟨b0, b1⟩ := HBI.out (9 - j)
      obtain ⟨g0, g1⟩ := HQR.out j hj
      obtain ⟨_, g2⟩ := HQR.out (j + 1) (by omega)
      have hq := HQS.out j
      rw [hq] at g2
      have HG := Lib.hid hq
      clear hq
      generalize f (9 - j) = x at *
      generalize g j = y at *
      have ho := or_byte8 y x g0 g1 b0 b1
      have hw1 : wrap64 (y * 256) = y * 256 := IntWalk.wrap64_in _ (by omega)
      have hx : IntKind.i64.wrap x = x := IntWalk.i64_in _ (by omega)
      have hn : (9 - (j : Int)).toNat = 9 - j := by omega
      have hd : IntKind.i64.wrap (9 - (j : Int) - 1) = 9 - (j : Int) - 1 := IntWalk.i64_in _ (by omega)
      have hl : decide (9 - (j : Int) < 10) = true := by simp; omega
      have hl2 : decide (9 - (j : Int) < 0) = false := by simp; omega
      have HM : Hid ((9 - (j : Int) - 1).toNat < (9 - (j : Int)).toNat ∧ 9 - (j : Int) - 1 = 9 - ((j + 1 : Nat) : Int)) := Lib.hid (by omega)
      go_wp2
      go_roundw
      case rel => exact ⟨j + 1, by rw [HM.out.2], by omega, by rw [HG.out], trivial⟩
      case measure => exact HM.out.1
    · obtain rfl : j = 5 := by omega
      have fj : decide ((5 : Int) ≤ 9 - ((5 : Nat) : Int)) = false := by decide
      go_upto_region 8 with fail
      rw [HQ5.out]
      have c0 := HC.out 0 (by omega)
      have c1 := HC.out 1 (by omega)
      have c2 := HC.out 2 (by omega)
      have c3 := HC.out 3 (by omega)
      have c4 := HC.out 4 (by omega)
      have b0 := HBI.out 0
      have b1 := HBI.out 1
      have b2 := HBI.out 2
      have b3 := HBI.out 3
      have b4 := HBI.out 4
      generalize f 0 = x0 at *
      generalize f 1 = x1 at *
      generalize f 2 = x2 at *
      generalize f 3 = x3 at *
      generalize f 4 = x4 at *
      rw [Nat.add_zero] at c0
      generalize hw1 : w.alloc (.cells #[.int .i64 0, .int .i64 0, .int .i64 0, .int .i64 0, .int .i64 0, .int .i64 0, .bool false] 26) = w1 at *
      have HW1 : Hid (Below w.heap.size w w1) := Lib.hid (by rw [← hw1]; exact belt (Below.refl _ w) _)
      have HZ : Hid (CB w1 w.heap.size zC) := Lib.hid (by rw [← hw1]; exact CB.new w zC)
      have hsz := HZ.out.lt
      have hb2 : b < w1.heap.size := by omega
      have d0 : w1.cell? ⟨b, off, none⟩ = some (.int .u8 x0) := (HW1.out.cell (p := ⟨b, off, none⟩) hb).trans c0
      have d1 : w1.cell? ⟨b, off + 1, none⟩ = some (.int .u8 x1) := (HW1.out.cell (p := ⟨b, off + 1, none⟩) hb).trans c1
      have d2 : w1.cell? ⟨b, off + 2, none⟩ = some (.int .u8 x2) := (HW1.out.cell (p := ⟨b, off + 2, none⟩) hb).trans c2
      have d3 : w1.cell? ⟨b, off + 3, none⟩ = some (.int .u8 x3) := (HW1.out.cell (p := ⟨b, off + 3, none⟩) hb).trans c3
      have d4 : w1.cell? ⟨b, off + 4, none⟩ = some (.int .u8 x4) := (HW1.out.cell (p := ⟨b, off + 4, none⟩) hb).trans c4
      have e0 : IntKind.i64.wrap x0 = x0 := IntWalk.i64_in _ (by omega)
      have e1 : IntKind.i64.wrap x1 = x1 := IntWalk.i64_in _ (by omega)
      have e2 : IntKind.i64.wrap x2 = x2 := IntWalk.i64_in _ (by omega)
      have e3 : IntKind.i64.wrap x3 = x3 := IntWalk.i64_in _ (by omega)
      have e4 : IntKind.i64.wrap x4 = x4 := IntWalk.i64_in _ (by omega)
      clear hw1 c0 c1 c2 c3 c4 fj hj h5
      have hS := (Below.refl w1.heap.size w1).drew
      refine wp_region_growS (S := fun W => Below w1.heap.size w1 W) [(0, true), (1, true), (2, true), (3, true), (4, true), (5, true), (6, true), (7, true), (8, true), (9, true), (10, true), (11, true), (12, true), (13, true), (14, true), (15, true), (16, true), (17, true), (18, true), (19, true), (20, true), (21, true), (22, true), (23, true), (24, true), (25, true), (26, true), (27, true), (28, false), (29, false)] (by kernel_rfl) (by kernel_rfl) (by kernel_rfl) (by kernel_rfl) (by intro c a d v w h; cases d <;> exact h) hS ?_
      iterate 28
        (first
          | (refine wpGrowS_float (v := ?_) (by simp only [List.getElem?_toArray, List.getElem?_cons_succ, List.getElem?_cons_zero]; rfl) (by rfl) ?_ ?_
             rotate_left
             · (intro W hW; have t0 := (hW.cell (p := ⟨b, off, none⟩) hb2).trans d0; have t1 := (hW.cell (p := ⟨b, off + 1, none⟩) hb2).trans d1; have t2 := (hW.cell (p := ⟨b, off + 2, none⟩) hb2).trans d2; have t3 := (hW.cell (p := ⟨b, off + 3, none⟩) hb2).trans d3; have t4 := (hW.cell (p := ⟨b, off + 4, none⟩) hb2).trans d4; (try simp only at *); go_simp; try with_reducible rfl)
             simp only [Act.put, List.setIfInBounds_toArray, List.set_cons_zero, List.set_cons_succ])
          | (refine wpGrowS_skip (by simp only [List.getElem?_toArray, List.getElem?_cons_succ, List.getElem?_cons_zero]; rfl) (by rfl) ?_
             simp only [Act.put, List.setIfInBounds_toArray, List.set_cons_zero, List.set_cons_succ]))
      refine wpGrowS_call (by simp only [List.getElem?_toArray, List.getElem?_cons_succ, List.getElem?_cons_zero]; rfl) (by rfl) fun K hK => ?_
      go_simp
      refine hK _ _ (belt (Below.refl _ w1).drew _) ?_
      clear hK K
      try simp only [Act.put, List.setIfInBounds_toArray, List.set_cons_zero, List.set_cons_succ]
      refine wpGrowS_call (by simp only [List.getElem?_toArray, List.getElem?_cons_succ, List.getElem?_cons_zero]; rfl) (by rfl) fun K hK => ?_
      go_simp
      refine hK _ _ (belt (Below.refl _ w1) _).drew ?_
      clear hK K
      try simp only [Act.put, List.setIfInBounds_toArray, List.set_cons_zero, List.set_cons_succ]
      refine wpGrowS_nil ?_
      generalize hd1 : bits .andNot .i64 x2 8 = xr at *
      generalize hd2 : (bits .and .u8 x2 8 != 0) = xd at *
      generalize hw2 : (w1.alloc (.cells #[.int .i64 x0, .int .i64 g5, .int .i64 x1, .int .i64 xr, .int .i64 x3, .int .i64 x4, .bool xd] 26)).drew = w2 at *
      have HB2 : Hid (Below w1.heap.size w1 w2) := Lib.hid (by rw [← hw2]; exact (belt (Below.refl _ w1) _).drew)
      have HX2 : Hid (CB w2 w1.heap.size rc) := Lib.hid (by rw [← hw2, HR.out]; exact (CB.new w1 ⟨x0, g5, x1, xr, x3, x4, xd⟩).next (Below.refl _ _).drew)
      have HZ2 := Lib.hid (HZ.out.next HB2.out)
      have HBW := Lib.hid (beln HW1.out HB2.out)
      clear hw2 hS d0 d1 d2 d3 d4 e0 e1 e2 e3 e4 hd1 hd2 HR b0 b1 b2 b3 b4
      have HS : ∀ (W : World) (p : Value), Below w.heap.size w W → ∀ j, Below w.heap.size w (W.setCell ⟨w.heap.size, j, none⟩ p) := fun W p hb j => hb.setCell (p := ⟨w.heap.size, j, none⟩) (Nat.le_refl _) p
      have HSC := Lib.hid HS
      clear HS
      have HVC := Lib.hid (HV.out w2)
      rcases hvc : vC rc with _ | _
      · obtain ⟨q1, q2⟩ := HY.out fun hp => by rw [(HP.out.1 hp).2] at hvc; cases hvc
        rw [hvc] at HVC
        subst q1 q2
        clear HY HN HP HV hvc
        obtain ⟨rk, rb, rn, rr, rw_, rl, rd⟩ := rc
        obtain ⟨t0, t1, t2, t3, t4, t5, t6⟩ := HX2.out.cells
        simp only [GC.val] at *
        have htl := HX2.out.lt
        go_wp2_with fail
        go_fit HVC.out
        rintro e w3 ⟨rfl, hb3⟩
        have HB3 := Lib.hid (beln HBW.out hb3)
        have HZ3 := Lib.hid (HZ2.out.next hb3)
        clear hb3 t0 t1 t2 t3 t4 t5 t6 HVC
        obtain ⟨z0, z1, z2, z3, z4, z5, z6⟩ := HZ3.out.cells
        have zf := HZ3.out.frz
        have hzl := HZ3.out.lt
        simp only [zC] at z0 z1 z2 z3 z4 z5 z6 ⊢
        go_wp2
        refine bodyPost_ret (v := .tuple #[.agg #[.int .i64 0, .int .i64 0, .int .i64 0, .int .i64 0, .int .i64 0, .int .i64 0, .bool false], .int .i64 14]) (by simp [results, Try.results57, go_sem, z0, z1, z2, z3, z4, z5, z6]) rfl ?_
        exact ⟨rfl, HSC.out _ _ (HSC.out _ _ (HSC.out _ _ (HSC.out _ _ (HSC.out _ _ (HSC.out _ _ (HSC.out _ _ HB3.out _) _) _) _) _) _) _⟩
      · obtain ⟨q1, q2⟩ := HN.out (HP.out.2 ⟨h10, hvc⟩)
        rw [hvc] at HVC
        subst q1 q2
        clear HY HN HP HV hvc
        obtain ⟨rk, rb, rn, rr, rw_, rl, rd⟩ := q
        obtain ⟨t0, t1, t2, t3, t4, t5, t6⟩ := HX2.out.cells
        simp only [GC.val] at *
        have htl := HX2.out.lt
        go_wp2_with fail
        go_fit HVC.out
        rintro e w3 ⟨rfl, hb3⟩
        have HB3 := Lib.hid (beln HBW.out hb3)
        have HZ3 := Lib.hid (HZ2.out.next hb3)
        have HX3 := Lib.hid (HX2.out.next hb3)
        clear hb3 t0 t1 t2 t3 t4 t5 t6 HVC
        obtain ⟨t0, t1, t2, t3, t4, t5, t6⟩ := HX3.out.cells
        obtain ⟨z0, z1, z2, z3, z4, z5, z6⟩ := HZ3.out.cells
        have zf := HZ3.out.frz
        have hzl := HZ3.out.lt
        have htl := HX3.out.lt
        simp only [zC] at z0 z1 z2 z3 z4 z5 z6 t0 t1 t2 t3 t4 t5 t6
        go_wp2
        refine bodyPost_ret (v := .tuple #[.agg #[.int .i64 rk, .int .i64 rb, .int .i64 rn, .int .i64 rr, .int .i64 rw_, .int .i64 rl, .bool rd], .int .i64 0]) (by simp [results, Try.results57, go_sem, z0, z1, z2, z3, z4, z5, z6]) rfl ?_
        exact ⟨rfl, HSC.out _ _ (HSC.out _ _ (HSC.out _ _ (HSC.out _ _ (HSC.out _ _ (HSC.out _ _ (HSC.out _ _ HB3.out _) _) _) _) _) _) _⟩
end Go.Proofs.Ytnoegjfokceghaa


namespace Go.Proofs.Ytnoegjfokceghaa
open Go.RowKit

theorem numP_le {l : List UInt8} {s : Nat × Bool} (h : s.1 ≤ l.length) : (numP l s).2.1 ≤ l.length := by
  by_cases hb : (numP l s).2.2 = false
  · exact (numP_ok hb).2.1
  · unfold numP at hb ⊢
    split
    · exact h
    · split
      · rename_i h1 h2
        rw [if_neg h1, if_pos h2] at hb
        exact absurd rfl hb
      · exact h
theorem idP_le {l : List UInt8} {s : Nat × Bool} (h : s.1 ≤ l.length) : (idP l s).2.1 ≤ l.length := numP_le (numP_le (numP_le h))
theorem idsP_le {l : List UInt8} {s : Nat × Bool} (h : s.1 ≤ l.length) (k : Nat) : (idsP l k s).2.1 ≤ l.length := by
  induction k with
  | zero => exact h
  | succ k ih => rw [idsP]; exact idP_le ih
theorem NB.setCap {W : World} {N : Nat} {i : GId} {A : Option Addr} {n c : Nat} {p : GC} (h : NB W N i A n c p) (q : GC) : NB (((((((W.setCell ⟨N, 4, none⟩ (.int .i64 q.kind)).setCell ⟨N, 5, none⟩ (.int .i64 q.base)).setCell ⟨N, 6, none⟩ (.int .i64 q.bits)).setCell ⟨N, 7, none⟩ (.int .i64 q.rights)).setCell ⟨N, 8, none⟩ (.int .i64 q.width)).setCell ⟨N, 9, none⟩ (.int .i64 q.level)).setCell ⟨N, 10, none⟩ (.bool q.device)) N i A n c q := by
  unfold NB at *
  simp [World.setCell, Array.getElem?_modify, h]
/-- What Decode hands back. -/
def DEnd (l : List UInt8) (w : World) (e : Ending) (w' : World) : Prop := ∃ x er, DecOk l x er ∧ ChEnd er x w e w'
theorem dend_bad {l : List UInt8} (h : ¬ okN l) (w W : World) (hb : Below w.heap.size w W) : DEnd l w (.returned (.tuple #[.agg #[.int .i64 0, .int .i64 0, .int .i64 0, .slice none 0 0, .int .i64 0, .int .i64 0, .int .i64 0, .int .i64 0, .int .i64 0, .int .i64 0, .bool false], .int .i64 14])) W :=
  ⟨_, 14, DecOk.of_not h, none, 0, rfl, by simp, OwnG.nil _ _, hb⟩
theorem dend_ok {l : List UInt8} (h : okN l) (w W : World) (A : Option Addr) (c : Nat) (hc : (decN l).path.length ≤ c) (ho : OwnG GId.cells 23 3 W w.heap.size (.slice A (decN l).path.length c) (decN l).path) (hb : Below w.heap.size w W) : DEnd l w (.returned (.tuple #[(decN l).val A c, .int .i64 0])) W :=
  ⟨_, 0, DecOk.of_ok h, A, c, rfl, hc, ho, hb⟩
set_option maxRecDepth 20000 in
set_option maxHeartbeats 8000000 in
theorem pDecN_any (l : List UInt8) (A : Option Addr) (c : Nat) (w : World) (h : Byt w w.heap.size A l.length l) (hn : l.length ≤ 1000000) (hc : l.length ≤ c) : Calls Try.prog 30 #[.slice A l.length c] w (DEnd l w) := by
  have HBY := Lib.hid fun W (hW : Below w.heap.size w W) => h.below hW
  have HBAD0 : Hid (¬ okN l → ∀ W, Below w.heap.size w W → DEnd l w (.returned (.tuple #[.agg #[.int .i64 0, .int .i64 0, .int .i64 0, .slice none 0 0, .int .i64 0, .int .i64 0, .int .i64 0, .int .i64 0, .int .i64 0, .int .i64 0, .bool false], .int .i64 14])) W) := Lib.hid fun h W hb => dend_bad h w W hb
  have HOK0 : Hid (okN l → ∀ W A' c', (decN l).path.length ≤ c' → OwnG GId.cells 23 3 W w.heap.size (.slice A' (decN l).path.length c') (decN l).path → Below w.heap.size w W → DEnd l w (.returned (.tuple #[(decN l).val A' c', .int .i64 0])) W) := Lib.hid fun h W A' c' hcc ho hb => dend_ok h w W A' c' hcc ho hb
  have HOKN : Hid (okN l ↔ ((0 ≤ (dec2 l).1 ∧ (dec2 l).1 ≤ 8) ∧ (dec3 l).2.2 = false ∧ decE (l.drop (dec3 l).2.1) = 0 ∧ vN (decN l) = true)) := Lib.hid Iff.rfl
  have HD1 : Hid (dec1 l = idP l (0, false)) := Lib.hid rfl
  have HD2 : Hid (dec2 l = numP l (dec1 l).2) := Lib.hid rfl
  have HD3 : Hid (dec3 l = idsP l (dec2 l).1.toNat (dec2 l).2) := Lib.hid rfl
  have HDN : Hid (decN l = ⟨(dec1 l).1, (dec3 l).1, decC (l.drop (dec3 l).2.1)⟩) := Lib.hid rfl
  have HLE : Hid (∀ k, (idsP l k (dec2 l).2).2.1 ≤ l.length) := Lib.hid fun k => idsP_le (numP_le (idP_le (Nat.zero_le _))) k
  have HBAD1 := HBAD0
  generalize DEnd l w = EE at *
  generalize okN l = okk at *
  have HSC : Hid (∀ (W : World) (p : Value) (k : Nat), w.heap.size ≤ k → Below w.heap.size w W → ∀ j, Below w.heap.size w (W.setCell ⟨k, j, none⟩ p)) := Lib.hid fun W p k hk hb j => hb.setCell (p := ⟨k, j, none⟩) hk p
  have HZ0 := Lib.hid ((NB.new w ⟨0, 0, 0⟩ none 0 0 ⟨0, 0, 0, 0, 0, 0, false⟩).next (belt (Below.refl _ _) (.cells #[.slice A l.length c, .int .i64 0, .bool false] 76)))
  have HR0 : Hid (RD ((w.alloc (.cells #[.int .i64 0, .int .i64 0, .int .i64 0, .slice none 0 0, .int .i64 0, .int .i64 0, .int .i64 0, .int .i64 0, .int .i64 0, .int .i64 0, .bool false] 28)).alloc (.cells #[.slice A l.length c, .int .i64 0, .bool false] 76)) (w.heap.size + 1) A l.length c (0, false)) := Lib.hid (by
    have h := heap_alloc_new (w.alloc (.cells #[.int .i64 0, .int .i64 0, .int .i64 0, .slice none 0 0, .int .i64 0, .int .i64 0, .int .i64 0, .int .i64 0, .int .i64 0, .int .i64 0, .bool false] 28)) (.cells #[.slice A l.length c, .int .i64 0, .bool false] 76)
    rw [World.size_alloc] at h
    exact h)
  have HB0 := Lib.hid (belt (belt (Below.refl _ w) (.cells #[.int .i64 0, .int .i64 0, .int .i64 0, .slice none 0 0, .int .i64 0, .int .i64 0, .int .i64 0, .int .i64 0, .int .i64 0, .int .i64 0, .bool false] 28)) (.cells #[.slice A l.length c, .int .i64 0, .bool false] 76))
  clear h
  go_enter Try.func30, Try.ntmps30
  have HC1 := Lib.hid (pRid_any (w.heap.size + 1) A l.length c l (0, false) _ HR0.out ((HBY.out _ HB0.out).wide (by omega)) (by omega))
  rw [← HD1.out] at HC1
  go_wp2_with fail
  generalize (w.alloc (.cells #[.int .i64 0, .int .i64 0, .int .i64 0, .slice none 0 0, .int .i64 0, .int .i64 0, .int .i64 0, .int .i64 0, .int .i64 0, .int .i64 0, .bool false] 28)).alloc (.cells #[.slice A l.length c, .int .i64 0, .bool false] 76) = w0 at *
  go_fit HC1.out
  rintro e w1 ⟨rfl, hr1, hk1⟩
  have HR1 := Lib.hid hr1
  have HZ1 : Hid (NB w1 w.heap.size ⟨0, 0, 0⟩ none 0 0 ⟨0, 0, 0, 0, 0, 0, false⟩) := Lib.hid ((hk1.block _ HZ0.out.lt (fun e => by simp at e)).trans HZ0.out)
  have HB1 := Lib.hid (hk1.below HB0.out HB0.out.size (by omega))
  have HRL1 := Lib.hid hr1.lt
  clear hr1 hk1 HR0 HZ0 HB0 HC1
  generalize dec1 l = d1 at *
  obtain ⟨⟨i0, i1, i2⟩, s1⟩ := d1
  simp only [GId.val] at *
  have HN2 := Lib.hid (NB.new w1 ⟨i0, i1, i2⟩ none 0 0 ⟨0, 0, 0, 0, 0, 0, false⟩)
  have HR2 := Lib.hid (HR1.out.next (belt (Below.refl _ _) (.cells #[.int .i64 i0, .int .i64 i1, .int .i64 i2, .slice none 0 0, .int .i64 0, .int .i64 0, .int .i64 0, .int .i64 0, .int .i64 0, .int .i64 0, .bool false] 28)))
  have HZ2 := Lib.hid (HZ1.out.next (belt (Below.refl _ _) (.cells #[.int .i64 i0, .int .i64 i1, .int .i64 i2, .slice none 0 0, .int .i64 0, .int .i64 0, .int .i64 0, .int .i64 0, .int .i64 0, .int .i64 0, .bool false] 28)))
  have HB2 := Lib.hid (belt HB1.out (.cells #[.int .i64 i0, .int .i64 i1, .int .i64 i2, .slice none 0 0, .int .i64 0, .int .i64 0, .int .i64 0, .int .i64 0, .int .i64 0, .int .i64 0, .bool false] 28))
  have HC2 := Lib.hid (pNum_any (w.heap.size + 1) A l.length c l s1 _ HR2.out ((HBY.out _ HB2.out).wide (by omega)) (by omega))
  rw [← HD2.out] at HC2
  simp only at HN2
  go_wp2_with fail
  generalize w1.alloc (.cells #[.int .i64 i0, .int .i64 i1, .int .i64 i2, .slice none 0 0, .int .i64 0, .int .i64 0, .int .i64 0, .int .i64 0, .int .i64 0, .int .i64 0, .bool false] 28) = w2 at *
  generalize hM : w1.heap.size = M at *
  go_fit HC2.out
  rintro e w3 ⟨rfl, hr3, hk3⟩
  have HRW : Hid (w.heap.size < w.heap.size + 1) := Lib.hid (by omega)
  have HRM : Hid (w.heap.size + 1 < M) := Lib.hid HRL1.out
  have HM : Hid (w.heap.size ≤ M) := Lib.hid (by have := HRM.out; omega)
  have HR3 := Lib.hid hr3
  have HZ3 : Hid (NB w3 w.heap.size ⟨0, 0, 0⟩ none 0 0 ⟨0, 0, 0, 0, 0, 0, false⟩) := Lib.hid ((hk3.block _ HZ2.out.lt (fun e => by simp at e)).trans HZ2.out)
  have HN3 : Hid (NB w3 M ⟨i0, i1, i2⟩ none 0 0 ⟨0, 0, 0, 0, 0, 0, false⟩) := Lib.hid ((hk3.block _ HN2.out.lt (fun e => by have := HRM.out; simp at e; omega)).trans HN2.out)
  have HB3 := Lib.hid (hk3.below HB2.out HB2.out.size (by omega))
  clear hr3 hk3 HR2 HZ2 HB2 HN2 HC2 HR1 HZ1 HB1 HRL1 hM
  generalize dec2 l = d2 at *
  obtain ⟨cnt, s2⟩ := d2
  simp only at *
  by_cases hcn : cnt < 0
  · have f1 : decide (cnt < 0) = true := by simp; omega
    have HBAD := HBAD1.out (fun hk => by have := (HOKN.out.1 hk).1.1; omega)
    clear hcn
    have HE := Lib.hid HBAD
    obtain ⟨z0, z1, z2, z3, z4, z5, z6, z7, z8, z9, z10⟩ := HZ3.out.cells
    have zf := HZ3.out.frz
    have zl := HZ3.out.lt
    simp only at z0 z1 z2 z3 z4 z5 z6 z7 z8 z9 z10
    go_wp2
    refine bodyPost_ret (v := .tuple #[.agg #[.int .i64 0, .int .i64 0, .int .i64 0, .slice none 0 0, .int .i64 0, .int .i64 0, .int .i64 0, .int .i64 0, .int .i64 0, .int .i64 0, .bool false], .int .i64 14]) (by simp [results, Try.results30, go_sem, z0, z1, z2, z3, z4, z5, z6, z7, z8, z9, z10]) rfl ?_
    refine HE.out _ ?_
    repeat (refine HSC.out _ _ _ (by omega) ?_ _)
    exact HB3.out
  have f1 : decide (cnt < 0) = false := by simp; omega
  obtain ⟨cn, rfl⟩ := Int.eq_ofNat_of_zero_le (show 0 ≤ cnt by omega)
  by_cases hc8 : 8 < cn
  · have f2 : decide ((8 : Int) < (cn : Int)) = true := by simp; omega
    have HBAD := HBAD1.out (fun hk => by have := (HOKN.out.1 hk).1.2; omega)
    clear hcn hc8
    have HE := Lib.hid HBAD
    obtain ⟨z0, z1, z2, z3, z4, z5, z6, z7, z8, z9, z10⟩ := HZ3.out.cells
    have zf := HZ3.out.frz
    have zl := HZ3.out.lt
    simp only at z0 z1 z2 z3 z4 z5 z6 z7 z8 z9 z10
    go_wp2
    refine bodyPost_ret (v := .tuple #[.agg #[.int .i64 0, .int .i64 0, .int .i64 0, .slice none 0 0, .int .i64 0, .int .i64 0, .int .i64 0, .int .i64 0, .int .i64 0, .int .i64 0, .bool false], .int .i64 14]) (by simp [results, Try.results30, go_sem, z0, z1, z2, z3, z4, z5, z6, z7, z8, z9, z10]) rfl ?_
    refine HE.out _ ?_
    repeat (refine HSC.out _ _ _ (by omega) ?_ _)
    exact HB3.out
  have f2 : decide ((8 : Int) < (cn : Int)) = false := by simp; omega
  clear hcn
  rw [Int.toNat_natCast] at HD3
  have HS0 : Hid ((([] : List GId), s2) = idsP l 0 s2) := Lib.hid rfl
  go_wp2
  clear f1 f2
  go_loopw [22] (fun vi wr => ∃ (k : Nat) (ys : List GId) (sk : Nat × Bool) (A5 : Option Addr) (c5 : Nat), vi = .int .i64 k ∧ k ≤ cn ∧ Hid ((ys, sk) = idsP l k s2) ∧ Hid (ys.length ≤ c5) ∧ Hid (RD wr (w.heap.size + 1) A l.length c sk) ∧ Hid (NB wr M ⟨i0, i1, i2⟩ A5 ys.length c5 ⟨0, 0, 0, 0, 0, 0, false⟩) ∧ Hid (OwnG GId.cells 23 3 wr (M + 1) (.slice A5 ys.length c5) ys) ∧ Hid (NB wr w.heap.size ⟨0, 0, 0⟩ none 0 0 ⟨0, 0, 0, 0, 0, 0, false⟩) ∧ Hid (Below w.heap.size w wr)) (fun vi _ => cn - (intOf vi).toNat)
  case atStart => exact ⟨0, [], s2, none, 0, rfl, Nat.zero_le _, HS0, Lib.hid (Nat.le_refl _), HR3, HN3, Lib.hid (OwnG.nil _ _), HZ3, HB3⟩
  case round =>
    obtain ⟨k, ys, sk, A5, c5, rfl, hk, HY, HC5, HR, HNM, HO, HZ, HB⟩ := hrel
    clear HR3 HN3 HZ3 HB3 HS0
    generalize wr = w9 at *
    rcases Nat.lt_or_ge k cn with hlt | hge
    · have f3 : decide ((k : Int) < (cn : Int)) = true := by simp; omega
      have HYL : Hid (ys.length ≤ 8) := Lib.hid (by
        have e : ys = (idsP l k s2).1 := by rw [← HY.out]
        rw [e, idsP_len]; omega)
      have HIX := Lib.hid (pRid_any (w.heap.size + 1) A l.length c l sk w9.drew (HR.out.next (Below.refl _ _).drew) ((HBY.out _ HB.out.drew).wide (by omega)) (by omega))
      have HSX : Hid ((ys ++ [(idP l sk).1], (idP l sk).2) = idsP l (k + 1) s2) := Lib.hid (by rw [idsP, ← HY.out])
      clear HY
      generalize idP l sk = dk at *
      obtain ⟨⟨zc, zo, zp⟩, s1⟩ := dk
      simp only [GId.val] at HIX HSX
      have HID := HIX
      have HSTEP := HSX
      generalize w.heap.size + 1 = R at *
      obtain ⟨d0, d1, d2, d3, d4, d5, d6, d7, d8, d9, d10⟩ := HNM.out.cells
      have hMl := HNM.out.lt
      simp only at d0 d1 d2 d3 d4 d5 d6 d7 d8 d9 d10
      go_upto_region 8 with fail
      refine wp_region_gt (S := fun _ => True) (.fl 0 (.two 1 2 (.op 2 (.op 3 (.op 4 (.fl 5 (.op 6 .nil))))) (.two 1 3 (.op 3 (.op 4 (.fl 5 (.op 6 .nil)))) (.op 1 (.op 4 (.fl 5 (.op 6 .nil))))))) (by kernel_rfl) (by kernel_rfl) (by kernel_rfl) (by kernel_rfl) (by intro c a d v w h; cases d <;> exact h) trivial ?_
      iterate 1
        (first
          | (refine wpGT_float (v := ?_) (by simp only [List.getElem?_toArray, List.getElem?_cons_zero]; rfl) (by rfl) ?_ ?_
             rotate_left
             · (intro W _; skip; go_simp; try with_reducible rfl)
             simp only [Act.put, List.setIfInBounds_toArray, List.set_cons_zero, List.set_cons_succ])
          | (refine wpGT_skip (by simp only [List.getElem?_toArray, List.getElem?_cons_zero]; rfl) (by rfl) ?_
             simp only [Act.put, List.setIfInBounds_toArray, List.set_cons_zero, List.set_cons_succ]))
      refine wpGT_two ?_ ?_
      · refine wpOp_call (by simp only [List.getElem?_toArray, List.getElem?_cons_succ, List.getElem?_cons_zero]; rfl) (by rfl) fun K hK => ?_
        go_simp
        refine hK _ _ trivial ?_
        clear hK K
        try simp only [Act.put, List.setIfInBounds_toArray, List.set_cons_zero, List.set_cons_succ]
        refine wpGT_call (by simp only [List.getElem?_toArray, List.getElem?_cons_succ, List.getElem?_cons_zero]; rfl) (by rfl) fun K hK => ?_
        go_simp
        go_fit HID.out
        rintro e wn ⟨rfl, hr1, hk1⟩
        have HK1 := Lib.hid hk1
        have HR1 := Lib.hid hr1
        have hMn : M < wn.heap.size := by have := hk1.size; have := HNM.out.lt; simp at *; omega
        have HN1 : Hid (NB wn M ⟨i0, i1, i2⟩ A5 ys.length c5 ⟨0, 0, 0, 0, 0, 0, false⟩) := Lib.hid ((hk1.block M HNM.out.lt (fun e => by cases e; have := HRM.out; omega)).trans HNM.out)
        have HZ1 : Hid (NB wn w.heap.size ⟨0, 0, 0⟩ none 0 0 ⟨0, 0, 0, 0, 0, 0, false⟩) := Lib.hid ((hk1.block _ HZ.out.lt (fun e => by cases e; have := HRW.out; omega)).trans HZ.out)
        have HO1 := Lib.hid (HO.out.keep (w' := wn) fun g hg => hk1.block g (HO.out.lt g hg).2 (fun e => by have h5 := (HO.out.lt g hg).1; have := HRM.out; simp at e; omega))
        have HB1 := Lib.hid (hk1.below HB.out.drew (by have := HB.out.size; exact this) (by have := HRW.out; omega))
        obtain ⟨dn0, dn1, dn2, dn3, dn4, dn5, dn6, dn7, dn8, dn9, dn10⟩ := HN1.out.cells
        clear dn0 dn1 dn2 dn4 dn5 dn6 dn7 dn8 dn9 dn10
        clear hr1 hk1
        go_simp
        refine hK _ _ trivial ?_
        clear hK K
        try simp only [Act.put, List.setIfInBounds_toArray, List.set_cons_zero, List.set_cons_succ]
        refine wpGT_call (by simp only [List.getElem?_toArray, List.getElem?_cons_succ, List.getElem?_cons_zero]; rfl) (by rfl) fun K hK => ?_
        go_simp
        refine hK _ _ trivial ?_
        clear hK K
        try simp only [Act.put, List.setIfInBounds_toArray, List.set_cons_zero, List.set_cons_succ]
        obtain ⟨v9, w7, hrun9, hown9, hg9, hlow9⟩ := OwnI.lit HO1.out (by omega) ⟨zc, zo, zp⟩ (by have := HYL.out; omega)
        have HB7 : Hid (Below w.heap.size w w7) := Lib.hid ((belt HB1.out _).grown hg9 (by have := HB1.out.size; simp; omega) (fun g e => by have := hlow9 g e; have := HM.out; omega))
        have HKB : Hid (∀ k, k ≤ M → w7.heap[k]? = wn.heap[k]?) := Lib.hid fun k hk => (hg9.block k (by simp; omega) (fun e => by have := hlow9 k e.symm; omega)).trans (Below.heap_alloc wn _ k (by omega))
        have HR7 : Hid (RD w7 R A l.length c s1) := Lib.hid ((HKB.out R (by have := HRM.out; omega)).trans HR1.out)
        have HN7 : Hid (NB w7 M ⟨i0, i1, i2⟩ A5 ys.length c5 ⟨0, 0, 0, 0, 0, 0, false⟩) := Lib.hid ((HKB.out M (Nat.le_refl _)).trans HN1.out)
        have HZ7 : Hid (NB w7 w.heap.size ⟨0, 0, 0⟩ none 0 0 ⟨0, 0, 0, 0, 0, 0, false⟩) := Lib.hid ((HKB.out _ (by have := HRW.out; have := HRM.out; omega)).trans HZ1.out)
        refine wpGT_call (by simp only [List.getElem?_toArray, List.getElem?_cons_succ, List.getElem?_cons_zero]; rfl) (by rfl) fun K hK => ?_
        refine oper_app10 (R := fun v W => v = v9 ∧ W = w7) ⟨v9, w7, hrun9, rfl, rfl⟩ rfl rfl rfl rfl ?_
        rintro v8 w8 ⟨rfl, rfl⟩
        obtain ⟨A9, c9, rfl, hc9, _, _⟩ := hown9.row GId.len
        rw [List.length_append, List.length_singleton] at hown9 hc9 ⊢
        have HO7 := Lib.hid hown9
        have HC9 := Lib.hid hc9
        refine hK _ _ trivial ?_
        clear hK K hc9 hown9 hg9 hlow9 hrun9
        try simp only [Act.put, List.setIfInBounds_toArray, List.set_cons_zero, List.set_cons_succ]
        iterate 1
          (first
            | (refine wpGT_float (v := ?_) (by simp only [List.getElem?_toArray, List.getElem?_cons_succ, List.getElem?_cons_zero]; rfl) (by rfl) ?_ ?_
               rotate_left
               · (intro W _; skip; go_simp; try with_reducible rfl)
               simp only [Act.put, List.setIfInBounds_toArray, List.set_cons_zero, List.set_cons_succ])
            | (refine wpGT_skip (by simp only [List.getElem?_toArray, List.getElem?_cons_succ, List.getElem?_cons_zero]; rfl) (by rfl) ?_
               simp only [Act.put, List.setIfInBounds_toArray, List.set_cons_zero, List.set_cons_succ]))
        obtain ⟨e0, e1, e2, e3, e4, e5, e6, e7, e8, e9, e10⟩ := HN7.out.cells
        have ef := HN7.out.frz
        have el := HN7.out.lt
        simp only at e0 e1 e2 e3 e4 e5 e6 e7 e8 e9 e10
        refine wpGT_call (by simp only [List.getElem?_toArray, List.getElem?_cons_succ, List.getElem?_cons_zero]; rfl) (by rfl) fun K hK => ?_
        go_simp
        refine hK _ _ trivial ?_
        clear hK K
        try simp only [Act.put, List.setIfInBounds_toArray, List.set_cons_zero, List.set_cons_succ]
        refine wpGT_nil ?_
        have HN9 := Lib.hid (HN7.out.setPath A9 (ys.length + 1) c9)
        have HO9 := Lib.hid (HO7.out.setOther (Nat.lt_succ_self M) 3 (.slice A9 (ys.length + 1) c9))
        have HR9 : Hid (RD (w8.setCell ⟨M, 3, none⟩ (.slice A9 (ys.length + 1) c9)) R A l.length c s1) := Lib.hid ((Below.heap_setCell w8 ⟨M, 3, none⟩ _ R (by have := HRM.out; show R ≠ M; omega)).trans HR7.out)
        have HZ9 : Hid (NB (w8.setCell ⟨M, 3, none⟩ (.slice A9 (ys.length + 1) c9)) w.heap.size ⟨0, 0, 0⟩ none 0 0 ⟨0, 0, 0, 0, 0, 0, false⟩) := Lib.hid ((Below.heap_setCell w8 ⟨M, 3, none⟩ _ w.heap.size (by have := HRM.out; have := HRW.out; show w.heap.size ≠ M; omega)).trans HZ7.out)
        have HB9 : Hid (Below w.heap.size w (w8.setCell ⟨M, 3, none⟩ (.slice A9 (ys.length + 1) c9))) := Lib.hid (HB7.out.setCell (p := ⟨M, 3, none⟩) (by have := HM.out; show w.heap.size ≤ M; omega) _)
        clear HN7 HO7 HR7 HZ7 HB7 HKB HK1 HR1 HN1 HZ1 HO1 HB1 e0 e1 e2 e3 e4 e5 e6 e7 e8 e9 e10 ef el dn3
        go_wp2
        go_roundw
        case rel => exact ⟨k + 1, ys ++ [⟨zc, zo, zp⟩], s1, A9, c9, by go_num, by omega, HSTEP, by simpa using HC9, HR9, by simpa using HN9, by simpa using HO9, HZ9, HB9⟩
        case measure => simp [intOf]; omega
      · refine wpOp_call (by simp only [List.getElem?_toArray, List.getElem?_cons_succ, List.getElem?_cons_zero]; rfl) (by rfl) fun K hK => ?_
        go_simp
        go_fit HID.out
        rintro e wn ⟨rfl, hr1, hk1⟩
        have HK1 := Lib.hid hk1
        have HR1 := Lib.hid hr1
        have hMn : M < wn.heap.size := by have := hk1.size; have := HNM.out.lt; simp at *; omega
        have HN1 : Hid (NB wn M ⟨i0, i1, i2⟩ A5 ys.length c5 ⟨0, 0, 0, 0, 0, 0, false⟩) := Lib.hid ((hk1.block M HNM.out.lt (fun e => by cases e; have := HRM.out; omega)).trans HNM.out)
        have HZ1 : Hid (NB wn w.heap.size ⟨0, 0, 0⟩ none 0 0 ⟨0, 0, 0, 0, 0, 0, false⟩) := Lib.hid ((hk1.block _ HZ.out.lt (fun e => by cases e; have := HRW.out; omega)).trans HZ.out)
        have HO1 := Lib.hid (HO.out.keep (w' := wn) fun g hg => hk1.block g (HO.out.lt g hg).2 (fun e => by have h5 := (HO.out.lt g hg).1; have := HRM.out; simp at e; omega))
        have HB1 := Lib.hid (hk1.below HB.out.drew (by have := HB.out.size; exact this) (by have := HRW.out; omega))
        obtain ⟨dn0, dn1, dn2, dn3, dn4, dn5, dn6, dn7, dn8, dn9, dn10⟩ := HN1.out.cells
        clear dn0 dn1 dn2 dn4 dn5 dn6 dn7 dn8 dn9 dn10
        clear hr1 hk1
        go_simp
        refine hK _ _ trivial ?_
        clear hK K
        try simp only [Act.put, List.setIfInBounds_toArray, List.set_cons_zero, List.set_cons_succ]
        refine wpGT_two ?_ ?_
        · refine wpOp_call (by simp only [List.getElem?_toArray, List.getElem?_cons_succ, List.getElem?_cons_zero]; rfl) (by rfl) fun K hK => ?_
          go_simp
          refine hK _ _ trivial ?_
          clear hK K
          try simp only [Act.put, List.setIfInBounds_toArray, List.set_cons_zero, List.set_cons_succ]
          refine wpGT_call (by simp only [List.getElem?_toArray, List.getElem?_cons_succ, List.getElem?_cons_zero]; rfl) (by rfl) fun K hK => ?_
          go_simp
          refine hK _ _ trivial ?_
          clear hK K
          try simp only [Act.put, List.setIfInBounds_toArray, List.set_cons_zero, List.set_cons_succ]
          obtain ⟨v9, w7, hrun9, hown9, hg9, hlow9⟩ := OwnI.lit HO1.out (by omega) ⟨zc, zo, zp⟩ (by have := HYL.out; omega)
          have HB7 : Hid (Below w.heap.size w w7) := Lib.hid ((belt HB1.out _).grown hg9 (by have := HB1.out.size; simp; omega) (fun g e => by have := hlow9 g e; have := HM.out; omega))
          have HKB : Hid (∀ k, k ≤ M → w7.heap[k]? = wn.heap[k]?) := Lib.hid fun k hk => (hg9.block k (by simp; omega) (fun e => by have := hlow9 k e.symm; omega)).trans (Below.heap_alloc wn _ k (by omega))
          have HR7 : Hid (RD w7 R A l.length c s1) := Lib.hid ((HKB.out R (by have := HRM.out; omega)).trans HR1.out)
          have HN7 : Hid (NB w7 M ⟨i0, i1, i2⟩ A5 ys.length c5 ⟨0, 0, 0, 0, 0, 0, false⟩) := Lib.hid ((HKB.out M (Nat.le_refl _)).trans HN1.out)
          have HZ7 : Hid (NB w7 w.heap.size ⟨0, 0, 0⟩ none 0 0 ⟨0, 0, 0, 0, 0, 0, false⟩) := Lib.hid ((HKB.out _ (by have := HRW.out; have := HRM.out; omega)).trans HZ1.out)
          refine wpGT_call (by simp only [List.getElem?_toArray, List.getElem?_cons_succ, List.getElem?_cons_zero]; rfl) (by rfl) fun K hK => ?_
          refine oper_app10 (R := fun v W => v = v9 ∧ W = w7) ⟨v9, w7, hrun9, rfl, rfl⟩ rfl rfl rfl rfl ?_
          rintro v8 w8 ⟨rfl, rfl⟩
          obtain ⟨A9, c9, rfl, hc9, _, _⟩ := hown9.row GId.len
          rw [List.length_append, List.length_singleton] at hown9 hc9 ⊢
          have HO7 := Lib.hid hown9
          have HC9 := Lib.hid hc9
          refine hK _ _ trivial ?_
          clear hK K hc9 hown9 hg9 hlow9 hrun9
          try simp only [Act.put, List.setIfInBounds_toArray, List.set_cons_zero, List.set_cons_succ]
          iterate 1
            (first
              | (refine wpGT_float (v := ?_) (by simp only [List.getElem?_toArray, List.getElem?_cons_succ, List.getElem?_cons_zero]; rfl) (by rfl) ?_ ?_
                 rotate_left
                 · (intro W _; skip; go_simp; try with_reducible rfl)
                 simp only [Act.put, List.setIfInBounds_toArray, List.set_cons_zero, List.set_cons_succ])
              | (refine wpGT_skip (by simp only [List.getElem?_toArray, List.getElem?_cons_succ, List.getElem?_cons_zero]; rfl) (by rfl) ?_
                 simp only [Act.put, List.setIfInBounds_toArray, List.set_cons_zero, List.set_cons_succ]))
          obtain ⟨e0, e1, e2, e3, e4, e5, e6, e7, e8, e9, e10⟩ := HN7.out.cells
          have ef := HN7.out.frz
          have el := HN7.out.lt
          simp only at e0 e1 e2 e3 e4 e5 e6 e7 e8 e9 e10
          refine wpGT_call (by simp only [List.getElem?_toArray, List.getElem?_cons_succ, List.getElem?_cons_zero]; rfl) (by rfl) fun K hK => ?_
          go_simp
          refine hK _ _ trivial ?_
          clear hK K
          try simp only [Act.put, List.setIfInBounds_toArray, List.set_cons_zero, List.set_cons_succ]
          refine wpGT_nil ?_
          have HN9 := Lib.hid (HN7.out.setPath A9 (ys.length + 1) c9)
          have HO9 := Lib.hid (HO7.out.setOther (Nat.lt_succ_self M) 3 (.slice A9 (ys.length + 1) c9))
          have HR9 : Hid (RD (w8.setCell ⟨M, 3, none⟩ (.slice A9 (ys.length + 1) c9)) R A l.length c s1) := Lib.hid ((Below.heap_setCell w8 ⟨M, 3, none⟩ _ R (by have := HRM.out; show R ≠ M; omega)).trans HR7.out)
          have HZ9 : Hid (NB (w8.setCell ⟨M, 3, none⟩ (.slice A9 (ys.length + 1) c9)) w.heap.size ⟨0, 0, 0⟩ none 0 0 ⟨0, 0, 0, 0, 0, 0, false⟩) := Lib.hid ((Below.heap_setCell w8 ⟨M, 3, none⟩ _ w.heap.size (by have := HRM.out; have := HRW.out; show w.heap.size ≠ M; omega)).trans HZ7.out)
          have HB9 : Hid (Below w.heap.size w (w8.setCell ⟨M, 3, none⟩ (.slice A9 (ys.length + 1) c9))) := Lib.hid (HB7.out.setCell (p := ⟨M, 3, none⟩) (by have := HM.out; show w.heap.size ≤ M; omega) _)
          clear HN7 HO7 HR7 HZ7 HB7 HKB HK1 HR1 HN1 HZ1 HO1 HB1 e0 e1 e2 e3 e4 e5 e6 e7 e8 e9 e10 ef el dn3
          go_wp2
          go_roundw
          case rel => exact ⟨k + 1, ys ++ [⟨zc, zo, zp⟩], s1, A9, c9, by go_num, by omega, HSTEP, by simpa using HC9, HR9, by simpa using HN9, by simpa using HO9, HZ9, HB9⟩
          case measure => simp [intOf]; omega
        · refine wpOp_call (by simp only [List.getElem?_toArray, List.getElem?_cons_succ, List.getElem?_cons_zero]; rfl) (by rfl) fun K hK => ?_
          go_simp
          refine hK _ _ trivial ?_
          clear hK K
          try simp only [Act.put, List.setIfInBounds_toArray, List.set_cons_zero, List.set_cons_succ]
          refine wpGT_call (by simp only [List.getElem?_toArray, List.getElem?_cons_succ, List.getElem?_cons_zero]; rfl) (by rfl) fun K hK => ?_
          go_simp
          refine hK _ _ trivial ?_
          clear hK K
          try simp only [Act.put, List.setIfInBounds_toArray, List.set_cons_zero, List.set_cons_succ]
          obtain ⟨v9, w7, hrun9, hown9, hg9, hlow9⟩ := OwnI.lit HO1.out (by omega) ⟨zc, zo, zp⟩ (by have := HYL.out; omega)
          have HB7 : Hid (Below w.heap.size w w7) := Lib.hid ((belt HB1.out _).grown hg9 (by have := HB1.out.size; simp; omega) (fun g e => by have := hlow9 g e; have := HM.out; omega))
          have HKB : Hid (∀ k, k ≤ M → w7.heap[k]? = wn.heap[k]?) := Lib.hid fun k hk => (hg9.block k (by simp; omega) (fun e => by have := hlow9 k e.symm; omega)).trans (Below.heap_alloc wn _ k (by omega))
          have HR7 : Hid (RD w7 R A l.length c s1) := Lib.hid ((HKB.out R (by have := HRM.out; omega)).trans HR1.out)
          have HN7 : Hid (NB w7 M ⟨i0, i1, i2⟩ A5 ys.length c5 ⟨0, 0, 0, 0, 0, 0, false⟩) := Lib.hid ((HKB.out M (Nat.le_refl _)).trans HN1.out)
          have HZ7 : Hid (NB w7 w.heap.size ⟨0, 0, 0⟩ none 0 0 ⟨0, 0, 0, 0, 0, 0, false⟩) := Lib.hid ((HKB.out _ (by have := HRW.out; have := HRM.out; omega)).trans HZ1.out)
          refine wpGT_call (by simp only [List.getElem?_toArray, List.getElem?_cons_succ, List.getElem?_cons_zero]; rfl) (by rfl) fun K hK => ?_
          refine oper_app10 (R := fun v W => v = v9 ∧ W = w7) ⟨v9, w7, hrun9, rfl, rfl⟩ rfl rfl rfl rfl ?_
          rintro v8 w8 ⟨rfl, rfl⟩
          obtain ⟨A9, c9, rfl, hc9, _, _⟩ := hown9.row GId.len
          rw [List.length_append, List.length_singleton] at hown9 hc9 ⊢
          have HO7 := Lib.hid hown9
          have HC9 := Lib.hid hc9
          refine hK _ _ trivial ?_
          clear hK K hc9 hown9 hg9 hlow9 hrun9
          try simp only [Act.put, List.setIfInBounds_toArray, List.set_cons_zero, List.set_cons_succ]
          iterate 1
            (first
              | (refine wpGT_float (v := ?_) (by simp only [List.getElem?_toArray, List.getElem?_cons_succ, List.getElem?_cons_zero]; rfl) (by rfl) ?_ ?_
                 rotate_left
                 · (intro W _; skip; go_simp; try with_reducible rfl)
                 simp only [Act.put, List.setIfInBounds_toArray, List.set_cons_zero, List.set_cons_succ])
              | (refine wpGT_skip (by simp only [List.getElem?_toArray, List.getElem?_cons_succ, List.getElem?_cons_zero]; rfl) (by rfl) ?_
                 simp only [Act.put, List.setIfInBounds_toArray, List.set_cons_zero, List.set_cons_succ]))
          obtain ⟨e0, e1, e2, e3, e4, e5, e6, e7, e8, e9, e10⟩ := HN7.out.cells
          have ef := HN7.out.frz
          have el := HN7.out.lt
          simp only at e0 e1 e2 e3 e4 e5 e6 e7 e8 e9 e10
          refine wpGT_call (by simp only [List.getElem?_toArray, List.getElem?_cons_succ, List.getElem?_cons_zero]; rfl) (by rfl) fun K hK => ?_
          go_simp
          refine hK _ _ trivial ?_
          clear hK K
          try simp only [Act.put, List.setIfInBounds_toArray, List.set_cons_zero, List.set_cons_succ]
          refine wpGT_nil ?_
          have HN9 := Lib.hid (HN7.out.setPath A9 (ys.length + 1) c9)
          have HO9 := Lib.hid (HO7.out.setOther (Nat.lt_succ_self M) 3 (.slice A9 (ys.length + 1) c9))
          have HR9 : Hid (RD (w8.setCell ⟨M, 3, none⟩ (.slice A9 (ys.length + 1) c9)) R A l.length c s1) := Lib.hid ((Below.heap_setCell w8 ⟨M, 3, none⟩ _ R (by have := HRM.out; show R ≠ M; omega)).trans HR7.out)
          have HZ9 : Hid (NB (w8.setCell ⟨M, 3, none⟩ (.slice A9 (ys.length + 1) c9)) w.heap.size ⟨0, 0, 0⟩ none 0 0 ⟨0, 0, 0, 0, 0, 0, false⟩) := Lib.hid ((Below.heap_setCell w8 ⟨M, 3, none⟩ _ w.heap.size (by have := HRM.out; have := HRW.out; show w.heap.size ≠ M; omega)).trans HZ7.out)
          have HB9 : Hid (Below w.heap.size w (w8.setCell ⟨M, 3, none⟩ (.slice A9 (ys.length + 1) c9))) := Lib.hid (HB7.out.setCell (p := ⟨M, 3, none⟩) (by have := HM.out; show w.heap.size ≤ M; omega) _)
          clear HN7 HO7 HR7 HZ7 HB7 HKB HK1 HR1 HN1 HZ1 HO1 HB1 e0 e1 e2 e3 e4 e5 e6 e7 e8 e9 e10 ef el dn3
          go_wp2
          go_roundw
          case rel => exact ⟨k + 1, ys ++ [⟨zc, zo, zp⟩], s1, A9, c9, by go_num, by omega, HSTEP, by simpa using HC9, HR9, by simpa using HN9, by simpa using HO9, HZ9, HB9⟩
          case measure => simp [intOf]; omega
    · obtain rfl : k = cn := by omega
      have f3 : decide ((k : Int) < (k : Int)) = false := by simp
      have HYLN : Hid (ys.length = k) := Lib.hid (by
        have e : ys = (idsP l k s2).1 := by rw [← HY.out]
        rw [e, idsP_len])
      have HD3' : Hid (dec3 l = (ys, sk)) := Lib.hid (by rw [HD3.out, HY.out])
      have HNX : Hid (sk.1 ≤ l.length) := Lib.hid (by
        have h := HLE.out k
        rw [← HY.out] at h
        exact h)
      rw [HD3'.out] at HDN HOKN
      clear HD3 HD3' HLE HY HBAD0 HD1 HD2
      obtain ⟨nx, bad⟩ := sk
      simp only at HDN HOKN HNX
      have HCUT := Lib.hid fun W => cut_from A l.length c nx HNX.out W
      have HBC := Lib.hid fun W (hW : Below w.heap.size w W) => show Byt W W.heap.size (cutA A c nx) (l.drop nx).length (l.drop nx) from by
        have h := ((HBY.out W hW).wide hW.size).cut (j := nx) (k := l.length) (cap := c) HNX.out (Nat.le_refl _) hc
        rw [List.take_length] at h
        rwa [← h.1] at h
      have HLD : Hid ((l.drop nx).length = l.length - nx) := Lib.hid (by rw [List.length_drop])
      have HCD := Lib.hid (pDec_any (l.drop nx) (cutA A c nx) (c - nx) w9 (HBC.out _ HB.out))
      rw [HLD.out] at HCD
      clear HBC HLD
      generalize cutA A c nx = AC at *
      generalize decE (l.drop nx) = er at *
      generalize decC (l.drop nx) = dc at *
      obtain ⟨q0, q1, q2, q3, q4, q5, q6⟩ := dc
      simp only [GC.val] at HCD
      obtain ⟨r0, r1, r2⟩ := HR.out.cells
      have rl := HR.out.lt
      simp only at r0 r1 r2
      have hcut := fun W => HCUT.out W
      go_wp2_with fail
      go_fit HCD.out
      rintro e w4 ⟨rfl, hb4⟩
      clear r0 r1 r2 rl hcut HCUT HCD
      have HC4 := Lib.hid (CB.new w4 ⟨q0, q1, q2, q3, q4, q5, q6⟩)
      have hbx := belt hb4 (.cells #[.int .i64 q0, .int .i64 q1, .int .i64 q2, .int .i64 q3, .int .i64 q4, .int .i64 q5, .bool q6] 26)
      have HR4 := Lib.hid (HR.out.next hbx)
      have HN4 := Lib.hid (HNM.out.next hbx)
      have HO4 := Lib.hid (HO.out.keep fun g hg => hbx.block g (HO.out.lt g hg).2)
      have HZ4 := Lib.hid (HZ.out.next hbx)
      have HB4 := Lib.hid (beln HB.out hbx)
      clear hb4 hbx HR HNM HO HZ HB
      simp only at HC4
      obtain ⟨d0, d1, d2, d3, d4, d5, d6, d7, d8, d9, d10⟩ := HN4.out.cells
      have df := HN4.out.frz
      have dl := HN4.out.lt
      obtain ⟨k0, k1, k2, k3, k4, k5, k6⟩ := HC4.out.cells
      have kl := HC4.out.lt
      simp only at d0 d1 d2 d3 d4 d5 d6 d7 d8 d9 d10 k0 k1 k2 k3 k4 k5 k6
      have HN5 := Lib.hid (HN4.out.setCap ⟨q0, q1, q2, q3, q4, q5, q6⟩)
      have HS5 : Hid (∀ (W : World) j v, RD W (w.heap.size + 1) A l.length c (nx, bad) ∧ OwnG GId.cells 23 3 W (M + 1) (.slice A5 ys.length c5) ys ∧ NB W w.heap.size ⟨0, 0, 0⟩ none 0 0 ⟨0, 0, 0, 0, 0, 0, false⟩ ∧ Below w.heap.size w W → RD (W.setCell ⟨M, j, none⟩ v) (w.heap.size + 1) A l.length c (nx, bad) ∧ OwnG GId.cells 23 3 (W.setCell ⟨M, j, none⟩ v) (M + 1) (.slice A5 ys.length c5) ys ∧ NB (W.setCell ⟨M, j, none⟩ v) w.heap.size ⟨0, 0, 0⟩ none 0 0 ⟨0, 0, 0, 0, 0, 0, false⟩ ∧ Below w.heap.size w (W.setCell ⟨M, j, none⟩ v)) := Lib.hid fun W j v h =>
        ⟨(Below.heap_setCell W ⟨M, j, none⟩ v (w.heap.size + 1) (by have := HRM.out; show w.heap.size + 1 ≠ M; omega)).trans h.1, h.2.1.setOther (Nat.lt_succ_self M) j v, (Below.heap_setCell W ⟨M, j, none⟩ v w.heap.size (by have := HRM.out; show w.heap.size ≠ M; omega)).trans h.2.2.1, h.2.2.2.setCell (p := ⟨M, j, none⟩) (by have := HM.out; show w.heap.size ≤ M; omega) v⟩
      have HA5 := Lib.hid (HS5.out _ 10 (.bool q6) (HS5.out _ 9 (.int .i64 q5) (HS5.out _ 8 (.int .i64 q4) (HS5.out _ 7 (.int .i64 q3) (HS5.out _ 6 (.int .i64 q2) (HS5.out _ 5 (.int .i64 q1) (HS5.out _ 4 (.int .i64 q0) ⟨HR4.out, HO4.out, HZ4.out, HB4.out⟩)))))))
      clear HS5 HR4 HO4 HZ4 HB4
      simp only at HN5
      go_upto_region 12 with fail
      clear d0 d1 d2 d3 d4 d5 d6 d7 d8 d9 d10 df dl k0 k1 k2 k3 k4 k5 k6 kl HC4
      generalize (((((((w4.alloc (.cells #[.int .i64 q0, .int .i64 q1, .int .i64 q2, .int .i64 q3, .int .i64 q4, .int .i64 q5, .bool q6] 26)).setCell ⟨M, 4, none⟩ (.int .i64 q0)).setCell ⟨M, 5, none⟩ (.int .i64 q1)).setCell ⟨M, 6, none⟩ (.int .i64 q2)).setCell ⟨M, 7, none⟩ (.int .i64 q3)).setCell ⟨M, 8, none⟩ (.int .i64 q4)).setCell ⟨M, 9, none⟩ (.int .i64 q5)).setCell ⟨M, 10, none⟩ (.bool q6) = w6 at *
      have HR6 := Lib.hid HA5.out.1
      have HO6 := Lib.hid HA5.out.2.1
      have HZ6 := Lib.hid HA5.out.2.2.1
      have HB6 := Lib.hid HA5.out.2.2.2
      clear HA5 HN4
      obtain ⟨r0, r1, r2⟩ := HR6.out.cells
      have rl := HR6.out.lt
      simp only at r0 r1 r2
      rcases bad with _ | _
      rotate_left
      · have HBAD := HBAD1.out (fun hk => by have := (HOKN.out.1 hk).2.1; cases this)
        have HE := Lib.hid HBAD
        obtain ⟨z0, z1, z2, z3, z4, z5, z6, z7, z8, z9, z10⟩ := HZ6.out.cells
        have zf := HZ6.out.frz
        have zl := HZ6.out.lt
        simp only at z0 z1 z2 z3 z4 z5 z6 z7 z8 z9 z10
        go_wp2
        refine bodyPost_ret (v := .tuple #[.agg #[.int .i64 0, .int .i64 0, .int .i64 0, .slice none 0 0, .int .i64 0, .int .i64 0, .int .i64 0, .int .i64 0, .int .i64 0, .int .i64 0, .bool false], .int .i64 14]) (by simp [results, Try.results30, go_sem, z0, z1, z2, z3, z4, z5, z6, z7, z8, z9, z10]) rfl ?_
        refine HE.out _ ?_
        repeat (refine HSC.out _ _ _ (by omega) ?_ _)
        exact HB6.out
      by_cases he : er = 0
      rotate_left
      · have f4 : (er != 0) = true := by simp [he]
        have HBAD := HBAD1.out (fun hk => he (HOKN.out.1 hk).2.2.1)
        clear he
        have HE := Lib.hid HBAD
        obtain ⟨z0, z1, z2, z3, z4, z5, z6, z7, z8, z9, z10⟩ := HZ6.out.cells
        have zf := HZ6.out.frz
        have zl := HZ6.out.lt
        simp only at z0 z1 z2 z3 z4 z5 z6 z7 z8 z9 z10
        go_wp2
        refine bodyPost_ret (v := .tuple #[.agg #[.int .i64 0, .int .i64 0, .int .i64 0, .slice none 0 0, .int .i64 0, .int .i64 0, .int .i64 0, .int .i64 0, .int .i64 0, .int .i64 0, .bool false], .int .i64 14]) (by simp [results, Try.results30, go_sem, z0, z1, z2, z3, z4, z5, z6, z7, z8, z9, z10]) rfl ?_
        refine HE.out _ ?_
        repeat (refine HSC.out _ _ _ (by omega) ?_ _)
        exact HB6.out
      have f4 : (er != 0) = false := by simp [he]
      have HER := Lib.hid he
      clear he
      obtain ⟨d0, d1, d2, d3, d4, d5, d6, d7, d8, d9, d10⟩ := HN5.out.cells
      have dl := HN5.out.lt
      simp only at d0 d1 d2 d3 d4 d5 d6 d7 d8 d9 d10
      have HRX := Lib.hid (OwnG.rowAt GId.len HO6.out).2
      have HYL2 : Hid (ys.length ≤ 8) := Lib.hid (by
        have := HYLN.out; omega)
      have HV := Lib.hid (pVN_any ⟨⟨i0, i1, i2⟩, ys, ⟨q0, q1, q2, q3, q4, q5, q6⟩⟩ A5 c5 w6 HRX.out (by simp only; have := HYL2.out; omega) HC5.out)
      have HVE : Hid (vN (decN l) = vN ⟨⟨i0, i1, i2⟩, ys, ⟨q0, q1, q2, q3, q4, q5, q6⟩⟩) := Lib.hid (by rw [HDN.out])
      simp only [GN.val] at HV
      generalize hvv : vN ⟨⟨i0, i1, i2⟩, ys, ⟨q0, q1, q2, q3, q4, q5, q6⟩⟩ = vv at *
      go_wp2_with fail
      go_fit HV.out
      rintro e w7 ⟨rfl, hb7⟩
      have HZ7 := Lib.hid (HZ6.out.next hb7)
      have HB7 := Lib.hid (beln HB6.out hb7)
      have HN7 := Lib.hid (HN5.out.next hb7)
      have HO7 := Lib.hid (HO6.out.keep fun g hg => hb7.block g (HO6.out.lt g hg).2)
      clear hb7 HZ6 HB6 HN5 HO6 HR6 HRX HV d0 d1 d2 d3 d4 d5 d6 d7 d8 d9 d10 dl r0 r1 r2 rl hvv
      rcases vv with _ | _
      · have HBAD := HBAD1.out (fun hk => by have h := (HOKN.out.1 hk).2.2.2; rw [HVE.out] at h; cases h)
        have HE := Lib.hid HBAD
        obtain ⟨z0, z1, z2, z3, z4, z5, z6, z7, z8, z9, z10⟩ := HZ7.out.cells
        have zf := HZ7.out.frz
        have zl := HZ7.out.lt
        simp only at z0 z1 z2 z3 z4 z5 z6 z7 z8 z9 z10
        go_wp2
        refine bodyPost_ret (v := .tuple #[.agg #[.int .i64 0, .int .i64 0, .int .i64 0, .slice none 0 0, .int .i64 0, .int .i64 0, .int .i64 0, .int .i64 0, .int .i64 0, .int .i64 0, .bool false], .int .i64 14]) (by simp [results, Try.results30, go_sem, z0, z1, z2, z3, z4, z5, z6, z7, z8, z9, z10]) rfl ?_
        refine HE.out _ ?_
        repeat (refine HSC.out _ _ _ (by omega) ?_ _)
        exact HB7.out
      have HOK := Lib.hid (HOK0.out (HOKN.out.2 ⟨⟨by omega, by omega⟩, by trivial, HER.out, HVE.out⟩))
      rw [HDN.out] at HOK
      simp only [GN.val] at HOK
      obtain ⟨d0, d1, d2, d3, d4, d5, d6, d7, d8, d9, d10⟩ := HN7.out.cells
      have dl := HN7.out.lt
      obtain ⟨z0, z1, z2, z3, z4, z5, z6, z7, z8, z9, z10⟩ := HZ7.out.cells
      have zf := HZ7.out.frz
      have zl := HZ7.out.lt
      simp only at d0 d1 d2 d3 d4 d5 d6 d7 d8 d9 d10 z0 z1 z2 z3 z4 z5 z6 z7 z8 z9 z10
      go_wp2
      refine bodyPost_ret (v := .tuple #[.agg #[.int .i64 i0, .int .i64 i1, .int .i64 i2, .slice A5 ys.length c5, .int .i64 q0, .int .i64 q1, .int .i64 q2, .int .i64 q3, .int .i64 q4, .int .i64 q5, .bool q6], .int .i64 0]) (by simp [results, Try.results30, go_sem, z0, z1, z2, z3, z4, z5, z6, z7, z8, z9, z10]) rfl ?_
      refine HOK.out _ _ _ HC5.out ?_ ?_
      · refine OwnG.low (b := M + 1) ?_ (by have := HM.out; omega)
        repeat (refine OwnG.setOther ?_ (by have := HM.out; omega) _ _)
        exact HO7.out
      · repeat (refine HSC.out _ _ _ (by omega) ?_ _)
        exact HB7.out
end Go.Proofs.Ytnoegjfokceghaa


namespace Go.Proofs.Ytnoegjfokceghaa
open Go.RowKit

theorem enc_more {x y : GN} {r : List UInt8} (hx : vN x = true) (hy : vN y = true) (h : encN x = encN y ++ r) : r = [] := by
  obtain ⟨f1, f2, f3, f4, f5, f6⟩ := vN_facts hx
  obtain ⟨g1, g2, g3, g4, g5, g6⟩ := vN_facts hy
  have e0 : encN x = idL x.id ++ (uvar x.path.length ++ (x.path.flatMap idL ++ encC x.cap)) := by simp [encN, hdN]
  have e1 : encN y ++ r = idL y.id ++ (uvar y.path.length ++ (y.path.flatMap idL ++ (encC y.cap ++ r))) := by simp [encN, hdN]
  have a0 := idS_idL f1 (uvar x.path.length ++ (x.path.flatMap idL ++ encC x.cap))
  rw [← e0, h, e1, idS_idL g1] at a0
  simp only [Prod.mk.injEq, RS12.mk.injEq] at a0
  have b0 := numS_uvar (v := x.path.length) (by omega) (x.path.flatMap idL ++ encC x.cap)
  rw [← a0.2.1, numS_uvar (by omega)] at b0
  simp only [Prod.mk.injEq, RS12.mk.injEq] at b0
  have c0 := idsS_flat x.path f4 (encC x.cap)
  rw [← b0.2.1, ← b0.1, idsS_flat y.path g4] at c0
  simp only [Prod.mk.injEq, RS12.mk.injEq] at c0
  have d0 := congrArg List.length c0.2.1
  have hx10 : (encC x.cap).length = 10 := rfl
  have hy10 : (encC y.cap).length = 10 := rfl
  rw [List.length_append, hx10, hy10] at d0
  exact List.eq_nil_of_length_eq_zero (by omega)
theorem enc_pos (x : GN) : 10 ≤ (encN x).length := by
  have hx10 : (encC x.cap).length = 10 := rfl
  unfold encN
  simp only [List.length_append, hx10]
  omega
theorem dec_take {x y : GN} {e : Int} (hx : vN x = true) (h : DecOk ((encN x).take ((encN x).length - 1)) y e) : e = 14 := by
  rcases h with ⟨_, hv, he⟩ | ⟨rfl, _⟩
  · exfalso
    have hp := enc_pos x
    have h1 : encN x = encN y ++ (encN x).drop ((encN x).length - 1) := by rw [he, List.take_append_drop]
    have h2 := enc_more hx hv h1
    have h3 := congrArg List.length h2
    rw [List.length_drop] at h3
    simp at h3
    omega
  · rfl
theorem dec_more {x y : GN} {e : Int} {b : UInt8} (hx : vN x = true) (h : DecOk (encN x ++ [b]) y e) : e = 14 := by
  rcases h with ⟨_, hv, he⟩ | ⟨rfl, _⟩
  · have h2 := enc_more hv hx he
    cases h2
  · rfl
set_option maxRecDepth 20000 in
set_option maxHeartbeats 8000000 in
theorem lrt12 (i1 i2 i3 : Int) (a : Option Addr) (len cap : Nat) (zs : List Int) (k1 k2 k3 : Int) (B : Option Addr) (len2 cap2 : Nat) (l : List UInt8) (w : World) (h1 : IRow w w.heap.size a len cap zs) (hb : BytL w w.heap.size B len2 cap2 l) :
    Calls Try.prog 6 #[.int .i64 i1, .int .i64 i2, .int .i64 i3, .slice a len cap, .int .i64 k1, .int .i64 k2, .int .i64 k3, .slice B len2 cap2] w fun e w' => e = .returned (.bool true) ∧ Below w.heap.size w w' := by
  obtain ⟨hlc, hby⟩ := hb
  obtain rfl : l.length = len2 := hby.1
  have HAW := Lib.hid fun W => awake12 W
  have HR1 := Lib.hid fun W (hW : Below w.heap.size w W) => (show IRow W W.heap.size a len cap zs from ⟨h1.count, h1.le, h1.max, fun hn => by
    obtain ⟨b, off, e, hb, hc⟩ := h1.row hn
    exact ⟨b, off, e, by have := hW.size; omega, fun i hi => (hW.cell (p := ⟨b, off + i, none⟩) hb).trans (hc i hi)⟩, h1.wf⟩)
  have HMC := Lib.hid fun W => mCap_any k1 k2 k3 i1 i2 W
  have HMN := Lib.hid fun cc (hv : vC cc = true) W (hW : Below w.heap.size w W) (hl : len ≤ 40) => mNode_any i1 i2 i3 a len cap zs cc W (HR1.out W hW) hl hv
  have HBY := Lib.hid fun W (hW : Below w.heap.size w W) => show Byt W W.heap.size B l.length l from (hby.below hW).wide hW.size
  have HPD := Lib.hid fun W (hW : Below w.heap.size w W) (hl : l.length ≤ 400) => pDecN_any l B cap2 W (HBY.out W hW) (by omega) hlc
  unfold MNode at HMN
  unfold DEnd ChEnd at HPD
  clear h1 hby HR1
  go_enter Try.func6, Try.ntmps6
  by_cases h40 : 400 < l.length
  · have f1 : decide ((400 : Int) < (l.length : Int)) = true := by simp; omega
    clear h40 HMN HPD
    go_wp2_with fail
    go_fit (HAW.out _)
    rintro e w1 ⟨rfl, hb1⟩
    have HB1 := Lib.hid hb1
    clear hb1
    go_wp2
    go_ret
    exact ⟨rfl, HB1.out⟩
  have f1 : decide ((400 : Int) < (l.length : Int)) = false := by simp; omega
  replace HPD := Lib.hid fun W hW => HPD.out W hW (by omega)
  clear h40
  by_cases h40 : 40 < len
  · have f2 : decide ((40 : Int) < (len : Int)) = true := by simp; omega
    clear h40 HMN HPD
    go_wp2_with fail
    go_fit (HAW.out _)
    rintro e w1 ⟨rfl, hb1⟩
    have HB1 := Lib.hid hb1
    clear hb1
    go_wp2
    go_ret
    exact ⟨rfl, HB1.out⟩
  have f2 : decide ((40 : Int) < (len : Int)) = false := by simp; omega
  replace HMN := Lib.hid fun cc hv W hW => HMN.out cc hv W hW (by omega)
  clear h40
  go_wp2_with fail
  go_fit (HMC.out _)
  rintro e w1 ⟨cc, hvc, rfl, hb1⟩
  have HB1 := Lib.hid hb1
  replace HMN := Lib.hid (HMN.out cc hvc _ HB1.out)
  clear hb1 HMC hvc
  unfold GC.val at HMN ⊢
  go_wp2_with fail
  go_fit HMN.out
  rintro e w2 ⟨x, A2, c2, rfl, hc2, rfl, hvx, ho2, hb2⟩
  have HB2 := Lib.hid (beln HB1.out hb2)
  have HRX := Lib.hid (OwnG.rowAt GId.len ho2).2
  have HV := Lib.hid hvx
  have HX8 := Lib.hid (vN_facts hvx).2.2.1
  have hx2 := belt (Below.refl _ w2) (.cells #[.int .i64 x.id.core, .int .i64 x.id.op, .int .i64 x.id.part, .slice A2 x.path.length c2, .int .i64 x.cap.kind, .int .i64 x.cap.base, .int .i64 x.cap.bits, .int .i64 x.cap.rights, .int .i64 x.cap.width, .int .i64 x.cap.level, .bool x.cap.device] 28)
  have HN3 := Lib.hid (NB.new w2 x.id A2 x.path.length c2 x.cap)
  replace HRX := Lib.hid (HRX.out.next hx2)
  have HB3 := Lib.hid (beln HB2.out hx2)
  have HC2 := Lib.hid hc2
  clear ho2 hb2 hx2 HB1 HB2 HMN hvx hc2
  try unfold GN.val
  have HE := Lib.hid (pEncN_any x A2 c2 _ HRX.out (by have := HX8.out; omega) HC2.out)
  rw [HV.out, if_pos rfl, if_pos rfl] at HE
  unfold EncEnd GN.val at HE
  have HDX := Lib.hid fun A' c' W (h : Byt W W.heap.size A' (encN x).length (encN x)) (hcc : (encN x).length ≤ c') => pDecN_any (encN x) A' c' W h (by
    have h1 := HX8.out; have h2 := flat_len x.path; have h3 := idL_len x.id; have h4 := uvar_len x.path.length; have h5 : (encC x.cap).length = 10 := rfl
    unfold encN hdN; simp only [List.length_append, h5]; omega) hcc
  have HD0 : Hid (DecOk (encN x) x 0) := Lib.hid (.inl ⟨rfl, HV.out, rfl⟩)
  have HLX : Hid (10 ≤ (encN x).length ∧ (encN x).length ≤ 1000) := Lib.hid ⟨enc_pos x, by
    have h1 := HX8.out; have h2 := flat_len x.path; have h3 := idL_len x.id; have h4 := uvar_len x.path.length; have h5 : (encC x.cap).length = 10 := rfl
    unfold encN hdN; simp only [List.length_append, h5]; omega⟩
  have HDT := Lib.hid fun y e (h : DecOk ((encN x).take ((encN x).length - 1)) y e) => dec_take HV.out h
  have HDM := Lib.hid fun y e (h : DecOk (encN x ++ [u8 0]) y e) => dec_more HV.out h
  unfold DEnd ChEnd at HDX
  generalize encN x = lx at *
  obtain ⟨A0, c0, hA0⟩ : ∃ A0 c0, A0 = A2 ∧ c0 = c2 := ⟨A2, c2, rfl, rfl⟩
  clear hA0
  go_wp2_with fail
  generalize w2.alloc (.cells #[.int .i64 x.id.core, .int .i64 x.id.op, .int .i64 x.id.part, .slice A2 x.path.length c2, .int .i64 x.cap.kind, .int .i64 x.cap.base, .int .i64 x.cap.bits, .int .i64 x.cap.rights, .int .i64 x.cap.width, .int .i64 x.cap.level, .bool x.cap.device] 28) = w3 at *
  generalize w2.heap.size = M at *
  go_fit HE.out
  rintro e w4 ⟨v4, rfl, ho4, hb4⟩
  obtain ⟨A4, c4, rfl, hc4, _, hy4⟩ := ho4.form
  have HY4 := Lib.hid hy4
  have HC4 := Lib.hid hc4
  have HB4 := Lib.hid (beln HB3.out hb4)
  have HN4 := Lib.hid (HN3.out.next hb4)
  replace HRX := Lib.hid (HRX.out.next hb4)
  clear ho4 hb4 hy4 HB3 HN3 HE hc4
  go_wp2_with fail
  go_fit (HDX.out _ _ _ HY4.out HC4.out)
  rintro e w5 ⟨x5, e5, hd5, A5, c5, rfl, hc5, ho5, hb5⟩
  obtain ⟨rfl, rfl⟩ := HD0.out.one hd5
  have hx5 := belt hb5 (.cells #[.int .i64 x.id.core, .int .i64 x.id.op, .int .i64 x.id.part, .slice A5 x.path.length c5, .int .i64 x.cap.kind, .int .i64 x.cap.base, .int .i64 x.cap.bits, .int .i64 x.cap.rights, .int .i64 x.cap.width, .int .i64 x.cap.level, .bool x.cap.device] 28)
  have HM5 := Lib.hid (NB.new w5 x.id A5 x.path.length c5 x.cap)
  have HR5 := Lib.hid ((OwnG.rowAt GId.len ho5).2.next (belt (Below.refl _ w5) (.cells #[.int .i64 x.id.core, .int .i64 x.id.op, .int .i64 x.id.part, .slice A5 x.path.length c5, .int .i64 x.cap.kind, .int .i64 x.cap.base, .int .i64 x.cap.bits, .int .i64 x.cap.rights, .int .i64 x.cap.width, .int .i64 x.cap.level, .bool x.cap.device] 28)))
  have HN5 := Lib.hid (HN4.out.next hx5)
  replace HRX := Lib.hid (HRX.out.next hx5)
  have HY5 := Lib.hid ((HY4.out.below hx5).wide hx5.size)
  have HB5 := Lib.hid (beln HB4.out hx5)
  have HSN := Lib.hid (rSan_any x x A2 A5 c2 c5 _ HRX.out HR5.out (by have := HX8.out; omega) (by have := HX8.out; omega))
  rw [decide_eq_true (rfl : x = x)] at HSN
  unfold GN.val at HSN
  try unfold GN.val
  clear hd5 ho5 hb5 hx5 HB4 HN4 HY4 HRX HR5 hc5 HD0
  go_upto_region 6 with fail
  generalize w5.alloc (.cells #[.int .i64 x.id.core, .int .i64 x.id.op, .int .i64 x.id.part, .slice A5 x.path.length c5, .int .i64 x.cap.kind, .int .i64 x.cap.base, .int .i64 x.cap.bits, .int .i64 x.cap.rights, .int .i64 x.cap.width, .int .i64 x.cap.level, .bool x.cap.device] 28) = w6 at *
  generalize w5.heap.size = M5 at *
  obtain ⟨d0, d1, d2, d3, d4, d5, d6, d7, d8, d9, d10⟩ := HN5.out.cells
  obtain ⟨z0, z1, z2, z3, z4, z5, z6, z7, z8, z9, z10⟩ := HM5.out.cells
  go_wp2_with fail
  go_fit HSN.out
  rintro e w7 ⟨rfl, hb7⟩
  have HB7 := Lib.hid (beln HB5.out hb7)
  have HY7 := Lib.hid ((HY5.out.below hb7).wide hb7.size)
  clear hb7 HB5 HY5 HSN HN5 HM5 d0 d1 d2 d3 d4 d5 d6 d7 d8 d9 d10 z0 z1 z2 z3 z4 z5 z6 z7 z8 z9 z10
  obtain ⟨tl, htl⟩ : ∃ tl, tl = lx.length - 1 := ⟨_, rfl⟩
  have HLT : Hid (tl + 1 = lx.length) := Lib.hid (by have := HLX.out; omega)
  rw [← htl] at HDT
  have HT := Lib.hid (HY7.out.to (k := tl) (by have := HLT.out; omega))
  have HTL : Hid ((lx.take tl).length = tl) := Lib.hid (by have := HLT.out; rw [List.length_take]; omega)
  have HDK := Lib.hid (pDecN_any (lx.take tl) A4 c4 w7 (by rw [HTL.out]; exact HT.out) (by rw [HTL.out]; have := HLX.out; have := HLT.out; omega) (by rw [HTL.out]; have := HC4.out; have := HLT.out; omega))
  rw [HTL.out] at HDK
  unfold DEnd ChEnd at HDK
  have hn0 : ((lx.length : Int) == 0) = false := by have := HLX.out; simp; intro h; rw [h] at this; simp at this
  have hws : wrap64 ((lx.length : Int) - 1) = (tl : Int) := by have := HLT.out; have := HLX.out; unfold wrap64; omega
  have hto : ∀ W : World, (Instr.sliceAt 45 (.slice A4 lx.length c4) none (some (.int .i64 (tl : Int))) none).run Try.prog W = .ok (.slice A4 tl c4) W := fun W => cut_to A4 lx.length c4 tl (by have := HC4.out; have := HLT.out; omega) W
  have hto2 : ∀ W : World, (Instr.slice 45 (.slice A4 lx.length c4) none (some (.int .i64 (tl : Int))) none).run Try.prog W = .ok (.slice A4 tl c4) W := fun W => by
    have h := hto W
    rw [run_sliceAt_slice _ _ _ _ _ _ byte_elem] at h
    exact h
  clear htl
  go_wp2_with fail
  go_fit HDK.out
  rintro e w8 ⟨x8, e8, hd8, A8, c8, rfl, hc8, ho8, hb8⟩
  obtain rfl := HDT.out _ _ hd8
  have hx8 := belt hb8 (.cells #[.int .i64 x8.id.core, .int .i64 x8.id.op, .int .i64 x8.id.part, .slice A8 x8.path.length c8, .int .i64 x8.cap.kind, .int .i64 x8.cap.base, .int .i64 x8.cap.bits, .int .i64 x8.cap.rights, .int .i64 x8.cap.width, .int .i64 x8.cap.level, .bool x8.cap.device] 28)
  have HY8 := Lib.hid ((HY7.out.below hx8).wide hx8.size)
  have HB8 := Lib.hid (beln HB7.out hx8)
  try unfold GN.val
  clear hd8 ho8 hb8 hx8 hc8 HB7 HY7 HT HTL HDK hto hto2 hws HLT HDT
  go_upto_region 9 with fail
  generalize w8.alloc (.cells #[.int .i64 x8.id.core, .int .i64 x8.id.op, .int .i64 x8.id.part, .slice A8 x8.path.length c8, .int .i64 x8.cap.kind, .int .i64 x8.cap.base, .int .i64 x8.cap.bits, .int .i64 x8.cap.rights, .int .i64 x8.cap.width, .int .i64 x8.cap.level, .bool x8.cap.device] 28) = w9 at *
  generalize w8.heap.size = M8 at *
  obtain ⟨v10, w10, hrun, ho10, hb10, _⟩ := (Own.nil w9 w9.heap.size).app (w0 := w9) c4 HY8.out (Below.refl _ _) (Nat.le_refl _) (by have := HLX.out; simp; omega)
  rw [List.nil_append] at ho10
  have HRUN := Lib.hid hrun
  obtain ⟨v11, w11, hrun2, ho11, hk11⟩ := own_b12 ho10 hb10.size 0 (by have := HLX.out; omega)
  have HB11 := Lib.hid (beln HB8.out (hb10.trans (hk11.bel ho10 hb10.size)))
  obtain ⟨A10, c10, rfl, _, _, _⟩ := ho10.form
  rw [show (0 : Int) % 256 = 0 from rfl] at hrun2
  have HRUN2 := Lib.hid hrun2
  obtain ⟨A11, c11, rfl, hc11, _, hy11⟩ := ho11.form
  have HLM : Hid ((lx ++ [u8 0]).length = lx.length + 1) := Lib.hid (by simp)
  have HDK := Lib.hid (pDecN_any (lx ++ [u8 0]) A11 c11 w11 hy11 (by rw [HLM.out]; have := HLX.out; omega) hc11)
  unfold DEnd ChEnd at HDK
  rw [HLM.out] at HDK
  clear hrun hrun2 ho10 ho11 hb10 hk11 hy11 hc11 HLM HB8 HY8
  go_wp2_with (first | (at_builtin; refine wpList_app_run HRUN.out rfl rfl rfl rfl rfl ?_; clear HRUN) | (at_builtin; refine wpList_app_run HRUN2.out rfl rfl rfl rfl rfl ?_; clear HRUN2))
  go_fit HDK.out
  rintro e w12 ⟨x12, e12, hd12, A12, c12, rfl, hc12, ho12, hb12⟩
  obtain rfl := HDM.out _ _ hd12
  have HB12 := Lib.hid (belt (beln HB11.out hb12) (.cells #[.int .i64 x12.id.core, .int .i64 x12.id.op, .int .i64 x12.id.part, .slice A12 x12.path.length c12, .int .i64 x12.cap.kind, .int .i64 x12.cap.base, .int .i64 x12.cap.bits, .int .i64 x12.cap.rights, .int .i64 x12.cap.width, .int .i64 x12.cap.level, .bool x12.cap.device] 28))
  try unfold GN.val
  clear hd12 ho12 hb12 hc12 HB11 HDK HDM
  go_upto_region 12 with fail
  generalize w12.alloc (.cells #[.int .i64 x12.id.core, .int .i64 x12.id.op, .int .i64 x12.id.part, .slice A12 x12.path.length c12, .int .i64 x12.cap.kind, .int .i64 x12.cap.base, .int .i64 x12.cap.bits, .int .i64 x12.cap.rights, .int .i64 x12.cap.width, .int .i64 x12.cap.level, .bool x12.cap.device] 28) = w13 at *
  generalize w12.heap.size = M12 at *
  go_wp2_with fail
  go_fit (HPD.out _ HB12.out)
  rintro e w14 ⟨x14, e14, hd14, A14, c14, rfl, hc14, ho14, hb14⟩
  have HD14 := Lib.hid hd14
  have HR14 := Lib.hid ((OwnG.rowAt GId.len ho14).2.next (belt (Below.refl _ w14) (.cells #[.int .i64 x14.id.core, .int .i64 x14.id.op, .int .i64 x14.id.part, .slice A14 x14.path.length c14, .int .i64 x14.cap.kind, .int .i64 x14.cap.base, .int .i64 x14.cap.bits, .int .i64 x14.cap.rights, .int .i64 x14.cap.width, .int .i64 x14.cap.level, .bool x14.cap.device] 28)))
  have HN14 := Lib.hid (NB.new w14 x14.id A14 x14.path.length c14 x14.cap)
  have HB14 := Lib.hid (belt (beln HB12.out hb14) (.cells #[.int .i64 x14.id.core, .int .i64 x14.id.op, .int .i64 x14.id.part, .slice A14 x14.path.length c14, .int .i64 x14.cap.kind, .int .i64 x14.cap.base, .int .i64 x14.cap.bits, .int .i64 x14.cap.rights, .int .i64 x14.cap.width, .int .i64 x14.cap.level, .bool x14.cap.device] 28))
  have HC14 := Lib.hid hc14
  try unfold GN.val
  clear hd14 ho14 hb14 hc14 HB12 HPD
  go_upto_region 13 with fail
  generalize w14.alloc (.cells #[.int .i64 x14.id.core, .int .i64 x14.id.op, .int .i64 x14.id.part, .slice A14 x14.path.length c14, .int .i64 x14.cap.kind, .int .i64 x14.cap.base, .int .i64 x14.cap.bits, .int .i64 x14.cap.rights, .int .i64 x14.cap.width, .int .i64 x14.cap.level, .bool x14.cap.device] 28) = w15 at *
  generalize w14.heap.size = M14 at *
  rcases HD14.out with ⟨rfl, hv14, he14⟩ | ⟨rfl, _, _⟩
  rotate_left
  · go_wp2_with fail
    go_fit (HAW.out _)
    rintro e w16 ⟨rfl, hb16⟩
    have HB16 := Lib.hid (beln HB14.out hb16)
    clear hb16
    go_wp2
    go_ret
    exact ⟨rfl, HB16.out⟩
  have HE := Lib.hid (pEncN_any x14 A14 c14 w15 HR14.out (by have := (vN_facts hv14).2.2.1; omega) HC14.out)
  rw [hv14, if_pos rfl, if_pos rfl, he14] at HE
  unfold EncEnd GN.val at HE
  clear hv14 he14 HD14
  obtain ⟨d0, d1, d2, d3, d4, d5, d6, d7, d8, d9, d10⟩ := HN14.out.cells
  go_wp2_with fail
  go_fit HE.out
  rintro e w16 ⟨v16, rfl, ho16, hb16⟩
  obtain ⟨A16, c16, rfl, _, _, hy16⟩ := ho16.form
  have HB16 := Lib.hid (beln HB14.out hb16)
  have hk1 := hy16.str c16
  have hk2 := (HBY.out _ HB16.out).str cap2
  clear ho16 hb16 hy16 HB14 HE HN14 HR14 d0 d1 d2 d3 d4 d5 d6 d7 d8 d9 d10
  generalize l.length = ln at *
  generalize bs l = se at *
  go_wp2_with fail
  go_fit (HAW.out _)
  rintro e w17 ⟨rfl, hb17⟩
  have HB17 := Lib.hid (beln HB16.out hb17)
  clear hb17
  go_wp2
  go_ret
  exact ⟨rfl, HB17.out⟩
end Go.Proofs.Ytnoegjfokceghaa
