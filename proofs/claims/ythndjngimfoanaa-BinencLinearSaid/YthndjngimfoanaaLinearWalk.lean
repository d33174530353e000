/-
  The walk of the law BinencLinear: it returns true and turns nothing that was there.
  Conditions: the arguments read as lists of bytes.
-/
import Derived.Test.YthndjngimfoanaaOpen
import Derived.Test.YthndjngimfoanaaCrcMath
import Derived.Test.YthndjngimfoanaaGrow
import Derived.Test.YthndjngimfoanaaStr
import Derived.BigRegion
namespace Go.Proofs.Ythndjngimfoanaa
open Go.RowKit
set_option linter.unusedVariables false

theorem cell_vals' {w : World} {g q : Nat} {t : TypeId} {l : List UInt8} {z : List Value} (h : RowT w g t (vals l ++ z)) (hq : q < l.length) : w.cell? ⟨g, q, none⟩ = some (.int .u8 (bt l q : Int)) := by
  rw [h.cell, List.getElem?_append_left (by rw [length_vals]; exact hq)]
  unfold vals bt
  rw [List.getElem?_map, List.getElem?_eq_getElem hq, List.getD_eq_getElem?_getD, List.getElem?_eq_getElem hq]; rfl

theorem xor3_len : ∀ (a b c : List UInt8), a.length = b.length → b.length = c.length → (xor3 a b c).length = a.length
  | [], [], [], _, _ => rfl
  | x :: a, y :: b, z :: c, h1, h2 => by
    show (_ :: xor3 a b c).length = _
    rw [List.length_cons, List.length_cons, xor3_len a b c (by simpa using h1) (by simpa using h2)]
  | [], _ :: _, _, h1, _ => by simp at h1
  | _ :: _, [], _, h1, _ => by simp at h1
  | [], [], _ :: _, _, h2 => by simp at h2
  | _ :: _, _ :: _, [], _, h2 => by simp at h2

theorem crcOf_lt (l : List UInt8) : crcOf l < 4294967296 := by unfold crcOf; omega
theorem xor3_val (a b c : Nat) (ha : a < 256) (hb : b < 256) (hc : c < 256) : bits .xor .u8 (bits .xor .u8 (a : Int) (b : Int)) (c : Int) = ((a ^^^ b ^^^ c : Nat) : Int) := by
  rw [u8_xor_nat a b ha hb, u8_xor_nat _ c (Nat.xor_lt_two_pow (n := 8) ha hb) hc]
theorem xor3_snoc : ∀ (a b c : List UInt8) (x y z : UInt8), a.length = b.length → b.length = c.length → xor3 (a ++ [x]) (b ++ [y]) (c ++ [z]) = xor3 a b c ++ [UInt8.ofNat (x.toNat ^^^ y.toNat ^^^ z.toNat)]
  | [], [], [], _, _, _, _, _ => rfl
  | p :: a, q :: b, r :: c, x, y, z, h1, h2 => by
    show _ :: xor3 (a ++ [x]) (b ++ [y]) (c ++ [z]) = _ :: (xor3 a b c ++ _)
    rw [xor3_snoc a b c x y z (by simpa using h1) (by simpa using h2)]
  | [], _ :: _, _, _, _, _, h1, _ => by simp at h1
  | _ :: _, [], _, _, _, _, h1, _ => by simp at h1
  | [], [], _ :: _, _, _, _, _, h2 => by simp at h2
  | _ :: _, _ :: _, [], _, _, _, _, h2 => by simp at h2
theorem xor3_take (a b c : List UInt8) (j : Nat) (h1 : j < a.length) (h2 : j < b.length) (h3 : j < c.length) :
    xor3 (a.take (j + 1)) (b.take (j + 1)) (c.take (j + 1)) = xor3 (a.take j) (b.take j) (c.take j) ++ [UInt8.ofNat (bt a j ^^^ bt b j ^^^ bt c j)] := by
  rw [take_step a j h1, take_step b j h2, take_step c j h3, xor3_snoc _ _ _ _ _ _ (by rw [List.length_take, List.length_take]; omega) (by rw [List.length_take, List.length_take]; omega)]
  rfl

set_option maxRecDepth 100000 in
set_option maxHeartbeats 1600000 in
theorem linear_walk (A1 A2 A3 : Option Addr) (n1 n2 n3 c1 c2 c3 : Nat) (l1 l2 l3 : List UInt8) (w : World) (h1 : Byt w w.heap.size A1 n1 l1) (h2 : Byt w w.heap.size A2 n2 l2) (h3 : Byt w w.heap.size A3 n3 l3) (hc1 : n1 ≤ c1) (hc2 : n2 ≤ c2) (hc3 : n3 ≤ c3) (hm1 : c1 ≤ maxLen) (hm2 : c2 ≤ maxLen) (hm3 : c3 ≤ maxLen) :
    Calls Try.prog 10 #[.slice A1 n1 c1, .slice A2 n2 c2, .slice A3 n3 c3] w fun e w' => e = .returned (.bool true) ∧ Below w.heap.size w w' := by
  have HH1 := Lib.hid h1
  have HH2 := Lib.hid h2
  have HH3 := Lib.hid h3
  unfold maxLen at hm1 hm2 hm3
  clear h1 h2 h3
  obtain ⟨n, hn⟩ : ∃ n, n = min (min n1 n2) n3 := ⟨_, rfl⟩
  have hmin : (if (n3 : Int) < if n2 < n1 then (n2 : Int) else (n1 : Int) then (n3 : Int) else if n2 < n1 then (n2 : Int) else (n1 : Int)) = (n : Int) := by
    split <;> split at * <;> omega
  have hn1 : n ≤ n1 := by omega
  have hn2 : n ≤ n2 := by omega
  have hn3 : n ≤ n3 := by omega
  clear hn
  by_cases hbig : 1000 < n
  · have HA := Lib.hid (awake_any w)
    go_enter Try.func10, Try.ntmps10
    go_wp2_with fail
    refine HA.out.mono ?_
    rintro e w1 ⟨rfl, hb⟩
    have HB := Lib.hid hb
    clear hb
    go_wp2
    go_ret
    exact ⟨rfl, HB.out⟩
  · obtain ⟨i0, hi0, hz0, hz1, hz2⟩ := info_parts byte_info
    have HI := Lib.hid hi0
    have HZ0 := Lib.hid hz0
    have HZ1 := Lib.hid hz1
    have HZ2 := Lib.hid hz2
    clear hi0 hz0 hz1 hz2
    go_enter Try.func10, Try.ntmps10
    go_wp2_with (at_make; refine wpList_make_full _ rfl _ _ 22 rfl w.heap.size 5 i0 _ 1 Try.underlying22 HI.out HZ0.out HZ1.out _ _ _ _ n rfl rfl rfl rfl (by rw [HZ2.out]; omega) (by unfold maxLen; omega) (Nat.le_refl _) ?_; intro w1 hown1 hg1)
    clear hmin
    have hrow0 := RowAt.of_own hown1
    have hb0 : Below w.heap.size w w1 := (Below.refl _ _).grown hg1 (Nat.le_refl _) (by simp)
    clear hown1 hg1
    have hrow : RowT w1 w.heap.size 5 (vals (xor3 (l1.take 0) (l2.take 0) (l3.take 0)) ++ zeros (n - 0)) := by
      have e : (madeCells (Value.int IntKind.u8 0).cells (n * 1)).toList = vals (xor3 (l1.take 0) (l2.take 0) (l3.take 0)) ++ zeros (n - 0) := by
        show (madeCells #[Value.int IntKind.u8 0] (n * 1)).toList = _
        rw [toList_madeCells_one]; simp [zeros, vals, xor3]
      rw [← e]; exact hrow0
    have HROW := Lib.hid hrow
    have HB0 := Lib.hid hb0
    clear hrow hrow0 hb0 HI HZ0 HZ1 HZ2
    go_loopw [9] (fun i wr => ∃ j : Nat, j ≤ n ∧ i = .int .i64 (j : Int) ∧ Hid (RowT wr w.heap.size 5 (vals (xor3 (l1.take j) (l2.take j) (l3.take j)) ++ zeros (n - j))) ∧ Hid (Below w.heap.size w wr)) (fun i _ => n - (intOf i).toNat)
    case atStart => exact ⟨0, by omega, rfl, HROW, HB0⟩
    case round =>
      obtain ⟨j, hj, rfl, HRW, HBW⟩ := hrel
      have hlen : (xor3 (l1.take j) (l2.take j) (l3.take j)).length = j := by
        rw [xor3_len]
        · rw [List.length_take, HH1.out.1]; omega
        · rw [List.length_take, List.length_take, HH1.out.1, HH2.out.1]; omega
        · rw [List.length_take, List.length_take, HH2.out.1, HH3.out.1]; omega
      have HLEN := Lib.hid hlen
      clear hlen
      by_cases hjn : j < n
      · obtain ⟨b1, o1, rfl, hb1, hk1⟩ := (HH1.out.below HBW.out).at_ (by omega)
        obtain ⟨b2, o2, rfl, hb2, hk2⟩ := (HH2.out.below HBW.out).at_ (by omega)
        obtain ⟨b3, o3, rfl, hb3, hk3⟩ := (HH3.out.below HBW.out).at_ (by omega)
        have hx1 := hk1 j (by omega)
        have hx2 := hk2 j (by omega)
        have hx3 := hk3 j (by omega)
        have ht1 := bt_lt l1 j
        have ht2 := bt_lt l2 j
        have ht3 := bt_lt l3 j
        have hcell : wr.cell? ⟨w.heap.size, j, none⟩ = some (.int .u8 0) := by
          rw [HRW.out.cell, List.getElem?_append_right (by rw [length_vals, HLEN.out]; exact Nat.le_refl _), length_vals, HLEN.out, Nat.sub_self]
          exact zeros_zero (by omega)
        have hfr := HRW.out.frozen j
        have hi0 : (0 : Int) ≤ (j : Int) := by omega
        have hi1 : (j : Int) < (n1 : Int) := by omega
        have hi2 : (j : Int) < (n2 : Int) := by omega
        have hi3 : (j : Int) < (n3 : Int) := by omega
        have hi4 : (j : Int) < (n : Int) := by omega
        clear hk1 hk2 hk3
        have HV := Lib.hid (xor3_val (bt l1 j) (bt l2 j) (bt l3 j) ht1 ht2 ht3)
        have HLT := Lib.hid (Nat.xor_lt_two_pow (n := 8) (Nat.xor_lt_two_pow (n := 8) ht1 ht2) ht3)
        go_wp2
        go_region
        go_wp2
        go_roundw
        case rel =>
          refine ⟨j + 1, by omega, by go_num, Lib.hid ?_, Lib.hid ((HBW.out.setCell (Nat.le_refl _) _).drew)⟩
          rw [HV.out, xor3_take l1 l2 l3 j (by rw [HH1.out.1]; omega) (by rw [HH2.out.1]; omega) (by rw [HH3.out.1]; omega)]
          have h1 := HRW.out.set_ j (.int .u8 ((bt l1 j ^^^ bt l2 j ^^^ bt l3 j : Nat) : Int))
          rw [zeros_cons (show 0 < n - j by omega)] at h1
          have h2 := vals_snoc (xor3 (l1.take j) (l2.take j) (l3.take j)) _ HLT.out (zeros (n - j - 1)) (.int .u8 0)
          rw [HLEN.out] at h2
          rw [h2, show n - j - 1 = n - (j + 1) by omega] at h1
          exact h1
        case measure => simp [intOf]; omega
      · obtain rfl : n = j := by omega
        have hd := RowT.byt HRW.out HRW.out.lt HLEN.out
        have HD := Lib.hid hd
        have hcut1 := cut_to A1 n1 c1 n (by omega)
        have hcut2 := cut_to A2 n2 c2 n (by omega)
        have hcut3 := cut_to A3 n3 c3 n (by omega)
        have HE := Lib.hid (crcOf_xor3 (l1.take n) (l2.take n) (l3.take n) (by rw [List.length_take, List.length_take, HH1.out.1, HH2.out.1]; omega) (by rw [List.length_take, List.length_take, HH2.out.1, HH3.out.1]; omega))
        clear hd
        obtain ⟨X, hX⟩ : ∃ X, X = crcOf (xor3 (l1.take n) (l2.take n) (l3.take n)) := ⟨_, rfl⟩
        obtain ⟨x1, hx1⟩ : ∃ X, X = crcOf (l1.take n) := ⟨_, rfl⟩
        obtain ⟨x2, hx2⟩ : ∃ X, X = crcOf (l2.take n) := ⟨_, rfl⟩
        obtain ⟨x3, hx3⟩ : ∃ X, X = crcOf (l3.take n) := ⟨_, rfl⟩
        have hl1 : x1 < 4294967296 := by rw [hx1]; exact crcOf_lt _
        have hl2 : x2 < 4294967296 := by rw [hx2]; exact crcOf_lt _
        have hl3 : x3 < 4294967296 := by rw [hx3]; exact crcOf_lt _
        have hy1 := u32_xor_nat x1 x2 hl1 hl2
        have hy2 := u32_xor_nat (x1 ^^^ x2) x3 (Nat.xor_lt_two_pow (n := 32) hl1 hl2) hl3
        have he := HE.out
        rw [← hX, ← hx1, ← hx2, ← hx3] at he
        rw [← he] at hy2
        have C0 := Lib.hid (crc_any _ n n _ _ wr.drew (HD.out.below (Fut.refl wr).drew) (by unfold maxLen; omega))
        have C1 := Lib.hid (crc_any A1 n c1 _ _ wr.drew (((HH1.out.below HBW.out).to (k := n) (by omega)).below ((Fut.refl wr).drew.mono HBW.out.size)) (by unfold maxLen; omega))
        have C2 := Lib.hid (crc_any A2 n c2 _ _ wr.drew (((HH2.out.below HBW.out).to (k := n) (by omega)).below ((Fut.refl wr).drew.mono HBW.out.size)) (by unfold maxLen; omega))
        have C3 := Lib.hid (crc_any A3 n c3 _ _ wr.drew (((HH3.out.below HBW.out).to (k := n) (by omega)).below ((Fut.refl wr).drew.mono HBW.out.size)) (by unfold maxLen; omega))
        rw [← hX] at C0
        rw [← hx1] at C1
        rw [← hx2] at C2
        rw [← hx3] at C3
        have HA := Lib.hid (awake_any wr.drew)
        clear hX hx1 hx2 hx3 he HE hl1 hl2 hl3
        go_wp2_with fail
        refine wp_region_grow [(0, true), (2, true), (3, true), (4, true), (6, true), (7, true), (8, true), (11, true), (12, true), (13, true), (1, false), (5, false), (9, false), (10, true), (14, false), (15, true), (16, true), (17, true), (18, false), (19, true), (20, true)] (by kernel_rfl) (by kernel_rfl) (by kernel_rfl) (by kernel_rfl) (by intro c a d v w h; cases d <;> exact h) ?_
        repeat (first
          | (refine wpGrow_float (v := ?_) (by simp only [List.getElem?_toArray, List.getElem?_cons_succ, List.getElem?_cons_zero]; rfl) (by rfl) ?_ ?_
             rotate_left
             · (intro W hW; go_simp; try with_reducible rfl)
             simp only [Act.put, List.setIfInBounds_toArray, List.set_cons_zero, List.set_cons_succ])
          | (refine wpGrow_skip (by simp only [List.getElem?_toArray, List.getElem?_cons_succ, List.getElem?_cons_zero]; rfl) (by rfl) ?_
             simp only [Act.put, List.setIfInBounds_toArray, List.set_cons_zero, List.set_cons_succ]))
        refine wpGrow_call (by simp only [List.getElem?_toArray, List.getElem?_cons_succ, List.getElem?_cons_zero]; rfl) (by rfl) fun K hK => ?_
        go_simp
        refine (C0.out).mono ?_
        rintro e w3 ⟨rfl, rfl⟩
        go_simp
        refine hK _ _ (Fut.refl wr.drew) ?_
        clear hK K
        repeat (first
          | (refine wpGrow_float (v := ?_) (by simp only [List.getElem?_toArray, List.getElem?_cons_succ, List.getElem?_cons_zero]; rfl) (by rfl) ?_ ?_
             rotate_left
             · (intro W hW; go_simp; try with_reducible rfl)
             simp only [Act.put, List.setIfInBounds_toArray, List.set_cons_zero, List.set_cons_succ])
          | (refine wpGrow_skip (by simp only [List.getElem?_toArray, List.getElem?_cons_succ, List.getElem?_cons_zero]; rfl) (by rfl) ?_
             simp only [Act.put, List.setIfInBounds_toArray, List.set_cons_zero, List.set_cons_succ]))
        refine wpGrow_call (by simp only [List.getElem?_toArray, List.getElem?_cons_succ, List.getElem?_cons_zero]; rfl) (by rfl) fun K hK => ?_
        go_simp
        refine (C1.out).mono ?_
        rintro e w3 ⟨rfl, rfl⟩
        go_simp
        refine hK _ _ (Fut.refl wr.drew) ?_
        clear hK K
        repeat (first
          | (refine wpGrow_float (v := ?_) (by simp only [List.getElem?_toArray, List.getElem?_cons_succ, List.getElem?_cons_zero]; rfl) (by rfl) ?_ ?_
             rotate_left
             · (intro W hW; go_simp; try with_reducible rfl)
             simp only [Act.put, List.setIfInBounds_toArray, List.set_cons_zero, List.set_cons_succ])
          | (refine wpGrow_skip (by simp only [List.getElem?_toArray, List.getElem?_cons_succ, List.getElem?_cons_zero]; rfl) (by rfl) ?_
             simp only [Act.put, List.setIfInBounds_toArray, List.set_cons_zero, List.set_cons_succ]))
        refine wpGrow_call (by simp only [List.getElem?_toArray, List.getElem?_cons_succ, List.getElem?_cons_zero]; rfl) (by rfl) fun K hK => ?_
        go_simp
        refine (C2.out).mono ?_
        rintro e w3 ⟨rfl, rfl⟩
        go_simp
        refine hK _ _ (Fut.refl wr.drew) ?_
        clear hK K
        repeat (first
          | (refine wpGrow_float (v := ?_) (by simp only [List.getElem?_toArray, List.getElem?_cons_succ, List.getElem?_cons_zero]; rfl) (by rfl) ?_ ?_
             rotate_left
             · (intro W hW; go_simp; try with_reducible rfl)
             simp only [Act.put, List.setIfInBounds_toArray, List.set_cons_zero, List.set_cons_succ])
          | (refine wpGrow_skip (by simp only [List.getElem?_toArray, List.getElem?_cons_succ, List.getElem?_cons_zero]; rfl) (by rfl) ?_
             simp only [Act.put, List.setIfInBounds_toArray, List.set_cons_zero, List.set_cons_succ]))
        refine wpGrow_call (by simp only [List.getElem?_toArray, List.getElem?_cons_succ, List.getElem?_cons_zero]; rfl) (by rfl) fun K hK => ?_
        go_simp
        refine (C3.out).mono ?_
        rintro e w3 ⟨rfl, rfl⟩
        go_simp
        refine hK _ _ (Fut.refl wr.drew) ?_
        clear hK K
        repeat (first
          | (refine wpGrow_float (v := ?_) (by simp only [List.getElem?_toArray, List.getElem?_cons_succ, List.getElem?_cons_zero]; rfl) (by rfl) ?_ ?_
             rotate_left
             · (intro W hW; go_simp; try with_reducible rfl)
             simp only [Act.put, List.setIfInBounds_toArray, List.set_cons_zero, List.set_cons_succ])
          | (refine wpGrow_skip (by simp only [List.getElem?_toArray, List.getElem?_cons_succ, List.getElem?_cons_zero]; rfl) (by rfl) ?_
             simp only [Act.put, List.setIfInBounds_toArray, List.set_cons_zero, List.set_cons_succ]))
        refine wpGrow_call (by simp only [List.getElem?_toArray, List.getElem?_cons_succ, List.getElem?_cons_zero]; rfl) (by rfl) fun K hK => ?_
        go_simp
        refine (HA.out).mono ?_
        rintro e w3 ⟨rfl, hb3⟩
        have HX := Lib.hid (show Fut wr.drew w3 from hb3)
        have HF := Lib.hid (Fut.trans (Fut.trans HBW.out (Fut.refl wr).drew) hb3)
        clear hb3
        go_simp
        refine hK _ _ HX.out ?_
        clear hK K
        repeat (first
          | (refine wpGrow_float (v := ?_) (by simp only [List.getElem?_toArray, List.getElem?_cons_succ, List.getElem?_cons_zero]; rfl) (by rfl) ?_ ?_
             rotate_left
             · (intro W hW; go_simp; try with_reducible rfl)
             simp only [Act.put, List.setIfInBounds_toArray, List.set_cons_zero, List.set_cons_succ])
          | (refine wpGrow_skip (by simp only [List.getElem?_toArray, List.getElem?_cons_succ, List.getElem?_cons_zero]; rfl) (by rfl) ?_
             simp only [Act.put, List.setIfInBounds_toArray, List.set_cons_zero, List.set_cons_succ]))
        refine wpGrow_nil ?_
        go_wp2
        go_ret
        exact ⟨rfl, HF.out⟩

end Go.Proofs.Ythndjngimfoanaa
