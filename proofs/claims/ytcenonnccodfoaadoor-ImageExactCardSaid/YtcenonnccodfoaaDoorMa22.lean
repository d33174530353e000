/-
  What the laws that change an image need: a row of bytes of the call's own, changed at one place; the length of an image of few modules.
  Conditions: as each theorem says.
  The law ImageHeader returns true.
  Conditions: the numbers are the language's.
  The law ImageDamaged returns true.
  Conditions: the numbers are the language's.
-/
import Derived.Test.YtcenonnccodfoaaDoorMa20
import Derived.Test.YtcenonnccodfoaaDoorMa21
import Derived.StillTactics
namespace Go.Proofs.YtcenonnccodfoaaDoor

open Go.RowKit

/-- A slice of the call's own, its block known whole. -/
theorem Own.rowT {w : World} {base : Nat} {v : Value} {l : List UInt8} (h : Own w base v l) (hl : 0 < l.length) : ∃ g cap z, v = .slice (some ⟨g, 0, none⟩) l.length cap ∧ base ≤ g ∧ l.length ≤ cap ∧ RowT w g 5 (vals l ++ z) := by
  rcases h.2 with ⟨hv, h0⟩ | ⟨g, cap, cur, hv, hbg, hh, hn, hm, hs, ht⟩
  · omega
  · have e : cur.toList = vals l ++ cur.toList.drop l.length := by
      have := (List.take_append_drop (l.length * 1) cur.toList).symm
      rw [ht, Nat.mul_one] at this; exact this
    refine ⟨g, cap, cur.toList.drop l.length, hv, hbg, hn, ?_⟩
    unfold RowT; rw [← e]; simpa using hh
theorem vals_set (l : List UInt8) (q c : Nat) (hq : q < l.length) (hc : c < 256) (z : List Value) : (vals l ++ z).set q (.int .u8 (c : Int)) = vals (l.set q (UInt8.ofNat c)) ++ z := by
  rw [List.set_append_left _ _ (by rw [length_vals]; exact hq)]
  congr 1
  unfold vals
  rw [List.map_set]
  congr 2
  rw [UInt8.toNat_ofNat', Nat.mod_eq_of_lt hc]
theorem cell_vals {w : World} {g q : Nat} {t : TypeId} {l : List UInt8} {z : List Value} (h : RowT w g t (vals l ++ z)) (hq : q < l.length) : w.cell? ⟨g, q, none⟩ = some (.int .u8 (bt l q : Int)) := by
  rw [h.cell, List.getElem?_append_left (by rw [length_vals]; exact hq)]
  unfold vals bt
  rw [List.getElem?_map, List.getElem?_eq_getElem hq, List.getD_eq_getElem?_getD, List.getElem?_eq_getElem hq]; rfl
theorem bit_at (B i : Nat) (hB : B < 4294967296) : bits .and .u32 ((B : Int) / 2 ^ i) 1 = ((B / 2 ^ i % 2 : Nat) : Int) := by
  have e : (B : Int) / 2 ^ i = ((B / 2 ^ i : Nat) : Int) := by rw [Int.natCast_ediv, Int.natCast_pow]; rfl
  rw [e]
  exact low_bit _ (Nat.lt_of_le_of_lt (Nat.div_le_self _ _) hB)
theorem pow8 {r : Nat} (h : r < 8) : 2 ^ r < 2 ^ 8 := Nat.pow_lt_pow_right (by omega) h
theorem flip_val (b r : Nat) (hb : b < 256) (hr : r < 8) : bits .xor .u8 (b : Int) (2 ^ r % 256) = ((b ^^^ 2 ^ r : Nat) : Int) := by
  have hp := pow8 hr
  have e : (2 : Int) ^ r % 256 = ((2 ^ r : Nat) : Int) := by
    obtain ⟨p, hpp⟩ : ∃ p : Nat, p = 2 ^ r := ⟨_, rfl⟩
    rw [show (2 : Int) ^ r = ((2 ^ r : Nat) : Int) by rw [Int.natCast_pow]; rfl, ← hpp]
    rw [← hpp] at hp
    omega
  rw [e, u8_xor_nat _ _ hb (by omega)]
theorem img_few {ms : List GMod} (h : AllMade ms) (hl : ms.length ≤ 5) : (imageL ms).length ≤ 65535 := by
  have hg := made_good h hl
  rw [length_image fun m hm => ((errM_good hg).fit m hm).name]
  have h1 := made_end ms (startM ms) h.1
  have h2 := upN_lt (16 + 48 * ms.length)
  unfold startM at h1 ⊢
  omega
theorem img_high {ms : List GMod} (h : AllMade ms) (hl : ms.length ≤ 5) : bt (imageL ms) 10 = 0 ∧ bt (imageL ms) 11 = 0 := by
  have h1 := (image_facts (made_good h hl)).2.2.2.2.1
  have h2 := img_few h hl
  have e : leUp (imageL ms) 8 4 = leUp (imageL ms) 8 2 + bt (imageL ms) 10 * 256 ^ 2 + bt (imageL ms) 11 * 256 ^ 3 := rfl
  omega
theorem ofNat_lt (x : Nat) (h : x < 256) : (UInt8.ofNat x).toNat = x := by rw [UInt8.toNat_ofNat']; omega
theorem xor_ne {a y : Nat} (hy : y ≠ 0) : a ^^^ y ≠ a := fun h => hy (by
  have h2 : a ^^^ y = a ^^^ 0 := by rw [h, Nat.xor_zero]
  exact xor_cancel h2)
end Go.Proofs.YtcenonnccodfoaaDoor


namespace Go.Proofs.YtcenonnccodfoaaDoor
open Go.RowKit

set_option maxRecDepth 50000 in
set_option maxHeartbeats 1000000 in
theorem lheader_any (A : Option Addr) (len cap : Nat) (zs : List Int) (which : Int) (by_ : Nat) (hby : by_ < 256) (w : World) (hr : IRow w w.heap.size A len cap zs) :
    Calls Tryd.prog 7 #[.slice A len cap, .int .i64 which, .int .u8 (by_ : Int)] w fun e w' => e = .returned (.bool true) ∧ Below w.heap.size w w' := by
  have HAW := Lib.hid awake_any
  have HMD := Lib.hid (modules_any A len cap zs w hr)
  have HAW0 := Lib.hid (awake_any w)
  clear hr
  have hnot : ∀ (x : Bool) (w : World), (Op.unary .not (.bool x)).run Tryd.prog w = .ok (.bool (!x)) w := fun _ _ => rfl
  by_cases h2 : 200 < len
  case pos =>
    have f0 : decide ((200 : Int) < (len : Int)) = true := by simp; omega
    have g0 : decide (200 < len) = true := by simp; omega
    clear HMD HAW
    go_enter Tryd.func7, Tryd.ntmps7
    go_wp2_with fail
    go_fit HAW0.out
    rintro e w5 ⟨rfl, hb5⟩
    have HN := Lib.hid hb5
    clear hb5
    go_wp2
    go_ret
    exact ⟨rfl, HN.out⟩
  have f0 : decide ((200 : Int) < (len : Int)) = false := by simp; omega
  have g0 : decide (200 < len) = false := by simp; omega
  by_cases hy0 : by_ = 0
  case pos =>
    have f1 : ((by_ : Int) == 0) = true := by simp [hy0]
    clear HMD HAW hy0
    go_enter Tryd.func7, Tryd.ntmps7
    go_wp2_with fail
    go_fit HAW0.out
    rintro e w5 ⟨rfl, hb5⟩
    have HN := Lib.hid hb5
    clear hb5
    go_wp2
    go_ret
    exact ⟨rfl, HN.out⟩
  have f1 : ((by_ : Int) == 0) = false := beq_eq_false_iff_ne.2 (by omega)
  clear HAW0
  go_enter Tryd.func7, Tryd.ntmps7
  go_wp2_with fail
  go_fit HMD.out
  rintro e w1 ⟨A1, c1, ss, ms, rfl, hm, ham, h5, hcap, hb1⟩
  have HB1 := Lib.hid hb1
  have hme := made_good ham h5
  have HE := Lib.hid hme
  have HBC := Lib.hid (pBuild_any ms ss A1 c1 w1 hm (by omega) hcap (good_name hme))
  have hil := (image_facts hme).1
  have hif := img_few ham h5
  have hhi := img_high ham h5
  have HPH := Lib.hid fun k (hk : k < 16) (v : UInt8) (hv : v.toNat ≠ bt (imageL ms) k) xs e => parse_head (xs := xs) (e := e) hme k hk v hv
  have HIM := Lib.hid (imgM_ok hme)
  clear hm ham hb1 HMD hme
  go_wp2_with fail
  go_fit HBC.out
  rintro e w2 ⟨hb2, A2, c2, rfl, hby2, hc2⟩
  rw [HE.out]
  rw [HIM.out] at hby2 hc2 ⊢
  have HB2 := Lib.hid (bel_next8 HB1.out hb2)
  have HY2 := Lib.hid hby2
  generalize imageL ms = im at *
  clear hb2 HBC hby2 HE HIM
  have hni := HY2.out.1
  generalize hnn : im.length = ni at *
  have f64 : decide ((ni : Int) < 64) = false := by simp; omega
  have g64 : decide (ni < 64) = false := by simp; omega
  obtain ⟨v3, w3, hrun3, hg3⟩ := Grow.start c2 HY2.out (by omega)
  obtain ⟨g, cp, z, rfl, hgb, hcap3, hrow⟩ := hg3.1.rowT (by omega)
  rw [hnn] at hrun3 hcap3
  have HR3 := Lib.hid hrun3
  have HRW := Lib.hid hrow
  have HB3 := Lib.hid hg3.2
  clear hrun3 hg3 hrow
  have hpb := placeI_bd which 16 (by omega)
  have HPL := Lib.hid (place_eq which 16 (by omega) (by omega) w3)
  generalize placeI which 16 = kI at *
  obtain ⟨k, rfl⟩ : ∃ k : Nat, kI = k := ⟨kI.toNat, by omega⟩
  have hk : k < 16 := by omega
  clear hpb
  go_wp2_with (at_builtin; refine wpList_app_run HR3.out rfl rfl rfl rfl rfl ?_)
  go_fit HPL.out
  rintro e w4 ⟨rfl, rfl⟩
  clear HPL HR3
  obtain ⟨b2, o2, hA2, hb2, hcell2⟩ := HY2.out.at_ (by omega)
  subst hA2
  have hck := cell_vals HRW.out (q := k) (by omega)
  have hfr := HRW.out.frozen k
  have hbt := bt_lt im k
  have HX := Lib.hid (u8_xor_nat (bt im k) by_ hbt hby)
  have hxlt : bt im k ^^^ by_ < 256 := Nat.xor_lt_two_pow (n := 8) hbt hby
  have hxne : bt im k ^^^ by_ ≠ bt im k := xor_ne hy0
  have HP := Lib.hid (HPH.out k hk (UInt8.ofNat (bt im k ^^^ by_)) (by rw [ofNat_lt _ hxlt]; exact hxne))
  have hw5 : ∃ w5, w5 = w3.setCell ⟨g, k, none⟩ (.int .u8 (bits .xor .u8 (bt im k : Int) (by_ : Int))) := ⟨_, rfl⟩
  obtain ⟨w5, hw5⟩ := hw5
  have hrow5 : RowT w5 g 5 (vals (im.set k (UInt8.ofNat (bt im k ^^^ by_))) ++ z) := by
    rw [hw5, HX.out, ← vals_set im k _ (by omega) hxlt]
    exact HRW.out.set_ k _
  have hb5 : Below w2.heap.size w2 w5 := by rw [hw5]; exact HB3.out.setCell hgb _
  have HW5 := Lib.hid hw5
  have HR5 := Lib.hid hrow5
  have HB5 := Lib.hid (bel_next8 HB2.out hb5)
  have hl5 : (im.set k (UInt8.ofNat (bt im k ^^^ by_))).length = ni := by rw [List.length_set]; exact hnn
  have HPC := Lib.hid (pParse_any (some ⟨g, 0, none⟩) ni cp _ w5 (hrow5.byt hrow5.lt hl5) hcap3 (by omega))
  have HY5 := Lib.hid (HY2.out.next8 hb5)
  clear hw5 hrow5 hb5 HB3 HRW HPH
  go_wp2_with fail
  rw [← HW5.out]
  clear HW5 hck hfr HX
  go_fit HPC.out
  rintro e w6 ⟨hb6, A6, c6, s6, m6, err, rfl, hm6, hc6, hip⟩
  obtain ⟨r4, r6, r8, r12, r16⟩ := HP.out _ _ hip
  have HB6 := Lib.hid (bel_next8 HB5.out hb6)
  have HAW6 := Lib.hid (HAW.out w6)
  have hrow6 := HR5.out.below hb6 HR5.out.lt
  have hY6 := HY5.out.next8 hb6
  have hcl : ∀ j, j < ni → w6.cell? ⟨g, j, none⟩ = some (.int .u8 (bt (im.set k (UInt8.ofNat (bt im k ^^^ by_))) j : Int)) := fun j hj => cell_vals hrow6 (by omega)
  have hcb : ∀ j, j < ni → w6.cell? ⟨b2, o2 + j, none⟩ = some (.int .u8 (bt im j : Int)) := by
    obtain ⟨b', o', e, _, hc⟩ := hY6.at_ (by omega)
    cases e
    exact hc
  have hsn : ∀ j, j ≠ k → bt (im.set k (UInt8.ofNat (bt im k ^^^ by_))) j = bt im j := fun j hj => bt_set_ne im k j _ hj
  have hse : bt (im.set k (UInt8.ofNat (bt im k ^^^ by_))) k = bt im k ^^^ by_ := by rw [bt_set_eq im k _ (by omega), ofNat_lt _ hxlt]
  rw [ofNat_lt _ hxlt] at r12
  generalize im.set k (UInt8.ofNat (bt im k ^^^ by_)) = im2 at *
  generalize hxx : bt im k ^^^ by_ = X at *
  clear hb6 hm6 hc6 hip HPC HP HR5 hrow6 hY6 HY5 HY2 hbt hl5 hxx
  by_cases k4 : k < 4
  · obtain rfl := r4 k4
    have d4 : decide ((k : Int) < 4) = true := by simp; omega
    have dn4 : decide (k < 4) = true := by simp; omega
    clear hcl hcb hsn hse r4 r6 r8 r12 r16
    go_wp2_with fail
    go_fit HAW6.out
    rintro e w9 ⟨rfl, hb9⟩
    have HN := Lib.hid (bel_next8 HB6.out hb9)
    clear hb9
    go_wp2
    go_ret
    exact ⟨rfl, HN.out⟩
  by_cases k6 : k < 6
  · obtain rfl := r6 (by omega) k6
    have d4 : decide ((k : Int) < 4) = false := by simp; omega
    have dn4 : decide (k < 4) = false := by simp; omega
    have d6 : decide ((k : Int) < 6) = true := by simp; omega
    have dn6 : decide (k < 6) = true := by simp; omega
    clear hcl hcb hsn hse r4 r6 r8 r12 r16
    go_wp2_with fail
    go_fit HAW6.out
    rintro e w9 ⟨rfl, hb9⟩
    have HN := Lib.hid (bel_next8 HB6.out hb9)
    clear hb9
    go_wp2
    go_ret
    exact ⟨rfl, HN.out⟩
  by_cases k8 : k < 8
  · obtain rfl := r8 (by omega) k8
    have d4 : decide ((k : Int) < 4) = false := by simp; omega
    have dn4 : decide (k < 4) = false := by simp; omega
    have d6 : decide ((k : Int) < 6) = false := by simp; omega
    have dn6 : decide (k < 6) = false := by simp; omega
    have d8 : decide ((k : Int) < 8) = true := by simp; omega
    have dn8 : decide (k < 8) = true := by simp; omega
    clear hcl hcb hsn hse r4 r6 r8 r12 r16
    go_wp2_with fail
    go_fit HAW6.out
    rintro e w9 ⟨rfl, hb9⟩
    have HN := Lib.hid (bel_next8 HB6.out hb9)
    clear hb9
    go_wp2
    go_ret
    exact ⟨rfl, HN.out⟩
  by_cases k12 : 12 ≤ k
  · obtain rfl := r16 k12
    have d4 : decide ((k : Int) < 4) = false := by simp; omega
    have dn4 : decide (k < 4) = false := by simp; omega
    have d6 : decide ((k : Int) < 6) = false := by simp; omega
    have dn6 : decide (k < 6) = false := by simp; omega
    have d8 : decide ((k : Int) < 8) = false := by simp; omega
    have dn8 : decide (k < 8) = false := by simp; omega
    have d12 : decide ((k : Int) < 12) = false := by simp; omega
    have dn12 : decide (k < 12) = false := by simp; omega
    clear hcl hcb hsn hse r4 r6 r8 r12 r16
    go_wp2_with fail
    go_fit HAW6.out
    rintro e w9 ⟨rfl, hb9⟩
    have HN := Lib.hid (bel_next8 HB6.out hb9)
    clear hb9
    go_wp2
    go_ret
    exact ⟨rfl, HN.out⟩
  have i8 : (8 : Int) < (ni : Int) := by omega
  have j8 : 8 < ni := by omega
  have i9 : (9 : Int) < (ni : Int) := by omega
  have j9 : 9 < ni := by omega
  have i10 : (10 : Int) < (ni : Int) := by omega
  have j10 : 10 < ni := by omega
  have i11 : (11 : Int) < (ni : Int) := by omega
  have j11 : 11 < ni := by omega
  have r := r12 (by omega) (by omega)
  clear r4 r6 r8 r12 r16
  by_cases q8 : k = 8
  · subst q8
    have c8 := hcl 8 (by omega)
    rw [hse] at c8
    have e8 := hcb 8 (by omega)
    have c9 := hcl 9 (by omega)
    rw [hsn 9 (by decide)] at c9
    have e9 := hcb 9 (by omega)
    have c10 := hcl 10 (by omega)
    rw [hsn 10 (by decide)] at c10
    have e10 := hcb 10 (by omega)
    have c11 := hcl 11 (by omega)
    rw [hsn 11 (by decide)] at c11
    have e11 := hcb 11 (by omega)
    clear hcl hcb hsn hse
    generalize bt im 8 = x8 at *
    generalize bt im 9 = x9 at *
    generalize bt im 10 = x10 at *
    generalize bt im 11 = x11 at *
    by_cases hlt : x8 < X
    · obtain rfl : err = 52 := by simpa [hlt] using r
      have l1 : decide ((x8 : Int) < (X : Int)) = true := by simp; omega
      have l2 : decide (x8 < X) = true := by simp; omega
      have n1 : ((X : Int) != (x8 : Int)) = true := bne_iff_ne.2 (by omega)
      have n2 : (X != x8) = true := bne_iff_ne.2 (by omega)
      clear r hlt
      go_wp2_with fail
      go_region
      go_wp2_with fail
      go_region
      go_wp2_with fail
      go_region
      go_wp2_with fail
      go_fit (HAW.out _)
      rintro e w9 ⟨rfl, hb9⟩
      have HN := Lib.hid (show Below w.heap.size w w9 from by first | exact bel_next8 HB6.out.drew.drew.drew hb9 | exact bel_next8 HB6.out.drew.drew.drew.drew hb9 | exact bel_next8 HB6.out hb9)
      clear hb9
      go_wp2
      go_ret
      exact ⟨rfl, HN.out⟩
    · obtain rfl : err = 53 := by simpa [hlt] using r
      have l1 : decide ((x8 : Int) < (X : Int)) = false := by simp; omega
      have l2 : decide (x8 < X) = false := by simp; omega
      have n1 : ((X : Int) != (x8 : Int)) = true := bne_iff_ne.2 (by omega)
      have n2 : (X != x8) = true := bne_iff_ne.2 (by omega)
      clear r hlt
      go_wp2_with fail
      go_region
      go_wp2_with fail
      go_region
      go_wp2_with fail
      go_region
      go_wp2_with fail
      go_fit (HAW.out _)
      rintro e w9 ⟨rfl, hb9⟩
      have HN := Lib.hid (show Below w.heap.size w w9 from by first | exact bel_next8 HB6.out.drew.drew.drew hb9 | exact bel_next8 HB6.out.drew.drew.drew.drew hb9 | exact bel_next8 HB6.out hb9)
      clear hb9
      go_wp2
      go_ret
      exact ⟨rfl, HN.out⟩
  by_cases q9 : k = 9
  · subst q9
    have c8 := hcl 8 (by omega)
    rw [hsn 8 (by decide)] at c8
    have e8 := hcb 8 (by omega)
    have c9 := hcl 9 (by omega)
    rw [hse] at c9
    have e9 := hcb 9 (by omega)
    have c10 := hcl 10 (by omega)
    rw [hsn 10 (by decide)] at c10
    have e10 := hcb 10 (by omega)
    have c11 := hcl 11 (by omega)
    rw [hsn 11 (by decide)] at c11
    have e11 := hcb 11 (by omega)
    clear hcl hcb hsn hse
    generalize bt im 8 = x8 at *
    generalize bt im 9 = x9 at *
    generalize bt im 10 = x10 at *
    generalize bt im 11 = x11 at *
    by_cases hlt : x9 < X
    · obtain rfl : err = 52 := by simpa [hlt] using r
      have l1 : decide ((x9 : Int) < (X : Int)) = true := by simp; omega
      have l2 : decide (x9 < X) = true := by simp; omega
      have n1 : ((X : Int) != (x9 : Int)) = true := bne_iff_ne.2 (by omega)
      have n2 : (X != x9) = true := bne_iff_ne.2 (by omega)
      clear r hlt
      go_wp2_with fail
      go_region
      go_wp2_with fail
      go_region
      go_wp2_with fail
      go_region
      go_wp2_with fail
      go_region
      go_wp2_with fail
      go_fit (HAW.out _)
      rintro e w9 ⟨rfl, hb9⟩
      have HN := Lib.hid (show Below w.heap.size w w9 from by first | exact bel_next8 HB6.out.drew.drew.drew hb9 | exact bel_next8 HB6.out.drew.drew.drew.drew hb9 | exact bel_next8 HB6.out hb9)
      clear hb9
      go_wp2
      go_ret
      exact ⟨rfl, HN.out⟩
    · obtain rfl : err = 53 := by simpa [hlt] using r
      have l1 : decide ((x9 : Int) < (X : Int)) = false := by simp; omega
      have l2 : decide (x9 < X) = false := by simp; omega
      have n1 : ((X : Int) != (x9 : Int)) = true := bne_iff_ne.2 (by omega)
      have n2 : (X != x9) = true := bne_iff_ne.2 (by omega)
      clear r hlt
      go_wp2_with fail
      go_region
      go_wp2_with fail
      go_region
      go_wp2_with fail
      go_region
      go_wp2_with fail
      go_region
      go_wp2_with fail
      go_fit (HAW.out _)
      rintro e w9 ⟨rfl, hb9⟩
      have HN := Lib.hid (show Below w.heap.size w w9 from by first | exact bel_next8 HB6.out.drew.drew.drew hb9 | exact bel_next8 HB6.out.drew.drew.drew.drew hb9 | exact bel_next8 HB6.out hb9)
      clear hb9
      go_wp2
      go_ret
      exact ⟨rfl, HN.out⟩
  by_cases q10 : k = 10
  · subst q10
    have c8 := hcl 8 (by omega)
    rw [hsn 8 (by decide)] at c8
    have e8 := hcb 8 (by omega)
    have c9 := hcl 9 (by omega)
    rw [hsn 9 (by decide)] at c9
    have e9 := hcb 9 (by omega)
    have c10 := hcl 10 (by omega)
    rw [hse] at c10
    have e10 := hcb 10 (by omega)
    have c11 := hcl 11 (by omega)
    rw [hsn 11 (by decide)] at c11
    have e11 := hcb 11 (by omega)
    rw [hhi.1] at r hxne e10
    clear hcl hcb hsn hse
    generalize bt im 8 = x8 at *
    generalize bt im 9 = x9 at *
    generalize bt im 10 = x10 at *
    generalize bt im 11 = x11 at *
    obtain rfl : err = 52 := by simpa [show 0 < X by omega] using r
    have n1 : ((X : Int) != 0) = true := bne_iff_ne.2 (by omega)
    have n2 : (X != 0) = true := bne_iff_ne.2 (by omega)
    have n3 : ((X : Int) != ((0 : Nat) : Int)) = true := bne_iff_ne.2 (by omega)
    clear r
    go_wp2_with fail
    go_region
    go_wp2_with fail
    go_region
    go_wp2_with fail
    go_region
    go_wp2_with fail
    go_fit (HAW.out _)
    rintro e w9 ⟨rfl, hb9⟩
    have HN := Lib.hid (show Below w.heap.size w w9 from by first | exact bel_next8 HB6.out.drew.drew.drew hb9 | exact bel_next8 HB6.out.drew.drew.drew.drew hb9 | exact bel_next8 HB6.out hb9)
    clear hb9
    go_wp2
    go_ret
    exact ⟨rfl, HN.out⟩
  · obtain rfl : k = 11 := by omega
    have c8 := hcl 8 (by omega)
    rw [hsn 8 (by decide)] at c8
    have e8 := hcb 8 (by omega)
    have c9 := hcl 9 (by omega)
    rw [hsn 9 (by decide)] at c9
    have e9 := hcb 9 (by omega)
    have c10 := hcl 10 (by omega)
    rw [hsn 10 (by decide)] at c10
    have e10 := hcb 10 (by omega)
    have c11 := hcl 11 (by omega)
    rw [hse] at c11
    have e11 := hcb 11 (by omega)
    rw [hhi.2] at r hxne e11
    clear hcl hcb hsn hse
    generalize bt im 8 = x8 at *
    generalize bt im 9 = x9 at *
    generalize bt im 10 = x10 at *
    generalize bt im 11 = x11 at *
    obtain rfl : err = 52 := by simpa [show 0 < X by omega] using r
    have n1 : ((X : Int) != 0) = true := bne_iff_ne.2 (by omega)
    have n2 : (X != 0) = true := bne_iff_ne.2 (by omega)
    have n3 : ((X : Int) != ((0 : Nat) : Int)) = true := bne_iff_ne.2 (by omega)
    clear r
    go_wp2_with fail
    go_region
    go_wp2_with fail
    go_region
    go_wp2_with fail
    go_region
    go_wp2_with fail
    go_fit (HAW.out _)
    rintro e w9 ⟨rfl, hb9⟩
    have HN := Lib.hid (show Below w.heap.size w w9 from by first | exact bel_next8 HB6.out.drew.drew.drew hb9 | exact bel_next8 HB6.out.drew.drew.drew.drew hb9 | exact bel_next8 HB6.out hb9)
    clear hb9
    go_wp2
    go_ret
    exact ⟨rfl, HN.out⟩
end Go.Proofs.YtcenonnccodfoaaDoor


namespace Go.Proofs.YtcenonnccodfoaaDoor
open Go.RowKit

theorem le_take {l cur : List UInt8} {p B : Nat} (hl : cur.length = l.length) (hB : B < 4294967296) (h0 : B ≠ 0) (hp : p + 31 < 8 * (l.length - 16)) (hn : leNum (cur.drop 16) = leNum (l.drop 16) ^^^ 2 ^ p * B) : crcOf (cur.drop 16) ≠ crcOf (l.drop 16) := fun h =>
  crc_burst (l.drop 16) (cur.drop 16) p B (by rw [List.length_drop, List.length_drop, hl]) hn hB h0 (by rw [List.length_drop]; omega) h.symm
theorem drop_set16 (l : List UInt8) (q : Nat) (v : UInt8) (hq : 16 ≤ q) : (l.set q v).drop 16 = (l.drop 16).set (q - 16) v := by
  rw [List.drop_set, if_neg (by omega)]
theorem bt_drop16 (l : List UInt8) (q : Nat) (hq : 16 ≤ q) : bt (l.drop 16) (q - 16) = bt l q := by
  rw [bt_drop, show 16 + (q - 16) = q by omega]
set_option maxRecDepth 100000 in
set_option maxHeartbeats 1000000 in
theorem ldamaged_any (A : Option Addr) (len cap : Nat) (zs : List Int) (at_ : Int) (B : Nat) (hB : B < 4294967296) (cut : Int) (more : Nat) (hmore : more < 256) (w : World) (hr : IRow w w.heap.size A len cap zs) :
    Calls Tryd.prog 6 #[.slice A len cap, .int .i64 at_, .int .u32 (B : Int), .int .i64 cut, .int .u8 (more : Int)] w fun e w' => e = .returned (.bool true) ∧ Below w.heap.size w w' := by
  have HAW := Lib.hid awake_any
  have HMD := Lib.hid (modules_any A len cap zs w hr)
  have HAW0 := Lib.hid (awake_any w)
  clear hr
  by_cases h2 : 200 < len
  case pos =>
    have f0 : decide ((200 : Int) < (len : Int)) = true := by simp; omega
    have g0 : decide (200 < len) = true := by simp; omega
    clear HMD HAW
    go_enter Tryd.func6, Tryd.ntmps6
    go_wp2_with fail
    go_fit HAW0.out
    rintro e w5 ⟨rfl, hb5⟩
    have HN := Lib.hid hb5
    clear hb5
    go_wp2
    go_ret
    exact ⟨rfl, HN.out⟩
  have f0 : decide ((200 : Int) < (len : Int)) = false := by simp; omega
  have g0 : decide (200 < len) = false := by simp; omega
  clear HAW0
  go_enter Tryd.func6, Tryd.ntmps6
  go_wp2_with fail
  go_fit HMD.out
  rintro e w1 ⟨A1, c1, ss, ms, rfl, hm, ham, h5, hcap, hb1⟩
  have HB1 := Lib.hid hb1
  have hme := made_good ham h5
  have HE := Lib.hid hme
  have HBC := Lib.hid (pBuild_any ms ss A1 c1 w1 hm (by omega) hcap (good_name hme))
  have hil := (image_facts hme).1
  have hif := img_few ham h5
  have HPS := Lib.hid fun (b : List UInt8) xs e => parse_sum (xs := xs) (e := e) (b := b) hme
  have HPI := Lib.hid fun xs e (hp : IsParse8 (imageL ms) xs e) => (hp.same (parse_image hme)).2
  have HPT := Lib.hid fun k (hk : k < (imageL ms).length) xs e => parse_cut (xs := xs) (e := e) hme k hk
  have HPM := Lib.hid fun (c : UInt8) xs e => parse_more (xs := xs) (e := e) hme c
  have HIM := Lib.hid (imgM_ok hme)
  clear hm ham hb1 HMD hme
  go_wp2_with fail
  go_fit HBC.out
  rintro e w2 ⟨hb2, A2, c2, rfl, hby2, hc2⟩
  rw [HE.out]
  rw [HIM.out] at hby2 hc2 ⊢
  have HB2 := Lib.hid (bel_next8 HB1.out hb2)
  have HY2 := Lib.hid hby2
  generalize imageL ms = im at *
  clear hb2 HBC hby2 HE HIM
  generalize hnn : im.length = ni at *
  have f64 : decide ((ni : Int) < 64) = false := by simp; omega
  have g64 : decide (ni < 64) = false := by simp; omega
  obtain ⟨v3, w3, hrun3, hg3⟩ := Grow.start c2 HY2.out (by omega)
  obtain ⟨g, cp, z, rfl, hgb, hcap3, hrow⟩ := hg3.1.rowT (by omega)
  rw [hnn] at hrun3 hcap3
  have HR3 := Lib.hid hrun3
  have HRW := Lib.hid hrow
  have HB3 := Lib.hid hg3.2
  clear hrun3 hg3 hrow
  have hw1 : IntKind.i64.wrap ((ni : Int) - 16) = (ni : Int) - 16 := by rw [IntKind.wrap_i64]; omega
  have hw2 : IntKind.i64.wrap (8 * ((ni : Int) - 16)) = 8 * ((ni : Int) - 16) := by rw [IntKind.wrap_i64]; omega
  have hw3 : IntKind.i64.wrap (8 * ((ni : Int) - 16) - 31) = 8 * ((ni : Int) - 16) - 31 := by rw [IntKind.wrap_i64]; omega
  have hpb := placeI_bd at_ (8 * ((ni : Int) - 16) - 31) (by omega)
  have HPL := Lib.hid (place_eq at_ (8 * ((ni : Int) - 16) - 31) (by omega) (by omega) w3)
  generalize placeI at_ (8 * ((ni : Int) - 16) - 31) = kI at *
  obtain ⟨p, rfl⟩ : ∃ p : Nat, kI = p := ⟨kI.toNat, by omega⟩
  have hp : p + 31 < 8 * (ni - 16) := by omega
  clear hpb
  have hw4 : IntKind.i64.wrap ((128 : Int) + (p : Int)) = 128 + (p : Int) := by rw [IntKind.wrap_i64]; omega
  go_wp2_with (at_builtin; refine wpList_app_run HR3.out rfl rfl rfl rfl rfl ?_)
  go_fit HPL.out
  rintro e w4 ⟨rfl, rfl⟩
  clear HPL HR3
  go_wp2_with fail
  generalize hFg : (128 : Int) + (p : Int) = FI at *
  obtain ⟨F, rfl⟩ : ∃ F : Nat, FI = F := ⟨128 + p, by omega⟩
  have HF := Lib.hid (show F = 128 + p by omega)
  clear hFg hw1 hw2 hw3 hw4
  go_loopw [15] (fun i wr => ∃ (j : Nat) (cur : List UInt8), j ≤ 32 ∧ i = .int .i64 (j : Int) ∧ Hid (RowT wr g 5 (vals cur ++ z)) ∧ Hid (cur.length = ni) ∧ Hid (cur.take 16 = im.take 16) ∧ Hid (leNum (cur.drop 16) = leNum (im.drop 16) ^^^ 2 ^ p * (B % 2 ^ j)) ∧ Hid (B = 0 → cur = im) ∧ Hid (Below w2.heap.size w2 wr)) (fun i _ => 32 - (intOf i).toNat)
  case atStart => exact ⟨0, im, by omega, rfl, HRW, Lib.hid hnn, Lib.hid rfl, Lib.hid (by rw [Nat.pow_zero, Nat.mod_one, Nat.mul_zero, Nat.xor_zero]), Lib.hid (fun _ => rfl), HB3⟩
  case round =>
    obtain ⟨j, cur, hj, rfl, HRC, HCL, HTK, HNUM, HZ, HBW⟩ := hrel
    by_cases hj32 : j < 32
    · have hbit := bit_at B j hB
      by_cases hodd : B / 2 ^ j % 2 = 1
      · rw [hodd] at hbit
        have HB0 : Hid (B ≠ 0) := Lib.hid (fun h => by rw [h] at hodd; simp at hodd)
        have HNX := Lib.hid (flip_next p B j hodd)
        obtain ⟨q, hq⟩ : ∃ q, q = (F + j) / 8 := ⟨_, rfl⟩
        obtain ⟨r, hr⟩ : ∃ r, r = (F + j) % 8 := ⟨_, rfl⟩
        have hF := HF.out
        have hq1 : ((F : Int) + (j : Int)) / 8 = (q : Int) := by omega
        have hr1 : ((F : Int) + (j : Int)) % 8 = (r : Int) := by omega
        have hqn : q < ni := by omega
        have hq16 : 16 ≤ q := by omega
        have hr8 : r < 8 := by omega
        have HQR := Lib.hid (show p + j = 8 * (q - 16) + r by omega)
        clear hodd hq hr hF
        have hcell := cell_vals HRC.out (q := q) (by rw [HCL.out]; exact hqn)
        have hfr := HRC.out.frozen q
        have hbt := bt_lt cur q
        have HV := Lib.hid (flip_val (bt cur q) r hbt hr8)
        have HLT := Lib.hid (Nat.xor_lt_two_pow (n := 8) hbt (pow8 hr8))
        go_wp2
        go_roundw
        case rel =>
          refine ⟨j + 1, cur.set q (UInt8.ofNat (bt cur q ^^^ 2 ^ r)), by omega, by go_num, Lib.hid ?_, Lib.hid ?_, Lib.hid ?_, Lib.hid ?_, Lib.hid (fun h => absurd h HB0.out), Lib.hid (HBW.out.setCell hgb _)⟩
          · rw [HV.out, ← vals_set cur q _ (by rw [HCL.out]; exact hqn) HLT.out]
            exact HRC.out.set_ q _
          · rw [List.length_set]; exact HCL.out
          · rw [List.take_set_of_le (by omega)]; exact HTK.out
          · rw [drop_set16 _ _ _ hq16, ← bt_drop16 cur q hq16, leNum_flip (cur.drop 16) (q - 16) r (by rw [List.length_drop, HCL.out]; omega) hr8, HNUM.out, Nat.xor_assoc, ← HQR.out, HNX.out]
        case measure => simp [intOf]; omega
      · rw [show B / 2 ^ j % 2 = 0 by omega] at hbit
        have HSM := Lib.hid (flip_same B j (by omega))
        clear hodd
        go_wp2
        go_roundw
        case rel => exact ⟨j + 1, cur, by omega, by go_num, HRC, HCL, HTK, Lib.hid (by rw [HSM.out]; exact HNUM.out), HZ, HBW⟩
        case measure => simp [intOf]; omega
    · obtain rfl : j = 32 := by omega
      have hm : B % 2 ^ 32 = B := Nat.mod_eq_of_lt hB
      have hnum := HNUM.out
      rw [hm] at hnum
      have HSUM : Hid (∀ xs e, IsParse8 cur xs e → (B ≠ 0 → e = 55) ∧ (B = 0 → e = 0)) := Lib.hid fun xs e hip => ⟨fun h0 => (HPS.out cur xs e HCL.out HTK.out (le_take (by rw [HCL.out, hnn]) hB h0 (by rw [hnn]; exact hp) hnum) hip).1, fun h0 => HPI.out xs e (by rw [HZ.out h0] at hip; exact hip)⟩
      have HPC := Lib.hid (pParse_any (some ⟨g, 0, none⟩) ni cp cur wr (HRC.out.byt HRC.out.lt HCL.out) hcap3 (by omega))
      clear hm hnum HNUM HTK HZ HPS HPI HRW
      go_wp2_with fail
      go_fit HPC.out
      rintro e w6 ⟨hb6, A6, c6, s6, m6, err, rfl, hm6, hc6, hip⟩
      obtain ⟨he1, he2⟩ := HSUM.out _ _ hip
      have HB6 := Lib.hid (bel_next8 (bel_next8 HB2.out HBW.out) hb6)
      have HY6 := Lib.hid ((HY2.out.next8 HBW.out).next8 hb6)
      clear hb6 hm6 hc6 hip HPC HSUM HRC
      have hpb := placeI_bd cut ni (by omega)
      have HPL := Lib.hid (place_eq cut ni (by omega) (by omega) w6)
      generalize placeI cut ni = kI at *
      obtain ⟨k, rfl⟩ : ∃ k : Nat, kI = k := ⟨kI.toNat, by omega⟩
      have hk : k < ni := by omega
      clear hpb
      have hto : ∀ W : World, (Instr.slice 23 (.slice A2 ni c2) none (some (.int .i64 (k : Int))) none).run Tryd.prog W = .ok (.slice A2 k c2) W := fun W => by
        have h := cut_to A2 ni c2 k (by omega) W
        rw [run_sliceAt_slice _ _ _ _ _ _ byte_elem] at h
        exact h
      have hto2 : ∀ W : World, (Instr.sliceAt 23 (.slice A2 ni c2) none (some (.int .i64 (k : Int))) none).run Tryd.prog W = .ok (.slice A2 k c2) W := fun W => cut_to A2 ni c2 k (by omega) W
      have HPB := Lib.hid (pParse_any A2 k c2 (im.take k) w6 (HY6.out.to (by omega)) (by omega) (by omega))
      go_wp2_with fail
      go_fit HPL.out
      rintro e w7 ⟨rfl, rfl⟩
      go_wp2_with fail
      go_fit HPB.out
      rintro e w7 ⟨hb7, A7, c7, s7, m7, err7, rfl, hm7, hc7, hip⟩
      obtain rfl := (HPT.out k hk _ _ hip).1
      have HB7 := Lib.hid (bel_next8 HB6.out hb7)
      have HY7 := Lib.hid (HY6.out.next8 hb7)
      clear hb7 hm7 hc7 hip HPB hto hto2 HPL
      obtain ⟨v8, w8, hrun8, hg8⟩ := Grow.start c2 HY7.out (by omega)
      obtain ⟨v9, w9, hrun9, hg9⟩ := hg8.push (UInt8.ofNat more) (by omega)
      rw [ofNat_lt _ hmore] at hrun9
      obtain ⟨A9, c9, rfl, hc9, hy9⟩ := hg9.form
      have hl9 : (im ++ [UInt8.ofNat more]).length = ni + 1 := by simp [hnn]
      rw [hl9] at hrun9 hc9 hy9
      have HR8 := Lib.hid hrun8
      have HR9 := Lib.hid hrun9
      have HB9 := Lib.hid (bel_next8 HB7.out hg9.2)
      have HPD := Lib.hid (pParse_any A9 (ni + 1) c9 _ w9 hy9 hc9 (by omega))
      clear hrun8 hrun9 hg8 hg9 hy9 hl9
      go_wp2_with (at_builtin; (first | refine wpList_app_run HR8.out rfl rfl rfl rfl rfl ?_ | refine wpList_app_run HR9.out rfl rfl rfl rfl rfl ?_))
      go_fit HPD.out
      rintro e w10 ⟨hb10, A10, c10, s10, m10, err10, rfl, hm10, hc10, hip⟩
      obtain rfl := (HPM.out _ _ _ hip).1
      have HB10 := Lib.hid (bel_next8 HB9.out hb10)
      have HAW10 := Lib.hid (HAW.out w10)
      clear hb10 hm10 hc10 hip HPD HR8 HR9
      by_cases h0 : B = 0
      · obtain rfl := he2 h0
        have fB : ((B : Int) != 0) = false := by simp [h0]
        have gB : ((B : Int) == 0) = true := by simp [h0]
        clear h0 he1 he2
        go_wp2_with fail
        go_fit HAW10.out
        rintro e w11 ⟨rfl, hb11⟩
        have HN := Lib.hid (bel_next8 HB10.out hb11)
        clear hb11
        go_wp2
        go_ret
        exact ⟨rfl, HN.out⟩
      · obtain rfl := he1 h0
        have fB : ((B : Int) != 0) = true := bne_iff_ne.2 (by omega)
        have gB : ((B : Int) == 0) = false := beq_eq_false_iff_ne.2 (by omega)
        clear h0 he1 he2
        go_wp2_with fail
        go_fit HAW10.out
        rintro e w11 ⟨rfl, hb11⟩
        have HN := Lib.hid (bel_next8 HB10.out hb11)
        clear hb11
        go_wp2
        go_ret
        exact ⟨rfl, HN.out⟩
end Go.Proofs.YtcenonnccodfoaaDoor
