/-
  The contracts of the reference's Format, of the law's right and of append onto nil of a slice of tokens; what the rows' listed variables give.
  Conditions: as each says.
-/
import Derived.Test.YthpcfidcpaikgaaDoorFmt
import Derived.Test.YthpcfidcpaikgaaDoorAtM
namespace Go.Proofs.YthpcfidcpaikgaaDoor
open Go.RowKit Go.Shelf

theorem cat32 (a : List UInt8) : (⟨a.toArray⟩ ++ ⟨#[32]⟩ : ByteArray) = ⟨(a ++ [32]).toArray⟩ := by
  apply ByteArray.ext; simp [ByteArray.data_append]
theorem cat2 (a b : List UInt8) : (⟨a.toArray⟩ ++ ⟨b.toArray⟩ : ByteArray) = ⟨(a ++ b).toArray⟩ := by
  apply ByteArray.ext; simp [ByteArray.data_append]
set_option maxRecDepth 50000 in
set_option maxHeartbeats 2000000 in
theorem rformat_any (ts : List GTok) (A : Option Addr) (cap : Nat) (w : World) (hA : TRow w w.heap.size A ts) (hF : Few ts) :
    Calls Tryd.prog 14 #[.slice A ts.length cap] w fun e w' => e = .returned (.string ⟨(fmtL ts).toArray⟩) ∧ Below w.heap.size w w' := by
  have HA := Lib.hid hA
  have HX := Lib.hid hF.2
  have hn := hF.1
  clear hA hF
  go_enter Tryd.func14, Tryd.ntmps14
  go_wp2
  go_loopw [3, 4] (fun vs vi wr => ∃ k : Nat, vi = .int .i64 k ∧ k ≤ ts.length ∧ vs = .string ⟨(joinT (ts.take k)).toArray⟩ ∧ Hid (Below w.heap.size w wr) ∧ Hid ((ts.take k).all wf = true)) (fun _ vi _ => ts.length - (intOf vi).toNat)
  case atStart => exact ⟨0, rfl, Nat.zero_le _, rfl, Lib.hid (Below.refl _ _), Lib.hid rfl⟩
  case round =>
    obtain ⟨k, rfl, hk, rfl, HW, HAL⟩ := hrel
    rcases Nat.lt_or_ge k ts.length with hlt | hge
    · obtain ⟨b1, o1, rfl, hb1, x0, x1, x2, x3, x4⟩ := (HA.out.below (Nat.le_refl _) HW.out).cells5 hlt
      have hx := HX.out ts[k] (List.getElem_mem hlt)
      have HJ := Lib.hid (joinT_take hlt)
      have hjl : (joinT (ts.take k)).length ≤ 65536 * 65539 := by
        have h1 := join_len (ts.take k) (fun t ht => HX.out t (List.mem_of_mem_take ht))
        rw [List.length_take] at h1
        have h2 : min k ts.length * 65539 ≤ 65536 * 65539 := Nat.mul_le_mul_right _ (by omega)
        exact Nat.le_trans h1 h2
      have HAS := Lib.hid fun h => all_snoc hlt HAL.out h
      have HAF := Lib.hid fun h => all_fail hlt h
      generalize ts[k] = t at *
      obtain ⟨hx1, hx2, hx3⟩ := hx
      have htl := txt_len t hx1 hx2 hx3
      have HTX := Lib.hid fun W => text_any t W (by omega) hx2 hx3
      obtain ⟨kd, tx, v, ln, cl⟩ := t
      simp only at x0 x1 x2 x3 x4 hx1 hx2 hx3
      unfold GTok.val at HTX
      simp only at HTX
      cases hw : wf ⟨kd, tx, v, ln, cl⟩
      · have HFL := Lib.hid (HAF.out hw)
        have HWV := Lib.hid hw
        clear hw
        go_wp2_with fail
        refine (HTX.out _).mono ?_
        rintro e w2 ⟨xs, rfl, hxs, hb2⟩
        rw [HWV.out]
        go_wp2
        go_ret
        exact ⟨by rw [HFL.out]; rfl, bel_next HW.out hb2⟩
      · have HALL := Lib.hid (HAS.out hw)
        have HWV := Lib.hid hw
        clear hw
        go_wp2_with fail
        refine (HTX.out _).mono ?_
        rintro e w2 ⟨xs, rfl, hxs, hb2⟩
        rw [HWV.out]
        obtain rfl : xs = txt ⟨kd, tx, v, ln, cl⟩ := hxs HWV.out
        have HBW := Lib.hid (bel_next HW.out hb2)
        clear hb2 x0 x1 x2 x3 x4 hxs
        by_cases hk0 : k = 0
        · have HJ0 := HJ.out
          rw [if_pos hk0] at HJ0
          have HJL : Hid (joinT (ts.take k) = []) := Lib.hid (by rw [hk0]; rfl)
          have fk : decide ((0 : Int) < (k : Int)) = false := by simp; omega
          have fk2 : ¬ 0 < k := by omega
          have HJ := Lib.hid HJ0
          clear HJ0
          generalize txt ⟨kd, tx, v, ln, cl⟩ = tt at *
          have hc2 := cat2 (joinT (ts.take k)) tt
          clear hk0
          go_wp2
          go_roundw
          case rel => exact ⟨k + 1, by go_num, by omega, by rw [HJ.out, HJL.out]; rfl, HBW, HALL⟩
          case measure => simp [intOf]; omega
        · have HJ0 := HJ.out
          rw [if_neg hk0] at HJ0
          have fk : decide ((0 : Int) < (k : Int)) = true := by simp; omega
          have fk2 : 0 < k := by omega
          have HJ := Lib.hid HJ0
          clear HJ0
          generalize txt ⟨kd, tx, v, ln, cl⟩ = tt at *
          have hc1 := cat32 (joinT (ts.take k))
          have hc2 := cat2 (joinT (ts.take k) ++ [32]) tt
          go_wp2
          go_roundw
          case rel => exact ⟨k + 1, by go_num, by omega, by rw [HJ.out, show joinT (ts.take k) ++ 32 :: tt = joinT (ts.take k) ++ [32] ++ tt by simp], HBW, HALL⟩
          case measure => simp [intOf]; omega
    · have HFD := Lib.hid (fmt_done hge HAL.out)
      go_wp2
      go_ret
      exact ⟨by rw [HFD.out]; rfl, HW.out⟩
end Go.Proofs.YthpcfidcpaikgaaDoor
