/-
  The law CapDevice returns true.
  Conditions: none.
-/
import Derived.Test.YtpjakfbjiioflaaCah
namespace Go.Proofs.Ytpjakfbjiioflaa

open Go.RowKit

def devQ (a s : Int) : Int := if a = 0 then 6 + s else if a = 1 then 12 else if a = 2 then 12 else if a = 3 then 6 else if a = 4 then 10 else 16
theorem dev_err : ∀ p : Fin 16, ∀ a : Fin 6, ∀ s : Fin 13, retErr ⟨1, (p.val : Int) * 1048576, 20, 7, 0, 0, true⟩ (1 + (a.val : Int)) (devQ a.val s.val) 0 32 0 1 = if a.val ≤ 1 then 0 else 5 := by decide +kernel
theorem dev_ok {p a s : Int} (hp : 0 ≤ p ∧ p < 16) (ha : 0 ≤ a ∧ a < 6) (hs : 0 ≤ s ∧ s < 13) : (a ≤ 1 → retErr ⟨1, p * 1048576, 20, 7, 0, 0, true⟩ (1 + a) (devQ a s) 0 32 0 1 = 0 ∧ ∃ c : GC, c.device = true ∧ retL ⟨1, p * 1048576, 20, 7, 0, 0, true⟩ (1 + a) (devQ a s) 0 32 0 1 = [c]) ∧
    (¬ a ≤ 1 → retErr ⟨1, p * 1048576, 20, 7, 0, 0, true⟩ (1 + a) (devQ a s) 0 32 0 1 = 5 ∧ retL ⟨1, p * 1048576, 20, 7, 0, 0, true⟩ (1 + a) (devQ a s) 0 32 0 1 = []) := by
  have h := dev_err ⟨p.toNat, by omega⟩ ⟨a.toNat, by omega⟩ ⟨s.toNat, by omega⟩
  simp only at h
  rw [Int.toNat_of_nonneg hp.1, Int.toNat_of_nonneg ha.1, Int.toNat_of_nonneg hs.1] at h
  refine ⟨fun h1 => ?_, fun h1 => ?_⟩
  · rw [if_pos (by omega)] at h
    exact ⟨h, _, rfl, by unfold retL; rw [if_pos h]; rfl⟩
  · rw [if_neg (by omega)] at h
    exact ⟨h, by unfold retL; rw [if_neg (by rw [h]; decide)]⟩
set_option maxRecDepth 20000 in
set_option maxHeartbeats 2000000 in
theorem lcdev (ba ki si : Int) (w : World) : Calls Try.prog 9 #[.int .i64 ba, .int .i64 ki, .int .i64 si] w fun e w' => e = .returned (.bool true) ∧ Below w.heap.size w w' := by
  have HA := Lib.hid fun W => awake11 W
  have HP1 := Lib.hid fun W => mPlace_any ba 16 (by omega) (by omega) W
  have HP2 := Lib.hid fun W => mPlace_any ki 6 (by omega) (by omega) W
  have HP3 := Lib.hid fun W => mPlace_any si 13 (by omega) (by omega) W
  go_enter Try.func9, Try.ntmps9
  go_wp2_with fail
  go_fit (HP1.out _)
  rintro e w1 ⟨p, hp0, hp1, rfl, rfl⟩
  have hsh : wrap64 (p * 1048576) = p * 1048576 := IntWalk.wrap64_in _ (by omega)
  have HX := Lib.hid (CB.new w ⟨1, p * 1048576, 20, 7, 0, 0, true⟩)
  have HB := Lib.hid (belt (Below.refl _ w) (.cells #[.int .i64 1, .int .i64 (p * 1048576), .int .i64 20, .int .i64 7, .int .i64 0, .int .i64 0, .bool true] 23))
  simp only at HX
  clear HP1
  go_upto_region 2 with fail
  generalize hwz : w.alloc (.cells #[.int .i64 1, .int .i64 (p * 1048576), .int .i64 20, .int .i64 7, .int .i64 0, .int .i64 0, .bool true] 23) = wz at *
  have hN : w.heap.size < wz.heap.size := by rw [← hwz]; simp
  clear hwz hsh
  have hNl := Lib.hid hN
  clear hN
  go_wp2_with fail
  go_fit (HP2.out _)
  rintro e w1 ⟨a, ha0, ha1, rfl, rfl⟩
  clear HP2
  go_wp2_with fail
  go_fit (HP3.out _)
  rintro e w1 ⟨s, hs0, hs1, rfl, rfl⟩
  clear HP3
  have HDV := Lib.hid (dev_ok ⟨hp0, hp1⟩ ⟨ha0, ha1⟩ ⟨hs0, hs1⟩)
  have hcase : a = 0 ∨ a = 1 ∨ a = 2 ∨ a = 3 ∨ a = 4 ∨ a = 5 := by omega
  rcases hcase with rfl | rfl | rfl | rfl | rfl | rfl
  · obtain ⟨h0, c, hcd, hl⟩ := HDV.out.1 (by omega)
    have HR : Hid (∀ W, Calls Try.prog 23 #[GC.val ⟨1, p * 1048576, 20, 7, 0, 0, true⟩, .int .i64 1, .int .i64 (6 + s), .int .i64 0, .int .i64 32, .int .i64 0, .int .i64 1] W (RetEnd 0 [c] W)) := Lib.hid fun W => by
      have h := pRet_any ⟨1, p * 1048576, 20, 7, 0, 0, true⟩ (1 + 0) (devQ 0 s) 0 32 0 1 W
      rw [h0, hl] at h
      exact h
    simp only [GC.val] at HR
    have HB2 := Lib.hid (belt HB.out (.cells #[.int .i64 (6 + s), .int .i64 12, .int .i64 12, .int .i64 6, .int .i64 10, .int .i64 16] 3))
    have HX2 := Lib.hid (HX.out.next (belt (Below.refl _ wz) (.cells #[.int .i64 (6 + s), .int .i64 12, .int .i64 12, .int .i64 6, .int .i64 10, .int .i64 16] 3)))
    clear HDV h0 hl HB HX
    go_upto_region 4 with fail
    generalize wz.alloc (.cells #[.int .i64 (6 + s), .int .i64 12, .int .i64 12, .int .i64 6, .int .i64 10, .int .i64 16] 3) = wy at *
    obtain ⟨y0, y1, y2, y3, y4, y5, y6⟩ := HX2.out.cells
    simp only at y0 y1 y2 y3 y4 y5 y6
    go_wp2_with fail
    go_fit (HR.out _)
    rintro e wb ⟨v, rfl, ho, hb⟩
    obtain ⟨A, cc, rfl, _, _, hr⟩ := ho.row GC.len
    have HBB := Lib.hid (beln HB2.out hb)
    obtain ⟨b1, o1, rfl, hlt1, x0, x1, x2, x3, x4, x5, x6⟩ := hr.cap (k := 0) (by simp)
    simp only [List.getElem_cons_zero, Nat.zero_mul, Nat.add_zero] at x6
    rw [hcd] at x6
    clear ho hb hr x0 x1 x2 x3 x4 x5 y0 y1 y2 y3 y4 y5 y6 HR HB2 HX2
    go_wp2_with fail
    go_fit (HA.out _)
    rintro e wc ⟨rfl, hbc⟩
    have HBC := Lib.hid (beln HBB.out hbc)
    clear hbc
    go_wp2
    go_ret
    exact ⟨rfl, HBC.out⟩
  · obtain ⟨h0, c, hcd, hl⟩ := HDV.out.1 (by omega)
    have HR : Hid (∀ W, Calls Try.prog 23 #[GC.val ⟨1, p * 1048576, 20, 7, 0, 0, true⟩, .int .i64 2, .int .i64 (12), .int .i64 0, .int .i64 32, .int .i64 0, .int .i64 1] W (RetEnd 0 [c] W)) := Lib.hid fun W => by
      have h := pRet_any ⟨1, p * 1048576, 20, 7, 0, 0, true⟩ (1 + 1) (devQ 1 s) 0 32 0 1 W
      rw [h0, hl] at h
      exact h
    simp only [GC.val] at HR
    have HB2 := Lib.hid (belt HB.out (.cells #[.int .i64 (6 + s), .int .i64 12, .int .i64 12, .int .i64 6, .int .i64 10, .int .i64 16] 3))
    have HX2 := Lib.hid (HX.out.next (belt (Below.refl _ wz) (.cells #[.int .i64 (6 + s), .int .i64 12, .int .i64 12, .int .i64 6, .int .i64 10, .int .i64 16] 3)))
    clear HDV h0 hl HB HX
    go_upto_region 4 with fail
    generalize wz.alloc (.cells #[.int .i64 (6 + s), .int .i64 12, .int .i64 12, .int .i64 6, .int .i64 10, .int .i64 16] 3) = wy at *
    obtain ⟨y0, y1, y2, y3, y4, y5, y6⟩ := HX2.out.cells
    simp only at y0 y1 y2 y3 y4 y5 y6
    go_wp2_with fail
    go_fit (HR.out _)
    rintro e wb ⟨v, rfl, ho, hb⟩
    obtain ⟨A, cc, rfl, _, _, hr⟩ := ho.row GC.len
    have HBB := Lib.hid (beln HB2.out hb)
    obtain ⟨b1, o1, rfl, hlt1, x0, x1, x2, x3, x4, x5, x6⟩ := hr.cap (k := 0) (by simp)
    simp only [List.getElem_cons_zero, Nat.zero_mul, Nat.add_zero] at x6
    rw [hcd] at x6
    clear ho hb hr x0 x1 x2 x3 x4 x5 y0 y1 y2 y3 y4 y5 y6 HR HB2 HX2
    go_wp2_with fail
    go_fit (HA.out _)
    rintro e wc ⟨rfl, hbc⟩
    have HBC := Lib.hid (beln HBB.out hbc)
    clear hbc
    go_wp2
    go_ret
    exact ⟨rfl, HBC.out⟩
  · obtain ⟨h0, hl⟩ := HDV.out.2 (by omega)
    have HR : Hid (∀ W, Calls Try.prog 23 #[GC.val ⟨1, p * 1048576, 20, 7, 0, 0, true⟩, .int .i64 3, .int .i64 (12), .int .i64 0, .int .i64 32, .int .i64 0, .int .i64 1] W (RetEnd 5 [] W)) := Lib.hid fun W => by
      have h := pRet_any ⟨1, p * 1048576, 20, 7, 0, 0, true⟩ (1 + 2) (devQ 2 s) 0 32 0 1 W
      rw [h0, hl] at h
      exact h
    simp only [GC.val] at HR
    have HB2 := Lib.hid (belt HB.out (.cells #[.int .i64 (6 + s), .int .i64 12, .int .i64 12, .int .i64 6, .int .i64 10, .int .i64 16] 3))
    have HX2 := Lib.hid (HX.out.next (belt (Below.refl _ wz) (.cells #[.int .i64 (6 + s), .int .i64 12, .int .i64 12, .int .i64 6, .int .i64 10, .int .i64 16] 3)))
    clear HDV h0 hl HB HX
    go_upto_region 4 with fail
    generalize wz.alloc (.cells #[.int .i64 (6 + s), .int .i64 12, .int .i64 12, .int .i64 6, .int .i64 10, .int .i64 16] 3) = wy at *
    obtain ⟨y0, y1, y2, y3, y4, y5, y6⟩ := HX2.out.cells
    simp only at y0 y1 y2 y3 y4 y5 y6
    go_wp2_with fail
    go_fit (HR.out _)
    rintro e wb ⟨v, rfl, ho, hb⟩
    obtain ⟨A, cc, rfl, _, _, hr⟩ := ho.row GC.len
    have HBB := Lib.hid (beln HB2.out hb)
    clear ho hb hr y0 y1 y2 y3 y4 y5 y6 HR HB2 HX2
    go_wp2_with fail
    go_fit (HA.out _)
    rintro e wc ⟨rfl, hbc⟩
    have HBC := Lib.hid (beln HBB.out hbc)
    clear hbc
    go_wp2
    go_ret
    exact ⟨rfl, HBC.out⟩
  · obtain ⟨h0, hl⟩ := HDV.out.2 (by omega)
    have HR : Hid (∀ W, Calls Try.prog 23 #[GC.val ⟨1, p * 1048576, 20, 7, 0, 0, true⟩, .int .i64 4, .int .i64 (6), .int .i64 0, .int .i64 32, .int .i64 0, .int .i64 1] W (RetEnd 5 [] W)) := Lib.hid fun W => by
      have h := pRet_any ⟨1, p * 1048576, 20, 7, 0, 0, true⟩ (1 + 3) (devQ 3 s) 0 32 0 1 W
      rw [h0, hl] at h
      exact h
    simp only [GC.val] at HR
    have HB2 := Lib.hid (belt HB.out (.cells #[.int .i64 (6 + s), .int .i64 12, .int .i64 12, .int .i64 6, .int .i64 10, .int .i64 16] 3))
    have HX2 := Lib.hid (HX.out.next (belt (Below.refl _ wz) (.cells #[.int .i64 (6 + s), .int .i64 12, .int .i64 12, .int .i64 6, .int .i64 10, .int .i64 16] 3)))
    clear HDV h0 hl HB HX
    go_upto_region 4 with fail
    generalize wz.alloc (.cells #[.int .i64 (6 + s), .int .i64 12, .int .i64 12, .int .i64 6, .int .i64 10, .int .i64 16] 3) = wy at *
    obtain ⟨y0, y1, y2, y3, y4, y5, y6⟩ := HX2.out.cells
    simp only at y0 y1 y2 y3 y4 y5 y6
    go_wp2_with fail
    go_fit (HR.out _)
    rintro e wb ⟨v, rfl, ho, hb⟩
    obtain ⟨A, cc, rfl, _, _, hr⟩ := ho.row GC.len
    have HBB := Lib.hid (beln HB2.out hb)
    clear ho hb hr y0 y1 y2 y3 y4 y5 y6 HR HB2 HX2
    go_wp2_with fail
    go_fit (HA.out _)
    rintro e wc ⟨rfl, hbc⟩
    have HBC := Lib.hid (beln HBB.out hbc)
    clear hbc
    go_wp2
    go_ret
    exact ⟨rfl, HBC.out⟩
  · obtain ⟨h0, hl⟩ := HDV.out.2 (by omega)
    have HR : Hid (∀ W, Calls Try.prog 23 #[GC.val ⟨1, p * 1048576, 20, 7, 0, 0, true⟩, .int .i64 5, .int .i64 (10), .int .i64 0, .int .i64 32, .int .i64 0, .int .i64 1] W (RetEnd 5 [] W)) := Lib.hid fun W => by
      have h := pRet_any ⟨1, p * 1048576, 20, 7, 0, 0, true⟩ (1 + 4) (devQ 4 s) 0 32 0 1 W
      rw [h0, hl] at h
      exact h
    simp only [GC.val] at HR
    have HB2 := Lib.hid (belt HB.out (.cells #[.int .i64 (6 + s), .int .i64 12, .int .i64 12, .int .i64 6, .int .i64 10, .int .i64 16] 3))
    have HX2 := Lib.hid (HX.out.next (belt (Below.refl _ wz) (.cells #[.int .i64 (6 + s), .int .i64 12, .int .i64 12, .int .i64 6, .int .i64 10, .int .i64 16] 3)))
    clear HDV h0 hl HB HX
    go_upto_region 4 with fail
    generalize wz.alloc (.cells #[.int .i64 (6 + s), .int .i64 12, .int .i64 12, .int .i64 6, .int .i64 10, .int .i64 16] 3) = wy at *
    obtain ⟨y0, y1, y2, y3, y4, y5, y6⟩ := HX2.out.cells
    simp only at y0 y1 y2 y3 y4 y5 y6
    go_wp2_with fail
    go_fit (HR.out _)
    rintro e wb ⟨v, rfl, ho, hb⟩
    obtain ⟨A, cc, rfl, _, _, hr⟩ := ho.row GC.len
    have HBB := Lib.hid (beln HB2.out hb)
    clear ho hb hr y0 y1 y2 y3 y4 y5 y6 HR HB2 HX2
    go_wp2_with fail
    go_fit (HA.out _)
    rintro e wc ⟨rfl, hbc⟩
    have HBC := Lib.hid (beln HBB.out hbc)
    clear hbc
    go_wp2
    go_ret
    exact ⟨rfl, HBC.out⟩
  · obtain ⟨h0, hl⟩ := HDV.out.2 (by omega)
    have HR : Hid (∀ W, Calls Try.prog 23 #[GC.val ⟨1, p * 1048576, 20, 7, 0, 0, true⟩, .int .i64 6, .int .i64 (16), .int .i64 0, .int .i64 32, .int .i64 0, .int .i64 1] W (RetEnd 5 [] W)) := Lib.hid fun W => by
      have h := pRet_any ⟨1, p * 1048576, 20, 7, 0, 0, true⟩ (1 + 5) (devQ 5 s) 0 32 0 1 W
      rw [h0, hl] at h
      exact h
    simp only [GC.val] at HR
    have HB2 := Lib.hid (belt HB.out (.cells #[.int .i64 (6 + s), .int .i64 12, .int .i64 12, .int .i64 6, .int .i64 10, .int .i64 16] 3))
    have HX2 := Lib.hid (HX.out.next (belt (Below.refl _ wz) (.cells #[.int .i64 (6 + s), .int .i64 12, .int .i64 12, .int .i64 6, .int .i64 10, .int .i64 16] 3)))
    clear HDV h0 hl HB HX
    go_upto_region 4 with fail
    generalize wz.alloc (.cells #[.int .i64 (6 + s), .int .i64 12, .int .i64 12, .int .i64 6, .int .i64 10, .int .i64 16] 3) = wy at *
    obtain ⟨y0, y1, y2, y3, y4, y5, y6⟩ := HX2.out.cells
    simp only at y0 y1 y2 y3 y4 y5 y6
    go_wp2_with fail
    go_fit (HR.out _)
    rintro e wb ⟨v, rfl, ho, hb⟩
    obtain ⟨A, cc, rfl, _, _, hr⟩ := ho.row GC.len
    have HBB := Lib.hid (beln HB2.out hb)
    clear ho hb hr y0 y1 y2 y3 y4 y5 y6 HR HB2 HX2
    go_wp2_with fail
    go_fit (HA.out _)
    rintro e wc ⟨rfl, hbc⟩
    have HBC := Lib.hid (beln HBB.out hbc)
    clear hbc
    go_wp2
    go_ret
    exact ⟨rfl, HBC.out⟩
end Go.Proofs.Ytpjakfbjiioflaa
