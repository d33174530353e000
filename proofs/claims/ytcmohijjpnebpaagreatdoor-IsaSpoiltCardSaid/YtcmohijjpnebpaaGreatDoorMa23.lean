/-
  The law IsaSpoilt returns true, whatever the numbers.
  Conditions: the listed variables lie as the program's start lays them.
  A slice of ints that comes in as an argument, as the library opens it, reads as a list.
  Conditions: none beyond the frame's.
-/
import Derived.Test.YtcmohijjpnebpaaGreatDoorMa22
import Derived.Test.YtcmohijjpnebpaaGreatDoorMa21
import Derived.OpenShut
import Derived.ChangeSlices
namespace Go.Proofs.YtcmohijjpnebpaaGreatDoor

open Go.RowKit

theorem wraps9 (v n : Nat) (h : v < 1000) (hn : n ≤ 12) : wrap64 (28 + (v : Int)) = 28 + (v : Int) ∧ wrap64 (-1 - (v : Int)) = -1 - (v : Int) ∧ wrap64 (16 + (v : Int)) = 16 + (v : Int) ∧ wrap64 (1 + (v : Int)) = 1 + (v : Int) ∧ wrap64 ((n : Int) + (v : Int)) = (n : Int) + (v : Int) ∧ IntKind.i32.wrap ((n : Int) + (v : Int)) = (n : Int) + (v : Int) :=
  ⟨IntWalk.wrap64_in _ (by omega), IntWalk.wrap64_in _ (by omega), IntWalk.wrap64_in _ (by omega), IntWalk.wrap64_in _ (by omega), IntWalk.wrap64_in _ (by omega), IntWalk.i32_in _ (by omega)⟩
theorem five {x : Int} (h0 : 0 ≤ x) (h1 : x < 5) : x = 0 ∨ x = 1 ∨ x = 2 ∨ x = 3 ∨ x = 4 := by omega
set_option maxRecDepth 50000 in
set_option maxHeartbeats 4000000 in
theorem spoilt_any (A : Option Addr) (len cap : Nat) (zs : List Int) (which how by_ : Int) (w : World) (hG : GlobI w) (hr : IRow w w.heap.size A len cap zs) :
    Calls Tryz.prog 7 #[.slice A len cap, .int .i64 which, .int .i64 how, .int .i64 by_] w fun e w' => e = .returned (.bool true) ∧ Below w.heap.size w w' := by
  have HG := Lib.hid hG
  have HAW := Lib.hid fun W hW => awake9 W hW
  by_cases hl : 200 < len
  · have f0 : decide ((200 : Int) < len) = true := by simp; omega
    have HA0 := Lib.hid (HAW.out w hG)
    clear hG hr
    go_enter Tryz.func7, Tryz.ntmps7
    go_wp2_with fail
    go_fit HA0.out
    rintro e w1 ⟨rfl, hb1⟩
    have HB1 := Lib.hid hb1
    clear hb1
    go_wp2
    go_ret
    exact ⟨rfl, HB1.out⟩
  · have f0 : decide ((200 : Int) < len) = false := by simp; omega
    have f0' : ¬ (200 : Int) < len := by omega
    have HPK := Lib.hid (program_kit A len cap zs w hr)
    clear hG hr hl
    go_enter Tryz.func7, Tryz.ntmps7
    go_wp2_with fail
    go_fit HPK.out
    rintro e w1 ⟨v, xs, rfl, hown, hn1, hn2, hall, hb1⟩
    have HB1 := Lib.hid hb1
    have HALL := Lib.hid hall
    obtain ⟨A1, c1, hv, hcap1, _, hrow⟩ := hown.row GIns.len
    subst hv
    have HROW := Lib.hid hrow
    obtain ⟨g, c9, ev9⟩ : ∃ g c9, Value.slice A1 xs.length c1 = .slice (some ⟨g, 0, none⟩) xs.length c9 := by
      rcases hown.2 with ⟨_, h0⟩ | ⟨g, cap, cur, e, _⟩
      · omega
      · exact ⟨g, cap, e⟩
    injection ev9 with ea _ ec
    subst ea ec
    have hgw : w.heap.size ≤ g := (hown.lt g rfl).1
    have hgl : g < w1.heap.size := (hown.lt g rfl).2
    have hfz : ∀ j, w1.frozen? ⟨g, j, none⟩ = false := by
      rcases hown.2 with ⟨hq, _⟩ | ⟨g', cap', cur, e, _, hh, _⟩
      · cases hq
      · cases e; exact fun j => Lib.frozen_of_heap hh j
    have HP1 := Lib.hid fun W => place_eq which (xs.length : Int) (by omega) (by omega) W
    have HP2 := Lib.hid fun W => place_eq by_ 1000 (by omega) (by omega) W
    have HP3 := Lib.hid fun W => place_eq how 5 (by omega) (by omega) W
    have hk1 := placeI_bd which (xs.length : Int) (by omega)
    have hk2 := placeI_bd by_ 1000 (by omega)
    have hk3 := placeI_bd how 5 (by omega)
    generalize placeI which (xs.length : Int) = ki at *
    generalize placeI by_ 1000 = vi at *
    generalize placeI how 5 = hi at *
    obtain ⟨k, rfl⟩ : ∃ k : Nat, ki = k := ⟨ki.toNat, by omega⟩
    obtain ⟨v, rfl⟩ : ∃ v : Nat, vi = v := ⟨vi.toNat, by omega⟩
    have hkl : k < xs.length := by omega
    have hv9 : v < 1000 := by omega
    obtain ⟨b0, o0, e0, hb0, x0, x1, x2, x3, x4⟩ := hrow.ins hkl
    cases e0
    simp only [Nat.zero_add] at x0 x1 x2 x3 x4
    have z0 := hfz (k * 5)
    have z1 := hfz (k * 5 + 1)
    have z2 := hfz (k * 5 + 2)
    have z3 := hfz (k * 5 + 3)
    have z4 := hfz (k * 5 + 4)
    have HOK := Lib.hid (show ∃ q, q < 28 ∧ InsOk q xs.length xs[k] from hall _ (List.getElem_mem hkl))
    have HXK0 : Hid (xs[k] = xs[k]) := Lib.hid rfl
    have HOI0 := Lib.hid (HALL.out.imm _ (List.getElem_mem hkl))
    obtain ⟨⟨xo, xa, xb, xc, xi⟩, hxk⟩ : ∃ x, xs[k] = x := ⟨_, rfl⟩
    have HXK := Lib.hid hxk
    rw [hxk] at x0 x1 x2 x3 x4 HOK HOI0
    have HOI : Hid (ImmOk ⟨xo, xa, xb, xc, xi⟩) := HOI0
    clear HXK0 HOI0
    simp only at x0 x1 x2 x3 x4
    clear hown hrow hb1 hfz hall hxk HPK
    have hki : (k : Int) < xs.length := by omega
    have HW9 := Lib.hid (wraps9 v xs.length hv9 hn2)
    obtain ⟨hk31, hk32⟩ := hk3
    rcases five hk31 hk32 with rfl | rfl | rfl | rfl | rfl
    · have HVP : Hid (valP (xs.set k ⟨28 + (v : Int), xa, xb, xc, xi⟩) = 70) := Lib.hid (valP_set (by decide) HALL.out hn2 hkl (chk_op (.inr (by show (28 : Int) ≤ 28 + (v : Int); omega))))
      have HIM : Hid (∀ y ∈ xs.set k ⟨28 + (v : Int), xa, xb, xc, xi⟩, ImmOk y) := Lib.hid (imm_set HALL.out.imm HOI.out)
      have hr0 := HROW.out
      have hr1 : GRow GIns.cells 5 (w1.setCell ⟨g, k * 5, none⟩ (.int .i64 (28 + (v : Int)))) w1.heap.size (some ⟨g, 0, none⟩) ((xs.set k ⟨(28 + (v : Int)), xa, xb, xc, xi⟩)) := hr0.set1 (k := k) (j0 := 0) (by exact hkl) (by decide) (.int .i64 (28 + (v : Int))) ⟨(28 + (v : Int)), xa, xb, xc, xi⟩ (by simp [GIns.cells, HXK.out])
      try simp only [List.set_set] at hr1
      have HR9 : Hid (GRow GIns.cells 5 (w1.setCell ⟨g, k * 5, none⟩ (.int .i64 (28 + (v : Int)))) (w1.setCell ⟨g, k * 5, none⟩ (.int .i64 (28 + (v : Int)))).heap.size (some ⟨g, 0, none⟩) (xs.set k ⟨28 + (v : Int), xa, xb, xc, xi⟩)) := Lib.hid (hr1.wide (by simp))
      clear hr0 hr1
      have HBW : Hid (Below w.heap.size w (w1.setCell ⟨g, k * 5, none⟩ (.int .i64 (28 + (v : Int))))) := Lib.hid ((HB1.out).setCell (p := ⟨g, k * 5, none⟩) hgw _)
      have HLS : Hid ((xs.set k ⟨28 + (v : Int), xa, xb, xc, xi⟩).length = xs.length) := Lib.hid (List.length_set ..)
      have HENC : Hid (Calls Tryz.prog 11 #[.slice (some ⟨g, 0, none⟩) xs.length c1] (w1.setCell ⟨g, k * 5, none⟩ (.int .i64 (28 + (v : Int)))) fun e w' => Below ((w1.setCell ⟨g, k * 5, none⟩ (.int .i64 (28 + (v : Int))))).heap.size (w1.setCell ⟨g, k * 5, none⟩ (.int .i64 (28 + (v : Int)))) w' ∧ e = .returned (.tuple #[.slice none 0 0, .int .i64 70])) := Lib.hid (by
        have h := encode_any (xs.set k ⟨28 + (v : Int), xa, xb, xc, xi⟩) (some ⟨g, 0, none⟩) c1 (w1.setCell ⟨g, k * 5, none⟩ (.int .i64 (28 + (v : Int)))) (HG.out.next HBW.out).2 HR9.out HIM.out
        rw [HLS.out] at h
        refine h.mono ?_
        rintro e w' ⟨h1, h2⟩
        rw [HVP.out, if_neg (by decide)] at h2
        exact ⟨h1, h2⟩)
      have HVAL : Hid (∀ W', Below ((w1.setCell ⟨g, k * 5, none⟩ (.int .i64 (28 + (v : Int))))).heap.size (w1.setCell ⟨g, k * 5, none⟩ (.int .i64 (28 + (v : Int)))) W' → Calls Tryz.prog 16 #[.slice (some ⟨g, 0, none⟩) xs.length c1] W' fun e w' => e = .returned (.int .i64 70) ∧ Below W'.heap.size W' w') := Lib.hid fun W' hW => by
        have h := validate_any (xs.set k ⟨28 + (v : Int), xa, xb, xc, xi⟩) (some ⟨g, 0, none⟩) c1 W' ((HG.out.next HBW.out).next hW).2 (HR9.out.next hW) HIM.out
        rw [HLS.out, HVP.out] at h
        exact h
      have HDIS : Hid (∀ W', Below ((w1.setCell ⟨g, k * 5, none⟩ (.int .i64 (28 + (v : Int))))).heap.size (w1.setCell ⟨g, k * 5, none⟩ (.int .i64 (28 + (v : Int)))) W' → Calls Tryz.prog 18 #[.slice (some ⟨g, 0, none⟩) xs.length c1] W' fun e w' => e = .returned (.string ⟨#[]⟩) ∧ Below W'.heap.size W' w') := Lib.hid fun W' hW => by
        have h := dis_bad (xs.set k ⟨28 + (v : Int), xa, xb, xc, xi⟩) (some ⟨g, 0, none⟩) c1 W' ((HG.out.next HBW.out).next hW).2 (HR9.out.next hW) HIM.out (by rw [HVP.out]; decide)
        rw [HLS.out] at h
        exact h
      have HGW := Lib.hid (HG.out.next HBW.out)
      clear HR9 HVP HIM HLS HALL HROW HB1
      clear hk1 hk2 hk31 hk32
      have hw1 := HW9.out.1
      clear HOK HXK HOI HW9
      go_wp2_with fail
      go_fit (HP1.out _)
      rintro e w2 ⟨rfl, rfl⟩
      go_wp2_with fail
      go_fit (HP2.out _)
      rintro e w2 ⟨rfl, rfl⟩
      go_wp2_with fail
      go_fit (HP3.out _)
      rintro e w2 ⟨rfl, rfl⟩
      clear HP1 HP2 HP3
      go_wp2_with fail
      go_fit HENC.out
      rintro e w3 ⟨hb3, rfl⟩
      have HB3 := Lib.hid hb3
      have HV3 := Lib.hid (HVAL.out w3 hb3)
      clear hb3 x0 x1 x2 x3 x4 z0 z1 z2 z3 z4
      go_wp2_with fail
      go_fit HV3.out
      rintro e w4 ⟨rfl, hb4⟩
      have HB4 := Lib.hid (bel_next HB3.out hb4)
      have HD4 := Lib.hid (HDIS.out w4 HB4.out)
      clear hb4
      go_wp2_with fail
      go_fit HD4.out
      rintro e w5 ⟨rfl, hb5⟩
      have HB5 := Lib.hid (bel_next HB4.out hb5)
      have HA5 := Lib.hid (HAW.out w5 (HGW.out.next HB5.out))
      clear hb5
      go_wp2_with fail
      go_fit HA5.out
      rintro e w6 ⟨rfl, hb6⟩
      have HB6 := Lib.hid (bel_next HBW.out (bel_next HB5.out hb6))
      clear hb6
      go_wp2
      go_ret
      exact ⟨rfl, HB6.out⟩
    · have HVP : Hid (valP (xs.set k ⟨-1 - (v : Int), xa, xb, xc, xi⟩) = 70) := Lib.hid (valP_set (by decide) HALL.out hn2 hkl (chk_op (.inl (by show -1 - (v : Int) < 0; omega))))
      have HIM : Hid (∀ y ∈ xs.set k ⟨-1 - (v : Int), xa, xb, xc, xi⟩, ImmOk y) := Lib.hid (imm_set HALL.out.imm HOI.out)
      have hr0 := HROW.out
      have hr1 : GRow GIns.cells 5 (w1.setCell ⟨g, k * 5, none⟩ (.int .i64 (-1 - (v : Int)))) w1.heap.size (some ⟨g, 0, none⟩) ((xs.set k ⟨(-1 - (v : Int)), xa, xb, xc, xi⟩)) := hr0.set1 (k := k) (j0 := 0) (by exact hkl) (by decide) (.int .i64 (-1 - (v : Int))) ⟨(-1 - (v : Int)), xa, xb, xc, xi⟩ (by simp [GIns.cells, HXK.out])
      try simp only [List.set_set] at hr1
      have HR9 : Hid (GRow GIns.cells 5 (w1.setCell ⟨g, k * 5, none⟩ (.int .i64 (-1 - (v : Int)))) (w1.setCell ⟨g, k * 5, none⟩ (.int .i64 (-1 - (v : Int)))).heap.size (some ⟨g, 0, none⟩) (xs.set k ⟨-1 - (v : Int), xa, xb, xc, xi⟩)) := Lib.hid (hr1.wide (by simp))
      clear hr0 hr1
      have HBW : Hid (Below w.heap.size w (w1.setCell ⟨g, k * 5, none⟩ (.int .i64 (-1 - (v : Int))))) := Lib.hid ((HB1.out).setCell (p := ⟨g, k * 5, none⟩) hgw _)
      have HLS : Hid ((xs.set k ⟨-1 - (v : Int), xa, xb, xc, xi⟩).length = xs.length) := Lib.hid (List.length_set ..)
      have HENC : Hid (Calls Tryz.prog 11 #[.slice (some ⟨g, 0, none⟩) xs.length c1] (w1.setCell ⟨g, k * 5, none⟩ (.int .i64 (-1 - (v : Int)))) fun e w' => Below ((w1.setCell ⟨g, k * 5, none⟩ (.int .i64 (-1 - (v : Int))))).heap.size (w1.setCell ⟨g, k * 5, none⟩ (.int .i64 (-1 - (v : Int)))) w' ∧ e = .returned (.tuple #[.slice none 0 0, .int .i64 70])) := Lib.hid (by
        have h := encode_any (xs.set k ⟨-1 - (v : Int), xa, xb, xc, xi⟩) (some ⟨g, 0, none⟩) c1 (w1.setCell ⟨g, k * 5, none⟩ (.int .i64 (-1 - (v : Int)))) (HG.out.next HBW.out).2 HR9.out HIM.out
        rw [HLS.out] at h
        refine h.mono ?_
        rintro e w' ⟨h1, h2⟩
        rw [HVP.out, if_neg (by decide)] at h2
        exact ⟨h1, h2⟩)
      have HVAL : Hid (∀ W', Below ((w1.setCell ⟨g, k * 5, none⟩ (.int .i64 (-1 - (v : Int))))).heap.size (w1.setCell ⟨g, k * 5, none⟩ (.int .i64 (-1 - (v : Int)))) W' → Calls Tryz.prog 16 #[.slice (some ⟨g, 0, none⟩) xs.length c1] W' fun e w' => e = .returned (.int .i64 70) ∧ Below W'.heap.size W' w') := Lib.hid fun W' hW => by
        have h := validate_any (xs.set k ⟨-1 - (v : Int), xa, xb, xc, xi⟩) (some ⟨g, 0, none⟩) c1 W' ((HG.out.next HBW.out).next hW).2 (HR9.out.next hW) HIM.out
        rw [HLS.out, HVP.out] at h
        exact h
      have HDIS : Hid (∀ W', Below ((w1.setCell ⟨g, k * 5, none⟩ (.int .i64 (-1 - (v : Int))))).heap.size (w1.setCell ⟨g, k * 5, none⟩ (.int .i64 (-1 - (v : Int)))) W' → Calls Tryz.prog 18 #[.slice (some ⟨g, 0, none⟩) xs.length c1] W' fun e w' => e = .returned (.string ⟨#[]⟩) ∧ Below W'.heap.size W' w') := Lib.hid fun W' hW => by
        have h := dis_bad (xs.set k ⟨-1 - (v : Int), xa, xb, xc, xi⟩) (some ⟨g, 0, none⟩) c1 W' ((HG.out.next HBW.out).next hW).2 (HR9.out.next hW) HIM.out (by rw [HVP.out]; decide)
        rw [HLS.out] at h
        exact h
      have HGW := Lib.hid (HG.out.next HBW.out)
      clear HR9 HVP HIM HLS HALL HROW HB1
      clear hk1 hk2 hk31 hk32
      have hw2 := HW9.out.2.1
      clear HOK HXK HOI HW9
      go_wp2_with fail
      go_fit (HP1.out _)
      rintro e w2 ⟨rfl, rfl⟩
      go_wp2_with fail
      go_fit (HP2.out _)
      rintro e w2 ⟨rfl, rfl⟩
      go_wp2_with fail
      go_fit (HP3.out _)
      rintro e w2 ⟨rfl, rfl⟩
      clear HP1 HP2 HP3
      go_wp2_with fail
      go_fit HENC.out
      rintro e w3 ⟨hb3, rfl⟩
      have HB3 := Lib.hid hb3
      have HV3 := Lib.hid (HVAL.out w3 hb3)
      clear hb3 x0 x1 x2 x3 x4 z0 z1 z2 z3 z4
      go_wp2_with fail
      go_fit HV3.out
      rintro e w4 ⟨rfl, hb4⟩
      have HB4 := Lib.hid (bel_next HB3.out hb4)
      have HD4 := Lib.hid (HDIS.out w4 HB4.out)
      clear hb4
      go_wp2_with fail
      go_fit HD4.out
      rintro e w5 ⟨rfl, hb5⟩
      have HB5 := Lib.hid (bel_next HB4.out hb5)
      have HA5 := Lib.hid (HAW.out w5 (HGW.out.next HB5.out))
      clear hb5
      go_wp2_with fail
      go_fit HA5.out
      rintro e w6 ⟨rfl, hb6⟩
      have HB6 := Lib.hid (bel_next HBW.out (bel_next HB5.out hb6))
      clear hb6
      go_wp2
      go_ret
      exact ⟨rfl, HB6.out⟩
    · have HVP : Hid (valP (xs.set k ⟨xo, 16 + (v : Int), xb, xc, xi⟩) = 70) := Lib.hid (valP_set (by decide) HALL.out hn2 hkl ((by obtain ⟨q, hq, ho⟩ := HOK.out; have := ho.op; exact chk_reg (by show ¬ (xo < 0 ∨ 28 ≤ xo); simp only at this; omega) (by show (16 : Int) ≤ 16 + (v : Int); omega))))
      have HIM : Hid (∀ y ∈ xs.set k ⟨xo, 16 + (v : Int), xb, xc, xi⟩, ImmOk y) := Lib.hid (imm_set HALL.out.imm HOI.out)
      have hr0 := HROW.out
      have hr1 : GRow GIns.cells 5 (w1.setCell ⟨g, k * 5 + 1, none⟩ (.int .i64 (16 + (v : Int)))) w1.heap.size (some ⟨g, 0, none⟩) ((xs.set k ⟨xo, (16 + (v : Int)), xb, xc, xi⟩)) := hr0.set1 (k := k) (j0 := 1) (by exact hkl) (by decide) (.int .i64 (16 + (v : Int))) ⟨xo, (16 + (v : Int)), xb, xc, xi⟩ (by simp [GIns.cells, HXK.out])
      try simp only [List.set_set] at hr1
      have HR9 : Hid (GRow GIns.cells 5 (w1.setCell ⟨g, k * 5 + 1, none⟩ (.int .i64 (16 + (v : Int)))) (w1.setCell ⟨g, k * 5 + 1, none⟩ (.int .i64 (16 + (v : Int)))).heap.size (some ⟨g, 0, none⟩) (xs.set k ⟨xo, 16 + (v : Int), xb, xc, xi⟩)) := Lib.hid (hr1.wide (by simp))
      clear hr0 hr1
      have HBW : Hid (Below w.heap.size w (w1.setCell ⟨g, k * 5 + 1, none⟩ (.int .i64 (16 + (v : Int))))) := Lib.hid ((HB1.out).setCell (p := ⟨g, k * 5 + 1, none⟩) hgw _)
      have HLS : Hid ((xs.set k ⟨xo, 16 + (v : Int), xb, xc, xi⟩).length = xs.length) := Lib.hid (List.length_set ..)
      have HENC : Hid (Calls Tryz.prog 11 #[.slice (some ⟨g, 0, none⟩) xs.length c1] (w1.setCell ⟨g, k * 5 + 1, none⟩ (.int .i64 (16 + (v : Int)))) fun e w' => Below ((w1.setCell ⟨g, k * 5 + 1, none⟩ (.int .i64 (16 + (v : Int))))).heap.size (w1.setCell ⟨g, k * 5 + 1, none⟩ (.int .i64 (16 + (v : Int)))) w' ∧ e = .returned (.tuple #[.slice none 0 0, .int .i64 70])) := Lib.hid (by
        have h := encode_any (xs.set k ⟨xo, 16 + (v : Int), xb, xc, xi⟩) (some ⟨g, 0, none⟩) c1 (w1.setCell ⟨g, k * 5 + 1, none⟩ (.int .i64 (16 + (v : Int)))) (HG.out.next HBW.out).2 HR9.out HIM.out
        rw [HLS.out] at h
        refine h.mono ?_
        rintro e w' ⟨h1, h2⟩
        rw [HVP.out, if_neg (by decide)] at h2
        exact ⟨h1, h2⟩)
      have HVAL : Hid (∀ W', Below ((w1.setCell ⟨g, k * 5 + 1, none⟩ (.int .i64 (16 + (v : Int))))).heap.size (w1.setCell ⟨g, k * 5 + 1, none⟩ (.int .i64 (16 + (v : Int)))) W' → Calls Tryz.prog 16 #[.slice (some ⟨g, 0, none⟩) xs.length c1] W' fun e w' => e = .returned (.int .i64 70) ∧ Below W'.heap.size W' w') := Lib.hid fun W' hW => by
        have h := validate_any (xs.set k ⟨xo, 16 + (v : Int), xb, xc, xi⟩) (some ⟨g, 0, none⟩) c1 W' ((HG.out.next HBW.out).next hW).2 (HR9.out.next hW) HIM.out
        rw [HLS.out, HVP.out] at h
        exact h
      have HDIS : Hid (∀ W', Below ((w1.setCell ⟨g, k * 5 + 1, none⟩ (.int .i64 (16 + (v : Int))))).heap.size (w1.setCell ⟨g, k * 5 + 1, none⟩ (.int .i64 (16 + (v : Int)))) W' → Calls Tryz.prog 18 #[.slice (some ⟨g, 0, none⟩) xs.length c1] W' fun e w' => e = .returned (.string ⟨#[]⟩) ∧ Below W'.heap.size W' w') := Lib.hid fun W' hW => by
        have h := dis_bad (xs.set k ⟨xo, 16 + (v : Int), xb, xc, xi⟩) (some ⟨g, 0, none⟩) c1 W' ((HG.out.next HBW.out).next hW).2 (HR9.out.next hW) HIM.out (by rw [HVP.out]; decide)
        rw [HLS.out] at h
        exact h
      have HGW := Lib.hid (HG.out.next HBW.out)
      clear HR9 HVP HIM HLS HALL HROW HB1
      clear hk1 hk2 hk31 hk32
      have hw3 := HW9.out.2.2.1
      clear HOK HXK HOI HW9
      go_wp2_with fail
      go_fit (HP1.out _)
      rintro e w2 ⟨rfl, rfl⟩
      go_wp2_with fail
      go_fit (HP2.out _)
      rintro e w2 ⟨rfl, rfl⟩
      go_wp2_with fail
      go_fit (HP3.out _)
      rintro e w2 ⟨rfl, rfl⟩
      clear HP1 HP2 HP3
      go_wp2_with fail
      go_fit HENC.out
      rintro e w3 ⟨hb3, rfl⟩
      have HB3 := Lib.hid hb3
      have HV3 := Lib.hid (HVAL.out w3 hb3)
      clear hb3 x0 x1 x2 x3 x4 z0 z1 z2 z3 z4
      go_wp2_with fail
      go_fit HV3.out
      rintro e w4 ⟨rfl, hb4⟩
      have HB4 := Lib.hid (bel_next HB3.out hb4)
      have HD4 := Lib.hid (HDIS.out w4 HB4.out)
      clear hb4
      go_wp2_with fail
      go_fit HD4.out
      rintro e w5 ⟨rfl, hb5⟩
      have HB5 := Lib.hid (bel_next HB4.out hb5)
      have HA5 := Lib.hid (HAW.out w5 (HGW.out.next HB5.out))
      clear hb5
      go_wp2_with fail
      go_fit HA5.out
      rintro e w6 ⟨rfl, hb6⟩
      have HB6 := Lib.hid (bel_next HBW.out (bel_next HB5.out hb6))
      clear hb6
      go_wp2
      go_ret
      exact ⟨rfl, HB6.out⟩
    · have HVP : Hid (valP (xs.set k ⟨0, 0, 0, 1 + (v : Int), 0⟩) = 70) := Lib.hid (valP_set (by decide) HALL.out hn2 hkl (chk_halt (by omega)))
      have HIM : Hid (∀ y ∈ xs.set k ⟨0, 0, 0, 1 + (v : Int), 0⟩, ImmOk y) := Lib.hid (imm_set HALL.out.imm ⟨by show (-2147483648 : Int) ≤ 0; decide, by show (0 : Int) ≤ 2147483647; decide⟩)
      have hr0 := HROW.out
      have hr1 : GRow GIns.cells 5 (w1.setCell ⟨g, k * 5, none⟩ (.int .i64 0)) w1.heap.size (some ⟨g, 0, none⟩) ((xs.set k ⟨0, xa, xb, xc, xi⟩)) := hr0.set1 (k := k) (j0 := 0) (by exact hkl) (by decide) (.int .i64 0) ⟨0, xa, xb, xc, xi⟩ (by simp [GIns.cells, HXK.out])
      have hr2 : GRow GIns.cells 5 ((w1.setCell ⟨g, k * 5, none⟩ (.int .i64 0)).setCell ⟨g, k * 5 + 1, none⟩ (.int .i64 0)) w1.heap.size (some ⟨g, 0, none⟩) (((xs.set k ⟨0, xa, xb, xc, xi⟩).set k ⟨0, 0, xb, xc, xi⟩)) := hr1.set1 (k := k) (j0 := 1) (by simpa using hkl) (by decide) (.int .i64 0) ⟨0, 0, xb, xc, xi⟩ (by simp [GIns.cells])
      have hr3 : GRow GIns.cells 5 (((w1.setCell ⟨g, k * 5, none⟩ (.int .i64 0)).setCell ⟨g, k * 5 + 1, none⟩ (.int .i64 0)).setCell ⟨g, k * 5 + 2, none⟩ (.int .i64 0)) w1.heap.size (some ⟨g, 0, none⟩) ((((xs.set k ⟨0, xa, xb, xc, xi⟩).set k ⟨0, 0, xb, xc, xi⟩).set k ⟨0, 0, 0, xc, xi⟩)) := hr2.set1 (k := k) (j0 := 2) (by simpa using hkl) (by decide) (.int .i64 0) ⟨0, 0, 0, xc, xi⟩ (by simp [GIns.cells])
      have hr4 : GRow GIns.cells 5 ((((w1.setCell ⟨g, k * 5, none⟩ (.int .i64 0)).setCell ⟨g, k * 5 + 1, none⟩ (.int .i64 0)).setCell ⟨g, k * 5 + 2, none⟩ (.int .i64 0)).setCell ⟨g, k * 5 + 3, none⟩ (.int .i64 (1 + (v : Int)))) w1.heap.size (some ⟨g, 0, none⟩) (((((xs.set k ⟨0, xa, xb, xc, xi⟩).set k ⟨0, 0, xb, xc, xi⟩).set k ⟨0, 0, 0, xc, xi⟩).set k ⟨0, 0, 0, (1 + (v : Int)), xi⟩)) := hr3.set1 (k := k) (j0 := 3) (by simpa using hkl) (by decide) (.int .i64 (1 + (v : Int))) ⟨0, 0, 0, (1 + (v : Int)), xi⟩ (by simp [GIns.cells])
      have hr5 : GRow GIns.cells 5 (((((w1.setCell ⟨g, k * 5, none⟩ (.int .i64 0)).setCell ⟨g, k * 5 + 1, none⟩ (.int .i64 0)).setCell ⟨g, k * 5 + 2, none⟩ (.int .i64 0)).setCell ⟨g, k * 5 + 3, none⟩ (.int .i64 (1 + (v : Int)))).setCell ⟨g, k * 5 + 4, none⟩ (.int .i32 0)) w1.heap.size (some ⟨g, 0, none⟩) ((((((xs.set k ⟨0, xa, xb, xc, xi⟩).set k ⟨0, 0, xb, xc, xi⟩).set k ⟨0, 0, 0, xc, xi⟩).set k ⟨0, 0, 0, (1 + (v : Int)), xi⟩).set k ⟨0, 0, 0, (1 + (v : Int)), 0⟩)) := hr4.set1 (k := k) (j0 := 4) (by simpa using hkl) (by decide) (.int .i32 0) ⟨0, 0, 0, (1 + (v : Int)), 0⟩ (by simp [GIns.cells])
      try simp only [List.set_set] at hr5
      have HR9 : Hid (GRow GIns.cells 5 (((((w1.setCell ⟨g, k * 5, none⟩ (.int .i64 0)).setCell ⟨g, k * 5 + 1, none⟩ (.int .i64 0)).setCell ⟨g, k * 5 + 2, none⟩ (.int .i64 0)).setCell ⟨g, k * 5 + 3, none⟩ (.int .i64 (1 + (v : Int)))).setCell ⟨g, k * 5 + 4, none⟩ (.int .i32 0)) (((((w1.setCell ⟨g, k * 5, none⟩ (.int .i64 0)).setCell ⟨g, k * 5 + 1, none⟩ (.int .i64 0)).setCell ⟨g, k * 5 + 2, none⟩ (.int .i64 0)).setCell ⟨g, k * 5 + 3, none⟩ (.int .i64 (1 + (v : Int)))).setCell ⟨g, k * 5 + 4, none⟩ (.int .i32 0)).heap.size (some ⟨g, 0, none⟩) (xs.set k ⟨0, 0, 0, 1 + (v : Int), 0⟩)) := Lib.hid (hr5.wide (by simp))
      clear hr0 hr1 hr2 hr3 hr4 hr5
      have HBW : Hid (Below w.heap.size w (((((w1.setCell ⟨g, k * 5, none⟩ (.int .i64 0)).setCell ⟨g, k * 5 + 1, none⟩ (.int .i64 0)).setCell ⟨g, k * 5 + 2, none⟩ (.int .i64 0)).setCell ⟨g, k * 5 + 3, none⟩ (.int .i64 (1 + (v : Int)))).setCell ⟨g, k * 5 + 4, none⟩ (.int .i32 0))) := Lib.hid ((((((HB1.out).setCell (p := ⟨g, k * 5, none⟩) hgw _).setCell (p := ⟨g, k * 5 + 1, none⟩) hgw _).setCell (p := ⟨g, k * 5 + 2, none⟩) hgw _).setCell (p := ⟨g, k * 5 + 3, none⟩) hgw _).setCell (p := ⟨g, k * 5 + 4, none⟩) hgw _)
      have HLS : Hid ((xs.set k ⟨0, 0, 0, 1 + (v : Int), 0⟩).length = xs.length) := Lib.hid (List.length_set ..)
      have HENC : Hid (Calls Tryz.prog 11 #[.slice (some ⟨g, 0, none⟩) xs.length c1] (((((w1.setCell ⟨g, k * 5, none⟩ (.int .i64 0)).setCell ⟨g, k * 5 + 1, none⟩ (.int .i64 0)).setCell ⟨g, k * 5 + 2, none⟩ (.int .i64 0)).setCell ⟨g, k * 5 + 3, none⟩ (.int .i64 (1 + (v : Int)))).setCell ⟨g, k * 5 + 4, none⟩ (.int .i32 0)) fun e w' => Below ((((((w1.setCell ⟨g, k * 5, none⟩ (.int .i64 0)).setCell ⟨g, k * 5 + 1, none⟩ (.int .i64 0)).setCell ⟨g, k * 5 + 2, none⟩ (.int .i64 0)).setCell ⟨g, k * 5 + 3, none⟩ (.int .i64 (1 + (v : Int)))).setCell ⟨g, k * 5 + 4, none⟩ (.int .i32 0))).heap.size (((((w1.setCell ⟨g, k * 5, none⟩ (.int .i64 0)).setCell ⟨g, k * 5 + 1, none⟩ (.int .i64 0)).setCell ⟨g, k * 5 + 2, none⟩ (.int .i64 0)).setCell ⟨g, k * 5 + 3, none⟩ (.int .i64 (1 + (v : Int)))).setCell ⟨g, k * 5 + 4, none⟩ (.int .i32 0)) w' ∧ e = .returned (.tuple #[.slice none 0 0, .int .i64 70])) := Lib.hid (by
        have h := encode_any (xs.set k ⟨0, 0, 0, 1 + (v : Int), 0⟩) (some ⟨g, 0, none⟩) c1 (((((w1.setCell ⟨g, k * 5, none⟩ (.int .i64 0)).setCell ⟨g, k * 5 + 1, none⟩ (.int .i64 0)).setCell ⟨g, k * 5 + 2, none⟩ (.int .i64 0)).setCell ⟨g, k * 5 + 3, none⟩ (.int .i64 (1 + (v : Int)))).setCell ⟨g, k * 5 + 4, none⟩ (.int .i32 0)) (HG.out.next HBW.out).2 HR9.out HIM.out
        rw [HLS.out] at h
        refine h.mono ?_
        rintro e w' ⟨h1, h2⟩
        rw [HVP.out, if_neg (by decide)] at h2
        exact ⟨h1, h2⟩)
      have HVAL : Hid (∀ W', Below ((((((w1.setCell ⟨g, k * 5, none⟩ (.int .i64 0)).setCell ⟨g, k * 5 + 1, none⟩ (.int .i64 0)).setCell ⟨g, k * 5 + 2, none⟩ (.int .i64 0)).setCell ⟨g, k * 5 + 3, none⟩ (.int .i64 (1 + (v : Int)))).setCell ⟨g, k * 5 + 4, none⟩ (.int .i32 0))).heap.size (((((w1.setCell ⟨g, k * 5, none⟩ (.int .i64 0)).setCell ⟨g, k * 5 + 1, none⟩ (.int .i64 0)).setCell ⟨g, k * 5 + 2, none⟩ (.int .i64 0)).setCell ⟨g, k * 5 + 3, none⟩ (.int .i64 (1 + (v : Int)))).setCell ⟨g, k * 5 + 4, none⟩ (.int .i32 0)) W' → Calls Tryz.prog 16 #[.slice (some ⟨g, 0, none⟩) xs.length c1] W' fun e w' => e = .returned (.int .i64 70) ∧ Below W'.heap.size W' w') := Lib.hid fun W' hW => by
        have h := validate_any (xs.set k ⟨0, 0, 0, 1 + (v : Int), 0⟩) (some ⟨g, 0, none⟩) c1 W' ((HG.out.next HBW.out).next hW).2 (HR9.out.next hW) HIM.out
        rw [HLS.out, HVP.out] at h
        exact h
      have HDIS : Hid (∀ W', Below ((((((w1.setCell ⟨g, k * 5, none⟩ (.int .i64 0)).setCell ⟨g, k * 5 + 1, none⟩ (.int .i64 0)).setCell ⟨g, k * 5 + 2, none⟩ (.int .i64 0)).setCell ⟨g, k * 5 + 3, none⟩ (.int .i64 (1 + (v : Int)))).setCell ⟨g, k * 5 + 4, none⟩ (.int .i32 0))).heap.size (((((w1.setCell ⟨g, k * 5, none⟩ (.int .i64 0)).setCell ⟨g, k * 5 + 1, none⟩ (.int .i64 0)).setCell ⟨g, k * 5 + 2, none⟩ (.int .i64 0)).setCell ⟨g, k * 5 + 3, none⟩ (.int .i64 (1 + (v : Int)))).setCell ⟨g, k * 5 + 4, none⟩ (.int .i32 0)) W' → Calls Tryz.prog 18 #[.slice (some ⟨g, 0, none⟩) xs.length c1] W' fun e w' => e = .returned (.string ⟨#[]⟩) ∧ Below W'.heap.size W' w') := Lib.hid fun W' hW => by
        have h := dis_bad (xs.set k ⟨0, 0, 0, 1 + (v : Int), 0⟩) (some ⟨g, 0, none⟩) c1 W' ((HG.out.next HBW.out).next hW).2 (HR9.out.next hW) HIM.out (by rw [HVP.out]; decide)
        rw [HLS.out] at h
        exact h
      have HGW := Lib.hid (HG.out.next HBW.out)
      clear HR9 HVP HIM HLS HALL HROW HB1
      clear hk1 hk2 hk31 hk32
      have hw4 := HW9.out.2.2.2.1
      clear HOK HXK HOI HW9
      go_wp2_with fail
      go_fit (HP1.out _)
      rintro e w2 ⟨rfl, rfl⟩
      go_wp2_with fail
      go_fit (HP2.out _)
      rintro e w2 ⟨rfl, rfl⟩
      go_wp2_with fail
      go_fit (HP3.out _)
      rintro e w2 ⟨rfl, rfl⟩
      clear HP1 HP2 HP3
      go_wp2_with fail
      go_fit HENC.out
      rintro e w3 ⟨hb3, rfl⟩
      have HB3 := Lib.hid hb3
      have HV3 := Lib.hid (HVAL.out w3 hb3)
      clear hb3 x0 x1 x2 x3 x4 z0 z1 z2 z3 z4
      go_wp2_with fail
      go_fit HV3.out
      rintro e w4 ⟨rfl, hb4⟩
      have HB4 := Lib.hid (bel_next HB3.out hb4)
      have HD4 := Lib.hid (HDIS.out w4 HB4.out)
      clear hb4
      go_wp2_with fail
      go_fit HD4.out
      rintro e w5 ⟨rfl, hb5⟩
      have HB5 := Lib.hid (bel_next HB4.out hb5)
      have HA5 := Lib.hid (HAW.out w5 (HGW.out.next HB5.out))
      clear hb5
      go_wp2_with fail
      go_fit HA5.out
      rintro e w6 ⟨rfl, hb6⟩
      have HB6 := Lib.hid (bel_next HBW.out (bel_next HB5.out hb6))
      clear hb6
      go_wp2
      go_ret
      exact ⟨rfl, HB6.out⟩
    · have HVP : Hid (valP (xs.set k ⟨18, 0, 0, 0, (xs.length : Int) + (v : Int)⟩) = 71) := Lib.hid (valP_set (by decide) HALL.out hn2 hkl (chk_jmp (by omega)))
      have HIM : Hid (∀ y ∈ xs.set k ⟨18, 0, 0, 0, (xs.length : Int) + (v : Int)⟩, ImmOk y) := Lib.hid (imm_set HALL.out.imm ⟨by show -2147483648 ≤ (xs.length : Int) + (v : Int); omega, by show (xs.length : Int) + (v : Int) ≤ 2147483647; omega⟩)
      have hr0 := HROW.out
      have hr1 : GRow GIns.cells 5 (w1.setCell ⟨g, k * 5, none⟩ (.int .i64 18)) w1.heap.size (some ⟨g, 0, none⟩) ((xs.set k ⟨18, xa, xb, xc, xi⟩)) := hr0.set1 (k := k) (j0 := 0) (by exact hkl) (by decide) (.int .i64 18) ⟨18, xa, xb, xc, xi⟩ (by simp [GIns.cells, HXK.out])
      have hr2 : GRow GIns.cells 5 ((w1.setCell ⟨g, k * 5, none⟩ (.int .i64 18)).setCell ⟨g, k * 5 + 1, none⟩ (.int .i64 0)) w1.heap.size (some ⟨g, 0, none⟩) (((xs.set k ⟨18, xa, xb, xc, xi⟩).set k ⟨18, 0, xb, xc, xi⟩)) := hr1.set1 (k := k) (j0 := 1) (by simpa using hkl) (by decide) (.int .i64 0) ⟨18, 0, xb, xc, xi⟩ (by simp [GIns.cells])
      have hr3 : GRow GIns.cells 5 (((w1.setCell ⟨g, k * 5, none⟩ (.int .i64 18)).setCell ⟨g, k * 5 + 1, none⟩ (.int .i64 0)).setCell ⟨g, k * 5 + 2, none⟩ (.int .i64 0)) w1.heap.size (some ⟨g, 0, none⟩) ((((xs.set k ⟨18, xa, xb, xc, xi⟩).set k ⟨18, 0, xb, xc, xi⟩).set k ⟨18, 0, 0, xc, xi⟩)) := hr2.set1 (k := k) (j0 := 2) (by simpa using hkl) (by decide) (.int .i64 0) ⟨18, 0, 0, xc, xi⟩ (by simp [GIns.cells])
      have hr4 : GRow GIns.cells 5 ((((w1.setCell ⟨g, k * 5, none⟩ (.int .i64 18)).setCell ⟨g, k * 5 + 1, none⟩ (.int .i64 0)).setCell ⟨g, k * 5 + 2, none⟩ (.int .i64 0)).setCell ⟨g, k * 5 + 3, none⟩ (.int .i64 0)) w1.heap.size (some ⟨g, 0, none⟩) (((((xs.set k ⟨18, xa, xb, xc, xi⟩).set k ⟨18, 0, xb, xc, xi⟩).set k ⟨18, 0, 0, xc, xi⟩).set k ⟨18, 0, 0, 0, xi⟩)) := hr3.set1 (k := k) (j0 := 3) (by simpa using hkl) (by decide) (.int .i64 0) ⟨18, 0, 0, 0, xi⟩ (by simp [GIns.cells])
      have hr5 : GRow GIns.cells 5 (((((w1.setCell ⟨g, k * 5, none⟩ (.int .i64 18)).setCell ⟨g, k * 5 + 1, none⟩ (.int .i64 0)).setCell ⟨g, k * 5 + 2, none⟩ (.int .i64 0)).setCell ⟨g, k * 5 + 3, none⟩ (.int .i64 0)).setCell ⟨g, k * 5 + 4, none⟩ (.int .i32 ((xs.length : Int) + (v : Int)))) w1.heap.size (some ⟨g, 0, none⟩) ((((((xs.set k ⟨18, xa, xb, xc, xi⟩).set k ⟨18, 0, xb, xc, xi⟩).set k ⟨18, 0, 0, xc, xi⟩).set k ⟨18, 0, 0, 0, xi⟩).set k ⟨18, 0, 0, 0, ((xs.length : Int) + (v : Int))⟩)) := hr4.set1 (k := k) (j0 := 4) (by simpa using hkl) (by decide) (.int .i32 ((xs.length : Int) + (v : Int))) ⟨18, 0, 0, 0, ((xs.length : Int) + (v : Int))⟩ (by simp [GIns.cells])
      try simp only [List.set_set] at hr5
      have HR9 : Hid (GRow GIns.cells 5 (((((w1.setCell ⟨g, k * 5, none⟩ (.int .i64 18)).setCell ⟨g, k * 5 + 1, none⟩ (.int .i64 0)).setCell ⟨g, k * 5 + 2, none⟩ (.int .i64 0)).setCell ⟨g, k * 5 + 3, none⟩ (.int .i64 0)).setCell ⟨g, k * 5 + 4, none⟩ (.int .i32 ((xs.length : Int) + (v : Int)))) (((((w1.setCell ⟨g, k * 5, none⟩ (.int .i64 18)).setCell ⟨g, k * 5 + 1, none⟩ (.int .i64 0)).setCell ⟨g, k * 5 + 2, none⟩ (.int .i64 0)).setCell ⟨g, k * 5 + 3, none⟩ (.int .i64 0)).setCell ⟨g, k * 5 + 4, none⟩ (.int .i32 ((xs.length : Int) + (v : Int)))).heap.size (some ⟨g, 0, none⟩) (xs.set k ⟨18, 0, 0, 0, (xs.length : Int) + (v : Int)⟩)) := Lib.hid (hr5.wide (by simp))
      clear hr0 hr1 hr2 hr3 hr4 hr5
      have HBW : Hid (Below w.heap.size w (((((w1.setCell ⟨g, k * 5, none⟩ (.int .i64 18)).setCell ⟨g, k * 5 + 1, none⟩ (.int .i64 0)).setCell ⟨g, k * 5 + 2, none⟩ (.int .i64 0)).setCell ⟨g, k * 5 + 3, none⟩ (.int .i64 0)).setCell ⟨g, k * 5 + 4, none⟩ (.int .i32 ((xs.length : Int) + (v : Int))))) := Lib.hid ((((((HB1.out).setCell (p := ⟨g, k * 5, none⟩) hgw _).setCell (p := ⟨g, k * 5 + 1, none⟩) hgw _).setCell (p := ⟨g, k * 5 + 2, none⟩) hgw _).setCell (p := ⟨g, k * 5 + 3, none⟩) hgw _).setCell (p := ⟨g, k * 5 + 4, none⟩) hgw _)
      have HLS : Hid ((xs.set k ⟨18, 0, 0, 0, (xs.length : Int) + (v : Int)⟩).length = xs.length) := Lib.hid (List.length_set ..)
      have HENC : Hid (Calls Tryz.prog 11 #[.slice (some ⟨g, 0, none⟩) xs.length c1] (((((w1.setCell ⟨g, k * 5, none⟩ (.int .i64 18)).setCell ⟨g, k * 5 + 1, none⟩ (.int .i64 0)).setCell ⟨g, k * 5 + 2, none⟩ (.int .i64 0)).setCell ⟨g, k * 5 + 3, none⟩ (.int .i64 0)).setCell ⟨g, k * 5 + 4, none⟩ (.int .i32 ((xs.length : Int) + (v : Int)))) fun e w' => Below ((((((w1.setCell ⟨g, k * 5, none⟩ (.int .i64 18)).setCell ⟨g, k * 5 + 1, none⟩ (.int .i64 0)).setCell ⟨g, k * 5 + 2, none⟩ (.int .i64 0)).setCell ⟨g, k * 5 + 3, none⟩ (.int .i64 0)).setCell ⟨g, k * 5 + 4, none⟩ (.int .i32 ((xs.length : Int) + (v : Int))))).heap.size (((((w1.setCell ⟨g, k * 5, none⟩ (.int .i64 18)).setCell ⟨g, k * 5 + 1, none⟩ (.int .i64 0)).setCell ⟨g, k * 5 + 2, none⟩ (.int .i64 0)).setCell ⟨g, k * 5 + 3, none⟩ (.int .i64 0)).setCell ⟨g, k * 5 + 4, none⟩ (.int .i32 ((xs.length : Int) + (v : Int)))) w' ∧ e = .returned (.tuple #[.slice none 0 0, .int .i64 71])) := Lib.hid (by
        have h := encode_any (xs.set k ⟨18, 0, 0, 0, (xs.length : Int) + (v : Int)⟩) (some ⟨g, 0, none⟩) c1 (((((w1.setCell ⟨g, k * 5, none⟩ (.int .i64 18)).setCell ⟨g, k * 5 + 1, none⟩ (.int .i64 0)).setCell ⟨g, k * 5 + 2, none⟩ (.int .i64 0)).setCell ⟨g, k * 5 + 3, none⟩ (.int .i64 0)).setCell ⟨g, k * 5 + 4, none⟩ (.int .i32 ((xs.length : Int) + (v : Int)))) (HG.out.next HBW.out).2 HR9.out HIM.out
        rw [HLS.out] at h
        refine h.mono ?_
        rintro e w' ⟨h1, h2⟩
        rw [HVP.out, if_neg (by decide)] at h2
        exact ⟨h1, h2⟩)
      have HVAL : Hid (∀ W', Below ((((((w1.setCell ⟨g, k * 5, none⟩ (.int .i64 18)).setCell ⟨g, k * 5 + 1, none⟩ (.int .i64 0)).setCell ⟨g, k * 5 + 2, none⟩ (.int .i64 0)).setCell ⟨g, k * 5 + 3, none⟩ (.int .i64 0)).setCell ⟨g, k * 5 + 4, none⟩ (.int .i32 ((xs.length : Int) + (v : Int))))).heap.size (((((w1.setCell ⟨g, k * 5, none⟩ (.int .i64 18)).setCell ⟨g, k * 5 + 1, none⟩ (.int .i64 0)).setCell ⟨g, k * 5 + 2, none⟩ (.int .i64 0)).setCell ⟨g, k * 5 + 3, none⟩ (.int .i64 0)).setCell ⟨g, k * 5 + 4, none⟩ (.int .i32 ((xs.length : Int) + (v : Int)))) W' → Calls Tryz.prog 16 #[.slice (some ⟨g, 0, none⟩) xs.length c1] W' fun e w' => e = .returned (.int .i64 71) ∧ Below W'.heap.size W' w') := Lib.hid fun W' hW => by
        have h := validate_any (xs.set k ⟨18, 0, 0, 0, (xs.length : Int) + (v : Int)⟩) (some ⟨g, 0, none⟩) c1 W' ((HG.out.next HBW.out).next hW).2 (HR9.out.next hW) HIM.out
        rw [HLS.out, HVP.out] at h
        exact h
      have HDIS : Hid (∀ W', Below ((((((w1.setCell ⟨g, k * 5, none⟩ (.int .i64 18)).setCell ⟨g, k * 5 + 1, none⟩ (.int .i64 0)).setCell ⟨g, k * 5 + 2, none⟩ (.int .i64 0)).setCell ⟨g, k * 5 + 3, none⟩ (.int .i64 0)).setCell ⟨g, k * 5 + 4, none⟩ (.int .i32 ((xs.length : Int) + (v : Int))))).heap.size (((((w1.setCell ⟨g, k * 5, none⟩ (.int .i64 18)).setCell ⟨g, k * 5 + 1, none⟩ (.int .i64 0)).setCell ⟨g, k * 5 + 2, none⟩ (.int .i64 0)).setCell ⟨g, k * 5 + 3, none⟩ (.int .i64 0)).setCell ⟨g, k * 5 + 4, none⟩ (.int .i32 ((xs.length : Int) + (v : Int)))) W' → Calls Tryz.prog 18 #[.slice (some ⟨g, 0, none⟩) xs.length c1] W' fun e w' => e = .returned (.string ⟨#[]⟩) ∧ Below W'.heap.size W' w') := Lib.hid fun W' hW => by
        have h := dis_bad (xs.set k ⟨18, 0, 0, 0, (xs.length : Int) + (v : Int)⟩) (some ⟨g, 0, none⟩) c1 W' ((HG.out.next HBW.out).next hW).2 (HR9.out.next hW) HIM.out (by rw [HVP.out]; decide)
        rw [HLS.out] at h
        exact h
      have HGW := Lib.hid (HG.out.next HBW.out)
      clear HR9 HVP HIM HLS HALL HROW HB1
      clear hk1 hk2 hk31 hk32
      have hw5 := HW9.out.2.2.2.2.1
      have hw6 := HW9.out.2.2.2.2.2
      clear HOK HXK HOI HW9
      go_wp2_with fail
      go_fit (HP1.out _)
      rintro e w2 ⟨rfl, rfl⟩
      go_wp2_with fail
      go_fit (HP2.out _)
      rintro e w2 ⟨rfl, rfl⟩
      go_wp2_with fail
      go_fit (HP3.out _)
      rintro e w2 ⟨rfl, rfl⟩
      clear HP1 HP2 HP3
      go_wp2_with fail
      go_fit HENC.out
      rintro e w3 ⟨hb3, rfl⟩
      have HB3 := Lib.hid hb3
      have HV3 := Lib.hid (HVAL.out w3 hb3)
      clear hb3 x0 x1 x2 x3 x4 z0 z1 z2 z3 z4
      go_wp2_with fail
      go_fit HV3.out
      rintro e w4 ⟨rfl, hb4⟩
      have HB4 := Lib.hid (bel_next HB3.out hb4)
      have HD4 := Lib.hid (HDIS.out w4 HB4.out)
      clear hb4
      go_wp2_with fail
      go_fit HD4.out
      rintro e w5 ⟨rfl, hb5⟩
      have HB5 := Lib.hid (bel_next HB4.out hb5)
      have HA5 := Lib.hid (HAW.out w5 (HGW.out.next HB5.out))
      clear hb5
      go_wp2_with fail
      go_fit HA5.out
      rintro e w6 ⟨rfl, hb6⟩
      have HB6 := Lib.hid (bel_next HBW.out (bel_next HB5.out hb6))
      clear hb6
      go_wp2
      go_ret
      exact ⟨rfl, HB6.out⟩
end Go.Proofs.YtcmohijjpnebpaaGreatDoor


namespace Go.Proofs.YtcmohijjpnebpaaGreatDoor

open Go.ChangeShapes Go.WideShapes Go.RowKit

def IsInts (w : World) (a : Option Addr) (len cap : Nat) (zs : List Int) : Prop := IRow w w.heap.size a len cap zs
section

variable {H : Type} {enc : TypeId × Value → H} {W : World} {base : Nat} {held : Bool}

theorem IsInts_open {a : Option Addr} {len cap : Nat} {d : DataW H} {p : List MemPlace} (h : DataW.Trod enc Tryz.prog W base (fun _ => true) held 39 (.slice a len cap) d p) (_ : ∀ n ∈ d.weights Tryz.prog 39, n ≤ reachBytes) : ∃ zs, IsInts W a len cap zs := by
  obtain ⟨fuel, hf⟩ := h
  rcases open_ints Tryz.underlying39 Tryz.underlying3 (by kernel_rfl) hf with ⟨hcs, _⟩ | ⟨x, l, c, zs, hcs, _, hl, hm, hz, _, hc, hw⟩
  · simp [Value.cells] at hcs
    obtain ⟨rfl, rfl, rfl⟩ := hcs
    exact ⟨[], rfl, Nat.le_refl _, Nat.zero_le _, fun h => absurd h (by omega), fun z hz => (by cases hz)⟩
  · simp [Value.cells] at hcs
    obtain ⟨rfl, rfl, rfl⟩ := hcs
    have hzl : len ≤ zs.length := by rw [hz]; simp; omega
    refine ⟨zs.take len, by simp; omega, hl, by unfold maxLen at hm; omega, fun h0 => ?_, fun z hz => hw z (List.mem_of_mem_take hz)⟩
    obtain ⟨b, off, rfl, hat⟩ := ints_at hc (by omega)
    refine ⟨b, off, rfl, ?_, fun i hi => ?_⟩
    · have := World.block_lt_of_cell? W _ (hat 0 (by omega))
      simpa using this
    · rw [hat i (by omega), List.getD_eq_getElem?_getD, List.getD_eq_getElem?_getD, List.getElem?_take, if_pos hi]
end

end Go.Proofs.YtcmohijjpnebpaaGreatDoor
