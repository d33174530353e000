/-
  The kit's Program makes a valid program.
  Conditions: none.
  What a spoilt program's errors are; Disassemble at a program with an error.
  Conditions: the listed variables lie as the program's start lays them.
  The law IsaSpoilt returns true, whatever the numbers.
  Conditions: the listed variables lie as the program's start lays them.
-/
import Derived.Test.YtcmohijjpnebpaaGreatDoorMa21
import Derived.Test.YtcmohijjpnebpaaGreatDoorMa8
import Derived.Test.YtcmohijjpnebpaaGreatDoorMa20
namespace Go.Proofs.YtcmohijjpnebpaaGreatDoor

open Go.RowKit

/-- The instructions of a program of n instructions have no error. -/
def AllOk (n : Nat) (xs : List GIns) : Prop := ∀ x ∈ xs, ∃ k, k < 28 ∧ InsOk k n x
theorem AllOk.imm {n : Nat} {xs : List GIns} (h : AllOk n xs) : ∀ x ∈ xs, ImmOk x := fun x hx => by obtain ⟨k, _, h2⟩ := h x hx; exact ⟨h2.lo, h2.hi⟩
theorem AllOk.val {n : Nat} : ∀ {xs : List GIns}, AllOk n xs → valL n xs = 0
  | [], _ => rfl
  | x :: r, h => by
    obtain ⟨k, hk, h2⟩ := h x (by simp)
    rw [valL, h2.chk hk, if_neg (by omega)]
    exact AllOk.val fun y hy => h y (by simp [hy])
theorem AllOk.valP {xs : List GIns} (h : AllOk xs.length xs) (h1 : 1 ≤ xs.length) (h2 : xs.length ≤ 4096) : valP xs = 0 := by
  unfold Go.Proofs.YtcmohijjpnebpaaGreatDoor.valP
  rw [if_neg (by omega)]
  exact AllOk.val h
structure PrI (N : Nat) (A : Option Addr) (len cap n : Nat) (w : World) (i : Nat) (v : Value) (xs : List GIns) (q : Nat) (wr : World) : Prop where
  num : NumAt wr N A len cap q
  few : q ≤ 1 + 20 * i
  frm : Fr w (fun g => g = N) wr (fun g => g = N)
  own : OwnG GIns.cells 52 5 wr (N + 1) v xs
  cnt : xs.length = i
  ok : AllOk n xs
set_option maxRecDepth 50000 in
set_option maxHeartbeats 1000000 in
theorem program_kit (A : Option Addr) (len cap : Nat) (zs : List Int) (w : World) (hr : IRow w w.heap.size A len cap zs) :
    Calls Tryz.prog 22 #[.slice A len cap] w fun e w' => ∃ v xs, e = .returned v ∧ OwnG GIns.cells 52 5 w' w.heap.size v xs ∧ 1 ≤ xs.length ∧ xs.length ≤ 12 ∧ AllOk xs.length xs ∧ Below w.heap.size w w' := by
  have HR := Lib.hid hr
  have HN0 : Hid (NumAt (w.alloc (.cells #[.slice A len cap, .int .i64 0] 105)) w.heap.size A len cap 0) := Lib.hid (heap_alloc_new w _)
  have HB0 : Hid (Below w.heap.size w (w.alloc (.cells #[.slice A len cap, .int .i64 0] 105))) := Lib.hid ((Below.refl _ _).alloc (Nat.le_refl _) _)
  have HN1 := Lib.hid (next_u w.heap.size A len cap zs 0 12 _ HN0.out hr HB0.out (by omega) (by omega) (by omega))
  clear hr
  go_enter Tryz.func22, Tryz.ntmps22
  go_wp2_with fail
  go_fit HN1.out
  rintro e w1 ⟨r, hr12, rfl, hnum1, hg1, hs1⟩
  have HF1 := Lib.hid (next_fr hg1)
  have HB1 := Lib.hid (HB0.out.trans (HF1.out.bel (base := w.heap.size) (fun g hg => by omega) (by simp)))
  have hs1' : w1.heap.size = w.heap.size + 1 := by rw [hs1]; simp
  obtain ⟨n, hn⟩ : ∃ n : Nat, n = 1 + r := ⟨_, rfl⟩
  have hw1 : wrap64 (1 + (r : Int)) = n := by rw [IntWalk.wrap64_in _ (by omega)]; omega
  have HI0 : Hid (PrI w.heap.size A len cap n w1 0 (.slice none 0 0) [] 1 w1) := Lib.hid ⟨hnum1, by omega, Fr.refl _ _, OwnG.nil _ _, rfl, fun x hx => absurd hx (by simp)⟩
  have HINS := Lib.hid fun W q (hW : NumAt W w.heap.size A len cap q) (hf : Fr w1 (fun g => g = w.heap.size) W (fun g => g = w.heap.size)) (hq : q ≤ 90000) => instr_kit (w0 := w) w.heap.size A len cap zs q n W (by have := hf.size; omega) hW HR.out (HB1.out.trans (hf.bel (base := w.heap.size) (fun g hg => by omega) (by omega))) hq (by omega) (by omega)
  clear hnum1 hg1 hs1 HN1
  have ecast : ((n : Nat) : Int) = 1 + (r : Int) := by omega
  simp only [ecast] at HINS
  go_wp2
  go_loopw [5, 6] (fun vv vi wr => ∃ (i : Nat) (xs : List GIns) (q : Nat), vi = .int .i64 i ∧ i ≤ n ∧ Hid (PrI w.heap.size A len cap n w1 i vv xs q wr)) (fun _ vi _ => n - (intOf vi).toNat)
  case atStart => exact ⟨0, [], 1, rfl, by omega, HI0⟩
  case round =>
    obtain ⟨i, xs, q, rfl, hi, HI⟩ := hrel
    clear HI0
    rcases Nat.lt_or_ge i n with hlt | hge
    · have f0 : decide ((i : Int) < 1 + (r : Int)) = true := by simp; omega
      have f0' : (i : Int) < 1 + (r : Int) := by omega
      have HI1 := Lib.hid (HINS.out wr q HI.out.num HI.out.frm (by have := HI.out.few; omega))
      obtain ⟨A5, c5, ev, _, _, _⟩ := HI.out.own.row GIns.len
      subst ev
      have hic : xs.length = i := HI.out.cnt
      go_wp2_with fail
      go_fit HI1.out
      rintro e w3 ⟨k, x, q2, hk, hok, he, hnum3, hq2, hf3⟩
      have HNUM := Lib.hid hnum3
      have HF3 := Lib.hid (HI.out.frm.trans hf3)
      have HFW : Hid (q2 ≤ 1 + 20 * (i + 1)) := Lib.hid (by have := HI.out.few; omega)
      have hown3 := HI.out.own.keep (w' := w3) fun g hg => by
        obtain ⟨h1, h2⟩ := HI.out.own.lt g hg
        exact hf3.block g h2 (by intro e9; omega)
      obtain ⟨xo, xa, xb, xc, xi⟩ := x
      simp only [GIns.val] at he
      subst he
      have hlit := GRow.lit GIns.len w3 52 [⟨xo, xa, xb, xc, xi⟩] #[.int .i64 xo, .int .i64 xa, .int .i64 xb, .int .i64 xc, .int .i32 xi] rfl (by unfold maxLen; simp)
      obtain ⟨v', w6, hrun, hown6, hgr6, hob⟩ := OwnG.app elt_ins GIns.len GIns.one (hown3.alloc (.cells #[.int .i64 xo, .int .i64 xa, .int .i64 xb, .int .i64 xc, .int .i32 xi] 52)) 1 hlit (by have := HI.out.frm.size; have := hf3.size; simp; omega) (by unfold maxLen; simp; omega) (by simp; omega)
      obtain ⟨A6, c6, hv6, _, _, _⟩ := hown6.row GIns.len
      have hqb : ∀ g, Value.ownBlock (.slice A5 xs.length c5) = some g → w.heap.size + 1 ≤ g := fun g hg => (HI.out.own.lt g hg).1
      have HI2 : Hid (PrI w.heap.size A len cap n w1 (i + 1) v' (xs ++ [⟨xo, xa, xb, xc, xi⟩]) q2 w6) := Lib.hid
        ⟨(hgr6.block _ (by have := HI.out.frm.size; have := hf3.size; simp; omega) (by intro e9; have := hqb _ e9.symm; omega)).trans ((Below.heap_alloc _ _ _ (by have := HI.out.frm.size; have := hf3.size; omega)).trans HNUM.out), HFW.out,
          (HF3.out.lit _).grown hgr6 (fun g hg => by have := hqb g hg; omega), hown6, by rw [List.length_append, hic]; rfl, fun y hy => by
            rcases List.mem_append.1 hy with h1 | h1
            · exact HI.out.ok y h1
            · rw [List.mem_singleton] at h1; subst h1; exact ⟨k, hk, hok⟩⟩
      have HRUN := Lib.hid hrun
      have hll : (xs ++ [(⟨xo, xa, xb, xc, xi⟩ : GIns)]).length = i + 1 := by rw [List.length_append, hic]; rfl
      subst hv6
      rw [hll] at HRUN HI2
      rw [hic] at HRUN
      simp only [List.length_singleton] at HRUN
      rw [hic]
      clear hnum3 hf3 hown3 hlit hrun hown6 hgr6 hob hqb hok hll HI
      go_wp2_with (at_builtin; refine wpList_gapp HRUN.out rfl rfl rfl rfl rfl ?_)
      go_wp2
      go_roundw
      case rel => exact ⟨i + 1, _, q2, by go_num, by omega, HI2⟩
      case measure => simp [intOf]; omega
    · have f0 : decide ((i : Int) < 1 + (r : Int)) = false := by simp; omega
      have f0' : ¬ (i : Int) < 1 + (r : Int) := by omega
      go_wp2
      go_ret
      have hic : xs.length = i := HI.out.cnt
      have hin : xs.length = n := by omega
      exact ⟨_, rfl, xs, HI.out.own.base (by omega), by omega, by omega, by rw [hin]; exact HI.out.ok, HB1.out.trans (HI.out.frm.bel (base := w.heap.size) (fun g hg => by omega) (by omega))⟩
end Go.Proofs.YtcmohijjpnebpaaGreatDoor


namespace Go.Proofs.YtcmohijjpnebpaaGreatDoor

open Go.RowKit

set_option maxRecDepth 50000 in
set_option maxHeartbeats 1000000 in
theorem dis_bad (ps : List GIns) (A : Option Addr) (c : Nat) (w : World) (hG : GlobF w) (h : GRow GIns.cells 5 w w.heap.size A ps) (hi : ∀ x ∈ ps, ImmOk x) (hv : valP ps ≠ 0) :
    Calls Tryz.prog 18 #[.slice A ps.length c] w fun e w' => e = .returned (.string ⟨#[]⟩) ∧ Below w.heap.size w w' := by
  have HV := Lib.hid (validate_any ps A c w hG h hi)
  generalize valP ps = ev at *
  have f1 : (ev != 0) = true := by simp [hv]
  clear hG h hi
  go_enter Tryz.func18, Tryz.ntmps18
  go_wp2_with fail
  go_fit HV.out
  rintro e w1 ⟨rfl, hb1⟩
  have HB1 := Lib.hid hb1
  clear hb1
  go_wp2
  go_ret
  exact ⟨rfl, HB1.out⟩
theorem GRow.set1 {w : World} {B g : Nat} {xs : List GIns} (h : GRow GIns.cells 5 w B (some ⟨g, 0, none⟩) xs) {k j0 : Nat} (hk : k < xs.length) (hj0 : j0 < 5) (u : Value) (x : GIns) (hx : x.cells = xs[k].cells.set j0 u) :
    GRow GIns.cells 5 (w.setCell ⟨g, k * 5 + j0, none⟩ u) B (some ⟨g, 0, none⟩) (xs.set k x) := fun hn => by
  rw [List.length_set] at hn
  obtain ⟨b, o, e, hb, hc⟩ := h hn
  cases e
  refine ⟨g, 0, rfl, hb, fun i hi j v hv => ?_⟩
  have hj : j < 5 := by
    rcases Nat.lt_or_ge j 5 with h1 | h1
    · exact h1
    · rw [List.getElem?_eq_none (by rw [GIns.len]; exact h1)] at hv; cases hv
  have hi2 : i < xs.length := by simpa using hi
  rw [Nat.zero_add]
  by_cases hik : i = k
  · subst hik
    rw [List.getElem_set_self, hx] at hv
    by_cases hjj : j = j0
    · subst hjj
      rw [List.getElem?_set_self (by rw [GIns.len]; exact hj)] at hv
      injection hv with hv
      subst hv
      have hold := hc i hi2 j (xs[i].cells[j]'(by rw [GIns.len]; exact hj)) (List.getElem?_eq_getElem _)
      rw [Nat.zero_add] at hold
      exact World.cell?_setCell_same w _ _ hold
    · rw [List.getElem?_set_ne (fun e => hjj e.symm)] at hv
      have hold := hc i hi2 j v hv
      rw [Nat.zero_add] at hold
      rw [World.cell?_setCell_other w _ _ _ (fun e => by have h9 := congrArg Addr.off e; simp only at h9; omega)]
      exact hold
  · rw [List.getElem_set_ne (fun e => hik e.symm)] at hv
    have hold := hc i hi2 j v hv
    rw [Nat.zero_add] at hold
    rw [World.cell?_setCell_other w _ _ _ (fun e => by have h9 := congrArg Addr.off e; simp only at h9; omega)]
    exact hold
theorem valL_set {n : Nat} {c : Int} (hc : c ≠ 0) : ∀ {xs : List GIns} {k : Nat} (x : GIns), (∀ y ∈ xs, chkI y n = 0) → k < xs.length → chkI x n = c → valL n (xs.set k x) = c
  | [], k, _, _, h, _ => absurd h (by simp)
  | y :: r, 0, x, _, _, hx => by
    rw [List.set_cons_zero, valL, hx, if_pos hc]
  | y :: r, k + 1, x, h, hk, hx => by
    rw [List.set_cons_succ, valL, h y (by simp), if_neg (by omega)]
    exact valL_set hc x (fun z hz => h z (by simp [hz])) (by simpa using hk) hx
theorem chk_op {x : GIns} {n : Nat} (h : x.op < 0 ∨ 28 ≤ x.op) : chkI x n = 70 := by unfold chkI; rw [if_pos h]
theorem chk_reg {x : GIns} {n : Nat} (h : ¬ (x.op < 0 ∨ 28 ≤ x.op)) (ha : 16 ≤ x.a) : chkI x n = 70 := by
  unfold chkI chkF
  have hr : ∀ f, regB f 0 x.a = false := fun f => by unfold regB; simp; omega
  rw [if_neg h, if_pos (by rw [hr]; rfl)]
theorem chk_halt {v : Int} {n : Nat} (h : 1 ≤ v) : chkI ⟨0, 0, 0, v, 0⟩ n = 70 := by
  have hr : regB 0 2 v = false := by unfold regB; simp; omega
  show (if (0 : Int) < 0 ∨ 28 ≤ (0 : Int) then (70 : Int) else chkF 0 0 ⟨0, 0, 0, v, 0⟩ n) = 70
  rw [if_neg (by omega)]
  unfold chkF
  rw [if_pos (by rw [hr]; simp)]
theorem chk_jmp {v : Int} {n : Nat} (h : (n : Int) ≤ v) : chkI ⟨18, 0, 0, 0, v⟩ n = 71 := by
  show (if (18 : Int) < 0 ∨ 28 ≤ (18 : Int) then (70 : Int) else chkF 0 2 ⟨18, 0, 0, 0, v⟩ n) = 71
  rw [if_neg (by omega)]
  unfold chkF
  rw [if_neg (show ¬ ((regB 0 0 0 && regB 0 1 0 && regB 0 2 0) = false) by decide), if_neg (by omega), if_pos ⟨rfl, .inr h⟩]
theorem AllOk.zero {n : Nat} {xs : List GIns} (h : AllOk n xs) : ∀ y ∈ xs, chkI y n = 0 := fun y hy => by obtain ⟨k, hk, h2⟩ := h y hy; exact h2.chk hk
theorem valP_set {xs : List GIns} {k : Nat} {x : GIns} {c : Int} (hc : c ≠ 0) (h : AllOk xs.length xs) (h1 : xs.length ≤ 12) (hk : k < xs.length) (hx : chkI x xs.length = c) : valP (xs.set k x) = c := by
  unfold valP
  rw [List.length_set, if_neg (by omega)]
  exact valL_set hc x h.zero hk hx
theorem imm_set {xs : List GIns} {k : Nat} {x : GIns} (h : ∀ y ∈ xs, ImmOk y) (hx : ImmOk x) : ∀ y ∈ xs.set k x, ImmOk y := fun y hy => by
  rcases List.mem_or_eq_of_mem_set hy with h1 | h1
  · exact h y h1
  · subst h1; exact hx
end Go.Proofs.YtcmohijjpnebpaaGreatDoor


namespace Go.Proofs.YtcmohijjpnebpaaGreatDoor

open Go.RowKit

theorem wraps9 (v n : Nat) (h : v < 1000) (hn : n ≤ 12) : wrap64 (28 + (v : Int)) = 28 + (v : Int) ∧ wrap64 (-1 - (v : Int)) = -1 - (v : Int) ∧ wrap64 (16 + (v : Int)) = 16 + (v : Int) ∧ wrap64 (1 + (v : Int)) = 1 + (v : Int) ∧ wrap64 ((n : Int) + (v : Int)) = (n : Int) + (v : Int) ∧ IntKind.i32.wrap ((n : Int) + (v : Int)) = (n : Int) + (v : Int) :=
  ⟨IntWalk.wrap64_in _ (by omega), IntWalk.wrap64_in _ (by omega), IntWalk.wrap64_in _ (by omega), IntWalk.wrap64_in _ (by omega), IntWalk.wrap64_in _ (by omega), IntWalk.i32_in _ (by omega)⟩
theorem five {x : Int} (h0 : 0 ≤ x) (h1 : x < 5) : x = 0 ∨ x = 1 ∨ x = 2 ∨ x = 3 ∨ x = 4 := by omega
set_option maxRecDepth 50000 in
set_option maxHeartbeats 4000000 in
theorem spoilt_any (A : Option Addr) (len cap : Nat) (zs : List Int) (which how by_ : Int) (w : World) (hG : GlobI w) (hr : IRow w w.heap.size A len cap zs) :
    Calls Tryz.prog 7 #[.slice A len cap, .int .i64 which, .int .i64 how, .int .i64 by_] w fun e w' => e = .returned (.bool true) ∧ Below w.heap.size w w' := by
  have HG := Lib.hid hG
  have HAW := Lib.hid fun W hW => awake9 W hW
  by_cases hl : 200 < len
  · have f0 : decide ((200 : Int) < len) = true := by simp; omega
    have HA0 := Lib.hid (HAW.out w hG)
    clear hG hr
    go_enter Tryz.func7, Tryz.ntmps7
    go_wp2_with fail
    go_fit HA0.out
    rintro e w1 ⟨rfl, hb1⟩
    have HB1 := Lib.hid hb1
    clear hb1
    go_wp2
    go_ret
    exact ⟨rfl, HB1.out⟩
  · have f0 : decide ((200 : Int) < len) = false := by simp; omega
    have f0' : ¬ (200 : Int) < len := by omega
    have HPK := Lib.hid (program_kit A len cap zs w hr)
    clear hG hr hl
    go_enter Tryz.func7, Tryz.ntmps7
    go_wp2_with fail
    go_fit HPK.out
    rintro e w1 ⟨v, xs, rfl, hown, hn1, hn2, hall, hb1⟩
    have HB1 := Lib.hid hb1
    have HALL := Lib.hid hall
    obtain ⟨A1, c1, hv, hcap1, _, hrow⟩ := hown.row GIns.len
    subst hv
    have HROW := Lib.hid hrow
    obtain ⟨g, c9, ev9⟩ : ∃ g c9, Value.slice A1 xs.length c1 = .slice (some ⟨g, 0, none⟩) xs.length c9 := by
      rcases hown.2 with ⟨_, h0⟩ | ⟨g, cap, cur, e, _⟩
      · omega
      · exact ⟨g, cap, e⟩
    injection ev9 with ea _ ec
    subst ea ec
    have hgw : w.heap.size ≤ g := (hown.lt g rfl).1
    have hgl : g < w1.heap.size := (hown.lt g rfl).2
    have hfz : ∀ j, w1.frozen? ⟨g, j, none⟩ = false := by
      rcases hown.2 with ⟨hq, _⟩ | ⟨g', cap', cur, e, _, hh, _⟩
      · cases hq
      · cases e; exact fun j => Lib.frozen_of_heap hh j
    have HP1 := Lib.hid fun W => place_eq which (xs.length : Int) (by omega) (by omega) W
    have HP2 := Lib.hid fun W => place_eq by_ 1000 (by omega) (by omega) W
    have HP3 := Lib.hid fun W => place_eq how 5 (by omega) (by omega) W
    have hk1 := placeI_bd which (xs.length : Int) (by omega)
    have hk2 := placeI_bd by_ 1000 (by omega)
    have hk3 := placeI_bd how 5 (by omega)
    generalize placeI which (xs.length : Int) = ki at *
    generalize placeI by_ 1000 = vi at *
    generalize placeI how 5 = hi at *
    obtain ⟨k, rfl⟩ : ∃ k : Nat, ki = k := ⟨ki.toNat, by omega⟩
    obtain ⟨v, rfl⟩ : ∃ v : Nat, vi = v := ⟨vi.toNat, by omega⟩
    have hkl : k < xs.length := by omega
    have hv9 : v < 1000 := by omega
    obtain ⟨b0, o0, e0, hb0, x0, x1, x2, x3, x4⟩ := hrow.ins hkl
    cases e0
    simp only [Nat.zero_add] at x0 x1 x2 x3 x4
    have z0 := hfz (k * 5)
    have z1 := hfz (k * 5 + 1)
    have z2 := hfz (k * 5 + 2)
    have z3 := hfz (k * 5 + 3)
    have z4 := hfz (k * 5 + 4)
    have HOK := Lib.hid (show ∃ q, q < 28 ∧ InsOk q xs.length xs[k] from hall _ (List.getElem_mem hkl))
    have HXK0 : Hid (xs[k] = xs[k]) := Lib.hid rfl
    have HOI0 := Lib.hid (HALL.out.imm _ (List.getElem_mem hkl))
    obtain ⟨⟨xo, xa, xb, xc, xi⟩, hxk⟩ : ∃ x, xs[k] = x := ⟨_, rfl⟩
    have HXK := Lib.hid hxk
    rw [hxk] at x0 x1 x2 x3 x4 HOK HOI0
    have HOI : Hid (ImmOk ⟨xo, xa, xb, xc, xi⟩) := HOI0
    clear HXK0 HOI0
    simp only at x0 x1 x2 x3 x4
    clear hown hrow hb1 hfz hall hxk HPK
    have hki : (k : Int) < xs.length := by omega
    have HW9 := Lib.hid (wraps9 v xs.length hv9 hn2)
    obtain ⟨hk31, hk32⟩ := hk3
    rcases five hk31 hk32 with rfl | rfl | rfl | rfl | rfl
    · have HVP : Hid (valP (xs.set k ⟨28 + (v : Int), xa, xb, xc, xi⟩) = 70) := Lib.hid (valP_set (by decide) HALL.out hn2 hkl (chk_op (.inr (by show (28 : Int) ≤ 28 + (v : Int); omega))))
      have HIM : Hid (∀ y ∈ xs.set k ⟨28 + (v : Int), xa, xb, xc, xi⟩, ImmOk y) := Lib.hid (imm_set HALL.out.imm HOI.out)
      have hr0 := HROW.out
      have hr1 : GRow GIns.cells 5 (w1.setCell ⟨g, k * 5, none⟩ (.int .i64 (28 + (v : Int)))) w1.heap.size (some ⟨g, 0, none⟩) ((xs.set k ⟨(28 + (v : Int)), xa, xb, xc, xi⟩)) := hr0.set1 (k := k) (j0 := 0) (by exact hkl) (by decide) (.int .i64 (28 + (v : Int))) ⟨(28 + (v : Int)), xa, xb, xc, xi⟩ (by simp [GIns.cells, HXK.out])
      try simp only [List.set_set] at hr1
      have HR9 : Hid (GRow GIns.cells 5 (w1.setCell ⟨g, k * 5, none⟩ (.int .i64 (28 + (v : Int)))) (w1.setCell ⟨g, k * 5, none⟩ (.int .i64 (28 + (v : Int)))).heap.size (some ⟨g, 0, none⟩) (xs.set k ⟨28 + (v : Int), xa, xb, xc, xi⟩)) := Lib.hid (hr1.wide (by simp))
      clear hr0 hr1
      have HBW : Hid (Below w.heap.size w (w1.setCell ⟨g, k * 5, none⟩ (.int .i64 (28 + (v : Int))))) := Lib.hid ((HB1.out).setCell (p := ⟨g, k * 5, none⟩) hgw _)
      have HLS : Hid ((xs.set k ⟨28 + (v : Int), xa, xb, xc, xi⟩).length = xs.length) := Lib.hid (List.length_set ..)
      have HENC : Hid (Calls Tryz.prog 11 #[.slice (some ⟨g, 0, none⟩) xs.length c1] (w1.setCell ⟨g, k * 5, none⟩ (.int .i64 (28 + (v : Int)))) fun e w' => Below ((w1.setCell ⟨g, k * 5, none⟩ (.int .i64 (28 + (v : Int))))).heap.size (w1.setCell ⟨g, k * 5, none⟩ (.int .i64 (28 + (v : Int)))) w' ∧ e = .returned (.tuple #[.slice none 0 0, .int .i64 70])) := Lib.hid (by
        have h := encode_any (xs.set k ⟨28 + (v : Int), xa, xb, xc, xi⟩) (some ⟨g, 0, none⟩) c1 (w1.setCell ⟨g, k * 5, none⟩ (.int .i64 (28 + (v : Int)))) (HG.out.next HBW.out).2 HR9.out HIM.out
        rw [HLS.out] at h
        refine h.mono ?_
        rintro e w' ⟨h1, h2⟩
        rw [HVP.out, if_neg (by decide)] at h2
        exact ⟨h1, h2⟩)
      have HVAL : Hid (∀ W', Below ((w1.setCell ⟨g, k * 5, none⟩ (.int .i64 (28 + (v : Int))))).heap.size (w1.setCell ⟨g, k * 5, none⟩ (.int .i64 (28 + (v : Int)))) W' → Calls Tryz.prog 16 #[.slice (some ⟨g, 0, none⟩) xs.length c1] W' fun e w' => e = .returned (.int .i64 70) ∧ Below W'.heap.size W' w') := Lib.hid fun W' hW => by
        have h := validate_any (xs.set k ⟨28 + (v : Int), xa, xb, xc, xi⟩) (some ⟨g, 0, none⟩) c1 W' ((HG.out.next HBW.out).next hW).2 (HR9.out.next hW) HIM.out
        rw [HLS.out, HVP.out] at h
        exact h
      have HDIS : Hid (∀ W', Below ((w1.setCell ⟨g, k * 5, none⟩ (.int .i64 (28 + (v : Int))))).heap.size (w1.setCell ⟨g, k * 5, none⟩ (.int .i64 (28 + (v : Int)))) W' → Calls Tryz.prog 18 #[.slice (some ⟨g, 0, none⟩) xs.length c1] W' fun e w' => e = .returned (.string ⟨#[]⟩) ∧ Below W'.heap.size W' w') := Lib.hid fun W' hW => by
        have h := dis_bad (xs.set k ⟨28 + (v : Int), xa, xb, xc, xi⟩) (some ⟨g, 0, none⟩) c1 W' ((HG.out.next HBW.out).next hW).2 (HR9.out.next hW) HIM.out (by rw [HVP.out]; decide)
        rw [HLS.out] at h
        exact h
      have HGW := Lib.hid (HG.out.next HBW.out)
      clear HR9 HVP HIM HLS HALL HROW HB1
      clear hk1 hk2 hk31 hk32
      have hw1 := HW9.out.1
      clear HOK HXK HOI HW9
      go_wp2_with fail
      go_fit (HP1.out _)
      rintro e w2 ⟨rfl, rfl⟩
      go_wp2_with fail
      go_fit (HP2.out _)
      rintro e w2 ⟨rfl, rfl⟩
      go_wp2_with fail
      go_fit (HP3.out _)
      rintro e w2 ⟨rfl, rfl⟩
      clear HP1 HP2 HP3
      go_wp2_with fail
      go_fit HENC.out
      rintro e w3 ⟨hb3, rfl⟩
      have HB3 := Lib.hid hb3
      have HV3 := Lib.hid (HVAL.out w3 hb3)
      clear hb3 x0 x1 x2 x3 x4 z0 z1 z2 z3 z4
      go_wp2_with fail
      go_fit HV3.out
      rintro e w4 ⟨rfl, hb4⟩
      have HB4 := Lib.hid (bel_next HB3.out hb4)
      have HD4 := Lib.hid (HDIS.out w4 HB4.out)
      clear hb4
      go_wp2_with fail
      go_fit HD4.out
      rintro e w5 ⟨rfl, hb5⟩
      have HB5 := Lib.hid (bel_next HB4.out hb5)
      have HA5 := Lib.hid (HAW.out w5 (HGW.out.next HB5.out))
      clear hb5
      go_wp2_with fail
      go_fit HA5.out
      rintro e w6 ⟨rfl, hb6⟩
      have HB6 := Lib.hid (bel_next HBW.out (bel_next HB5.out hb6))
      clear hb6
      go_wp2
      go_ret
      exact ⟨rfl, HB6.out⟩
    · have HVP : Hid (valP (xs.set k ⟨-1 - (v : Int), xa, xb, xc, xi⟩) = 70) := Lib.hid (valP_set (by decide) HALL.out hn2 hkl (chk_op (.inl (by show -1 - (v : Int) < 0; omega))))
      have HIM : Hid (∀ y ∈ xs.set k ⟨-1 - (v : Int), xa, xb, xc, xi⟩, ImmOk y) := Lib.hid (imm_set HALL.out.imm HOI.out)
      have hr0 := HROW.out
      have hr1 : GRow GIns.cells 5 (w1.setCell ⟨g, k * 5, none⟩ (.int .i64 (-1 - (v : Int)))) w1.heap.size (some ⟨g, 0, none⟩) ((xs.set k ⟨(-1 - (v : Int)), xa, xb, xc, xi⟩)) := hr0.set1 (k := k) (j0 := 0) (by exact hkl) (by decide) (.int .i64 (-1 - (v : Int))) ⟨(-1 - (v : Int)), xa, xb, xc, xi⟩ (by simp [GIns.cells, HXK.out])
      try simp only [List.set_set] at hr1
      have HR9 : Hid (GRow GIns.cells 5 (w1.setCell ⟨g, k * 5, none⟩ (.int .i64 (-1 - (v : Int)))) (w1.setCell ⟨g, k * 5, none⟩ (.int .i64 (-1 - (v : Int)))).heap.size (some ⟨g, 0, none⟩) (xs.set k ⟨-1 - (v : Int), xa, xb, xc, xi⟩)) := Lib.hid (hr1.wide (by simp))
      clear hr0 hr1
      have HBW : Hid (Below w.heap.size w (w1.setCell ⟨g, k * 5, none⟩ (.int .i64 (-1 - (v : Int))))) := Lib.hid ((HB1.out).setCell (p := ⟨g, k * 5, none⟩) hgw _)
      have HLS : Hid ((xs.set k ⟨-1 - (v : Int), xa, xb, xc, xi⟩).length = xs.length) := Lib.hid (List.length_set ..)
      have HENC : Hid (Calls Tryz.prog 11 #[.slice (some ⟨g, 0, none⟩) xs.length c1] (w1.setCell ⟨g, k * 5, none⟩ (.int .i64 (-1 - (v : Int)))) fun e w' => Below ((w1.setCell ⟨g, k * 5, none⟩ (.int .i64 (-1 - (v : Int))))).heap.size (w1.setCell ⟨g, k * 5, none⟩ (.int .i64 (-1 - (v : Int)))) w' ∧ e = .returned (.tuple #[.slice none 0 0, .int .i64 70])) := Lib.hid (by
        have h := encode_any (xs.set k ⟨-1 - (v : Int), xa, xb, xc, xi⟩) (some ⟨g, 0, none⟩) c1 (w1.setCell ⟨g, k * 5, none⟩ (.int .i64 (-1 - (v : Int)))) (HG.out.next HBW.out).2 HR9.out HIM.out
        rw [HLS.out] at h
        refine h.mono ?_
        rintro e w' ⟨h1, h2⟩
        rw [HVP.out, if_neg (by decide)] at h2
        exact ⟨h1, h2⟩)
      have HVAL : Hid (∀ W', Below ((w1.setCell ⟨g, k * 5, none⟩ (.int .i64 (-1 - (v : Int))))).heap.size (w1.setCell ⟨g, k * 5, none⟩ (.int .i64 (-1 - (v : Int)))) W' → Calls Tryz.prog 16 #[.slice (some ⟨g, 0, none⟩) xs.length c1] W' fun e w' => e = .returned (.int .i64 70) ∧ Below W'.heap.size W' w') := Lib.hid fun W' hW => by
        have h := validate_any (xs.set k ⟨-1 - (v : Int), xa, xb, xc, xi⟩) (some ⟨g, 0, none⟩) c1 W' ((HG.out.next HBW.out).next hW).2 (HR9.out.next hW) HIM.out
        rw [HLS.out, HVP.out] at h
        exact h
      have HDIS : Hid (∀ W', Below ((w1.setCell ⟨g, k * 5, none⟩ (.int .i64 (-1 - (v : Int))))).heap.size (w1.setCell ⟨g, k * 5, none⟩ (.int .i64 (-1 - (v : Int)))) W' → Calls Tryz.prog 18 #[.slice (some ⟨g, 0, none⟩) xs.length c1] W' fun e w' => e = .returned (.string ⟨#[]⟩) ∧ Below W'.heap.size W' w') := Lib.hid fun W' hW => by
        have h := dis_bad (xs.set k ⟨-1 - (v : Int), xa, xb, xc, xi⟩) (some ⟨g, 0, none⟩) c1 W' ((HG.out.next HBW.out).next hW).2 (HR9.out.next hW) HIM.out (by rw [HVP.out]; decide)
        rw [HLS.out] at h
        exact h
      have HGW := Lib.hid (HG.out.next HBW.out)
      clear HR9 HVP HIM HLS HALL HROW HB1
      clear hk1 hk2 hk31 hk32
      have hw2 := HW9.out.2.1
      clear HOK HXK HOI HW9
      go_wp2_with fail
      go_fit (HP1.out _)
      rintro e w2 ⟨rfl, rfl⟩
      go_wp2_with fail
      go_fit (HP2.out _)
      rintro e w2 ⟨rfl, rfl⟩
      go_wp2_with fail
      go_fit (HP3.out _)
      rintro e w2 ⟨rfl, rfl⟩
      clear HP1 HP2 HP3
      go_wp2_with fail
      go_fit HENC.out
      rintro e w3 ⟨hb3, rfl⟩
      have HB3 := Lib.hid hb3
      have HV3 := Lib.hid (HVAL.out w3 hb3)
      clear hb3 x0 x1 x2 x3 x4 z0 z1 z2 z3 z4
      go_wp2_with fail
      go_fit HV3.out
      rintro e w4 ⟨rfl, hb4⟩
      have HB4 := Lib.hid (bel_next HB3.out hb4)
      have HD4 := Lib.hid (HDIS.out w4 HB4.out)
      clear hb4
      go_wp2_with fail
      go_fit HD4.out
      rintro e w5 ⟨rfl, hb5⟩
      have HB5 := Lib.hid (bel_next HB4.out hb5)
      have HA5 := Lib.hid (HAW.out w5 (HGW.out.next HB5.out))
      clear hb5
      go_wp2_with fail
      go_fit HA5.out
      rintro e w6 ⟨rfl, hb6⟩
      have HB6 := Lib.hid (bel_next HBW.out (bel_next HB5.out hb6))
      clear hb6
      go_wp2
      go_ret
      exact ⟨rfl, HB6.out⟩
    · have HVP : Hid (valP (xs.set k ⟨xo, 16 + (v : Int), xb, xc, xi⟩) = 70) := Lib.hid (valP_set (by decide) HALL.out hn2 hkl ((by obtain ⟨q, hq, ho⟩ := HOK.out; have := ho.op; exact chk_reg (by show ¬ (xo < 0 ∨ 28 ≤ xo); simp only at this; omega) (by show (16 : Int) ≤ 16 + (v : Int); omega))))
      have HIM : Hid (∀ y ∈ xs.set k ⟨xo, 16 + (v : Int), xb, xc, xi⟩, ImmOk y) := Lib.hid (imm_set HALL.out.imm HOI.out)
      have hr0 := HROW.out
      have hr1 : GRow GIns.cells 5 (w1.setCell ⟨g, k * 5 + 1, none⟩ (.int .i64 (16 + (v : Int)))) w1.heap.size (some ⟨g, 0, none⟩) ((xs.set k ⟨xo, (16 + (v : Int)), xb, xc, xi⟩)) := hr0.set1 (k := k) (j0 := 1) (by exact hkl) (by decide) (.int .i64 (16 + (v : Int))) ⟨xo, (16 + (v : Int)), xb, xc, xi⟩ (by simp [GIns.cells, HXK.out])
      try simp only [List.set_set] at hr1
      have HR9 : Hid (GRow GIns.cells 5 (w1.setCell ⟨g, k * 5 + 1, none⟩ (.int .i64 (16 + (v : Int)))) (w1.setCell ⟨g, k * 5 + 1, none⟩ (.int .i64 (16 + (v : Int)))).heap.size (some ⟨g, 0, none⟩) (xs.set k ⟨xo, 16 + (v : Int), xb, xc, xi⟩)) := Lib.hid (hr1.wide (by simp))
      clear hr0 hr1
      have HBW : Hid (Below w.heap.size w (w1.setCell ⟨g, k * 5 + 1, none⟩ (.int .i64 (16 + (v : Int))))) := Lib.hid ((HB1.out).setCell (p := ⟨g, k * 5 + 1, none⟩) hgw _)
      have HLS : Hid ((xs.set k ⟨xo, 16 + (v : Int), xb, xc, xi⟩).length = xs.length) := Lib.hid (List.length_set ..)
      have HENC : Hid (Calls Tryz.prog 11 #[.slice (some ⟨g, 0, none⟩) xs.length c1] (w1.setCell ⟨g, k * 5 + 1, none⟩ (.int .i64 (16 + (v : Int)))) fun e w' => Below ((w1.setCell ⟨g, k * 5 + 1, none⟩ (.int .i64 (16 + (v : Int))))).heap.size (w1.setCell ⟨g, k * 5 + 1, none⟩ (.int .i64 (16 + (v : Int)))) w' ∧ e = .returned (.tuple #[.slice none 0 0, .int .i64 70])) := Lib.hid (by
        have h := encode_any (xs.set k ⟨xo, 16 + (v : Int), xb, xc, xi⟩) (some ⟨g, 0, none⟩) c1 (w1.setCell ⟨g, k * 5 + 1, none⟩ (.int .i64 (16 + (v : Int)))) (HG.out.next HBW.out).2 HR9.out HIM.out
        rw [HLS.out] at h
        refine h.mono ?_
        rintro e w' ⟨h1, h2⟩
        rw [HVP.out, if_neg (by decide)] at h2
        exact ⟨h1, h2⟩)
      have HVAL : Hid (∀ W', Below ((w1.setCell ⟨g, k * 5 + 1, none⟩ (.int .i64 (16 + (v : Int))))).heap.size (w1.setCell ⟨g, k * 5 + 1, none⟩ (.int .i64 (16 + (v : Int)))) W' → Calls Tryz.prog 16 #[.slice (some ⟨g, 0, none⟩) xs.length c1] W' fun e w' => e = .returned (.int .i64 70) ∧ Below W'.heap.size W' w') := Lib.hid fun W' hW => by
        have h := validate_any (xs.set k ⟨xo, 16 + (v : Int), xb, xc, xi⟩) (some ⟨g, 0, none⟩) c1 W' ((HG.out.next HBW.out).next hW).2 (HR9.out.next hW) HIM.out
        rw [HLS.out, HVP.out] at h
        exact h
      have HDIS : Hid (∀ W', Below ((w1.setCell ⟨g, k * 5 + 1, none⟩ (.int .i64 (16 + (v : Int))))).heap.size (w1.setCell ⟨g, k * 5 + 1, none⟩ (.int .i64 (16 + (v : Int)))) W' → Calls Tryz.prog 18 #[.slice (some ⟨g, 0, none⟩) xs.length c1] W' fun e w' => e = .returned (.string ⟨#[]⟩) ∧ Below W'.heap.size W' w') := Lib.hid fun W' hW => by
        have h := dis_bad (xs.set k ⟨xo, 16 + (v : Int), xb, xc, xi⟩) (some ⟨g, 0, none⟩) c1 W' ((HG.out.next HBW.out).next hW).2 (HR9.out.next hW) HIM.out (by rw [HVP.out]; decide)
        rw [HLS.out] at h
        exact h
      have HGW := Lib.hid (HG.out.next HBW.out)
      clear HR9 HVP HIM HLS HALL HROW HB1
      clear hk1 hk2 hk31 hk32
      have hw3 := HW9.out.2.2.1
      clear HOK HXK HOI HW9
      go_wp2_with fail
      go_fit (HP1.out _)
      rintro e w2 ⟨rfl, rfl⟩
      go_wp2_with fail
      go_fit (HP2.out _)
      rintro e w2 ⟨rfl, rfl⟩
      go_wp2_with fail
      go_fit (HP3.out _)
      rintro e w2 ⟨rfl, rfl⟩
      clear HP1 HP2 HP3
      go_wp2_with fail
      go_fit HENC.out
      rintro e w3 ⟨hb3, rfl⟩
      have HB3 := Lib.hid hb3
      have HV3 := Lib.hid (HVAL.out w3 hb3)
      clear hb3 x0 x1 x2 x3 x4 z0 z1 z2 z3 z4
      go_wp2_with fail
      go_fit HV3.out
      rintro e w4 ⟨rfl, hb4⟩
      have HB4 := Lib.hid (bel_next HB3.out hb4)
      have HD4 := Lib.hid (HDIS.out w4 HB4.out)
      clear hb4
      go_wp2_with fail
      go_fit HD4.out
      rintro e w5 ⟨rfl, hb5⟩
      have HB5 := Lib.hid (bel_next HB4.out hb5)
      have HA5 := Lib.hid (HAW.out w5 (HGW.out.next HB5.out))
      clear hb5
      go_wp2_with fail
      go_fit HA5.out
      rintro e w6 ⟨rfl, hb6⟩
      have HB6 := Lib.hid (bel_next HBW.out (bel_next HB5.out hb6))
      clear hb6
      go_wp2
      go_ret
      exact ⟨rfl, HB6.out⟩
    · have HVP : Hid (valP (xs.set k ⟨0, 0, 0, 1 + (v : Int), 0⟩) = 70) := Lib.hid (valP_set (by decide) HALL.out hn2 hkl (chk_halt (by omega)))
      have HIM : Hid (∀ y ∈ xs.set k ⟨0, 0, 0, 1 + (v : Int), 0⟩, ImmOk y) := Lib.hid (imm_set HALL.out.imm ⟨by show (-2147483648 : Int) ≤ 0; decide, by show (0 : Int) ≤ 2147483647; decide⟩)
      have hr0 := HROW.out
      have hr1 : GRow GIns.cells 5 (w1.setCell ⟨g, k * 5, none⟩ (.int .i64 0)) w1.heap.size (some ⟨g, 0, none⟩) ((xs.set k ⟨0, xa, xb, xc, xi⟩)) := hr0.set1 (k := k) (j0 := 0) (by exact hkl) (by decide) (.int .i64 0) ⟨0, xa, xb, xc, xi⟩ (by simp [GIns.cells, HXK.out])
      have hr2 : GRow GIns.cells 5 ((w1.setCell ⟨g, k * 5, none⟩ (.int .i64 0)).setCell ⟨g, k * 5 + 1, none⟩ (.int .i64 0)) w1.heap.size (some ⟨g, 0, none⟩) (((xs.set k ⟨0, xa, xb, xc, xi⟩).set k ⟨0, 0, xb, xc, xi⟩)) := hr1.set1 (k := k) (j0 := 1) (by simpa using hkl) (by decide) (.int .i64 0) ⟨0, 0, xb, xc, xi⟩ (by simp [GIns.cells])
      have hr3 : GRow GIns.cells 5 (((w1.setCell ⟨g, k * 5, none⟩ (.int .i64 0)).setCell ⟨g, k * 5 + 1, none⟩ (.int .i64 0)).setCell ⟨g, k * 5 + 2, none⟩ (.int .i64 0)) w1.heap.size (some ⟨g, 0, none⟩) ((((xs.set k ⟨0, xa, xb, xc, xi⟩).set k ⟨0, 0, xb, xc, xi⟩).set k ⟨0, 0, 0, xc, xi⟩)) := hr2.set1 (k := k) (j0 := 2) (by simpa using hkl) (by decide) (.int .i64 0) ⟨0, 0, 0, xc, xi⟩ (by simp [GIns.cells])
      have hr4 : GRow GIns.cells 5 ((((w1.setCell ⟨g, k * 5, none⟩ (.int .i64 0)).setCell ⟨g, k * 5 + 1, none⟩ (.int .i64 0)).setCell ⟨g, k * 5 + 2, none⟩ (.int .i64 0)).setCell ⟨g, k * 5 + 3, none⟩ (.int .i64 (1 + (v : Int)))) w1.heap.size (some ⟨g, 0, none⟩) (((((xs.set k ⟨0, xa, xb, xc, xi⟩).set k ⟨0, 0, xb, xc, xi⟩).set k ⟨0, 0, 0, xc, xi⟩).set k ⟨0, 0, 0, (1 + (v : Int)), xi⟩)) := hr3.set1 (k := k) (j0 := 3) (by simpa using hkl) (by decide) (.int .i64 (1 + (v : Int))) ⟨0, 0, 0, (1 + (v : Int)), xi⟩ (by simp [GIns.cells])
      have hr5 : GRow GIns.cells 5 (((((w1.setCell ⟨g, k * 5, none⟩ (.int .i64 0)).setCell ⟨g, k * 5 + 1, none⟩ (.int .i64 0)).setCell ⟨g, k * 5 + 2, none⟩ (.int .i64 0)).setCell ⟨g, k * 5 + 3, none⟩ (.int .i64 (1 + (v : Int)))).setCell ⟨g, k * 5 + 4, none⟩ (.int .i32 0)) w1.heap.size (some ⟨g, 0, none⟩) ((((((xs.set k ⟨0, xa, xb, xc, xi⟩).set k ⟨0, 0, xb, xc, xi⟩).set k ⟨0, 0, 0, xc, xi⟩).set k ⟨0, 0, 0, (1 + (v : Int)), xi⟩).set k ⟨0, 0, 0, (1 + (v : Int)), 0⟩)) := hr4.set1 (k := k) (j0 := 4) (by simpa using hkl) (by decide) (.int .i32 0) ⟨0, 0, 0, (1 + (v : Int)), 0⟩ (by simp [GIns.cells])
      try simp only [List.set_set] at hr5
      have HR9 : Hid (GRow GIns.cells 5 (((((w1.setCell ⟨g, k * 5, none⟩ (.int .i64 0)).setCell ⟨g, k * 5 + 1, none⟩ (.int .i64 0)).setCell ⟨g, k * 5 + 2, none⟩ (.int .i64 0)).setCell ⟨g, k * 5 + 3, none⟩ (.int .i64 (1 + (v : Int)))).setCell ⟨g, k * 5 + 4, none⟩ (.int .i32 0)) (((((w1.setCell ⟨g, k * 5, none⟩ (.int .i64 0)).setCell ⟨g, k * 5 + 1, none⟩ (.int .i64 0)).setCell ⟨g, k * 5 + 2, none⟩ (.int .i64 0)).setCell ⟨g, k * 5 + 3, none⟩ (.int .i64 (1 + (v : Int)))).setCell ⟨g, k * 5 + 4, none⟩ (.int .i32 0)).heap.size (some ⟨g, 0, none⟩) (xs.set k ⟨0, 0, 0, 1 + (v : Int), 0⟩)) := Lib.hid (hr5.wide (by simp))
      clear hr0 hr1 hr2 hr3 hr4 hr5
      have HBW : Hid (Below w.heap.size w (((((w1.setCell ⟨g, k * 5, none⟩ (.int .i64 0)).setCell ⟨g, k * 5 + 1, none⟩ (.int .i64 0)).setCell ⟨g, k * 5 + 2, none⟩ (.int .i64 0)).setCell ⟨g, k * 5 + 3, none⟩ (.int .i64 (1 + (v : Int)))).setCell ⟨g, k * 5 + 4, none⟩ (.int .i32 0))) := Lib.hid ((((((HB1.out).setCell (p := ⟨g, k * 5, none⟩) hgw _).setCell (p := ⟨g, k * 5 + 1, none⟩) hgw _).setCell (p := ⟨g, k * 5 + 2, none⟩) hgw _).setCell (p := ⟨g, k * 5 + 3, none⟩) hgw _).setCell (p := ⟨g, k * 5 + 4, none⟩) hgw _)
      have HLS : Hid ((xs.set k ⟨0, 0, 0, 1 + (v : Int), 0⟩).length = xs.length) := Lib.hid (List.length_set ..)
      have HENC : Hid (Calls Tryz.prog 11 #[.slice (some ⟨g, 0, none⟩) xs.length c1] (((((w1.setCell ⟨g, k * 5, none⟩ (.int .i64 0)).setCell ⟨g, k * 5 + 1, none⟩ (.int .i64 0)).setCell ⟨g, k * 5 + 2, none⟩ (.int .i64 0)).setCell ⟨g, k * 5 + 3, none⟩ (.int .i64 (1 + (v : Int)))).setCell ⟨g, k * 5 + 4, none⟩ (.int .i32 0)) fun e w' => Below ((((((w1.setCell ⟨g, k * 5, none⟩ (.int .i64 0)).setCell ⟨g, k * 5 + 1, none⟩ (.int .i64 0)).setCell ⟨g, k * 5 + 2, none⟩ (.int .i64 0)).setCell ⟨g, k * 5 + 3, none⟩ (.int .i64 (1 + (v : Int)))).setCell ⟨g, k * 5 + 4, none⟩ (.int .i32 0))).heap.size (((((w1.setCell ⟨g, k * 5, none⟩ (.int .i64 0)).setCell ⟨g, k * 5 + 1, none⟩ (.int .i64 0)).setCell ⟨g, k * 5 + 2, none⟩ (.int .i64 0)).setCell ⟨g, k * 5 + 3, none⟩ (.int .i64 (1 + (v : Int)))).setCell ⟨g, k * 5 + 4, none⟩ (.int .i32 0)) w' ∧ e = .returned (.tuple #[.slice none 0 0, .int .i64 70])) := Lib.hid (by
        have h := encode_any (xs.set k ⟨0, 0, 0, 1 + (v : Int), 0⟩) (some ⟨g, 0, none⟩) c1 (((((w1.setCell ⟨g, k * 5, none⟩ (.int .i64 0)).setCell ⟨g, k * 5 + 1, none⟩ (.int .i64 0)).setCell ⟨g, k * 5 + 2, none⟩ (.int .i64 0)).setCell ⟨g, k * 5 + 3, none⟩ (.int .i64 (1 + (v : Int)))).setCell ⟨g, k * 5 + 4, none⟩ (.int .i32 0)) (HG.out.next HBW.out).2 HR9.out HIM.out
        rw [HLS.out] at h
        refine h.mono ?_
        rintro e w' ⟨h1, h2⟩
        rw [HVP.out, if_neg (by decide)] at h2
        exact ⟨h1, h2⟩)
      have HVAL : Hid (∀ W', Below ((((((w1.setCell ⟨g, k * 5, none⟩ (.int .i64 0)).setCell ⟨g, k * 5 + 1, none⟩ (.int .i64 0)).setCell ⟨g, k * 5 + 2, none⟩ (.int .i64 0)).setCell ⟨g, k * 5 + 3, none⟩ (.int .i64 (1 + (v : Int)))).setCell ⟨g, k * 5 + 4, none⟩ (.int .i32 0))).heap.size (((((w1.setCell ⟨g, k * 5, none⟩ (.int .i64 0)).setCell ⟨g, k * 5 + 1, none⟩ (.int .i64 0)).setCell ⟨g, k * 5 + 2, none⟩ (.int .i64 0)).setCell ⟨g, k * 5 + 3, none⟩ (.int .i64 (1 + (v : Int)))).setCell ⟨g, k * 5 + 4, none⟩ (.int .i32 0)) W' → Calls Tryz.prog 16 #[.slice (some ⟨g, 0, none⟩) xs.length c1] W' fun e w' => e = .returned (.int .i64 70) ∧ Below W'.heap.size W' w') := Lib.hid fun W' hW => by
        have h := validate_any (xs.set k ⟨0, 0, 0, 1 + (v : Int), 0⟩) (some ⟨g, 0, none⟩) c1 W' ((HG.out.next HBW.out).next hW).2 (HR9.out.next hW) HIM.out
        rw [HLS.out, HVP.out] at h
        exact h
      have HDIS : Hid (∀ W', Below ((((((w1.setCell ⟨g, k * 5, none⟩ (.int .i64 0)).setCell ⟨g, k * 5 + 1, none⟩ (.int .i64 0)).setCell ⟨g, k * 5 + 2, none⟩ (.int .i64 0)).setCell ⟨g, k * 5 + 3, none⟩ (.int .i64 (1 + (v : Int)))).setCell ⟨g, k * 5 + 4, none⟩ (.int .i32 0))).heap.size (((((w1.setCell ⟨g, k * 5, none⟩ (.int .i64 0)).setCell ⟨g, k * 5 + 1, none⟩ (.int .i64 0)).setCell ⟨g, k * 5 + 2, none⟩ (.int .i64 0)).setCell ⟨g, k * 5 + 3, none⟩ (.int .i64 (1 + (v : Int)))).setCell ⟨g, k * 5 + 4, none⟩ (.int .i32 0)) W' → Calls Tryz.prog 18 #[.slice (some ⟨g, 0, none⟩) xs.length c1] W' fun e w' => e = .returned (.string ⟨#[]⟩) ∧ Below W'.heap.size W' w') := Lib.hid fun W' hW => by
        have h := dis_bad (xs.set k ⟨0, 0, 0, 1 + (v : Int), 0⟩) (some ⟨g, 0, none⟩) c1 W' ((HG.out.next HBW.out).next hW).2 (HR9.out.next hW) HIM.out (by rw [HVP.out]; decide)
        rw [HLS.out] at h
        exact h
      have HGW := Lib.hid (HG.out.next HBW.out)
      clear HR9 HVP HIM HLS HALL HROW HB1
      clear hk1 hk2 hk31 hk32
      have hw4 := HW9.out.2.2.2.1
      clear HOK HXK HOI HW9
      go_wp2_with fail
      go_fit (HP1.out _)
      rintro e w2 ⟨rfl, rfl⟩
      go_wp2_with fail
      go_fit (HP2.out _)
      rintro e w2 ⟨rfl, rfl⟩
      go_wp2_with fail
      go_fit (HP3.out _)
      rintro e w2 ⟨rfl, rfl⟩
      clear HP1 HP2 HP3
      go_wp2_with fail
      go_fit HENC.out
      rintro e w3 ⟨hb3, rfl⟩
      have HB3 := Lib.hid hb3
      have HV3 := Lib.hid (HVAL.out w3 hb3)
      clear hb3 x0 x1 x2 x3 x4 z0 z1 z2 z3 z4
      go_wp2_with fail
      go_fit HV3.out
      rintro e w4 ⟨rfl, hb4⟩
      have HB4 := Lib.hid (bel_next HB3.out hb4)
      have HD4 := Lib.hid (HDIS.out w4 HB4.out)
      clear hb4
      go_wp2_with fail
      go_fit HD4.out
      rintro e w5 ⟨rfl, hb5⟩
      have HB5 := Lib.hid (bel_next HB4.out hb5)
      have HA5 := Lib.hid (HAW.out w5 (HGW.out.next HB5.out))
      clear hb5
      go_wp2_with fail
      go_fit HA5.out
      rintro e w6 ⟨rfl, hb6⟩
      have HB6 := Lib.hid (bel_next HBW.out (bel_next HB5.out hb6))
      clear hb6
      go_wp2
      go_ret
      exact ⟨rfl, HB6.out⟩
    · have HVP : Hid (valP (xs.set k ⟨18, 0, 0, 0, (xs.length : Int) + (v : Int)⟩) = 71) := Lib.hid (valP_set (by decide) HALL.out hn2 hkl (chk_jmp (by omega)))
      have HIM : Hid (∀ y ∈ xs.set k ⟨18, 0, 0, 0, (xs.length : Int) + (v : Int)⟩, ImmOk y) := Lib.hid (imm_set HALL.out.imm ⟨by show -2147483648 ≤ (xs.length : Int) + (v : Int); omega, by show (xs.length : Int) + (v : Int) ≤ 2147483647; omega⟩)
      have hr0 := HROW.out
      have hr1 : GRow GIns.cells 5 (w1.setCell ⟨g, k * 5, none⟩ (.int .i64 18)) w1.heap.size (some ⟨g, 0, none⟩) ((xs.set k ⟨18, xa, xb, xc, xi⟩)) := hr0.set1 (k := k) (j0 := 0) (by exact hkl) (by decide) (.int .i64 18) ⟨18, xa, xb, xc, xi⟩ (by simp [GIns.cells, HXK.out])
      have hr2 : GRow GIns.cells 5 ((w1.setCell ⟨g, k * 5, none⟩ (.int .i64 18)).setCell ⟨g, k * 5 + 1, none⟩ (.int .i64 0)) w1.heap.size (some ⟨g, 0, none⟩) (((xs.set k ⟨18, xa, xb, xc, xi⟩).set k ⟨18, 0, xb, xc, xi⟩)) := hr1.set1 (k := k) (j0 := 1) (by simpa using hkl) (by decide) (.int .i64 0) ⟨18, 0, xb, xc, xi⟩ (by simp [GIns.cells])
      have hr3 : GRow GIns.cells 5 (((w1.setCell ⟨g, k * 5, none⟩ (.int .i64 18)).setCell ⟨g, k * 5 + 1, none⟩ (.int .i64 0)).setCell ⟨g, k * 5 + 2, none⟩ (.int .i64 0)) w1.heap.size (some ⟨g, 0, none⟩) ((((xs.set k ⟨18, xa, xb, xc, xi⟩).set k ⟨18, 0, xb, xc, xi⟩).set k ⟨18, 0, 0, xc, xi⟩)) := hr2.set1 (k := k) (j0 := 2) (by simpa using hkl) (by decide) (.int .i64 0) ⟨18, 0, 0, xc, xi⟩ (by simp [GIns.cells])
      have hr4 : GRow GIns.cells 5 ((((w1.setCell ⟨g, k * 5, none⟩ (.int .i64 18)).setCell ⟨g, k * 5 + 1, none⟩ (.int .i64 0)).setCell ⟨g, k * 5 + 2, none⟩ (.int .i64 0)).setCell ⟨g, k * 5 + 3, none⟩ (.int .i64 0)) w1.heap.size (some ⟨g, 0, none⟩) (((((xs.set k ⟨18, xa, xb, xc, xi⟩).set k ⟨18, 0, xb, xc, xi⟩).set k ⟨18, 0, 0, xc, xi⟩).set k ⟨18, 0, 0, 0, xi⟩)) := hr3.set1 (k := k) (j0 := 3) (by simpa using hkl) (by decide) (.int .i64 0) ⟨18, 0, 0, 0, xi⟩ (by simp [GIns.cells])
      have hr5 : GRow GIns.cells 5 (((((w1.setCell ⟨g, k * 5, none⟩ (.int .i64 18)).setCell ⟨g, k * 5 + 1, none⟩ (.int .i64 0)).setCell ⟨g, k * 5 + 2, none⟩ (.int .i64 0)).setCell ⟨g, k * 5 + 3, none⟩ (.int .i64 0)).setCell ⟨g, k * 5 + 4, none⟩ (.int .i32 ((xs.length : Int) + (v : Int)))) w1.heap.size (some ⟨g, 0, none⟩) ((((((xs.set k ⟨18, xa, xb, xc, xi⟩).set k ⟨18, 0, xb, xc, xi⟩).set k ⟨18, 0, 0, xc, xi⟩).set k ⟨18, 0, 0, 0, xi⟩).set k ⟨18, 0, 0, 0, ((xs.length : Int) + (v : Int))⟩)) := hr4.set1 (k := k) (j0 := 4) (by simpa using hkl) (by decide) (.int .i32 ((xs.length : Int) + (v : Int))) ⟨18, 0, 0, 0, ((xs.length : Int) + (v : Int))⟩ (by simp [GIns.cells])
      try simp only [List.set_set] at hr5
      have HR9 : Hid (GRow GIns.cells 5 (((((w1.setCell ⟨g, k * 5, none⟩ (.int .i64 18)).setCell ⟨g, k * 5 + 1, none⟩ (.int .i64 0)).setCell ⟨g, k * 5 + 2, none⟩ (.int .i64 0)).setCell ⟨g, k * 5 + 3, none⟩ (.int .i64 0)).setCell ⟨g, k * 5 + 4, none⟩ (.int .i32 ((xs.length : Int) + (v : Int)))) (((((w1.setCell ⟨g, k * 5, none⟩ (.int .i64 18)).setCell ⟨g, k * 5 + 1, none⟩ (.int .i64 0)).setCell ⟨g, k * 5 + 2, none⟩ (.int .i64 0)).setCell ⟨g, k * 5 + 3, none⟩ (.int .i64 0)).setCell ⟨g, k * 5 + 4, none⟩ (.int .i32 ((xs.length : Int) + (v : Int)))).heap.size (some ⟨g, 0, none⟩) (xs.set k ⟨18, 0, 0, 0, (xs.length : Int) + (v : Int)⟩)) := Lib.hid (hr5.wide (by simp))
      clear hr0 hr1 hr2 hr3 hr4 hr5
      have HBW : Hid (Below w.heap.size w (((((w1.setCell ⟨g, k * 5, none⟩ (.int .i64 18)).setCell ⟨g, k * 5 + 1, none⟩ (.int .i64 0)).setCell ⟨g, k * 5 + 2, none⟩ (.int .i64 0)).setCell ⟨g, k * 5 + 3, none⟩ (.int .i64 0)).setCell ⟨g, k * 5 + 4, none⟩ (.int .i32 ((xs.length : Int) + (v : Int))))) := Lib.hid ((((((HB1.out).setCell (p := ⟨g, k * 5, none⟩) hgw _).setCell (p := ⟨g, k * 5 + 1, none⟩) hgw _).setCell (p := ⟨g, k * 5 + 2, none⟩) hgw _).setCell (p := ⟨g, k * 5 + 3, none⟩) hgw _).setCell (p := ⟨g, k * 5 + 4, none⟩) hgw _)
      have HLS : Hid ((xs.set k ⟨18, 0, 0, 0, (xs.length : Int) + (v : Int)⟩).length = xs.length) := Lib.hid (List.length_set ..)
      have HENC : Hid (Calls Tryz.prog 11 #[.slice (some ⟨g, 0, none⟩) xs.length c1] (((((w1.setCell ⟨g, k * 5, none⟩ (.int .i64 18)).setCell ⟨g, k * 5 + 1, none⟩ (.int .i64 0)).setCell ⟨g, k * 5 + 2, none⟩ (.int .i64 0)).setCell ⟨g, k * 5 + 3, none⟩ (.int .i64 0)).setCell ⟨g, k * 5 + 4, none⟩ (.int .i32 ((xs.length : Int) + (v : Int)))) fun e w' => Below ((((((w1.setCell ⟨g, k * 5, none⟩ (.int .i64 18)).setCell ⟨g, k * 5 + 1, none⟩ (.int .i64 0)).setCell ⟨g, k * 5 + 2, none⟩ (.int .i64 0)).setCell ⟨g, k * 5 + 3, none⟩ (.int .i64 0)).setCell ⟨g, k * 5 + 4, none⟩ (.int .i32 ((xs.length : Int) + (v : Int))))).heap.size (((((w1.setCell ⟨g, k * 5, none⟩ (.int .i64 18)).setCell ⟨g, k * 5 + 1, none⟩ (.int .i64 0)).setCell ⟨g, k * 5 + 2, none⟩ (.int .i64 0)).setCell ⟨g, k * 5 + 3, none⟩ (.int .i64 0)).setCell ⟨g, k * 5 + 4, none⟩ (.int .i32 ((xs.length : Int) + (v : Int)))) w' ∧ e = .returned (.tuple #[.slice none 0 0, .int .i64 71])) := Lib.hid (by
        have h := encode_any (xs.set k ⟨18, 0, 0, 0, (xs.length : Int) + (v : Int)⟩) (some ⟨g, 0, none⟩) c1 (((((w1.setCell ⟨g, k * 5, none⟩ (.int .i64 18)).setCell ⟨g, k * 5 + 1, none⟩ (.int .i64 0)).setCell ⟨g, k * 5 + 2, none⟩ (.int .i64 0)).setCell ⟨g, k * 5 + 3, none⟩ (.int .i64 0)).setCell ⟨g, k * 5 + 4, none⟩ (.int .i32 ((xs.length : Int) + (v : Int)))) (HG.out.next HBW.out).2 HR9.out HIM.out
        rw [HLS.out] at h
        refine h.mono ?_
        rintro e w' ⟨h1, h2⟩
        rw [HVP.out, if_neg (by decide)] at h2
        exact ⟨h1, h2⟩)
      have HVAL : Hid (∀ W', Below ((((((w1.setCell ⟨g, k * 5, none⟩ (.int .i64 18)).setCell ⟨g, k * 5 + 1, none⟩ (.int .i64 0)).setCell ⟨g, k * 5 + 2, none⟩ (.int .i64 0)).setCell ⟨g, k * 5 + 3, none⟩ (.int .i64 0)).setCell ⟨g, k * 5 + 4, none⟩ (.int .i32 ((xs.length : Int) + (v : Int))))).heap.size (((((w1.setCell ⟨g, k * 5, none⟩ (.int .i64 18)).setCell ⟨g, k * 5 + 1, none⟩ (.int .i64 0)).setCell ⟨g, k * 5 + 2, none⟩ (.int .i64 0)).setCell ⟨g, k * 5 + 3, none⟩ (.int .i64 0)).setCell ⟨g, k * 5 + 4, none⟩ (.int .i32 ((xs.length : Int) + (v : Int)))) W' → Calls Tryz.prog 16 #[.slice (some ⟨g, 0, none⟩) xs.length c1] W' fun e w' => e = .returned (.int .i64 71) ∧ Below W'.heap.size W' w') := Lib.hid fun W' hW => by
        have h := validate_any (xs.set k ⟨18, 0, 0, 0, (xs.length : Int) + (v : Int)⟩) (some ⟨g, 0, none⟩) c1 W' ((HG.out.next HBW.out).next hW).2 (HR9.out.next hW) HIM.out
        rw [HLS.out, HVP.out] at h
        exact h
      have HDIS : Hid (∀ W', Below ((((((w1.setCell ⟨g, k * 5, none⟩ (.int .i64 18)).setCell ⟨g, k * 5 + 1, none⟩ (.int .i64 0)).setCell ⟨g, k * 5 + 2, none⟩ (.int .i64 0)).setCell ⟨g, k * 5 + 3, none⟩ (.int .i64 0)).setCell ⟨g, k * 5 + 4, none⟩ (.int .i32 ((xs.length : Int) + (v : Int))))).heap.size (((((w1.setCell ⟨g, k * 5, none⟩ (.int .i64 18)).setCell ⟨g, k * 5 + 1, none⟩ (.int .i64 0)).setCell ⟨g, k * 5 + 2, none⟩ (.int .i64 0)).setCell ⟨g, k * 5 + 3, none⟩ (.int .i64 0)).setCell ⟨g, k * 5 + 4, none⟩ (.int .i32 ((xs.length : Int) + (v : Int)))) W' → Calls Tryz.prog 18 #[.slice (some ⟨g, 0, none⟩) xs.length c1] W' fun e w' => e = .returned (.string ⟨#[]⟩) ∧ Below W'.heap.size W' w') := Lib.hid fun W' hW => by
        have h := dis_bad (xs.set k ⟨18, 0, 0, 0, (xs.length : Int) + (v : Int)⟩) (some ⟨g, 0, none⟩) c1 W' ((HG.out.next HBW.out).next hW).2 (HR9.out.next hW) HIM.out (by rw [HVP.out]; decide)
        rw [HLS.out] at h
        exact h
      have HGW := Lib.hid (HG.out.next HBW.out)
      clear HR9 HVP HIM HLS HALL HROW HB1
      clear hk1 hk2 hk31 hk32
      have hw5 := HW9.out.2.2.2.2.1
      have hw6 := HW9.out.2.2.2.2.2
      clear HOK HXK HOI HW9
      go_wp2_with fail
      go_fit (HP1.out _)
      rintro e w2 ⟨rfl, rfl⟩
      go_wp2_with fail
      go_fit (HP2.out _)
      rintro e w2 ⟨rfl, rfl⟩
      go_wp2_with fail
      go_fit (HP3.out _)
      rintro e w2 ⟨rfl, rfl⟩
      clear HP1 HP2 HP3
      go_wp2_with fail
      go_fit HENC.out
      rintro e w3 ⟨hb3, rfl⟩
      have HB3 := Lib.hid hb3
      have HV3 := Lib.hid (HVAL.out w3 hb3)
      clear hb3 x0 x1 x2 x3 x4 z0 z1 z2 z3 z4
      go_wp2_with fail
      go_fit HV3.out
      rintro e w4 ⟨rfl, hb4⟩
      have HB4 := Lib.hid (bel_next HB3.out hb4)
      have HD4 := Lib.hid (HDIS.out w4 HB4.out)
      clear hb4
      go_wp2_with fail
      go_fit HD4.out
      rintro e w5 ⟨rfl, hb5⟩
      have HB5 := Lib.hid (bel_next HB4.out hb5)
      have HA5 := Lib.hid (HAW.out w5 (HGW.out.next HB5.out))
      clear hb5
      go_wp2_with fail
      go_fit HA5.out
      rintro e w6 ⟨rfl, hb6⟩
      have HB6 := Lib.hid (bel_next HBW.out (bel_next HB5.out hb6))
      clear hb6
      go_wp2
      go_ret
      exact ⟨rfl, HB6.out⟩
end Go.Proofs.YtcmohijjpnebpaaGreatDoor
