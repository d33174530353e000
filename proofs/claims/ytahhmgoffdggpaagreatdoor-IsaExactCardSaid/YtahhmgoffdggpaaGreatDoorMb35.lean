/-
  The reference's Validate is the first error of a program.
  Conditions: as the theorem says.
  The reference's Encode.
  Conditions: as the theorem says.
  The reference's Decode.
  Conditions: as the theorem says.
-/
import Derived.Test.YtahhmgoffdggpaaGreatDoorMb34
import Derived.Deep.CutBlock
import Derived.Deep.CutRange
namespace Go.Proofs.YtahhmgoffdggpaaGreatDoor
open Go.RowKit Go.Shelf

/-- Registers or an operand are wrong. -/
def badX (k : Nat) (x : GIns) : Bool := !(regB (fmtN k).2.1 0 x.a && regB (fmtN k).2.1 1 x.b && regB (fmtN k).2.1 2 x.c) || (decide ((fmtN k).2.2 = 0) && decide (x.imm ≠ 0))
theorem chk_of {k : Nat} (_hk : k < 28) (x : GIns) (hx : x.op = k) (n : Nat) : chkI x n = if badX k x = true then 70 else if (fmtN k).2.2 = 2 ∧ (x.imm < 0 ∨ (n : Int) ≤ x.imm) then 71 else 0 := by
  have h0 : ¬ (x.op < 0 ∨ 28 ≤ x.op) := by omega
  have e : x.op.toNat = k := by omega
  unfold chkI
  rw [if_neg h0, e]
  unfold chkF badX
  generalize (regB (fmtN k).2.1 0 x.a && regB (fmtN k).2.1 1 x.b && regB (fmtN k).2.1 2 x.c) = g
  cases g
  · simp
  · by_cases h1 : (fmtN k).2.2 = 0 ∧ x.imm ≠ 0
    · simp [h1]
    · rw [if_neg (by simp), if_neg h1]
      simp only [Bool.not_true, Bool.false_or, Bool.and_eq_true, decide_eq_true_eq]
      rw [if_neg h1]
theorem valL_take {n : Nat} : ∀ {xs : List GIns} {k : Nat} (hk : k < xs.length), (∀ j (hj : j < xs.length), j < k → chkI xs[j] n = 0) → chkI xs[k] n ≠ 0 → valL n xs = chkI xs[k] n
  | [], k, hk, _, _ => by simp at hk
  | x :: r, 0, _, _, h => by
    have h : chkI x n ≠ 0 := h
    unfold valL
    rw [if_pos h]; rfl
  | x :: r, k + 1, hk, h0, h => by
    have e : chkI x n = 0 := h0 0 (by simp) (by omega)
    unfold valL
    rw [if_neg (by simp [e])]
    exact valL_take (by simpa using hk) (fun j hj hjk => h0 (j + 1) (by simpa using hj) (by omega)) h
theorem valL_all {n : Nat} : ∀ {xs : List GIns}, (∀ j (hj : j < xs.length), chkI xs[j] n = 0) → valL n xs = 0
  | [], _ => rfl
  | x :: r, h => by
    have e : chkI x n = 0 := h 0 (by simp)
    unfold valL
    rw [if_neg (by simp [e])]
    exact valL_all fun j hj => h (j + 1) (by simpa using hj)
set_option maxRecDepth 20000 in
set_option maxHeartbeats 8000000 in
theorem rVal9_any (ps : List GIns) (A : Option Addr) (c : Nat) (w : World) (h : GRow GIns.cells 5 w w.heap.size A ps) (hi : ∀ x ∈ ps, ImmOk x) :
    Calls Tryz.prog 12 #[.slice A ps.length c] w fun e w' => e = .returned (.int .i64 (valP ps)) ∧ Below w.heap.size w w' := by
  have HR : Hid (valP ps = if ps.length = 0 ∨ 4096 < ps.length then 15 else valL ps.length ps) := Lib.hid rfl
  have HROW := Lib.hid fun W (hW : Below w.heap.size w W) => h.next hW
  have HIM := Lib.hid hi
  generalize valP ps = q at *
  clear h hi
  by_cases h0 : ps.length = 0
  · have HF : Hid (q = 15) := Lib.hid (by rw [HR.out, if_pos (.inl h0)])
    have f0 : ((ps.length : Int) == 0) = true := beq_iff_eq.2 (by omega)
    clear HR HROW HIM
    generalize ps.length = n at *
    subst h0
    go_enter Tryz.func12, Tryz.ntmps12
    go_wp2
    go_ret
    exact ⟨congrArg (fun b => Ending.returned (Value.int .i64 b)) HF.out.symm, Below.refl _ _⟩
  by_cases h4 : 4096 < ps.length
  · have HF : Hid (q = 15) := Lib.hid (by rw [HR.out, if_pos (.inr h4)])
    have f0 : ((ps.length : Int) == 0) = false := beq_eq_false_iff_ne.2 (by omega)
    have f4 : decide ((4096 : Int) < (ps.length : Int)) = true := by simp; omega
    clear HR HROW HIM h0 h4
    generalize ps.length = n at *
    go_enter Tryz.func12, Tryz.ntmps12
    go_wp2
    go_ret
    exact ⟨congrArg (fun b => Ending.returned (Value.int .i64 b)) HF.out.symm, Below.refl _ _⟩
  have f0 : ((ps.length : Int) == 0) = false := beq_eq_false_iff_ne.2 (by omega)
  have f4 : decide ((4096 : Int) < (ps.length : Int)) = false := by simp; omega
  have HRL : Hid (q = valL ps.length ps) := Lib.hid (by rw [HR.out, if_neg (by omega)])
  have HTK := Lib.hid fun k (hk : k < ps.length) h1 h2 => valL_take (n := ps.length) hk h1 h2
  have HAL := Lib.hid fun h1 => valL_all (n := ps.length) (xs := ps) h1
  clear HR h0
  go_enter Tryz.func12, Tryz.ntmps12
  go_wp2
  clear f0 f4
  go_loopw [3] (fun vi wr => ∃ k : Nat, vi = .int .i64 k ∧ k ≤ ps.length ∧ Hid (∀ j (hj : j < ps.length), j < k → chkI ps[j] ps.length = 0) ∧ Hid (Below w.heap.size w wr)) (fun vi _ => ps.length - (intOf vi).toNat)
  case atStart => exact ⟨0, rfl, Nat.zero_le _, Lib.hid fun j _ hj => absurd hj (by omega), Lib.hid (Below.refl _ _)⟩
  case round =>
    obtain ⟨i, rfl, hile, HT, HB⟩ := hrel
    generalize wr = wA at *
    rcases Nat.lt_or_ge i ps.length with hlt | hge
    rotate_left
    · obtain rfl : i = ps.length := by omega
      have HF : Hid (q = 0) := Lib.hid (by rw [HRL.out]; exact HAL.out fun j hj => HT.out j hj hj)
      clear HT
      go_wp2
      go_ret
      exact ⟨congrArg (fun b => Ending.returned (Value.int .i64 b)) HF.out.symm, HB.out⟩
    have hilt : decide ((i : Int) < (ps.length : Int)) = true := by simp; omega
    obtain ⟨b1, o1, rfl, hb1, x0, x1, x2, x3, x4⟩ := (HROW.out _ HB.out).ins hlt
    have him := HIM.out _ (List.getElem_mem hlt)
    have HBAD : Hid (chkI ps[i] ps.length ≠ 0 → q = chkI ps[i] ps.length) := Lib.hid fun h => by rw [HRL.out]; exact HTK.out i hlt HT.out h
    have HGOOD : Hid (chkI ps[i] ps.length = 0 → ∀ j (hj : j < ps.length), j < i + 1 → chkI ps[j] ps.length = 0) := Lib.hid fun h j hj hjk => by
      rcases Nat.lt_or_ge j i with h2 | h2
      · exact HT.out j hj h2
      · obtain rfl : j = i := by omega
        exact h
    clear HT
    have HCI := Lib.hid fun (k : Nat) (hk : k < 28) (hx : ps[i].op = (k : Int)) => chk_of hk ps[i] hx ps.length
    have HOP := Lib.hid fun (hx : ps[i].op < 0 ∨ 28 ≤ ps[i].op) => chk_op (n := ps.length) hx
    generalize chkI ps[i] ps.length = ch at *
    generalize ps[i] = x at *
    obtain ⟨xo, xa, xb, xc, xi⟩ := x
    simp only at x0 x1 x2 x3 x4 HCI HOP
    obtain ⟨him0, him1⟩ := him
    simp only at him0 him1
    have HX0 := Lib.hid (XB.new wA ⟨xo, xa, xb, xc, xi⟩)
    have HB1 := Lib.hid (belt HB.out (.cells #[.int .i64 xo, .int .i64 xa, .int .i64 xb, .int .i64 xc, .int .i32 xi] 40))
    by_cases hop : xo < 0 ∨ 28 ≤ xo
    · have HF : Hid (q = 70) := Lib.hid (by have e := HOP.out hop; rw [e] at HBAD; exact HBAD.out (by decide))
      clear HBAD HGOOD HCI HOP
      rcases hop with hop | hop
      · have g1 : decide (xo < 0) = true := decide_eq_true hop
        go_wp2
        go_ret
        exact ⟨congrArg (fun b => Ending.returned (Value.int .i64 b)) HF.out.symm, HB1.out⟩
      · have g1 : decide (xo < 0) = false := decide_eq_false (by omega)
        have g2 : decide (27 < xo) = true := decide_eq_true (by omega)
        go_wp2
        go_ret
        exact ⟨congrArg (fun b => Ending.returned (Value.int .i64 b)) HF.out.symm, HB1.out⟩
    obtain ⟨k, rfl⟩ : ∃ k : Nat, xo = (k : Int) := ⟨xo.toNat, by omega⟩
    have hk : k < 28 := by omega
    have g1 : decide ((k : Int) < 0) = false := by simp
    have g2 : decide ((27 : Int) < (k : Int)) = false := by simp; omega
    have hci := HCI.out k hk rfl
    have hbx : badX k ⟨(k : Int), xa, xb, xc, xi⟩ = (!(regB (fmtN k).2.1 0 xa && regB (fmtN k).2.1 1 xb && regB (fmtN k).2.1 2 xc) || (decide ((fmtN k).2.2 = 0) && decide (xi ≠ 0))) := rfl
    have hfm := fmt_imm k
    obtain ⟨e97, e98, e99, e105, e116⟩ := use_fmt hk
    have HU97 := Lib.hid fun W => usesN_any k hk 97 (by decide) W
    have HU98 := Lib.hid fun W => usesN_any k hk 98 (by decide) W
    have HU99 := Lib.hid fun W => usesN_any k hk 99 (by decide) W
    have HU105 := Lib.hid fun W => usesN_any k hk 105 (by decide) W
    have HU116 := Lib.hid fun W => usesN_any k hk 116 (by decide) W
    rw [e97] at HU97
    rw [e98] at HU98
    rw [e99] at HU99
    rw [e105] at HU105
    rw [e116] at HU116
    have HRa := Lib.hid fun W => rRegI_any xa (decide (0 < (fmtN k).2.1)) W
    have HRb := Lib.hid fun W => rRegI_any xb (decide (1 < (fmtN k).2.1)) W
    have HRc := Lib.hid fun W => rRegI_any xc (decide (2 < (fmtN k).2.1)) W
    rw [rg_reg] at HRa HRb HRc
    have HJ := Lib.hid fun W => jumps_any ⟨(k : Int), xa, xb, xc, xi⟩ k hk rfl W
    have hutk : decide ((fmtN ((k : Int)).toNat).2.2 = 2) = decide ((fmtN k).2.2 = 2) := by rw [Int.toNat_natCast]
    simp only [GIns.val] at HJ
    rw [hutk] at HJ
    have hf0 : decide ((fmtN k).2.2 = 0) = (!decide ((fmtN k).2.2 = 1) && !decide ((fmtN k).2.2 = 2)) := by
      rcases hfm with e | e | e <;> rw [e] <;> rfl
    rw [hf0] at hbx
    have HUT : Hid (decide ((fmtN k).2.2 = 2) = true ↔ (fmtN k).2.2 = 2) := Lib.hid (by simp)
    clear HCI HOP e97 e98 e99 e105 e116 hutk hf0 hfm hop
    generalize decide ((fmtN k).2.2 = 1) = ui at *
    generalize decide ((fmtN k).2.2 = 2) = ut at *
    generalize (fmtN k).2.2 = fi at *
    generalize regB (fmtN k).2.1 0 xa = ra at *
    generalize regB (fmtN k).2.1 1 xb = rb at *
    generalize regB (fmtN k).2.1 2 xc = rc at *
    generalize decide (0 < (fmtN k).2.1) = ua at *
    generalize decide (1 < (fmtN k).2.1) = ub at *
    generalize decide (2 < (fmtN k).2.1) = uc at *
    generalize badX k ⟨(k : Int), xa, xb, xc, xi⟩ = bk at *
    have HV := Lib.hid hbx
    have HCH := Lib.hid hci
    clear hbx hci
    go_upto_region 9 with fail
    clear x0 x1 x2 x3 x4 g1 g2
    generalize wA.alloc (.cells #[.int .i64 (k : Int), .int .i64 xa, .int .i64 xb, .int .i64 xc, .int .i32 xi] 40) = wz at *
    generalize wA.heap.size = M at *
    have HS0 := Lib.hid (show Below wz.heap.size wz wz.drew ∧ XB wz.drew M ⟨(k : Int), xa, xb, xc, xi⟩ from ⟨(Below.refl _ _).drew, HX0.out.next (Below.refl _ wz).drew⟩)
    go_cut [72] from 13 to 87 (fun v72 wx => v72 = .bool bk ∧ Hid (Below wz.heap.size wz wx ∧ XB wx M ⟨(k : Int), xa, xb, xc, xi⟩))
    case first =>
      rcases ra with _ | _
      · have hS := HS0.out
        refine wp_region_growS (S := fun W => Below wz.heap.size wz W ∧ XB W M ⟨(k : Int), xa, xb, xc, xi⟩) [(0, true), (1, true), (2, true), (3, true), (4, false), (5, false), (6, true), (7, true), (8, true), (9, true), (10, true), (11, true), (12, false), (13, false), (14, true), (15, true), (16, true), (17, true), (18, true), (19, true), (20, true), (21, false), (22, false), (23, true), (24, true), (25, true), (26, true), (27, true), (28, true), (29, true), (30, true), (31, true), (32, false), (33, true), (34, true), (35, true), (36, true), (37, true), (38, false), (39, true), (40, true), (41, true)] (by kernel_rfl) (by kernel_rfl) (by kernel_rfl) (by kernel_rfl) (by intro c a d v w h; cases d <;> exact h) hS ?_
        iterate 4
          (first
            | (refine wpGrowS_float (v := ?_) (by simp only [List.getElem?_toArray, List.getElem?_cons_succ, List.getElem?_cons_zero]; rfl) (by rfl) ?_ ?_
               rotate_left
               · (intro W hW; obtain ⟨p0, p1, p2, p3, p4⟩ := XB.cells (hW.2); (try simp only at *); go_simp; try with_reducible rfl)
               simp only [Act.put, List.setIfInBounds_toArray, List.set_cons_zero, List.set_cons_succ])
            | (refine wpGrowS_skip (by simp only [List.getElem?_toArray, List.getElem?_cons_succ, List.getElem?_cons_zero]; rfl) (by rfl) ?_
               simp only [Act.put, List.setIfInBounds_toArray, List.set_cons_zero, List.set_cons_succ]))
        refine wpGrowS_call (by simp only [List.getElem?_toArray, List.getElem?_cons_succ, List.getElem?_cons_zero]; rfl) (by rfl) fun K hK => ?_
        go_simp
        go_fit (HU97.out _)
        rintro e wn ⟨rfl, hbn⟩
        have hSp := hS
        have hS : Below wz.heap.size wz wn ∧ XB wn M ⟨(k : Int), xa, xb, xc, xi⟩ := ⟨beln (hS.1) hbn, XB.next (hS.2) hbn⟩
        go_simp
        refine hK _ _ hS ?_
        clear hK K
        try simp only [Act.put, List.setIfInBounds_toArray, List.set_cons_zero, List.set_cons_succ]
        refine wpGrowS_call (by simp only [List.getElem?_toArray, List.getElem?_cons_succ, List.getElem?_cons_zero]; rfl) (by rfl) fun K hK => ?_
        go_simp
        go_fit (HRa.out _)
        rintro e wn ⟨rfl, hbn⟩
        have hSp := hS
        have hS : Below wz.heap.size wz wn ∧ XB wn M ⟨(k : Int), xa, xb, xc, xi⟩ := ⟨beln (hS.1) hbn, XB.next (hS.2) hbn⟩
        go_simp
        refine hK _ _ hS ?_
        clear hK K
        try simp only [Act.put, List.setIfInBounds_toArray, List.set_cons_zero, List.set_cons_succ]
        iterate 6
          (first
            | (refine wpGrowS_float (v := ?_) (by simp only [List.getElem?_toArray, List.getElem?_cons_succ, List.getElem?_cons_zero]; rfl) (by rfl) ?_ ?_
               rotate_left
               · (intro W hW; obtain ⟨p0, p1, p2, p3, p4⟩ := XB.cells (hW.2); (try simp only at *); go_simp; try with_reducible rfl)
               simp only [Act.put, List.setIfInBounds_toArray, List.set_cons_zero, List.set_cons_succ])
            | (refine wpGrowS_skip (by simp only [List.getElem?_toArray, List.getElem?_cons_succ, List.getElem?_cons_zero]; rfl) (by rfl) ?_
               simp only [Act.put, List.setIfInBounds_toArray, List.set_cons_zero, List.set_cons_succ]))
        refine wpGrowS_pass hS (by simp only [List.getElem?_toArray, List.getElem?_cons_succ, List.getElem?_cons_zero]; rfl) (by rfl) ?_
        try simp only [Act.put, List.setIfInBounds_toArray, List.set_cons_zero, List.set_cons_succ]
        refine wpGrowS_pass hS (by simp only [List.getElem?_toArray, List.getElem?_cons_succ, List.getElem?_cons_zero]; rfl) (by rfl) ?_
        try simp only [Act.put, List.setIfInBounds_toArray, List.set_cons_zero, List.set_cons_succ]
        iterate 7
          (first
            | (refine wpGrowS_float (v := ?_) (by simp only [List.getElem?_toArray, List.getElem?_cons_succ, List.getElem?_cons_zero]; rfl) (by rfl) ?_ ?_
               rotate_left
               · (intro W hW; obtain ⟨p0, p1, p2, p3, p4⟩ := XB.cells (hW.2); (try simp only at *); go_simp; try with_reducible rfl)
               simp only [Act.put, List.setIfInBounds_toArray, List.set_cons_zero, List.set_cons_succ])
            | (refine wpGrowS_skip (by simp only [List.getElem?_toArray, List.getElem?_cons_succ, List.getElem?_cons_zero]; rfl) (by rfl) ?_
               simp only [Act.put, List.setIfInBounds_toArray, List.set_cons_zero, List.set_cons_succ]))
        refine wpGrowS_pass hS (by simp only [List.getElem?_toArray, List.getElem?_cons_succ, List.getElem?_cons_zero]; rfl) (by rfl) ?_
        try simp only [Act.put, List.setIfInBounds_toArray, List.set_cons_zero, List.set_cons_succ]
        refine wpGrowS_pass hS (by simp only [List.getElem?_toArray, List.getElem?_cons_succ, List.getElem?_cons_zero]; rfl) (by rfl) ?_
        try simp only [Act.put, List.setIfInBounds_toArray, List.set_cons_zero, List.set_cons_succ]
        iterate 9
          (first
            | (refine wpGrowS_float (v := ?_) (by simp only [List.getElem?_toArray, List.getElem?_cons_succ, List.getElem?_cons_zero]; rfl) (by rfl) ?_ ?_
               rotate_left
               · (intro W hW; obtain ⟨p0, p1, p2, p3, p4⟩ := XB.cells (hW.2); (try simp only at *); go_simp; try with_reducible rfl)
               simp only [Act.put, List.setIfInBounds_toArray, List.set_cons_zero, List.set_cons_succ])
            | (refine wpGrowS_skip (by simp only [List.getElem?_toArray, List.getElem?_cons_succ, List.getElem?_cons_zero]; rfl) (by rfl) ?_
               simp only [Act.put, List.setIfInBounds_toArray, List.set_cons_zero, List.set_cons_succ]))
        refine wpGrowS_pass hS (by simp only [List.getElem?_toArray, List.getElem?_cons_succ, List.getElem?_cons_zero]; rfl) (by rfl) ?_
        try simp only [Act.put, List.setIfInBounds_toArray, List.set_cons_zero, List.set_cons_succ]
        iterate 5
          (first
            | (refine wpGrowS_float (v := ?_) (by simp only [List.getElem?_toArray, List.getElem?_cons_succ, List.getElem?_cons_zero]; rfl) (by rfl) ?_ ?_
               rotate_left
               · (intro W hW; obtain ⟨p0, p1, p2, p3, p4⟩ := XB.cells (hW.2); (try simp only at *); go_simp; try with_reducible rfl)
               simp only [Act.put, List.setIfInBounds_toArray, List.set_cons_zero, List.set_cons_succ])
            | (refine wpGrowS_skip (by simp only [List.getElem?_toArray, List.getElem?_cons_succ, List.getElem?_cons_zero]; rfl) (by rfl) ?_
               simp only [Act.put, List.setIfInBounds_toArray, List.set_cons_zero, List.set_cons_succ]))
        refine wpGrowS_pass hS (by simp only [List.getElem?_toArray, List.getElem?_cons_succ, List.getElem?_cons_zero]; rfl) (by rfl) ?_
        try simp only [Act.put, List.setIfInBounds_toArray, List.set_cons_zero, List.set_cons_succ]
        iterate 3
          (first
            | (refine wpGrowS_float (v := ?_) (by simp only [List.getElem?_toArray, List.getElem?_cons_succ, List.getElem?_cons_zero]; rfl) (by rfl) ?_ ?_
               rotate_left
               · (intro W hW; obtain ⟨p0, p1, p2, p3, p4⟩ := XB.cells (hW.2); (try simp only at *); go_simp; try with_reducible rfl)
               simp only [Act.put, List.setIfInBounds_toArray, List.set_cons_zero, List.set_cons_succ])
            | (refine wpGrowS_skip (by simp only [List.getElem?_toArray, List.getElem?_cons_succ, List.getElem?_cons_zero]; rfl) (by rfl) ?_
               simp only [Act.put, List.setIfInBounds_toArray, List.set_cons_zero, List.set_cons_succ]))
        refine wpGrowS_nil ?_
        have HE := Lib.hid hS
        clear hS hSp hbn
        go_wp2
        go_meet
        exact ⟨congrArg Value.bool (by rw [HV.out]; rfl), HE⟩
      rcases rb with _ | _
      · have hS := HS0.out
        refine wp_region_growS (S := fun W => Below wz.heap.size wz W ∧ XB W M ⟨(k : Int), xa, xb, xc, xi⟩) [(0, true), (1, true), (2, true), (3, true), (4, false), (5, false), (6, true), (7, true), (8, true), (9, true), (10, true), (11, true), (12, false), (13, false), (14, true), (15, true), (16, true), (17, true), (18, true), (19, true), (20, true), (21, false), (22, false), (23, true), (24, true), (25, true), (26, true), (27, true), (28, true), (29, true), (30, true), (31, true), (32, false), (33, true), (34, true), (35, true), (36, true), (37, true), (38, false), (39, true), (40, true), (41, true)] (by kernel_rfl) (by kernel_rfl) (by kernel_rfl) (by kernel_rfl) (by intro c a d v w h; cases d <;> exact h) hS ?_
        iterate 4
          (first
            | (refine wpGrowS_float (v := ?_) (by simp only [List.getElem?_toArray, List.getElem?_cons_succ, List.getElem?_cons_zero]; rfl) (by rfl) ?_ ?_
               rotate_left
               · (intro W hW; obtain ⟨p0, p1, p2, p3, p4⟩ := XB.cells (hW.2); (try simp only at *); go_simp; try with_reducible rfl)
               simp only [Act.put, List.setIfInBounds_toArray, List.set_cons_zero, List.set_cons_succ])
            | (refine wpGrowS_skip (by simp only [List.getElem?_toArray, List.getElem?_cons_succ, List.getElem?_cons_zero]; rfl) (by rfl) ?_
               simp only [Act.put, List.setIfInBounds_toArray, List.set_cons_zero, List.set_cons_succ]))
        refine wpGrowS_call (by simp only [List.getElem?_toArray, List.getElem?_cons_succ, List.getElem?_cons_zero]; rfl) (by rfl) fun K hK => ?_
        go_simp
        go_fit (HU97.out _)
        rintro e wn ⟨rfl, hbn⟩
        have hSp := hS
        have hS : Below wz.heap.size wz wn ∧ XB wn M ⟨(k : Int), xa, xb, xc, xi⟩ := ⟨beln (hS.1) hbn, XB.next (hS.2) hbn⟩
        go_simp
        refine hK _ _ hS ?_
        clear hK K
        try simp only [Act.put, List.setIfInBounds_toArray, List.set_cons_zero, List.set_cons_succ]
        refine wpGrowS_call (by simp only [List.getElem?_toArray, List.getElem?_cons_succ, List.getElem?_cons_zero]; rfl) (by rfl) fun K hK => ?_
        go_simp
        go_fit (HRa.out _)
        rintro e wn ⟨rfl, hbn⟩
        have hSp := hS
        have hS : Below wz.heap.size wz wn ∧ XB wn M ⟨(k : Int), xa, xb, xc, xi⟩ := ⟨beln (hS.1) hbn, XB.next (hS.2) hbn⟩
        go_simp
        refine hK _ _ hS ?_
        clear hK K
        try simp only [Act.put, List.setIfInBounds_toArray, List.set_cons_zero, List.set_cons_succ]
        iterate 6
          (first
            | (refine wpGrowS_float (v := ?_) (by simp only [List.getElem?_toArray, List.getElem?_cons_succ, List.getElem?_cons_zero]; rfl) (by rfl) ?_ ?_
               rotate_left
               · (intro W hW; obtain ⟨p0, p1, p2, p3, p4⟩ := XB.cells (hW.2); (try simp only at *); go_simp; try with_reducible rfl)
               simp only [Act.put, List.setIfInBounds_toArray, List.set_cons_zero, List.set_cons_succ])
            | (refine wpGrowS_skip (by simp only [List.getElem?_toArray, List.getElem?_cons_succ, List.getElem?_cons_zero]; rfl) (by rfl) ?_
               simp only [Act.put, List.setIfInBounds_toArray, List.set_cons_zero, List.set_cons_succ]))
        refine wpGrowS_call (by simp only [List.getElem?_toArray, List.getElem?_cons_succ, List.getElem?_cons_zero]; rfl) (by rfl) fun K hK => ?_
        go_simp
        go_fit (HU98.out _)
        rintro e wn ⟨rfl, hbn⟩
        have hSp := hS
        have hS : Below wz.heap.size wz wn ∧ XB wn M ⟨(k : Int), xa, xb, xc, xi⟩ := ⟨beln (hS.1) hbn, XB.next (hS.2) hbn⟩
        go_simp
        refine hK _ _ hS ?_
        clear hK K
        try simp only [Act.put, List.setIfInBounds_toArray, List.set_cons_zero, List.set_cons_succ]
        refine wpGrowS_call (by simp only [List.getElem?_toArray, List.getElem?_cons_succ, List.getElem?_cons_zero]; rfl) (by rfl) fun K hK => ?_
        go_simp
        go_fit (HRb.out _)
        rintro e wn ⟨rfl, hbn⟩
        have hSp := hS
        have hS : Below wz.heap.size wz wn ∧ XB wn M ⟨(k : Int), xa, xb, xc, xi⟩ := ⟨beln (hS.1) hbn, XB.next (hS.2) hbn⟩
        go_simp
        refine hK _ _ hS ?_
        clear hK K
        try simp only [Act.put, List.setIfInBounds_toArray, List.set_cons_zero, List.set_cons_succ]
        iterate 7
          (first
            | (refine wpGrowS_float (v := ?_) (by simp only [List.getElem?_toArray, List.getElem?_cons_succ, List.getElem?_cons_zero]; rfl) (by rfl) ?_ ?_
               rotate_left
               · (intro W hW; obtain ⟨p0, p1, p2, p3, p4⟩ := XB.cells (hW.2); (try simp only at *); go_simp; try with_reducible rfl)
               simp only [Act.put, List.setIfInBounds_toArray, List.set_cons_zero, List.set_cons_succ])
            | (refine wpGrowS_skip (by simp only [List.getElem?_toArray, List.getElem?_cons_succ, List.getElem?_cons_zero]; rfl) (by rfl) ?_
               simp only [Act.put, List.setIfInBounds_toArray, List.set_cons_zero, List.set_cons_succ]))
        refine wpGrowS_pass hS (by simp only [List.getElem?_toArray, List.getElem?_cons_succ, List.getElem?_cons_zero]; rfl) (by rfl) ?_
        try simp only [Act.put, List.setIfInBounds_toArray, List.set_cons_zero, List.set_cons_succ]
        refine wpGrowS_pass hS (by simp only [List.getElem?_toArray, List.getElem?_cons_succ, List.getElem?_cons_zero]; rfl) (by rfl) ?_
        try simp only [Act.put, List.setIfInBounds_toArray, List.set_cons_zero, List.set_cons_succ]
        iterate 9
          (first
            | (refine wpGrowS_float (v := ?_) (by simp only [List.getElem?_toArray, List.getElem?_cons_succ, List.getElem?_cons_zero]; rfl) (by rfl) ?_ ?_
               rotate_left
               · (intro W hW; obtain ⟨p0, p1, p2, p3, p4⟩ := XB.cells (hW.2); (try simp only at *); go_simp; try with_reducible rfl)
               simp only [Act.put, List.setIfInBounds_toArray, List.set_cons_zero, List.set_cons_succ])
            | (refine wpGrowS_skip (by simp only [List.getElem?_toArray, List.getElem?_cons_succ, List.getElem?_cons_zero]; rfl) (by rfl) ?_
               simp only [Act.put, List.setIfInBounds_toArray, List.set_cons_zero, List.set_cons_succ]))
        refine wpGrowS_pass hS (by simp only [List.getElem?_toArray, List.getElem?_cons_succ, List.getElem?_cons_zero]; rfl) (by rfl) ?_
        try simp only [Act.put, List.setIfInBounds_toArray, List.set_cons_zero, List.set_cons_succ]
        iterate 5
          (first
            | (refine wpGrowS_float (v := ?_) (by simp only [List.getElem?_toArray, List.getElem?_cons_succ, List.getElem?_cons_zero]; rfl) (by rfl) ?_ ?_
               rotate_left
               · (intro W hW; obtain ⟨p0, p1, p2, p3, p4⟩ := XB.cells (hW.2); (try simp only at *); go_simp; try with_reducible rfl)
               simp only [Act.put, List.setIfInBounds_toArray, List.set_cons_zero, List.set_cons_succ])
            | (refine wpGrowS_skip (by simp only [List.getElem?_toArray, List.getElem?_cons_succ, List.getElem?_cons_zero]; rfl) (by rfl) ?_
               simp only [Act.put, List.setIfInBounds_toArray, List.set_cons_zero, List.set_cons_succ]))
        refine wpGrowS_pass hS (by simp only [List.getElem?_toArray, List.getElem?_cons_succ, List.getElem?_cons_zero]; rfl) (by rfl) ?_
        try simp only [Act.put, List.setIfInBounds_toArray, List.set_cons_zero, List.set_cons_succ]
        iterate 3
          (first
            | (refine wpGrowS_float (v := ?_) (by simp only [List.getElem?_toArray, List.getElem?_cons_succ, List.getElem?_cons_zero]; rfl) (by rfl) ?_ ?_
               rotate_left
               · (intro W hW; obtain ⟨p0, p1, p2, p3, p4⟩ := XB.cells (hW.2); (try simp only at *); go_simp; try with_reducible rfl)
               simp only [Act.put, List.setIfInBounds_toArray, List.set_cons_zero, List.set_cons_succ])
            | (refine wpGrowS_skip (by simp only [List.getElem?_toArray, List.getElem?_cons_succ, List.getElem?_cons_zero]; rfl) (by rfl) ?_
               simp only [Act.put, List.setIfInBounds_toArray, List.set_cons_zero, List.set_cons_succ]))
        refine wpGrowS_nil ?_
        have HE := Lib.hid hS
        clear hS hSp hbn
        go_wp2
        go_meet
        exact ⟨congrArg Value.bool (by rw [HV.out]; rfl), HE⟩
      rcases rc with _ | _
      · have hS := HS0.out
        refine wp_region_growS (S := fun W => Below wz.heap.size wz W ∧ XB W M ⟨(k : Int), xa, xb, xc, xi⟩) [(0, true), (1, true), (2, true), (3, true), (4, false), (5, false), (6, true), (7, true), (8, true), (9, true), (10, true), (11, true), (12, false), (13, false), (14, true), (15, true), (16, true), (17, true), (18, true), (19, true), (20, true), (21, false), (22, false), (23, true), (24, true), (25, true), (26, true), (27, true), (28, true), (29, true), (30, true), (31, true), (32, false), (33, true), (34, true), (35, true), (36, true), (37, true), (38, false), (39, true), (40, true), (41, true)] (by kernel_rfl) (by kernel_rfl) (by kernel_rfl) (by kernel_rfl) (by intro c a d v w h; cases d <;> exact h) hS ?_
        iterate 4
          (first
            | (refine wpGrowS_float (v := ?_) (by simp only [List.getElem?_toArray, List.getElem?_cons_succ, List.getElem?_cons_zero]; rfl) (by rfl) ?_ ?_
               rotate_left
               · (intro W hW; obtain ⟨p0, p1, p2, p3, p4⟩ := XB.cells (hW.2); (try simp only at *); go_simp; try with_reducible rfl)
               simp only [Act.put, List.setIfInBounds_toArray, List.set_cons_zero, List.set_cons_succ])
            | (refine wpGrowS_skip (by simp only [List.getElem?_toArray, List.getElem?_cons_succ, List.getElem?_cons_zero]; rfl) (by rfl) ?_
               simp only [Act.put, List.setIfInBounds_toArray, List.set_cons_zero, List.set_cons_succ]))
        refine wpGrowS_call (by simp only [List.getElem?_toArray, List.getElem?_cons_succ, List.getElem?_cons_zero]; rfl) (by rfl) fun K hK => ?_
        go_simp
        go_fit (HU97.out _)
        rintro e wn ⟨rfl, hbn⟩
        have hSp := hS
        have hS : Below wz.heap.size wz wn ∧ XB wn M ⟨(k : Int), xa, xb, xc, xi⟩ := ⟨beln (hS.1) hbn, XB.next (hS.2) hbn⟩
        go_simp
        refine hK _ _ hS ?_
        clear hK K
        try simp only [Act.put, List.setIfInBounds_toArray, List.set_cons_zero, List.set_cons_succ]
        refine wpGrowS_call (by simp only [List.getElem?_toArray, List.getElem?_cons_succ, List.getElem?_cons_zero]; rfl) (by rfl) fun K hK => ?_
        go_simp
        go_fit (HRa.out _)
        rintro e wn ⟨rfl, hbn⟩
        have hSp := hS
        have hS : Below wz.heap.size wz wn ∧ XB wn M ⟨(k : Int), xa, xb, xc, xi⟩ := ⟨beln (hS.1) hbn, XB.next (hS.2) hbn⟩
        go_simp
        refine hK _ _ hS ?_
        clear hK K
        try simp only [Act.put, List.setIfInBounds_toArray, List.set_cons_zero, List.set_cons_succ]
        iterate 6
          (first
            | (refine wpGrowS_float (v := ?_) (by simp only [List.getElem?_toArray, List.getElem?_cons_succ, List.getElem?_cons_zero]; rfl) (by rfl) ?_ ?_
               rotate_left
               · (intro W hW; obtain ⟨p0, p1, p2, p3, p4⟩ := XB.cells (hW.2); (try simp only at *); go_simp; try with_reducible rfl)
               simp only [Act.put, List.setIfInBounds_toArray, List.set_cons_zero, List.set_cons_succ])
            | (refine wpGrowS_skip (by simp only [List.getElem?_toArray, List.getElem?_cons_succ, List.getElem?_cons_zero]; rfl) (by rfl) ?_
               simp only [Act.put, List.setIfInBounds_toArray, List.set_cons_zero, List.set_cons_succ]))
        refine wpGrowS_call (by simp only [List.getElem?_toArray, List.getElem?_cons_succ, List.getElem?_cons_zero]; rfl) (by rfl) fun K hK => ?_
        go_simp
        go_fit (HU98.out _)
        rintro e wn ⟨rfl, hbn⟩
        have hSp := hS
        have hS : Below wz.heap.size wz wn ∧ XB wn M ⟨(k : Int), xa, xb, xc, xi⟩ := ⟨beln (hS.1) hbn, XB.next (hS.2) hbn⟩
        go_simp
        refine hK _ _ hS ?_
        clear hK K
        try simp only [Act.put, List.setIfInBounds_toArray, List.set_cons_zero, List.set_cons_succ]
        refine wpGrowS_call (by simp only [List.getElem?_toArray, List.getElem?_cons_succ, List.getElem?_cons_zero]; rfl) (by rfl) fun K hK => ?_
        go_simp
        go_fit (HRb.out _)
        rintro e wn ⟨rfl, hbn⟩
        have hSp := hS
        have hS : Below wz.heap.size wz wn ∧ XB wn M ⟨(k : Int), xa, xb, xc, xi⟩ := ⟨beln (hS.1) hbn, XB.next (hS.2) hbn⟩
        go_simp
        refine hK _ _ hS ?_
        clear hK K
        try simp only [Act.put, List.setIfInBounds_toArray, List.set_cons_zero, List.set_cons_succ]
        iterate 7
          (first
            | (refine wpGrowS_float (v := ?_) (by simp only [List.getElem?_toArray, List.getElem?_cons_succ, List.getElem?_cons_zero]; rfl) (by rfl) ?_ ?_
               rotate_left
               · (intro W hW; obtain ⟨p0, p1, p2, p3, p4⟩ := XB.cells (hW.2); (try simp only at *); go_simp; try with_reducible rfl)
               simp only [Act.put, List.setIfInBounds_toArray, List.set_cons_zero, List.set_cons_succ])
            | (refine wpGrowS_skip (by simp only [List.getElem?_toArray, List.getElem?_cons_succ, List.getElem?_cons_zero]; rfl) (by rfl) ?_
               simp only [Act.put, List.setIfInBounds_toArray, List.set_cons_zero, List.set_cons_succ]))
        refine wpGrowS_call (by simp only [List.getElem?_toArray, List.getElem?_cons_succ, List.getElem?_cons_zero]; rfl) (by rfl) fun K hK => ?_
        go_simp
        go_fit (HU99.out _)
        rintro e wn ⟨rfl, hbn⟩
        have hSp := hS
        have hS : Below wz.heap.size wz wn ∧ XB wn M ⟨(k : Int), xa, xb, xc, xi⟩ := ⟨beln (hS.1) hbn, XB.next (hS.2) hbn⟩
        go_simp
        refine hK _ _ hS ?_
        clear hK K
        try simp only [Act.put, List.setIfInBounds_toArray, List.set_cons_zero, List.set_cons_succ]
        refine wpGrowS_call (by simp only [List.getElem?_toArray, List.getElem?_cons_succ, List.getElem?_cons_zero]; rfl) (by rfl) fun K hK => ?_
        go_simp
        go_fit (HRc.out _)
        rintro e wn ⟨rfl, hbn⟩
        have hSp := hS
        have hS : Below wz.heap.size wz wn ∧ XB wn M ⟨(k : Int), xa, xb, xc, xi⟩ := ⟨beln (hS.1) hbn, XB.next (hS.2) hbn⟩
        go_simp
        refine hK _ _ hS ?_
        clear hK K
        try simp only [Act.put, List.setIfInBounds_toArray, List.set_cons_zero, List.set_cons_succ]
        iterate 9
          (first
            | (refine wpGrowS_float (v := ?_) (by simp only [List.getElem?_toArray, List.getElem?_cons_succ, List.getElem?_cons_zero]; rfl) (by rfl) ?_ ?_
               rotate_left
               · (intro W hW; obtain ⟨p0, p1, p2, p3, p4⟩ := XB.cells (hW.2); (try simp only at *); go_simp; try with_reducible rfl)
               simp only [Act.put, List.setIfInBounds_toArray, List.set_cons_zero, List.set_cons_succ])
            | (refine wpGrowS_skip (by simp only [List.getElem?_toArray, List.getElem?_cons_succ, List.getElem?_cons_zero]; rfl) (by rfl) ?_
               simp only [Act.put, List.setIfInBounds_toArray, List.set_cons_zero, List.set_cons_succ]))
        refine wpGrowS_pass hS (by simp only [List.getElem?_toArray, List.getElem?_cons_succ, List.getElem?_cons_zero]; rfl) (by rfl) ?_
        try simp only [Act.put, List.setIfInBounds_toArray, List.set_cons_zero, List.set_cons_succ]
        iterate 5
          (first
            | (refine wpGrowS_float (v := ?_) (by simp only [List.getElem?_toArray, List.getElem?_cons_succ, List.getElem?_cons_zero]; rfl) (by rfl) ?_ ?_
               rotate_left
               · (intro W hW; obtain ⟨p0, p1, p2, p3, p4⟩ := XB.cells (hW.2); (try simp only at *); go_simp; try with_reducible rfl)
               simp only [Act.put, List.setIfInBounds_toArray, List.set_cons_zero, List.set_cons_succ])
            | (refine wpGrowS_skip (by simp only [List.getElem?_toArray, List.getElem?_cons_succ, List.getElem?_cons_zero]; rfl) (by rfl) ?_
               simp only [Act.put, List.setIfInBounds_toArray, List.set_cons_zero, List.set_cons_succ]))
        refine wpGrowS_pass hS (by simp only [List.getElem?_toArray, List.getElem?_cons_succ, List.getElem?_cons_zero]; rfl) (by rfl) ?_
        try simp only [Act.put, List.setIfInBounds_toArray, List.set_cons_zero, List.set_cons_succ]
        iterate 3
          (first
            | (refine wpGrowS_float (v := ?_) (by simp only [List.getElem?_toArray, List.getElem?_cons_succ, List.getElem?_cons_zero]; rfl) (by rfl) ?_ ?_
               rotate_left
               · (intro W hW; obtain ⟨p0, p1, p2, p3, p4⟩ := XB.cells (hW.2); (try simp only at *); go_simp; try with_reducible rfl)
               simp only [Act.put, List.setIfInBounds_toArray, List.set_cons_zero, List.set_cons_succ])
            | (refine wpGrowS_skip (by simp only [List.getElem?_toArray, List.getElem?_cons_succ, List.getElem?_cons_zero]; rfl) (by rfl) ?_
               simp only [Act.put, List.setIfInBounds_toArray, List.set_cons_zero, List.set_cons_succ]))
        refine wpGrowS_nil ?_
        have HE := Lib.hid hS
        clear hS hSp hbn
        go_wp2
        go_meet
        exact ⟨congrArg Value.bool (by rw [HV.out]; rfl), HE⟩
      by_cases hz : xi = 0
      · have f0 : (xi == 0) = true := beq_iff_eq.2 hz
        have f1 : (xi != 0) = false := by rw [bne, f0]; rfl
        have hz2 : decide (xi ≠ 0) = false := by simp [hz]
        have HV4 : Hid (false = bk) := Lib.hid (by rw [HV.out, hz2]; simp)
        clear hz hz2 HV
        have hS := HS0.out
        refine wp_region_growS (S := fun W => Below wz.heap.size wz W ∧ XB W M ⟨(k : Int), xa, xb, xc, xi⟩) [(0, true), (1, true), (2, true), (3, true), (4, false), (5, false), (6, true), (7, true), (8, true), (9, true), (10, true), (11, true), (12, false), (13, false), (14, true), (15, true), (16, true), (17, true), (18, true), (19, true), (20, true), (21, false), (22, false), (23, true), (24, true), (25, true), (26, true), (27, true), (28, true), (29, true), (30, true), (31, true), (32, false), (33, true), (34, true), (35, true), (36, true), (37, true), (38, false), (39, true), (40, true), (41, true)] (by kernel_rfl) (by kernel_rfl) (by kernel_rfl) (by kernel_rfl) (by intro c a d v w h; cases d <;> exact h) hS ?_
        iterate 4
          (first
            | (refine wpGrowS_float (v := ?_) (by simp only [List.getElem?_toArray, List.getElem?_cons_succ, List.getElem?_cons_zero]; rfl) (by rfl) ?_ ?_
               rotate_left
               · (intro W hW; obtain ⟨p0, p1, p2, p3, p4⟩ := XB.cells (hW.2); (try simp only at *); go_simp; try with_reducible rfl)
               simp only [Act.put, List.setIfInBounds_toArray, List.set_cons_zero, List.set_cons_succ])
            | (refine wpGrowS_skip (by simp only [List.getElem?_toArray, List.getElem?_cons_succ, List.getElem?_cons_zero]; rfl) (by rfl) ?_
               simp only [Act.put, List.setIfInBounds_toArray, List.set_cons_zero, List.set_cons_succ]))
        refine wpGrowS_call (by simp only [List.getElem?_toArray, List.getElem?_cons_succ, List.getElem?_cons_zero]; rfl) (by rfl) fun K hK => ?_
        go_simp
        go_fit (HU97.out _)
        rintro e wn ⟨rfl, hbn⟩
        have hSp := hS
        have hS : Below wz.heap.size wz wn ∧ XB wn M ⟨(k : Int), xa, xb, xc, xi⟩ := ⟨beln (hS.1) hbn, XB.next (hS.2) hbn⟩
        go_simp
        refine hK _ _ hS ?_
        clear hK K
        try simp only [Act.put, List.setIfInBounds_toArray, List.set_cons_zero, List.set_cons_succ]
        refine wpGrowS_call (by simp only [List.getElem?_toArray, List.getElem?_cons_succ, List.getElem?_cons_zero]; rfl) (by rfl) fun K hK => ?_
        go_simp
        go_fit (HRa.out _)
        rintro e wn ⟨rfl, hbn⟩
        have hSp := hS
        have hS : Below wz.heap.size wz wn ∧ XB wn M ⟨(k : Int), xa, xb, xc, xi⟩ := ⟨beln (hS.1) hbn, XB.next (hS.2) hbn⟩
        go_simp
        refine hK _ _ hS ?_
        clear hK K
        try simp only [Act.put, List.setIfInBounds_toArray, List.set_cons_zero, List.set_cons_succ]
        iterate 6
          (first
            | (refine wpGrowS_float (v := ?_) (by simp only [List.getElem?_toArray, List.getElem?_cons_succ, List.getElem?_cons_zero]; rfl) (by rfl) ?_ ?_
               rotate_left
               · (intro W hW; obtain ⟨p0, p1, p2, p3, p4⟩ := XB.cells (hW.2); (try simp only at *); go_simp; try with_reducible rfl)
               simp only [Act.put, List.setIfInBounds_toArray, List.set_cons_zero, List.set_cons_succ])
            | (refine wpGrowS_skip (by simp only [List.getElem?_toArray, List.getElem?_cons_succ, List.getElem?_cons_zero]; rfl) (by rfl) ?_
               simp only [Act.put, List.setIfInBounds_toArray, List.set_cons_zero, List.set_cons_succ]))
        refine wpGrowS_call (by simp only [List.getElem?_toArray, List.getElem?_cons_succ, List.getElem?_cons_zero]; rfl) (by rfl) fun K hK => ?_
        go_simp
        go_fit (HU98.out _)
        rintro e wn ⟨rfl, hbn⟩
        have hSp := hS
        have hS : Below wz.heap.size wz wn ∧ XB wn M ⟨(k : Int), xa, xb, xc, xi⟩ := ⟨beln (hS.1) hbn, XB.next (hS.2) hbn⟩
        go_simp
        refine hK _ _ hS ?_
        clear hK K
        try simp only [Act.put, List.setIfInBounds_toArray, List.set_cons_zero, List.set_cons_succ]
        refine wpGrowS_call (by simp only [List.getElem?_toArray, List.getElem?_cons_succ, List.getElem?_cons_zero]; rfl) (by rfl) fun K hK => ?_
        go_simp
        go_fit (HRb.out _)
        rintro e wn ⟨rfl, hbn⟩
        have hSp := hS
        have hS : Below wz.heap.size wz wn ∧ XB wn M ⟨(k : Int), xa, xb, xc, xi⟩ := ⟨beln (hS.1) hbn, XB.next (hS.2) hbn⟩
        go_simp
        refine hK _ _ hS ?_
        clear hK K
        try simp only [Act.put, List.setIfInBounds_toArray, List.set_cons_zero, List.set_cons_succ]
        iterate 7
          (first
            | (refine wpGrowS_float (v := ?_) (by simp only [List.getElem?_toArray, List.getElem?_cons_succ, List.getElem?_cons_zero]; rfl) (by rfl) ?_ ?_
               rotate_left
               · (intro W hW; obtain ⟨p0, p1, p2, p3, p4⟩ := XB.cells (hW.2); (try simp only at *); go_simp; try with_reducible rfl)
               simp only [Act.put, List.setIfInBounds_toArray, List.set_cons_zero, List.set_cons_succ])
            | (refine wpGrowS_skip (by simp only [List.getElem?_toArray, List.getElem?_cons_succ, List.getElem?_cons_zero]; rfl) (by rfl) ?_
               simp only [Act.put, List.setIfInBounds_toArray, List.set_cons_zero, List.set_cons_succ]))
        refine wpGrowS_call (by simp only [List.getElem?_toArray, List.getElem?_cons_succ, List.getElem?_cons_zero]; rfl) (by rfl) fun K hK => ?_
        go_simp
        go_fit (HU99.out _)
        rintro e wn ⟨rfl, hbn⟩
        have hSp := hS
        have hS : Below wz.heap.size wz wn ∧ XB wn M ⟨(k : Int), xa, xb, xc, xi⟩ := ⟨beln (hS.1) hbn, XB.next (hS.2) hbn⟩
        go_simp
        refine hK _ _ hS ?_
        clear hK K
        try simp only [Act.put, List.setIfInBounds_toArray, List.set_cons_zero, List.set_cons_succ]
        refine wpGrowS_call (by simp only [List.getElem?_toArray, List.getElem?_cons_succ, List.getElem?_cons_zero]; rfl) (by rfl) fun K hK => ?_
        go_simp
        go_fit (HRc.out _)
        rintro e wn ⟨rfl, hbn⟩
        have hSp := hS
        have hS : Below wz.heap.size wz wn ∧ XB wn M ⟨(k : Int), xa, xb, xc, xi⟩ := ⟨beln (hS.1) hbn, XB.next (hS.2) hbn⟩
        go_simp
        refine hK _ _ hS ?_
        clear hK K
        try simp only [Act.put, List.setIfInBounds_toArray, List.set_cons_zero, List.set_cons_succ]
        iterate 9
          (first
            | (refine wpGrowS_float (v := ?_) (by simp only [List.getElem?_toArray, List.getElem?_cons_succ, List.getElem?_cons_zero]; rfl) (by rfl) ?_ ?_
               rotate_left
               · (intro W hW; obtain ⟨p0, p1, p2, p3, p4⟩ := XB.cells (hW.2); (try simp only at *); go_simp; try with_reducible rfl)
               simp only [Act.put, List.setIfInBounds_toArray, List.set_cons_zero, List.set_cons_succ])
            | (refine wpGrowS_skip (by simp only [List.getElem?_toArray, List.getElem?_cons_succ, List.getElem?_cons_zero]; rfl) (by rfl) ?_
               simp only [Act.put, List.setIfInBounds_toArray, List.set_cons_zero, List.set_cons_succ]))
        refine wpGrowS_pass hS (by simp only [List.getElem?_toArray, List.getElem?_cons_succ, List.getElem?_cons_zero]; rfl) (by rfl) ?_
        try simp only [Act.put, List.setIfInBounds_toArray, List.set_cons_zero, List.set_cons_succ]
        iterate 5
          (first
            | (refine wpGrowS_float (v := ?_) (by simp only [List.getElem?_toArray, List.getElem?_cons_succ, List.getElem?_cons_zero]; rfl) (by rfl) ?_ ?_
               rotate_left
               · (intro W hW; obtain ⟨p0, p1, p2, p3, p4⟩ := XB.cells (hW.2); (try simp only at *); go_simp; try with_reducible rfl)
               simp only [Act.put, List.setIfInBounds_toArray, List.set_cons_zero, List.set_cons_succ])
            | (refine wpGrowS_skip (by simp only [List.getElem?_toArray, List.getElem?_cons_succ, List.getElem?_cons_zero]; rfl) (by rfl) ?_
               simp only [Act.put, List.setIfInBounds_toArray, List.set_cons_zero, List.set_cons_succ]))
        refine wpGrowS_pass hS (by simp only [List.getElem?_toArray, List.getElem?_cons_succ, List.getElem?_cons_zero]; rfl) (by rfl) ?_
        try simp only [Act.put, List.setIfInBounds_toArray, List.set_cons_zero, List.set_cons_succ]
        iterate 3
          (first
            | (refine wpGrowS_float (v := ?_) (by simp only [List.getElem?_toArray, List.getElem?_cons_succ, List.getElem?_cons_zero]; rfl) (by rfl) ?_ ?_
               rotate_left
               · (intro W hW; obtain ⟨p0, p1, p2, p3, p4⟩ := XB.cells (hW.2); (try simp only at *); go_simp; try with_reducible rfl)
               simp only [Act.put, List.setIfInBounds_toArray, List.set_cons_zero, List.set_cons_succ])
            | (refine wpGrowS_skip (by simp only [List.getElem?_toArray, List.getElem?_cons_succ, List.getElem?_cons_zero]; rfl) (by rfl) ?_
               simp only [Act.put, List.setIfInBounds_toArray, List.set_cons_zero, List.set_cons_succ]))
        refine wpGrowS_nil ?_
        have HE := Lib.hid hS
        clear hS hSp hbn
        go_wp2
        go_meet
        exact ⟨congrArg Value.bool HV4.out, HE⟩
      have f0 : (xi == 0) = false := beq_eq_false_iff_ne.2 hz
      have f1 : (xi != 0) = true := by rw [bne, f0]; rfl
      have hz2 : decide (xi ≠ 0) = true := by simp [hz]
      have HV5 : Hid (bk = (!ui && !ut)) := Lib.hid (by rw [HV.out, hz2]; simp)
      clear hz hz2 HV
      rcases ui with _ | _
      rotate_left
      · have hS := HS0.out
        refine wp_region_growS (S := fun W => Below wz.heap.size wz W ∧ XB W M ⟨(k : Int), xa, xb, xc, xi⟩) [(0, true), (1, true), (2, true), (3, true), (4, false), (5, false), (6, true), (7, true), (8, true), (9, true), (10, true), (11, true), (12, false), (13, false), (14, true), (15, true), (16, true), (17, true), (18, true), (19, true), (20, true), (21, false), (22, false), (23, true), (24, true), (25, true), (26, true), (27, true), (28, true), (29, true), (30, true), (31, true), (32, false), (33, true), (34, true), (35, true), (36, true), (37, true), (38, false), (39, true), (40, true), (41, true)] (by kernel_rfl) (by kernel_rfl) (by kernel_rfl) (by kernel_rfl) (by intro c a d v w h; cases d <;> exact h) hS ?_
        iterate 4
          (first
            | (refine wpGrowS_float (v := ?_) (by simp only [List.getElem?_toArray, List.getElem?_cons_succ, List.getElem?_cons_zero]; rfl) (by rfl) ?_ ?_
               rotate_left
               · (intro W hW; obtain ⟨p0, p1, p2, p3, p4⟩ := XB.cells (hW.2); (try simp only at *); go_simp; try with_reducible rfl)
               simp only [Act.put, List.setIfInBounds_toArray, List.set_cons_zero, List.set_cons_succ])
            | (refine wpGrowS_skip (by simp only [List.getElem?_toArray, List.getElem?_cons_succ, List.getElem?_cons_zero]; rfl) (by rfl) ?_
               simp only [Act.put, List.setIfInBounds_toArray, List.set_cons_zero, List.set_cons_succ]))
        refine wpGrowS_call (by simp only [List.getElem?_toArray, List.getElem?_cons_succ, List.getElem?_cons_zero]; rfl) (by rfl) fun K hK => ?_
        go_simp
        go_fit (HU97.out _)
        rintro e wn ⟨rfl, hbn⟩
        have hSp := hS
        have hS : Below wz.heap.size wz wn ∧ XB wn M ⟨(k : Int), xa, xb, xc, xi⟩ := ⟨beln (hS.1) hbn, XB.next (hS.2) hbn⟩
        go_simp
        refine hK _ _ hS ?_
        clear hK K
        try simp only [Act.put, List.setIfInBounds_toArray, List.set_cons_zero, List.set_cons_succ]
        refine wpGrowS_call (by simp only [List.getElem?_toArray, List.getElem?_cons_succ, List.getElem?_cons_zero]; rfl) (by rfl) fun K hK => ?_
        go_simp
        go_fit (HRa.out _)
        rintro e wn ⟨rfl, hbn⟩
        have hSp := hS
        have hS : Below wz.heap.size wz wn ∧ XB wn M ⟨(k : Int), xa, xb, xc, xi⟩ := ⟨beln (hS.1) hbn, XB.next (hS.2) hbn⟩
        go_simp
        refine hK _ _ hS ?_
        clear hK K
        try simp only [Act.put, List.setIfInBounds_toArray, List.set_cons_zero, List.set_cons_succ]
        iterate 6
          (first
            | (refine wpGrowS_float (v := ?_) (by simp only [List.getElem?_toArray, List.getElem?_cons_succ, List.getElem?_cons_zero]; rfl) (by rfl) ?_ ?_
               rotate_left
               · (intro W hW; obtain ⟨p0, p1, p2, p3, p4⟩ := XB.cells (hW.2); (try simp only at *); go_simp; try with_reducible rfl)
               simp only [Act.put, List.setIfInBounds_toArray, List.set_cons_zero, List.set_cons_succ])
            | (refine wpGrowS_skip (by simp only [List.getElem?_toArray, List.getElem?_cons_succ, List.getElem?_cons_zero]; rfl) (by rfl) ?_
               simp only [Act.put, List.setIfInBounds_toArray, List.set_cons_zero, List.set_cons_succ]))
        refine wpGrowS_call (by simp only [List.getElem?_toArray, List.getElem?_cons_succ, List.getElem?_cons_zero]; rfl) (by rfl) fun K hK => ?_
        go_simp
        go_fit (HU98.out _)
        rintro e wn ⟨rfl, hbn⟩
        have hSp := hS
        have hS : Below wz.heap.size wz wn ∧ XB wn M ⟨(k : Int), xa, xb, xc, xi⟩ := ⟨beln (hS.1) hbn, XB.next (hS.2) hbn⟩
        go_simp
        refine hK _ _ hS ?_
        clear hK K
        try simp only [Act.put, List.setIfInBounds_toArray, List.set_cons_zero, List.set_cons_succ]
        refine wpGrowS_call (by simp only [List.getElem?_toArray, List.getElem?_cons_succ, List.getElem?_cons_zero]; rfl) (by rfl) fun K hK => ?_
        go_simp
        go_fit (HRb.out _)
        rintro e wn ⟨rfl, hbn⟩
        have hSp := hS
        have hS : Below wz.heap.size wz wn ∧ XB wn M ⟨(k : Int), xa, xb, xc, xi⟩ := ⟨beln (hS.1) hbn, XB.next (hS.2) hbn⟩
        go_simp
        refine hK _ _ hS ?_
        clear hK K
        try simp only [Act.put, List.setIfInBounds_toArray, List.set_cons_zero, List.set_cons_succ]
        iterate 7
          (first
            | (refine wpGrowS_float (v := ?_) (by simp only [List.getElem?_toArray, List.getElem?_cons_succ, List.getElem?_cons_zero]; rfl) (by rfl) ?_ ?_
               rotate_left
               · (intro W hW; obtain ⟨p0, p1, p2, p3, p4⟩ := XB.cells (hW.2); (try simp only at *); go_simp; try with_reducible rfl)
               simp only [Act.put, List.setIfInBounds_toArray, List.set_cons_zero, List.set_cons_succ])
            | (refine wpGrowS_skip (by simp only [List.getElem?_toArray, List.getElem?_cons_succ, List.getElem?_cons_zero]; rfl) (by rfl) ?_
               simp only [Act.put, List.setIfInBounds_toArray, List.set_cons_zero, List.set_cons_succ]))
        refine wpGrowS_call (by simp only [List.getElem?_toArray, List.getElem?_cons_succ, List.getElem?_cons_zero]; rfl) (by rfl) fun K hK => ?_
        go_simp
        go_fit (HU99.out _)
        rintro e wn ⟨rfl, hbn⟩
        have hSp := hS
        have hS : Below wz.heap.size wz wn ∧ XB wn M ⟨(k : Int), xa, xb, xc, xi⟩ := ⟨beln (hS.1) hbn, XB.next (hS.2) hbn⟩
        go_simp
        refine hK _ _ hS ?_
        clear hK K
        try simp only [Act.put, List.setIfInBounds_toArray, List.set_cons_zero, List.set_cons_succ]
        refine wpGrowS_call (by simp only [List.getElem?_toArray, List.getElem?_cons_succ, List.getElem?_cons_zero]; rfl) (by rfl) fun K hK => ?_
        go_simp
        go_fit (HRc.out _)
        rintro e wn ⟨rfl, hbn⟩
        have hSp := hS
        have hS : Below wz.heap.size wz wn ∧ XB wn M ⟨(k : Int), xa, xb, xc, xi⟩ := ⟨beln (hS.1) hbn, XB.next (hS.2) hbn⟩
        go_simp
        refine hK _ _ hS ?_
        clear hK K
        try simp only [Act.put, List.setIfInBounds_toArray, List.set_cons_zero, List.set_cons_succ]
        iterate 9
          (first
            | (refine wpGrowS_float (v := ?_) (by simp only [List.getElem?_toArray, List.getElem?_cons_succ, List.getElem?_cons_zero]; rfl) (by rfl) ?_ ?_
               rotate_left
               · (intro W hW; obtain ⟨p0, p1, p2, p3, p4⟩ := XB.cells (hW.2); (try simp only at *); go_simp; try with_reducible rfl)
               simp only [Act.put, List.setIfInBounds_toArray, List.set_cons_zero, List.set_cons_succ])
            | (refine wpGrowS_skip (by simp only [List.getElem?_toArray, List.getElem?_cons_succ, List.getElem?_cons_zero]; rfl) (by rfl) ?_
               simp only [Act.put, List.setIfInBounds_toArray, List.set_cons_zero, List.set_cons_succ]))
        refine wpGrowS_call (by simp only [List.getElem?_toArray, List.getElem?_cons_succ, List.getElem?_cons_zero]; rfl) (by rfl) fun K hK => ?_
        go_simp
        go_fit (HU105.out _)
        rintro e wn ⟨rfl, hbn⟩
        have hSp := hS
        have hS : Below wz.heap.size wz wn ∧ XB wn M ⟨(k : Int), xa, xb, xc, xi⟩ := ⟨beln (hS.1) hbn, XB.next (hS.2) hbn⟩
        go_simp
        refine hK _ _ hS ?_
        clear hK K
        try simp only [Act.put, List.setIfInBounds_toArray, List.set_cons_zero, List.set_cons_succ]
        iterate 5
          (first
            | (refine wpGrowS_float (v := ?_) (by simp only [List.getElem?_toArray, List.getElem?_cons_succ, List.getElem?_cons_zero]; rfl) (by rfl) ?_ ?_
               rotate_left
               · (intro W hW; obtain ⟨p0, p1, p2, p3, p4⟩ := XB.cells (hW.2); (try simp only at *); go_simp; try with_reducible rfl)
               simp only [Act.put, List.setIfInBounds_toArray, List.set_cons_zero, List.set_cons_succ])
            | (refine wpGrowS_skip (by simp only [List.getElem?_toArray, List.getElem?_cons_succ, List.getElem?_cons_zero]; rfl) (by rfl) ?_
               simp only [Act.put, List.setIfInBounds_toArray, List.set_cons_zero, List.set_cons_succ]))
        refine wpGrowS_pass hS (by simp only [List.getElem?_toArray, List.getElem?_cons_succ, List.getElem?_cons_zero]; rfl) (by rfl) ?_
        try simp only [Act.put, List.setIfInBounds_toArray, List.set_cons_zero, List.set_cons_succ]
        iterate 3
          (first
            | (refine wpGrowS_float (v := ?_) (by simp only [List.getElem?_toArray, List.getElem?_cons_succ, List.getElem?_cons_zero]; rfl) (by rfl) ?_ ?_
               rotate_left
               · (intro W hW; obtain ⟨p0, p1, p2, p3, p4⟩ := XB.cells (hW.2); (try simp only at *); go_simp; try with_reducible rfl)
               simp only [Act.put, List.setIfInBounds_toArray, List.set_cons_zero, List.set_cons_succ])
            | (refine wpGrowS_skip (by simp only [List.getElem?_toArray, List.getElem?_cons_succ, List.getElem?_cons_zero]; rfl) (by rfl) ?_
               simp only [Act.put, List.setIfInBounds_toArray, List.set_cons_zero, List.set_cons_succ]))
        refine wpGrowS_nil ?_
        have HE := Lib.hid hS
        clear hS hSp hbn
        go_wp2
        go_meet
        exact ⟨congrArg Value.bool (by rw [HV5.out]; rfl), HE⟩
      have hS := HS0.out
      refine wp_region_growS (S := fun W => Below wz.heap.size wz W ∧ XB W M ⟨(k : Int), xa, xb, xc, xi⟩) [(0, true), (1, true), (2, true), (3, true), (4, false), (5, false), (6, true), (7, true), (8, true), (9, true), (10, true), (11, true), (12, false), (13, false), (14, true), (15, true), (16, true), (17, true), (18, true), (19, true), (20, true), (21, false), (22, false), (23, true), (24, true), (25, true), (26, true), (27, true), (28, true), (29, true), (30, true), (31, true), (32, false), (33, true), (34, true), (35, true), (36, true), (37, true), (38, false), (39, true), (40, true), (41, true)] (by kernel_rfl) (by kernel_rfl) (by kernel_rfl) (by kernel_rfl) (by intro c a d v w h; cases d <;> exact h) hS ?_
      iterate 4
        (first
          | (refine wpGrowS_float (v := ?_) (by simp only [List.getElem?_toArray, List.getElem?_cons_succ, List.getElem?_cons_zero]; rfl) (by rfl) ?_ ?_
             rotate_left
             · (intro W hW; obtain ⟨p0, p1, p2, p3, p4⟩ := XB.cells (hW.2); (try simp only at *); go_simp; try with_reducible rfl)
             simp only [Act.put, List.setIfInBounds_toArray, List.set_cons_zero, List.set_cons_succ])
          | (refine wpGrowS_skip (by simp only [List.getElem?_toArray, List.getElem?_cons_succ, List.getElem?_cons_zero]; rfl) (by rfl) ?_
             simp only [Act.put, List.setIfInBounds_toArray, List.set_cons_zero, List.set_cons_succ]))
      refine wpGrowS_call (by simp only [List.getElem?_toArray, List.getElem?_cons_succ, List.getElem?_cons_zero]; rfl) (by rfl) fun K hK => ?_
      go_simp
      go_fit (HU97.out _)
      rintro e wn ⟨rfl, hbn⟩
      have hSp := hS
      have hS : Below wz.heap.size wz wn ∧ XB wn M ⟨(k : Int), xa, xb, xc, xi⟩ := ⟨beln (hS.1) hbn, XB.next (hS.2) hbn⟩
      go_simp
      refine hK _ _ hS ?_
      clear hK K
      try simp only [Act.put, List.setIfInBounds_toArray, List.set_cons_zero, List.set_cons_succ]
      refine wpGrowS_call (by simp only [List.getElem?_toArray, List.getElem?_cons_succ, List.getElem?_cons_zero]; rfl) (by rfl) fun K hK => ?_
      go_simp
      go_fit (HRa.out _)
      rintro e wn ⟨rfl, hbn⟩
      have hSp := hS
      have hS : Below wz.heap.size wz wn ∧ XB wn M ⟨(k : Int), xa, xb, xc, xi⟩ := ⟨beln (hS.1) hbn, XB.next (hS.2) hbn⟩
      go_simp
      refine hK _ _ hS ?_
      clear hK K
      try simp only [Act.put, List.setIfInBounds_toArray, List.set_cons_zero, List.set_cons_succ]
      iterate 6
        (first
          | (refine wpGrowS_float (v := ?_) (by simp only [List.getElem?_toArray, List.getElem?_cons_succ, List.getElem?_cons_zero]; rfl) (by rfl) ?_ ?_
             rotate_left
             · (intro W hW; obtain ⟨p0, p1, p2, p3, p4⟩ := XB.cells (hW.2); (try simp only at *); go_simp; try with_reducible rfl)
             simp only [Act.put, List.setIfInBounds_toArray, List.set_cons_zero, List.set_cons_succ])
          | (refine wpGrowS_skip (by simp only [List.getElem?_toArray, List.getElem?_cons_succ, List.getElem?_cons_zero]; rfl) (by rfl) ?_
             simp only [Act.put, List.setIfInBounds_toArray, List.set_cons_zero, List.set_cons_succ]))
      refine wpGrowS_call (by simp only [List.getElem?_toArray, List.getElem?_cons_succ, List.getElem?_cons_zero]; rfl) (by rfl) fun K hK => ?_
      go_simp
      go_fit (HU98.out _)
      rintro e wn ⟨rfl, hbn⟩
      have hSp := hS
      have hS : Below wz.heap.size wz wn ∧ XB wn M ⟨(k : Int), xa, xb, xc, xi⟩ := ⟨beln (hS.1) hbn, XB.next (hS.2) hbn⟩
      go_simp
      refine hK _ _ hS ?_
      clear hK K
      try simp only [Act.put, List.setIfInBounds_toArray, List.set_cons_zero, List.set_cons_succ]
      refine wpGrowS_call (by simp only [List.getElem?_toArray, List.getElem?_cons_succ, List.getElem?_cons_zero]; rfl) (by rfl) fun K hK => ?_
      go_simp
      go_fit (HRb.out _)
      rintro e wn ⟨rfl, hbn⟩
      have hSp := hS
      have hS : Below wz.heap.size wz wn ∧ XB wn M ⟨(k : Int), xa, xb, xc, xi⟩ := ⟨beln (hS.1) hbn, XB.next (hS.2) hbn⟩
      go_simp
      refine hK _ _ hS ?_
      clear hK K
      try simp only [Act.put, List.setIfInBounds_toArray, List.set_cons_zero, List.set_cons_succ]
      iterate 7
        (first
          | (refine wpGrowS_float (v := ?_) (by simp only [List.getElem?_toArray, List.getElem?_cons_succ, List.getElem?_cons_zero]; rfl) (by rfl) ?_ ?_
             rotate_left
             · (intro W hW; obtain ⟨p0, p1, p2, p3, p4⟩ := XB.cells (hW.2); (try simp only at *); go_simp; try with_reducible rfl)
             simp only [Act.put, List.setIfInBounds_toArray, List.set_cons_zero, List.set_cons_succ])
          | (refine wpGrowS_skip (by simp only [List.getElem?_toArray, List.getElem?_cons_succ, List.getElem?_cons_zero]; rfl) (by rfl) ?_
             simp only [Act.put, List.setIfInBounds_toArray, List.set_cons_zero, List.set_cons_succ]))
      refine wpGrowS_call (by simp only [List.getElem?_toArray, List.getElem?_cons_succ, List.getElem?_cons_zero]; rfl) (by rfl) fun K hK => ?_
      go_simp
      go_fit (HU99.out _)
      rintro e wn ⟨rfl, hbn⟩
      have hSp := hS
      have hS : Below wz.heap.size wz wn ∧ XB wn M ⟨(k : Int), xa, xb, xc, xi⟩ := ⟨beln (hS.1) hbn, XB.next (hS.2) hbn⟩
      go_simp
      refine hK _ _ hS ?_
      clear hK K
      try simp only [Act.put, List.setIfInBounds_toArray, List.set_cons_zero, List.set_cons_succ]
      refine wpGrowS_call (by simp only [List.getElem?_toArray, List.getElem?_cons_succ, List.getElem?_cons_zero]; rfl) (by rfl) fun K hK => ?_
      go_simp
      go_fit (HRc.out _)
      rintro e wn ⟨rfl, hbn⟩
      have hSp := hS
      have hS : Below wz.heap.size wz wn ∧ XB wn M ⟨(k : Int), xa, xb, xc, xi⟩ := ⟨beln (hS.1) hbn, XB.next (hS.2) hbn⟩
      go_simp
      refine hK _ _ hS ?_
      clear hK K
      try simp only [Act.put, List.setIfInBounds_toArray, List.set_cons_zero, List.set_cons_succ]
      iterate 9
        (first
          | (refine wpGrowS_float (v := ?_) (by simp only [List.getElem?_toArray, List.getElem?_cons_succ, List.getElem?_cons_zero]; rfl) (by rfl) ?_ ?_
             rotate_left
             · (intro W hW; obtain ⟨p0, p1, p2, p3, p4⟩ := XB.cells (hW.2); (try simp only at *); go_simp; try with_reducible rfl)
             simp only [Act.put, List.setIfInBounds_toArray, List.set_cons_zero, List.set_cons_succ])
          | (refine wpGrowS_skip (by simp only [List.getElem?_toArray, List.getElem?_cons_succ, List.getElem?_cons_zero]; rfl) (by rfl) ?_
             simp only [Act.put, List.setIfInBounds_toArray, List.set_cons_zero, List.set_cons_succ]))
      refine wpGrowS_call (by simp only [List.getElem?_toArray, List.getElem?_cons_succ, List.getElem?_cons_zero]; rfl) (by rfl) fun K hK => ?_
      go_simp
      go_fit (HU105.out _)
      rintro e wn ⟨rfl, hbn⟩
      have hSp := hS
      have hS : Below wz.heap.size wz wn ∧ XB wn M ⟨(k : Int), xa, xb, xc, xi⟩ := ⟨beln (hS.1) hbn, XB.next (hS.2) hbn⟩
      go_simp
      refine hK _ _ hS ?_
      clear hK K
      try simp only [Act.put, List.setIfInBounds_toArray, List.set_cons_zero, List.set_cons_succ]
      iterate 5
        (first
          | (refine wpGrowS_float (v := ?_) (by simp only [List.getElem?_toArray, List.getElem?_cons_succ, List.getElem?_cons_zero]; rfl) (by rfl) ?_ ?_
             rotate_left
             · (intro W hW; obtain ⟨p0, p1, p2, p3, p4⟩ := XB.cells (hW.2); (try simp only at *); go_simp; try with_reducible rfl)
             simp only [Act.put, List.setIfInBounds_toArray, List.set_cons_zero, List.set_cons_succ])
          | (refine wpGrowS_skip (by simp only [List.getElem?_toArray, List.getElem?_cons_succ, List.getElem?_cons_zero]; rfl) (by rfl) ?_
             simp only [Act.put, List.setIfInBounds_toArray, List.set_cons_zero, List.set_cons_succ]))
      refine wpGrowS_call (by simp only [List.getElem?_toArray, List.getElem?_cons_succ, List.getElem?_cons_zero]; rfl) (by rfl) fun K hK => ?_
      go_simp
      go_fit (HU116.out _)
      rintro e wn ⟨rfl, hbn⟩
      have hSp := hS
      have hS : Below wz.heap.size wz wn ∧ XB wn M ⟨(k : Int), xa, xb, xc, xi⟩ := ⟨beln (hS.1) hbn, XB.next (hS.2) hbn⟩
      go_simp
      refine hK _ _ hS ?_
      clear hK K
      try simp only [Act.put, List.setIfInBounds_toArray, List.set_cons_zero, List.set_cons_succ]
      iterate 3
        (first
          | (refine wpGrowS_float (v := ?_) (by simp only [List.getElem?_toArray, List.getElem?_cons_succ, List.getElem?_cons_zero]; rfl) (by rfl) ?_ ?_
             rotate_left
             · (intro W hW; obtain ⟨p0, p1, p2, p3, p4⟩ := XB.cells (hW.2); (try simp only at *); go_simp; try with_reducible rfl)
             simp only [Act.put, List.setIfInBounds_toArray, List.set_cons_zero, List.set_cons_succ])
          | (refine wpGrowS_skip (by simp only [List.getElem?_toArray, List.getElem?_cons_succ, List.getElem?_cons_zero]; rfl) (by rfl) ?_
             simp only [Act.put, List.setIfInBounds_toArray, List.set_cons_zero, List.set_cons_succ]))
      refine wpGrowS_nil ?_
      have HE := Lib.hid hS
      clear hS hSp hbn
      go_wp2
      go_meet
      exact ⟨congrArg Value.bool (by rw [HV5.out]; rfl), HE⟩
    case rest =>
      obtain ⟨rfl, HE⟩ := hcut
      have HBE := Lib.hid (beln HB1.out HE.out.1)
      obtain ⟨x0, x1, x2, x3, x4⟩ := HE.out.2.cells
      simp only at x0 x1 x2 x3 x4
      have hml := HE.out.2.lt
      rcases bk with _ | _
      rotate_left
      · have HF : Hid (q = 70) := Lib.hid (by have e : ch = 70 := HCH.out; rw [e] at HBAD; exact HBAD.out (by decide))
        clear HBAD HGOOD HCH
        go_wp2
        go_ret
        exact ⟨congrArg (fun b => Ending.returned (Value.int .i64 b)) HF.out.symm, HBE.out⟩
      have HCH2 : Hid (ch = if fi = 2 ∧ (xi < 0 ∨ (ps.length : Int) ≤ xi) then 71 else 0) := Lib.hid (by rw [HCH.out]; simp)
      clear HCH HV
      go_wp2_with fail
      go_fit (HJ.out _)
      rintro e w9 ⟨rfl, hb9⟩
      have HX9 := HE.out.2.next hb9
      have HB9 := Lib.hid (beln HBE.out hb9)
      clear hb9 x0 x1 x2 x3 x4 HBE
      obtain ⟨x0, x1, x2, x3, x4⟩ := HX9.cells
      simp only at x0 x1 x2 x3 x4
      have hml9 := HX9.lt
      have hcx : IntKind.i64.wrap xi = xi := IntWalk.i64_in _ (by omega)
      rcases ut with _ | _
      · have h0 : ch = 0 := by rw [HCH2.out, if_neg fun h => by have := HUT.out.2 h.1; cases this]
        have HG := Lib.hid (HGOOD.out h0)
        clear HBAD HGOOD HCH2 h0
        go_wp2
        go_roundw
        case rel => exact ⟨i + 1, by go_num, by omega, HG, HB9⟩
        case measure => simp [intOf]; omega
      have hfi : fi = 2 := HUT.out.1 rfl
      by_cases hn : xi < 0
      · have f1 : decide (xi < 0) = true := decide_eq_true hn
        have HF : Hid (q = 71) := Lib.hid (by have e : ch = 71 := by rw [HCH2.out, if_pos ⟨hfi, .inl hn⟩]
                                              rw [e] at HBAD; exact HBAD.out (by decide))
        clear HBAD HGOOD HCH2 hn hfi
        go_wp2
        go_ret
        exact ⟨congrArg (fun b => Ending.returned (Value.int .i64 b)) HF.out.symm, HB9.out⟩
      have f1 : decide (xi < 0) = false := decide_eq_false hn
      by_cases hm : (ps.length : Int) ≤ xi
      · have f2 : decide ((ps.length : Int) ≤ xi) = true := decide_eq_true hm
        have HF : Hid (q = 71) := Lib.hid (by have e : ch = 71 := by rw [HCH2.out, if_pos ⟨hfi, .inr hm⟩]
                                              rw [e] at HBAD; exact HBAD.out (by decide))
        clear HBAD HGOOD HCH2 hn hfi hm
        go_wp2
        go_ret
        exact ⟨congrArg (fun b => Ending.returned (Value.int .i64 b)) HF.out.symm, HB9.out⟩
      · have f2 : decide ((ps.length : Int) ≤ xi) = false := decide_eq_false hm
        have h0 : ch = 0 := by rw [HCH2.out, if_neg fun h => by rcases h.2 with h | h <;> omega]
        have HG := Lib.hid (HGOOD.out h0)
        clear HBAD HGOOD HCH2 h0 hn hfi hm
        go_wp2
        go_roundw
        case rel => exact ⟨i + 1, by go_num, by omega, HG, HB9⟩
        case measure => simp [intOf]; omega
end Go.Proofs.YtahhmgoffdggpaaGreatDoor


namespace Go.Proofs.YtahhmgoffdggpaaGreatDoor
open Go.RowKit Go.Shelf

theorem gc_vals : ∀ l : List UInt8, gcells (fun b : UInt8 => [Value.int .u8 (b.toNat : Int)]) l = vals l
  | [] => rfl
  | b :: l => by
    have := gc_vals l
    unfold gcells vals at *
    rw [List.flatMap_cons, this]; rfl
theorem own_lit (w : World) (base : Nat) (l : List UInt8) (hb : base ≤ w.heap.size) (hl : l.length ≤ 100) : Own (w.alloc (.cells (vals l).toArray 5)) base (.slice (some ⟨w.heap.size, 0, none⟩) l.length l.length) l := by
  have h := OwnG.lit (enc := fun b : UInt8 => [Value.int .u8 (b.toNat : Int)]) (k := 1) (fun _ => rfl) w base (T := 5) l (vals l).toArray (by rw [gc_vals]) hb (by unfold maxLen; omega)
  unfold Own
  unfold OwnG at h
  rw [gc_vals] at h
  exact h
/-- Bytes that lie in a new block are appended to bytes of the call's own. -/
theorem own_more {wA w0 : World} {base : Nat} {v : Value} {l : List UInt8} (h : Own wA base v l) (hb : Below base w0 wA) (hbase : base ≤ wA.heap.size) (l2 : List UInt8) (hl : l.length ≤ 1000000) (hl2 : l2.length ≤ 100) :
    ∃ v' w', (Builtin.append_ #[23, 23] 23 #[v, .slice (some ⟨wA.heap.size, 0, none⟩) l2.length l2.length]).run Tryz.prog (wA.alloc (.cells (vals l2).toArray 5)) = .ok v' w' ∧ Own w' base v' (l ++ l2) ∧ Below base w0 w' := by
  have ho := own_lit wA wA.heap.size l2 (Nat.le_refl _) hl2
  obtain ⟨A, cp, e, _, _, hby⟩ := ho.form
  injection e with e1 e2 e3
  subst e1
  obtain ⟨v', w', hr, hown, hb', _⟩ := (h.alloc (.cells (vals l2).toArray 5)).app (w0 := w0) l2.length hby (hb.alloc hbase _) (by simp; omega) (by omega)
  exact ⟨v', w', hr, hown, hb'⟩
theorem Own.low {w : World} {b b' : Nat} {v : Value} {l : List UInt8} (h : Own w b v l) (hb : b' ≤ b) : Own w b' v l := by
  refine ⟨h.1, ?_⟩
  rcases h.2 with hh | ⟨g, c, cur, e1, hbs, rest⟩
  · exact .inl hh
  · exact .inr ⟨g, c, cur, e1, by omega, rest⟩
def REncEnd (ps : List GIns) (w : World) (e : Ending) (w' : World) : Prop :=
  Below w.heap.size w w' ∧ if valP ps = 0 then ∃ v, e = .returned (.tuple #[v, .int .i64 0]) ∧ Own w' w.heap.size v (encL ps) else e = .returned (.tuple #[.slice none 0 0, .int .i64 (valP ps)])
theorem encB_vals (x : GIns) (h : ByteOk x) : vals (encB x) = [.int .u8 x.op, .int .u8 x.a, .int .u8 x.b, .int .u8 x.c, .int .u8 (x.imm % 256), .int .u8 (x.imm / 256 % 256), .int .u8 (x.imm / 65536 % 256), .int .u8 (x.imm / 16777216 % 256)] := by
  have e : encB x = [UInt8.ofNat x.op.toNat, UInt8.ofNat x.a.toNat, UInt8.ofNat x.b.toNat, UInt8.ofNat x.c.toNat, UInt8.ofNat (u32N x.imm / 256 ^ 0 % 256), UInt8.ofNat (u32N x.imm / 256 ^ 1 % 256), UInt8.ofNat (u32N x.imm / 256 ^ 2 % 256), UInt8.ofNat (u32N x.imm / 256 ^ 3 % 256)] := rfl
  have hu : ((u32N x.imm : Nat) : Int) = x.imm % 4294967296 := by unfold u32N; omega
  rw [e]
  unfold vals
  simp only [List.map_cons, List.map_nil]
  rw [(byte_ok h.op).2, (byte_ok h.a).2, (byte_ok h.b).2, (byte_ok h.c).2]
  have g : ∀ n : Nat, n < 256 → (((UInt8.ofNat n).toNat : Nat) : Int) = n := fun n hn => by rw [UInt8.toNat_ofNat']; omega
  generalize u32N x.imm = u at *
  rw [g _ (by omega), g _ (by omega), g _ (by omega), g _ (by omega)]
  rw [show (256 : Nat) ^ 0 = 1 by decide, show (256 : Nat) ^ 1 = 256 by decide, show (256 : Nat) ^ 2 = 65536 by decide, show (256 : Nat) ^ 3 = 16777216 by decide]
  have e0 : ((u / 1 % 256 : Nat) : Int) = x.imm % 256 := by omega
  have e1 : ((u / 256 % 256 : Nat) : Int) = x.imm / 256 % 256 := by omega
  have e2 : ((u / 65536 % 256 : Nat) : Int) = x.imm / 65536 % 256 := by omega
  have e3 : ((u / 16777216 % 256 : Nat) : Int) = x.imm / 16777216 % 256 := by omega
  rw [e0, e1, e2, e3]
set_option maxRecDepth 20000 in
set_option maxHeartbeats 2000000 in
theorem rEnc9_any (ps : List GIns) (A : Option Addr) (c : Nat) (w : World) (h : GRow GIns.cells 5 w w.heap.size A ps) (hi : ∀ x ∈ ps, ImmOk x) :
    Calls Tryz.prog 7 #[.slice A ps.length c] w (REncEnd ps w) := by
  have HV := Lib.hid (rVal9_any ps A c w h hi)
  have HX : Hid (∀ W, valP ps ≠ 0 → Below w.heap.size w W → REncEnd ps w (.returned (.tuple #[.slice none 0 0, .int .i64 (valP ps)])) W) := Lib.hid fun W h0 hb => ⟨hb, by rw [if_neg h0]⟩
  have HFIN : Hid (∀ v W, valP ps = 0 → Below w.heap.size w W → Own W w.heap.size v (encL ps) → REncEnd ps w (.returned (.tuple #[v, .int .i64 0])) W) := Lib.hid fun v W h0 hb ho => ⟨hb, by rw [if_pos h0]; exact ⟨v, rfl, ho⟩⟩
  have HOK : Hid (valP ps = 0 → ps.length ≤ 4096 ∧ ∀ x ∈ ps, ByteOk x) := Lib.hid fun hv => by
    unfold valP at hv
    by_cases h0 : ps.length = 0 ∨ 4096 < ps.length
    · rw [if_pos h0] at hv; omega
    · rw [if_neg h0] at hv; exact ⟨by omega, fun x hx => chkI_zero (valL_zero hv x hx)⟩
  have HROW := Lib.hid fun W (hW : Below w.heap.size w W) => h.next hW
  have HIM := Lib.hid hi
  generalize REncEnd ps w = EE at *
  generalize valP ps = q at *
  clear h hi
  go_enter Tryz.func7, Tryz.ntmps7
  go_wp2_with fail
  go_fit HV.out
  rintro e w1 ⟨rfl, hb1⟩
  have HB1 := Lib.hid hb1
  clear hb1 HV
  by_cases hq : q = 0
  rotate_left
  · have fq : (q == 0) = false := beq_eq_false_iff_ne.2 hq
    have fq2 : (q != 0) = true := by rw [bne, fq]; rfl
    have HE := Lib.hid (HX.out w1 hq HB1.out)
    clear hq fq HX HFIN HOK
    generalize ps.length = n at *
    go_wp2
    exact HE.out
  subst hq
  obtain ⟨hn4, hby⟩ := HOK.out rfl
  have HBY := Lib.hid hby
  have HF0 := Lib.hid fun v W hb ho => HFIN.out v W rfl hb ho
  clear hby HOK HX HFIN
  go_wp2
  go_loopw [5, 6] (fun v5 v6 wr => ∃ k : Nat, v6 = .int .i64 k ∧ k ≤ ps.length ∧ Hid (Own wr w1.heap.size v5 (encL (ps.take k))) ∧ Hid (Below w1.heap.size w1 wr)) (fun _ v6 _ => ps.length - (intOf v6).toNat)
  case atStart => exact ⟨0, rfl, Nat.zero_le _, Lib.hid (Own.nil _ _), Lib.hid (Below.refl _ _)⟩
  case round =>
    obtain ⟨k, rfl, hk, HO, HB⟩ := hrel
    generalize wr = wA at *
    rcases Nat.lt_or_ge k ps.length with hlt | hge
    · have hklt : decide ((k : Int) < (ps.length : Int)) = true := by simp; omega
      obtain ⟨b1, o1, rfl, hb1, x0, x1, x2, x3, x4⟩ := (HROW.out _ (beln HB1.out HB.out)).ins hlt
      have him := HIM.out _ (List.getElem_mem hlt)
      have hbk := HBY.out _ (List.getElem_mem hlt)
      have HEV := Lib.hid (encB_vals _ hbk)
      have HTK : Hid (encL (ps.take (k + 1)) = encL (ps.take k) ++ encB ps[k]) := Lib.hid (by rw [List.take_succ_eq_append_getElem hlt, encL_snoc])
      obtain ⟨h0, h1, h2, h3⟩ := hbk
      obtain ⟨A5, c5, rfl, _, _, _⟩ := HO.out.form
      have HLN : Hid ((encL (ps.take k)).length ≤ 1000000) := Lib.hid (by rw [length_encL, List.length_take]; omega)
      have HL8 := Lib.hid (length_encB ps[k])
      generalize encB ps[k] = eb at *
      generalize ps[k] = x at *
      obtain ⟨xo, xa, xb, xc, xi⟩ := x
      obtain ⟨him0, him1⟩ := him
      simp only at x0 x1 x2 x3 x4 h0 h1 h2 h3 him0 him1 HEV
      generalize encL (ps.take k) = el at *
      have HBX := Lib.hid (HB.out.alloc HB.out.size (.cells #[.int .i64 xo, .int .i64 xa, .int .i64 xb, .int .i64 xc, .int .i32 xi] 40))
      have HOX := Lib.hid (HO.out.alloc (.cells #[.int .i64 xo, .int .i64 xa, .int .i64 xb, .int .i64 xc, .int .i32 xi] 40))
      have HXB := Lib.hid (XB.new wA ⟨xo, xa, xb, xc, xi⟩)
      go_upto_region 9 with fail
      clear x0 x1 x2 x3 x4
      generalize wA.alloc (.cells #[.int .i64 xo, .int .i64 xa, .int .i64 xb, .int .i64 xc, .int .i32 xi] 40) = wB at *
      generalize wA.heap.size = M at *
      obtain ⟨x0, x1, x2, x3, x4⟩ := HXB.out.cells
      simp only at x0 x1 x2 x3 x4
      obtain ⟨v9, w9, hrun, hown9, hb9⟩ := own_more HOX.out HBX.out HBX.out.size eb HLN.out (by rw [HL8.out]; omega)
      rw [HL8.out, HEV.out] at hrun
      rw [← HTK.out] at hown9
      have HRUN := Lib.hid hrun
      have HO9 := Lib.hid hown9
      have HB9 := Lib.hid hb9
      clear hrun hown9 hb9 HO HB HOX HBX
      go_wp2_with (at_builtin; refine wpList_app_run HRUN.out rfl rfl rfl rfl rfl ?_)
      go_roundw
      case rel => exact ⟨k + 1, by go_num, by omega, HO9, HB9⟩
      case measure => simp [intOf]; omega
    · obtain rfl : k = ps.length := by omega
      have hko : decide (((ps.length : Nat) : Int) < (ps.length : Int)) = false := by simp
      obtain ⟨A5, c5, rfl, _, _, _⟩ := HO.out.form
      have ho := HO.out
      rw [List.take_length] at ho
      have HE := Lib.hid (HF0.out _ wA (beln HB1.out HB.out) (ho.low HB1.out.size))
      clear ho HO HB
      rw [show (encL (ps.take ps.length)).length = (encL ps).length by rw [List.take_length]]
      generalize (encL ps).length = m at *
      go_wp2
      exact HE.out
end Go.Proofs.YtahhmgoffdggpaaGreatDoor


namespace Go.Proofs.YtahhmgoffdggpaaGreatDoor
open Go.RowKit Go.Shelf

def RDecEnd (l : List UInt8) (w : World) (e : Ending) (w' : World) : Prop :=
  Below w.heap.size w w' ∧ if l.length % 8 ≠ 0 then e = .returned (.tuple #[.slice none 0 0, .int .i64 52]) else if valP (decP l) = 0 then ∃ v, e = .returned (.tuple #[v, .int .i64 0]) ∧ OwnG GIns.cells 40 5 w' w.heap.size v (decP l) else e = .returned (.tuple #[.slice none 0 0, .int .i64 (valP (decP l))])
theorem lit_ins (w : World) (x : GIns) : GRow GIns.cells 5 (w.alloc (.cells #[.int .i64 x.op, .int .i64 x.a, .int .i64 x.b, .int .i64 x.c, .int .i32 x.imm] 40)) (w.heap.size + 1) (some ⟨w.heap.size, 0, none⟩) [x] := by
  have h := (OwnG.lit GIns.len w w.heap.size (T := 40) [x] #[.int .i64 x.op, .int .i64 x.a, .int .i64 x.b, .int .i64 x.c, .int .i32 x.imm] rfl (Nat.le_refl _) (by unfold maxLen; simp)).row GIns.len
  obtain ⟨A, c', e, _, _, hr⟩ := h
  cases e
  simpa using hr
theorem OwnX.lit {w1 w0 : World} {base : Nat} {v : Value} {xs : List GIns} (h : OwnG GIns.cells 40 5 w1 base v xs) (hb0 : Below base w0 w1) (hb : base ≤ w1.heap.size) (x : GIns) (hl : xs.length ≤ 1000000) :
    ∃ v' w', (Builtin.append_ #[22, 22] 22 #[v, .slice (some ⟨w1.heap.size, 0, none⟩) 1 1]).run Tryz.prog (w1.alloc (.cells #[.int .i64 x.op, .int .i64 x.a, .int .i64 x.b, .int .i64 x.c, .int .i32 x.imm] 40)) = .ok v' w' ∧ OwnG GIns.cells 40 5 w' base v' (xs ++ [x]) ∧ Below base w0 w' := by
  obtain ⟨v', w', hrun, hown, hg, _⟩ := OwnG.app elt_ins GIns.len GIns.one (h.alloc (.cells #[.int .i64 x.op, .int .i64 x.a, .int .i64 x.b, .int .i64 x.c, .int .i32 x.imm] 40)) 1 (lit_ins w1 x) (by simp; omega) (by unfold maxLen; simp; omega) (by simp; omega)
  exact ⟨v', w', hrun, hown, (hb0.alloc hb _).grown hg (by simp; omega) (fun g e => (h.lt g e).1)⟩
theorem OwnG.low {α : Type} {enc : α → List Value} {T : TypeId} {k : Nat} {w : World} {b b' : Nat} {v : Value} {l : List α} (h : OwnG enc T k w b v l) (hb : b' ≤ b) : OwnG enc T k w b' v l := by
  refine ⟨h.1, ?_⟩
  rcases h.2 with hh | ⟨g, c, cur, e1, hbs, rest⟩
  · exact .inl hh
  · exact .inr ⟨g, c, cur, e1, by omega, rest⟩
set_option maxRecDepth 50000 in
set_option maxHeartbeats 4000000 in
theorem rDec9_any (l : List UInt8) (A : Option Addr) (c : Nat) (w : World) (h : Byt w w.heap.size A l.length l) (hl : l.length ≤ 1000) :
    Calls Tryz.prog 9 #[.slice A l.length c] w (RDecEnd l w) := by
  have HX0 : Hid (l.length % 8 ≠ 0 → RDecEnd l w (.returned (.tuple #[.slice none 0 0, .int .i64 52])) w) := Lib.hid fun h => ⟨Below.refl _ _, by rw [if_pos h]⟩
  have HX1 : Hid (l.length % 8 = 0 → valP (decP l) ≠ 0 → ∀ W, Below w.heap.size w W → RDecEnd l w (.returned (.tuple #[.slice none 0 0, .int .i64 (valP (decP l))])) W) := Lib.hid fun h h2 W hb => ⟨hb, by rw [if_neg (by omega), if_neg h2]⟩
  have HX2 : Hid (l.length % 8 = 0 → valP (decP l) = 0 → ∀ v W, Below w.heap.size w W → OwnG GIns.cells 40 5 W w.heap.size v (decP l) → RDecEnd l w (.returned (.tuple #[v, .int .i64 0])) W) := Lib.hid fun h h2 v W hb ho => ⟨hb, by rw [if_neg (by omega), if_pos h2]; exact ⟨v, rfl, ho⟩⟩
  generalize RDecEnd l w = EE at *
  by_cases hm : l.length % 8 ≠ 0
  · have HE := Lib.hid (HX0.out hm)
    have hm1 : ¬ (l.length : Int) % 8 = 0 := by omega
    clear h HX0 HX1 HX2 hm
    generalize l.length = n at *
    go_enter Tryz.func9, Tryz.ntmps9
    go_wp2
    exact HE.out
  have hm0 : l.length % 8 = 0 := by omega
  have hm1 : (l.length : Int) % 8 = 0 := by omega
  have HE1 := Lib.hid (HX1.out hm0)
  have HE2 := Lib.hid (HX2.out hm0)
  have HDN : Hid (decN l = l.length / 8) := Lib.hid (by unfold decN; omega)
  have HDP : Hid (decP l = (List.range (l.length / 8)).map (decI l)) := Lib.hid (by unfold decP; rw [HDN.out])
  have HVL := Lib.hid fun (A : Option Addr) (c : Nat) (W : World) (hr : GRow GIns.cells 5 W W.heap.size A (decP l)) => rVal9_any (decP l) A c W hr (fun x hx => by
    obtain ⟨i, hi, rfl⟩ := List.getElem_of_mem hx
    rw [decP_get l hi]; exact decI_imm l i)
  have HBY := Lib.hid fun W (hW : Below w.heap.size w W) => (h.below hW).wide hW.size
  clear HX0 HX1 HX2 h hm
  go_enter Tryz.func9, Tryz.ntmps9
  go_wp2
  clear hm1
  go_loopw [4, 5] (fun v4 v5 wr => ∃ k : Nat, v5 = .int .i64 (8 * (k : Int)) ∧ 8 * k ≤ l.length ∧ Hid (OwnG GIns.cells 40 5 wr w.heap.size v4 ((List.range k).map (decI l))) ∧ Hid (Below w.heap.size w wr)) (fun _ v5 _ => l.length - (intOf v5).toNat)
  case atStart => exact ⟨0, rfl, by omega, Lib.hid (OwnG.nil _ _), Lib.hid (Below.refl _ _)⟩
  case round =>
    obtain ⟨k, rfl, hk, HO, HB⟩ := hrel
    generalize wr = wA at *
    obtain ⟨A4, c4, rfl, _, _, hrow4⟩ := HO.out.row GIns.len
    rw [List.length_map, List.length_range]
    rcases Nat.lt_or_ge (8 * k) l.length with hlt | hge
    · have hk8 : 8 * k + 8 ≤ l.length := by omega
      have fk : decide (8 * (k : Int) < (l.length : Int)) = true := by simp; omega
      have hA : ∃ b1 o1, A = some ⟨b1, o1, none⟩ := by
        obtain ⟨b1, o1, e, _, _⟩ := (HBY.out _ HB.out).at_ (by omega)
        exact ⟨b1, o1, e⟩
      obtain ⟨b1, o1, rfl⟩ := hA
      have hbyt := HBY.out _ HB.out
      have hU := uintRef_any (some ⟨b1, o1, none⟩) l.length c wA.heap.size 4 ((8 * k + 4 : Nat) : Int) l wA hbyt (by omega) (by omega)
      rw [show ((8 * k + 4 : Nat) : Int) = 8 * (k : Int) + 4 by omega] at hU
      have HC : Hid (∀ W, Below w.heap.size w W → ∀ j, j < l.length → W.cell? ⟨b1, o1 + j, none⟩ = some (.int .u8 (bt l j : Int))) := Lib.hid fun W hW j hj => by
        obtain ⟨b', o', he, _, hc⟩ := (HBY.out W hW).at_ (by omega)
        injection he with he
        injection he with e1 e2
        subst e1 e2
        exact hc j hj
      have hb1z : b1 < w.heap.size := by
        obtain ⟨b', o', he, hlt', _⟩ := (HBY.out w (Below.refl _ w)).at_ (by omega)
        injection he with he
        injection he with e1 e2
        subst e1
        exact hlt'
      have hj0 : 8 * k < l.length := by omega
      have hj1 : 8 * k + 1 < l.length := by omega
      have hj2 : 8 * k + 2 < l.length := by omega
      have hj3 : 8 * k + 3 < l.length := by omega
      have q0 := bt_lt l (8 * k)
      have q1 := bt_lt l (8 * k + 1)
      have q2 := bt_lt l (8 * k + 2)
      have q3 := bt_lt l (8 * k + 3)
      have q4 := leUp_small l (8 * (k : Int) + 4) 4
      rw [show (256 : Nat) ^ 4 = 4294967296 by decide] at q4
      have hdi : decI l k = ⟨(bt l (8 * k) : Nat), (bt l (8 * k + 1) : Nat), (bt l (8 * k + 2) : Nat), (bt l (8 * k + 3) : Nat), IntKind.i32.wrap (uintV l (8 * (k : Int) + 4) 4 : Nat)⟩ := by
        unfold decI
        rw [show ((8 * k + 4 : Nat) : Int) = 8 * (k : Int) + 4 by omega]
      obtain ⟨v9, w9, hrun9, hown9, hb9⟩ := OwnX.lit (HO.out.next (Below.refl _ wA).drew) HB.out.drew HB.out.drew.size (decI l k) (by rw [List.length_map, List.length_range]; omega)
      obtain ⟨A9, c9, rfl, _, _, _⟩ := hown9.row GIns.len
      rw [List.length_append, List.length_map, List.length_range, List.length_singleton] at hrun9 hown9
      rw [hdi] at hrun9
      rw [show (List.range k).map (decI l) ++ [decI l k] = (List.range (k + 1)).map (decI l) by rw [List.range_succ, List.map_append]; rfl] at hown9
      have HRUN := Lib.hid hrun9
      have HO9 := Lib.hid hown9
      have HB9 := Lib.hid hb9
      have HU := Lib.hid hU
      have HM : Hid (8 * ((k + 1 : Nat) : Int) = 8 * (k : Int) + 8 ∧ l.length - (8 * (k : Int) + 8).toNat < l.length - (8 * (k : Int)).toNat) := Lib.hid (by omega)
      clear hrun9 hown9 hb9 hU hdi hbyt HO hrow4
      have i0 : IntKind.i64.wrap (8 * (k : Int) + 1) = 8 * (k : Int) + 1 := IntWalk.i64_in _ (by omega)
      have i1 : IntKind.i64.wrap (8 * (k : Int) + 2) = 8 * (k : Int) + 2 := IntWalk.i64_in _ (by omega)
      have i2 : IntKind.i64.wrap (8 * (k : Int) + 3) = 8 * (k : Int) + 3 := IntWalk.i64_in _ (by omega)
      have i3 : IntKind.i64.wrap (8 * (k : Int) + 4) = 8 * (k : Int) + 4 := IntWalk.i64_in _ (by omega)
      have i4 : IntKind.i64.wrap (8 * (k : Int) + 8) = 8 * (k : Int) + 8 := IntWalk.i64_in _ (by omega)
      generalize uintV l (8 * (k : Int) + 4) 4 = im at *
      generalize uintE l (8 * (k : Int) + 4) 4 = ie at *
      have cv0 : IntKind.i64.wrap ((bt l (8 * k) : Nat) : Int) = (bt l (8 * k) : Nat) := IntWalk.i64_in _ (by omega)
      have cv1 : IntKind.i64.wrap ((bt l (8 * k + 1) : Nat) : Int) = (bt l (8 * k + 1) : Nat) := IntWalk.i64_in _ (by omega)
      have cv2 : IntKind.i64.wrap ((bt l (8 * k + 2) : Nat) : Int) = (bt l (8 * k + 2) : Nat) := IntWalk.i64_in _ (by omega)
      have cv3 : IntKind.i64.wrap ((bt l (8 * k + 3) : Nat) : Int) = (bt l (8 * k + 3) : Nat) := IntWalk.i64_in _ (by omega)
      have cv4 : IntKind.u32.wrap ((im : Nat) : Int) = im := by rw [IntKind.wrap_u32]; omega
      have n0 : (8 * (k : Int)).toNat = 8 * k := by omega
      have r0 : 0 ≤ 8 * (k : Int) := by omega
      have s0 : 8 * (k : Int) < (l.length : Int) := by omega
      have n1 : (8 * (k : Int) + 1).toNat = 8 * k + 1 := by omega
      have r1 : 0 ≤ 8 * (k : Int) + 1 := by omega
      have s1 : 8 * (k : Int) + 1 < (l.length : Int) := by omega
      have n2 : (8 * (k : Int) + 2).toNat = 8 * k + 2 := by omega
      have r2 : 0 ≤ 8 * (k : Int) + 2 := by omega
      have s2 : 8 * (k : Int) + 2 < (l.length : Int) := by omega
      have n3 : (8 * (k : Int) + 3).toNat = 8 * k + 3 := by omega
      have r3 : 0 ≤ 8 * (k : Int) + 3 := by omega
      have s3 : 8 * (k : Int) + 3 < (l.length : Int) := by omega
      go_wp2_with fail
      go_fit HU.out
      rintro e w2 ⟨rfl, hww⟩
      obtain rfl : wA = w2 := hww
      clear HU
      go_upto_region 8 with fail
      have hS := HB.out.drew
      refine wp_region_growS (S := fun W => Below w.heap.size w W) [(0, true), (1, true), (2, true), (3, true), (4, true), (5, true), (6, true), (7, true), (8, true), (9, true), (10, true), (11, true), (12, true), (13, true), (14, true), (15, true), (16, true), (17, true), (18, true), (19, true), (20, true), (21, true), (22, true), (23, true), (24, true), (25, true), (26, true), (27, true), (28, false), (29, false), (30, true)] (by kernel_rfl) (by kernel_rfl) (by kernel_rfl) (by kernel_rfl) (by intro c a d v w h; cases d <;> exact h) hS ?_
      iterate 28
        (first
          | (refine wpGrowS_float (v := ?_) (by simp only [List.getElem?_toArray, List.getElem?_cons_succ, List.getElem?_cons_zero]; rfl) (by rfl) ?_ ?_
             rotate_left
             · (intro W hW; have t0 := HC.out W hW (8 * k) hj0; have t1 := HC.out W hW (8 * k + 1) hj1; have t2 := HC.out W hW (8 * k + 2) hj2; have t3 := HC.out W hW (8 * k + 3) hj3; (try simp only at *); go_simp; try with_reducible rfl)
             simp only [Act.put, List.setIfInBounds_toArray, List.set_cons_zero, List.set_cons_succ])
          | (refine wpGrowS_skip (by simp only [List.getElem?_toArray, List.getElem?_cons_succ, List.getElem?_cons_zero]; rfl) (by rfl) ?_
             simp only [Act.put, List.setIfInBounds_toArray, List.set_cons_zero, List.set_cons_succ]))
      refine wpGrowS_call (by simp only [List.getElem?_toArray, List.getElem?_cons_succ, List.getElem?_cons_zero]; rfl) (by rfl) fun K hK => ?_
      go_simp
      refine hK _ _ (belt hS _) ?_
      clear hK K
      try simp only [Act.put, List.setIfInBounds_toArray, List.set_cons_zero, List.set_cons_succ]
      refine wpGrowS_call (by simp only [List.getElem?_toArray, List.getElem?_cons_succ, List.getElem?_cons_zero]; rfl) (by rfl) fun K hK => ?_
      refine oper_app10 (R := fun v W => v = .slice A9 (k + 1) c9 ∧ W = w9) ⟨_, w9, HRUN.out, rfl, rfl⟩ rfl rfl rfl rfl ?_
      rintro v8 w8 ⟨rfl, rfl⟩
      refine hK _ _ HB9.out ?_
      clear hK K
      try simp only [Act.put, List.setIfInBounds_toArray, List.set_cons_zero, List.set_cons_succ]
      iterate 1
        (first
          | (refine wpGrowS_float (v := ?_) (by simp only [List.getElem?_toArray, List.getElem?_cons_succ, List.getElem?_cons_zero]; rfl) (by rfl) ?_ ?_
             rotate_left
             · (intro W hW; have t0 := HC.out W hW (8 * k) hj0; have t1 := HC.out W hW (8 * k + 1) hj1; have t2 := HC.out W hW (8 * k + 2) hj2; have t3 := HC.out W hW (8 * k + 3) hj3; (try simp only at *); go_simp; try with_reducible rfl)
             simp only [Act.put, List.setIfInBounds_toArray, List.set_cons_zero, List.set_cons_succ])
          | (refine wpGrowS_skip (by simp only [List.getElem?_toArray, List.getElem?_cons_succ, List.getElem?_cons_zero]; rfl) (by rfl) ?_
             simp only [Act.put, List.setIfInBounds_toArray, List.set_cons_zero, List.set_cons_succ]))
      refine wpGrowS_nil ?_
      clear hS
      go_wp2
      go_roundw
      case rel => exact ⟨k + 1, by rw [HM.out.1], by omega, HO9, HB9⟩
      case measure => exact HM.out.2
    · have hke : 8 * k = l.length := by omega
      have hkd : k = l.length / 8 := by omega
      have fk : decide (8 * (k : Int) < (l.length : Int)) = false := by simp; omega
      have ho := HO.out
      rw [hkd, ← HDP.out] at ho
      have HOP := Lib.hid ho
      obtain ⟨A5, c5, e5, _, _, hr5⟩ := ho.row GIns.len
      have hlen : (decP l).length = k := by rw [decP_len, HDN.out, hkd]
      rw [hlen] at e5
      injection e5 with e5 e6 e7
      subst e5 e7
      have HV2 := Lib.hid (HVL.out A4 c4 wA hr5)
      rw [hlen] at HV2 HOP
      clear ho hr5 hrow4 HO HVL hkd hke hlen
      generalize valP (decP l) = q at *
      go_wp2_with fail
      go_fit HV2.out
      rintro e w9 ⟨rfl, hb9⟩
      have HB9 := Lib.hid (beln HB.out hb9)
      have HO9 := Lib.hid (HOP.out.next hb9)
      clear hb9 HV2 HOP HB
      by_cases hq : q = 0
      · subst hq
        have HE := Lib.hid (HE2.out rfl _ w9 HB9.out HO9.out)
        clear HE1 HE2 HO9
        go_wp2
        exact HE.out
      · have fq : (q == 0) = false := beq_eq_false_iff_ne.2 hq
        have fq2 : (q != 0) = true := by rw [bne, fq]; rfl
        have HE := Lib.hid (HE1.out hq w9 HB9.out)
        clear HE1 HE2 hq fq HO9
        go_wp2
        exact HE.out
end Go.Proofs.YtahhmgoffdggpaaGreatDoor
