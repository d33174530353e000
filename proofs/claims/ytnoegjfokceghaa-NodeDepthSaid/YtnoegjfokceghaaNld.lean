/-
  The law NodeDepth returns true.
  Conditions: none.
-/
import Derived.Test.YtnoegjfokceghaaNmn
namespace Go.Proofs.Ytnoegjfokceghaa
open Go.RowKit

set_option maxRecDepth 20000 in
set_option maxHeartbeats 1000000 in
theorem mId4_any (a b c : Int) (w : World) : Calls Try.prog 35 #[.int .i64 a, .int .i64 b, .int .i64 c] w fun e w' => ∃ x : GId, (vI x = true ∧ x.core < 4) ∧ e = .returned x.val ∧ Below w.heap.size w w' := by
  have H1 := Lib.hid fun W => mPlace_any a 4 (by omega) (by omega) W
  have H2 := Lib.hid fun W => mPlace_any b 12 (by omega) (by omega) W
  have H3 := Lib.hid fun W => mPlace_any c 3 (by omega) (by omega) W
  go_enter Try.func35, Try.ntmps35
  go_wp2_with fail
  go_fit (H1.out _)
  rintro e w1 ⟨p, p0, p1, rfl, rfl⟩
  go_wp2_with fail
  go_fit (H2.out _)
  rintro e w2 ⟨q, q0, q1, rfl, rfl⟩
  go_wp2_with fail
  go_fit (H3.out _)
  rintro e w3 ⟨r, r0, r1, rfl, rfl⟩
  have HV : Hid (vI ⟨p, 1 + q, r⟩ = true ∧ p < 4) := Lib.hid ⟨vI_iff.2 (by simp only; omega), p1⟩
  go_wp2
  refine bodyPost_ret (v := .agg #[.int .i64 p, .int .i64 (1 + q), .int .i64 r]) (by simp [results, Try.results35, go_sem]) rfl ?_
  exact ⟨_, HV.out, rfl, belt (Below.refl _ w) _⟩
theorem ch_valid {s : GN} {i : GId} {c : GC} (h : chE s i c = 0) : vN (chN s i c) = true ∧ chN s i c = ⟨i, s.path ++ [s.id], c⟩ := by
  by_cases h1 : CH1 s i c
  · by_cases h8 : s.path.length = 8
    · rw [ch_9 h1 h8] at h; cases h
    · obtain ⟨e1, e2⟩ := ch_0 h1 h8
      refine ⟨?_, e2⟩
      rw [e2]
      obtain ⟨hv, hi, hc, hne, hh⟩ := h1
      obtain ⟨f1, f2, f3, f4, f5, f6⟩ := vN_facts hv
      have hp : vP s.path = true := by unfold vN at hv; simp only [Bool.and_eq_true] at hv; exact hv.2
      have hq := vP_snoc hp f1 f5
      have hh2 : hasI (s.path ++ [s.id]) i = false := by
        unfold hasI at hh ⊢
        simp only [decide_eq_false_iff_not, List.mem_append, List.mem_singleton] at hh ⊢
        exact fun h => h.elim hh hne
      unfold vN
      simp only [Bool.and_eq_true, decide_eq_true_eq, hi, hc, hh2, hq, List.length_append, List.length_singleton]
      exact ⟨⟨⟨⟨trivial, trivial⟩, by omega⟩, rfl⟩, trivial⟩
  · rw [ch_1 h1] at h; cases h
/-- A chain of children: valid, so many ancestors, none of them the next child. -/
def Dep (s : GN) (i : Nat) : Prop := vN s = true ∧ s.path.length = i ∧ ∀ y ∈ s.id :: s.path, y.core = 5 → y.op ≤ i
theorem dep_step {s : GN} {i : Nat} (h : Dep s i) (h8 : i ≤ 8) : (i = 8 ∧ chE s ⟨5, i + 1, 0⟩ pgC = 9 ∧ (chN s ⟨5, i + 1, 0⟩ pgC).path.length = 0) ∨ (i < 8 ∧ chE s ⟨5, i + 1, 0⟩ pgC = 0 ∧ (chN s ⟨5, i + 1, 0⟩ pgC).path.length = i + 1 ∧ Hid (Dep (chN s ⟨5, i + 1, 0⟩ pgC) (i + 1))) := by
  obtain ⟨hv, hl, hn⟩ := h
  have hc : CH1 s ⟨5, i + 1, 0⟩ pgC := by
    refine ⟨hv, vI_iff.2 (by simp only; omega), vC_pg, fun e => ?_, ?_⟩
    · have := hn s.id (by simp) (by rw [← e])
      rw [← e] at this
      simp only at this
      omega
    · unfold hasI
      rw [decide_eq_false_iff_not]
      intro hm
      have := hn _ (List.mem_cons_of_mem _ hm) rfl
      simp only at this
      omega
  by_cases e8 : s.path.length = 8
  · left
    have e := ch_9 hc e8
    refine ⟨by omega, e, ?_⟩
    unfold chN; rw [if_neg (by rw [e]; decide)]; rfl
  · right
    obtain ⟨e, e2⟩ := ch_0 hc e8
    have hv2 := (ch_valid e).1
    refine ⟨by omega, e, by rw [e2]; simp [hl], Lib.hid ⟨hv2, by rw [e2]; simp [hl], ?_⟩⟩
    rw [e2]
    intro y hy h5
    simp only [List.mem_cons, List.mem_append, List.not_mem_nil, or_false] at hy
    rcases hy with rfl | hy | rfl
    · simp
    · have := hn y (List.mem_cons_of_mem _ hy) h5; omega
    · have := hn s.id (by simp) h5; omega
theorem own11 {W : World} {base g0 : Nat} {v : Value} {xs : List GId} (hg0 : g0 < base) (h : OwnG GId.cells 23 3 W base v xs) (v0 v1 v2 v3 v4 v5 v6 v7 v8 v9 v10 : Value) : OwnG GId.cells 23 3 (((((((((((W.setCell ⟨g0, 0, none⟩ v0).setCell ⟨g0, 1, none⟩ v1).setCell ⟨g0, 2, none⟩ v2).setCell ⟨g0, 3, none⟩ v3).setCell ⟨g0, 4, none⟩ v4).setCell ⟨g0, 5, none⟩ v5).setCell ⟨g0, 6, none⟩ v6).setCell ⟨g0, 7, none⟩ v7).setCell ⟨g0, 8, none⟩ v8).setCell ⟨g0, 9, none⟩ v9).setCell ⟨g0, 10, none⟩ v10) base v xs :=
  ((((((((((h.setOther hg0 0 v0).setOther hg0 1 v1).setOther hg0 2 v2).setOther hg0 3 v3).setOther hg0 4 v4).setOther hg0 5 v5).setOther hg0 6 v6).setOther hg0 7 v7).setOther hg0 8 v8).setOther hg0 9 v9).setOther hg0 10 v10
theorem below11b {B N : Nat} {W W' : World} (hN : B ≤ N) (h : Below B W W') (v0 v1 v2 v3 v4 v5 v6 v7 v8 v9 v10 : Value) : Below B W (((((((((((W'.setCell ⟨N, 0, none⟩ v0).setCell ⟨N, 1, none⟩ v1).setCell ⟨N, 2, none⟩ v2).setCell ⟨N, 3, none⟩ v3).setCell ⟨N, 4, none⟩ v4).setCell ⟨N, 5, none⟩ v5).setCell ⟨N, 6, none⟩ v6).setCell ⟨N, 7, none⟩ v7).setCell ⟨N, 8, none⟩ v8).setCell ⟨N, 9, none⟩ v9).setCell ⟨N, 10, none⟩ v10) :=
  ((((((((((h.setCell (p := ⟨N, 0, none⟩) hN v0).setCell (p := ⟨N, 1, none⟩) hN v1).setCell (p := ⟨N, 2, none⟩) hN v2).setCell (p := ⟨N, 3, none⟩) hN v3).setCell (p := ⟨N, 4, none⟩) hN v4).setCell (p := ⟨N, 5, none⟩) hN v5).setCell (p := ⟨N, 6, none⟩) hN v6).setCell (p := ⟨N, 7, none⟩) hN v7).setCell (p := ⟨N, 8, none⟩) hN v8).setCell (p := ⟨N, 9, none⟩) hN v9).setCell (p := ⟨N, 10, none⟩) hN v10
set_option maxRecDepth 20000 in
set_option maxHeartbeats 4000000 in
theorem ldep12 (core steps : Int) (w : World) : Calls Try.prog 9 #[.int .i64 core, .int .i64 steps] w fun e w' => e = .returned (.bool true) ∧ Below w.heap.size w w' := by
  have HAW := Lib.hid fun W => awake12 W
  have HPG := Lib.hid fun W => rPage W
  have HID := Lib.hid fun W => mId4_any core 0 0 W
  have HPL := Lib.hid fun W => mPlace_any steps 12 (by omega) (by omega) W
  simp only [GC.val, pgC] at HPG
  go_enter Try.func9, Try.ntmps9
  go_wp2_with fail
  go_fit (HID.out _)
  rintro e w1 ⟨⟨xc, xo, xp⟩, ⟨hvx, hx4⟩, rfl, hb1⟩
  have HB1 := Lib.hid hb1
  clear hb1
  simp only [GId.val]
  go_wp2_with fail
  go_fit (HPG.out _)
  rintro e w2 ⟨rfl, hb2⟩
  have HB2 := Lib.hid (beln HB1.out hb2)
  have HN2 := Lib.hid (NB.new w2 ⟨xc, xo, xp⟩ none 0 0 pgC)
  have HD2 : Hid (Dep ⟨⟨xc, xo, xp⟩, [], pgC⟩ 0) := Lib.hid ⟨by unfold vN; rw [hvx, vC_pg]; simp [hasI, vP], rfl, fun y hy h5 => by
    simp only [List.mem_cons, List.not_mem_nil, or_false] at hy
    subst hy
    simp only at h5 hx4
    omega⟩
  clear hb2 HB1 hvx hx4
  simp only [pgC] at HN2 HD2
  go_wp2_with fail
  go_fit (HPL.out _)
  rintro e w3 ⟨kk, hk0, hk1, rfl, rfl⟩
  have HB3 := Lib.hid (belt HB2.out (.cells #[.int .i64 xc, .int .i64 xo, .int .i64 xp, .slice none 0 0, .int .i64 2, .int .i64 4096, .int .i64 12, .int .i64 3, .int .i64 0, .int .i64 0, .bool false] 28))
  have HM : Hid (w.heap.size ≤ w2.heap.size) := Lib.hid HB2.out.size
  go_wp2
  clear HB2
  generalize w2.alloc (.cells #[.int .i64 xc, .int .i64 xo, .int .i64 xp, .slice none 0 0, .int .i64 2, .int .i64 4096, .int .i64 12, .int .i64 3, .int .i64 0, .int .i64 0, .bool false] 28) = w4 at *
  generalize w2.heap.size = M at *
  obtain ⟨kk, rfl⟩ := Int.eq_ofNat_of_zero_le hk0
  go_loopw [7] (fun vi wr => ∃ (i : Nat) (s : GN) (A5 : Option Addr) (c5 : Nat), vi = .int .i64 i ∧ i ≤ kk ∧ Hid (Dep s i) ∧ s.path.length ≤ c5 ∧ Hid (NB wr M s.id A5 s.path.length c5 s.cap) ∧ Hid (OwnG GId.cells 23 3 wr (M + 1) (.slice A5 s.path.length c5) s.path) ∧ Hid (Below w.heap.size w wr)) (fun vi _ => kk - (intOf vi).toNat)
  case atStart => exact ⟨0, ⟨⟨xc, xo, xp⟩, [], ⟨2, 4096, 12, 3, 0, 0, false⟩⟩, none, 0, rfl, Nat.zero_le _, HD2, Nat.le_refl _, HN2, Lib.hid (OwnG.nil _ _), HB3⟩
  case round =>
    obtain ⟨i, s, A5, c5, rfl, hi, HD, hc5, HNM, HO, HB⟩ := hrel
    generalize wr = w9 at *
    clear HD2 HN2
    have hsl : s.path.length = i := HD.out.2.1
    have hs8 : s.path.length ≤ 8 := (vN_facts HD.out.1).2.2.1
    rcases Nat.lt_or_ge i kk with hlt | hge
    rotate_left
    · obtain rfl : i = kk := by omega
      have f1 : decide ((i : Int) < (i : Int)) = false := by simp
      have f2 : ((s.path.length : Int) == (i : Int)) = true := by simp [hsl]
      obtain ⟨⟨s0, s1, s2⟩, ss, ⟨a0, a1, a2, a3, a4, a5, a6⟩⟩ := s
      simp only at f2 HNM
      obtain ⟨d0, d1, d2, d3, d4, d5, d6, d7, d8, d9, d10⟩ := HNM.out.cells
      simp only at d0 d1 d2 d3 d4 d5 d6 d7 d8 d9 d10
      clear hsl
      go_wp2_with fail
      go_fit (HAW.out _)
      rintro e w7 ⟨rfl, hb7⟩
      have HB7 := Lib.hid (beln HB.out hb7)
      clear hb7
      go_wp2
      go_ret
      exact ⟨rfl, HB7.out⟩
    have f1 : decide ((i : Int) < (kk : Int)) = true := by simp; omega
    have HQ := Lib.hid (dep_step HD.out (by omega))
    have HCH := Lib.hid fun W (hW : Below w9.heap.size w9 W) => pChi_any s A5 c5 ⟨5, i + 1, 0⟩ pgC W ((OwnG.rowAt GId.len HO.out).2.next hW) (by omega) hc5
    unfold ChEnd at HCH
    generalize chE s ⟨5, i + 1, 0⟩ pgC = q at *
    generalize chN s ⟨5, i + 1, 0⟩ pgC = y at *
    obtain ⟨⟨s0, s1, s2⟩, ss, ⟨a0, a1, a2, a3, a4, a5, a6⟩⟩ := s
    obtain ⟨⟨y0, y1, y2⟩, ys, ⟨b0, b1, b2, b3, b4, b5, b6⟩⟩ := y
    simp only [GN.val, GId.val, GC.val, pgC] at *
    obtain ⟨d0, d1, d2, d3, d4, d5, d6, d7, d8, d9, d10⟩ := HNM.out.cells
    have hMl := HNM.out.lt
    simp only at d0 d1 d2 d3 d4 d5 d6 d7 d8 d9 d10
    clear hsl
    have wi : IntKind.i64.wrap ((i : Int) + 1) = (i : Int) + 1 := by rw [IntKind.wrap_i64]; omega
    go_upto_region 6 with fail
    have hS := (Below.refl w9.heap.size w9).drew
    refine wp_region_gt (S := fun W => Below w9.heap.size w9 W) (.fl 0 (.fl 1 (.fl 2 (.fl 3 (.two 4 9 (.two 5 9 (.fl 6 (.fl 7 (.fl 8 (.op 9 (.op 10 (.fl 11 .nil)))))) (.op 5 (.fl 6 (.fl 7 (.fl 8 (.op 10 (.fl 11 .nil))))))) (.op 4 (.op 5 (.fl 6 (.fl 7 (.fl 8 (.op 10 (.fl 11 .nil)))))))))))) (by kernel_rfl) (by kernel_rfl) (by kernel_rfl) (by kernel_rfl) (by intro c a d v w h; cases d <;> exact h) hS ?_
    iterate 4
      (first
        | (refine wpGT_float (v := ?_) (by simp only [List.getElem?_toArray, List.getElem?_cons_succ, List.getElem?_cons_zero]; rfl) (by rfl) ?_ ?_
           rotate_left
           · (intro W hW; have t0 := (hW.cell (p := ⟨M, 0, none⟩) hMl).trans d0; have t1 := (hW.cell (p := ⟨M, 1, none⟩) hMl).trans d1; have t2 := (hW.cell (p := ⟨M, 2, none⟩) hMl).trans d2; have t3 := (hW.cell (p := ⟨M, 3, none⟩) hMl).trans d3; have t4 := (hW.cell (p := ⟨M, 4, none⟩) hMl).trans d4; have t5 := (hW.cell (p := ⟨M, 5, none⟩) hMl).trans d5; have t6 := (hW.cell (p := ⟨M, 6, none⟩) hMl).trans d6; have t7 := (hW.cell (p := ⟨M, 7, none⟩) hMl).trans d7; have t8 := (hW.cell (p := ⟨M, 8, none⟩) hMl).trans d8; have t9 := (hW.cell (p := ⟨M, 9, none⟩) hMl).trans d9; have t10 := (hW.cell (p := ⟨M, 10, none⟩) hMl).trans d10; (try simp only at *); go_simp; try with_reducible rfl)
           simp only [Act.put, List.setIfInBounds_toArray, List.set_cons_zero, List.set_cons_succ])
        | (refine wpGT_skip (by simp only [List.getElem?_toArray, List.getElem?_cons_succ, List.getElem?_cons_zero]; rfl) (by rfl) ?_
           simp only [Act.put, List.setIfInBounds_toArray, List.set_cons_zero, List.set_cons_succ]))
    refine wpGT_two ?_ ?_
    · refine wpOp_call (by simp only [List.getElem?_toArray, List.getElem?_cons_succ, List.getElem?_cons_zero]; rfl) (by rfl) fun K hK => ?_
      go_simp
      go_fit (HPG.out _)
      rintro e wp ⟨rfl, hbp⟩
      have hS1 : Below w9.heap.size w9 wp := beln hS hbp
      go_simp
      refine hK _ _ hS1 ?_
      clear hK K
      try simp only [Act.put, List.setIfInBounds_toArray, List.set_cons_zero, List.set_cons_succ]
      refine wpGT_two ?_ ?_
      · refine wpOp_call (by simp only [List.getElem?_toArray, List.getElem?_cons_succ, List.getElem?_cons_zero]; rfl) (by rfl) fun K hK => ?_
        go_simp
        go_fit (HCH.out _ hS1)
        rintro e wn ⟨A9, c9, rfl, hc9, ho9, hbn⟩
        have hS2 : Below w9.heap.size w9 wn := beln hS1 hbn
        have HO9 := Lib.hid (OwnG.alloc (OwnG.low (b' := M + 1) ho9 (by have := hS1.size; have := hMl; omega)) (.cells #[.int .i64 y0, .int .i64 y1, .int .i64 y2, .slice A9 ys.length c9, .int .i64 b0, .int .i64 b1, .int .i64 b2, .int .i64 b3, .int .i64 b4, .int .i64 b5, .bool b6] 28))
        go_simp
        refine hK _ _ hS2 ?_
        clear hK K
        try simp only [Act.put, List.setIfInBounds_toArray, List.set_cons_zero, List.set_cons_succ]
        iterate 3
          (first
            | (refine wpGT_float (v := ?_) (by simp only [List.getElem?_toArray, List.getElem?_cons_succ, List.getElem?_cons_zero]; rfl) (by rfl) ?_ ?_
               rotate_left
               · (intro W hW; skip; go_simp; try with_reducible rfl)
               simp only [Act.put, List.setIfInBounds_toArray, List.set_cons_zero, List.set_cons_succ])
            | (refine wpGT_skip (by simp only [List.getElem?_toArray, List.getElem?_cons_succ, List.getElem?_cons_zero]; rfl) (by rfl) ?_
               simp only [Act.put, List.setIfInBounds_toArray, List.set_cons_zero, List.set_cons_succ]))
        refine wpGT_call (by simp only [List.getElem?_toArray, List.getElem?_cons_succ, List.getElem?_cons_zero]; rfl) (by rfl) fun K hK => ?_
        go_simp
        refine hK _ _ (belt hS2 _) ?_
        clear hK K
        try simp only [Act.put, List.setIfInBounds_toArray, List.set_cons_zero, List.set_cons_succ]
        refine wpGT_call (by simp only [List.getElem?_toArray, List.getElem?_cons_succ, List.getElem?_cons_zero]; rfl) (by rfl) fun K hK => ?_
        go_simp
        refine hK _ _ (belt hS2 _) ?_
        clear hK K
        try simp only [Act.put, List.setIfInBounds_toArray, List.set_cons_zero, List.set_cons_succ]
        iterate 1
          (first
            | (refine wpGT_float (v := ?_) (by simp only [List.getElem?_toArray, List.getElem?_cons_succ, List.getElem?_cons_zero]; rfl) (by rfl) ?_ ?_
               rotate_left
               · (intro W hW; skip; go_simp; try with_reducible rfl)
               simp only [Act.put, List.setIfInBounds_toArray, List.set_cons_zero, List.set_cons_succ])
            | (refine wpGT_skip (by simp only [List.getElem?_toArray, List.getElem?_cons_succ, List.getElem?_cons_zero]; rfl) (by rfl) ?_
               simp only [Act.put, List.setIfInBounds_toArray, List.set_cons_zero, List.set_cons_succ]))
        have HB9 : Hid (Below w9.heap.size w9 (wn.alloc (.cells #[.int .i64 y0, .int .i64 y1, .int .i64 y2, .slice A9 ys.length c9, .int .i64 b0, .int .i64 b1, .int .i64 b2, .int .i64 b3, .int .i64 b4, .int .i64 b5, .bool b6] 28))) := Lib.hid (belt hS2 _)
        have HN9 : Hid (NB (wn.alloc (.cells #[.int .i64 y0, .int .i64 y1, .int .i64 y2, .slice A9 ys.length c9, .int .i64 b0, .int .i64 b1, .int .i64 b2, .int .i64 b3, .int .i64 b4, .int .i64 b5, .bool b6] 28)) wn.heap.size ⟨y0, y1, y2⟩ A9 ys.length c9 ⟨b0, b1, b2, b3, b4, b5, b6⟩) := Lib.hid (NB.new wn ⟨y0, y1, y2⟩ A9 ys.length c9 ⟨b0, b1, b2, b3, b4, b5, b6⟩)
        have HBX := Lib.hid (beln HB.out HB9.out)
        have HM9 := Lib.hid (HNM.out.next HB9.out)
        clear HB9 hS hS1 hS2 hbp hbn ho9
        generalize wn.alloc (.cells #[.int .i64 y0, .int .i64 y1, .int .i64 y2, .slice A9 ys.length c9, .int .i64 b0, .int .i64 b1, .int .i64 b2, .int .i64 b3, .int .i64 b4, .int .i64 b5, .bool b6] 28) = wq at *
        generalize wn.heap.size = Q at *
        refine wpGT_nil ?_
        have HNQ := Lib.hid (show NB wq Q ⟨y0, y1, y2⟩ A9 ys.length c9 ⟨b0, b1, b2, b3, b4, b5, b6⟩ from HN9.out)
        clear HN9 HNM HB d0 d1 d2 d3 d4 d5 d6 d7 d8 d9 d10 HCH
        obtain ⟨e0, e1, e2, e3, e4, e5, e6, e7, e8, e9, e10⟩ := HNQ.out.cells
        simp only at e0 e1 e2 e3 e4 e5 e6 e7 e8 e9 e10
        rcases HQ.out with ⟨rfl, rfl, hyl⟩ | ⟨h8, rfl, hyl, HD⟩
        · have g1 : decide ((8 : Int) ≤ ((8 : Nat) : Int)) = true := by simp
          have g2 : ((ys.length : Int) == 0) = true := by simp [hyl]
          go_wp2_with fail
          go_fit (HAW.out _)
          rintro e w7 ⟨rfl, hb7⟩
          have HB7 := Lib.hid (beln HBX.out hb7)
          clear hb7
          go_wp2
          go_ret
          exact ⟨rfl, HB7.out⟩
        · have g1 : decide ((8 : Int) ≤ (i : Int)) = false := by simp; omega
          have g2 : ((ys.length : Int) != (i : Int) + 1) = false := by simp [hyl]
          clear hyl
          obtain ⟨d0, d1, d2, d3, d4, d5, d6, d7, d8, d9, d10⟩ := HM9.out.cells
          have df := HM9.out.frz
          have dl := HM9.out.lt
          simp only at d0 d1 d2 d3 d4 d5 d6 d7 d8 d9 d10
          have HM7 : Hid (NB (((((((((((wq.setCell ⟨M, 0, none⟩ (.int .i64 y0)).setCell ⟨M, 1, none⟩ (.int .i64 y1)).setCell ⟨M, 2, none⟩ (.int .i64 y2)).setCell ⟨M, 3, none⟩ (.slice A9 ys.length c9)).setCell ⟨M, 4, none⟩ (.int .i64 b0)).setCell ⟨M, 5, none⟩ (.int .i64 b1)).setCell ⟨M, 6, none⟩ (.int .i64 b2)).setCell ⟨M, 7, none⟩ (.int .i64 b3)).setCell ⟨M, 8, none⟩ (.int .i64 b4)).setCell ⟨M, 9, none⟩ (.int .i64 b5)).setCell ⟨M, 10, none⟩ (.bool b6)) M ⟨y0, y1, y2⟩ A9 ys.length c9 ⟨b0, b1, b2, b3, b4, b5, b6⟩) := Lib.hid (HM9.out.store2 ⟨y0, y1, y2⟩ A9 ys.length c9 ⟨b0, b1, b2, b3, b4, b5, b6⟩)
          have HO7 : Hid (OwnG GId.cells 23 3 (((((((((((wq.setCell ⟨M, 0, none⟩ (.int .i64 y0)).setCell ⟨M, 1, none⟩ (.int .i64 y1)).setCell ⟨M, 2, none⟩ (.int .i64 y2)).setCell ⟨M, 3, none⟩ (.slice A9 ys.length c9)).setCell ⟨M, 4, none⟩ (.int .i64 b0)).setCell ⟨M, 5, none⟩ (.int .i64 b1)).setCell ⟨M, 6, none⟩ (.int .i64 b2)).setCell ⟨M, 7, none⟩ (.int .i64 b3)).setCell ⟨M, 8, none⟩ (.int .i64 b4)).setCell ⟨M, 9, none⟩ (.int .i64 b5)).setCell ⟨M, 10, none⟩ (.bool b6)) (M + 1) (.slice A9 ys.length c9) ys) := Lib.hid (own11 (Nat.lt_succ_self M) HO9.out (.int .i64 y0) (.int .i64 y1) (.int .i64 y2) (.slice A9 ys.length c9) (.int .i64 b0) (.int .i64 b1) (.int .i64 b2) (.int .i64 b3) (.int .i64 b4) (.int .i64 b5) (.bool b6))
          have HB7 : Hid (Below w.heap.size w (((((((((((wq.setCell ⟨M, 0, none⟩ (.int .i64 y0)).setCell ⟨M, 1, none⟩ (.int .i64 y1)).setCell ⟨M, 2, none⟩ (.int .i64 y2)).setCell ⟨M, 3, none⟩ (.slice A9 ys.length c9)).setCell ⟨M, 4, none⟩ (.int .i64 b0)).setCell ⟨M, 5, none⟩ (.int .i64 b1)).setCell ⟨M, 6, none⟩ (.int .i64 b2)).setCell ⟨M, 7, none⟩ (.int .i64 b3)).setCell ⟨M, 8, none⟩ (.int .i64 b4)).setCell ⟨M, 9, none⟩ (.int .i64 b5)).setCell ⟨M, 10, none⟩ (.bool b6))) := Lib.hid (below11b (show w.heap.size ≤ M from HM.out) HBX.out (.int .i64 y0) (.int .i64 y1) (.int .i64 y2) (.slice A9 ys.length c9) (.int .i64 b0) (.int .i64 b1) (.int .i64 b2) (.int .i64 b3) (.int .i64 b4) (.int .i64 b5) (.bool b6))
          have HC9 := Lib.hid hc9
          go_wp2
          clear d0 d1 d2 d3 d4 d5 d6 d7 d8 d9 d10 df dl
          generalize (((((((((((wq.setCell ⟨M, 0, none⟩ (.int .i64 y0)).setCell ⟨M, 1, none⟩ (.int .i64 y1)).setCell ⟨M, 2, none⟩ (.int .i64 y2)).setCell ⟨M, 3, none⟩ (.slice A9 ys.length c9)).setCell ⟨M, 4, none⟩ (.int .i64 b0)).setCell ⟨M, 5, none⟩ (.int .i64 b1)).setCell ⟨M, 6, none⟩ (.int .i64 b2)).setCell ⟨M, 7, none⟩ (.int .i64 b3)).setCell ⟨M, 8, none⟩ (.int .i64 b4)).setCell ⟨M, 9, none⟩ (.int .i64 b5)).setCell ⟨M, 10, none⟩ (.bool b6)) = w7 at *
          go_roundw
          case rel => exact ⟨i + 1, ⟨⟨y0, y1, y2⟩, ys, ⟨b0, b1, b2, b3, b4, b5, b6⟩⟩, A9, c9, by go_num, by omega, HD, HC9.out, HM7, HO7, HB7⟩
          case measure => simp [intOf]; omega
      · refine wpOp_call (by simp only [List.getElem?_toArray, List.getElem?_cons_succ, List.getElem?_cons_zero]; rfl) (by rfl) fun K hK => ?_
        go_simp
        have hbl : Below w9.heap.size w9 (wp.alloc (.cells #[.int .i64 0, .int .i64 0, .int .i64 0, .slice none 0 0, .int .i64 0, .int .i64 0, .int .i64 0, .int .i64 0, .int .i64 0, .int .i64 0, .bool false] 28)) := belt hS1 _
        refine hK _ _ hbl ?_
        clear hK K
        try simp only [Act.put, List.setIfInBounds_toArray, List.set_cons_zero, List.set_cons_succ]
        refine wpGT_call (by simp only [List.getElem?_toArray, List.getElem?_cons_succ, List.getElem?_cons_zero]; rfl) (by rfl) fun K hK => ?_
        go_simp
        go_fit (HCH.out _ hbl)
        rintro e wn ⟨A9, c9, rfl, hc9, ho9, hbn⟩
        have hS2 : Below w9.heap.size w9 wn := beln hbl hbn
        have hpl := hS1.size
        have HI0 := Lib.hid ((NB.new wp ⟨0, 0, 0⟩ none 0 0 ⟨0, 0, 0, 0, 0, 0, false⟩).next hbn)
        go_simp
        refine hK _ _ hS2 ?_
        clear hK K
        try simp only [Act.put, List.setIfInBounds_toArray, List.set_cons_zero, List.set_cons_succ]
        iterate 3
          (first
            | (refine wpGT_float (v := ?_) (by simp only [List.getElem?_toArray, List.getElem?_cons_succ, List.getElem?_cons_zero]; rfl) (by rfl) ?_ ?_
               rotate_left
               · (intro W hW; skip; go_simp; try with_reducible rfl)
               simp only [Act.put, List.setIfInBounds_toArray, List.set_cons_zero, List.set_cons_succ])
            | (refine wpGT_skip (by simp only [List.getElem?_toArray, List.getElem?_cons_succ, List.getElem?_cons_zero]; rfl) (by rfl) ?_
               simp only [Act.put, List.setIfInBounds_toArray, List.set_cons_zero, List.set_cons_succ]))
        obtain ⟨z0, z1, z2, z3, z4, z5, z6, z7, z8, z9, z10⟩ := HI0.out.cells
        have zf := HI0.out.frz
        have zl := HI0.out.lt
        simp only at z0 z1 z2 z3 z4 z5 z6 z7 z8 z9 z10
        refine wpGT_call (by simp only [List.getElem?_toArray, List.getElem?_cons_succ, List.getElem?_cons_zero]; rfl) (by rfl) fun K hK => ?_
        go_simp
        have HB9 : Hid (Below w9.heap.size w9 (((((((((((wn.setCell ⟨wp.heap.size, 0, none⟩ (.int .i64 y0)).setCell ⟨wp.heap.size, 1, none⟩ (.int .i64 y1)).setCell ⟨wp.heap.size, 2, none⟩ (.int .i64 y2)).setCell ⟨wp.heap.size, 3, none⟩ (.slice A9 ys.length c9)).setCell ⟨wp.heap.size, 4, none⟩ (.int .i64 b0)).setCell ⟨wp.heap.size, 5, none⟩ (.int .i64 b1)).setCell ⟨wp.heap.size, 6, none⟩ (.int .i64 b2)).setCell ⟨wp.heap.size, 7, none⟩ (.int .i64 b3)).setCell ⟨wp.heap.size, 8, none⟩ (.int .i64 b4)).setCell ⟨wp.heap.size, 9, none⟩ (.int .i64 b5)).setCell ⟨wp.heap.size, 10, none⟩ (.bool b6))) := Lib.hid (below11b (by omega) hS2 _ _ _ _ _ _ _ _ _ _ _)
        have HN9 : Hid (NB (((((((((((wn.setCell ⟨wp.heap.size, 0, none⟩ (.int .i64 y0)).setCell ⟨wp.heap.size, 1, none⟩ (.int .i64 y1)).setCell ⟨wp.heap.size, 2, none⟩ (.int .i64 y2)).setCell ⟨wp.heap.size, 3, none⟩ (.slice A9 ys.length c9)).setCell ⟨wp.heap.size, 4, none⟩ (.int .i64 b0)).setCell ⟨wp.heap.size, 5, none⟩ (.int .i64 b1)).setCell ⟨wp.heap.size, 6, none⟩ (.int .i64 b2)).setCell ⟨wp.heap.size, 7, none⟩ (.int .i64 b3)).setCell ⟨wp.heap.size, 8, none⟩ (.int .i64 b4)).setCell ⟨wp.heap.size, 9, none⟩ (.int .i64 b5)).setCell ⟨wp.heap.size, 10, none⟩ (.bool b6)) wp.heap.size ⟨y0, y1, y2⟩ A9 ys.length c9 ⟨b0, b1, b2, b3, b4, b5, b6⟩) := Lib.hid (HI0.out.store2 ⟨y0, y1, y2⟩ A9 ys.length c9 ⟨b0, b1, b2, b3, b4, b5, b6⟩)
        have HBX := Lib.hid (beln HB.out HB9.out)
        have HM9 := Lib.hid (HNM.out.next HB9.out)
        have HO9 := Lib.hid (OwnG.low (b' := M + 1) (own11 (g0 := wp.heap.size) (by simp) ho9 (.int .i64 y0) (.int .i64 y1) (.int .i64 y2) (.slice A9 ys.length c9) (.int .i64 b0) (.int .i64 b1) (.int .i64 b2) (.int .i64 b3) (.int .i64 b4) (.int .i64 b5) (.bool b6)) (by simp; omega))
        refine hK _ _ HB9.out ?_
        clear hK K
        try simp only [Act.put, List.setIfInBounds_toArray, List.set_cons_zero, List.set_cons_succ]
        iterate 1
          (first
            | (refine wpGT_float (v := ?_) (by simp only [List.getElem?_toArray, List.getElem?_cons_succ, List.getElem?_cons_zero]; rfl) (by rfl) ?_ ?_
               rotate_left
               · (intro W hW; skip; go_simp; try with_reducible rfl)
               simp only [Act.put, List.setIfInBounds_toArray, List.set_cons_zero, List.set_cons_succ])
            | (refine wpGT_skip (by simp only [List.getElem?_toArray, List.getElem?_cons_succ, List.getElem?_cons_zero]; rfl) (by rfl) ?_
               simp only [Act.put, List.setIfInBounds_toArray, List.set_cons_zero, List.set_cons_succ]))
        clear hS hS1 hS2 hbl hbp hbn
        clear HB9 z0 z1 z2 z3 z4 z5 z6 z7 z8 z9 z10 zf zl HI0 ho9
        generalize (((((((((((wn.setCell ⟨wp.heap.size, 0, none⟩ (.int .i64 y0)).setCell ⟨wp.heap.size, 1, none⟩ (.int .i64 y1)).setCell ⟨wp.heap.size, 2, none⟩ (.int .i64 y2)).setCell ⟨wp.heap.size, 3, none⟩ (.slice A9 ys.length c9)).setCell ⟨wp.heap.size, 4, none⟩ (.int .i64 b0)).setCell ⟨wp.heap.size, 5, none⟩ (.int .i64 b1)).setCell ⟨wp.heap.size, 6, none⟩ (.int .i64 b2)).setCell ⟨wp.heap.size, 7, none⟩ (.int .i64 b3)).setCell ⟨wp.heap.size, 8, none⟩ (.int .i64 b4)).setCell ⟨wp.heap.size, 9, none⟩ (.int .i64 b5)).setCell ⟨wp.heap.size, 10, none⟩ (.bool b6)) = wq at *
        generalize hQQ : wp.heap.size = Q at *
        clear hQQ
        refine wpGT_nil ?_
        have HNQ := Lib.hid (show NB wq Q ⟨y0, y1, y2⟩ A9 ys.length c9 ⟨b0, b1, b2, b3, b4, b5, b6⟩ from HN9.out)
        clear HN9 HNM HB d0 d1 d2 d3 d4 d5 d6 d7 d8 d9 d10 HCH
        obtain ⟨e0, e1, e2, e3, e4, e5, e6, e7, e8, e9, e10⟩ := HNQ.out.cells
        simp only at e0 e1 e2 e3 e4 e5 e6 e7 e8 e9 e10
        rcases HQ.out with ⟨rfl, rfl, hyl⟩ | ⟨h8, rfl, hyl, HD⟩
        · have g1 : decide ((8 : Int) ≤ ((8 : Nat) : Int)) = true := by simp
          have g2 : ((ys.length : Int) == 0) = true := by simp [hyl]
          go_wp2_with fail
          go_fit (HAW.out _)
          rintro e w7 ⟨rfl, hb7⟩
          have HB7 := Lib.hid (beln HBX.out hb7)
          clear hb7
          go_wp2
          go_ret
          exact ⟨rfl, HB7.out⟩
        · have g1 : decide ((8 : Int) ≤ (i : Int)) = false := by simp; omega
          have g2 : ((ys.length : Int) != (i : Int) + 1) = false := by simp [hyl]
          clear hyl
          obtain ⟨d0, d1, d2, d3, d4, d5, d6, d7, d8, d9, d10⟩ := HM9.out.cells
          have df := HM9.out.frz
          have dl := HM9.out.lt
          simp only at d0 d1 d2 d3 d4 d5 d6 d7 d8 d9 d10
          have HM7 : Hid (NB (((((((((((wq.setCell ⟨M, 0, none⟩ (.int .i64 y0)).setCell ⟨M, 1, none⟩ (.int .i64 y1)).setCell ⟨M, 2, none⟩ (.int .i64 y2)).setCell ⟨M, 3, none⟩ (.slice A9 ys.length c9)).setCell ⟨M, 4, none⟩ (.int .i64 b0)).setCell ⟨M, 5, none⟩ (.int .i64 b1)).setCell ⟨M, 6, none⟩ (.int .i64 b2)).setCell ⟨M, 7, none⟩ (.int .i64 b3)).setCell ⟨M, 8, none⟩ (.int .i64 b4)).setCell ⟨M, 9, none⟩ (.int .i64 b5)).setCell ⟨M, 10, none⟩ (.bool b6)) M ⟨y0, y1, y2⟩ A9 ys.length c9 ⟨b0, b1, b2, b3, b4, b5, b6⟩) := Lib.hid (HM9.out.store2 ⟨y0, y1, y2⟩ A9 ys.length c9 ⟨b0, b1, b2, b3, b4, b5, b6⟩)
          have HO7 : Hid (OwnG GId.cells 23 3 (((((((((((wq.setCell ⟨M, 0, none⟩ (.int .i64 y0)).setCell ⟨M, 1, none⟩ (.int .i64 y1)).setCell ⟨M, 2, none⟩ (.int .i64 y2)).setCell ⟨M, 3, none⟩ (.slice A9 ys.length c9)).setCell ⟨M, 4, none⟩ (.int .i64 b0)).setCell ⟨M, 5, none⟩ (.int .i64 b1)).setCell ⟨M, 6, none⟩ (.int .i64 b2)).setCell ⟨M, 7, none⟩ (.int .i64 b3)).setCell ⟨M, 8, none⟩ (.int .i64 b4)).setCell ⟨M, 9, none⟩ (.int .i64 b5)).setCell ⟨M, 10, none⟩ (.bool b6)) (M + 1) (.slice A9 ys.length c9) ys) := Lib.hid (own11 (Nat.lt_succ_self M) HO9.out (.int .i64 y0) (.int .i64 y1) (.int .i64 y2) (.slice A9 ys.length c9) (.int .i64 b0) (.int .i64 b1) (.int .i64 b2) (.int .i64 b3) (.int .i64 b4) (.int .i64 b5) (.bool b6))
          have HB7 : Hid (Below w.heap.size w (((((((((((wq.setCell ⟨M, 0, none⟩ (.int .i64 y0)).setCell ⟨M, 1, none⟩ (.int .i64 y1)).setCell ⟨M, 2, none⟩ (.int .i64 y2)).setCell ⟨M, 3, none⟩ (.slice A9 ys.length c9)).setCell ⟨M, 4, none⟩ (.int .i64 b0)).setCell ⟨M, 5, none⟩ (.int .i64 b1)).setCell ⟨M, 6, none⟩ (.int .i64 b2)).setCell ⟨M, 7, none⟩ (.int .i64 b3)).setCell ⟨M, 8, none⟩ (.int .i64 b4)).setCell ⟨M, 9, none⟩ (.int .i64 b5)).setCell ⟨M, 10, none⟩ (.bool b6))) := Lib.hid (below11b (show w.heap.size ≤ M from HM.out) HBX.out (.int .i64 y0) (.int .i64 y1) (.int .i64 y2) (.slice A9 ys.length c9) (.int .i64 b0) (.int .i64 b1) (.int .i64 b2) (.int .i64 b3) (.int .i64 b4) (.int .i64 b5) (.bool b6))
          have HC9 := Lib.hid hc9
          go_wp2
          clear d0 d1 d2 d3 d4 d5 d6 d7 d8 d9 d10 df dl
          generalize (((((((((((wq.setCell ⟨M, 0, none⟩ (.int .i64 y0)).setCell ⟨M, 1, none⟩ (.int .i64 y1)).setCell ⟨M, 2, none⟩ (.int .i64 y2)).setCell ⟨M, 3, none⟩ (.slice A9 ys.length c9)).setCell ⟨M, 4, none⟩ (.int .i64 b0)).setCell ⟨M, 5, none⟩ (.int .i64 b1)).setCell ⟨M, 6, none⟩ (.int .i64 b2)).setCell ⟨M, 7, none⟩ (.int .i64 b3)).setCell ⟨M, 8, none⟩ (.int .i64 b4)).setCell ⟨M, 9, none⟩ (.int .i64 b5)).setCell ⟨M, 10, none⟩ (.bool b6)) = w7 at *
          go_roundw
          case rel => exact ⟨i + 1, ⟨⟨y0, y1, y2⟩, ys, ⟨b0, b1, b2, b3, b4, b5, b6⟩⟩, A9, c9, by go_num, by omega, HD, HC9.out, HM7, HO7, HB7⟩
          case measure => simp [intOf]; omega
    · refine wpOp_call (by simp only [List.getElem?_toArray, List.getElem?_cons_succ, List.getElem?_cons_zero]; rfl) (by rfl) fun K hK => ?_
      go_simp
      have hbl : Below w9.heap.size w9 (w9.alloc (.cells #[.int .i64 0, .int .i64 0, .int .i64 0, .slice none 0 0, .int .i64 0, .int .i64 0, .int .i64 0, .int .i64 0, .int .i64 0, .int .i64 0, .bool false] 28)).drew := (belt (Below.refl _ w9) _).drew
      refine hK _ _ hbl ?_
      clear hK K
      try simp only [Act.put, List.setIfInBounds_toArray, List.set_cons_zero, List.set_cons_succ]
      refine wpGT_call (by simp only [List.getElem?_toArray, List.getElem?_cons_succ, List.getElem?_cons_zero]; rfl) (by rfl) fun K hK => ?_
      go_simp
      go_fit (HPG.out _)
      rintro e wp ⟨rfl, hbp⟩
      have hS1 : Below w9.heap.size w9 wp := beln hbl hbp
      go_simp
      refine hK _ _ hS1 ?_
      clear hK K
      try simp only [Act.put, List.setIfInBounds_toArray, List.set_cons_zero, List.set_cons_succ]
      refine wpGT_call (by simp only [List.getElem?_toArray, List.getElem?_cons_succ, List.getElem?_cons_zero]; rfl) (by rfl) fun K hK => ?_
      go_simp
      go_fit (HCH.out _ hS1)
      rintro e wn ⟨A9, c9, rfl, hc9, ho9, hbn⟩
      have hS2 : Below w9.heap.size w9 wn := beln hS1 hbn
      have hpl : w9.heap.size < wp.heap.size := by have := hbp.size; simp at this; omega
      have HI0 := Lib.hid ((((NB.new w9 ⟨0, 0, 0⟩ none 0 0 ⟨0, 0, 0, 0, 0, 0, false⟩).next (Below.refl _ _).drew).next hbp).next hbn)
      go_simp
      refine hK _ _ hS2 ?_
      clear hK K
      try simp only [Act.put, List.setIfInBounds_toArray, List.set_cons_zero, List.set_cons_succ]
      iterate 3
        (first
          | (refine wpGT_float (v := ?_) (by simp only [List.getElem?_toArray, List.getElem?_cons_succ, List.getElem?_cons_zero]; rfl) (by rfl) ?_ ?_
             rotate_left
             · (intro W hW; skip; go_simp; try with_reducible rfl)
             simp only [Act.put, List.setIfInBounds_toArray, List.set_cons_zero, List.set_cons_succ])
          | (refine wpGT_skip (by simp only [List.getElem?_toArray, List.getElem?_cons_succ, List.getElem?_cons_zero]; rfl) (by rfl) ?_
             simp only [Act.put, List.setIfInBounds_toArray, List.set_cons_zero, List.set_cons_succ]))
      obtain ⟨z0, z1, z2, z3, z4, z5, z6, z7, z8, z9, z10⟩ := HI0.out.cells
      have zf := HI0.out.frz
      have zl := HI0.out.lt
      simp only at z0 z1 z2 z3 z4 z5 z6 z7 z8 z9 z10
      refine wpGT_call (by simp only [List.getElem?_toArray, List.getElem?_cons_succ, List.getElem?_cons_zero]; rfl) (by rfl) fun K hK => ?_
      go_simp
      have HB9 : Hid (Below w9.heap.size w9 (((((((((((wn.setCell ⟨w9.heap.size, 0, none⟩ (.int .i64 y0)).setCell ⟨w9.heap.size, 1, none⟩ (.int .i64 y1)).setCell ⟨w9.heap.size, 2, none⟩ (.int .i64 y2)).setCell ⟨w9.heap.size, 3, none⟩ (.slice A9 ys.length c9)).setCell ⟨w9.heap.size, 4, none⟩ (.int .i64 b0)).setCell ⟨w9.heap.size, 5, none⟩ (.int .i64 b1)).setCell ⟨w9.heap.size, 6, none⟩ (.int .i64 b2)).setCell ⟨w9.heap.size, 7, none⟩ (.int .i64 b3)).setCell ⟨w9.heap.size, 8, none⟩ (.int .i64 b4)).setCell ⟨w9.heap.size, 9, none⟩ (.int .i64 b5)).setCell ⟨w9.heap.size, 10, none⟩ (.bool b6))) := Lib.hid (below11b (by omega) hS2 _ _ _ _ _ _ _ _ _ _ _)
      have HN9 : Hid (NB (((((((((((wn.setCell ⟨w9.heap.size, 0, none⟩ (.int .i64 y0)).setCell ⟨w9.heap.size, 1, none⟩ (.int .i64 y1)).setCell ⟨w9.heap.size, 2, none⟩ (.int .i64 y2)).setCell ⟨w9.heap.size, 3, none⟩ (.slice A9 ys.length c9)).setCell ⟨w9.heap.size, 4, none⟩ (.int .i64 b0)).setCell ⟨w9.heap.size, 5, none⟩ (.int .i64 b1)).setCell ⟨w9.heap.size, 6, none⟩ (.int .i64 b2)).setCell ⟨w9.heap.size, 7, none⟩ (.int .i64 b3)).setCell ⟨w9.heap.size, 8, none⟩ (.int .i64 b4)).setCell ⟨w9.heap.size, 9, none⟩ (.int .i64 b5)).setCell ⟨w9.heap.size, 10, none⟩ (.bool b6)) w9.heap.size ⟨y0, y1, y2⟩ A9 ys.length c9 ⟨b0, b1, b2, b3, b4, b5, b6⟩) := Lib.hid (HI0.out.store2 ⟨y0, y1, y2⟩ A9 ys.length c9 ⟨b0, b1, b2, b3, b4, b5, b6⟩)
      have HBX := Lib.hid (beln HB.out HB9.out)
      have HM9 := Lib.hid (HNM.out.next HB9.out)
      have HO9 := Lib.hid (OwnG.low (b' := M + 1) (own11 (g0 := w9.heap.size) (by omega) ho9 (.int .i64 y0) (.int .i64 y1) (.int .i64 y2) (.slice A9 ys.length c9) (.int .i64 b0) (.int .i64 b1) (.int .i64 b2) (.int .i64 b3) (.int .i64 b4) (.int .i64 b5) (.bool b6)) (by omega))
      refine hK _ _ HB9.out ?_
      clear hK K
      try simp only [Act.put, List.setIfInBounds_toArray, List.set_cons_zero, List.set_cons_succ]
      iterate 1
        (first
          | (refine wpGT_float (v := ?_) (by simp only [List.getElem?_toArray, List.getElem?_cons_succ, List.getElem?_cons_zero]; rfl) (by rfl) ?_ ?_
             rotate_left
             · (intro W hW; skip; go_simp; try with_reducible rfl)
             simp only [Act.put, List.setIfInBounds_toArray, List.set_cons_zero, List.set_cons_succ])
          | (refine wpGT_skip (by simp only [List.getElem?_toArray, List.getElem?_cons_succ, List.getElem?_cons_zero]; rfl) (by rfl) ?_
             simp only [Act.put, List.setIfInBounds_toArray, List.set_cons_zero, List.set_cons_succ]))
      clear hS hS1 hS2 hbl hbp hbn
      clear HB9 z0 z1 z2 z3 z4 z5 z6 z7 z8 z9 z10 zf zl HI0 ho9
      generalize (((((((((((wn.setCell ⟨w9.heap.size, 0, none⟩ (.int .i64 y0)).setCell ⟨w9.heap.size, 1, none⟩ (.int .i64 y1)).setCell ⟨w9.heap.size, 2, none⟩ (.int .i64 y2)).setCell ⟨w9.heap.size, 3, none⟩ (.slice A9 ys.length c9)).setCell ⟨w9.heap.size, 4, none⟩ (.int .i64 b0)).setCell ⟨w9.heap.size, 5, none⟩ (.int .i64 b1)).setCell ⟨w9.heap.size, 6, none⟩ (.int .i64 b2)).setCell ⟨w9.heap.size, 7, none⟩ (.int .i64 b3)).setCell ⟨w9.heap.size, 8, none⟩ (.int .i64 b4)).setCell ⟨w9.heap.size, 9, none⟩ (.int .i64 b5)).setCell ⟨w9.heap.size, 10, none⟩ (.bool b6)) = wq at *
      generalize hQQ : w9.heap.size = Q at *
      clear hQQ
      refine wpGT_nil ?_
      have HNQ := Lib.hid (show NB wq Q ⟨y0, y1, y2⟩ A9 ys.length c9 ⟨b0, b1, b2, b3, b4, b5, b6⟩ from HN9.out)
      clear HN9 HNM HB d0 d1 d2 d3 d4 d5 d6 d7 d8 d9 d10 HCH
      obtain ⟨e0, e1, e2, e3, e4, e5, e6, e7, e8, e9, e10⟩ := HNQ.out.cells
      simp only at e0 e1 e2 e3 e4 e5 e6 e7 e8 e9 e10
      rcases HQ.out with ⟨rfl, rfl, hyl⟩ | ⟨h8, rfl, hyl, HD⟩
      · have g1 : decide ((8 : Int) ≤ ((8 : Nat) : Int)) = true := by simp
        have g2 : ((ys.length : Int) == 0) = true := by simp [hyl]
        go_wp2_with fail
        go_fit (HAW.out _)
        rintro e w7 ⟨rfl, hb7⟩
        have HB7 := Lib.hid (beln HBX.out hb7)
        clear hb7
        go_wp2
        go_ret
        exact ⟨rfl, HB7.out⟩
      · have g1 : decide ((8 : Int) ≤ (i : Int)) = false := by simp; omega
        have g2 : ((ys.length : Int) != (i : Int) + 1) = false := by simp [hyl]
        clear hyl
        obtain ⟨d0, d1, d2, d3, d4, d5, d6, d7, d8, d9, d10⟩ := HM9.out.cells
        have df := HM9.out.frz
        have dl := HM9.out.lt
        simp only at d0 d1 d2 d3 d4 d5 d6 d7 d8 d9 d10
        have HM7 : Hid (NB (((((((((((wq.setCell ⟨M, 0, none⟩ (.int .i64 y0)).setCell ⟨M, 1, none⟩ (.int .i64 y1)).setCell ⟨M, 2, none⟩ (.int .i64 y2)).setCell ⟨M, 3, none⟩ (.slice A9 ys.length c9)).setCell ⟨M, 4, none⟩ (.int .i64 b0)).setCell ⟨M, 5, none⟩ (.int .i64 b1)).setCell ⟨M, 6, none⟩ (.int .i64 b2)).setCell ⟨M, 7, none⟩ (.int .i64 b3)).setCell ⟨M, 8, none⟩ (.int .i64 b4)).setCell ⟨M, 9, none⟩ (.int .i64 b5)).setCell ⟨M, 10, none⟩ (.bool b6)) M ⟨y0, y1, y2⟩ A9 ys.length c9 ⟨b0, b1, b2, b3, b4, b5, b6⟩) := Lib.hid (HM9.out.store2 ⟨y0, y1, y2⟩ A9 ys.length c9 ⟨b0, b1, b2, b3, b4, b5, b6⟩)
        have HO7 : Hid (OwnG GId.cells 23 3 (((((((((((wq.setCell ⟨M, 0, none⟩ (.int .i64 y0)).setCell ⟨M, 1, none⟩ (.int .i64 y1)).setCell ⟨M, 2, none⟩ (.int .i64 y2)).setCell ⟨M, 3, none⟩ (.slice A9 ys.length c9)).setCell ⟨M, 4, none⟩ (.int .i64 b0)).setCell ⟨M, 5, none⟩ (.int .i64 b1)).setCell ⟨M, 6, none⟩ (.int .i64 b2)).setCell ⟨M, 7, none⟩ (.int .i64 b3)).setCell ⟨M, 8, none⟩ (.int .i64 b4)).setCell ⟨M, 9, none⟩ (.int .i64 b5)).setCell ⟨M, 10, none⟩ (.bool b6)) (M + 1) (.slice A9 ys.length c9) ys) := Lib.hid (own11 (Nat.lt_succ_self M) HO9.out (.int .i64 y0) (.int .i64 y1) (.int .i64 y2) (.slice A9 ys.length c9) (.int .i64 b0) (.int .i64 b1) (.int .i64 b2) (.int .i64 b3) (.int .i64 b4) (.int .i64 b5) (.bool b6))
        have HB7 : Hid (Below w.heap.size w (((((((((((wq.setCell ⟨M, 0, none⟩ (.int .i64 y0)).setCell ⟨M, 1, none⟩ (.int .i64 y1)).setCell ⟨M, 2, none⟩ (.int .i64 y2)).setCell ⟨M, 3, none⟩ (.slice A9 ys.length c9)).setCell ⟨M, 4, none⟩ (.int .i64 b0)).setCell ⟨M, 5, none⟩ (.int .i64 b1)).setCell ⟨M, 6, none⟩ (.int .i64 b2)).setCell ⟨M, 7, none⟩ (.int .i64 b3)).setCell ⟨M, 8, none⟩ (.int .i64 b4)).setCell ⟨M, 9, none⟩ (.int .i64 b5)).setCell ⟨M, 10, none⟩ (.bool b6))) := Lib.hid (below11b (show w.heap.size ≤ M from HM.out) HBX.out (.int .i64 y0) (.int .i64 y1) (.int .i64 y2) (.slice A9 ys.length c9) (.int .i64 b0) (.int .i64 b1) (.int .i64 b2) (.int .i64 b3) (.int .i64 b4) (.int .i64 b5) (.bool b6))
        have HC9 := Lib.hid hc9
        go_wp2
        clear d0 d1 d2 d3 d4 d5 d6 d7 d8 d9 d10 df dl
        generalize (((((((((((wq.setCell ⟨M, 0, none⟩ (.int .i64 y0)).setCell ⟨M, 1, none⟩ (.int .i64 y1)).setCell ⟨M, 2, none⟩ (.int .i64 y2)).setCell ⟨M, 3, none⟩ (.slice A9 ys.length c9)).setCell ⟨M, 4, none⟩ (.int .i64 b0)).setCell ⟨M, 5, none⟩ (.int .i64 b1)).setCell ⟨M, 6, none⟩ (.int .i64 b2)).setCell ⟨M, 7, none⟩ (.int .i64 b3)).setCell ⟨M, 8, none⟩ (.int .i64 b4)).setCell ⟨M, 9, none⟩ (.int .i64 b5)).setCell ⟨M, 10, none⟩ (.bool b6)) = w7 at *
        go_roundw
        case rel => exact ⟨i + 1, ⟨⟨y0, y1, y2⟩, ys, ⟨b0, b1, b2, b3, b4, b5, b6⟩⟩, A9, c9, by go_num, by omega, HD, HC9.out, HM7, HO7, HB7⟩
        case measure => simp [intOf]; omega
end Go.Proofs.Ytnoegjfokceghaa
