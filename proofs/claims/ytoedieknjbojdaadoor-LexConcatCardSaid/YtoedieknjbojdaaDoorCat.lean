/-
  The walk of the law LexConcat: it returns true.
  Conditions: the variable strconv.ErrRange lies as the program's start lays it.
-/
import Derived.Test.YtoedieknjbojdaaDoorAt
namespace Go.Proofs.YtoedieknjbojdaaDoor
open Go.RowKit Go.Shelf

theorem count_le {l : List UInt8} {ts : List Tok} (h : lex 0 (1, 1) l = .ok ts) : ts.length ≤ l.length := by
  obtain ⟨qs, hst⟩ := stands l ts 0 (Nat.zero_le _) h
  rcases stands_count hst with h | h
  · omega
  · rw [h]; simp

theorem line_le {l : List UInt8} {ts : List Tok} (h : lex 0 (1, 1) l = .ok ts) (i : Nat) (hi : i < ts.length) : (ts[i]).line ≤ 1 + l.length := by
  obtain ⟨qs, hst⟩ := stands l ts 0 (Nat.zero_le _) h
  have hl := stands_len hst
  obtain ⟨h1, h2, h3, _⟩ := stands_at hst i hi (by omega)
  have bd := (adv_bd (l.take qs[i]) (1, 1) (Nat.le_refl _) (Nat.le_refl _)).2.2.1
  rw [h3, List.length_take] at bd
  simp at bd; omega
theorem field_line (x y : Value) (W : World) : (Instr.field 25 (.agg #[x, y]) 0).run Tryd.prog W = .ok x W := by
  kernel_rfl
theorem cat_eq (a b : List UInt8) : (⟨a.toArray⟩ ++ ⟨#[10]⟩ ++ ⟨b.toArray⟩ : ByteArray) = ⟨(a ++ 10 :: b).toArray⟩ := by
  apply ByteArray.ext
  simp [ByteArray.data_append]
set_option maxRecDepth 50000 in
set_option maxHeartbeats 1000000 in
theorem concat_both (a b : List UInt8) (x y : List Tok) (w : World) (ha : a.length ≤ 500) (hb : b.length ≤ 500) (hx : lex 0 (1, 1) a = .ok x) (hy : lex 0 (1, 1) b = .ok y) (hG : Glob w) :
    Calls Tryd.prog 8 #[.string ⟨a.toArray⟩, .string ⟨b.toArray⟩] w fun e w' => e = .returned (.bool true) ∧ Below w.heap.size w w' := by
  have HG := Lib.hid hG
  have HAW := Lib.hid awake_any
  have hz : lex 0 (1, 1) (a ++ 10 :: b) = .ok (x ++ y.map (Tok.moved (adv (1, 1) a).1)) := by rw [lex_concat, hx, hy]; rfl
  have hxl := count_le hx
  have hyl := count_le hy
  have bd := (adv_bd a (1, 1) (Nat.le_refl _) (Nat.le_refl _)).2.2.1
  have H1 := Lib.hid (scan_ok a x (by rw [scan_small (by omega)]; exact hx) w hG (by unfold maxLen; omega))
  have H2 := Lib.hid fun W hW => scan_ok b y (by rw [scan_small (by omega)]; exact hy) W hW (by unfold maxLen; omega)
  have H3 := Lib.hid fun W hW => scan_ok (a ++ 10 :: b) _ (by rw [scan_small (by simp; omega)]; exact hz) W hW (by unfold maxLen; simp; omega)
  have H4 := Lib.hid fun W => at_any a (by omega) W
  generalize (adv (1, 1) a).1 = d at *
  generalize (adv (1, 1) a).2 = dc at *
  have HLN := Lib.hid (line_le hy)
  clear hx hy hz hG
  go_enter Tryd.func8, Tryd.ntmps8
  go_wp2_with fail
  refine H1.out.mono ?_
  rintro e w1 ⟨A1, c1, rfl, hc1, hr1, hb1⟩
  have HR1 := Lib.hid hr1
  have HB1 := Lib.hid hb1
  clear hr1 hb1
  go_wp2_with fail
  refine (H2.out _ (HG.out.next (bel_lit HB1.out _))).mono ?_
  rintro e w2 ⟨A2, c2, rfl, hc2, hr2, hb2⟩
  have HR2 := Lib.hid hr2
  have HC2 := Lib.hid (bel_alloc (Below.refl _ _) hb2)
  have HB2 := Lib.hid (bel_alloc HB1.out hb2)
  clear hr2 hb2
  go_wp2_with fail
  rw [cat_eq]
  refine (H3.out _ (HG.out.next (bel_lit HB2.out _))).mono ?_
  rintro e w3 ⟨A3, c3, rfl, hc3, hr3, hb3⟩
  have HR3 := Lib.hid hr3
  have HC3 := Lib.hid (bel_alloc (Below.refl _ _) hb3)
  have HB3 := Lib.hid (bel_alloc HB2.out hb3)
  clear hr3 hb3
  go_wp2_with fail
  refine (H4.out _).mono ?_
  rintro e w4 ⟨rfl, hb4⟩
  have HC4 := Lib.hid (bel_alloc (Below.refl _ _) hb4)
  have HB4 := Lib.hid (bel_alloc HB3.out hb4)
  clear hb4
  have B34 := bel_next HC3.out HC4.out
  have B24 := bel_next HC2.out B34
  have R1 := (HR1.out.below (Nat.le_refl _) B24).wide B24.size
  have R2 := Lib.hid ((HR2.out.below (Nat.le_refl _) B34).wide B34.size)
  have R3 := Lib.hid ((HR3.out.below (Nat.le_refl _) HC4.out).wide HC4.out.size)
  obtain ⟨v5, w5, hrun5, hown5, hg5⟩ := (OwnT.nil w4 w4.heap.size).app c1 R1 (Nat.le_refl _) (by simp; omega)
  rw [List.length_map] at hrun5
  rw [List.nil_append] at hown5
  have HRUN := Lib.hid hrun5
  have HO5 := Lib.hid hown5
  have HB5 := Lib.hid ((Below.refl w4.heap.size w4).grown hg5 (Nat.le_refl _) (fun k hk => by cases hk))
  clear hrun5 hown5 hg5 B34 B24 R1
  have hyl2 : y.length ≤ 500 := by omega
  have hfld := field_line (.int .i64 (d : Int)) (.int .i64 (dc : Int))
  go_wp2_with (at_builtin; refine wpList_tapp_run HRUN.out rfl rfl rfl rfl rfl ?_)
  go_loopw [18, 19] (fun v vi wr => ∃ j : Nat, vi = .int .i64 j ∧ j ≤ y.length ∧ Hid (OwnT wr w4.heap.size v (x.map Tok.g ++ ((y.take j).map (Tok.moved d)).map Tok.g)) ∧ Hid (Below w4.heap.size w4 wr)) (fun _ vi _ => y.length - (intOf vi).toNat)
  case atStart => exact ⟨0, rfl, Nat.zero_le _, Lib.hid (by simpa using HO5.out), HB5⟩
  case round =>
    obtain ⟨j, rfl, hj, HO, HW⟩ := hrel
    rcases Nat.lt_or_ge j y.length with hlt | hge
    · have hm3 : j < (y.map Tok.g).length := by rw [List.length_map]; exact hlt
      obtain ⟨b1, o1, rfl, hb1, x0, x1, x2, x3, x4⟩ := (R2.out.below (Nat.le_refl _) HW.out).cells5 hm3
      simp only [List.getElem_map, Tok.g] at x0 x1 x2 x3 x4
      have HT : Hid (y.take (j + 1) = y.take j ++ [y[j]]) := Lib.hid (List.take_succ_eq_append_getElem hlt)
      have hline : (y[j]).line ≤ 600 := by have := HLN.out j hlt; omega
      generalize y[j] = t at *
      have hz0 := HW.out.size
      have hz1 : b1 < wr.heap.size := by omega
      clear hm3
      have hownW := Lib.hid ((HO.out.alloc (.cells #[.int .i64 (t.kind : Int), .string ⟨t.text.toArray⟩, .int .u64 (t.value : Int), .int .i64 ((t.line : Int) + d), .int .i64 (t.col : Int)] 33)).alloc (.cells #[.int .i64 (t.kind : Int), .string ⟨t.text.toArray⟩, .int .u64 (t.value : Int), .int .i64 ((t.line : Int) + d), .int .i64 (t.col : Int)] 33))
      have HBW := Lib.hid (bel_lit (bel_lit (Below.refl wr.heap.size wr) (.cells #[.int .i64 (t.kind : Int), .string ⟨t.text.toArray⟩, .int .u64 (t.value : Int), .int .i64 ((t.line : Int) + d), .int .i64 (t.col : Int)] 33)) (.cells #[.int .i64 (t.kind : Int), .string ⟨t.text.toArray⟩, .int .u64 (t.value : Int), .int .i64 ((t.line : Int) + d), .int .i64 (t.col : Int)] 33))
      go_wp2_with (at_builtin; refine wpList_push w4.heap.size u18 _ (wr.heap.size + 1) ⟨t.kind, t.text, t.value, (t.line : Int) + d, t.col⟩ 1 hownW.out (lit_cells (wr.alloc _) _ _ (by simp)) (by simp; omega) (by simp; omega) rfl _ _ rfl rfl rfl ?_)
      intro v2 w2' hown2 hg2
      have HN : Hid (OwnT w2' w4.heap.size v2 (x.map Tok.g ++ ((y.take (j + 1)).map (Tok.moved d)).map Tok.g)) := Lib.hid (by
        rw [HT.out, List.map_append, List.map_append, ← List.append_assoc]
        have e : List.map Tok.g (List.map (Tok.moved d) [t]) = [⟨t.kind, t.text, t.value, (t.line : Int) + d, t.col⟩] := by simp [Tok.moved, Tok.g]
        rw [e]
        simp only [List.append_assoc, List.map_map, List.map_take]
        exact hown2)
      have HB' : Hid (Below w4.heap.size w4 w2') := Lib.hid ((HW.out.trans (HBW.out.mono hz0)).grown hg2 (by simp; omega) (fun k hk => (World.ownsRow.lt HO.out k hk).1))
      clear hown2 hg2
      go_wp2
      go_roundw
      case rel => exact ⟨j + 1, by go_num, by omega, HN, HB'⟩
      case measure => simp [intOf]; omega
    · have hjl : j = y.length := by omega
      subst hjl
      have ho := HO.out
      rw [List.take_length, ← List.map_append] at ho
      obtain ⟨A6, c6, rfl, hc6, r6⟩ := ho.row
      have e6 : (List.map Tok.g (x ++ List.map (Tok.moved d) y)).length = x.length + y.length := by simp
      rw [e6]
      have r3 := (R3.out.below (Nat.le_refl _) HW.out).wide HW.out.size
      have HS := Lib.hid (same_eq _ A3 A6 c3 c6 wr r3 r6 (by simp; omega))
      rw [e6] at HS
      have HBW := Lib.hid (bel_next HB4.out HW.out)
      clear ho r6 r3 e6
      go_wp2_with fail
      refine HS.out.mono ?_
      rintro e w7 ⟨rfl, hb7⟩
      have HB7 := Lib.hid (bel_next HBW.out hb7)
      clear hb7
      go_wp2_with fail
      refine (HAW.out _ (HG.out.next HB7.out)).mono ?_
      rintro e w8 ⟨rfl, hb8⟩
      have HB8 := Lib.hid (bel_next HB7.out hb8)
      clear hb8
      go_wp2
      go_ret
      exact ⟨rfl, HB8.out⟩

set_option maxRecDepth 50000 in
set_option maxHeartbeats 1000000 in
theorem concat_right (a b : List UInt8) (x : List Tok) (p q er : Nat) (w : World) (ha : a.length ≤ 500) (hb : b.length ≤ 500) (hx : lex 0 (1, 1) a = .ok x) (hy : lex 0 (1, 1) b = .no p q er) (hG : Glob w) :
    Calls Tryd.prog 8 #[.string ⟨a.toArray⟩, .string ⟨b.toArray⟩] w fun e w' => e = .returned (.bool true) ∧ Below w.heap.size w w' := by
  have HG := Lib.hid hG
  have HAW := Lib.hid awake_any
  have hz : lex 0 (1, 1) (a ++ 10 :: b) = .no (p + (adv (1, 1) a).1) q er := by rw [lex_concat, hx, hy]; rfl
  have bd := (adv_bd a (1, 1) (Nat.le_refl _) (Nat.le_refl _)).2.2.1
  have hp : p ≤ 600 := by
    obtain ⟨k, hk, hpos, _⟩ := lex_err_at b.length b (1, 1) p q er (Nat.le_refl _) hy
    have bd := (adv_bd (b.take k) (1, 1) (Nat.le_refl _) (Nat.le_refl _)).2.2.1
    rw [hpos, List.length_take] at bd
    simp at bd; omega
  have he0 := err_pos hy
  have fe1 : ((er : Int) != 0) = true := by simp; omega
  have fe2 : ((er : Int) == (er : Int)) = true := by simp
  have H1 := Lib.hid (scan_ok a x (by rw [scan_small (by omega)]; exact hx) w hG (by unfold maxLen; omega))
  have H2 := Lib.hid fun W hW => scan_no b p q er (by rw [scan_small (by omega)]; exact hy) W hW (by unfold maxLen; omega)
  have H3 := Lib.hid fun W hW => scan_no (a ++ 10 :: b) _ _ _ (by rw [scan_small (by simp; omega)]; exact hz) W hW (by unfold maxLen; simp; omega)
  have H4 := Lib.hid fun W => at_any a (by omega) W
  generalize (adv (1, 1) a).1 = d at *
  generalize (adv (1, 1) a).2 = dc at *
  have hfld := field_line (.int .i64 (d : Int)) (.int .i64 (dc : Int))
  clear hx hy hz hG he0
  go_enter Tryd.func8, Tryd.ntmps8
  go_wp2_with fail
  refine H1.out.mono ?_
  rintro e w1 ⟨A1, c1, rfl, hc1, hr1, hb1⟩
  have HB1 := Lib.hid hb1
  clear hr1 hb1
  go_wp2_with fail
  refine (H2.out _ (HG.out.next (bel_lit HB1.out _))).mono ?_
  rintro e w2 ⟨rfl, hb2⟩
  have HB2 := Lib.hid (bel_alloc HB1.out hb2)
  clear hb2
  go_wp2_with fail
  rw [cat_eq]
  refine (H3.out _ (HG.out.next (bel_lit HB2.out _))).mono ?_
  rintro e w3 ⟨rfl, hb3⟩
  have HB3 := Lib.hid (bel_alloc HB2.out hb3)
  clear hb3
  go_wp2_with fail
  refine (H4.out _).mono ?_
  rintro e w4 ⟨rfl, hb4⟩
  have HB4 := Lib.hid (bel_alloc HB3.out hb4)
  have HX4 := Lib.hid hb4
  clear hb4
  go_wp2_with fail
  refine (H2.out _ (HG.out.next HB4.out)).mono ?_
  rintro e w5 ⟨rfl, hb5⟩
  have HB5 := Lib.hid (bel_next HB4.out hb5)
  have hx5 := bel_next HX4.out hb5
  have k0 : w5.cell? ⟨w3.heap.size, 0, none⟩ = some (.int .i64 ((p : Int) + d)) := (hx5.cell (p := ⟨w3.heap.size, 0, none⟩) (by simp)).trans (by simp)
  have k1 : w5.cell? ⟨w3.heap.size, 1, none⟩ = some (.int .i64 (q : Int)) := (hx5.cell (p := ⟨w3.heap.size, 1, none⟩) (by simp)).trans (by simp)
  have hz5 : w3.heap.size < w5.heap.size := by have := hx5.size; simp at this; omega
  clear hb5 hx5
  go_wp2_with fail
  refine (HAW.out _ (HG.out.next (bel_lit HB5.out _))).mono ?_
  rintro e w6 ⟨rfl, hb6⟩
  have HB6 := Lib.hid (bel_alloc HB5.out hb6)
  clear hb6
  go_wp2
  go_ret
  exact ⟨rfl, HB6.out⟩

set_option maxRecDepth 50000 in
set_option maxHeartbeats 1000000 in
theorem concat_left_ok (a b : List UInt8) (p q er : Nat) (y : List Tok) (w : World) (ha : a.length ≤ 500) (hb : b.length ≤ 500) (hx : lex 0 (1, 1) a = .no p q er) (hy : lex 0 (1, 1) b = .ok y) (hG : Glob w) :
    Calls Tryd.prog 8 #[.string ⟨a.toArray⟩, .string ⟨b.toArray⟩] w fun e w' => e = .returned (.bool true) ∧ Below w.heap.size w w' := by
  have HG := Lib.hid hG
  have HAW := Lib.hid awake_any
  have hz : lex 0 (1, 1) (a ++ 10 :: b) = .no p q er := by rw [lex_concat, hx]
  have he0 := err_pos hx
  have fe0 : ((er : Int) == 0) = false := by simp; omega
  have fe1 : ((er : Int) != 0) = true := by simp; omega
  have fe2 : ((er : Int) == (er : Int)) = true := by simp
  have H1 := Lib.hid (scan_no a p q er (by rw [scan_small (by omega)]; exact hx) w hG (by unfold maxLen; omega))
  have H2 := Lib.hid fun W hW => scan_ok b y (by rw [scan_small (by omega)]; exact hy) W hW (by unfold maxLen; omega)
  have H3 := Lib.hid fun W hW => scan_no (a ++ 10 :: b) _ _ _ (by rw [scan_small (by simp; omega)]; exact hz) W hW (by unfold maxLen; simp; omega)
  have H4 := Lib.hid fun W => at_any a (by omega) W
  generalize (adv (1, 1) a).1 = d at *
  generalize (adv (1, 1) a).2 = dc at *
  have hfld := field_line (.int .i64 (d : Int)) (.int .i64 (dc : Int))
  clear hx hy hz hG he0
  go_enter Tryd.func8, Tryd.ntmps8
  go_wp2_with fail
  refine H1.out.mono ?_
  rintro e w1 ⟨rfl, hb1⟩
  have HB1 := Lib.hid hb1
  clear hb1
  go_wp2_with fail
  refine (H2.out _ (HG.out.next (bel_lit HB1.out _))).mono ?_
  rintro e w2 ⟨A2, c2, rfl, hc2, hr2, hb2⟩
  have HB2 := Lib.hid (bel_alloc HB1.out hb2)
  clear hb2 hr2
  go_wp2_with fail
  rw [cat_eq]
  refine (H3.out _ (HG.out.next (bel_lit HB2.out _))).mono ?_
  rintro e w3 ⟨rfl, hb3⟩
  have HB3 := Lib.hid (bel_alloc HB2.out hb3)
  clear hb3
  go_wp2_with fail
  refine (H4.out _).mono ?_
  rintro e w4 ⟨rfl, hb4⟩
  have HB4 := Lib.hid (bel_alloc HB3.out hb4)
  clear hb4
  go_wp2_with fail
  refine (HAW.out _ (HG.out.next HB4.out)).mono ?_
  rintro e w6 ⟨rfl, hb6⟩
  have HB6 := Lib.hid (bel_next HB4.out hb6)
  clear hb6
  go_wp2
  go_ret
  exact ⟨rfl, HB6.out⟩

set_option maxRecDepth 50000 in
set_option maxHeartbeats 1000000 in
theorem concat_left_no (a b : List UInt8) (p q er : Nat) (p2 q2 e2 : Nat) (w : World) (ha : a.length ≤ 500) (hb : b.length ≤ 500) (hx : lex 0 (1, 1) a = .no p q er) (hy : lex 0 (1, 1) b = .no p2 q2 e2) (hG : Glob w) :
    Calls Tryd.prog 8 #[.string ⟨a.toArray⟩, .string ⟨b.toArray⟩] w fun e w' => e = .returned (.bool true) ∧ Below w.heap.size w w' := by
  have HG := Lib.hid hG
  have HAW := Lib.hid awake_any
  have hz : lex 0 (1, 1) (a ++ 10 :: b) = .no p q er := by rw [lex_concat, hx]
  have he0 := err_pos hx
  have fe0 : ((er : Int) == 0) = false := by simp; omega
  have fe1 : ((er : Int) != 0) = true := by simp; omega
  have fe2 : ((er : Int) == (er : Int)) = true := by simp
  have H1 := Lib.hid (scan_no a p q er (by rw [scan_small (by omega)]; exact hx) w hG (by unfold maxLen; omega))
  have H2 := Lib.hid fun W hW => scan_no b p2 q2 e2 (by rw [scan_small (by omega)]; exact hy) W hW (by unfold maxLen; omega)
  have H3 := Lib.hid fun W hW => scan_no (a ++ 10 :: b) _ _ _ (by rw [scan_small (by simp; omega)]; exact hz) W hW (by unfold maxLen; simp; omega)
  have H4 := Lib.hid fun W => at_any a (by omega) W
  generalize (adv (1, 1) a).1 = d at *
  generalize (adv (1, 1) a).2 = dc at *
  have hfld := field_line (.int .i64 (d : Int)) (.int .i64 (dc : Int))
  clear hx hy hz hG he0
  go_enter Tryd.func8, Tryd.ntmps8
  go_wp2_with fail
  refine H1.out.mono ?_
  rintro e w1 ⟨rfl, hb1⟩
  have HB1 := Lib.hid hb1
  clear hb1
  go_wp2_with fail
  refine (H2.out _ (HG.out.next (bel_lit HB1.out _))).mono ?_
  rintro e w2 ⟨rfl, hb2⟩
  have HB2 := Lib.hid (bel_alloc HB1.out hb2)
  clear hb2
  go_wp2_with fail
  rw [cat_eq]
  refine (H3.out _ (HG.out.next (bel_lit HB2.out _))).mono ?_
  rintro e w3 ⟨rfl, hb3⟩
  have HB3 := Lib.hid (bel_alloc HB2.out hb3)
  clear hb3
  go_wp2_with fail
  refine (H4.out _).mono ?_
  rintro e w4 ⟨rfl, hb4⟩
  have HB4 := Lib.hid (bel_alloc HB3.out hb4)
  clear hb4
  go_wp2_with fail
  refine (HAW.out _ (HG.out.next HB4.out)).mono ?_
  rintro e w6 ⟨rfl, hb6⟩
  have HB6 := Lib.hid (bel_next HB4.out hb6)
  clear hb6
  go_wp2
  go_ret
  exact ⟨rfl, HB6.out⟩

set_option maxHeartbeats 1000000 in
theorem concat_walk (a b : List UInt8) (w : World) (ha : a.length ≤ maxLen) (hb : b.length ≤ maxLen) (hG : Glob w) :
    Calls Tryd.prog 8 #[.string ⟨a.toArray⟩, .string ⟨b.toArray⟩] w fun e w' => e = .returned (.bool true) ∧ Below w.heap.size w w' := by
  unfold maxLen at ha hb
  rcases Nat.lt_or_ge 500 a.length with h1 | h1
  · have H := Lib.hid (awake_any w hG)
    clear hG
    go_enter Tryd.func8, Tryd.ntmps8
    go_wp2_with (go_at_call 11; refine H.out.mono ?_; rintro e w1 ⟨rfl, hb1⟩)
    go_ret
    exact ⟨rfl, by assumption⟩
  rcases Nat.lt_or_ge 500 b.length with h2 | h2
  · have H := Lib.hid (awake_any w hG)
    clear hG
    go_enter Tryd.func8, Tryd.ntmps8
    go_wp2_with (go_at_call 11; refine H.out.mono ?_; rintro e w1 ⟨rfl, hb1⟩)
    go_ret
    exact ⟨rfl, by assumption⟩
  cases hx : lex 0 (1, 1) a with
  | ok x =>
    cases hy : lex 0 (1, 1) b with
    | ok y => exact concat_both a b x y w h1 h2 hx hy hG
    | no p q e => exact concat_right a b x p q e w h1 h2 hx hy hG
  | no p q e =>
    cases hy : lex 0 (1, 1) b with
    | ok y => exact concat_left_ok a b p q e y w h1 h2 hx hy hG
    | no p2 q2 e2 => exact concat_left_no a b p q e p2 q2 e2 w h1 h2 hx hy hG
end Go.Proofs.YtoedieknjbojdaaDoor
