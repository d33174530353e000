/-
  The makers of ranges and capabilities out of numbers.
  Conditions: none beyond what each theorem says.
-/
import Derived.Test.YtnoegjfokceghaaCae
import Derived.Test.YtnoegjfokceghaaGrs
import Derived.Deep.CutBlock
import Derived.Lib.SmallJoins
import Derived.Deep.DeepCutAuto
namespace Go.Proofs.Ytnoegjfokceghaa

open Go.RowKit

def zR : GR := ⟨0, 0⟩
/-- A block of the call's own that holds a range. -/
def RB (W : World) (N : Nat) (r : GR) : Prop := W.heap[N]? = some (.cells #[.int .i64 r.base, .int .i64 r.bits] 90 (0, 0))
theorem RB.lt {W : World} {N : Nat} {r : GR} (h : RB W N r) : N < W.heap.size := by
  rcases Nat.lt_or_ge N W.heap.size with h1 | h1
  · exact h1
  · unfold RB at h; rw [Array.getElem?_eq_none h1] at h; cases h
theorem RB.next {W W' : World} {N : Nat} {r : GR} (h : RB W N r) (hb : Below W.heap.size W W') : RB W' N r := (hb.block N h.lt).trans h
theorem RB.facts {W : World} {N : Nat} {r : GR} (h : RB W N r) : W.cell? ⟨N, 0, none⟩ = some (.int .i64 r.base) ∧ W.cell? ⟨N, 1, none⟩ = some (.int .i64 r.bits) ∧ W.frozen? ⟨N, 0, none⟩ = false ∧ W.frozen? ⟨N, 1, none⟩ = false := by
  unfold RB at h
  exact ⟨by rw [Lib.cell_of_heap h]; rfl, by rw [Lib.cell_of_heap h]; rfl, Lib.frozen_of_heap h 0, Lib.frozen_of_heap h 1⟩
theorem RB.new (w : World) (r : GR) : RB (w.alloc (.cells #[.int .i64 r.base, .int .i64 r.bits] 90)) w.heap.size r := heap_alloc_new w _
theorem mPlace_any (v n : Int) (hn : 1 ≤ n) (hn2 : n ≤ 4611686018427387904) (w : World) :
    Calls Try.prog 36 #[.int .i64 v, .int .i64 n] w fun e w' => ∃ p : Int, 0 ≤ p ∧ p < n ∧ e = .returned (.int .i64 p) ∧ w = w' := by
  have hb1 : v.tmod n < n := Int.tmod_lt_of_pos v (by omega)
  have hb2 : -n < v.tmod n := Int.lt_tmod_of_pos v (by omega)
  have hnz : ¬ n = 0 := by omega
  go_enter Try.func36, Try.ntmps36
  go_wp2
  all_goals go_ret
  · exact ⟨_, by omega, by omega, rfl, rfl⟩
  · exact ⟨_, by omega, by omega, rfl, rfl⟩
theorem pw_top {n : Int} (h0 : 0 ≤ n) (h1 : n ≤ 40) : pw n ≤ 1099511627776 := by
  have h2 := pw_le h1 h0
  have h3 : pw 40 = 1099511627776 := by decide
  omega
theorem mk_VR {k t p : Int} (h6 : 6 ≤ k) (hkt : k ≤ t) (ht : t ≤ 40) (h0 : 0 ≤ p) (hp : p < pw (t - k)) : VR ⟨p * pw k, k⟩ ∧ p * pw k + pw k ≤ pw t := by
  have hs := pw_pos k
  have e : pw t = pw (t - k) * pw k := by
    unfold pw
    rw [← Int.pow_add, show (t - k).toNat + k.toNat = t.toNat by omega]
  have h1 := Int.mul_le_mul_of_nonneg_right (show p + 1 ≤ pw (t - k) by omega) (Int.le_of_lt hs)
  rw [Int.add_mul, Int.one_mul, ← e] at h1
  have h2 : pw t ≤ pw 40 := pw_le ht (by omega)
  have h3 : pw 40 = 1099511627776 := by decide
  have h4 := Int.mul_nonneg h0 (Int.le_of_lt hs)
  exact ⟨⟨h6, by simp only; omega, h4, Int.mul_emod_left _ _, by show p * pw k + pw k ≤ _; omega⟩, h1⟩
theorem shl_p {k p : Int} (h0 : 0 ≤ p * pw k) (h1 : p * pw k ≤ 1099511627776) : wrap64 (p * 2 ^ k.toNat) = p * pw k := IntWalk.wrap64_in _ (by unfold pw at *; omega)
/-- What the maker has made of a capability before its place: all but the base. -/
structure MadeC (c : GC) : Prop where
  b0 : c.base = 0
  n1 : c.bits ≤ 20
  sz : sizB c.kind c.bits = true
  r0 : 0 ≤ c.rights
  r1 : c.rights ≤ 7
  tb : tabB c = true
  dv : devB c = true
theorem siz_bound' {k n : Int} (h : sizB k n = true) : 6 ≤ n ∧ n ≤ 40 := by
  unfold sizB at h
  split at h
  · simp at h; omega
  · split at h
    · simp at h; omega
    · simp at h
      have := h.2
      unfold fixN at this
      split at this
      · omega
      · split at this
        · omega
        · split at this
          · omega
          · split at this <;> omega
theorem CB.setBase {W : World} {N : Nat} {c : GC} (h : CB W N c) (x : Int) : CB (W.setCell ⟨N, 1, none⟩ (.int .i64 x)) N { c with base := x } := by
  unfold CB at *
  rw [Joins.block_setCell h]; rfl
theorem CB.other {W : World} {M N j : Nat} {v : Value} {c : GC} (h : CB W M c) (hne : M ≠ N) : CB (W.setCell ⟨N, j, none⟩ v) M c := (Below.heap_setCell W ⟨N, j, none⟩ v M hne).trans h
set_option maxRecDepth 20000 in
set_option maxHeartbeats 4000000 in
theorem mCap_any (kd a b r v : Int) (w : World) : Calls Try.prog 33 #[.int .i64 kd, .int .i64 a, .int .i64 b, .int .i64 r, .int .i64 v] w fun e w' => ∃ c : GC, vC c = true ∧ e = .returned c.val ∧ Below w.heap.size w w' := by
  have HP := Lib.hid fun v n hn hn2 W => mPlace_any v n hn hn2 W
  have HZ := Lib.hid (CB.new w zC)
  simp only [zC] at HZ
  go_enter Try.func33, Try.ntmps33
  go_wp2_with fail
  go_fit (HP.out kd 6 (by omega) (by omega) _)
  rintro e w1 ⟨p, hp0, hp1, rfl, rfl⟩
  go_wp2_with fail
  go_fit (HP.out r 8 (by omega) (by omega) _)
  rintro e w1 ⟨rr, hr0, hr1, rfl, rfl⟩
  go_upto_block 0 with fail
  go_cut [] (fun wx => ∃ c0 : GC, Hid (MadeC c0) ∧ wx = (w.alloc (.cells #[.int .i64 0, .int .i64 0, .int .i64 0, .int .i64 0, .int .i64 0, .int .i64 0, .bool false] 26)).alloc (.cells #[.int .i64 c0.kind, .int .i64 c0.base, .int .i64 c0.bits, .int .i64 c0.rights, .int .i64 c0.width, .int .i64 c0.level, .bool c0.device] 26))
  case rest =>
    obtain ⟨c0, HC, hwc⟩ := hcut
    have HZ2 : Hid (CB wc w.heap.size zC) := Lib.hid (by rw [hwc]; exact (CB.new w zC).next (belt (Below.refl _ _) _))
    have HX2 : Hid (CB wc (w.heap.size + 1) c0) := Lib.hid (by
      rw [hwc]
      have h := CB.new (w.alloc (.cells #[.int .i64 0, .int .i64 0, .int .i64 0, .int .i64 0, .int .i64 0, .int .i64 0, .bool false] 26)) c0
      simpa using h)
    have HB2 : Hid (Below w.heap.size w wc) := Lib.hid (by rw [hwc]; exact belt (belt (Below.refl _ w) _) _)
    clear hwc HZ
    generalize wc = w2 at *
    obtain ⟨hb0, hn1, hsz, hr0, hr1, htb, hdv⟩ := HC.out
    have hsb := siz_bound' hsz
    obtain ⟨ck, cb, cn, cr, cw, cl, cd⟩ := c0
    obtain ⟨x0, x1, x2, x3, x4, x5, x6⟩ := HX2.out.cells
    have hxl := HX2.out.lt
    simp only at hb0 hn1 hsb x0 x1 x2 x3 x4 x5 x6
    subst hb0
    have hn0 := hsb.1
    have hmin : min cn 20 = cn := Int.min_eq_left hn1
    have HCU : Hid (IntKind.u64.wrap (20 - cn) = 20 - cn) := Lib.hid (by rw [IntKind.wrap_u64]; omega)
    have HCN : Hid (IntKind.u64.wrap cn = cn) := Lib.hid (by rw [IntKind.wrap_u64]; omega)
    have HSH : Hid (IntKind.i64.wrap (2 ^ min (IntKind.u64.wrap (IntKind.i64.wrap (20 - if 20 < cn then 20 else cn))).toNat 64) = pw (20 - cn)) := Lib.hid (by
      rw [if_neg (by omega), IntWalk.i64_in (20 - cn) (by omega), IntKind.wrap_u64, Int.emod_eq_of_lt (by omega) (by omega), Nat.min_eq_left (by omega)]
      exact shl_one (by omega) (by omega))
    have hpl := pw_top (n := 20 - cn) (by omega) (by omega)
    have hpp := pw_pos (20 - cn)
    have HPA := Lib.hid fun W => HP.out a (pw (20 - cn)) (by omega) (by omega) W
    have HM := Lib.hid fun (x : Int) (h0 : 0 ≤ x) (h1 : x < pw (20 - cn)) => mk_VR (k := cn) (t := 20) (p := x) (by omega) (by omega) (by omega) h0 h1
    generalize hz : pw (20 - cn) = z at *
    clear hz HP
    go_upto_region 21 with fail
    have hS : Below w.heap.size w w2.drew ∧ w2.drew.cell? ⟨w.heap.size + 1, 2, none⟩ = some (.int .i64 cn) := ⟨HB2.out.drew, x2⟩
    refine wp_region_growS (S := fun W => Below w.heap.size w W ∧ W.cell? ⟨w.heap.size + 1, 2, none⟩ = some (.int .i64 cn)) [(0, true), (1, true), (2, true), (8, true), (9, true), (10, true), (3, false), (4, true), (5, true), (6, true), (7, false), (11, true), (12, true), (13, false)] (by kernel_rfl) (by kernel_rfl) (by kernel_rfl) (by kernel_rfl) (by intro c a d v w h; cases d <;> exact h) hS ?_
    iterate 6
      (first
        | (refine wpGrowS_float (v := ?_) (by simp only [List.getElem?_toArray, List.getElem?_cons_succ, List.getElem?_cons_zero]; rfl) (by rfl) ?_ ?_
           rotate_left
           · (intro W hW; have t2 := hW.2; have hcn := HCN.out; (try simp only at *); go_simp; try with_reducible rfl)
           simp only [Act.put, List.setIfInBounds_toArray, List.set_cons_zero, List.set_cons_succ])
        | (refine wpGrowS_skip (by simp only [List.getElem?_toArray, List.getElem?_cons_succ, List.getElem?_cons_zero]; rfl) (by rfl) ?_
           simp only [Act.put, List.setIfInBounds_toArray, List.set_cons_zero, List.set_cons_succ]))
    refine wpGrowS_call (by simp only [List.getElem?_toArray, List.getElem?_cons_succ, List.getElem?_cons_zero]; rfl) (by rfl) fun K hK => ?_
    go_simp
    refine hK _ _ hS ?_
    clear hK K
    try simp only [Act.put, List.setIfInBounds_toArray, List.set_cons_zero, List.set_cons_succ]
    iterate 3
      (first
        | (refine wpGrowS_float (v := ?_) (by simp only [List.getElem?_toArray, List.getElem?_cons_succ, List.getElem?_cons_zero]; rfl) (by rfl) ?_ ?_
           rotate_left
           · (intro W hW; skip; go_simp; try with_reducible rfl)
           simp only [Act.put, List.setIfInBounds_toArray, List.set_cons_zero, List.set_cons_succ])
        | (refine wpGrowS_skip (by simp only [List.getElem?_toArray, List.getElem?_cons_succ, List.getElem?_cons_zero]; rfl) (by rfl) ?_
           simp only [Act.put, List.setIfInBounds_toArray, List.set_cons_zero, List.set_cons_succ]))
    refine wpGrowS_call (by simp only [List.getElem?_toArray, List.getElem?_cons_succ, List.getElem?_cons_zero]; rfl) (by rfl) fun K hK => ?_
    go_simp
    rw [HSH.out]
    go_fit (HPA.out _)
    rintro e wn ⟨x, hx0, hx1, rfl, hww⟩
    subst hww
    have HS2 : Hid (IntKind.i64.wrap (x * 2 ^ cn.toNat) = x * pw cn) := Lib.hid (by
      obtain ⟨hv, hle⟩ := HM.out x hx0 hx1
      have h20 : pw 20 = 1048576 := by decide
      have := pw_pos cn
      have := Int.mul_nonneg hx0 (Int.le_of_lt (pw_pos cn))
      exact IntWalk.i64_in _ (by unfold pw at *; omega))
    go_simp
    refine hK _ _ hS ?_
    clear hK K
    try simp only [Act.put, List.setIfInBounds_toArray, List.set_cons_zero, List.set_cons_succ]
    iterate 2
      (first
        | (refine wpGrowS_float (v := ?_) (by simp only [List.getElem?_toArray, List.getElem?_cons_succ, List.getElem?_cons_zero]; rfl) (by rfl) ?_ ?_
           rotate_left
           · (intro W hW; skip; go_simp; try with_reducible rfl)
           simp only [Act.put, List.setIfInBounds_toArray, List.set_cons_zero, List.set_cons_succ])
        | (refine wpGrowS_skip (by simp only [List.getElem?_toArray, List.getElem?_cons_succ, List.getElem?_cons_zero]; rfl) (by rfl) ?_
           simp only [Act.put, List.setIfInBounds_toArray, List.set_cons_zero, List.set_cons_succ]))
    refine wpGrowS_call (by simp only [List.getElem?_toArray, List.getElem?_cons_succ, List.getElem?_cons_zero]; rfl) (by rfl) fun K hK => ?_
    have fz : w2.frozen? ⟨w.heap.size + 1, 1, none⟩ = false := HX2.out.frz 1
    have hs2 := HS2.out
    obtain ⟨hv, hle⟩ := HM.out x hx0 hx1
    generalize x * pw cn = xx at *
    go_simp
    try rw [hs2]
    have HX3 := Lib.hid ((HX2.out.setBase xx).next (Below.refl _ _).drew)
    have HZ3 := Lib.hid ((HZ2.out.other (N := w.heap.size + 1) (j := 1) (v := .int .i64 xx) (by omega)).next (Below.refl _ _).drew)
    have HB3 := Lib.hid (HB2.out.setCell (p := ⟨w.heap.size + 1, 1, none⟩) (by simp) (.int .i64 xx)).drew
    refine hK _ _ ⟨HB3.out, HX3.out.cells.c2⟩ ?_
    clear hK K
    try simp only [Act.put, List.setIfInBounds_toArray, List.set_cons_zero, List.set_cons_succ]
    refine wpGrowS_nil ?_
    generalize (w2.setCell ⟨w.heap.size + 1, 1, none⟩ (.int .i64 xx)).drew = w3 at *
    have HVC : Hid (vC ⟨ck, xx, cn, cr, cw, cl, cd⟩ = true) := Lib.hid (by
      unfold vC
      simp only [Bool.and_eq_true, decide_eq_true_eq]
      exact ⟨⟨⟨⟨⟨hsz, vR_iff.2 hv⟩, hr0⟩, hr1⟩, htb⟩, hdv⟩)
    clear hS HX2 HZ2 HB2 HM HS2 HPA HC hv hle hs2 hsz htb hdv x0 x1 x2 x3 x4 x5 x6 hpl hpp hmin HCU HCN HSH fz
    obtain ⟨x0, x1, x2, x3, x4, x5, x6⟩ := HX3.out.cells
    obtain ⟨z0, z1, z2, z3, z4, z5, z6⟩ := HZ3.out.cells
    have zf := HZ3.out.frz
    have hzl := HZ3.out.lt
    have hxl := HX3.out.lt
    simp only [zC] at x0 x1 x2 x3 x4 x5 x6 z0 z1 z2 z3 z4 z5 z6
    have HS : ∀ (W : World) (p : Value), Below w.heap.size w W → ∀ j, Below w.heap.size w (W.setCell ⟨w.heap.size, j, none⟩ p) := fun W p hb j => hb.setCell (p := ⟨w.heap.size, j, none⟩) (Nat.le_refl _) p
    have HSC := Lib.hid HS
    clear HS
    go_wp2
    refine bodyPost_ret (v := .agg #[.int .i64 ck, .int .i64 xx, .int .i64 cn, .int .i64 cr, .int .i64 cw, .int .i64 cl, .bool cd]) (by simp [results, Try.results33, go_sem, z0, z1, z2, z3, z4, z5, z6]) rfl ?_
    exact ⟨⟨ck, xx, cn, cr, cw, cl, cd⟩, HVC.out, rfl, HSC.out _ _ (HSC.out _ _ (HSC.out _ _ (HSC.out _ _ (HSC.out _ _ (HSC.out _ _ (HSC.out _ _ HB3.out _) _) _) _) _) _) _⟩
  case first =>
    rcases (show p = 0 ∨ p = 1 ∨ p = 2 ∨ p = 3 ∨ p = 4 ∨ p = 5 by omega) with rfl | rfl | rfl | rfl | rfl | rfl
    · go_wp2_with fail
      go_fit (HP.out b 15 (by omega) (by omega) _)
      rintro e w1 ⟨n, hn0, hn1, rfl, rfl⟩
      go_wp2_with fail
      go_fit (HP.out v 4 (by omega) (by omega) _)
      rintro e w1 ⟨d, hd0, hd1, rfl, rfl⟩
      go_wp2_with fail
      go_meet
      exact ⟨⟨1, 0, 6 + n, rr, 0, 0, d == 3⟩, Lib.hid ⟨rfl, by simp only; omega, by simp [sizB]; omega, hr0, by simp only; omega, rfl, by simp [devB]⟩, rfl⟩
    · go_wp2_with fail
      go_fit (HP.out b 9 (by omega) (by omega) _)
      rintro e w1 ⟨n, n0, n1, rfl, rfl⟩
      go_wp2_with fail
      go_fit (HP.out v 4 (by omega) (by omega) _)
      rintro e w1 ⟨d, d0, d1, rfl, rfl⟩
      go_wp2_with fail
      go_meet
      exact ⟨⟨2, 0, 12 + n, rr, 0, 0, d == 3⟩, Lib.hid ⟨rfl, by simp only; omega, by simp [sizB]; omega, hr0, by simp only; omega, rfl, by simp [devB]⟩, rfl⟩
    · go_wp2_with fail
      go_fit (HP.out v 2 (by omega) (by omega) _)
      rintro e w1 ⟨l, l0, l1, rfl, rfl⟩
      go_wp2_with fail
      go_fit (HP.out b 2 (by omega) (by omega) _)
      rintro e w1 ⟨n, n0, n1, rfl, rfl⟩
      by_cases hn : n = 1
      · subst hn
        go_wp2_with fail
        go_fit (HP.out v 3 (by omega) (by omega) _)
        rintro e w1 ⟨m, m0, m1, rfl, rfl⟩
        go_wp2_with fail
        go_meet
        exact ⟨⟨3, 0, 12, rr, 39, m, false⟩, Lib.hid ⟨rfl, by simp only; omega, by simp [sizB, fixN], hr0, by simp only; omega, by simp [tabB, levB]; omega, rfl⟩, rfl⟩
      · have fn : (n == 1) = false := beq_eq_false_iff_ne.2 hn
        go_wp2_with fail
        go_meet
        exact ⟨⟨3, 0, 12, rr, 32, l, false⟩, Lib.hid ⟨rfl, by simp only; omega, by simp [sizB, fixN], hr0, by simp only; omega, by simp [tabB, levB]; omega, rfl⟩, rfl⟩
    · go_wp2_with fail
      go_meet
      exact ⟨⟨4, 0, 6, rr, 0, 0, false⟩, Lib.hid ⟨rfl, by simp only; omega, by simp [sizB, fixN], hr0, by simp only; omega, rfl, rfl⟩, rfl⟩
    · go_wp2_with fail
      go_meet
      exact ⟨⟨5, 0, 10, rr, 0, 0, false⟩, Lib.hid ⟨rfl, by simp only; omega, by simp [sizB, fixN], hr0, by simp only; omega, rfl, rfl⟩, rfl⟩
    · go_wp2_with fail
      go_meet
      exact ⟨⟨6, 0, 16, rr, 0, 0, false⟩, Lib.hid ⟨rfl, by simp only; omega, by simp [sizB, fixN], hr0, by simp only; omega, rfl, rfl⟩, rfl⟩
end Go.Proofs.Ytnoegjfokceghaa
