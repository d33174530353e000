/-
  The makers of ranges and capabilities out of numbers.
  Conditions: none beyond what each theorem says.
  The program's decoder of numbers and Ids in plain words: what is read is the encoding, and an encoding is read.
  Conditions: none beyond what each theorem says.
-/
import Derived.Test.YtnoegjfokceghaaMc16
import Derived.Test.YtnoegjfokceghaaMc10
import Derived.Deep.CutBlock
import Derived.Lib.SmallJoins
import Derived.Deep.DeepCutAuto
import Derived.Test.YtnoegjfokceghaaMc6
namespace Go.Proofs.Ytnoegjfokceghaa

open Go.RowKit

def zR : GR := ⟨0, 0⟩
/-- A block of the call's own that holds a range. -/
def RB (W : World) (N : Nat) (r : GR) : Prop := W.heap[N]? = some (.cells #[.int .i64 r.base, .int .i64 r.bits] 90 (0, 0))
theorem RB.lt {W : World} {N : Nat} {r : GR} (h : RB W N r) : N < W.heap.size := by
  rcases Nat.lt_or_ge N W.heap.size with h1 | h1
  · exact h1
  · unfold RB at h; rw [Array.getElem?_eq_none h1] at h; cases h
theorem RB.next {W W' : World} {N : Nat} {r : GR} (h : RB W N r) (hb : Below W.heap.size W W') : RB W' N r := (hb.block N h.lt).trans h
theorem RB.facts {W : World} {N : Nat} {r : GR} (h : RB W N r) : W.cell? ⟨N, 0, none⟩ = some (.int .i64 r.base) ∧ W.cell? ⟨N, 1, none⟩ = some (.int .i64 r.bits) ∧ W.frozen? ⟨N, 0, none⟩ = false ∧ W.frozen? ⟨N, 1, none⟩ = false := by
  unfold RB at h
  exact ⟨by rw [Lib.cell_of_heap h]; rfl, by rw [Lib.cell_of_heap h]; rfl, Lib.frozen_of_heap h 0, Lib.frozen_of_heap h 1⟩
theorem RB.new (w : World) (r : GR) : RB (w.alloc (.cells #[.int .i64 r.base, .int .i64 r.bits] 90)) w.heap.size r := heap_alloc_new w _
theorem mPlace_any (v n : Int) (hn : 1 ≤ n) (hn2 : n ≤ 4611686018427387904) (w : World) :
    Calls Try.prog 36 #[.int .i64 v, .int .i64 n] w fun e w' => ∃ p : Int, 0 ≤ p ∧ p < n ∧ e = .returned (.int .i64 p) ∧ w = w' := by
  have hb1 : v.tmod n < n := Int.tmod_lt_of_pos v (by omega)
  have hb2 : -n < v.tmod n := Int.lt_tmod_of_pos v (by omega)
  have hnz : ¬ n = 0 := by omega
  go_enter Try.func36, Try.ntmps36
  go_wp2
  all_goals go_ret
  · exact ⟨_, by omega, by omega, rfl, rfl⟩
  · exact ⟨_, by omega, by omega, rfl, rfl⟩
theorem pw_top {n : Int} (h0 : 0 ≤ n) (h1 : n ≤ 40) : pw n ≤ 1099511627776 := by
  have h2 := pw_le h1 h0
  have h3 : pw 40 = 1099511627776 := by decide
  omega
theorem mk_VR {k t p : Int} (h6 : 6 ≤ k) (hkt : k ≤ t) (ht : t ≤ 40) (h0 : 0 ≤ p) (hp : p < pw (t - k)) : VR ⟨p * pw k, k⟩ ∧ p * pw k + pw k ≤ pw t := by
  have hs := pw_pos k
  have e : pw t = pw (t - k) * pw k := by
    unfold pw
    rw [← Int.pow_add, show (t - k).toNat + k.toNat = t.toNat by omega]
  have h1 := Int.mul_le_mul_of_nonneg_right (show p + 1 ≤ pw (t - k) by omega) (Int.le_of_lt hs)
  rw [Int.add_mul, Int.one_mul, ← e] at h1
  have h2 : pw t ≤ pw 40 := pw_le ht (by omega)
  have h3 : pw 40 = 1099511627776 := by decide
  have h4 := Int.mul_nonneg h0 (Int.le_of_lt hs)
  exact ⟨⟨h6, by simp only; omega, h4, Int.mul_emod_left _ _, by show p * pw k + pw k ≤ _; omega⟩, h1⟩
theorem shl_p {k p : Int} (h0 : 0 ≤ p * pw k) (h1 : p * pw k ≤ 1099511627776) : wrap64 (p * 2 ^ k.toNat) = p * pw k := IntWalk.wrap64_in _ (by unfold pw at *; omega)
/-- What the maker has made of a capability before its place: all but the base. -/
structure MadeC (c : GC) : Prop where
  b0 : c.base = 0
  n1 : c.bits ≤ 20
  sz : sizB c.kind c.bits = true
  r0 : 0 ≤ c.rights
  r1 : c.rights ≤ 7
  tb : tabB c = true
  dv : devB c = true
theorem siz_bound' {k n : Int} (h : sizB k n = true) : 6 ≤ n ∧ n ≤ 40 := by
  unfold sizB at h
  split at h
  · simp at h; omega
  · split at h
    · simp at h; omega
    · simp at h
      have := h.2
      unfold fixN at this
      split at this
      · omega
      · split at this
        · omega
        · split at this
          · omega
          · split at this <;> omega
theorem CB.setBase {W : World} {N : Nat} {c : GC} (h : CB W N c) (x : Int) : CB (W.setCell ⟨N, 1, none⟩ (.int .i64 x)) N { c with base := x } := by
  unfold CB at *
  rw [Joins.block_setCell h]; rfl
theorem CB.other {W : World} {M N j : Nat} {v : Value} {c : GC} (h : CB W M c) (hne : M ≠ N) : CB (W.setCell ⟨N, j, none⟩ v) M c := (Below.heap_setCell W ⟨N, j, none⟩ v M hne).trans h
set_option maxRecDepth 20000 in
set_option maxHeartbeats 4000000 in
theorem mCap_any (kd a b r v : Int) (w : World) : Calls Try.prog 33 #[.int .i64 kd, .int .i64 a, .int .i64 b, .int .i64 r, .int .i64 v] w fun e w' => ∃ c : GC, vC c = true ∧ e = .returned c.val ∧ Below w.heap.size w w' := by
  have HP := Lib.hid fun v n hn hn2 W => mPlace_any v n hn hn2 W
  have HZ := Lib.hid (CB.new w zC)
  simp only [zC] at HZ
  go_enter Try.func33, Try.ntmps33
  go_wp2_with fail
  go_fit (HP.out kd 6 (by omega) (by omega) _)
  rintro e w1 ⟨p, hp0, hp1, rfl, rfl⟩
  go_wp2_with fail
  go_fit (HP.out r 8 (by omega) (by omega) _)
  rintro e w1 ⟨rr, hr0, hr1, rfl, rfl⟩
  go_upto_block 0 with fail
  go_cut [] (fun wx => ∃ c0 : GC, Hid (MadeC c0) ∧ wx = (w.alloc (.cells #[.int .i64 0, .int .i64 0, .int .i64 0, .int .i64 0, .int .i64 0, .int .i64 0, .bool false] 26)).alloc (.cells #[.int .i64 c0.kind, .int .i64 c0.base, .int .i64 c0.bits, .int .i64 c0.rights, .int .i64 c0.width, .int .i64 c0.level, .bool c0.device] 26))
  case rest =>
    obtain ⟨c0, HC, hwc⟩ := hcut
    have HZ2 : Hid (CB wc w.heap.size zC) := Lib.hid (by rw [hwc]; exact (CB.new w zC).next (belt (Below.refl _ _) _))
    have HX2 : Hid (CB wc (w.heap.size + 1) c0) := Lib.hid (by
      rw [hwc]
      have h := CB.new (w.alloc (.cells #[.int .i64 0, .int .i64 0, .int .i64 0, .int .i64 0, .int .i64 0, .int .i64 0, .bool false] 26)) c0
      simpa using h)
    have HB2 : Hid (Below w.heap.size w wc) := Lib.hid (by rw [hwc]; exact belt (belt (Below.refl _ w) _) _)
    clear hwc HZ
    generalize wc = w2 at *
    obtain ⟨hb0, hn1, hsz, hr0, hr1, htb, hdv⟩ := HC.out
    have hsb := siz_bound' hsz
    obtain ⟨ck, cb, cn, cr, cw, cl, cd⟩ := c0
    obtain ⟨x0, x1, x2, x3, x4, x5, x6⟩ := HX2.out.cells
    have hxl := HX2.out.lt
    simp only at hb0 hn1 hsb x0 x1 x2 x3 x4 x5 x6
    subst hb0
    have hn0 := hsb.1
    have hmin : min cn 20 = cn := Int.min_eq_left hn1
    have HCU : Hid (IntKind.u64.wrap (20 - cn) = 20 - cn) := Lib.hid (by rw [IntKind.wrap_u64]; omega)
    have HCN : Hid (IntKind.u64.wrap cn = cn) := Lib.hid (by rw [IntKind.wrap_u64]; omega)
    have HSH : Hid (IntKind.i64.wrap (2 ^ min (IntKind.u64.wrap (IntKind.i64.wrap (20 - if 20 < cn then 20 else cn))).toNat 64) = pw (20 - cn)) := Lib.hid (by
      rw [if_neg (by omega), IntWalk.i64_in (20 - cn) (by omega), IntKind.wrap_u64, Int.emod_eq_of_lt (by omega) (by omega), Nat.min_eq_left (by omega)]
      exact shl_one (by omega) (by omega))
    have hpl := pw_top (n := 20 - cn) (by omega) (by omega)
    have hpp := pw_pos (20 - cn)
    have HPA := Lib.hid fun W => HP.out a (pw (20 - cn)) (by omega) (by omega) W
    have HM := Lib.hid fun (x : Int) (h0 : 0 ≤ x) (h1 : x < pw (20 - cn)) => mk_VR (k := cn) (t := 20) (p := x) (by omega) (by omega) (by omega) h0 h1
    generalize hz : pw (20 - cn) = z at *
    clear hz HP
    go_upto_region 21 with fail
    have hS : Below w.heap.size w w2.drew ∧ w2.drew.cell? ⟨w.heap.size + 1, 2, none⟩ = some (.int .i64 cn) := ⟨HB2.out.drew, x2⟩
    refine wp_region_growS (S := fun W => Below w.heap.size w W ∧ W.cell? ⟨w.heap.size + 1, 2, none⟩ = some (.int .i64 cn)) [(0, true), (1, true), (2, true), (8, true), (9, true), (10, true), (3, false), (4, true), (5, true), (6, true), (7, false), (11, true), (12, true), (13, false)] (by kernel_rfl) (by kernel_rfl) (by kernel_rfl) (by kernel_rfl) (by intro c a d v w h; cases d <;> exact h) hS ?_
    iterate 6
      (first
        | (refine wpGrowS_float (v := ?_) (by simp only [List.getElem?_toArray, List.getElem?_cons_succ, List.getElem?_cons_zero]; rfl) (by rfl) ?_ ?_
           rotate_left
           · (intro W hW; have t2 := hW.2; have hcn := HCN.out; (try simp only at *); go_simp; try with_reducible rfl)
           simp only [Act.put, List.setIfInBounds_toArray, List.set_cons_zero, List.set_cons_succ])
        | (refine wpGrowS_skip (by simp only [List.getElem?_toArray, List.getElem?_cons_succ, List.getElem?_cons_zero]; rfl) (by rfl) ?_
           simp only [Act.put, List.setIfInBounds_toArray, List.set_cons_zero, List.set_cons_succ]))
    refine wpGrowS_call (by simp only [List.getElem?_toArray, List.getElem?_cons_succ, List.getElem?_cons_zero]; rfl) (by rfl) fun K hK => ?_
    go_simp
    refine hK _ _ hS ?_
    clear hK K
    try simp only [Act.put, List.setIfInBounds_toArray, List.set_cons_zero, List.set_cons_succ]
    iterate 3
      (first
        | (refine wpGrowS_float (v := ?_) (by simp only [List.getElem?_toArray, List.getElem?_cons_succ, List.getElem?_cons_zero]; rfl) (by rfl) ?_ ?_
           rotate_left
           · (intro W hW; skip; go_simp; try with_reducible rfl)
           simp only [Act.put, List.setIfInBounds_toArray, List.set_cons_zero, List.set_cons_succ])
        | (refine wpGrowS_skip (by simp only [List.getElem?_toArray, List.getElem?_cons_succ, List.getElem?_cons_zero]; rfl) (by rfl) ?_
           simp only [Act.put, List.setIfInBounds_toArray, List.set_cons_zero, List.set_cons_succ]))
    refine wpGrowS_call (by simp only [List.getElem?_toArray, List.getElem?_cons_succ, List.getElem?_cons_zero]; rfl) (by rfl) fun K hK => ?_
    go_simp
    rw [HSH.out]
    go_fit (HPA.out _)
    rintro e wn ⟨x, hx0, hx1, rfl, hww⟩
    subst hww
    have HS2 : Hid (IntKind.i64.wrap (x * 2 ^ cn.toNat) = x * pw cn) := Lib.hid (by
      obtain ⟨hv, hle⟩ := HM.out x hx0 hx1
      have h20 : pw 20 = 1048576 := by decide
      have := pw_pos cn
      have := Int.mul_nonneg hx0 (Int.le_of_lt (pw_pos cn))
      exact IntWalk.i64_in _ (by unfold pw at *; omega))
    go_simp
    refine hK _ _ hS ?_
    clear hK K
    try simp only [Act.put, List.setIfInBounds_toArray, List.set_cons_zero, List.set_cons_succ]
    iterate 2
      (first
        | (refine wpGrowS_float (v := ?_) (by simp only [List.getElem?_toArray, List.getElem?_cons_succ, List.getElem?_cons_zero]; rfl) (by rfl) ?_ ?_
           rotate_left
           · (intro W hW; skip; go_simp; try with_reducible rfl)
           simp only [Act.put, List.setIfInBounds_toArray, List.set_cons_zero, List.set_cons_succ])
        | (refine wpGrowS_skip (by simp only [List.getElem?_toArray, List.getElem?_cons_succ, List.getElem?_cons_zero]; rfl) (by rfl) ?_
           simp only [Act.put, List.setIfInBounds_toArray, List.set_cons_zero, List.set_cons_succ]))
    refine wpGrowS_call (by simp only [List.getElem?_toArray, List.getElem?_cons_succ, List.getElem?_cons_zero]; rfl) (by rfl) fun K hK => ?_
    have fz : w2.frozen? ⟨w.heap.size + 1, 1, none⟩ = false := HX2.out.frz 1
    have hs2 := HS2.out
    obtain ⟨hv, hle⟩ := HM.out x hx0 hx1
    generalize x * pw cn = xx at *
    go_simp
    try rw [hs2]
    have HX3 := Lib.hid ((HX2.out.setBase xx).next (Below.refl _ _).drew)
    have HZ3 := Lib.hid ((HZ2.out.other (N := w.heap.size + 1) (j := 1) (v := .int .i64 xx) (by omega)).next (Below.refl _ _).drew)
    have HB3 := Lib.hid (HB2.out.setCell (p := ⟨w.heap.size + 1, 1, none⟩) (by simp) (.int .i64 xx)).drew
    refine hK _ _ ⟨HB3.out, HX3.out.cells.c2⟩ ?_
    clear hK K
    try simp only [Act.put, List.setIfInBounds_toArray, List.set_cons_zero, List.set_cons_succ]
    refine wpGrowS_nil ?_
    generalize (w2.setCell ⟨w.heap.size + 1, 1, none⟩ (.int .i64 xx)).drew = w3 at *
    have HVC : Hid (vC ⟨ck, xx, cn, cr, cw, cl, cd⟩ = true) := Lib.hid (by
      unfold vC
      simp only [Bool.and_eq_true, decide_eq_true_eq]
      exact ⟨⟨⟨⟨⟨hsz, vR_iff.2 hv⟩, hr0⟩, hr1⟩, htb⟩, hdv⟩)
    clear hS HX2 HZ2 HB2 HM HS2 HPA HC hv hle hs2 hsz htb hdv x0 x1 x2 x3 x4 x5 x6 hpl hpp hmin HCU HCN HSH fz
    obtain ⟨x0, x1, x2, x3, x4, x5, x6⟩ := HX3.out.cells
    obtain ⟨z0, z1, z2, z3, z4, z5, z6⟩ := HZ3.out.cells
    have zf := HZ3.out.frz
    have hzl := HZ3.out.lt
    have hxl := HX3.out.lt
    simp only [zC] at x0 x1 x2 x3 x4 x5 x6 z0 z1 z2 z3 z4 z5 z6
    have HS : ∀ (W : World) (p : Value), Below w.heap.size w W → ∀ j, Below w.heap.size w (W.setCell ⟨w.heap.size, j, none⟩ p) := fun W p hb j => hb.setCell (p := ⟨w.heap.size, j, none⟩) (Nat.le_refl _) p
    have HSC := Lib.hid HS
    clear HS
    go_wp2
    refine bodyPost_ret (v := .agg #[.int .i64 ck, .int .i64 xx, .int .i64 cn, .int .i64 cr, .int .i64 cw, .int .i64 cl, .bool cd]) (by simp [results, Try.results33, go_sem, z0, z1, z2, z3, z4, z5, z6]) rfl ?_
    exact ⟨⟨ck, xx, cn, cr, cw, cl, cd⟩, HVC.out, rfl, HSC.out _ _ (HSC.out _ _ (HSC.out _ _ (HSC.out _ _ (HSC.out _ _ (HSC.out _ _ (HSC.out _ _ HB3.out _) _) _) _) _) _) _⟩
  case first =>
    rcases (show p = 0 ∨ p = 1 ∨ p = 2 ∨ p = 3 ∨ p = 4 ∨ p = 5 by omega) with rfl | rfl | rfl | rfl | rfl | rfl
    · go_wp2_with fail
      go_fit (HP.out b 15 (by omega) (by omega) _)
      rintro e w1 ⟨n, hn0, hn1, rfl, rfl⟩
      go_wp2_with fail
      go_fit (HP.out v 4 (by omega) (by omega) _)
      rintro e w1 ⟨d, hd0, hd1, rfl, rfl⟩
      go_wp2_with fail
      go_meet
      exact ⟨⟨1, 0, 6 + n, rr, 0, 0, d == 3⟩, Lib.hid ⟨rfl, by simp only; omega, by simp [sizB]; omega, hr0, by simp only; omega, rfl, by simp [devB]⟩, rfl⟩
    · go_wp2_with fail
      go_fit (HP.out b 9 (by omega) (by omega) _)
      rintro e w1 ⟨n, n0, n1, rfl, rfl⟩
      go_wp2_with fail
      go_fit (HP.out v 4 (by omega) (by omega) _)
      rintro e w1 ⟨d, d0, d1, rfl, rfl⟩
      go_wp2_with fail
      go_meet
      exact ⟨⟨2, 0, 12 + n, rr, 0, 0, d == 3⟩, Lib.hid ⟨rfl, by simp only; omega, by simp [sizB]; omega, hr0, by simp only; omega, rfl, by simp [devB]⟩, rfl⟩
    · go_wp2_with fail
      go_fit (HP.out v 2 (by omega) (by omega) _)
      rintro e w1 ⟨l, l0, l1, rfl, rfl⟩
      go_wp2_with fail
      go_fit (HP.out b 2 (by omega) (by omega) _)
      rintro e w1 ⟨n, n0, n1, rfl, rfl⟩
      by_cases hn : n = 1
      · subst hn
        go_wp2_with fail
        go_fit (HP.out v 3 (by omega) (by omega) _)
        rintro e w1 ⟨m, m0, m1, rfl, rfl⟩
        go_wp2_with fail
        go_meet
        exact ⟨⟨3, 0, 12, rr, 39, m, false⟩, Lib.hid ⟨rfl, by simp only; omega, by simp [sizB, fixN], hr0, by simp only; omega, by simp [tabB, levB]; omega, rfl⟩, rfl⟩
      · have fn : (n == 1) = false := beq_eq_false_iff_ne.2 hn
        go_wp2_with fail
        go_meet
        exact ⟨⟨3, 0, 12, rr, 32, l, false⟩, Lib.hid ⟨rfl, by simp only; omega, by simp [sizB, fixN], hr0, by simp only; omega, by simp [tabB, levB]; omega, rfl⟩, rfl⟩
    · go_wp2_with fail
      go_meet
      exact ⟨⟨4, 0, 6, rr, 0, 0, false⟩, Lib.hid ⟨rfl, by simp only; omega, by simp [sizB, fixN], hr0, by simp only; omega, rfl, rfl⟩, rfl⟩
    · go_wp2_with fail
      go_meet
      exact ⟨⟨5, 0, 10, rr, 0, 0, false⟩, Lib.hid ⟨rfl, by simp only; omega, by simp [sizB, fixN], hr0, by simp only; omega, rfl, rfl⟩, rfl⟩
    · go_wp2_with fail
      go_meet
      exact ⟨⟨6, 0, 16, rr, 0, 0, false⟩, Lib.hid ⟨rfl, by simp only; omega, by simp [sizB, fixN], hr0, by simp only; omega, rfl, rfl⟩, rfl⟩
end Go.Proofs.Ytnoegjfokceghaa


namespace Go.Proofs.Ytnoegjfokceghaa
open Go.RowKit

theorem enc_len (c : GC) : (encC c).length = 10 := rfl
theorem bI_u8 (n : Int) : (((u8 n).toNat : Nat) : Int) = n % 256 := u8_val n
theorem raw_enc {c : GC} (h : vC c = true) : rawC (encC c) = c ∧ bI (encC c) 2 < 16 := by
  obtain ⟨hv, n0, n1, k0, k1, r0, r1, d0, d1, l0, l1⟩ := vC_facts h
  have hb0 := hv.b0
  have htp := hv.top
  have hsp := sz_pos c.rng
  obtain ⟨k, b, n, r, wd, l, d⟩ := c
  simp only [GC.rng] at hb0 htp hsp
  have e0 : bI (encC ⟨k, b, n, r, wd, l, d⟩) 0 = k % 256 := u8_val k
  have e1 : bI (encC ⟨k, b, n, r, wd, l, d⟩) 1 = n % 256 := u8_val n
  have e2 : bI (encC ⟨k, b, n, r, wd, l, d⟩) 2 = (if d = true then r + 8 else r) % 256 := u8_val _
  have e3 : bI (encC ⟨k, b, n, r, wd, l, d⟩) 3 = wd % 256 := u8_val wd
  have e4 : bI (encC ⟨k, b, n, r, wd, l, d⟩) 4 = l % 256 := u8_val l
  have e5 : bI (encC ⟨k, b, n, r, wd, l, d⟩) 5 = b % 256 := u8_val b
  have e6 : bI (encC ⟨k, b, n, r, wd, l, d⟩) 6 = b / 256 % 256 := u8_val _
  have e7 : bI (encC ⟨k, b, n, r, wd, l, d⟩) 7 = b / 65536 % 256 := u8_val _
  have e8 : bI (encC ⟨k, b, n, r, wd, l, d⟩) 8 = b / 16777216 % 256 := u8_val _
  have e9 : bI (encC ⟨k, b, n, r, wd, l, d⟩) 9 = b / 4294967296 % 256 := u8_val _
  have ep : pB (encC ⟨k, b, n, r, wd, l, d⟩) 5 = b := by
    show bI _ 5 + bI _ 6 * 256 + bI _ 7 * 65536 + bI _ 8 * 16777216 + bI _ 9 * 4294967296 = b
    rw [e5, e6, e7, e8, e9]
    omega
  unfold rawC
  rw [ep, e0, e1, e2, e3, e4]
  simp only at *
  cases d
  · simp only [Bool.false_eq_true, if_false]
    refine ⟨?_, by omega⟩
    rw [Int.emod_eq_of_lt (by omega) (by omega), Int.emod_eq_of_lt (show 0 ≤ n by omega) (by omega), Int.emod_eq_of_lt (show 0 ≤ r by omega) (by omega), Int.emod_eq_of_lt (show 0 ≤ wd by omega) (by omega), Int.emod_eq_of_lt (show 0 ≤ l by omega) (by omega), Int.emod_eq_of_lt (show 0 ≤ r by omega) (by omega), show decide (8 ≤ r) = false from decide_eq_false (by omega)]
  · simp only [if_true]
    refine ⟨?_, by omega⟩
    rw [Int.emod_eq_of_lt (by omega) (by omega), Int.emod_eq_of_lt (show 0 ≤ n by omega) (by omega), Int.emod_eq_of_lt (show 0 ≤ r + 8 by omega) (by omega), Int.emod_eq_of_lt (show 0 ≤ wd by omega) (by omega), Int.emod_eq_of_lt (show 0 ≤ l by omega) (by omega), show (r + 8) % 8 = r by omega, show decide (8 ≤ r + 8) = true from decide_eq_true (by omega)]
theorem dec_enc {c : GC} (h : vC c = true) : decC (encC c) = c ∧ decE (encC c) = 0 := by
  obtain ⟨e, h2⟩ := raw_enc h
  have hp : decP (encC c) := ⟨rfl, h2, by rw [e]; exact h⟩
  unfold decC decE
  rw [if_pos hp, if_pos hp]
  exact ⟨e, rfl⟩
theorem enc_dec {l : List UInt8} (h : decP l) : encC (rawC l) = l := by
  obtain ⟨h10, h2, _⟩ := h
  match l, h10 with
  | [a0, a1, a2, a3, a4, a5, a6, a7, a8, a9], _ =>
    have b : ∀ a : UInt8, 0 ≤ (a.toNat : Int) ∧ (a.toNat : Int) < 256 := fun a => by have := a.toNat_lt; omega
    have e0 : bI [a0, a1, a2, a3, a4, a5, a6, a7, a8, a9] 0 = a0.toNat := rfl
    have e1 : bI [a0, a1, a2, a3, a4, a5, a6, a7, a8, a9] 1 = a1.toNat := rfl
    have e2 : bI [a0, a1, a2, a3, a4, a5, a6, a7, a8, a9] 2 = a2.toNat := rfl
    have e3 : bI [a0, a1, a2, a3, a4, a5, a6, a7, a8, a9] 3 = a3.toNat := rfl
    have e4 : bI [a0, a1, a2, a3, a4, a5, a6, a7, a8, a9] 4 = a4.toNat := rfl
    have ep : pB [a0, a1, a2, a3, a4, a5, a6, a7, a8, a9] 5 = (a5.toNat : Int) + a6.toNat * 256 + a7.toNat * 65536 + a8.toNat * 16777216 + a9.toNat * 4294967296 := rfl
    rw [e2] at h2
    have p5 := b a5
    have p6 := b a6
    have p7 := b a7
    have p8 := b a8
    have p9 := b a9
    have p2 := b a2
    unfold encC headC baseC rawC
    simp only [e0, e1, e2, e3, e4, ep, u8_back]
    have key : ∀ (n : Int) (a : UInt8), n % 256 = (a.toNat : Int) → u8 n = a := fun n a hn => by
      apply UInt8.toNat_inj.1
      have := u8_val n
      omega
    generalize hS : (a5.toNat : Int) + a6.toNat * 256 + a7.toNat * 65536 + a8.toNat * 16777216 + a9.toNat * 4294967296 = S
    rw [key S a5 (by omega), key (S / 256) a6 (by omega), key (S / 65536) a7 (by omega), key (S / 16777216) a8 (by omega), key (S / 4294967296) a9 (by omega)]
    have hr : u8 (if decide (8 ≤ (a2.toNat : Int)) = true then (a2.toNat : Int) % 8 + 8 else (a2.toNat : Int) % 8) = a2 := by
      refine key _ a2 ?_
      split
      · rename_i h; have := of_decide_eq_true h; omega
      · rename_i h; have : ¬ 8 ≤ (a2.toNat : Int) := fun h' => h (decide_eq_true h'); omega
    rw [hr]
    rfl
theorem uvar_pos (v : Nat) : 0 < (uvar v).length := by
  unfold uvar
  rcases Nat.lt_or_ge v 128 with h | h
  · rw [uvarF_last 9 v h]; simp
  · rw [uvarF_more 9 v h]; simp
theorem uvD_next (l : List UInt8) (o : Nat) : ∀ (f k acc : Nat), (uvD l o f k acc).2.2 = 0 → o + k < (uvD l o f k acc).2.1 ∧ (uvD l o f k acc).2.1 ≤ l.length
  | 0, k, acc => by simp [uvD]
  | f + 1, k, acc => by
    by_cases h1 : l.length ≤ o + k
    · rw [uvD_end rfl rfl h1]; simp
    · by_cases h2 : k = 9 ∧ 1 < bt l (o + k)
      · rw [uvD_range rfl rfl (by omega) rfl h2.1 h2.2]; simp
      · by_cases h3 : 0 < k ∧ bt l (o + k) = 0
        · rw [uvD_canon rfl rfl (by omega) rfl h2 h3.1 h3.2]; simp
        · by_cases h4 : bt l (o + k) < 128
          · rw [uvD_last rfl rfl (by omega) rfl h2 h3 h4]
            intro _
            show o + k < o + k + 1 ∧ o + k + 1 ≤ _
            omega
          · rw [uvD_more rfl rfl (by omega) rfl h2 h3 h4]
            intro h
            have := uvD_next l o f (k + 1) _ h
            omega
theorem uvR_next (l : List UInt8) (off : Int) (h : (uvR l off).2.2 = 0) : 0 ≤ off ∧ off < (uvR l off).2.1 ∧ (uvR l off).2.1 ≤ l.length := by
  unfold uvR at h ⊢
  split at h
  · simp at h
  · rename_i hr
    rw [if_neg hr]
    have := uvD_next l off.toNat 10 0 0 h
    omega

theorem bt_mid (pre : List UInt8) (c : UInt8) (z : List UInt8) (j : Nat) (h : pre.length = j) : bt (pre ++ c :: z) j = c.toNat := by
  unfold bt; rw [List.getD_eq_getElem?_getD, List.getElem?_append_right (by omega), h, Nat.sub_self]; rfl
theorem ofNat_lt (x : Nat) (h : x < 256) : (UInt8.ofNat x).toNat = x := by rw [UInt8.toNat_ofNat']; omega

/-- What is encoded is decoded. -/
theorem uvD_uvar (rest : List UInt8) (o : Nat) : ∀ (f k acc x : Nat) (pre : List UInt8), f + k = 10 → pre.length = o + k → x * 128 ^ k < 18446744073709551616 → (k = 0 ∨ 0 < x) →
    uvD (pre ++ (uvarF f x ++ rest)) o f k acc = (acc + x * 128 ^ k, o + k + (uvarF f x).length, 0)
  | 0, k, acc, x, pre, hf, hp, hx, h0 => by
    obtain rfl : k = 10 := by omega
    have e : (128 : Nat) ^ 10 = 1180591620717411303424 := by decide
    rw [e] at hx
    omega
  | f + 1, k, acc, x, pre, hf, hp, hx, h0 => by
    have h9 : k = 9 → x < 2 := by
      rintro rfl
      have e : (128 : Nat) ^ 9 = 9223372036854775808 := by decide
      rw [e] at hx; omega
    by_cases hs : x < 128
    · rw [uvarF_last f x hs]
      have hb : bt (pre ++ ([UInt8.ofNat x] ++ rest)) (o + k) = x := by
        rw [show [UInt8.ofNat x] ++ rest = UInt8.ofNat x :: rest from rfl, bt_mid _ _ _ _ hp, ofNat_lt x (by omega)]
      rw [uvD_last rfl rfl (by simp; omega) hb.symm (by omega) (by omega) hs]
      rfl
    · rw [uvarF_more f x (by omega)]
      have hb : bt (pre ++ (UInt8.ofNat (x % 128 + 128) :: uvarF f (x / 128) ++ rest)) (o + k) = x % 128 + 128 := by
        rw [show UInt8.ofNat (x % 128 + 128) :: uvarF f (x / 128) ++ rest = UInt8.ofNat (x % 128 + 128) :: (uvarF f (x / 128) ++ rest) from rfl, bt_mid _ _ _ _ hp, ofNat_lt _ (by omega)]
      rw [uvD_more rfl rfl (by simp; omega) hb.symm (by omega) (by omega) (by omega)]
      have hn : x / 128 * 128 ^ (k + 1) ≤ x * 128 ^ k := more_next (Nat.le_refl _)
      have ih := uvD_uvar rest o f (k + 1) (acc + (x % 128 + 128 - 128) * 128 ^ k) (x / 128) (pre ++ [UInt8.ofNat (x % 128 + 128)]) (by omega) (by rw [List.length_append, hp]; simp; omega) (by omega) (.inr (by omega))
      rw [List.append_assoc] at ih
      refine Eq.trans ih ?_
      have e1 : acc + (x % 128 + 128 - 128) * 128 ^ k + x / 128 * 128 ^ (k + 1) = acc + x * 128 ^ k := by
        rw [Nat.pow_succ, Nat.mul_comm (128 ^ k) 128, ← Nat.mul_assoc, Nat.add_assoc, ← Nat.add_mul, show x % 128 + 128 - 128 + x / 128 * 128 = x by omega]
      rw [e1, List.length_cons, show o + (k + 1) + (uvarF f (x / 128)).length = o + k + ((uvarF f (x / 128)).length + 1) by omega]
theorem uvR_uvar (head : List UInt8) (x : Nat) (rest : List UInt8) (hx : x < 18446744073709551616) : uvR (head ++ (uvar x ++ rest)) (head.length : Int) = (x, head.length + (uvar x).length, 0) := by
  unfold uvR
  rw [if_neg (by simp; omega)]
  have := uvD_uvar rest head.length 10 0 0 x head rfl rfl (by omega) (.inl rfl)
  rw [Int.toNat_natCast]
  refine this.trans ?_
  simp [uvar]

theorem drop_bt (l : List UInt8) (j : Nat) (h : j < l.length) : l.drop j = UInt8.ofNat (bt l j) :: l.drop (j + 1) := by
  rw [List.drop_eq_getElem_cons h]
  unfold bt
  rw [List.getD_eq_getElem?_getD, List.getElem?_eq_getElem h]
  simp
/-- What is accepted is the encoding of the value. -/
theorem uvD_canonical (l : List UInt8) (o v nx : Nat) : ∀ (f k acc : Nat), f + k = 10 → uvD l o f k acc = (v, nx, 0) → ∃ x, v = acc + x * 128 ^ k ∧ (l.drop (o + k)).take (nx - (o + k)) = uvarF f x ∧ (0 < k → 0 < x)
  | 0, k, acc, _, h => by simp [uvD] at h
  | f + 1, k, acc, hf, h => by
    have hbt := bt_lt l (o + k)
    by_cases h1 : l.length ≤ o + k
    · rw [uvD_end rfl rfl h1] at h; simp at h
    · by_cases h2 : k = 9 ∧ 1 < bt l (o + k)
      · rw [uvD_range rfl rfl (by omega) rfl h2.1 h2.2] at h; simp at h
      · by_cases h3 : 0 < k ∧ bt l (o + k) = 0
        · rw [uvD_canon rfl rfl (by omega) rfl h2 h3.1 h3.2] at h; simp at h
        · by_cases h4 : bt l (o + k) < 128
          · rw [uvD_last rfl rfl (by omega) rfl h2 h3 h4] at h
            simp only [Prod.mk.injEq] at h
            refine ⟨bt l (o + k), h.1.symm, ?_, by omega⟩
            rw [uvarF_last f _ h4, ← h.2.1, show o + k + 1 - (o + k) = 1 by omega, drop_bt l (o + k) (by omega)]
            rfl
          · have hn := uvD_next l o (f + 1) k acc (by rw [h])
            rw [uvD_more rfl rfl (by omega) rfl h2 h3 h4] at h
            have hn2 := uvD_next l o f (k + 1) (acc + (bt l (o + k) - 128) * 128 ^ k) (by rw [h])
            rw [h] at hn2
            simp only at hn2
            obtain ⟨x, hx, he, h0⟩ := uvD_canonical l o v nx f (k + 1) _ (by omega) h
            have hx0 := h0 (by omega)
            refine ⟨bt l (o + k) - 128 + 128 * x, ?_, ?_, fun _ => by omega⟩
            · rw [hx, Nat.pow_succ, Nat.add_mul, Nat.add_assoc, Nat.mul_comm (128 ^ k) 128, ← Nat.mul_assoc, Nat.mul_comm x 128]
            · rw [uvarF_more f _ (by omega), drop_bt l (o + k) (by omega), show nx - (o + k) = (nx - (o + (k + 1))) + 1 by omega, List.take_succ_cons, show (bt l (o + k) - 128 + 128 * x) % 128 + 128 = bt l (o + k) by omega, show (bt l (o + k) - 128 + 128 * x) / 128 = x by omega]
              rw [show o + k + 1 = o + (k + 1) by omega, he]
theorem drop_take_comm (l : List UInt8) (o nx : Nat) : (l.take nx).drop o = (l.drop o).take (nx - o) := by rw [List.drop_take]
theorem uvR_canonical (l : List UInt8) (o v nx : Nat) (h : (v, nx, 0) = uvR l (o : Int)) : uvar v = (l.take nx).drop o := by
  have hn := uvR_next l (o : Int) (by rw [← h])
  rw [← h] at hn
  simp only at hn
  unfold uvR at h
  rw [if_neg (by omega), Int.toNat_natCast] at h
  obtain ⟨x, hx, he, _⟩ := uvD_canonical l o v nx 10 0 0 rfl h.symm
  simp only [Nat.pow_zero, Nat.mul_one, Nat.zero_add, Nat.add_zero] at hx he
  rw [drop_take_comm, hx]; exact he.symm
theorem uvD_lt (l : List UInt8) (o : Nat) : ∀ (f k acc : Nat), f + k = 10 → acc < 128 ^ k → (uvD l o f k acc).2.2 = 0 → (uvD l o f k acc).1 < 18446744073709551616
  | 0, k, acc, _, _, h => by simp [uvD] at h
  | f + 1, k, acc, hf, ha, h => by
    have hbt := bt_lt l (o + k)
    by_cases h1 : l.length ≤ o + k
    · rw [uvD_end rfl rfl h1] at h; simp at h
    · by_cases h2 : k = 9 ∧ 1 < bt l (o + k)
      · rw [uvD_range rfl rfl (by omega) rfl h2.1 h2.2] at h; simp at h
      · by_cases h3 : 0 < k ∧ bt l (o + k) = 0
        · rw [uvD_canon rfl rfl (by omega) rfl h2 h3.1 h3.2] at h; simp at h
        · by_cases h4 : bt l (o + k) < 128
          · rw [uvD_last rfl rfl (by omega) rfl h2 h3 h4]
            simp only
            rcases Nat.lt_or_ge k 9 with h9 | h9
            · have hp := pow7_le (show k ≤ 8 by omega)
              have hm : bt l (o + k) * 128 ^ k ≤ 127 * 128 ^ k := Nat.mul_le_mul_right _ (by omega)
              omega
            · obtain rfl : k = 9 := by omega
              have e9 : (128 : Nat) ^ 9 = 9223372036854775808 := by decide
              rw [e9] at ha ⊢
              have hx : bt l (o + 9) ≤ 1 := by
                rcases Nat.lt_or_ge 1 (bt l (o + 9)) with h | h
                · exact absurd ⟨rfl, h⟩ h2
                · exact h
              have : bt l (o + 9) * 9223372036854775808 ≤ 1 * 9223372036854775808 := Nat.mul_le_mul_right _ hx
              omega
          · rw [uvD_more rfl rfl (by omega) rfl h2 h3 h4] at h ⊢
            exact uvD_lt l o f (k + 1) _ (by omega) (pow_step acc _ k ha (by omega)) h
/-- The reader: the offset, and whether a number was missing. -/
def numP (l : List UInt8) (s : Nat × Bool) : Int × (Nat × Bool) := if s.2 = true then (0, s) else if (uvR l s.1).2.2 = 0 then (IntKind.i64.wrap ((uvR l s.1).1 : Nat), ((uvR l s.1).2.1, false)) else (0, (s.1, true))
theorem numP_ok {l : List UInt8} {s : Nat × Bool} (h : (numP l s).2.2 = false) : s.2 = false ∧ (numP l s).2.1 ≤ l.length ∧ ∃ v : Nat, (numP l s).1 = IntKind.i64.wrap v ∧ v < 18446744073709551616 ∧ l.drop s.1 = uvar v ++ l.drop (numP l s).2.1 := by
  unfold numP at h ⊢
  by_cases hb : s.2 = true
  · rw [if_pos hb] at h; rw [hb] at h; cases h
  · rw [if_neg hb] at h ⊢
    have hb2 : s.2 = false := by simpa using hb
    by_cases he : (uvR l s.1).2.2 = 0
    · rw [if_pos he] at h ⊢
      obtain ⟨_, n1, n2⟩ := uvR_next l (s.1 : Int) he
      refine ⟨hb2, n2, _, rfl, ?_, ?_⟩
      · have h2 := he
        unfold uvR at h2 ⊢
        split
        · simp
        · rename_i hr
          rw [if_neg hr] at h2
          exact uvD_lt l _ 10 0 0 rfl (by decide) h2
      · have hc := uvR_canonical l s.1 (uvR l s.1).1 (uvR l s.1).2.1 (by rw [← he])
        rw [hc]
        simp only
        generalize (uvR l (s.1 : Int)).2.1 = nx at *
        have e : l.drop s.1 = (l.take nx ++ l.drop nx).drop s.1 := by rw [List.take_append_drop]
        rw [e, List.drop_append_of_le_length (by rw [List.length_take]; omega)]
    · rw [if_neg he] at h; cases h
theorem numP_bad {l : List UInt8} {s : Nat × Bool} (h : s.2 = true) : (numP l s).2.2 = true := by unfold numP; rw [if_pos h]; exact h
theorem numP_at {l r : List UInt8} {o v : Nat} (hv : v < 9223372036854775808) (ho : o ≤ l.length) (h : l.drop o = uvar v ++ r) : numP l (o, false) = ((v : Int), (o + (uvar v).length, false)) ∧ l.drop (o + (uvar v).length) = r ∧ o + (uvar v).length ≤ l.length := by
  have e : l = l.take o ++ (uvar v ++ r) := by rw [← h, List.take_append_drop]
  have ht : (l.take o).length = o := by rw [List.length_take]; omega
  have hu := uvR_uvar (l.take o) v r (by omega)
  rw [← e, ht] at hu
  refine ⟨?_, ?_, ?_⟩
  · unfold numP
    rw [if_neg (by simp)]
    simp only [hu, if_true]
    have : IntKind.i64.wrap (v : Int) = v := by rw [IntKind.wrap_i64]; omega
    rw [this]
  · rw [← List.drop_drop, h, List.drop_left]
  · have := congrArg List.length h
    rw [List.length_drop, List.length_append] at this
    have h2 := uvar_pos v
    omega
/-- An Id. -/
def idP (l : List UInt8) (s : Nat × Bool) : GId × (Nat × Bool) := (⟨(numP l s).1, (numP l (numP l s).2).1, (numP l (numP l (numP l s).2).2).1⟩, (numP l (numP l (numP l s).2).2).2)
theorem wrap_small {v : Nat} (hv : v < 18446744073709551616) (h : 0 ≤ IntKind.i64.wrap (v : Int)) : (IntKind.i64.wrap (v : Int)).toNat = v := by
  rw [IntKind.wrap_i64] at h ⊢; omega
theorem idP_ok {l : List UInt8} {s : Nat × Bool} (h : (idP l s).2.2 = false) (hi : vI (idP l s).1 = true) : s.2 = false ∧ (idP l s).2.1 ≤ l.length ∧ l.drop s.1 = idL (idP l s).1 ++ l.drop (idP l s).2.1 := by
  unfold idP at h hi ⊢
  simp only at h ⊢
  obtain ⟨c0, _, o0, _, p0, _⟩ := vI_iff.1 hi
  simp only at c0 o0 p0
  obtain ⟨b3, l3, v3, e3, m3, d3⟩ := numP_ok h
  obtain ⟨b2, l2, v2, e2, m2, d2⟩ := numP_ok b3
  obtain ⟨b1, l1, v1, e1, m1, d1⟩ := numP_ok b2
  refine ⟨b1, l3, ?_⟩
  rw [d1, d2, d3]
  unfold idL
  simp only
  rw [e1] at c0 ⊢
  rw [e2] at o0 ⊢
  rw [e3] at p0 ⊢
  rw [wrap_small m1 c0, wrap_small m2 (by omega), wrap_small m3 p0]
  simp
theorem idP_at {l r : List UInt8} {o : Nat} {x : GId} (hx : vI x = true) (ho : o ≤ l.length) (h : l.drop o = idL x ++ r) : ∃ o', idP l (o, false) = (x, (o', false)) ∧ l.drop o' = r ∧ o' ≤ l.length := by
  obtain ⟨c0, c1, o0, o1, p0, p1⟩ := vI_iff.1 hx
  obtain ⟨xc, xo, xp⟩ := x
  simp only at c0 c1 o0 o1 p0 p1
  unfold idL at h
  simp only [List.append_assoc] at h
  obtain ⟨f1, g1, h1⟩ := numP_at (by omega) ho h
  obtain ⟨f2, g2, h2⟩ := numP_at (by omega) h1 g1
  obtain ⟨f3, g3, h3⟩ := numP_at (by omega) h2 g2
  refine ⟨_, ?_, g3, h3⟩
  unfold idP
  rw [f1]
  simp only
  rw [f2]
  simp only
  rw [f3]
  simp only [Prod.mk.injEq, GId.mk.injEq, and_true]
  omega
/-- So many Ids. -/
def idsP (l : List UInt8) : Nat → Nat × Bool → List GId × (Nat × Bool)
  | 0, s => ([], s)
  | k + 1, s => ((idsP l k s).1 ++ [(idP l (idsP l k s).2).1], (idP l (idsP l k s).2).2)
theorem idsP_len (l : List UInt8) (k : Nat) (s : Nat × Bool) : (idsP l k s).1.length = k := by
  induction k with
  | zero => rfl
  | succ k ih => rw [idsP, List.length_append, ih]; rfl
theorem idsP_ok {l : List UInt8} {s : Nat × Bool} : ∀ (k : Nat), (idsP l k s).2.2 = false → (∀ y ∈ (idsP l k s).1, vI y = true) → s.1 ≤ l.length → s.2 = false ∧ (idsP l k s).2.1 ≤ l.length ∧ l.drop s.1 = (idsP l k s).1.flatMap idL ++ l.drop (idsP l k s).2.1
  | 0, h, _, hs => ⟨h, hs, by simp [idsP]⟩
  | k + 1, h, hv, hs => by
    rw [idsP] at h hv ⊢
    simp only at h hv ⊢
    obtain ⟨a1, a2, a3⟩ := idP_ok h (hv _ (by simp))
    obtain ⟨b1, b2, b3⟩ := idsP_ok k a1 (fun y hy => hv y (by simp [hy])) hs
    refine ⟨b1, a2, ?_⟩
    rw [b3, a3, List.flatMap_append]
    simp
theorem idsP_at {l : List UInt8} {xs : List GId} (hx : ∀ y ∈ xs, vI y = true) {o : Nat} (ho : o ≤ l.length) {r : List UInt8} (h : l.drop o = xs.flatMap idL ++ r) : ∀ k, k ≤ xs.length → ∃ o', idsP l k (o, false) = (xs.take k, (o', false)) ∧ l.drop o' = (xs.drop k).flatMap idL ++ r ∧ o' ≤ l.length
  | 0, _ => ⟨o, rfl, by simpa using h, ho⟩
  | k + 1, hk => by
    obtain ⟨o1, e1, d1, l1⟩ := idsP_at hx ho h k (by omega)
    rw [List.drop_eq_getElem_cons (show k < xs.length by omega), List.flatMap_cons, List.append_assoc] at d1
    obtain ⟨o2, e2, d2, l2⟩ := idP_at (hx _ (List.getElem_mem _)) l1 d1
    refine ⟨o2, ?_, d2, l2⟩
    rw [idsP, e1]
    simp only
    rw [e2]
    simp only
    rw [List.take_succ_eq_append_getElem (show k < xs.length by omega)]
theorem dec_yes {l : List UInt8} (h : decP l) : decE l = 0 ∧ vC (decC l) = true ∧ encC (decC l) = l := by
  have e : decC l = rawC l := by unfold decC; rw [if_pos h]
  refine ⟨by unfold decE; rw [if_pos h], by rw [e]; exact h.2.2, by rw [e]; exact enc_dec h⟩
theorem dec_no {l : List UInt8} (h : ¬ decP l) : decE l = 14 ∧ decC l = zC := by
  unfold decC decE
  rw [if_neg h, if_neg h]
  exact ⟨rfl, rfl⟩
/-- What Decode makes of bytes. -/
def dec1 (l : List UInt8) : GId × (Nat × Bool) := idP l (0, false)
def dec2 (l : List UInt8) : Int × (Nat × Bool) := numP l (dec1 l).2
def dec3 (l : List UInt8) : List GId × (Nat × Bool) := idsP l (dec2 l).1.toNat (dec2 l).2
def decN (l : List UInt8) : GN := ⟨(dec1 l).1, (dec3 l).1, decC (l.drop (dec3 l).2.1)⟩
def okN (l : List UInt8) : Prop := (0 ≤ (dec2 l).1 ∧ (dec2 l).1 ≤ 8) ∧ (dec3 l).2.2 = false ∧ decE (l.drop (dec3 l).2.1) = 0 ∧ vN (decN l) = true
/-- What is said of a decoder's answer. -/
def DecOk (l : List UInt8) (x : GN) (e : Int) : Prop := (e = 0 ∧ vN x = true ∧ encN x = l) ∨ (e = 14 ∧ x = ⟨⟨0, 0, 0⟩, [], ⟨0, 0, 0, 0, 0, 0, false⟩⟩ ∧ ∀ y, vN y = true → encN y ≠ l)
theorem okN_enc {l : List UInt8} (h : okN l) : vN (decN l) = true ∧ encN (decN l) = l := by
  obtain ⟨⟨k0, k8⟩, hb, hd, hv⟩ := h
  refine ⟨hv, ?_⟩
  obtain ⟨f1, f2, f3, f4, f5, f6⟩ := vN_facts hv
  have hp : decP (l.drop (dec3 l).2.1) := by
    by_cases hp : decP (l.drop (dec3 l).2.1)
    · exact hp
    · rw [(dec_no hp).1] at hd; cases hd
  obtain ⟨_, _, g3⟩ := dec_yes hp
  have hvi : ∀ y ∈ (dec3 l).1, vI y = true := fun y hy => by
    obtain ⟨j, hj, e⟩ := List.getElem_of_mem hy
    rw [← e]
    exact f4 j hj
  unfold dec3 at hb hvi
  by_cases hz : (dec2 l).2.2 = false
  · obtain ⟨a1, a2, v2, a3, a4, a5⟩ := numP_ok (l := l) (s := (dec1 l).2) hz
    obtain ⟨b1, b2, b3⟩ := idP_ok (l := l) (s := (0, false)) a1 f1
    obtain ⟨c1, c2, c3⟩ := idsP_ok (l := l) (s := (dec2 l).2) _ hb hvi a2
    have hv2 : (dec2 l).1.toNat = v2 := by
      have e : (dec2 l).1 = IntKind.i64.wrap v2 := a3
      rw [e] at k0 ⊢
      exact wrap_small a4 k0
    have hl : (dec3 l).1.length = v2 := by unfold dec3; rw [idsP_len, hv2]
    unfold encN hdN decN
    simp only
    rw [hl, g3]
    have e1 : l = idL (dec1 l).1 ++ l.drop (dec1 l).2.1 := by rw [List.drop_zero] at b3; exact b3
    have e2 : l.drop (dec1 l).2.1 = uvar v2 ++ l.drop (dec2 l).2.1 := a5
    have e3 : l.drop (dec2 l).2.1 = (dec3 l).1.flatMap idL ++ l.drop (dec3 l).2.1 := c3
    conv => rhs; rw [e1, e2, e3]
    simp
  · exfalso
    have hz2 : (dec2 l).2.2 = true := by simpa using hz
    have : ∀ k, (idsP l k (dec2 l).2).2.2 = true := by
      intro k
      induction k with
      | zero => exact hz2
      | succ k ih => rw [idsP]; unfold idP; exact numP_bad (numP_bad (numP_bad ih))
    rw [this] at hb
    cases hb
theorem enc_okN {x : GN} (hv : vN x = true) : okN (encN x) ∧ decN (encN x) = x := by
  obtain ⟨f1, f2, f3, f4, f5, f6⟩ := vN_facts hv
  have hvi : ∀ y ∈ x.path, vI y = true := fun y hy => by
    obtain ⟨j, hj, e⟩ := List.getElem_of_mem hy
    rw [← e]; exact f4 j hj
  have e0 : (encN x).drop 0 = idL x.id ++ (uvar x.path.length ++ (x.path.flatMap idL ++ encC x.cap)) := by simp [encN, hdN]
  obtain ⟨o1, g1, d1, l1⟩ := idP_at f1 (Nat.zero_le _) e0
  obtain ⟨g2, d2, l2⟩ := numP_at (by omega) l1 d1
  obtain ⟨o3, g3, d3, l3⟩ := idsP_at hvi l2 d2 x.path.length (Nat.le_refl _)
  have h1 : dec1 (encN x) = (x.id, (o1, false)) := g1
  have h2 : dec2 (encN x) = ((x.path.length : Int), (o1 + (uvar x.path.length).length, false)) := by unfold dec2; rw [h1]; exact g2
  have h3 : dec3 (encN x) = (x.path, (o3, false)) := by unfold dec3; rw [h2]; simp only [Int.toNat_natCast]; rw [g3, List.take_length]
  have h4 : (encN x).drop o3 = encC x.cap := by rw [d3]; simp
  obtain ⟨q1, q2⟩ := dec_enc f2
  have hd : decN (encN x) = x := by unfold decN; rw [h1, h3]; simp only; rw [h4, q1]
  refine ⟨⟨?_, ?_, ?_, by rw [hd]; exact hv⟩, hd⟩
  · rw [h2]; simp only; omega
  · rw [h3]
  · rw [h3]; simp only; rw [h4, q2]
theorem DecOk.of_ok {l : List UInt8} (h : okN l) : DecOk l (decN l) 0 := .inl ⟨rfl, okN_enc h⟩
theorem DecOk.of_not {l : List UInt8} (h : ¬ okN l) : DecOk l ⟨⟨0, 0, 0⟩, [], ⟨0, 0, 0, 0, 0, 0, false⟩⟩ 14 := .inr ⟨rfl, rfl, fun y hy e => h (by rw [← e]; exact (enc_okN hy).1)⟩
theorem DecOk.one {l : List UInt8} {x y : GN} {e f : Int} (h : DecOk l x e) (k : DecOk l y f) : x = y ∧ e = f := by
  rcases h with ⟨rfl, hv, he⟩ | ⟨rfl, rfl, hn⟩ <;> rcases k with ⟨rfl, kv, ke⟩ | ⟨rfl, rfl, kn⟩
  · have a := (enc_okN hv).2
    have b := (enc_okN kv).2
    rw [he] at a
    rw [ke] at b
    exact ⟨a.symm.trans b, rfl⟩
  · exact absurd he (kn _ hv)
  · exact absurd ke (hn _ kv)
  · exact ⟨rfl, rfl⟩
end Go.Proofs.Ytnoegjfokceghaa
