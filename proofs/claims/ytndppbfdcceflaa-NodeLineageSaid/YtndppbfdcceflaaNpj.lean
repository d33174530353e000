/-
  The program's Encode.
  Conditions: none.
-/
import Derived.Test.YtndppbfdcceflaaNpi
namespace Go.Proofs.Ytndppbfdcceflaa

open Go.RowKit

set_option maxRecDepth 20000 in
set_option maxHeartbeats 4000000 in
theorem pEncN_any (x : GN) (A : Option Addr) (c : Nat) (w : World) (h1 : PRow w w.heap.size A x.path) (hl : x.path.length ≤ 17179869184) (hc : x.path.length ≤ c) :
    Calls Try.prog 10 #[x.val A c] w (EncEnd (if vN x = true then 0 else 1) (if vN x = true then encN x else []) w) := by
  have HV := Lib.hid fun W (hW : Below w.heap.size w W) => pVN_any x A c W (h1.next hW) hl hc
  have HVF := Lib.hid (vN_facts (x := x))
  have HEC : Hid (encN x = hdN x ++ x.path.flatMap idL ++ encC x.cap) := Lib.hid rfl
  have HHC : Hid (hdN x = [] ++ idL x.id ++ uvar x.path.length) := Lib.hid rfl
  have HCP := Lib.hid fun W => pEnc_any x.cap W
  obtain ⟨q, hq⟩ : ∃ q : Int, q = if vN x = true then 0 else 1 := ⟨_, rfl⟩
  obtain ⟨lx, hlx⟩ : ∃ lx, lx = if vN x = true then encN x else [] := ⟨_, rfl⟩
  have HQ1 : Hid (vN x = true → q = 0 ∧ lx = encN x) := Lib.hid fun h => by rw [hq, hlx, if_pos h, if_pos h]; exact ⟨rfl, rfl⟩
  have HQ0 : Hid (vN x = false → q = 1 ∧ lx = []) := Lib.hid fun h => by rw [hq, hlx, h]; exact ⟨rfl, rfl⟩
  rw [← hq, ← hlx]
  clear hq hlx
  have HN0 := Lib.hid (NB.new w x.id A x.path.length c x.cap)
  have HROW := Lib.hid fun W (hW : Below w.heap.size w W) => h1.next hW
  have HCL : Hid ((encC x.cap).length = 10) := Lib.hid rfl
  generalize encN x = ec at *
  generalize hdN x = hd at *
  generalize vN x = vv at *
  unfold GN.val at *
  generalize x.id = xi at *
  generalize x.cap = xc at *
  obtain ⟨i0, i1, i2⟩ := xi
  obtain ⟨a0, a1, a2, a3, a4, a5, a6⟩ := xc
  generalize x.path = xs at *
  clear h1
  simp only [GC.val] at *
  have HB0 := Lib.hid (belt (Below.refl _ w) (.cells #[.int .i64 i0, .int .i64 i1, .int .i64 i2, .slice A xs.length c, .int .i64 a0, .int .i64 a1, .int .i64 a2, .int .i64 a3, .int .i64 a4, .int .i64 a5, .bool a6] 30))
  go_enter Try.func10, Try.ntmps10
  go_wp2_with fail
  go_fit (HV.out _ HB0.out)
  rintro e w1 ⟨rfl, hb1⟩
  have HN1 := Lib.hid (HN0.out.next hb1)
  have HB1 := Lib.hid (beln HB0.out hb1)
  clear hb1 HN0 HB0 HV
  rcases vv with _ | _
  · obtain ⟨e1, e2⟩ := HQ0.out rfl
    have HE : Hid (EncEnd q lx w (.returned (.tuple #[.slice none 0 0, .int .i64 1])) w1) := Lib.hid (by rw [e1, e2]; exact ⟨_, rfl, Own.nil _ _, HB1.out⟩)
    clear e1 e2
    go_wp2
    refine bodyPost_ret (v := .tuple #[.slice none 0 0, .int .i64 1]) (by simp [results, Try.results10]) rfl ?_
    exact HE.out
  obtain ⟨e1, e2⟩ := HQ1.out rfl
  have HE1 : Hid (∀ v W, Own W w.heap.size v (hd ++ xs.flatMap idL ++ encC ⟨a0, a1, a2, a3, a4, a5, a6⟩) → Below w.heap.size w W → EncEnd q lx w (.returned (.tuple #[v, .int .i64 0])) W) := Lib.hid fun v W hO hB => by rw [e1, e2, HEC.out]; exact ⟨_, rfl, hO, hB⟩
  clear e1 e2 HQ0 HQ1 HEC
  generalize EncEnd q lx w = EE at *
  have HV0 := Lib.hid (HVF.out rfl)
  clear HVF
  have hS : Below w.heap.size w w1.drew ∧ NB w1.drew w.heap.size ⟨i0, i1, i2⟩ A xs.length c ⟨a0, a1, a2, a3, a4, a5, a6⟩ := ⟨HB1.out.drew, HN1.out.next (Below.refl _ w1).drew⟩
  have hwl : IntKind.u64.wrap (xs.length : Int) = (xs.length : Int) := by rw [IntKind.wrap_u64]; omega
  go_upto_region 3 with fail
  refine wp_region_growS (S := fun W => Below w.heap.size w W ∧ NB W w.heap.size ⟨i0, i1, i2⟩ A xs.length c ⟨a0, a1, a2, a3, a4, a5, a6⟩) [(0, true), (1, true), (3, true), (4, true), (5, true), (6, true), (2, false), (7, false), (8, true)] (by kernel_rfl) (by kernel_rfl) (by kernel_rfl) (by kernel_rfl) (by intro c a d v w h; cases d <;> exact h) hS ?_
  iterate 6
    (first
      | (refine wpGrowS_float (v := ?_) (by simp only [List.getElem?_toArray, List.getElem?_cons_succ, List.getElem?_cons_zero]; rfl) (by rfl) ?_ ?_
         rotate_left
         · (intro W hW; obtain ⟨c0, c1, c2, c3, c4, c5, c6, c7, c8, c9, c10⟩ := NB.cells (hW.2); (try simp only at *); go_simp; try with_reducible rfl)
         simp only [Act.put, List.setIfInBounds_toArray, List.set_cons_zero, List.set_cons_succ])
      | (refine wpGrowS_skip (by simp only [List.getElem?_toArray, List.getElem?_cons_succ, List.getElem?_cons_zero]; rfl) (by rfl) ?_
         simp only [Act.put, List.setIfInBounds_toArray, List.set_cons_zero, List.set_cons_succ]))
  refine wpGrowS_call (by simp only [List.getElem?_toArray, List.getElem?_cons_succ, List.getElem?_cons_zero]; rfl) (by rfl) fun K hK => ?_
  go_simp
  go_fit (pAppI_any ⟨i0, i1, i2⟩ none 0 0 [] _ Byt.nil (by omega) HV0.out.1)
  rintro e wn ⟨v3, rfl, ho3, hbn⟩
  have hSP := hS
  have hS : Below w.heap.size w wn ∧ NB wn w.heap.size ⟨i0, i1, i2⟩ A xs.length c ⟨a0, a1, a2, a3, a4, a5, a6⟩ := ⟨beln (hS.1) hbn, NB.next (hS.2) hbn⟩
  obtain ⟨A3, c3', rfl, _, _, hy3⟩ := ho3.form
  clear ho3
  go_simp
  refine hK _ _ hS ?_
  clear hK K
  try simp only [Act.put, List.setIfInBounds_toArray, List.set_cons_zero, List.set_cons_succ]
  refine wpGrowS_call (by simp only [List.getElem?_toArray, List.getElem?_cons_succ, List.getElem?_cons_zero]; rfl) (by rfl) fun K hK => ?_
  go_simp
  go_fit (appU_own A3 _ c3' xs.length _ _ hy3 (by have := idL_len ⟨i0, i1, i2⟩; simp; omega) (by omega))
  rintro e wn ⟨v4, rfl, ho4, hbn⟩
  have hSP := hS
  have hS : Below w.heap.size w wn ∧ NB wn w.heap.size ⟨i0, i1, i2⟩ A xs.length c ⟨a0, a1, a2, a3, a4, a5, a6⟩ := ⟨beln (hS.1) hbn, NB.next (hS.2) hbn⟩
  rw [← HHC.out] at ho4
  have HO4 := Lib.hid (Own.low (b' := w.heap.size) ho4 (by have := hSP.1.size; omega))
  clear ho4
  go_simp
  refine hK _ _ hS ?_
  clear hK K
  try simp only [Act.put, List.setIfInBounds_toArray, List.set_cons_zero, List.set_cons_succ]
  iterate 1
    (first
      | (refine wpGrowS_float (v := ?_) (by simp only [List.getElem?_toArray, List.getElem?_cons_succ, List.getElem?_cons_zero]; rfl) (by rfl) ?_ ?_
         rotate_left
         · (intro W hW; obtain ⟨c0, c1, c2, c3, c4, c5, c6, c7, c8, c9, c10⟩ := NB.cells (hW.2); (try simp only at *); go_simp; try with_reducible rfl)
         simp only [Act.put, List.setIfInBounds_toArray, List.set_cons_zero, List.set_cons_succ])
      | (refine wpGrowS_skip (by simp only [List.getElem?_toArray, List.getElem?_cons_succ, List.getElem?_cons_zero]; rfl) (by rfl) ?_
         simp only [Act.put, List.setIfInBounds_toArray, List.set_cons_zero, List.set_cons_succ]))
  refine wpGrowS_nil ?_
  clear hSP hy3 hwl
  have HHL : Hid (hd.length ≤ 100) := Lib.hid (by have h1 := idL_len ⟨i0, i1, i2⟩; have h2 := uvar_len xs.length; rw [HHC.out]; simp only [List.length_append, List.length_nil]; omega)
  clear HHC HB1 HN1
  obtain ⟨HB3, HN3⟩ : Hid (Below w.heap.size w wn) ∧ Hid (NB wn w.heap.size ⟨i0, i1, i2⟩ A xs.length c ⟨a0, a1, a2, a3, a4, a5, a6⟩) := ⟨Lib.hid hS.1, Lib.hid hS.2⟩
  clear hS
  have HOC2 : Hid (Own wn w.heap.size v4 (hd ++ (xs.take 0).flatMap idL)) := Lib.hid (by simpa using HO4.out)
  clear HO4
  obtain ⟨c0, c1, c2, c3, c4, c5, c6, c7, c8, c9, c10⟩ := HN3.out.cells
  try simp only at c0 c1 c2 c3 c4 c5 c6 c7 c8 c9 c10
  go_wp2
  clear c0 c1 c2 c3 c4 c5 c6 c7 c8 c9 c10
  go_loopw [4, 23] (fun v4 vi wr => ∃ k : Nat, vi = .int .i64 k ∧ k ≤ xs.length ∧ Hid (Own wr w.heap.size v4 (hd ++ (xs.take k).flatMap idL)) ∧ Hid (Below wn.heap.size wn wr)) (fun _ vi _ => xs.length - (intOf vi).toNat)
  case atStart => exact ⟨0, rfl, by omega, HOC2, Lib.hid (Below.refl _ _)⟩
  case round =>
    obtain ⟨k, rfl, hk, HO, HB⟩ := hrel
    have HBW := Lib.hid (beln HB3.out HB.out)
    obtain ⟨A4, cp4, rfl, hq1, hq2, hq3⟩ := HO.out.form
    have HY4 := Lib.hid hq3
    clear hq1 hq2 hq3
    have HLK : Hid ((hd ++ (xs.take k).flatMap idL).length ≤ 400) := Lib.hid (by have h5 := HHL.out; have h6 := flat_len (xs.take k); have h7 : xs.length ≤ 8 := HV0.out.2.2.1; have h8 : (xs.take k).length ≤ k := (by rw [List.length_take]; exact Nat.min_le_left _ _); rw [List.length_append]; omega)
    generalize hn4 : (hd ++ (xs.take k).flatMap idL).length = n4 at *
    have HN4 := Lib.hid hn4
    clear hn4
    rcases Nat.lt_or_ge k xs.length with hlt | hge
    · obtain ⟨b1, o1, rfl, hb1, x0, x1, x2⟩ := (HROW.out _ HBW.out).gid hlt
      have HI1 := Lib.hid (IB.new wr xs[k])
      have HI2 := Lib.hid (belt (Below.refl _ wr) (.cells #[.int .i64 xs[k].core, .int .i64 xs[k].op, .int .i64 xs[k].part] 24))
      have HP := Lib.hid fun W (hW : Below wr.heap.size wr W) => pAppI_any xs[k] A4 n4 cp4 _ W ((HY4.out.below hW).wide hW.size) (by have := HLK.out; omega) (HV0.out.2.2.2.1 k hlt)
      rw [List.append_assoc, ← flat_succ xs hlt] at HP
      generalize xs[k] = y at *
      obtain ⟨yc, yo, yp⟩ := y
      simp only [GId.val] at HP x0 x1 x2 HI1 HI2
      have hkl : decide ((k : Int) < (xs.length : Int)) = true := by simp; omega
      go_wp2_with fail
      go_fit (HP.out _ HI2.out)
      rintro e w5 ⟨v5, rfl, ho5, hb5⟩
      have HO5 := Lib.hid (Own.low (b' := w.heap.size) ho5 (by have := HBW.out.size; simp; omega))
      have HB5 := Lib.hid (beln (beln HB.out HI2.out) hb5)
      clear ho5 hb5 HP x0 x1 x2
      go_wp2
      go_roundw
      case rel => exact ⟨k + 1, by go_num, by omega, HO5, HB5⟩
      case measure => simp [intOf]; omega
    · obtain rfl : k = xs.length := by omega
      have HOF : Hid (Own wr w.heap.size (.slice A4 n4 cp4) (hd ++ xs.flatMap idL)) := Lib.hid (by have h := HO.out; rw [List.take_length] at h; exact h)
      rw [List.take_length] at HY4 HN4
      have HCP2 : Hid (∀ W, Calls Try.prog 21 #[.agg #[.int .i64 a0, .int .i64 a1, .int .i64 a2, .int .i64 a3, .int .i64 a4, .int .i64 a5, .bool a6]] W (EncEnd 0 (encC ⟨a0, a1, a2, a3, a4, a5, a6⟩) W)) := Lib.hid fun W => by
        have h := HCP.out W
        rw [HV0.out.2.1, if_pos rfl, if_pos rfl] at h
        exact h
      obtain ⟨c0, c1, c2, c3, c4, c5, c6, c7, c8, c9, c10⟩ := (HN3.out.next HB.out).cells
      try simp only at c0 c1 c2 c3 c4 c5 c6 c7 c8 c9 c10
      go_wp2_with fail
      go_fit (HCP2.out _)
      rintro e w5 ⟨v5, rfl, ho5, hb5⟩
      obtain ⟨A5, cp5, rfl, hq1, hq2, hby⟩ := ho5.form
      have HBW5 := Lib.hid (beln HBW.out hb5)
      have hcell := Lib.cell_of_heap (heap_alloc_new w5 (.cells #[.slice A4 n4 cp4, .slice A5 (encC ⟨a0, a1, a2, a3, a4, a5, a6⟩).length cp5] 39))
      have HCAT := Lib.hid (cat_own (hd ++ xs.flatMap idL) (encC ⟨a0, a1, a2, a3, a4, a5, a6⟩) A4 A5 cp4 cp5 w5.heap.size 2 (w5.alloc (.cells #[.slice A4 n4 cp4, .slice A5 (encC ⟨a0, a1, a2, a3, a4, a5, a6⟩).length cp5] 39)) (by rw [hcell, HN4.out]; rfl) (by rw [hcell]; rfl) (by simp)
        (by rw [HN4.out]; exact ((HY4.out.below hb5).wide (by have := hb5.size; simp; omega)).below (belt (Below.refl _ _) _) |>.wide (by simp)) ((hby.below (belt (Below.refl _ _) _)).wide (by simp)) (by rw [HCL.out]; omega) (by rw [HN4.out, HCL.out]; have := HLK.out; omega))
      clear hcell ho5 hb5 hby hq1 hq2 c0 c1 c2 c3 c4 c5 c6 c7 c8 c9 c10
      generalize (encC ⟨a0, a1, a2, a3, a4, a5, a6⟩).length = n5 at *
      go_wp2_with fail
      go_fit HCAT.out
      rintro e w6 ⟨v6, rfl, ho6, hb6⟩
      have HE := Lib.hid (HE1.out _ _ (Own.low (b' := w.heap.size) ho6 (by have := HBW5.out.size; simp; omega)) (beln (belt HBW5.out _) hb6))
      clear ho6 hb6
      go_wp2
      exact HE.out
end Go.Proofs.Ytndppbfdcceflaa
