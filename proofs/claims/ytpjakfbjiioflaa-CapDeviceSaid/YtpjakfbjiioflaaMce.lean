/-
  The program's Retype.
  Conditions: none.
-/
import Derived.Test.YtpjakfbjiioflaaMcc
import Derived.Laws.MakeOwn
import Derived.Deep.CutBlock
import Derived.Deep.DeepCutAuto
namespace Go.Proofs.Ytpjakfbjiioflaa
open Go.RowKit

theorem ret_zero {s : GC} {obj n lev wid off cnt : Int} (h : retErr s obj n lev wid off cnt = 0) : RC1 s ∧ bits .and .i64 s.rights 2 ≠ 0 ∧ RC3 obj n lev wid off cnt ∧ RC4 s obj ∧ RC5 s obj n off cnt := by
  unfold retErr at h
  split at h
  · rename_i h1
    split at h
    · omega
    · rename_i h2
      split at h
      · rename_i h3
        split at h
        · rename_i h4
          split at h
          · rename_i h5
            exact ⟨h1, h2, h3, h4, h5⟩
          · omega
        · omega
      · omega
  · omega
theorem ret_mk {s : GC} {obj n lev wid off cnt : Int} (h1 : RC1 s) (h2 : bits .and .i64 s.rights 2 ≠ 0) (h3 : RC3 obj n lev wid off cnt) (h4 : RC4 s obj) (h5 : RC5 s obj n off cnt) : retErr s obj n lev wid off cnt = 0 := by
  unfold retErr
  rw [if_pos h1, if_neg h2, if_pos h3, if_pos h4, if_pos h5]
/-- Block N holds the capabilities xs. -/
def RowC (N : Nat) (xs : List GC) (W : World) : Prop := W.heap[N]? = some (.cells (gcells GC.cells xs).toArray 23 (0, 0))
theorem set_heapC {w : World} {g t : Nat} {v : Value} {l : List Value} (hh : w.heap[g]? = some (.cells l.toArray 23 (0, 0))) : (w.setCell ⟨g, t, none⟩ v).heap[g]? = some (.cells (l.set t v).toArray 23 (0, 0)) := by
  simp [World.setCell, Array.getElem?_modify, hh]
theorem gset7 (c : GC) (xs : List GC) : ∀ (k : Nat) (_ : k < xs.length), ((((((((gcells GC.cells xs).set (k * 7) (.int .i64 c.kind)).set (k * 7 + 1) (.int .i64 c.base)).set (k * 7 + 2) (.int .i64 c.bits)).set (k * 7 + 3) (.int .i64 c.rights)).set (k * 7 + 4) (.int .i64 c.width)).set (k * 7 + 5) (.int .i64 c.level)).set (k * 7 + 6) (.bool c.device)) = gcells GC.cells (xs.set k c) := by
  induction xs with
  | nil => intro k h; simp at h
  | cons y r ih =>
    intro k h
    have e : gcells GC.cells (y :: r) = y.cells ++ gcells GC.cells r := rfl
    cases k with
    | zero =>
      have e2 : gcells GC.cells (c :: r) = c.cells ++ gcells GC.cells r := rfl
      rw [List.set_cons_zero, e, e2]
      simp [GC.cells]
    | succ k =>
      have ih := ih k (by simpa using h)
      have key : ∀ (m : List Value) (t : Nat) (v : Value), (y.cells ++ m).set (t + 7) v = y.cells ++ m.set t v := fun m t v => rfl
      have e2 : gcells GC.cells (y :: r.set k c) = y.cells ++ gcells GC.cells (r.set k c) := rfl
      rw [List.set_cons_succ, e, e2, ← ih, show (k + 1) * 7 = k * 7 + 7 by omega, key, show k * 7 + 7 + 1 = k * 7 + 1 + 7 by omega, key, show k * 7 + 7 + 2 = k * 7 + 2 + 7 by omega, key, show k * 7 + 7 + 3 = k * 7 + 3 + 7 by omega, key, show k * 7 + 7 + 4 = k * 7 + 4 + 7 by omega, key, show k * 7 + 7 + 5 = k * 7 + 5 + 7 by omega, key, show k * 7 + 7 + 6 = k * 7 + 6 + 7 by omega, key]
theorem RowC.put {N : Nat} {xs : List GC} {W : World} (h : RowC N xs W) {k : Nat} (hk : k < xs.length) (c : GC) : RowC N (xs.set k c) (((((((W.setCell ⟨N, k * 7, none⟩ (.int .i64 c.kind)).setCell ⟨N, k * 7 + 1, none⟩ (.int .i64 c.base)).setCell ⟨N, k * 7 + 2, none⟩ (.int .i64 c.bits)).setCell ⟨N, k * 7 + 3, none⟩ (.int .i64 c.rights)).setCell ⟨N, k * 7 + 4, none⟩ (.int .i64 c.width)).setCell ⟨N, k * 7 + 5, none⟩ (.int .i64 c.level)).setCell ⟨N, k * 7 + 6, none⟩ (.bool c.device)).drew := by
  unfold RowC at *
  rw [← gset7 c xs k hk]
  generalize gcells GC.cells xs = l at *
  have h0 := set_heapC (t := k * 7) (v := .int .i64 c.kind) h
  have h1 := set_heapC (t := k * 7 + 1) (v := .int .i64 c.base) h0
  have h2 := set_heapC (t := k * 7 + 2) (v := .int .i64 c.bits) h1
  have h3 := set_heapC (t := k * 7 + 3) (v := .int .i64 c.rights) h2
  have h4 := set_heapC (t := k * 7 + 4) (v := .int .i64 c.width) h3
  have h5 := set_heapC (t := k * 7 + 5) (v := .int .i64 c.level) h4
  have h6 := set_heapC (t := k * 7 + 6) (v := .bool c.device) h5
  have hd : ∀ W : World, W.drew.heap[N]? = W.heap[N]? := fun W => rfl
  rw [hd]
  exact h6
theorem RowC.own {N : Nat} {xs : List GC} {W : World} (h : RowC N xs W) {base : Nat} (hb : base ≤ N) (hl : xs.length ≤ 1000) : OwnC W base (.slice (some ⟨N, 0, none⟩) xs.length xs.length) xs := by
  unfold RowC at h
  have hlen := gcells_len GC.len xs
  have hm : xs.length ≤ maxLen := Nat.le_trans hl (by unfold maxLen; simp)
  have hs : (gcells GC.cells xs).toArray.size = xs.length * 7 := by rw [List.size_toArray]; exact hlen
  have ht : (gcells GC.cells xs).toArray.toList.take (xs.length * 7) = gcells GC.cells xs := by rw [← hlen]; exact List.take_length
  generalize (gcells GC.cells xs).toArray = cs at *
  exact ⟨hlen, .inr ⟨N, xs.length, cs, rfl, hb, h, Nat.le_refl _, hm, hs, ht⟩⟩
theorem RowC.lt {N : Nat} {xs : List GC} {W : World} (h : RowC N xs W) : N < W.heap.size := by
  rcases Nat.lt_or_ge N W.heap.size with h1 | h1
  · exact h1
  · unfold RowC at h; rw [Array.getElem?_eq_none h1] at h; cases h
theorem RowC.cells {N : Nat} {xs : List GC} {W : World} (h : RowC N xs W) {k : Nat} (hk : k < xs.length) : ∀ j, j < 7 → ∃ u, W.cell? ⟨N, k * 7 + j, none⟩ = some u := fun j hj => by
  unfold RowC at h
  exact ⟨_, by rw [Lib.cell_of_heap h]; exact Array.getElem?_eq_getElem (by rw [List.size_toArray, gcells_len GC.len]; omega)⟩
theorem RowC.frz {N : Nat} {xs : List GC} {W : World} (h : RowC N xs W) (j : Nat) : W.frozen? ⟨N, j, none⟩ = false := Lib.frozen_of_heap h j
def zeC : GC := ⟨0, 0, 0, 0, 0, 0, false⟩
/-- The list in the making: the first j are done. -/
def mkL (f : Nat → GC) (n j : Nat) : List GC := (List.range n).map fun i => if i < j then f i else zeC
theorem mkL_len (f : Nat → GC) (n j : Nat) : (mkL f n j).length = n := by simp [mkL]
theorem mkL_set (f : Nat → GC) (n j : Nat) (_hj : j < n) : (mkL f n j).set j (f j) = mkL f n (j + 1) := by
  refine List.ext_getElem (by simp [mkL]) fun i h1 h2 => ?_
  rw [List.getElem_set]
  simp only [mkL, List.getElem_map, List.getElem_range]
  by_cases e : j = i
  · subst e; simp
  · rw [if_neg e]
    by_cases h : i < j
    · rw [if_pos h, if_pos (by omega)]
    · rw [if_neg h, if_neg (by omega)]
theorem mkL_all (f : Nat → GC) (n : Nat) : mkL f n n = (List.range n).map f := by
  refine List.map_congr_left fun i hi => ?_
  rw [if_pos (by simpa using hi)]
theorem mkL_zero (f : Nat → GC) (n : Nat) : mkL f n 0 = List.replicate n zeC := by
  refine List.ext_getElem (by simp [mkL]) fun i h1 h2 => ?_
  simp [mkL]
theorem make_caps (f : Nat → GC) (n : Nat) (h1 : 1 ≤ n) (h8 : n ≤ 8) (W : World) : (Instr.makeSlice 32 (.int .i64 (n : Int)) (.int .i64 (n : Int))).run Try.prog W = .ok (.slice (some ⟨W.heap.size, 0, none⟩) n n) (W.alloc (.cells (gcells GC.cells (mkL f n 0)).toArray 23)) := by
  obtain ⟨i0, z, hi0, hz0, hz1, hz2, hz3⟩ := elt_cap.inf
  have hr := run_make (P := Try.prog) W 32 23 i0 z elt_cap.und hi0 hz0 .i64 .i64 (n : Int) (n : Int) (by omega) (Int.le_refl _) (by rw [hz2]; omega) (by omega)
  rw [Int.toNat_natCast, hz1] at hr
  have hzz : i0.zero = some (.agg #[.int .i64 0, .int .i64 0, .int .i64 0, .int .i64 0, .int .i64 0, .int .i64 0, .bool false]) := by
    have : (Try.prog.info? 23).map (fun i => i.zero) = some (some (.agg #[.int .i64 0, .int .i64 0, .int .i64 0, .int .i64 0, .int .i64 0, .int .i64 0, .bool false])) := by kernel_rfl
    rw [hi0] at this
    exact Option.some.inj this
  obtain rfl := Option.some.inj (hz0.symm.trans hzz)
  rw [hr]
  have e : madeCells (Value.cells (.agg #[.int .i64 0, .int .i64 0, .int .i64 0, .int .i64 0, .int .i64 0, .int .i64 0, .bool false])) (n * 7) = (gcells GC.cells (mkL f n 0)).toArray := by
    rw [mkL_zero]
    rcases (show n = 1 ∨ n = 2 ∨ n = 3 ∨ n = 4 ∨ n = 5 ∨ n = 6 ∨ n = 7 ∨ n = 8 by omega) with rfl | rfl | rfl | rfl | rfl | rfl | rfl | rfl <;> kernel_rfl
  rw [e]
theorem ret_lw (s : GC) (obj n lev wid off cnt : Int) : retErr s obj n (if obj = 3 then lev else 0) (if obj = 3 then wid else 0) off cnt = retErr s obj n lev wid off cnt := by
  by_cases h : obj = 3
  · rw [if_pos h, if_pos h]
  · rw [if_neg h, if_neg h]
    unfold retErr
    have e : RC3 obj n 0 0 off cnt ↔ RC3 obj n lev wid off cnt := by unfold RC3; simp [h]
    simp only [e]
set_option maxRecDepth 20000 in
set_option maxHeartbeats 2000000 in
theorem pRet_any (s : GC) (obj n lev wid off cnt : Int) (w : World) :
    Calls Try.prog 23 #[s.val, .int .i64 obj, .int .i64 n, .int .i64 lev, .int .i64 wid, .int .i64 off, .int .i64 cnt] w (RetEnd (retErr s obj n lev wid off cnt) (retL s obj n lev wid off cnt) w) := by
  have HC := Lib.hid fun W => pChk_any s obj n (if obj = 3 then lev else 0) (if obj = 3 then wid else 0) off cnt W
  rw [ret_lw] at HC
  have HQ0 : Hid (retErr s obj n lev wid off cnt ≠ 0 → retL s obj n lev wid off cnt = []) := Lib.hid fun h => by unfold retL; rw [if_neg h]
  have HQ1 : Hid (retErr s obj n lev wid off cnt = 0 → retL s obj n lev wid off cnt = (List.range cnt.toNat).map (retOne s obj n lev wid off)) := Lib.hid fun h => by unfold retL; rw [if_pos h]
  have HB : Hid (retErr s obj n lev wid off cnt = 0 → 1 ≤ cnt ∧ cnt ≤ 8 ∧ 0 ≤ off ∧ off ≤ pw s.bits ∧ cnt * pw n ≤ pw s.bits - off ∧ 0 ≤ s.base ∧ s.base + pw s.bits ≤ 1099511627776 ∧ 6 ≤ n ∧ n ≤ 40) := Lib.hid fun h => by
    obtain ⟨h1, _, h3, _, h5⟩ := ret_zero h
    have hz := siz_bound h3.1
    have hv := h1.1
    unfold vC at hv
    simp at hv
    have hv2 := vR_iff.1 hv.1.1.1.1.2
    have a1 := hv2.b0
    have a2 := hv2.top
    exact ⟨h3.2.2.1, h3.2.2.2.1, h3.2.2.2.2, h5.2.1, h5.2.2.1, a1, a2, hz.1, hz.2⟩
  have HONE : Hid (∀ i, retOne s obj n lev wid off i = ⟨obj, s.base + off + (i : Int) * pw n, n, s.rights, if obj = 3 then wid else 0, if obj = 3 then lev else 0, s.device⟩) := Lib.hid fun _ => rfl
  have H3 : Hid (obj = 3 → (if obj = 3 then lev else 0) = lev ∧ (if obj = 3 then wid else 0) = wid) := Lib.hid fun h => ⟨if_pos h, if_pos h⟩
  have HN3 : Hid (obj ≠ 3 → (if obj = 3 then lev else 0) = 0 ∧ (if obj = 3 then wid else 0) = 0) := Lib.hid fun h => ⟨if_neg h, if_neg h⟩
  generalize (if obj = 3 then lev else 0) = lv at *
  generalize (if obj = 3 then wid else 0) = wv at *
  generalize retErr s obj n lev wid off cnt = q at *
  generalize retL s obj n lev wid off cnt = l at *
  generalize retOne s obj n lev wid off = f1 at *
  have HX := Lib.hid (CB.new w s)
  obtain ⟨sk, sb, sn, sr, sw, sl, sd⟩ := s
  simp only [GC.val] at *
  have HB0 := Lib.hid (belt (Below.refl _ w) (.cells #[.int .i64 sk, .int .i64 sb, .int .i64 sn, .int .i64 sr, .int .i64 sw, .int .i64 sl, .bool sd] 23))
  go_enter Try.func23, Try.ntmps23
  go_upto_if 20 with fail
  go_cut [3, 4] (fun v3 v4 wx => v3 = .int .i64 lv ∧ v4 = .int .i64 wv ∧ wx = w.alloc (.cells #[.int .i64 sk, .int .i64 sb, .int .i64 sn, .int .i64 sr, .int .i64 sw, .int .i64 sl, .bool sd] 23))
  case first =>
    by_cases h3 : obj = 3
    · obtain ⟨e1, e2⟩ := H3.out h3
      subst h3 e1 e2
      go_wp2_with fail
      go_meet
      exact ⟨rfl, rfl, rfl⟩
    · obtain ⟨e1, e2⟩ := HN3.out h3
      subst e1 e2
      have f3 : (obj == 3) = false := beq_eq_false_iff_ne.2 h3
      have f3b : (obj != 3) = true := by rw [bne, f3]; rfl
      clear h3 f3
      go_wp2_with fail
      go_meet
      exact ⟨rfl, rfl, rfl⟩
  case rest =>
    obtain ⟨rfl, rfl, rfl⟩ := hcut
    go_wp2_with fail
    go_fit (HC.out _)
    rintro e w1 ⟨rfl, hb1⟩
    have HX1 := Lib.hid (HX.out.next hb1)
    have HB1 := Lib.hid (beln HB0.out hb1)
    clear hb1 HX HB0 HC H3 HN3
    by_cases hq : q = 0
    rotate_left
    · have fq : (q == 0) = false := beq_eq_false_iff_ne.2 hq
      have fq2 : (q != 0) = true := by rw [bne, fq]; rfl
      have HE := Lib.hid (ret_bad HB1.out rfl HQ0.out hq)
      clear hq fq HQ0 HQ1 HB HONE
      go_wp2
      refine bodyPost_ret (v := .tuple #[.slice none 0 0, .int .i64 q]) (by simp [results, Try.results23]) rfl ?_
      exact HE.out
    subst hq
    obtain ⟨n1, n8, o0, o1, o2, b0, b1, k0, k1⟩ := HB.out rfl
    have HLQ := Lib.hid (HQ1.out rfl)
    have hz0 := pw_pos n
    have hcu : IntKind.u64.wrap n = n := by rw [IntKind.wrap_u64]; omega
    have HSHW : Hid ((2 : Int) ^ n.toNat = pw n) := Lib.hid rfl
    generalize pw n = z at *
    generalize pw sn = y at *
    clear HQ0 HQ1 HB
    obtain ⟨cn, rfl⟩ : ∃ cn : Nat, cnt = cn := ⟨cnt.toNat, by omega⟩
    rw [Int.toNat_natCast] at HLQ
    have HCZ : Hid (∀ j : Nat, j < cn → 0 ≤ (j : Int) * z ∧ (j : Int) * z ≤ y - off) := Lib.hid fun j hj => ⟨Int.mul_nonneg (by omega) (by omega), by
      have := Int.mul_le_mul_of_nonneg_right (show (j : Int) ≤ (cn : Int) by omega) (Int.le_of_lt hz0)
      omega⟩
    have hmk := make_caps f1 cn (by omega) (by omega) w1
    have hn1 : 1 ≤ cn := by omega
    have hn8 : cn ≤ 8 := by omega
    have hw1 : IntKind.i64.wrap (sb + off) = sb + off := IntWalk.i64_in _ (by omega)
    have HBD := Lib.hid (show 0 ≤ sb + off ∧ sb + y ≤ 1099511627776 from ⟨by omega, b1⟩)
    clear o2 b0 b1 n1 n8 o1
    have HR0 : Hid (RowC w1.heap.size (mkL f1 cn 0) (w1.alloc (.cells (gcells GC.cells (mkL f1 cn 0)).toArray 23))) := Lib.hid (heap_alloc_new w1 _)
    have HB2 : Hid (Below w1.heap.size w1 (w1.alloc (.cells (gcells GC.cells (mkL f1 cn 0)).toArray 23))) := Lib.hid (belt (Below.refl _ w1) _)
    have HEND : Hid (∀ W : World, RowC w1.heap.size (mkL f1 cn cn) W → Below w1.heap.size w1 W → RetEnd 0 l w (.returned (.tuple #[.slice (some ⟨w1.heap.size, 0, none⟩) cn cn, .int .i64 0])) W) := Lib.hid fun W hR hB => by
      have ho := hR.own (base := w.heap.size) HB1.out.size (by rw [mkL_len]; omega)
      rw [mkL_len] at ho
      rw [HLQ.out, ← mkL_all]
      exact ⟨_, rfl, ho, beln HB1.out hB⟩
    generalize gcells GC.cells (mkL f1 cn 0) = gc0 at *
    go_upto_block 0 with fail
    clear hmk
    have HXN := Lib.hid fun W (h : Below w1.heap.size w1 W) => HX1.out.next h
    have HNle : Hid (w.heap.size ≤ w1.heap.size) := Lib.hid HB1.out.size
    generalize w1.heap.size = N at *
    generalize w1.alloc (.cells gc0.toArray 23) = w2 at *
    go_wp2
    go_loopw [36] (fun v36 wr => ∃ j : Nat, v36 = .int .i64 j ∧ j ≤ cn ∧ Hid (RowC N (mkL f1 cn j) wr) ∧ Hid (Below N w1 wr)) (fun v36 _ => cn - (intOf v36).toNat)
    case atStart => exact ⟨0, rfl, by omega, HR0, HB2⟩
    case round =>
      obtain ⟨j, rfl, hj, HRJ, HBJ⟩ := hrel
      generalize wr = wA at *
      by_cases hlt : j < cn
      · have fj : decide ((j : Int) < (cn : Int)) = true := by simp; omega
        obtain ⟨hj0, hj1⟩ := HCZ.out j hlt
        obtain ⟨jz, hjz⟩ : ∃ jz, (j : Int) * z = jz := ⟨_, rfl⟩
        have HJZ := Lib.hid hjz
        rw [hjz] at hj0 hj1
        have hbd := HBD.out
        have HW2 : Hid (wrap64 ((j : Int) * 2 ^ n.toNat) = jz) := Lib.hid (by rw [HSHW.out, hjz]; exact IntWalk.wrap64_in _ (by omega))
        have hw3 : IntKind.i64.wrap (sb + off + jz) = sb + off + jz := IntWalk.i64_in _ (by omega)
        have HF : Hid (f1 j = ⟨obj, sb + off + jz, n, sr, wv, lv, sd⟩) := Lib.hid (by rw [HONE.out j, hjz])
        have HR9 := Lib.hid (HRJ.out.put (by rw [mkL_len]; exact hlt) (f1 j))
        rw [mkL_set f1 cn j hlt, HF.out] at HR9
        simp only at HR9
        obtain ⟨u0, q0⟩ := HRJ.out.cells (k := j) (by rw [mkL_len]; exact hlt) 0 (by omega)
        obtain ⟨u1, q1⟩ := HRJ.out.cells (k := j) (by rw [mkL_len]; exact hlt) 1 (by omega)
        obtain ⟨u2, q2⟩ := HRJ.out.cells (k := j) (by rw [mkL_len]; exact hlt) 2 (by omega)
        obtain ⟨u3, q3⟩ := HRJ.out.cells (k := j) (by rw [mkL_len]; exact hlt) 3 (by omega)
        obtain ⟨u4, q4⟩ := HRJ.out.cells (k := j) (by rw [mkL_len]; exact hlt) 4 (by omega)
        obtain ⟨u5, q5⟩ := HRJ.out.cells (k := j) (by rw [mkL_len]; exact hlt) 5 (by omega)
        obtain ⟨u6, q6⟩ := HRJ.out.cells (k := j) (by rw [mkL_len]; exact hlt) 6 (by omega)
        rw [Nat.add_zero] at q0
        have z0 := HRJ.out.frz (j * 7)
        have z1 := HRJ.out.frz (j * 7 + 1)
        have z2 := HRJ.out.frz (j * 7 + 2)
        have z3 := HRJ.out.frz (j * 7 + 3)
        have z4 := HRJ.out.frz (j * 7 + 4)
        have z5 := HRJ.out.frz (j * 7 + 5)
        have z6 := HRJ.out.frz (j * 7 + 6)
        have HXA := Lib.hid (HXN.out wA HBJ.out)
        obtain ⟨y0, y1, y2, y3, y4, y5, y6⟩ := HXA.out.cells
        simp only at y0 y1 y2 y3 y4 y5 y6
        have HB9 : Hid (Below N w1 (((((((wA.setCell ⟨N, j * 7, none⟩ (.int .i64 obj)).setCell ⟨N, j * 7 + 1, none⟩ (.int .i64 (sb + off + jz))).setCell ⟨N, j * 7 + 2, none⟩ (.int .i64 n)).setCell ⟨N, j * 7 + 3, none⟩ (.int .i64 sr)).setCell ⟨N, j * 7 + 4, none⟩ (.int .i64 wv)).setCell ⟨N, j * 7 + 5, none⟩ (.int .i64 lv)).setCell ⟨N, j * 7 + 6, none⟩ (.bool sd)).drew) := Lib.hid (((((((HBJ.out.setCell (Nat.le_refl _) _).setCell (Nat.le_refl _) _).setCell (Nat.le_refl _) _).setCell (Nat.le_refl _) _).setCell (Nat.le_refl _) _).setCell (Nat.le_refl _) _).setCell (Nat.le_refl _) _).drew
        have HM : Hid (cn - (j + 1) < cn - j) := Lib.hid (by omega)
        clear hjz hj0 hj1 HF hbd HRJ HBJ
        have hw2 := HW2.out
        clear HW2
        go_upto_region 10 with fail
        go_region
        generalize (((((((wA.setCell ⟨N, j * 7, none⟩ (.int .i64 obj)).setCell ⟨N, j * 7 + 1, none⟩ (.int .i64 (sb + off + jz))).setCell ⟨N, j * 7 + 2, none⟩ (.int .i64 n)).setCell ⟨N, j * 7 + 3, none⟩ (.int .i64 sr)).setCell ⟨N, j * 7 + 4, none⟩ (.int .i64 wv)).setCell ⟨N, j * 7 + 5, none⟩ (.int .i64 lv)).setCell ⟨N, j * 7 + 6, none⟩ (.bool sd)).drew = wB at *
        clear hw2 y0 y1 y2 y3 y4 y5 y6 z0 z1 z2 z3 z4 z5 z6 q0 q1 q2 q3 q4 q5 q6
        go_wp2
        go_roundw
        case rel => exact ⟨j + 1, by go_num, by omega, HR9, HB9⟩
        case measure => simp [intOf]; have := HM.out; omega
      · have fj : decide ((j : Int) < (cn : Int)) = false := by simp; omega
        have ej : j = cn := by omega
        subst ej
        have HE := Lib.hid (HEND.out wA HRJ.out HBJ.out)
        clear HRJ HBJ hlt hj
        go_wp2
        refine bodyPost_ret (v := .tuple #[.slice (some ⟨N, 0, none⟩) j j, .int .i64 0]) (by simp [results, Try.results23]) rfl ?_
        exact HE.out
end Go.Proofs.Ytpjakfbjiioflaa
