/-
  The reference's EncodeNode.
  Conditions: none.
-/
import Derived.Test.YtnoegjfokceghaaNag
namespace Go.Proofs.Ytnoegjfokceghaa

open Go.RowKit

def hdN (x : GN) : List UInt8 := idL x.id ++ uvar x.path.length
def encN (x : GN) : List UInt8 := hdN x ++ x.path.flatMap idL ++ encC x.cap
theorem flat_len (xs : List GId) : (xs.flatMap idL).length ≤ 30 * xs.length := by
  induction xs with
  | nil => simp
  | cons y r ih => have := idL_len y; rw [List.flatMap_cons, List.length_append, List.length_cons]; omega
theorem flat_succ (xs : List GId) {k : Nat} (hk : k < xs.length) : (xs.take (k + 1)).flatMap idL = (xs.take k).flatMap idL ++ idL xs[k] := by
  rw [List.take_succ_eq_append_getElem hk, List.flatMap_append]; simp
theorem vN_facts {x : GN} (h : vN x = true) : vI x.id = true ∧ vC x.cap = true ∧ x.path.length ≤ 8 ∧ (∀ k (hk : k < x.path.length), vI x.path[k] = true) ∧ hasI x.path x.id = false ∧ x.path.Pairwise (· ≠ ·) := by
  unfold vN vP at h
  simp only [Bool.and_eq_true, decide_eq_true_eq, Bool.not_eq_true', List.all_eq_true] at h
  exact ⟨h.1.1.1.1, h.1.1.1.2, h.1.1.2, fun k hk => h.2.1 _ (List.getElem_mem hk), h.1.2, h.2.2⟩
theorem Own.keepB {w w' : World} {base B : Nat} {v : Value} {l : List UInt8} (h : Own w base v l) (hb : Below B w w') (hB : w.heap.size ≤ B) : Own w' base v l := Own.g12.2 ((Own.g12.1 h).keep fun g hg => hb.block g (Nat.lt_of_lt_of_le ((Own.g12.1 h).lt g hg).2 hB))
set_option maxRecDepth 20000 in
set_option maxHeartbeats 2000000 in
theorem rEncN_any (x : GN) (A : Option Addr) (c : Nat) (w : World) (h1 : PRow w w.heap.size A x.path) (hl : x.path.length ≤ 17179869184) (hc : x.path.length ≤ c) :
    Calls Try.prog 29 #[x.val A c] w (EncEnd (if vN x = true then 0 else 1) (if vN x = true then encN x else []) w) := by
  have HV := Lib.hid fun W (hW : Below w.heap.size w W) => rVN_any x A c W (h1.next hW) hl hc
  have HVF := Lib.hid (vN_facts (x := x))
  have HEC : Hid (encN x = hdN x ++ x.path.flatMap idL ++ encC x.cap) := Lib.hid rfl
  have HHC : Hid (hdN x = [] ++ idL x.id ++ uvar x.path.length) := Lib.hid rfl
  have HCP := Lib.hid fun W => rEnc_any x.cap W
  obtain ⟨q, hq⟩ : ∃ q : Int, q = if vN x = true then 0 else 1 := ⟨_, rfl⟩
  obtain ⟨lx, hlx⟩ : ∃ lx, lx = if vN x = true then encN x else [] := ⟨_, rfl⟩
  have HQ1 : Hid (vN x = true → q = 0 ∧ lx = encN x) := Lib.hid fun h => by rw [hq, hlx, if_pos h, if_pos h]; exact ⟨rfl, rfl⟩
  have HQ0 : Hid (vN x = false → q = 1 ∧ lx = []) := Lib.hid fun h => by rw [hq, hlx, h]; exact ⟨rfl, rfl⟩
  rw [← hq, ← hlx]
  clear hq hlx
  have HNB := Lib.hid (NB.new w x.id A x.path.length c x.cap)
  have HROW := Lib.hid fun W (hW : Below w.heap.size w W) => h1.next hW
  generalize encN x = ec at *
  generalize hdN x = hd at *
  generalize vN x = vv at *
  unfold GN.val at *
  generalize x.id = xi at *
  generalize x.cap = xc at *
  obtain ⟨i0, i1, i2⟩ := xi
  obtain ⟨a0, a1, a2, a3, a4, a5, a6⟩ := xc
  generalize x.path = xs at *
  clear h1
  simp only [GC.val] at *
  have HB1 := Lib.hid (belt (Below.refl _ w) (.cells #[.int .i64 i0, .int .i64 i1, .int .i64 i2, .slice A xs.length c, .int .i64 a0, .int .i64 a1, .int .i64 a2, .int .i64 a3, .int .i64 a4, .int .i64 a5, .bool a6] 28))
  have hn1 : (w.alloc (.cells #[.int .i64 i0, .int .i64 i1, .int .i64 i2, .slice A xs.length c, .int .i64 a0, .int .i64 a1, .int .i64 a2, .int .i64 a3, .int .i64 a4, .int .i64 a5, .bool a6] 28)).heap.size = w.heap.size + 1 := by simp
  go_enter Try.func29, Try.ntmps29
  go_upto_region 1 with fail
  generalize w.alloc (.cells #[.int .i64 i0, .int .i64 i1, .int .i64 i2, .slice A xs.length c, .int .i64 a0, .int .i64 a1, .int .i64 a2, .int .i64 a3, .int .i64 a4, .int .i64 a5, .bool a6] 28) = w1 at *
  obtain ⟨N1, hN1⟩ : ∃ N1, N1 = w1.heap.size := ⟨_, rfl⟩
  have HN1 : Hid (∀ {W : World}, Below N1 w1 W → NB W w.heap.size ⟨i0, i1, i2⟩ A xs.length c ⟨a0, a1, a2, a3, a4, a5, a6⟩) := Lib.hid fun hW => HNB.out.next (by rw [← hN1]; exact hW)
  have HBW : Hid (∀ {W : World}, Below N1 w1 W → Below w.heap.size w W) := Lib.hid fun hW => HB1.out.trans (hW.mono (by omega))
  have HND : Hid (w.heap.size + 1 = N1) := Lib.hid (by omega)
  have HNS : Hid (∀ {W : World}, Below N1 w1 W → N1 ≤ W.heap.size) := Lib.hid fun hW => by have := hW.size; omega
  have HBN : Hid (∀ {W : World}, Below w1.heap.size w1 W → Below N1 w1 W) := Lib.hid fun hW => by rw [hN1]; exact hW
  have HR1 : Hid (Below N1 w1 w1) := Lib.hid (Below.refl _ _)
  clear hN1 hn1 HNB
  obtain ⟨c0, c1, c2, c3, c4, c5, c6, c7, c8, c9, c10⟩ := NB.cells (HN1.out HR1.out)
  try simp only at c0 c1 c2 c3 c4 c5 c6 c7 c8 c9 c10
  go_wp2_with fail
  go_fit (HV.out _ HB1.out)
  rintro e w2 ⟨rfl, hb2⟩
  have HB2 : Hid (Below N1 w1 w2) := Lib.hid (HBN.out hb2)
  clear hb2 HR1 HB1 c0 c1 c2 c3 c4 c5 c6 c7 c8 c9 c10
  rcases vv with _ | _
  · obtain ⟨e1, e2⟩ := HQ0.out rfl
    have HE : Hid (EncEnd q lx w (.returned (.tuple #[.slice none 0 0, .int .i64 1])) w2) := Lib.hid (by rw [e1, e2]; exact ⟨_, rfl, Own.nil _ _, HBW.out HB2.out⟩)
    clear e1 e2
    go_wp2
    refine bodyPost_ret (v := .tuple #[.slice none 0 0, .int .i64 1]) (by simp [results, Try.results29]) rfl ?_
    exact HE.out
  obtain ⟨e1, e2⟩ := HQ1.out rfl
  have HE1 : Hid (∀ v W, Own W N1 v (hd ++ xs.flatMap idL ++ encC ⟨a0, a1, a2, a3, a4, a5, a6⟩) → Below N1 w1 W → EncEnd q lx w (.returned (.tuple #[v, .int .i64 0])) W) := Lib.hid fun v W hO hB => by rw [e1, e2, HEC.out]; exact ⟨_, rfl, hO.low (by have := HND.out; omega), HBW.out hB⟩
  clear e1 e2 HQ0 HQ1 HEC
  generalize EncEnd q lx w = EE at *
  have HV0 := Lib.hid (HVF.out rfl)
  clear HVF HV
  have hS : Below N1 w1 w2.drew := HB2.out.drew
  have HOC := Lib.hid (Own.nil w2.drew N1)
  have HBC := Lib.hid (HNS.out hS)
  have HL2 : Hid (([] ++ idL ⟨i0, i1, i2⟩).length ≤ 99000) := Lib.hid (by have := idL_len ⟨i0, i1, i2⟩; simp; omega)
  have HL3 : Hid (xs.length < 9223372036854775808) := Lib.hid (by omega)
  clear HB2
  go_upto_region 3 with fail
  refine wp_region_growS (S := fun W => Below N1 w1 W) [(0, true), (1, true), (3, true), (4, true), (5, true), (2, false), (6, false), (7, true)] (by kernel_rfl) (by kernel_rfl) (by kernel_rfl) (by kernel_rfl) (by intro c a d v w h; cases d <;> exact h) hS ?_
  iterate 5
    (first
      | (refine wpGrowS_float (v := ?_) (by simp only [List.getElem?_toArray, List.getElem?_cons_succ, List.getElem?_cons_zero]; rfl) (by rfl) ?_ ?_
         rotate_left
         · (intro W hW; obtain ⟨c0, c1, c2, c3, c4, c5, c6, c7, c8, c9, c10⟩ := NB.cells (HN1.out hW); (try simp only at *); go_simp; try with_reducible rfl)
         simp only [Act.put, List.setIfInBounds_toArray, List.set_cons_zero, List.set_cons_succ])
      | (refine wpGrowS_skip (by simp only [List.getElem?_toArray, List.getElem?_cons_succ, List.getElem?_cons_zero]; rfl) (by rfl) ?_
         simp only [Act.put, List.setIfInBounds_toArray, List.set_cons_zero, List.set_cons_succ]))
  refine wpGrowS_call (by simp only [List.getElem?_toArray, List.getElem?_cons_succ, List.getElem?_cons_zero]; rfl) (by rfl) fun K hK => ?_
  go_simp
  go_fit (rPutI_any _ HV0.out.1 _ _ N1 _ HOC.out HBC.out (by simp))
  rintro e wn ⟨v2, rfl, hon, hbn⟩
  have hSp := hS
  have hS : Below N1 w1 wn := hS.trans (hbn.bel HOC.out HBC.out)
  have HOC := Lib.hid hon
  have HBC := Lib.hid (HNS.out hS)
  clear hon hSp hbn
  go_simp
  refine hK _ _ hS ?_
  clear hK K
  try simp only [Act.put, List.setIfInBounds_toArray, List.set_cons_zero, List.set_cons_succ]
  refine wpGrowS_call (by simp only [List.getElem?_toArray, List.getElem?_cons_succ, List.getElem?_cons_zero]; rfl) (by rfl) fun K hK => ?_
  go_simp
  go_fit (rPutU_any xs.length _ _ N1 _ HOC.out HBC.out HL2.out HL3.out)
  rintro e wn ⟨v3, rfl, hon, hbn⟩
  have hSp := hS
  have hS : Below N1 w1 wn := hS.trans (hbn.bel HOC.out HBC.out)
  have HOC := Lib.hid hon
  have HBC := Lib.hid (HNS.out hS)
  clear hon hSp hbn
  go_simp
  refine hK _ _ hS ?_
  clear hK K
  try simp only [Act.put, List.setIfInBounds_toArray, List.set_cons_zero, List.set_cons_succ]
  iterate 1
    (first
      | (refine wpGrowS_float (v := ?_) (by simp only [List.getElem?_toArray, List.getElem?_cons_succ, List.getElem?_cons_zero]; rfl) (by rfl) ?_ ?_
         rotate_left
         · (intro W hW; obtain ⟨c0, c1, c2, c3, c4, c5, c6, c7, c8, c9, c10⟩ := NB.cells (HN1.out hW); (try simp only at *); go_simp; try with_reducible rfl)
         simp only [Act.put, List.setIfInBounds_toArray, List.set_cons_zero, List.set_cons_succ])
      | (refine wpGrowS_skip (by simp only [List.getElem?_toArray, List.getElem?_cons_succ, List.getElem?_cons_zero]; rfl) (by rfl) ?_
         simp only [Act.put, List.setIfInBounds_toArray, List.set_cons_zero, List.set_cons_succ]))
  refine wpGrowS_nil ?_
  rw [← HHC.out] at HOC
  have HHL : Hid (hd.length ≤ 100) := Lib.hid (by have h1 := idL_len ⟨i0, i1, i2⟩; have h2 := uvar_len xs.length; rw [HHC.out]; simp only [List.length_append, List.length_nil]; omega)
  clear HHC HL2 HBC
  have HB3 := Lib.hid hS
  clear hS
  have HOC2 : Hid (Own _ N1 v3 (hd ++ (xs.take 0).flatMap idL)) := Lib.hid (by simpa using HOC.out)
  have HLH : Hid (hd.length ≤ 200) := Lib.hid (by have h5 := HHL.out; omega)
  clear HOC
  go_wp2
  go_loopw [4, 5] (fun v4 v5 wr => ∃ k : Nat, v5 = .int .i64 k ∧ k ≤ xs.length ∧ Hid (Own wr N1 v4 (hd ++ (xs.take k).flatMap idL)) ∧ Hid (Below N1 w1 wr)) (fun _ v5 _ => xs.length - (intOf v5).toNat)
  case atStart => exact ⟨0, rfl, by omega, HOC2, HB3⟩
  case round =>
    obtain ⟨k, rfl, hk, HO, HB⟩ := hrel
    obtain ⟨c0, c1, c2, c3, c4, c5, c6, c7, c8, c9, c10⟩ := NB.cells (HN1.out HB.out)
    try simp only at c0 c1 c2 c3 c4 c5 c6 c7 c8 c9 c10
    obtain ⟨A4, cp4, rfl, hq1, hq2, hq3⟩ := HO.out.form
    clear hq1 hq2 hq3
    have HLK : Hid ((hd ++ (xs.take k).flatMap idL).length ≤ 90000) := Lib.hid (by have h5 := HLH.out; have h6 := flat_len (xs.take k); have h7 : xs.length ≤ 8 := HV0.out.2.2.1; have h8 : (xs.take k).length ≤ k := (by rw [List.length_take]; exact Nat.min_le_left _ _); rw [List.length_append]; omega)
    generalize hn4 : (hd ++ (xs.take k).flatMap idL).length = n4 at *
    have HN4 := Lib.hid hn4
    clear hn4
    rcases Nat.lt_or_ge k xs.length with hlt | hge
    · obtain ⟨b1, o1, rfl, hb1, x0, x1, x2⟩ := (HROW.out _ (HBW.out HB.out)).gid hlt
      have HP := Lib.hid (rPutI_any xs[k] (HV0.out.2.2.2.1 k hlt) _ _ N1 wr HO.out (HNS.out HB.out) (by rw [HN4.out]; exact HLK.out))
      rw [List.append_assoc, ← flat_succ xs hlt] at HP
      generalize xs[k] = y at *
      obtain ⟨yc, yo, yp⟩ := y
      simp only [GId.val] at HP x0 x1 x2
      have hkl : decide ((k : Int) < (xs.length : Int)) = true := by simp; omega
      go_wp2_with fail
      go_fit (HP.out)
      rintro e w5 ⟨v5, rfl, ho5, hk5⟩
      have HO5 := Lib.hid ho5
      have HB5 := Lib.hid (HB.out.trans (hk5.bel HO.out (HNS.out HB.out)))
      clear ho5 hk5 HP x0 x1 x2 c0 c1 c2 c3 c4 c5 c6 c7 c8 c9 c10
      go_wp2
      go_roundw
      case rel => exact ⟨k + 1, by go_num, by omega, HO5, HB5⟩
      case measure => simp [intOf]; omega
    · obtain rfl : k = xs.length := by omega
      have HOF : Hid (Own wr N1 (.slice A4 n4 cp4) (hd ++ xs.flatMap idL)) := Lib.hid (by have h := HO.out; rw [List.take_length] at h; exact h)
      have HLF : Hid ((hd ++ xs.flatMap idL).length ≤ 90000) := Lib.hid (by have h5 := HLH.out; have h6 := flat_len xs; have h7 := HV0.out.2.2.1; rw [List.length_append]; omega)
      have HCP2 : Hid (∀ W, Calls Try.prog 54 #[.agg #[.int .i64 a0, .int .i64 a1, .int .i64 a2, .int .i64 a3, .int .i64 a4, .int .i64 a5, .bool a6]] W (EncEnd 0 (encC ⟨a0, a1, a2, a3, a4, a5, a6⟩) W)) := Lib.hid fun W => by have h := HCP.out W; rw [if_pos HV0.out.2.1, if_pos HV0.out.2.1] at h; exact h
      go_wp2_with fail
      go_fit (HCP2.out _)
      rintro e w5 ⟨v5, rfl, ho5, hb5⟩
      obtain ⟨A5, cp5, rfl, hq1, hq2, hby⟩ := ho5.form
      obtain ⟨v9, w9, hrun, ho9, hb9, _⟩ := (HOF.out.keepB hb5 (Nat.le_refl _)).app (w0 := w1) cp5 hby (HB.out.trans (hb5.mono (HNS.out HB.out))) (HNS.out (HB.out.trans (hb5.mono (HNS.out HB.out)))) (by have h5 := HLF.out; have h6 : (encC ⟨a0, a1, a2, a3, a4, a5, a6⟩).length = 10 := rfl; omega)
      have HRUN := Lib.hid hrun
      have HE := Lib.hid (HE1.out _ _ ho9 hb9)
      clear hq1 hq2 hby hrun ho9 hb9 ho5 hb5
      generalize (encC ⟨a0, a1, a2, a3, a4, a5, a6⟩).length = n5 at *
      go_wp2_with (at_builtin; refine wpList_app_run HRUN.out rfl rfl rfl rfl rfl ?_)
      exact HE.out
end Go.Proofs.Ytnoegjfokceghaa
