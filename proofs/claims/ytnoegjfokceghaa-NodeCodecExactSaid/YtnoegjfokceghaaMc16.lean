/-
  The reference's EncodeNode.
  Conditions: none.
  The reference's DecodeCap.
  Conditions: none.
-/
import Derived.Test.YtnoegjfokceghaaMc15
import Derived.Test.YtnoegjfokceghaaMc14
import Derived.Test.YtnoegjfokceghaaMc10
namespace Go.Proofs.Ytnoegjfokceghaa

open Go.RowKit

def hdN (x : GN) : List UInt8 := idL x.id ++ uvar x.path.length
def encN (x : GN) : List UInt8 := hdN x ++ x.path.flatMap idL ++ encC x.cap
theorem flat_len (xs : List GId) : (xs.flatMap idL).length ≤ 30 * xs.length := by
  induction xs with
  | nil => simp
  | cons y r ih => have := idL_len y; rw [List.flatMap_cons, List.length_append, List.length_cons]; omega
theorem flat_succ (xs : List GId) {k : Nat} (hk : k < xs.length) : (xs.take (k + 1)).flatMap idL = (xs.take k).flatMap idL ++ idL xs[k] := by
  rw [List.take_succ_eq_append_getElem hk, List.flatMap_append]; simp
theorem vN_facts {x : GN} (h : vN x = true) : vI x.id = true ∧ vC x.cap = true ∧ x.path.length ≤ 8 ∧ (∀ k (hk : k < x.path.length), vI x.path[k] = true) ∧ hasI x.path x.id = false ∧ x.path.Pairwise (· ≠ ·) := by
  unfold vN vP at h
  simp only [Bool.and_eq_true, decide_eq_true_eq, Bool.not_eq_true', List.all_eq_true] at h
  exact ⟨h.1.1.1.1, h.1.1.1.2, h.1.1.2, fun k hk => h.2.1 _ (List.getElem_mem hk), h.1.2, h.2.2⟩
theorem Own.keepB {w w' : World} {base B : Nat} {v : Value} {l : List UInt8} (h : Own w base v l) (hb : Below B w w') (hB : w.heap.size ≤ B) : Own w' base v l := Own.g12.2 ((Own.g12.1 h).keep fun g hg => hb.block g (Nat.lt_of_lt_of_le ((Own.g12.1 h).lt g hg).2 hB))
set_option maxRecDepth 20000 in
set_option maxHeartbeats 2000000 in
theorem rEncN_any (x : GN) (A : Option Addr) (c : Nat) (w : World) (h1 : PRow w w.heap.size A x.path) (hl : x.path.length ≤ 17179869184) (hc : x.path.length ≤ c) :
    Calls Try.prog 29 #[x.val A c] w (EncEnd (if vN x = true then 0 else 1) (if vN x = true then encN x else []) w) := by
  have HV := Lib.hid fun W (hW : Below w.heap.size w W) => rVN_any x A c W (h1.next hW) hl hc
  have HVF := Lib.hid (vN_facts (x := x))
  have HEC : Hid (encN x = hdN x ++ x.path.flatMap idL ++ encC x.cap) := Lib.hid rfl
  have HHC : Hid (hdN x = [] ++ idL x.id ++ uvar x.path.length) := Lib.hid rfl
  have HCP := Lib.hid fun W => rEnc_any x.cap W
  obtain ⟨q, hq⟩ : ∃ q : Int, q = if vN x = true then 0 else 1 := ⟨_, rfl⟩
  obtain ⟨lx, hlx⟩ : ∃ lx, lx = if vN x = true then encN x else [] := ⟨_, rfl⟩
  have HQ1 : Hid (vN x = true → q = 0 ∧ lx = encN x) := Lib.hid fun h => by rw [hq, hlx, if_pos h, if_pos h]; exact ⟨rfl, rfl⟩
  have HQ0 : Hid (vN x = false → q = 1 ∧ lx = []) := Lib.hid fun h => by rw [hq, hlx, h]; exact ⟨rfl, rfl⟩
  rw [← hq, ← hlx]
  clear hq hlx
  have HNB := Lib.hid (NB.new w x.id A x.path.length c x.cap)
  have HROW := Lib.hid fun W (hW : Below w.heap.size w W) => h1.next hW
  generalize encN x = ec at *
  generalize hdN x = hd at *
  generalize vN x = vv at *
  unfold GN.val at *
  generalize x.id = xi at *
  generalize x.cap = xc at *
  obtain ⟨i0, i1, i2⟩ := xi
  obtain ⟨a0, a1, a2, a3, a4, a5, a6⟩ := xc
  generalize x.path = xs at *
  clear h1
  simp only [GC.val] at *
  have HB1 := Lib.hid (belt (Below.refl _ w) (.cells #[.int .i64 i0, .int .i64 i1, .int .i64 i2, .slice A xs.length c, .int .i64 a0, .int .i64 a1, .int .i64 a2, .int .i64 a3, .int .i64 a4, .int .i64 a5, .bool a6] 28))
  have hn1 : (w.alloc (.cells #[.int .i64 i0, .int .i64 i1, .int .i64 i2, .slice A xs.length c, .int .i64 a0, .int .i64 a1, .int .i64 a2, .int .i64 a3, .int .i64 a4, .int .i64 a5, .bool a6] 28)).heap.size = w.heap.size + 1 := by simp
  go_enter Try.func29, Try.ntmps29
  go_upto_region 1 with fail
  generalize w.alloc (.cells #[.int .i64 i0, .int .i64 i1, .int .i64 i2, .slice A xs.length c, .int .i64 a0, .int .i64 a1, .int .i64 a2, .int .i64 a3, .int .i64 a4, .int .i64 a5, .bool a6] 28) = w1 at *
  obtain ⟨N1, hN1⟩ : ∃ N1, N1 = w1.heap.size := ⟨_, rfl⟩
  have HN1 : Hid (∀ {W : World}, Below N1 w1 W → NB W w.heap.size ⟨i0, i1, i2⟩ A xs.length c ⟨a0, a1, a2, a3, a4, a5, a6⟩) := Lib.hid fun hW => HNB.out.next (by rw [← hN1]; exact hW)
  have HBW : Hid (∀ {W : World}, Below N1 w1 W → Below w.heap.size w W) := Lib.hid fun hW => HB1.out.trans (hW.mono (by omega))
  have HND : Hid (w.heap.size + 1 = N1) := Lib.hid (by omega)
  have HNS : Hid (∀ {W : World}, Below N1 w1 W → N1 ≤ W.heap.size) := Lib.hid fun hW => by have := hW.size; omega
  have HBN : Hid (∀ {W : World}, Below w1.heap.size w1 W → Below N1 w1 W) := Lib.hid fun hW => by rw [hN1]; exact hW
  have HR1 : Hid (Below N1 w1 w1) := Lib.hid (Below.refl _ _)
  clear hN1 hn1 HNB
  obtain ⟨c0, c1, c2, c3, c4, c5, c6, c7, c8, c9, c10⟩ := NB.cells (HN1.out HR1.out)
  try simp only at c0 c1 c2 c3 c4 c5 c6 c7 c8 c9 c10
  go_wp2_with fail
  go_fit (HV.out _ HB1.out)
  rintro e w2 ⟨rfl, hb2⟩
  have HB2 : Hid (Below N1 w1 w2) := Lib.hid (HBN.out hb2)
  clear hb2 HR1 HB1 c0 c1 c2 c3 c4 c5 c6 c7 c8 c9 c10
  rcases vv with _ | _
  · obtain ⟨e1, e2⟩ := HQ0.out rfl
    have HE : Hid (EncEnd q lx w (.returned (.tuple #[.slice none 0 0, .int .i64 1])) w2) := Lib.hid (by rw [e1, e2]; exact ⟨_, rfl, Own.nil _ _, HBW.out HB2.out⟩)
    clear e1 e2
    go_wp2
    refine bodyPost_ret (v := .tuple #[.slice none 0 0, .int .i64 1]) (by simp [results, Try.results29]) rfl ?_
    exact HE.out
  obtain ⟨e1, e2⟩ := HQ1.out rfl
  have HE1 : Hid (∀ v W, Own W N1 v (hd ++ xs.flatMap idL ++ encC ⟨a0, a1, a2, a3, a4, a5, a6⟩) → Below N1 w1 W → EncEnd q lx w (.returned (.tuple #[v, .int .i64 0])) W) := Lib.hid fun v W hO hB => by rw [e1, e2, HEC.out]; exact ⟨_, rfl, hO.low (by have := HND.out; omega), HBW.out hB⟩
  clear e1 e2 HQ0 HQ1 HEC
  generalize EncEnd q lx w = EE at *
  have HV0 := Lib.hid (HVF.out rfl)
  clear HVF HV
  have hS : Below N1 w1 w2.drew := HB2.out.drew
  have HOC := Lib.hid (Own.nil w2.drew N1)
  have HBC := Lib.hid (HNS.out hS)
  have HL2 : Hid (([] ++ idL ⟨i0, i1, i2⟩).length ≤ 99000) := Lib.hid (by have := idL_len ⟨i0, i1, i2⟩; simp; omega)
  have HL3 : Hid (xs.length < 9223372036854775808) := Lib.hid (by omega)
  clear HB2
  go_upto_region 3 with fail
  refine wp_region_growS (S := fun W => Below N1 w1 W) [(0, true), (1, true), (3, true), (4, true), (5, true), (2, false), (6, false), (7, true)] (by kernel_rfl) (by kernel_rfl) (by kernel_rfl) (by kernel_rfl) (by intro c a d v w h; cases d <;> exact h) hS ?_
  iterate 5
    (first
      | (refine wpGrowS_float (v := ?_) (by simp only [List.getElem?_toArray, List.getElem?_cons_succ, List.getElem?_cons_zero]; rfl) (by rfl) ?_ ?_
         rotate_left
         · (intro W hW; obtain ⟨c0, c1, c2, c3, c4, c5, c6, c7, c8, c9, c10⟩ := NB.cells (HN1.out hW); (try simp only at *); go_simp; try with_reducible rfl)
         simp only [Act.put, List.setIfInBounds_toArray, List.set_cons_zero, List.set_cons_succ])
      | (refine wpGrowS_skip (by simp only [List.getElem?_toArray, List.getElem?_cons_succ, List.getElem?_cons_zero]; rfl) (by rfl) ?_
         simp only [Act.put, List.setIfInBounds_toArray, List.set_cons_zero, List.set_cons_succ]))
  refine wpGrowS_call (by simp only [List.getElem?_toArray, List.getElem?_cons_succ, List.getElem?_cons_zero]; rfl) (by rfl) fun K hK => ?_
  go_simp
  go_fit (rPutI_any _ HV0.out.1 _ _ N1 _ HOC.out HBC.out (by simp))
  rintro e wn ⟨v2, rfl, hon, hbn⟩
  have hSp := hS
  have hS : Below N1 w1 wn := hS.trans (hbn.bel HOC.out HBC.out)
  have HOC := Lib.hid hon
  have HBC := Lib.hid (HNS.out hS)
  clear hon hSp hbn
  go_simp
  refine hK _ _ hS ?_
  clear hK K
  try simp only [Act.put, List.setIfInBounds_toArray, List.set_cons_zero, List.set_cons_succ]
  refine wpGrowS_call (by simp only [List.getElem?_toArray, List.getElem?_cons_succ, List.getElem?_cons_zero]; rfl) (by rfl) fun K hK => ?_
  go_simp
  go_fit (rPutU_any xs.length _ _ N1 _ HOC.out HBC.out HL2.out HL3.out)
  rintro e wn ⟨v3, rfl, hon, hbn⟩
  have hSp := hS
  have hS : Below N1 w1 wn := hS.trans (hbn.bel HOC.out HBC.out)
  have HOC := Lib.hid hon
  have HBC := Lib.hid (HNS.out hS)
  clear hon hSp hbn
  go_simp
  refine hK _ _ hS ?_
  clear hK K
  try simp only [Act.put, List.setIfInBounds_toArray, List.set_cons_zero, List.set_cons_succ]
  iterate 1
    (first
      | (refine wpGrowS_float (v := ?_) (by simp only [List.getElem?_toArray, List.getElem?_cons_succ, List.getElem?_cons_zero]; rfl) (by rfl) ?_ ?_
         rotate_left
         · (intro W hW; obtain ⟨c0, c1, c2, c3, c4, c5, c6, c7, c8, c9, c10⟩ := NB.cells (HN1.out hW); (try simp only at *); go_simp; try with_reducible rfl)
         simp only [Act.put, List.setIfInBounds_toArray, List.set_cons_zero, List.set_cons_succ])
      | (refine wpGrowS_skip (by simp only [List.getElem?_toArray, List.getElem?_cons_succ, List.getElem?_cons_zero]; rfl) (by rfl) ?_
         simp only [Act.put, List.setIfInBounds_toArray, List.set_cons_zero, List.set_cons_succ]))
  refine wpGrowS_nil ?_
  rw [← HHC.out] at HOC
  have HHL : Hid (hd.length ≤ 100) := Lib.hid (by have h1 := idL_len ⟨i0, i1, i2⟩; have h2 := uvar_len xs.length; rw [HHC.out]; simp only [List.length_append, List.length_nil]; omega)
  clear HHC HL2 HBC
  have HB3 := Lib.hid hS
  clear hS
  have HOC2 : Hid (Own _ N1 v3 (hd ++ (xs.take 0).flatMap idL)) := Lib.hid (by simpa using HOC.out)
  have HLH : Hid (hd.length ≤ 200) := Lib.hid (by have h5 := HHL.out; omega)
  clear HOC
  go_wp2
  go_loopw [4, 5] (fun v4 v5 wr => ∃ k : Nat, v5 = .int .i64 k ∧ k ≤ xs.length ∧ Hid (Own wr N1 v4 (hd ++ (xs.take k).flatMap idL)) ∧ Hid (Below N1 w1 wr)) (fun _ v5 _ => xs.length - (intOf v5).toNat)
  case atStart => exact ⟨0, rfl, by omega, HOC2, HB3⟩
  case round =>
    obtain ⟨k, rfl, hk, HO, HB⟩ := hrel
    obtain ⟨c0, c1, c2, c3, c4, c5, c6, c7, c8, c9, c10⟩ := NB.cells (HN1.out HB.out)
    try simp only at c0 c1 c2 c3 c4 c5 c6 c7 c8 c9 c10
    obtain ⟨A4, cp4, rfl, hq1, hq2, hq3⟩ := HO.out.form
    clear hq1 hq2 hq3
    have HLK : Hid ((hd ++ (xs.take k).flatMap idL).length ≤ 90000) := Lib.hid (by have h5 := HLH.out; have h6 := flat_len (xs.take k); have h7 : xs.length ≤ 8 := HV0.out.2.2.1; have h8 : (xs.take k).length ≤ k := (by rw [List.length_take]; exact Nat.min_le_left _ _); rw [List.length_append]; omega)
    generalize hn4 : (hd ++ (xs.take k).flatMap idL).length = n4 at *
    have HN4 := Lib.hid hn4
    clear hn4
    rcases Nat.lt_or_ge k xs.length with hlt | hge
    · obtain ⟨b1, o1, rfl, hb1, x0, x1, x2⟩ := (HROW.out _ (HBW.out HB.out)).gid hlt
      have HP := Lib.hid (rPutI_any xs[k] (HV0.out.2.2.2.1 k hlt) _ _ N1 wr HO.out (HNS.out HB.out) (by rw [HN4.out]; exact HLK.out))
      rw [List.append_assoc, ← flat_succ xs hlt] at HP
      generalize xs[k] = y at *
      obtain ⟨yc, yo, yp⟩ := y
      simp only [GId.val] at HP x0 x1 x2
      have hkl : decide ((k : Int) < (xs.length : Int)) = true := by simp; omega
      go_wp2_with fail
      go_fit (HP.out)
      rintro e w5 ⟨v5, rfl, ho5, hk5⟩
      have HO5 := Lib.hid ho5
      have HB5 := Lib.hid (HB.out.trans (hk5.bel HO.out (HNS.out HB.out)))
      clear ho5 hk5 HP x0 x1 x2 c0 c1 c2 c3 c4 c5 c6 c7 c8 c9 c10
      go_wp2
      go_roundw
      case rel => exact ⟨k + 1, by go_num, by omega, HO5, HB5⟩
      case measure => simp [intOf]; omega
    · obtain rfl : k = xs.length := by omega
      have HOF : Hid (Own wr N1 (.slice A4 n4 cp4) (hd ++ xs.flatMap idL)) := Lib.hid (by have h := HO.out; rw [List.take_length] at h; exact h)
      have HLF : Hid ((hd ++ xs.flatMap idL).length ≤ 90000) := Lib.hid (by have h5 := HLH.out; have h6 := flat_len xs; have h7 := HV0.out.2.2.1; rw [List.length_append]; omega)
      have HCP2 : Hid (∀ W, Calls Try.prog 54 #[.agg #[.int .i64 a0, .int .i64 a1, .int .i64 a2, .int .i64 a3, .int .i64 a4, .int .i64 a5, .bool a6]] W (EncEnd 0 (encC ⟨a0, a1, a2, a3, a4, a5, a6⟩) W)) := Lib.hid fun W => by have h := HCP.out W; rw [if_pos HV0.out.2.1, if_pos HV0.out.2.1] at h; exact h
      go_wp2_with fail
      go_fit (HCP2.out _)
      rintro e w5 ⟨v5, rfl, ho5, hb5⟩
      obtain ⟨A5, cp5, rfl, hq1, hq2, hby⟩ := ho5.form
      obtain ⟨v9, w9, hrun, ho9, hb9, _⟩ := (HOF.out.keepB hb5 (Nat.le_refl _)).app (w0 := w1) cp5 hby (HB.out.trans (hb5.mono (HNS.out HB.out))) (HNS.out (HB.out.trans (hb5.mono (HNS.out HB.out)))) (by have h5 := HLF.out; have h6 : (encC ⟨a0, a1, a2, a3, a4, a5, a6⟩).length = 10 := rfl; omega)
      have HRUN := Lib.hid hrun
      have HE := Lib.hid (HE1.out _ _ ho9 hb9)
      clear hq1 hq2 hby hrun ho9 hb9 ho5 hb5
      generalize (encC ⟨a0, a1, a2, a3, a4, a5, a6⟩).length = n5 at *
      go_wp2_with (at_builtin; refine wpList_app_run HRUN.out rfl rfl rfl rfl rfl ?_)
      exact HE.out
end Go.Proofs.Ytnoegjfokceghaa


namespace Go.Proofs.Ytnoegjfokceghaa

open Go.RowKit

def bI (l : List UInt8) (j : Nat) : Int := (bt l j : Int)
theorem bI_lt (l : List UInt8) (j : Nat) : 0 ≤ bI l j ∧ bI l j < 256 := by unfold bI; have := bt_lt l j; omega
/-- The address that stands in the last bytes, the first j of them. -/
def pB (l : List UInt8) : Nat → Int
  | 0 => 0
  | 1 => bI l 5
  | 2 => bI l 5 + bI l 6 * 256
  | 3 => bI l 5 + bI l 6 * 256 + bI l 7 * 65536
  | 4 => bI l 5 + bI l 6 * 256 + bI l 7 * 65536 + bI l 8 * 16777216
  | _ + 5 => bI l 5 + bI l 6 * 256 + bI l 7 * 65536 + bI l 8 * 16777216 + bI l 9 * 4294967296
def rawC (l : List UInt8) : GC := ⟨bI l 0, pB l 5, bI l 1, bI l 2 % 8, bI l 3, bI l 4, decide (8 ≤ bI l 2)⟩
def zC : GC := ⟨0, 0, 0, 0, 0, 0, false⟩
def decP (l : List UInt8) : Prop := l.length = 10 ∧ bI l 2 < 16 ∧ vC (rawC l) = true
instance (l : List UInt8) : Decidable (decP l) := by unfold decP; infer_instance
def decC (l : List UInt8) : GC := if decP l then rawC l else zC
def decE (l : List UInt8) : Int := if decP l then 0 else 14
set_option maxRecDepth 20000 in
set_option maxHeartbeats 4000000 in
theorem rDec_any (l : List UInt8) (A : Option Addr) (c : Nat) (w : World) (h : Byt w w.heap.size A l.length l) :
    Calls Try.prog 60 #[.slice A l.length c] w fun e w' => e = .returned (.tuple #[(decC l).val, .int .i64 (decE l)]) ∧ Below w.heap.size w w' := by
  have HV := Lib.hid fun W => rVC_any (rawC l) W
  have HY : Hid (¬ decP l → decC l = zC ∧ decE l = 14) := Lib.hid fun h => by unfold decC decE; rw [if_neg h, if_neg h]; exact ⟨rfl, rfl⟩
  have HN : Hid (decP l → decC l = rawC l ∧ decE l = 0) := Lib.hid fun h => by unfold decC decE; rw [if_pos h, if_pos h]; exact ⟨rfl, rfl⟩
  have HP : Hid (decP l ↔ l.length = 10 ∧ bI l 2 < 16 ∧ vC (rawC l) = true) := Lib.hid Iff.rfl
  generalize decC l = q at *
  generalize decE l = er at *
  by_cases h10 : l.length = 10
  rotate_left
  · have fb : ((l.length : Int) == 10) = false := by rw [beq_eq_false_iff_ne]; omega
    have fb2 : ((l.length : Int) != 10) = true := by rw [bne, fb]; rfl
    obtain ⟨e1, e2⟩ := HY.out fun hp => h10 (HP.out.1 hp).1
    subst e1 e2
    simp only [GC.val, zC]
    clear h10 HV HN HP h fb HY
    generalize (l.length : Nat) = n at *
    go_enter Try.func60, Try.ntmps60
    go_wp2
    refine bodyPost_ret (v := .tuple #[.agg #[.int .i64 0, .int .i64 0, .int .i64 0, .int .i64 0, .int .i64 0, .int .i64 0, .bool false], .int .i64 14]) (by simp [results, Try.results60, go_sem]) rfl ?_
    exact ⟨rfl, belt (Below.refl _ w) _⟩
  rw [h10] at h ⊢
  obtain ⟨b, off, rfl, hb, hc⟩ := h.at_ (by omega)
  have c0 : w.cell? ⟨b, off, none⟩ = some (.int .u8 (bI l 0)) := hc 0 (by omega)
  have c1 : w.cell? ⟨b, off + 1, none⟩ = some (.int .u8 (bI l 1)) := hc 1 (by omega)
  have c2 : w.cell? ⟨b, off + 2, none⟩ = some (.int .u8 (bI l 2)) := hc 2 (by omega)
  have c3 : w.cell? ⟨b, off + 3, none⟩ = some (.int .u8 (bI l 3)) := hc 3 (by omega)
  have c4 : w.cell? ⟨b, off + 4, none⟩ = some (.int .u8 (bI l 4)) := hc 4 (by omega)
  have c5 : w.cell? ⟨b, off + 5, none⟩ = some (.int .u8 (bI l 5)) := hc 5 (by omega)
  have c6 : w.cell? ⟨b, off + 6, none⟩ = some (.int .u8 (bI l 6)) := hc 6 (by omega)
  have c7 : w.cell? ⟨b, off + 7, none⟩ = some (.int .u8 (bI l 7)) := hc 7 (by omega)
  have c8 : w.cell? ⟨b, off + 8, none⟩ = some (.int .u8 (bI l 8)) := hc 8 (by omega)
  have c9 : w.cell? ⟨b, off + 9, none⟩ = some (.int .u8 (bI l 9)) := hc 9 (by omega)
  have b0 := bI_lt l 0
  have b1 := bI_lt l 1
  have b2 := bI_lt l 2
  have b3 := bI_lt l 3
  have b4 := bI_lt l 4
  have b5 := bI_lt l 5
  have b6 := bI_lt l 6
  have b7 := bI_lt l 7
  have b8 := bI_lt l 8
  have b9 := bI_lt l 9
  have P0 : Hid (pB l 0 = 0) := Lib.hid rfl
  have P1 : Hid (pB l 1 = bI l 5) := Lib.hid rfl
  have P2 : Hid (pB l 2 = bI l 5 + bI l 6 * 256) := Lib.hid rfl
  have P3 : Hid (pB l 3 = bI l 5 + bI l 6 * 256 + bI l 7 * 65536) := Lib.hid rfl
  have P4 : Hid (pB l 4 = bI l 5 + bI l 6 * 256 + bI l 7 * 65536 + bI l 8 * 16777216) := Lib.hid rfl
  have P5 : Hid (pB l 5 = bI l 5 + bI l 6 * 256 + bI l 7 * 65536 + bI l 8 * 16777216 + bI l 9 * 4294967296) := Lib.hid rfl
  have HR : Hid (rawC l = ⟨bI l 0, pB l 5, bI l 1, bI l 2 % 8, bI l 3, bI l 4, decide (8 ≤ bI l 2)⟩) := Lib.hid rfl
  generalize rawC l = rc at *
  generalize bI l = f at *
  generalize pB l = g at *
  generalize f 0 = x0 at *
  generalize f 1 = x1 at *
  generalize f 2 = x2 at *
  generalize f 3 = x3 at *
  generalize f 4 = x4 at *
  generalize f 5 = x5 at *
  generalize f 6 = x6 at *
  generalize f 7 = x7 at *
  generalize f 8 = x8 at *
  generalize f 9 = x9 at *
  clear hc h
  go_enter Try.func60, Try.ntmps60
  go_wp2
  go_loopw [4, 5] (fun v4 v5 wr => ∃ j : Nat, v5 = .int .i64 j ∧ j ≤ 5 ∧ v4 = .int .i64 (g j) ∧ wr = w.alloc (.cells #[.int .i64 0, .int .i64 0, .int .i64 0, .int .i64 0, .int .i64 0, .int .i64 0, .bool false] 26)) (fun _ v5 _ => 5 - (intOf v5).toNat)
  case atStart => exact ⟨0, rfl, by omega, by rw [P0.out], rfl⟩
  case round =>
    obtain ⟨j, rfl, hj, rfl, rfl⟩ := hrel
    rcases (show j = 0 ∨ j = 1 ∨ j = 2 ∨ j = 3 ∨ j = 4 ∨ j = 5 by omega) with rfl | rfl | rfl | rfl | rfl | rfl
    · rw [P0.out]
      go_wp2
      go_roundw
      case rel => exact ⟨1, by go_num, by omega, by rw [P1.out], trivial⟩
      case measure => simp [intOf]
    · rw [P1.out]
      go_wp2
      go_roundw
      case rel => exact ⟨2, by go_num, by omega, by rw [P2.out], trivial⟩
      case measure => simp [intOf]
    · rw [P2.out]
      go_wp2
      go_roundw
      case rel => exact ⟨3, by go_num, by omega, by rw [P3.out], trivial⟩
      case measure => simp [intOf]
    · rw [P3.out]
      go_wp2
      go_roundw
      case rel => exact ⟨4, by go_num, by omega, by rw [P4.out], trivial⟩
      case measure => simp [intOf]
    · rw [P4.out]
      go_wp2
      go_roundw
      case rel => exact ⟨5, by go_num, by omega, by rw [P5.out], trivial⟩
      case measure => simp [intOf]
    · go_wp2
      generalize hg5 : g 5 = g5 at *
      generalize hw1 : w.alloc (.cells #[.int .i64 0, .int .i64 0, .int .i64 0, .int .i64 0, .int .i64 0, .int .i64 0, .bool false] 26) = w1 at *
      have HW1 : Hid (Below w.heap.size w w1) := Lib.hid (by rw [← hw1]; exact belt (Below.refl _ w) _)
      have HZ : Hid (CB w1 w.heap.size zC) := Lib.hid (by rw [← hw1]; exact CB.new w zC)
      have hsz := HZ.out.lt
      have hb2 : b < w1.heap.size := by omega
      have d0 : w1.cell? ⟨b, off, none⟩ = some (.int .u8 x0) := (HW1.out.cell (p := ⟨b, off, none⟩) hb).trans c0
      have d1 : w1.cell? ⟨b, off + 1, none⟩ = some (.int .u8 x1) := (HW1.out.cell (p := ⟨b, off + 1, none⟩) hb).trans c1
      have d2 : w1.cell? ⟨b, off + 2, none⟩ = some (.int .u8 x2) := (HW1.out.cell (p := ⟨b, off + 2, none⟩) hb).trans c2
      have d3 : w1.cell? ⟨b, off + 3, none⟩ = some (.int .u8 x3) := (HW1.out.cell (p := ⟨b, off + 3, none⟩) hb).trans c3
      have d4 : w1.cell? ⟨b, off + 4, none⟩ = some (.int .u8 x4) := (HW1.out.cell (p := ⟨b, off + 4, none⟩) hb).trans c4
      clear hw1 c0 c1 c2 c3 c4 c5 c6 c7 c8 c9
      have hS := (Below.refl w1.heap.size w1).drew
      refine wp_region_growS (S := fun W => Below w1.heap.size w1 W) [(0, true), (1, true), (2, true), (3, true), (4, true), (5, true), (6, true), (7, true), (8, true), (9, true), (10, true), (11, true), (12, true), (13, true), (14, true), (15, true), (16, true), (17, true), (18, true), (19, true), (20, true), (21, true), (22, true), (23, true), (24, true), (25, true), (26, true), (27, true), (28, false), (29, false)] (by kernel_rfl) (by kernel_rfl) (by kernel_rfl) (by kernel_rfl) (by intro c a d v w h; cases d <;> exact h) hS ?_
      iterate 28
        (first
          | (refine wpGrowS_float (v := ?_) (by simp only [List.getElem?_toArray, List.getElem?_cons_succ, List.getElem?_cons_zero]; rfl) (by rfl) ?_ ?_
             rotate_left
             · (intro W hW; have t0 := (hW.cell (p := ⟨b, off, none⟩) hb2).trans d0; have t1 := (hW.cell (p := ⟨b, off + 1, none⟩) hb2).trans d1; have t2 := (hW.cell (p := ⟨b, off + 2, none⟩) hb2).trans d2; have t3 := (hW.cell (p := ⟨b, off + 3, none⟩) hb2).trans d3; have t4 := (hW.cell (p := ⟨b, off + 4, none⟩) hb2).trans d4; (try simp only at *); go_simp; try with_reducible rfl)
             simp only [Act.put, List.setIfInBounds_toArray, List.set_cons_zero, List.set_cons_succ])
          | (refine wpGrowS_skip (by simp only [List.getElem?_toArray, List.getElem?_cons_succ, List.getElem?_cons_zero]; rfl) (by rfl) ?_
             simp only [Act.put, List.setIfInBounds_toArray, List.set_cons_zero, List.set_cons_succ]))
      refine wpGrowS_call (by simp only [List.getElem?_toArray, List.getElem?_cons_succ, List.getElem?_cons_zero]; rfl) (by rfl) fun K hK => ?_
      go_simp
      have hS : Below w1.heap.size w1 (w1.drew.alloc (.cells #[.int .i64 0, .int .i64 0, .int .i64 0, .int .i64 0, .int .i64 0, .int .i64 0, .bool false] 26)) := belt (Below.refl _ w1).drew _
      refine hK _ _ hS ?_
      clear hK K
      try simp only [Act.put, List.setIfInBounds_toArray, List.set_cons_zero, List.set_cons_succ]
      refine wpGrowS_call (by simp only [List.getElem?_toArray, List.getElem?_cons_succ, List.getElem?_cons_zero]; rfl) (by rfl) fun K hK => ?_
      go_simp
      refine hK _ _ (belt (Below.refl _ w1) _).drew ?_
      clear hK K
      try simp only [Act.put, List.setIfInBounds_toArray, List.set_cons_zero, List.set_cons_succ]
      refine wpGrowS_nil ?_
      have e0 : IntKind.i64.wrap x0 = x0 := IntWalk.i64_in _ (by omega)
      have e1 : IntKind.i64.wrap x1 = x1 := IntWalk.i64_in _ (by omega)
      have e2 : IntKind.i64.wrap x2 = x2 := IntWalk.i64_in _ (by omega)
      have e3 : IntKind.i64.wrap x3 = x3 := IntWalk.i64_in _ (by omega)
      have e4 : IntKind.i64.wrap x4 = x4 := IntWalk.i64_in _ (by omega)
      have em : x2.tmod 8 = x2 % 8 := Int.tmod_eq_emod_of_nonneg (by omega)
      simp only [e0, e1, e2, e3, e4, em]
      generalize hw2 : (w1.alloc (.cells #[.int .i64 x0, .int .i64 g5, .int .i64 x1, .int .i64 (x2 % 8), .int .i64 x3, .int .i64 x4, .bool (decide (8 ≤ x2))] 26)).drew = w2 at *
      have HB2 : Hid (Below w1.heap.size w1 w2) := Lib.hid (by rw [← hw2]; exact (belt (Below.refl _ w1) _).drew)
      have HX2 : Hid (CB w2 w1.heap.size rc) := Lib.hid (by rw [← hw2, HR.out]; exact (CB.new w1 ⟨x0, g5, x1, x2 % 8, x3, x4, decide (8 ≤ x2)⟩).next (Below.refl _ _).drew)
      have c2 : w2.cell? ⟨b, off + 2, none⟩ = some (.int .u8 x2) := (HB2.out.cell (p := ⟨b, off + 2, none⟩) hb2).trans d2
      have hb3 : b < w2.heap.size := Nat.lt_of_lt_of_le hb2 HB2.out.size
      have HZ2 := Lib.hid (HZ.out.next HB2.out)
      have HBW := Lib.hid (beln HW1.out HB2.out)
      clear hw2 hS d0 d1 d2 d3 d4 e0 e1 e3 e4 em hg5 HR P0 P1 P2 P3 P4 P5 hj
      have HS : ∀ (W : World) (p : Value), Below w.heap.size w W → ∀ j, Below w.heap.size w (W.setCell ⟨w.heap.size, j, none⟩ p) := fun W p hb j => hb.setCell (p := ⟨w.heap.size, j, none⟩) (Nat.le_refl _) p
      have HSC := Lib.hid HS
      clear HS
      by_cases h16 : x2 < 16
      rotate_left
      · obtain ⟨q1, q2⟩ := HY.out fun hp => h16 (HP.out.1 hp).2.1
        subst q1 q2
        have f16 : decide (16 ≤ x2) = true := by simp; omega
        clear h16 HY HN HP HV
        obtain ⟨z0, z1, z2, z3, z4, z5, z6⟩ := HZ2.out.cells
        have zf := HZ2.out.frz
        have hzl := HZ2.out.lt
        simp only [zC] at *
        go_wp2
        refine bodyPost_ret (v := .tuple #[.agg #[.int .i64 0, .int .i64 0, .int .i64 0, .int .i64 0, .int .i64 0, .int .i64 0, .bool false], .int .i64 14]) (by simp [results, Try.results60, go_sem, z0, z1, z2, z3, z4, z5, z6]) rfl ?_
        exact ⟨rfl, HSC.out _ _ (HSC.out _ _ (HSC.out _ _ (HSC.out _ _ (HSC.out _ _ (HSC.out _ _ (HSC.out _ _ HBW.out _) _) _) _) _) _) _⟩
      have f16 : decide (16 ≤ x2) = false := by simp; omega
      have HVC := Lib.hid (HV.out w2)
      rcases hvc : vC rc with _ | _
      · obtain ⟨q1, q2⟩ := HY.out fun hp => by rw [(HP.out.1 hp).2.2] at hvc; cases hvc
        rw [hvc] at HVC
        subst q1 q2
        clear h16 HY HN HP HV hvc
        obtain ⟨rk, rb, rn, rr, rw_, rl, rd⟩ := rc
        obtain ⟨t0, t1, t2, t3, t4, t5, t6⟩ := HX2.out.cells
        simp only [GC.val] at *
        have htl := HX2.out.lt
        go_wp2_with fail
        go_fit HVC.out
        rintro e w3 ⟨rfl, hb3⟩
        have HB3 := Lib.hid (beln HBW.out hb3)
        have HZ3 := Lib.hid (HZ2.out.next hb3)
        clear hb3 t0 t1 t2 t3 t4 t5 t6 HVC
        obtain ⟨z0, z1, z2, z3, z4, z5, z6⟩ := HZ3.out.cells
        have zf := HZ3.out.frz
        have hzl := HZ3.out.lt
        simp only [zC] at z0 z1 z2 z3 z4 z5 z6 ⊢
        go_wp2
        refine bodyPost_ret (v := .tuple #[.agg #[.int .i64 0, .int .i64 0, .int .i64 0, .int .i64 0, .int .i64 0, .int .i64 0, .bool false], .int .i64 14]) (by simp [results, Try.results60, go_sem, z0, z1, z2, z3, z4, z5, z6]) rfl ?_
        exact ⟨rfl, HSC.out _ _ (HSC.out _ _ (HSC.out _ _ (HSC.out _ _ (HSC.out _ _ (HSC.out _ _ (HSC.out _ _ HB3.out _) _) _) _) _) _) _⟩
      · obtain ⟨q1, q2⟩ := HN.out (HP.out.2 ⟨by omega, h16, hvc⟩)
        rw [hvc] at HVC
        subst q1 q2
        clear h16 HY HN HP HV hvc
        obtain ⟨rk, rb, rn, rr, rw_, rl, rd⟩ := q
        obtain ⟨t0, t1, t2, t3, t4, t5, t6⟩ := HX2.out.cells
        simp only [GC.val] at *
        have htl := HX2.out.lt
        go_wp2_with fail
        go_fit HVC.out
        rintro e w3 ⟨rfl, hb3⟩
        have HB3 := Lib.hid (beln HBW.out hb3)
        have HZ3 := Lib.hid (HZ2.out.next hb3)
        have HX3 := Lib.hid (HX2.out.next hb3)
        clear hb3 t0 t1 t2 t3 t4 t5 t6 HVC
        obtain ⟨t0, t1, t2, t3, t4, t5, t6⟩ := HX3.out.cells
        obtain ⟨z0, z1, z2, z3, z4, z5, z6⟩ := HZ3.out.cells
        have zf := HZ3.out.frz
        have hzl := HZ3.out.lt
        have htl := HX3.out.lt
        simp only [zC] at z0 z1 z2 z3 z4 z5 z6 t0 t1 t2 t3 t4 t5 t6
        go_wp2
        refine bodyPost_ret (v := .tuple #[.agg #[.int .i64 rk, .int .i64 rb, .int .i64 rn, .int .i64 rr, .int .i64 rw_, .int .i64 rl, .bool rd], .int .i64 0]) (by simp [results, Try.results60, go_sem, z0, z1, z2, z3, z4, z5, z6]) rfl ?_
        exact ⟨rfl, HSC.out _ _ (HSC.out _ _ (HSC.out _ _ (HSC.out _ _ (HSC.out _ _ (HSC.out _ _ (HSC.out _ _ HB3.out _) _) _) _) _) _) _⟩
end Go.Proofs.Ytnoegjfokceghaa
