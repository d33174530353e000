/-
  The reference's comparison of facts, and of lists of facts.
  Conditions: a fact has at most 2^40 arguments, a list at most 2^40 facts; kinds are ints of the language.
  A strings.Builder whose buffer lies above all that was there in an earlier world: what was there stays, but for the builder's own block.
  Conditions: what it holds takes at most 2^47 bytes.
  The grammar of facts over tokens, as plain functions; the parser's first error, sized names, marks, whatever the tokens.
  Conditions: the tokens end with one of kind 0, and no other has that kind; words and strings have at most 65536 bytes.
-/
import Derived.Test.YtmodjokoggmnaaaGreatDoorMa20
import Derived.Test.YtmodjokoggmnaaaGreatDoorMa16
import Derived.Test.YtmodjokoggmnaaaGreatDoorMa12
import Derived.Test.YtmodjokoggmnaaaGreatDoorMa13
import Derived.Deep.DeepFit
namespace Go.Proofs.YtmodjokoggmnaaaGreatDoor

open Go.RowKit Go.Shelf

def KindsWf (vs : List GVal) : Prop := ∀ v ∈ vs, (Lit.int .i64 v.kind).wf = true
theorem list3_same {xs ys : List GVal} {k : Nat} (h : xs.take k = ys.take k) (h1 : xs.length ≤ k) (h2 : ys.length ≤ k) : list3 cmpV xs ys = 0 := by
  rw [List.take_of_length_le h1, List.take_of_length_le h2] at h
  rw [h]; exact ord_val.list.self _
set_option maxRecDepth 50000 in
set_option maxHeartbeats 1000000 in
theorem rCompareLists_any (xs ys : List GVal) (A B : Option Addr) (ca cb : Nat) (w : World) (hA : GRow GVal.cells 3 w w.heap.size A xs) (hB : GRow GVal.cells 3 w w.heap.size B ys) (hl : xs.length = ys.length) (hx : xs.length ≤ 1099511627776) (kx : KindsWf xs) (ky : KindsWf ys) :
    Calls Tryz.prog 62 #[.slice A xs.length ca, .slice B ys.length cb] w fun e w' => e = .returned (.int .i64 (list3 cmpV xs ys)) ∧ Below w.heap.size w w' := by
  have HA := Lib.hid hA
  have HB := Lib.hid hB
  have HKX := Lib.hid kx
  have HKY := Lib.hid ky
  have hy : ys.length ≤ 1099511627776 := by omega
  have HL := Lib.hid hl
  clear hA hB kx ky hl
  go_enter Tryz.func62, Tryz.ntmps62
  go_wp2
  go_loopw [5] (fun vi wr => ∃ k : Nat, vi = .int .i64 k ∧ k ≤ xs.length ∧ k ≤ ys.length ∧ Hid (xs.take k = ys.take k) ∧ Hid (Below w.heap.size w wr)) (fun vi _ => xs.length - (intOf vi).toNat)
  case atStart => exact ⟨0, rfl, by omega, by omega, Lib.hid (by simp), Lib.hid (Below.refl _ _)⟩
  case round =>
    obtain ⟨k, rfl, hkx, hky, HT, HW⟩ := hrel
    have hsz := HW.out.size
    rcases Nat.lt_or_ge k xs.length with hlt | hge
    · have hly : k < ys.length := by have := HL.out; omega
      obtain ⟨b1, o1, rfl, hb1, x0, x1, x2⟩ := (HA.out.below (Nat.le_refl _) HW.out).val3 hlt
      obtain ⟨b2, o2, rfl, hb2, y0, y1, y2⟩ := (HB.out.below (Nat.le_refl _) HW.out).val3 hly
      have hl1 : b1 < wr.heap.size := by omega
      have hl2 : b2 < wr.heap.size := by omega
      have HD := Lib.hid (list3_diff HT.out hlt hly)
      have HS := Lib.hid (take_same HT.out hlt hly)
      have HC := Lib.hid fun W => rCompareValues_any xs[k] ys[k] W (HKX.out _ (List.getElem_mem hlt)) (HKY.out _ (List.getElem_mem hly))
      generalize xs[k] = x at *
      generalize ys[k] = y at *
      obtain ⟨xk, xi, xw⟩ := x
      obtain ⟨yk, yi, yw⟩ := y
      simp only [GVal.val] at *
      generalize cmpV ⟨xk, xi, xw⟩ ⟨yk, yi, yw⟩ = c at *
      have HKS : Hid (∀ W W' : World, (Below wr.heap.size wr W ∧ W.cell? ⟨b1, o1 + k * 3, none⟩ = some (.int .i64 xk) ∧ W.cell? ⟨b1, o1 + k * 3 + 1, none⟩ = some (.int .i64 xi) ∧ W.cell? ⟨b1, o1 + k * 3 + 2, none⟩ = some (.string ⟨xw.toArray⟩) ∧ W.cell? ⟨b2, o2 + k * 3, none⟩ = some (.int .i64 yk) ∧ W.cell? ⟨b2, o2 + k * 3 + 1, none⟩ = some (.int .i64 yi) ∧ W.cell? ⟨b2, o2 + k * 3 + 2, none⟩ = some (.string ⟨yw.toArray⟩)) → Below W.heap.size W W' →
          (Below wr.heap.size wr W' ∧ W'.cell? ⟨b1, o1 + k * 3, none⟩ = some (.int .i64 xk) ∧ W'.cell? ⟨b1, o1 + k * 3 + 1, none⟩ = some (.int .i64 xi) ∧ W'.cell? ⟨b1, o1 + k * 3 + 2, none⟩ = some (.string ⟨xw.toArray⟩) ∧ W'.cell? ⟨b2, o2 + k * 3, none⟩ = some (.int .i64 yk) ∧ W'.cell? ⟨b2, o2 + k * 3 + 1, none⟩ = some (.int .i64 yi) ∧ W'.cell? ⟨b2, o2 + k * 3 + 2, none⟩ = some (.string ⟨yw.toArray⟩))) := Lib.hid fun W W' h hb => by
        obtain ⟨h0, h1, h2, h3, h4, h5, h6⟩ := h
        have key : ∀ {N j : Nat} {v : Value}, W.cell? ⟨N, j, none⟩ = some v → W'.cell? ⟨N, j, none⟩ = some v := fun {N j v} h => (hb.cell (p := ⟨N, j, none⟩) (World.block_lt_of_cell? W _ h)).trans h
        exact ⟨bel_next h0 hb, key h1, key h2, key h3, key h4, key h5, key h6⟩
      have hS4 := HKS.out wr wr.drew ⟨Below.refl _ _, x0, x1, x2, y0, y1, y2⟩ ((Below.refl _ _).drew)
      clear x0 x1 x2 y0 y1 y2
      go_upto_region 4 with fail
      go_region_held3 (fun W => Below wr.heap.size wr W ∧ W.cell? ⟨b1, o1 + k * 3, none⟩ = some (.int .i64 xk) ∧ W.cell? ⟨b1, o1 + k * 3 + 1, none⟩ = some (.int .i64 xi) ∧ W.cell? ⟨b1, o1 + k * 3 + 2, none⟩ = some (.string ⟨xw.toArray⟩) ∧ W.cell? ⟨b2, o2 + k * 3, none⟩ = some (.int .i64 yk) ∧ W.cell? ⟨b2, o2 + k * 3 + 1, none⟩ = some (.int .i64 yi) ∧ W.cell? ⟨b2, o2 + k * 3 + 2, none⟩ = some (.string ⟨yw.toArray⟩))
        (assumption)
        (first | (go_at_call 100; go_fit (HC.out _); rintro e w1 ⟨rfl, hbn⟩; have hSn := HKS.out _ _ (by assumption) hbn))
      have HN := Lib.hid (bel_next HW.out hSn.1)
      clear hSn HKS HC
      by_cases hc : c = 0
      · have fc : (c != 0) = false := by simp [hc]
        have HS2 := Lib.hid (HS.out hc)
        go_wp2
        go_roundw
        case rel => exact ⟨k + 1, by go_num, by omega, by omega, HS2, HN⟩
        case measure => simp [intOf]; omega
      · have fc : (c != 0) = true := by simp [hc]
        go_wp2
        go_ret
        exact ⟨ret_int (HD.out hc).symm, HN.out⟩
    · have HZ := Lib.hid (list3_same HT.out hge (by have := HL.out; omega))
      go_wp2
      go_ret
      exact ⟨ret_int HZ.out.symm, HW.out⟩

set_option maxRecDepth 50000 in
set_option maxHeartbeats 1000000 in
theorem rCompare_any (f g : GFact) (s t : SFact) (w : World) (hf : FHold w w.heap.size s f) (hg : FHold w w.heap.size t g) (kf : KindsWf f.args) (kg : KindsWf g.args) :
    Calls Tryz.prog 33 #[.agg #[.string ⟨s.rel.toArray⟩, .slice s.A s.n s.c], .agg #[.string ⟨t.rel.toArray⟩, .slice t.A t.n t.c]] w fun e w' => e = .returned (.int .i64 (cmpF f g)) ∧ Below w.heap.size w w' := by
  obtain ⟨sr, A, sn, ca⟩ := s
  obtain ⟨tr, B, tn, cb⟩ := t
  obtain ⟨r, xs⟩ := f
  obtain ⟨q, ys⟩ := g
  have e1 := hf.rel
  have e2 := hf.n
  have e3 := hg.rel
  have e4 := hg.n
  have hx := hf.few
  have hy := hg.few
  have hA := hf.row
  have hB := hg.row
  simp only at *
  subst e1 e2 e3 e4
  clear hf hg
  have HE := Lib.hid (cmpF_eq ⟨sr, xs⟩ ⟨tr, ys⟩)
  have HT : Hid (∀ p q : Int, then3 p q = if p ≠ 0 then p else q) := Lib.hid fun _ _ => rfl
  have H1 := Lib.hid (rOrder_any sr tr)
  have H2 := Lib.hid (rNumber_any (xs.length : Int) (ys.length : Int))
  have HIZ := Lib.hid (ord_int.z (xs.length : Int) (ys.length : Int))
  have HC := Lib.hid fun W (hW : Below w.heap.size w W) (hl : xs.length = ys.length) => rCompareLists_any xs ys A B ca cb W (((hA.below (Nat.le_refl _) hW).wide hW.size)) (((hB.below (Nat.le_refl _) hW).wide hW.size)) hl hx kf kg
  have HB := Lib.hid (bel_lit (bel_lit (Below.refl w.heap.size w) (.cells #[.string ⟨sr.toArray⟩, .slice A xs.length ca] 37)) (.cells #[.string ⟨tr.toArray⟩, .slice B ys.length cb] 37))
  generalize cmpF ⟨sr, xs⟩ ⟨tr, ys⟩ = cf at *
  simp only at HE
  generalize Lib.compareBytes sr tr = c1 at *
  generalize Lib.compareInt (xs.length : Int) (ys.length : Int) = c2 at *
  generalize list3 cmpV xs ys = c3 at *
  clear hA hB kf kg
  go_enter Tryz.func33, Tryz.ntmps33
  go_wp2_with fail
  go_fit (H1.out _)
  rintro e w1 ⟨rfl, rfl⟩
  by_cases h1 : c1 = 0
  · have f1 : (c1 != 0) = false := by simp [h1]
    have HZ := Lib.hid h1
    clear h1
    go_wp2_with fail
    go_fit (H2.out _)
    rintro e w1 ⟨rfl, rfl⟩
    by_cases h2 : c2 = 0
    · have f2 : (c2 != 0) = false := by simp [h2]
      have HZ2 := Lib.hid h2
      have HLL := Lib.hid (HIZ.out.1 h2)
      clear h2
      go_wp2_with fail
      go_fit (HC.out _ HB.out (by have := HLL.out; omega))
      rintro e w1 ⟨rfl, hb⟩
      go_wp2
      go_ret
      exact ⟨ret_int (by rw [HE.out, HT.out, if_neg (by have := HZ.out; omega), HT.out, if_neg (by have := HZ2.out; omega)]), bel_next HB.out hb⟩
    · have f2 : (c2 != 0) = true := by simp [h2]
      go_wp2
      go_ret
      exact ⟨ret_int (by rw [HE.out, HT.out, if_neg (by have := HZ.out; omega), HT.out, if_pos h2]), HB.out⟩
  · have f1 : (c1 != 0) = true := by simp [h1]
    go_wp2
    go_ret
    exact ⟨ret_int (by rw [HE.out, HT.out, if_pos h1]), HB.out⟩

def SameEnd (fa fb : List GFact) (w : World) (e : Ending) (w' : World) : Prop := (∃ b, e = .returned (.bool b) ∧ (b = true ↔ fa = fb)) ∧ Below w.heap.size w w'
theorem facts_snoc {xs ys : List GFact} {k : Nat} (h : xs.take k = ys.take k) (h1 : k < xs.length) (h2 : k < ys.length) (hc : cmpF xs[k] ys[k] = 0) : xs.take (k + 1) = ys.take (k + 1) := by
  rw [List.take_succ_eq_append_getElem h1, List.take_succ_eq_append_getElem h2, h, (ord_fact.z _ _).1 hc]
theorem facts_diff {xs ys : List GFact} {k : Nat} (h1 : k < xs.length) (h2 : k < ys.length) (hc : cmpF xs[k] ys[k] ≠ 0) : xs ≠ ys := fun e => by
  subst e
  exact hc (ord_fact.self _)
def KindsF (fs : List GFact) : Prop := ∀ f ∈ fs, KindsWf f.args
theorem SetV.frow {w : World} {v : Value} {ss : List SFact} {fs : List GFact} (h : SetV w v ss fs) : ∃ A c, v = .slice A fs.length c ∧ FRow w w.heap.size A ss fs := by
  rcases h.row with ⟨rfl, h0⟩ | ⟨ad, c, rfl, hr⟩
  · have hf : fs = [] := List.eq_nil_of_length_eq_zero (by rw [← h.len, h0]; rfl)
    subst h0 hf
    exact ⟨none, 0, rfl, ⟨GRow.nil, rfl, fun i h1 => by simp at h1⟩⟩
  · exact ⟨some ad, c, by rw [h.len], ⟨hr, h.len, h.each⟩⟩
set_option maxRecDepth 50000 in
set_option maxHeartbeats 1000000 in
theorem rSame_any (va vb : Value) (sa sb : List SFact) (fa fb : List GFact) (w : World) (ha : SetV w va sa fa) (hb : SetV w vb sb fb) (na : fa.length ≤ 1099511627776) (ka : KindsF fa) (kb : KindsF fb) :
    Calls Tryz.prog 9 #[va, vb] w (SameEnd fa fb w) := by
  obtain ⟨A, ca, rfl, hA⟩ := ha.frow
  obtain ⟨B, cb, rfl, hB⟩ := hb.frow
  have HA := Lib.hid hA
  have HB := Lib.hid hB
  have hla := hA.len
  have hlb := hB.len
  have HKA := Lib.hid ka
  have HKB := Lib.hid kb
  clear ha hb hA hB ka kb
  by_cases hl : fa.length = fb.length
  · have HL := Lib.hid hl
    have fl : ((fa.length : Int) != (fb.length : Int)) = false := by simp [hl]
    clear hl
    go_enter Tryz.func9, Tryz.ntmps9
    go_wp2
    go_loopw [5] (fun vi wr => ∃ k : Nat, vi = .int .i64 k ∧ k ≤ fa.length ∧ Hid (fa.take k = fb.take k) ∧ Hid (Below w.heap.size w wr)) (fun vi _ => fa.length - (intOf vi).toNat)
    case atStart => exact ⟨0, rfl, by omega, Lib.hid (by simp), Lib.hid (Below.refl _ _)⟩
    case round =>
      obtain ⟨k, rfl, hk, HT, HW⟩ := hrel
      have hsz := HW.out.size
      rcases Nat.lt_or_ge k fa.length with hlt | hge
      · have hly : k < fb.length := by have := HL.out; omega
        have hls : k < sa.length := by omega
        have hlt' : k < sb.length := by omega
        obtain ⟨b1, o1, rfl, hb1, x0, x1⟩ := (HA.out.row.below (Nat.le_refl _) HW.out).fact2 hls
        obtain ⟨b2, o2, rfl, hb2, y0, y1⟩ := (HB.out.row.below (Nat.le_refl _) HW.out).fact2 hlt'
        have hl1 : b1 < wr.heap.size := by omega
        have hl2 : b2 < wr.heap.size := by omega
        have HD := Lib.hid (facts_diff hlt hly)
        have HS := Lib.hid (facts_snoc HT.out hlt hly)
        have HC := Lib.hid fun W (hW : Below wr.heap.size wr W) => rCompare_any fa[k] fb[k] sa[k] sb[k] W (((HA.out.each k hls hlt).next (Nat.le_refl _) HW.out).next (Nat.le_refl _) hW) (((HB.out.each k hlt' hly).next (Nat.le_refl _) HW.out).next (Nat.le_refl _) hW) (HKA.out _ (List.getElem_mem hlt)) (HKB.out _ (List.getElem_mem hly))
        generalize fa[k] = x at *
        generalize fb[k] = y at *
        generalize sa[k] = p at *
        generalize sb[k] = q at *
        obtain ⟨pr, pA, pn, pc⟩ := p
        obtain ⟨qr, qA, qn, qc⟩ := q
        simp only at *
        generalize cmpF x y = c at *
        have HKS : Hid (∀ W W' : World, (Below wr.heap.size wr W ∧ W.cell? ⟨b1, o1 + k * 2, none⟩ = some (.string ⟨pr.toArray⟩) ∧ W.cell? ⟨b1, o1 + k * 2 + 1, none⟩ = some (.slice pA pn pc) ∧ W.cell? ⟨b2, o2 + k * 2, none⟩ = some (.string ⟨qr.toArray⟩) ∧ W.cell? ⟨b2, o2 + k * 2 + 1, none⟩ = some (.slice qA qn qc)) → Below W.heap.size W W' →
            (Below wr.heap.size wr W' ∧ W'.cell? ⟨b1, o1 + k * 2, none⟩ = some (.string ⟨pr.toArray⟩) ∧ W'.cell? ⟨b1, o1 + k * 2 + 1, none⟩ = some (.slice pA pn pc) ∧ W'.cell? ⟨b2, o2 + k * 2, none⟩ = some (.string ⟨qr.toArray⟩) ∧ W'.cell? ⟨b2, o2 + k * 2 + 1, none⟩ = some (.slice qA qn qc))) := Lib.hid fun W W' h hb => by
          obtain ⟨h0, h1, h2, h3, h4⟩ := h
          have key : ∀ {N j : Nat} {v : Value}, W.cell? ⟨N, j, none⟩ = some v → W'.cell? ⟨N, j, none⟩ = some v := fun {N j v} h => (hb.cell (p := ⟨N, j, none⟩) (World.block_lt_of_cell? W _ h)).trans h
          exact ⟨bel_next h0 hb, key h1, key h2, key h3, key h4⟩
        have hS4 := HKS.out wr wr.drew ⟨Below.refl _ _, x0, x1, y0, y1⟩ ((Below.refl _ _).drew)
        clear x0 x1 y0 y1
        go_upto_region 6 with fail
        go_region_held3 (fun W => Below wr.heap.size wr W ∧ W.cell? ⟨b1, o1 + k * 2, none⟩ = some (.string ⟨pr.toArray⟩) ∧ W.cell? ⟨b1, o1 + k * 2 + 1, none⟩ = some (.slice pA pn pc) ∧ W.cell? ⟨b2, o2 + k * 2, none⟩ = some (.string ⟨qr.toArray⟩) ∧ W.cell? ⟨b2, o2 + k * 2 + 1, none⟩ = some (.slice qA qn qc))
          (assumption)
          (first | (go_at_call 33; go_fit (HC.out _ (And.left (by assumption))); rintro e w1 ⟨rfl, hbn⟩; have hSn := HKS.out _ _ (by assumption) hbn))
        have HN := Lib.hid (bel_next HW.out hSn.1)
        clear hSn HKS HC
        by_cases hc : c = 0
        · have fc : (c != 0) = false := by simp [hc]
          have HS2 := Lib.hid (HS.out hc)
          go_wp2
          go_roundw
          case rel => exact ⟨k + 1, by go_num, by omega, HS2, HN⟩
          case measure => simp [intOf]; omega
        · have fc : (c != 0) = true := by simp [hc]
          go_wp2
          go_ret
          exact ⟨⟨false, rfl, by simp [HD.out hc]⟩, HN.out⟩
      · have hEQ : fa = fb := by
          have := HT.out
          have hll := HL.out
          rw [List.take_of_length_le hge, List.take_of_length_le (by omega)] at this
          exact this
        have HEQ := Lib.hid hEQ
        clear hEQ
        go_wp2
        go_ret
        exact ⟨⟨true, rfl, by simp [HEQ.out]⟩, HW.out⟩
  · have fl : ((fa.length : Int) != (fb.length : Int)) = true := by simp; omega
    have HNE : Hid (fa ≠ fb) := Lib.hid fun e => hl (by rw [e])
    go_enter Tryz.func9, Tryz.ntmps9
    go_wp2
    go_ret
    exact ⟨⟨false, rfl, by simp [HNE.out]⟩, Below.refl _ _⟩
end Go.Proofs.YtmodjokoggmnaaaGreatDoor


namespace Go.Proofs.YtmodjokoggmnaaaGreatDoor
open Go.RowKit Go.Shelf

/-- The block N is a builder that holds l; all that was there in wb, but N, is there still. -/
def Bld2 (wb w : World) (N : Nat) (l : List UInt8) : Prop :=
  N < wb.heap.size ∧ wb.grownBy w (some N) ∧ ∃ p v, w.heap[N]? = some (.cells #[p, v] 69 (0, 0)) ∧ (p = .pointer none ∨ p = .pointer (some ⟨N, 0, none⟩)) ∧ w.ownsRow wb.heap.size 5 1 v (Lib.byteCells l).length (Lib.byteCells l)
theorem heap_lt {w : World} {N : Nat} {o : Obj} (h : w.heap[N]? = some o) : N < w.heap.size := by
  rcases Nat.lt_or_ge N w.heap.size with h1 | h1
  · exact h1
  · rw [Array.getElem?_eq_none h1] at h; cases h
theorem Bld2.start {w : World} {N : Nat} (h : w.heap[N]? = some (.cells #[.pointer none, .slice none 0 0] 69 (0, 0))) : Bld2 w w N [] :=
  ⟨heap_lt h, gb_refl w, _, _, h, .inl rfl, World.ownsRow_nil _ _ _ _⟩
theorem gb_next {p : Option Nat} {w w1 w2 : World} (h1 : w.grownBy w1 p) (h2 : Below w1.heap.size w1 w2) : w.grownBy w2 p :=
  ⟨h2.os.trans h1.os, h2.tape.trans h1.tape, h2.output.trans h1.output, Nat.le_trans h1.size h2.size, fun k hk hne => (h2.block k (Nat.lt_of_lt_of_le hk h1.size)).trans (h1.block k hk hne)⟩
theorem Bld2.next {wb w w' : World} {N : Nat} {l : List UInt8} (h : Bld2 wb w N l) (hb : Below w.heap.size w w') : Bld2 wb w' N l := by
  obtain ⟨h1, h2, p, v, h3, h4, h5⟩ := h
  refine ⟨h1, gb_next h2 hb, p, v, (hb.block N (heap_lt h3)).trans h3, h4, ?_⟩
  exact (OwnG.next (enc := fun x : Value => [x]) (l := Lib.byteCells l) (show OwnG (fun x : Value => [x]) 5 1 w wb.heap.size v (Lib.byteCells l) by unfold OwnG gcells; rw [List.flatMap_singleton']; exact h5) hb |> fun h => by unfold OwnG gcells at h; rw [List.flatMap_singleton'] at h; exact h)
theorem Bld2.bld {wb w : World} {N : Nat} {l : List UInt8} (h : Bld2 wb w N l) : Bld w N N l := by
  obtain ⟨h1, h2, p, v, h3, h4, h5⟩ := h
  have ho : w.ownsRow N 5 1 v (Lib.byteCells l).length (Lib.byteCells l) := by
    refine ⟨h5.1, ?_⟩
    rcases h5.2 with hh | ⟨g, cap, cur, hv, hg, rest⟩
    · exact .inl hh
    · exact .inr ⟨g, cap, cur, hv, by omega, rest⟩
  have hn : v.ownBlock ≠ some N := Lib.ownBlock_ne h5 h3 (by decide)
  rcases h4 with rfl | rfl
  · exact .inl ⟨Nat.le_refl _, v, h3, ho, hn⟩
  · exact .inr ⟨Nat.le_refl _, v, h3, ho, hn⟩
theorem gb_cellN {w : World} {N j : Nat} {v : Value} : w.grownBy (w.setCell ⟨N, j, none⟩ v) (some N) :=
  ⟨rfl, rfl, rfl, by simp [World.setCell], fun k _ hk => Below.heap_setCell _ _ _ _ (fun e => hk (by simp [e]))⟩
theorem copy_two (wb : World) (N : Nat) (l : List UInt8) (w : World) (h : Bld2 wb w N l) :
    Calls Tryz.prog 67 #[.pointer (some ⟨N, 0, none⟩)] w fun e w' => e = .returned (.tuple #[]) ∧ w'.heap.size = w.heap.size ∧ (∃ v, w'.heap[N]? = some (.cells #[.pointer (some ⟨N, 0, none⟩), v] 69 (0, 0)) ∧ w'.ownsRow wb.heap.size 5 1 v (Lib.byteCells l).length (Lib.byteCells l) ∧ v.ownBlock ≠ some N) ∧ w.grownBy w' (some N) ∧ Kept N w w' := by
  obtain ⟨h1, h2, p, v, h3, h4, h5⟩ := h
  have hn : v.ownBlock ≠ some N := Lib.ownBlock_ne h5 h3 (by decide)
  rcases h4 with rfl | rfl
  · refine (copy_fresh N w (by rw [Lib.cell_of_heap h3]; rfl) (by simp [World.shape?, h3]) (Lib.frozen_of_heap h3 0)).mono ?_
    rintro e w' ⟨rfl, rfl⟩
    refine ⟨rfl, by simp [World.setCell], ⟨v, (two_set0 h3 _), ?_, hn⟩, gb_cellN, (Lib.OthersKept.refl _ _ w).setCell ⟨N, 0, none⟩ rfl _⟩
    exact h5.kept (row := some N) gb_cellN (Or.inr hn)
  · refine (copy_used N w (by rw [Lib.cell_of_heap h3]; rfl)).mono ?_
    rintro e w' ⟨rfl, rfl⟩
    exact ⟨rfl, rfl, ⟨v, h3, h5, hn⟩, gb_refl _, Lib.OthersKept.refl _ _ _⟩
/-- An append to the buffer: all that was there in wb, but N, stays. -/
theorem gb_buf {wb w w' : World} {N : Nat} {row : Option Nat} (h : wb.grownBy w (some N)) (hg : w.grownBy w' row) (hr : ∀ k, row = some k → wb.heap.size ≤ k) : wb.grownBy w' (some N) :=
  ⟨hg.os.trans h.os, hg.tape.trans h.tape, hg.output.trans h.output, Nat.le_trans h.size hg.size, fun k hk hne => (hg.block k (Nat.lt_of_lt_of_le hk h.size) (fun e => by have := hr k e.symm; omega)).trans (h.block k hk hne)⟩
set_option maxRecDepth 50000 in
set_option maxHeartbeats 1000000 in
theorem bld_str2 (wb : World) (N : Nat) (l s : List UInt8) (w : World) (h : Bld2 wb w N l) (hlen : l.length + s.length ≤ 140737488355328) :
    Calls Tryz.prog 35 #[.pointer (some ⟨N, 0, none⟩), .string ⟨s.toArray⟩] w fun e w' => e = .returned (.tuple #[.int .i64 s.length, .nilIface]) ∧ Bld2 wb w' N (l ++ s) ∧ Kept N w w' ∧ Below N w w' := by
  obtain ⟨i0, hi, hz0, hz1, hz2⟩ := info_parts b_byte
  have hbl : (Lib.byteCells l).length = l.length := Lib.byteCells_length l
  have hsz : (⟨s.toArray⟩ : ByteArray).size = s.length := ba_size s
  have HC := Lib.hid (copy_two wb N l w h)
  have hnb := h.1
  have HGB := Lib.hid h.2.1
  have hwz : wb.heap.size ≤ w.heap.size := h.2.1.size
  clear h
  go_enter Tryz.func35, Tryz.ntmps35
  go_wp2_with fail
  refine HC.out.mono ?_
  rintro e w1 ⟨rfl, hw1, ⟨v, hbk, hown, hne⟩, hg1, hk1⟩
  have c1 : w1.cell? ⟨N, 1, none⟩ = some v := by rw [Lib.cell_of_heap hbk]; rfl
  have HG1 := Lib.hid hg1
  have HK1 := Lib.hid hk1
  have HBK := Lib.hid hbk
  have HOWN := Lib.hid hown
  have HNE := Lib.hid hne
  clear hg1 hk1 hbk hown hne HC
  go_wp2_with (at_builtin; refine Lib.wpList_append_own_string _ rfl _ _ 67 9 rfl wb.heap.size 5 i0 Tryz.underlying67 Tryz.underlying9 hi hz0 hz1 hz2 _ _ _ rfl HOWN.out ⟨s.toArray⟩ rfl ?c3 ?c4 ?c5 ?_)
  case c3 => unfold maxLen; omega
  case c4 => omega
  case c5 => omega
  intro v' w2 hown' hgrow _
  have hlt : N < w1.heap.size := by omega
  have hb2 : w2.heap[N]? = some (.cells #[.pointer (some ⟨N, 0, none⟩), v] 69 (0, 0)) := by
    rw [hgrow.block N hlt (fun e => HNE.out e.symm)]
    exact HBK.out
  have d1 : w2.cell? ⟨N, 1, none⟩ = some v := by rw [Lib.cell_of_heap hb2]; rfl
  have f1 : w2.frozen? ⟨N, 1, none⟩ = false := Lib.frozen_of_heap hb2 1
  have HQ := Lib.hid hown'
  have HG := Lib.hid hgrow
  have HB2 := Lib.hid hb2
  obtain ⟨ao, n', cap, rfl⟩ : ∃ ao n' cap, v' = .slice ao n' cap := by
    rcases hown'.2 with ⟨hv, _⟩ | ⟨g, cap, cur, hv, _⟩
    · exact ⟨_, _, _, hv⟩
    · exact ⟨_, _, _, hv⟩
  clear hown' hgrow hb2
  go_wp2
  go_ret2
  have hbuf : ∀ k, v.ownBlock = some k → wb.heap.size ≤ k := fun k hk => (HOWN.out.lt k hk).1
  refine ⟨rfl, ⟨hnb, ?_, _, _, two_set1 HB2.out _, .inr rfl, ?_⟩, ?_, ?_⟩
  · exact gb_trans (gb_buf (gb_trans HGB.out HG1.out) HG.out hbuf) gb_cellN
  · have hq := HQ.out
    rw [Lib.strCells_eq] at hq
    have hq2 : w2.ownsRow wb.heap.size 5 1 (.slice ao n' cap) (Lib.byteCells (l ++ s)).length (Lib.byteCells (l ++ s)) := by simpa [Lib.byteCells, hsz] using hq
    exact hq2.kept (row := some N) gb_cellN (Or.inr (Lib.ownBlock_ne hq2 HB2.out (by decide)))
  · exact (HK1.out.grown HG.out (row_kind HOWN.out)).setCell ⟨N, 1, none⟩ rfl _
  · refine (Below.grown (B := N) (w := w1) ⟨HG1.out.os, HG1.out.tape, HG1.out.output, HG1.out.size, fun k hk => HG1.out.block k (by omega) (by intro e; cases e; omega)⟩ HG.out (by omega) (fun k hk => by have := hbuf k hk; omega)).setCell (p := ⟨N, 1, none⟩) (Nat.le_refl _) _

/-- A set of facts stays where a builder grows. -/
theorem noStrB {w : World} {N j : Nat} {v : Value} {s : ByteArray} (h : w.heap[N]? = some (.cells #[.pointer none, .slice none 0 0] 69 (0, 0))) (hc : w.cell? ⟨N, j, none⟩ = some v) : v ≠ .string s := by
  rw [Lib.cell_of_heap h] at hc
  match j with
  | 0 => simp at hc; rw [← hc]; simp
  | 1 => simp at hc; rw [← hc]; simp
  | j + 2 => simp at hc
theorem FRow.gbN {w w' : World} {N : Nat} {A : Option Addr} {ss : List SFact} {fs : List GFact} (h : FRow w w.heap.size A ss fs) (hb : w.heap[N]? = some (.cells #[.pointer none, .slice none 0 0] 69 (0, 0))) (hg : w.grownBy w' (some N)) : FRow w' w'.heap.size A ss fs := by
  refine ⟨fun hn => ?_, h.len, fun i h1 h2 => ?_⟩
  · refine h.row.gb (fun b off e hbn => ?_) hg hn
    subst hbn
    obtain ⟨b', off', e', _, hc⟩ := h.row hn
    rw [e] at e'
    cases e'
    exact noStrB hb (hc 0 hn 0 _ rfl) rfl
  · have hh := h.each i h1 h2
    refine ⟨hh.rel, hh.n, fun hn => ?_, hh.few⟩
    refine hh.row.gb (fun b off e hbn => ?_) hg hn
    subst hbn
    obtain ⟨b', off', e', _, hc⟩ := hh.row hn
    rw [e] at e'
    cases e'
    exact noStrB hb (hc 0 hn 2 _ rfl) rfl
end Go.Proofs.YtmodjokoggmnaaaGreatDoor


namespace Go.Proofs.YtmodjokoggmnaaaGreatDoor
open Go.RowKit Go.Shelf

/-- A token that a text has: a word, number, string or mark. -/
structure TokW (t : GTok) : Prop where
  kind : t.kind = 1 ∨ t.kind = 2 ∨ t.kind = 3 ∨ t.kind = 4
  low : 0 ≤ t.value
  high : t.value ≤ 18446744073709551615
  text : t.text.length ≤ 65536
/-- Tokens, and one of kind 0 behind the last. -/
def TEnds : List GTok → Prop
  | [] => False
  | [t] => t.kind = 0 ∧ t.text = []
  | t :: u :: ts => TokW t ∧ TEnds (u :: ts)
theorem TEnds.zero {t : GTok} {ts : List GTok} (h : TEnds (t :: ts)) (hk : t.kind = 0) : ts = [] := by
  cases ts with
  | nil => rfl
  | cons u r => rcases h.1.kind with e | e | e | e <;> omega
theorem TEnds.more {t : GTok} {ts : List GTok} (h : TEnds (t :: ts)) (hk : t.kind ≠ 0) : TokW t ∧ ∃ u r, ts = u :: r ∧ TEnds (u :: r) := by
  cases ts with
  | nil => exact absurd h.1 hk
  | cons u r => exact ⟨h.1, u, r, rfl, h.2⟩
theorem TEnds.kinds {t : GTok} {ts : List GTok} (h : TEnds (t :: ts)) : t.kind = 0 ∨ t.kind = 1 ∨ t.kind = 2 ∨ t.kind = 3 ∨ t.kind = 4 := by
  cases ts with
  | nil => exact .inl h.1
  | cons u r => exact .inr h.1.kind
theorem TEnds.text {t : GTok} {ts : List GTok} (h : TEnds (t :: ts)) : t.text.length ≤ 65536 := by
  cases ts with
  | nil => rw [h.2]; simp
  | cons u r => exact h.1.text
def sizedP (l : List UInt8) : Bool := decide (1 ≤ l.length) && decide (l.length ≤ 24)
def errArg (t : GTok) : Int :=
  if t.kind = 2 ∧ 9223372036854775807 < t.value then 6
  else if (t.kind = 1 ∨ t.kind = 3) ∧ sizedP t.text = false then 63
  else if (t.kind = 4 ∧ t.text ≠ [45]) ∨ t.kind = 0 then 50 else 0
def z0V : GVal := ⟨0, 0, []⟩
def pNeg : List GTok → Int × GVal × List GTok
  | [] => (50, z0V, [])
  | t :: ts => if t.kind ≠ 2 then (50, z0V, t :: ts) else if 9223372036854775808 < t.value then (6, z0V, t :: ts) else (0, ⟨1, -t.value, []⟩, ts)
def pArg (room : Bool) : List GTok → Int × GVal × List GTok
  | [] => (50, z0V, [])
  | t :: ts => if errArg t ≠ 0 then (errArg t, z0V, t :: ts) else if room = false then (15, z0V, t :: ts)
      else if t.kind = 4 then pNeg ts else if t.kind = 2 then (0, ⟨1, t.value, []⟩, ts) else (0, ⟨2, 0, t.text⟩, ts)
def pRel (room : Bool) : List GTok → Int × List UInt8 × List GTok
  | [] => (50, [], [])
  | t :: ts => if t.kind ≠ 1 then (50, [], t :: ts) else if sizedP t.text = false then (63, [], t :: ts) else if room = false then (15, [], t :: ts) else (0, t.text, ts)
def tMark (s : List UInt8) (t : GTok) : Bool := decide (t.kind = 4) && decide (t.text = s)
def pArgs : Nat → List GVal → List GTok → Int × List GVal × List GTok
  | 0, _, ts => (50, [], ts)
  | n + 1, args, ts =>
    match pArg (decide (args.length < 8)) ts with
    | (e, v, ts1) => if e ≠ 0 then (e, [], ts1) else
      match ts1 with
      | [] => (50, args ++ [v], [])
      | t :: ts2 => if tMark [44] t then pArgs n (args ++ [v]) ts2 else if tMark [41] t = false then (50, args ++ [v], t :: ts2) else
        match ts2 with
        | [] => (50, args ++ [v], [])
        | u :: ts3 => if tMark [46] u then (0, args ++ [v], ts3) else (50, args ++ [v], u :: ts3)
def pArguments (n : Nat) : List GTok → Int × List GVal × List GTok
  | [] => (50, [], [])
  | t :: ts => if tMark [40] t then pArgs n [] ts else (50, [], t :: ts)
def pFacts : Nat → List GFact → List GTok → Int × List GFact × List GTok
  | 0, _, ts => (50, [], ts)
  | n + 1, l, ts =>
    match ts with
    | [] => (0, l, [])
    | t :: r => if t.kind = 0 then (0, l, t :: r) else
      match pRel (decide (l.length < 8192)) (t :: r) with
      | (e, q, ts1) => if e ≠ 0 then (e, [], ts1) else
        match pArguments ts1.length ts1 with
        | (e2, vs, ts2) => if e2 ≠ 0 then (e2, [], ts2) else pFacts n (l ++ [⟨q, vs⟩]) ts2
theorem sizedP_any (l : List UInt8) (w : World) (h : l.length ≤ 65536) :
    Calls Tryz.prog 89 #[.string ⟨l.toArray⟩] w fun e w' => e = .returned (.bool (sizedP l)) ∧ w = w' := by
  have hsz : (⟨l.toArray⟩ : ByteArray).size = l.length := ba_size l
  have HD : Hid (sizedP l = (decide (1 ≤ l.length) && decide (l.length ≤ 24))) := Lib.hid rfl
  by_cases h1 : 1 ≤ l.length
  · have f1 : decide ((1 : Int) ≤ (l.length : Int)) = true := by simp; omega
    have g1 : (1 : Int) ≤ (l.length : Int) := by omega
    have H1 := Lib.hid h1
    clear h1
    by_cases h2 : l.length ≤ 24
    · have f2 : decide ((l.length : Int) ≤ 24) = true := by simp; omega
      have g2 : (l.length : Int) ≤ 24 := by omega
      have H2 := Lib.hid h2
      clear h2
      go_enter Tryz.func89, Tryz.ntmps89
      go_wp2
      go_ret
      exact ⟨ret_bool (by rw [HD.out, decide_eq_true H1.out, decide_eq_true H2.out]; rfl), rfl⟩
    · have f2 : decide ((l.length : Int) ≤ 24) = false := by simp; omega
      have g2 : ¬ (l.length : Int) ≤ 24 := by omega
      have H2 := Lib.hid h2
      clear h2
      go_enter Tryz.func89, Tryz.ntmps89
      go_wp2
      go_ret
      exact ⟨ret_bool (by rw [HD.out, decide_eq_true H1.out, decide_eq_false H2.out]; rfl), rfl⟩
  · have h0 : l = [] := List.eq_nil_of_length_eq_zero (by omega)
    subst h0
    go_enter Tryz.func89, Tryz.ntmps89
    go_wp2
    go_ret
    exact ⟨rfl, rfl⟩
set_option maxRecDepth 50000 in
set_option maxHeartbeats 1000000 in
theorem firstError_any (t : GTok) (w : World) (hk : t.kind = 0 ∨ t.kind = 1 ∨ t.kind = 2 ∨ t.kind = 3 ∨ t.kind = 4) (hl : t.text.length ≤ 65536) :
    Calls Tryz.prog 117 #[t.val] w fun e w' => e = .returned (.int .i64 (errArg t)) ∧ Below w.heap.size w w' := by
  obtain ⟨tk, tt, tv, tl, tc⟩ := t
  have HD : Hid (errArg ⟨tk, tt, tv, tl, tc⟩ = if tk = 2 ∧ 9223372036854775807 < tv then 6 else if (tk = 1 ∨ tk = 3) ∧ sizedP tt = false then 63 else if (tk = 4 ∧ tt ≠ [45]) ∨ tk = 0 then 50 else 0) := Lib.hid rfl
  have HN := Lib.hid fun W => sizedP_any tt W hl
  have HB := Lib.hid (bel_lit (Below.refl w.heap.size w) (.cells #[.int .i64 tk, .string ⟨tt.toArray⟩, .int .u64 tv, .int .i64 tl, .int .i64 tc] 52))
  simp only [GTok.val] at *
  generalize errArg ⟨tk, tt, tv, tl, tc⟩ = er at *
  rcases hk with rfl | rfl | rfl | rfl | rfl
  · go_enter Tryz.func117, Tryz.ntmps117
    go_wp2
    go_ret
    exact ⟨ret_int (by rw [HD.out]; simp), HB.out⟩
  · generalize hs : sizedP tt = q at *
    have HS := Lib.hid hs
    clear hs
    cases q
    all_goals
      go_enter Tryz.func117, Tryz.ntmps117
      go_wp2_with fail
      go_fit (HN.out _)
      rintro e w1 ⟨rfl, rfl⟩
      go_wp2
      go_ret
      exact ⟨ret_int (by rw [HD.out]; simp), HB.out⟩
  · by_cases hv : 9223372036854775807 < tv
    · have f1 : decide (9223372036854775807 < tv) = true := by simp [hv]
      go_enter Tryz.func117, Tryz.ntmps117
      go_wp2
      go_ret
      exact ⟨ret_int (by rw [HD.out]; simp [hv]), HB.out⟩
    · have f1 : decide (9223372036854775807 < tv) = false := by simp [hv]
      go_enter Tryz.func117, Tryz.ntmps117
      go_wp2
      go_ret
      exact ⟨ret_int (by rw [HD.out]; simp [hv]), HB.out⟩
  · generalize hs : sizedP tt = q at *
    have HS := Lib.hid hs
    clear hs
    cases q
    all_goals
      go_enter Tryz.func117, Tryz.ntmps117
      go_wp2_with fail
      go_fit (HN.out _)
      rintro e w1 ⟨rfl, rfl⟩
      go_wp2
      go_ret
      exact ⟨ret_int (by rw [HD.out]; simp), HB.out⟩
  · by_cases hm : tt = [45]
    · subst hm
      go_enter Tryz.func117, Tryz.ntmps117
      go_wp2
      go_ret
      exact ⟨ret_int (by rw [HD.out]; simp), HB.out⟩
    · have f1 : (tt == [45]) = false := by simp [hm]
      have f2 : (tt != [45]) = true := by simp [hm]
      have HM := Lib.hid hm
      clear hm
      go_enter Tryz.func117, Tryz.ntmps117
      go_wp2
      go_ret
      exact ⟨ret_int (by rw [HD.out]; simp [HM.out]), HB.out⟩
set_option maxRecDepth 50000 in
set_option maxHeartbeats 1000000 in
/-- marks(s) where the next token is no such mark. -/
theorem mark_no (p : Nat) (ss : List (List UInt8)) (s : List UInt8) (N : Nat) (n : Nat) (t : GTok) (ts : List GTok) (w : World) (h : PS w p (t :: ts)) (hs : w.cell? ⟨N, 0, none⟩ = some (.string ⟨s.toArray⟩)) (hn : n = ss.length + 1) (hn2 : n ≤ 2) (hk : tMark s t = false) (he : TEnds (t :: ts)) :
    Calls Tryz.prog 91 #[.pointer (some ⟨p, 0, none⟩), .slice (some ⟨N, 0, none⟩) n n] w fun e w' => e = .returned (.int .i64 50) ∧ PS w' p (t :: ts) ∧ w.grownBy w' (some p) := by
  have HPS := Lib.hid h
  obtain ⟨b, off, cp, hbp, hpw, hc1, hc2, hh, hcp, hfz, hr, x0, x1, x2, x3, x4⟩ := h.open
  have hkk := he.kinds
  obtain ⟨tk, tt, tv, tl, tc⟩ := t
  simp only at hkk x0 x1 x2 x3 x4
  have hbw : b < w.heap.size := by omega
  have hm : tk ≠ 4 ∨ tt ≠ s := by
    unfold tMark at hk
    simp at hk
    by_cases h4 : tk = 4
    · exact .inr (hk h4)
    · exact .inl h4
  clear h hh hr hk he
  rcases (by omega : n = 1 ∨ n = 2) with rfl | rfl
  all_goals
    clear hn hn2
    rcases hm with hm | hm
    · have f1 : (tk != 4) = true := by simp [hm]
      go_enter Tryz.func91, Tryz.ntmps91
      go_wp2
      go_loopw [10] (fun vi wr => vi = .int .i64 0 ∧ wr = w) (fun _ _ => 0)
      case atStart => exact ⟨rfl, rfl⟩
      case round =>
        rename_i wr
        obtain ⟨rfl, rfl⟩ := hrel
        go_wp2
        go_ret
        exact ⟨rfl, HPS.out.lit _, gb_lit (gb_refl _) _⟩
    · have f1 : (tt == s) = false := by simp [hm]
      have f2 : (tt != s) = true := by simp [hm]
      rcases hkk with rfl | rfl | rfl | rfl | rfl
      all_goals
        go_enter Tryz.func91, Tryz.ntmps91
        go_wp2
        go_loopw [10] (fun vi wr => vi = .int .i64 0 ∧ wr = w) (fun _ _ => 0)
        case atStart => exact ⟨rfl, rfl⟩
        case round =>
          rename_i wr
          obtain ⟨rfl, rfl⟩ := hrel
          go_wp2
          go_ret
          exact ⟨rfl, HPS.out.lit _, gb_lit (gb_refl _) _⟩
end Go.Proofs.YtmodjokoggmnaaaGreatDoor
