/-
  The reference's comparison of facts, and of lists of facts.
  Conditions: a fact has at most 2^40 arguments, a list at most 2^40 facts; kinds are ints of the language.
  The reference kit's FewFacts: where it returns true, the facts are few and short.
  Conditions: none beyond that the slice is one of the language's.
-/
import Derived.Test.YtolkceibbefhfaaGreatDoorMa32
import Derived.Test.YtolkceibbefhfaaGreatDoorMa27
import Derived.Test.YtolkceibbefhfaaGreatDoorMa22
namespace Go.Proofs.YtolkceibbefhfaaGreatDoor
open Go.RowKit Go.Shelf

def KindsWf (vs : List GVal) : Prop := ∀ v ∈ vs, (Lit.int .i64 v.kind).wf = true
theorem list3_same {xs ys : List GVal} {k : Nat} (h : xs.take k = ys.take k) (h1 : xs.length ≤ k) (h2 : ys.length ≤ k) : list3 cmpV xs ys = 0 := by
  rw [List.take_of_length_le h1, List.take_of_length_le h2] at h
  rw [h]; exact ord_val.list.self _
set_option maxRecDepth 50000 in
set_option maxHeartbeats 1000000 in
theorem rCompareLists_any (xs ys : List GVal) (A B : Option Addr) (ca cb : Nat) (w : World) (hA : GRow GVal.cells 3 w w.heap.size A xs) (hB : GRow GVal.cells 3 w w.heap.size B ys) (hl : xs.length = ys.length) (hx : xs.length ≤ 1099511627776) (kx : KindsWf xs) (ky : KindsWf ys) :
    Calls Tryz.prog 39 #[.slice A xs.length ca, .slice B ys.length cb] w fun e w' => e = .returned (.int .i64 (list3 cmpV xs ys)) ∧ Below w.heap.size w w' := by
  have HA := Lib.hid hA
  have HB := Lib.hid hB
  have HKX := Lib.hid kx
  have HKY := Lib.hid ky
  have hy : ys.length ≤ 1099511627776 := by omega
  have HL := Lib.hid hl
  clear hA hB kx ky hl
  go_enter Tryz.func39, Tryz.ntmps39
  go_wp2
  go_loopw [5] (fun vi wr => ∃ k : Nat, vi = .int .i64 k ∧ k ≤ xs.length ∧ k ≤ ys.length ∧ Hid (xs.take k = ys.take k) ∧ Hid (Below w.heap.size w wr)) (fun vi _ => xs.length - (intOf vi).toNat)
  case atStart => exact ⟨0, rfl, by omega, by omega, Lib.hid (by simp), Lib.hid (Below.refl _ _)⟩
  case round =>
    obtain ⟨k, rfl, hkx, hky, HT, HW⟩ := hrel
    have hsz := HW.out.size
    rcases Nat.lt_or_ge k xs.length with hlt | hge
    · have hly : k < ys.length := by have := HL.out; omega
      obtain ⟨b1, o1, rfl, hb1, x0, x1, x2⟩ := (HA.out.below (Nat.le_refl _) HW.out).val3 hlt
      obtain ⟨b2, o2, rfl, hb2, y0, y1, y2⟩ := (HB.out.below (Nat.le_refl _) HW.out).val3 hly
      have hl1 : b1 < wr.heap.size := by omega
      have hl2 : b2 < wr.heap.size := by omega
      have HD := Lib.hid (list3_diff HT.out hlt hly)
      have HS := Lib.hid (take_same HT.out hlt hly)
      have HC := Lib.hid fun W => rCompareValues_any xs[k] ys[k] W (HKX.out _ (List.getElem_mem hlt)) (HKY.out _ (List.getElem_mem hly))
      generalize xs[k] = x at *
      generalize ys[k] = y at *
      obtain ⟨xk, xi, xw⟩ := x
      obtain ⟨yk, yi, yw⟩ := y
      simp only [GVal.val] at *
      generalize cmpV ⟨xk, xi, xw⟩ ⟨yk, yi, yw⟩ = c at *
      have HKS : Hid (∀ W W' : World, (Below wr.heap.size wr W ∧ W.cell? ⟨b1, o1 + k * 3, none⟩ = some (.int .i64 xk) ∧ W.cell? ⟨b1, o1 + k * 3 + 1, none⟩ = some (.int .i64 xi) ∧ W.cell? ⟨b1, o1 + k * 3 + 2, none⟩ = some (.string ⟨xw.toArray⟩) ∧ W.cell? ⟨b2, o2 + k * 3, none⟩ = some (.int .i64 yk) ∧ W.cell? ⟨b2, o2 + k * 3 + 1, none⟩ = some (.int .i64 yi) ∧ W.cell? ⟨b2, o2 + k * 3 + 2, none⟩ = some (.string ⟨yw.toArray⟩)) → Below W.heap.size W W' →
          (Below wr.heap.size wr W' ∧ W'.cell? ⟨b1, o1 + k * 3, none⟩ = some (.int .i64 xk) ∧ W'.cell? ⟨b1, o1 + k * 3 + 1, none⟩ = some (.int .i64 xi) ∧ W'.cell? ⟨b1, o1 + k * 3 + 2, none⟩ = some (.string ⟨xw.toArray⟩) ∧ W'.cell? ⟨b2, o2 + k * 3, none⟩ = some (.int .i64 yk) ∧ W'.cell? ⟨b2, o2 + k * 3 + 1, none⟩ = some (.int .i64 yi) ∧ W'.cell? ⟨b2, o2 + k * 3 + 2, none⟩ = some (.string ⟨yw.toArray⟩))) := Lib.hid fun W W' h hb => by
        obtain ⟨h0, h1, h2, h3, h4, h5, h6⟩ := h
        have key : ∀ {N j : Nat} {v : Value}, W.cell? ⟨N, j, none⟩ = some v → W'.cell? ⟨N, j, none⟩ = some v := fun {N j v} h => (hb.cell (p := ⟨N, j, none⟩) (World.block_lt_of_cell? W _ h)).trans h
        exact ⟨bel_next h0 hb, key h1, key h2, key h3, key h4, key h5, key h6⟩
      have hS4 := HKS.out wr wr.drew ⟨Below.refl _ _, x0, x1, x2, y0, y1, y2⟩ ((Below.refl _ _).drew)
      clear x0 x1 x2 y0 y1 y2
      go_upto_region 4 with fail
      go_region_held3 (fun W => Below wr.heap.size wr W ∧ W.cell? ⟨b1, o1 + k * 3, none⟩ = some (.int .i64 xk) ∧ W.cell? ⟨b1, o1 + k * 3 + 1, none⟩ = some (.int .i64 xi) ∧ W.cell? ⟨b1, o1 + k * 3 + 2, none⟩ = some (.string ⟨xw.toArray⟩) ∧ W.cell? ⟨b2, o2 + k * 3, none⟩ = some (.int .i64 yk) ∧ W.cell? ⟨b2, o2 + k * 3 + 1, none⟩ = some (.int .i64 yi) ∧ W.cell? ⟨b2, o2 + k * 3 + 2, none⟩ = some (.string ⟨yw.toArray⟩))
        (assumption)
        (first | (go_at_call 62; go_fit (HC.out _); rintro e w1 ⟨rfl, hbn⟩; have hSn := HKS.out _ _ (by assumption) hbn))
      have HN := Lib.hid (bel_next HW.out hSn.1)
      clear hSn HKS HC
      by_cases hc : c = 0
      · have fc : (c != 0) = false := by simp [hc]
        have HS2 := Lib.hid (HS.out hc)
        go_wp2
        go_roundw
        case rel => exact ⟨k + 1, by go_num, by omega, by omega, HS2, HN⟩
        case measure => simp [intOf]; omega
      · have fc : (c != 0) = true := by simp [hc]
        go_wp2
        go_ret
        exact ⟨ret_int (HD.out hc).symm, HN.out⟩
    · have HZ := Lib.hid (list3_same HT.out hge (by have := HL.out; omega))
      go_wp2
      go_ret
      exact ⟨ret_int HZ.out.symm, HW.out⟩

set_option maxRecDepth 50000 in
set_option maxHeartbeats 1000000 in
theorem rCompare_any (f g : GFact) (s t : SFact) (w : World) (hf : FHold w w.heap.size s f) (hg : FHold w w.heap.size t g) (kf : KindsWf f.args) (kg : KindsWf g.args) :
    Calls Tryz.prog 14 #[.agg #[.string ⟨s.rel.toArray⟩, .slice s.A s.n s.c], .agg #[.string ⟨t.rel.toArray⟩, .slice t.A t.n t.c]] w fun e w' => e = .returned (.int .i64 (cmpF f g)) ∧ Below w.heap.size w w' := by
  obtain ⟨sr, A, sn, ca⟩ := s
  obtain ⟨tr, B, tn, cb⟩ := t
  obtain ⟨r, xs⟩ := f
  obtain ⟨q, ys⟩ := g
  have e1 := hf.rel
  have e2 := hf.n
  have e3 := hg.rel
  have e4 := hg.n
  have hx := hf.few
  have hy := hg.few
  have hA := hf.row
  have hB := hg.row
  simp only at *
  subst e1 e2 e3 e4
  clear hf hg
  have HE := Lib.hid (cmpF_eq ⟨sr, xs⟩ ⟨tr, ys⟩)
  have HT : Hid (∀ p q : Int, then3 p q = if p ≠ 0 then p else q) := Lib.hid fun _ _ => rfl
  have H1 := Lib.hid (rOrder_any sr tr)
  have H2 := Lib.hid (rNumber_any (xs.length : Int) (ys.length : Int))
  have HIZ := Lib.hid (ord_int.z (xs.length : Int) (ys.length : Int))
  have HC := Lib.hid fun W (hW : Below w.heap.size w W) (hl : xs.length = ys.length) => rCompareLists_any xs ys A B ca cb W (((hA.below (Nat.le_refl _) hW).wide hW.size)) (((hB.below (Nat.le_refl _) hW).wide hW.size)) hl hx kf kg
  have HB := Lib.hid (bel_lit (bel_lit (Below.refl w.heap.size w) (.cells #[.string ⟨sr.toArray⟩, .slice A xs.length ca] 25)) (.cells #[.string ⟨tr.toArray⟩, .slice B ys.length cb] 25))
  generalize cmpF ⟨sr, xs⟩ ⟨tr, ys⟩ = cf at *
  simp only at HE
  generalize Lib.compareBytes sr tr = c1 at *
  generalize Lib.compareInt (xs.length : Int) (ys.length : Int) = c2 at *
  generalize list3 cmpV xs ys = c3 at *
  clear hA hB kf kg
  go_enter Tryz.func14, Tryz.ntmps14
  go_wp2_with fail
  go_fit (H1.out _)
  rintro e w1 ⟨rfl, rfl⟩
  by_cases h1 : c1 = 0
  · have f1 : (c1 != 0) = false := by simp [h1]
    have HZ := Lib.hid h1
    clear h1
    go_wp2_with fail
    go_fit (H2.out _)
    rintro e w1 ⟨rfl, rfl⟩
    by_cases h2 : c2 = 0
    · have f2 : (c2 != 0) = false := by simp [h2]
      have HZ2 := Lib.hid h2
      have HLL := Lib.hid (HIZ.out.1 h2)
      clear h2
      go_wp2_with fail
      go_fit (HC.out _ HB.out (by have := HLL.out; omega))
      rintro e w1 ⟨rfl, hb⟩
      go_wp2
      go_ret
      exact ⟨ret_int (by rw [HE.out, HT.out, if_neg (by have := HZ.out; omega), HT.out, if_neg (by have := HZ2.out; omega)]), bel_next HB.out hb⟩
    · have f2 : (c2 != 0) = true := by simp [h2]
      go_wp2
      go_ret
      exact ⟨ret_int (by rw [HE.out, HT.out, if_neg (by have := HZ.out; omega), HT.out, if_pos h2]), HB.out⟩
  · have f1 : (c1 != 0) = true := by simp [h1]
    go_wp2
    go_ret
    exact ⟨ret_int (by rw [HE.out, HT.out, if_pos h1]), HB.out⟩

def SameEnd (fa fb : List GFact) (w : World) (e : Ending) (w' : World) : Prop := (∃ b, e = .returned (.bool b) ∧ (b = true ↔ fa = fb)) ∧ Below w.heap.size w w'
theorem facts_snoc {xs ys : List GFact} {k : Nat} (h : xs.take k = ys.take k) (h1 : k < xs.length) (h2 : k < ys.length) (hc : cmpF xs[k] ys[k] = 0) : xs.take (k + 1) = ys.take (k + 1) := by
  rw [List.take_succ_eq_append_getElem h1, List.take_succ_eq_append_getElem h2, h, (ord_fact.z _ _).1 hc]
theorem facts_diff {xs ys : List GFact} {k : Nat} (h1 : k < xs.length) (h2 : k < ys.length) (hc : cmpF xs[k] ys[k] ≠ 0) : xs ≠ ys := fun e => by
  subst e
  exact hc (ord_fact.self _)
def KindsF (fs : List GFact) : Prop := ∀ f ∈ fs, KindsWf f.args
theorem SetV.frow {w : World} {v : Value} {ss : List SFact} {fs : List GFact} (h : SetV w v ss fs) : ∃ A c, v = .slice A fs.length c ∧ FRow w w.heap.size A ss fs := by
  rcases h.row with ⟨rfl, h0⟩ | ⟨ad, c, rfl, hr⟩
  · have hf : fs = [] := List.eq_nil_of_length_eq_zero (by rw [← h.len, h0]; rfl)
    subst h0 hf
    exact ⟨none, 0, rfl, ⟨GRow.nil, rfl, fun i h1 => by simp at h1⟩⟩
  · exact ⟨some ad, c, by rw [h.len], ⟨hr, h.len, h.each⟩⟩
set_option maxRecDepth 50000 in
set_option maxHeartbeats 1000000 in
theorem rSame_any (va vb : Value) (sa sb : List SFact) (fa fb : List GFact) (w : World) (ha : SetV w va sa fa) (hb : SetV w vb sb fb) (na : fa.length ≤ 1099511627776) (ka : KindsF fa) (kb : KindsF fb) :
    Calls Tryz.prog 15 #[va, vb] w (SameEnd fa fb w) := by
  obtain ⟨A, ca, rfl, hA⟩ := ha.frow
  obtain ⟨B, cb, rfl, hB⟩ := hb.frow
  have HA := Lib.hid hA
  have HB := Lib.hid hB
  have hla := hA.len
  have hlb := hB.len
  have HKA := Lib.hid ka
  have HKB := Lib.hid kb
  clear ha hb hA hB ka kb
  by_cases hl : fa.length = fb.length
  · have HL := Lib.hid hl
    have fl : ((fa.length : Int) != (fb.length : Int)) = false := by simp [hl]
    clear hl
    go_enter Tryz.func15, Tryz.ntmps15
    go_wp2
    go_loopw [5] (fun vi wr => ∃ k : Nat, vi = .int .i64 k ∧ k ≤ fa.length ∧ Hid (fa.take k = fb.take k) ∧ Hid (Below w.heap.size w wr)) (fun vi _ => fa.length - (intOf vi).toNat)
    case atStart => exact ⟨0, rfl, by omega, Lib.hid (by simp), Lib.hid (Below.refl _ _)⟩
    case round =>
      obtain ⟨k, rfl, hk, HT, HW⟩ := hrel
      have hsz := HW.out.size
      rcases Nat.lt_or_ge k fa.length with hlt | hge
      · have hly : k < fb.length := by have := HL.out; omega
        have hls : k < sa.length := by omega
        have hlt' : k < sb.length := by omega
        obtain ⟨b1, o1, rfl, hb1, x0, x1⟩ := (HA.out.row.below (Nat.le_refl _) HW.out).fact2 hls
        obtain ⟨b2, o2, rfl, hb2, y0, y1⟩ := (HB.out.row.below (Nat.le_refl _) HW.out).fact2 hlt'
        have hl1 : b1 < wr.heap.size := by omega
        have hl2 : b2 < wr.heap.size := by omega
        have HD := Lib.hid (facts_diff hlt hly)
        have HS := Lib.hid (facts_snoc HT.out hlt hly)
        have HC := Lib.hid fun W (hW : Below wr.heap.size wr W) => rCompare_any fa[k] fb[k] sa[k] sb[k] W (((HA.out.each k hls hlt).next (Nat.le_refl _) HW.out).next (Nat.le_refl _) hW) (((HB.out.each k hlt' hly).next (Nat.le_refl _) HW.out).next (Nat.le_refl _) hW) (HKA.out _ (List.getElem_mem hlt)) (HKB.out _ (List.getElem_mem hly))
        generalize fa[k] = x at *
        generalize fb[k] = y at *
        generalize sa[k] = p at *
        generalize sb[k] = q at *
        obtain ⟨pr, pA, pn, pc⟩ := p
        obtain ⟨qr, qA, qn, qc⟩ := q
        simp only at *
        generalize cmpF x y = c at *
        have HKS : Hid (∀ W W' : World, (Below wr.heap.size wr W ∧ W.cell? ⟨b1, o1 + k * 2, none⟩ = some (.string ⟨pr.toArray⟩) ∧ W.cell? ⟨b1, o1 + k * 2 + 1, none⟩ = some (.slice pA pn pc) ∧ W.cell? ⟨b2, o2 + k * 2, none⟩ = some (.string ⟨qr.toArray⟩) ∧ W.cell? ⟨b2, o2 + k * 2 + 1, none⟩ = some (.slice qA qn qc)) → Below W.heap.size W W' →
            (Below wr.heap.size wr W' ∧ W'.cell? ⟨b1, o1 + k * 2, none⟩ = some (.string ⟨pr.toArray⟩) ∧ W'.cell? ⟨b1, o1 + k * 2 + 1, none⟩ = some (.slice pA pn pc) ∧ W'.cell? ⟨b2, o2 + k * 2, none⟩ = some (.string ⟨qr.toArray⟩) ∧ W'.cell? ⟨b2, o2 + k * 2 + 1, none⟩ = some (.slice qA qn qc))) := Lib.hid fun W W' h hb => by
          obtain ⟨h0, h1, h2, h3, h4⟩ := h
          have key : ∀ {N j : Nat} {v : Value}, W.cell? ⟨N, j, none⟩ = some v → W'.cell? ⟨N, j, none⟩ = some v := fun {N j v} h => (hb.cell (p := ⟨N, j, none⟩) (World.block_lt_of_cell? W _ h)).trans h
          exact ⟨bel_next h0 hb, key h1, key h2, key h3, key h4⟩
        have hS4 := HKS.out wr wr.drew ⟨Below.refl _ _, x0, x1, y0, y1⟩ ((Below.refl _ _).drew)
        clear x0 x1 y0 y1
        go_upto_region 6 with fail
        go_region_held3 (fun W => Below wr.heap.size wr W ∧ W.cell? ⟨b1, o1 + k * 2, none⟩ = some (.string ⟨pr.toArray⟩) ∧ W.cell? ⟨b1, o1 + k * 2 + 1, none⟩ = some (.slice pA pn pc) ∧ W.cell? ⟨b2, o2 + k * 2, none⟩ = some (.string ⟨qr.toArray⟩) ∧ W.cell? ⟨b2, o2 + k * 2 + 1, none⟩ = some (.slice qA qn qc))
          (assumption)
          (first | (go_at_call 14; go_fit (HC.out _ (And.left (by assumption))); rintro e w1 ⟨rfl, hbn⟩; have hSn := HKS.out _ _ (by assumption) hbn))
        have HN := Lib.hid (bel_next HW.out hSn.1)
        clear hSn HKS HC
        by_cases hc : c = 0
        · have fc : (c != 0) = false := by simp [hc]
          have HS2 := Lib.hid (HS.out hc)
          go_wp2
          go_roundw
          case rel => exact ⟨k + 1, by go_num, by omega, HS2, HN⟩
          case measure => simp [intOf]; omega
        · have fc : (c != 0) = true := by simp [hc]
          go_wp2
          go_ret
          exact ⟨⟨false, rfl, by simp [HD.out hc]⟩, HN.out⟩
      · have hEQ : fa = fb := by
          have := HT.out
          have hll := HL.out
          rw [List.take_of_length_le hge, List.take_of_length_le (by omega)] at this
          exact this
        have HEQ := Lib.hid hEQ
        clear hEQ
        go_wp2
        go_ret
        exact ⟨⟨true, rfl, by simp [HEQ.out]⟩, HW.out⟩
  · have fl : ((fa.length : Int) != (fb.length : Int)) = true := by simp; omega
    have HNE : Hid (fa ≠ fb) := Lib.hid fun e => hl (by rw [e])
    go_enter Tryz.func15, Tryz.ntmps15
    go_wp2
    go_ret
    exact ⟨⟨false, rfl, by simp [HNE.out]⟩, Below.refl _ _⟩
end Go.Proofs.YtolkceibbefhfaaGreatDoor


namespace Go.Proofs.YtolkceibbefhfaaGreatDoor
open Go.RowKit Go.Shelf

structure SmallF (f : GFact) : Prop where
  rel : f.rel.length ≤ 60
  args : f.args.length ≤ 12
  word : ∀ v ∈ f.args, v.word.length ≤ 60
def Small (fs : List GFact) : Prop := fs.length ≤ 80 ∧ ∀ f ∈ fs, SmallF f
/-- The fact s, asx it lies in memory, is f, whatever its length. -/
structure FHold0 (w : World) (B : Nat) (s : SFact) (f : GFact) : Prop where
  rel : s.rel = f.rel
  n : s.n = f.args.length
  row : GRow GVal.cells 3 w B s.A f.args
  max : f.args.length ≤ maxLen
structure FRow0 (w : World) (B : Nat) (A : Option Addr) (ss : List SFact) (fs : List GFact) : Prop where
  row : GRow SFact.cells 2 w B A ss
  len : ss.length = fs.length
  each : ∀ i (h1 : i < ss.length) (h2 : i < fs.length), FHold0 w B ss[i] fs[i]
theorem FHold0.small {w : World} {B : Nat} {s : SFact} {f : GFact} (h : FHold0 w B s f) (hf : SmallF f) : FHold w B s f := ⟨h.rel, h.n, h.row, by have := hf.args; omega⟩
theorem FRow0.small {w : World} {B : Nat} {A : Option Addr} {ss : List SFact} {fs : List GFact} (h : FRow0 w B A ss fs) (hf : Small fs) : FRow w B A ss fs := ⟨h.row, h.len, fun i h1 h2 => (h.each i h1 h2).small (hf.2 _ (List.getElem_mem h2))⟩
theorem FHold0.below {w w' : World} {B B' : Nat} {s : SFact} {f : GFact} (h : FHold0 w B s f) (hB : B ≤ B') (hb : Below B' w w') : FHold0 w' B s f := ⟨h.rel, h.n, h.row.below hB hb, h.max⟩
theorem FHold0.wide {w : World} {B B' : Nat} {s : SFact} {f : GFact} (h : FHold0 w B s f) (hB : B ≤ B') : FHold0 w B' s f := ⟨h.rel, h.n, h.row.wide hB, h.max⟩
theorem FHold0.next {w w' : World} {B : Nat} {s : SFact} {f : GFact} (h : FHold0 w B s f) (hB : B ≤ w.heap.size) (hb : Below w.heap.size w w') : FHold0 w' w'.heap.size s f := (h.below hB hb).wide (Nat.le_trans hB hb.size)
theorem small_snoc {fs : List GFact} {k : Nat} (h : k < fs.length) (ha : ∀ f ∈ fs.take k, SmallF f) (hw : SmallF fs[k]) : ∀ f ∈ fs.take (k + 1), SmallF f := by
  rw [List.take_succ_eq_append_getElem h]
  intro f hf
  rcases List.mem_append.1 hf with h1 | h1
  · exact ha f h1
  · simp at h1; subst h1; exact hw
theorem words_snoc {vs : List GVal} {k : Nat} (h : k < vs.length) (ha : ∀ v ∈ vs.take k, v.word.length ≤ 60) (hw : vs[k].word.length ≤ 60) : ∀ v ∈ vs.take (k + 1), v.word.length ≤ 60 := by
  rw [List.take_succ_eq_append_getElem h]
  intro f hf
  rcases List.mem_append.1 hf with h1 | h1
  · exact ha f h1
  · simp at h1; subst h1; exact hw
def FewEnd (fs : List GFact) (w : World) (e : Ending) (w' : World) : Prop := (∃ b, e = .returned (.bool b) ∧ (b = true → Small fs)) ∧ w = w'
set_option maxRecDepth 50000 in
set_option maxHeartbeats 1000000 in
theorem few_any (ss : List SFact) (fs : List GFact) (A : Option Addr) (c : Nat) (w : World) (hA : FRow0 w w.heap.size A ss fs) :
    Calls Tryz.prog 6 #[.slice A fs.length c] w (FewEnd fs w) := by
  have HA := Lib.hid hA
  have hlen := hA.len
  clear hA
  by_cases h80 : fs.length ≤ 80
  · have f80 : decide ((80 : Int) < (fs.length : Int)) = false := by simp; omega
    have g80 : ¬ (80 : Int) < (fs.length : Int) := by omega
    go_enter Tryz.func6, Tryz.ntmps6
    go_wp2
    go_loop [3] (fun vi => ∃ i : Nat, vi = .int .i64 i ∧ i ≤ fs.length ∧ Hid (∀ f ∈ fs.take i, SmallF f)) (fun vi => fs.length - (intOf vi).toNat)
    case atStart => exact ⟨0, rfl, Nat.zero_le _, Lib.hid (by simp)⟩
    case round =>
      obtain ⟨i, rfl, hi, HT⟩ := hrel
      rcases Nat.lt_or_ge i fs.length with hlt | hge
      · have hls : i < ss.length := by omega
        obtain ⟨b1, o1, rfl, hb1, x0, x1⟩ := HA.out.row.fact2 hls
        have hold := HA.out.each i hls hlt
        have HSN := Lib.hid (small_snoc hlt HT.out)
        generalize fs[i] = f at *
        generalize ss[i] = y at *
        obtain ⟨r, vs⟩ := f
        obtain ⟨yr, yA, yn, yc⟩ := y
        have e1 := hold.rel
        have e2 := hold.n
        have hmx := hold.max
        have HR := Lib.hid hold.row
        clear hold
        simp only at e1 e2 x0 x1 hmx HR
        subst e1 e2
        unfold maxLen at hmx
        have hsz : (⟨yr.toArray⟩ : ByteArray).size = yr.length := ba_size yr
        by_cases hr : yr.length ≤ 60
        · have fr : decide ((60 : Int) < (yr.length : Int)) = false := by simp; omega
          have gr : ¬ (60 : Int) < (yr.length : Int) := by omega
          by_cases ha : vs.length ≤ 12
          · have fa : decide ((12 : Int) < (vs.length : Int)) = false := by simp; omega
            have ga : ¬ (12 : Int) < (vs.length : Int) := by omega
            go_wp2
            go_loop [4] (fun vk => ∃ k : Nat, vk = .int .i64 k ∧ k ≤ vs.length ∧ Hid (∀ v ∈ vs.take k, v.word.length ≤ 60)) (fun vk => vs.length - (intOf vk).toNat)
            case atStart => exact ⟨0, rfl, Nat.zero_le _, Lib.hid (by simp)⟩
            case round =>
              obtain ⟨k, rfl, hk, HV⟩ := hrel
              rcases Nat.lt_or_ge k vs.length with hlk | hgk
              · obtain ⟨b2, o2, rfl, hb2, z0, z1, z2⟩ := HR.out.val3 hlk
                have HWS := Lib.hid (words_snoc hlk HV.out)
                generalize vs[k] = v at *
                obtain ⟨vk, vn, vw⟩ := v
                simp only at z0 z1 z2 HWS
                have hsw : (⟨vw.toArray⟩ : ByteArray).size = vw.length := ba_size vw
                by_cases hw : vw.length ≤ 60
                · have fw : decide ((60 : Int) < (vw.length : Int)) = false := by simp; omega
                  have gw : ¬ (60 : Int) < (vw.length : Int) := by omega
                  have HW2 := Lib.hid (HWS.out hw)
                  go_wp2
                  go_round
                  case rel => exact ⟨k + 1, by go_num, by omega, HW2⟩
                  case measure => simp [intOf]; omega
                · have fw : decide ((60 : Int) < (vw.length : Int)) = true := by simp; omega
                  have gw : (60 : Int) < (vw.length : Int) := by omega
                  go_wp2
                  go_ret
                  exact ⟨⟨false, rfl, by simp⟩, rfl⟩
              · have HS2 := Lib.hid (HSN.out ⟨hr, ha, by have := HV.out; rw [List.take_of_length_le hgk] at this; exact this⟩)
                go_wp2
                go_round
                case rel => exact ⟨i + 1, by go_num, by omega, HS2⟩
                case measure => simp [intOf]; omega
          · have fa : decide ((12 : Int) < (vs.length : Int)) = true := by simp; omega
            have ga : (12 : Int) < (vs.length : Int) := by omega
            go_wp2
            go_ret
            exact ⟨⟨false, rfl, by simp⟩, rfl⟩
        · have fr : decide ((60 : Int) < (yr.length : Int)) = true := by simp; omega
          have gr : (60 : Int) < (yr.length : Int) := by omega
          go_wp2
          go_ret
          exact ⟨⟨false, rfl, by simp⟩, rfl⟩
      · go_wp2
        go_ret
        exact ⟨⟨true, rfl, fun _ => ⟨h80, by have := HT.out; rw [List.take_of_length_le hge] at this; exact this⟩⟩, rfl⟩
  · have f80 : decide ((80 : Int) < (fs.length : Int)) = true := by simp; omega
    have g80 : (80 : Int) < (fs.length : Int) := by omega
    go_enter Tryz.func6, Tryz.ntmps6
    go_wp2
    go_ret
    exact ⟨⟨false, rfl, by simp⟩, rfl⟩
end Go.Proofs.YtolkceibbefhfaaGreatDoor
