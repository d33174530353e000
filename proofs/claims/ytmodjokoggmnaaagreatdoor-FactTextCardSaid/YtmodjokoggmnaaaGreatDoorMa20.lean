/-
  facts.union and facts.setOf in terms of plain facts.
  Conditions: the lists have at most 1000000 facts together, each fact at most 1000000 arguments.
  The reference's comparisons of numbers, strings and values.
  Conditions: kinds are ints of the language.
  The reference's comparison of facts, and of lists of facts.
  Conditions: a fact has at most 2^40 arguments, a list at most 2^40 facts; kinds are ints of the language.
-/
import Derived.Test.YtmodjokoggmnaaaGreatDoorMa19
import Derived.Test.YtmodjokoggmnaaaGreatDoorMa9
import Derived.Laws.Cover1
import Derived.Deep.DeepFit
namespace Go.Proofs.YtmodjokoggmnaaaGreatDoor

open Go.RowKit Go.Shelf

/-- v is a slice (nil, or not) that holds the facts fs, asx ss. -/
structure SetV (w : World) (v : Value) (ss : List SFact) (fs : List GFact) : Prop where
  row : RowV w v ss
  len : ss.length = fs.length
  each : ∀ i (h1 : i < ss.length) (h2 : i < fs.length), FHold w w.heap.size ss[i] fs[i]
theorem SetV.next {w w' : World} {v : Value} {ss : List SFact} {fs : List GFact} (h : SetV w v ss fs) (hb : Below w.heap.size w w') : SetV w' v ss fs := ⟨h.row.next hb, h.len, fun i h1 h2 => (h.each i h1 h2).next (Nat.le_refl _) hb⟩
theorem SetV.nil (w : World) : SetV w (.slice none 0 0) [] [] := ⟨.inl ⟨rfl, rfl⟩, rfl, fun i h1 => by simp at h1⟩
/-- The set of the facts fa and fb comes back, in memory of the call's own. -/
def SetEnd (fa fb : List GFact) (w : World) (e : Ending) (w' : World) : Prop :=
  ∃ v, ∃ ss : List SFact, ∃ fs : List GFact, e = .returned v ∧ OwnG SFact.cells 37 2 w' w.heap.size v ss ∧ SetV w' v ss fs ∧ StrictF fs ∧ (∀ f, f ∈ fs ↔ f ∈ fa ∨ f ∈ fb) ∧ fs.length ≤ fa.length + fb.length ∧ Below w.heap.size w w'
theorem OwnG.rowV {w : World} {base : Nat} {v : Value} {ss : List SFact} (h : OwnG SFact.cells 37 2 w base v ss) : RowV w v ss := by
  obtain ⟨A, c, rfl, hl, _, hr⟩ := h.row SFact.len
  rcases h.2 with ⟨hv, h0⟩ | ⟨g, cap, cur, hv, _⟩
  · exact .inl ⟨hv, List.eq_nil_of_length_eq_zero h0⟩
  · rw [hv]
    have hA : A = some ⟨g, 0, none⟩ := by injection hv
    subst hA
    exact .inr ⟨_, _, rfl, hr⟩
theorem union_facts (va vb : Value) (sa sb : List SFact) (fa fb : List GFact) (w : World) (ha : SetV w va sa fa) (hb : SetV w vb sb fb) (hn : fa.length + fb.length ≤ 1000000) (hargs : ∀ f, f ∈ fa ∨ f ∈ fb → f.args.length ≤ 1000000) :
    Calls Tryz.prog 54 #[va, vb] w (SetEnd fa fb w) := by
  obtain ⟨ea, e1, e2⟩ := elems_of sa fa ha.len ha.each
  obtain ⟨eb, e3, e4⟩ := elems_of sb fb hb.len hb.each
  have hla : ea.length = fa.length := by rw [← e2, List.length_map]
  have hlb : eb.length = fb.length := by rw [← e4, List.length_map]
  have hm : ∀ f, (∃ x ∈ ea ++ eb, x.fact = f) ↔ f ∈ fa ∨ f ∈ fb := fun f => by
    rw [← e2, ← e4, List.mem_map, List.mem_map]
    constructor
    · rintro ⟨x, hx, h⟩
      rcases List.mem_append.1 hx with hx | hx
      · exact .inl ⟨x, hx, h⟩
      · exact .inr ⟨x, hx, h⟩
    · rintro (⟨x, hx, h⟩ | ⟨x, hx, h⟩)
      · exact ⟨x, List.mem_append.2 (.inl hx), h⟩
      · exact ⟨x, List.mem_append.2 (.inr hx), h⟩
  refine (union_any va vb ea eb (by rw [e1]; exact ha.row) (by rw [e3]; exact hb.row) (by omega) (fun x hx => hargs _ ((hm _).1 ⟨x, hx, rfl⟩))).mono ?_
  rintro e w' ⟨v, ss, fs, rfl, h1, h2, h3, h4, h5, h6, h7⟩
  exact ⟨v, ss, fs, rfl, h1, ⟨h1.rowV, h2, h3⟩, h4, fun f => (h5 f).trans (hm f), by omega, h7⟩
theorem setOf_facts (va : Value) (sa : List SFact) (fa : List GFact) (w : World) (ha : SetV w va sa fa) (hn : fa.length ≤ 1000000) (hargs : ∀ f, f ∈ fa → f.args.length ≤ 1000000) :
    Calls Tryz.prog 23 #[va] w (SetEnd fa [] w) := by
  have HU := Lib.hid (union_facts va (.slice none 0 0) sa [] fa [] w ha (SetV.nil w) (by simpa using hn) (fun f hf => by rcases hf with h | h; exact hargs f h; cases h))
  clear ha
  go_enter Tryz.func23, Tryz.ntmps23
  go_wp2_with fail
  go_fit HU.out
  rintro e w1 ⟨v, ss, fs, rfl, h1, h2, h3, h4, h5, h6⟩
  have HE := Lib.hid (show SetEnd fa [] w (.returned v) w1 from ⟨v, ss, fs, rfl, h1, h2, h3, h4, h5, h6⟩)
  clear h1 h2 h3 h4 h5 h6
  go_wp2
  go_ret
  exact HE.out
end Go.Proofs.YtmodjokoggmnaaaGreatDoor


namespace Go.Proofs.YtmodjokoggmnaaaGreatDoor

open Go.RowKit Go.Shelf

theorem rNumber_any (x y : Int) (w : World) : Calls Tryz.prog 61 #[.int .i64 x, .int .i64 y] w fun e w' => e = .returned (.int .i64 (Lib.compareInt x y)) ∧ w = w' := by
  have HC : Hid (Lib.compareInt x y = if x < y then -1 else if x > y then 1 else 0) := Lib.hid rfl
  go_enter Tryz.func61, Tryz.ntmps61
  go_wp2
  all_goals go_ret
  all_goals refine ⟨ret_int ?_, rfl⟩
  · rw [HC.out, if_pos (by assumption)]
  · rw [HC.out, if_neg (by omega), if_pos (by omega)]
  · rw [HC.out, if_neg (by omega), if_neg (by omega)]
theorem less_cmp : ∀ a b : List UInt8, Op.bytesLess a b = decide (Lib.compareBytes a b < 0)
  | [], [] => by simp [Op.bytesLess, Lib.compareBytes]
  | [], _ :: _ => by simp [Op.bytesLess, Lib.compareBytes]
  | _ :: _, [] => by simp [Op.bytesLess, Lib.compareBytes]
  | a :: ra, b :: rb => by
    unfold Op.bytesLess Lib.compareBytes
    rw [less_cmp ra rb]
    by_cases h1 : a < b
    · simp [h1]
    · by_cases h2 : b < a
      · have h3 : a ≠ b := fun e => h1 (e ▸ h2)
        simp [h1, h2, h3]
      · have e : a = b := UInt8.toNat_inj.1 (by rw [UInt8.lt_iff_toNat_lt] at h1 h2; omega)
        subst e
        simp [h1]
theorem wrap_wf {a : Int} (h : (Lit.int .i64 a).wf = true) : IntKind.i64.wrap a = a := by
  simp [Lit.wf] at h
  have h1 : (-9223372036854775808 : Int) ≤ a := h.1
  have h2 : a ≤ 9223372036854775807 := h.2
  exact IntWalk.i64_in _ (by omega)
theorem rOrder_any (x y : List UInt8) (w : World) : Calls Tryz.prog 60 #[.string ⟨x.toArray⟩, .string ⟨y.toArray⟩] w fun e w' => e = .returned (.int .i64 (Lib.compareBytes x y)) ∧ w = w' := by
  have hr := ord_bytes.r x y
  have hlt : Op.bytesLess x y = decide (Lib.compareBytes x y < 0) := less_cmp x y
  have heq : (x == y) = decide (Lib.compareBytes x y = 0) := by
    by_cases h : x = y
    · subst h
      simp [ord_bytes.self]
    · have : Lib.compareBytes x y ≠ 0 := fun e => h ((ord_bytes.z x y).1 e)
      simp [h, this]
  rcases (by omega : Lib.compareBytes x y = -1 ∨ Lib.compareBytes x y = 0 ∨ Lib.compareBytes x y = 1) with h | h | h
  · have f1 : Op.bytesLess x y = true := by rw [hlt, h]; decide
    rw [h]
    clear hr hlt heq h
    go_enter Tryz.func60, Tryz.ntmps60
    go_wp2
    go_ret
    exact ⟨rfl, rfl⟩
  · have f1 : Op.bytesLess x y = false := by rw [hlt, h]; decide
    have f2 : (x == y) = true := by rw [heq, h]; decide
    have HXY : Hid (x = y) := Lib.hid ((ord_bytes.z x y).1 h)
    rw [h]
    clear hr hlt heq h
    go_enter Tryz.func60, Tryz.ntmps60
    go_wp2
    all_goals go_ret
    all_goals exact ⟨rfl, rfl⟩
  · have f1 : Op.bytesLess x y = false := by rw [hlt, h]; decide
    have f2 : (x == y) = false := by rw [heq, h]; decide
    rw [h]
    clear hr hlt heq h
    go_enter Tryz.func60, Tryz.ntmps60
    go_wp2
    all_goals go_ret
    all_goals exact ⟨rfl, rfl⟩
set_option maxRecDepth 50000 in
set_option maxHeartbeats 1000000 in
theorem rCompareValues_any (a b : GVal) (w : World) (ha : (Lit.int .i64 a.kind).wf = true) (hb : (Lit.int .i64 b.kind).wf = true) :
    Calls Tryz.prog 100 #[a.val, b.val] w fun e w' => e = .returned (.int .i64 (cmpV a b)) ∧ Below w.heap.size w w' := by
  have HE := Lib.hid (cmpV_eq a b)
  have HT : Hid (∀ p q : Int, then3 p q = if p ≠ 0 then p else q) := Lib.hid fun _ _ => rfl
  obtain ⟨ak, ai, aw⟩ := a
  obtain ⟨bk, bi, bw⟩ := b
  have hwa : IntKind.i64.wrap ak = ak := wrap_wf ha
  have hwb : IntKind.i64.wrap bk = bk := wrap_wf hb
  have H1 := Lib.hid (rNumber_any ak bk)
  have H2 := Lib.hid (rNumber_any ai bi)
  have H3 := Lib.hid (rOrder_any aw bw)
  have HB := Lib.hid (bel_lit (bel_lit (Below.refl w.heap.size w) (.cells #[.int .i64 ak, .int .i64 ai, .string ⟨aw.toArray⟩] 40)) (.cells #[.int .i64 bk, .int .i64 bi, .string ⟨bw.toArray⟩] 40))
  simp only [GVal.val] at *
  clear ha hb
  generalize cmpV ⟨ak, ai, aw⟩ ⟨bk, bi, bw⟩ = cf at *
  generalize Lib.compareInt ak bk = c1 at *
  generalize Lib.compareInt ai bi = c2 at *
  generalize Lib.compareBytes aw bw = c3 at *
  go_enter Tryz.func100, Tryz.ntmps100
  go_wp2_with fail
  go_fit (H1.out _)
  rintro e w1 ⟨rfl, rfl⟩
  by_cases h1 : c1 = 0
  · have f1 : (c1 != 0) = false := by simp [h1]
    have HZ := Lib.hid h1
    clear h1
    go_wp2_with fail
    go_fit (H2.out _)
    rintro e w1 ⟨rfl, rfl⟩
    by_cases h2 : c2 = 0
    · have f2 : (c2 != 0) = false := by simp [h2]
      have HZ2 := Lib.hid h2
      clear h2
      go_wp2_with fail
      go_fit (H3.out _)
      rintro e w1 ⟨rfl, rfl⟩
      go_wp2
      go_ret
      exact ⟨ret_int (by rw [HE.out, HT.out, if_neg (by have := HZ.out; omega), HT.out, if_neg (by have := HZ2.out; omega)]), HB.out⟩
    · have f2 : (c2 != 0) = true := by simp [h2]
      go_wp2
      go_ret
      exact ⟨ret_int (by rw [HE.out, HT.out, if_neg (by have := HZ.out; omega), HT.out, if_pos h2]), HB.out⟩
  · have f1 : (c1 != 0) = true := by simp [h1]
    go_wp2
    go_ret
    exact ⟨ret_int (by rw [HE.out, HT.out, if_pos h1]), HB.out⟩
end Go.Proofs.YtmodjokoggmnaaaGreatDoor


namespace Go.Proofs.YtmodjokoggmnaaaGreatDoor

open Go.RowKit Go.Shelf

def KindsWf (vs : List GVal) : Prop := ∀ v ∈ vs, (Lit.int .i64 v.kind).wf = true
theorem list3_same {xs ys : List GVal} {k : Nat} (h : xs.take k = ys.take k) (h1 : xs.length ≤ k) (h2 : ys.length ≤ k) : list3 cmpV xs ys = 0 := by
  rw [List.take_of_length_le h1, List.take_of_length_le h2] at h
  rw [h]; exact ord_val.list.self _
set_option maxRecDepth 50000 in
set_option maxHeartbeats 1000000 in
theorem rCompareLists_any (xs ys : List GVal) (A B : Option Addr) (ca cb : Nat) (w : World) (hA : GRow GVal.cells 3 w w.heap.size A xs) (hB : GRow GVal.cells 3 w w.heap.size B ys) (hl : xs.length = ys.length) (hx : xs.length ≤ 1099511627776) (kx : KindsWf xs) (ky : KindsWf ys) :
    Calls Tryz.prog 62 #[.slice A xs.length ca, .slice B ys.length cb] w fun e w' => e = .returned (.int .i64 (list3 cmpV xs ys)) ∧ Below w.heap.size w w' := by
  have HA := Lib.hid hA
  have HB := Lib.hid hB
  have HKX := Lib.hid kx
  have HKY := Lib.hid ky
  have hy : ys.length ≤ 1099511627776 := by omega
  have HL := Lib.hid hl
  clear hA hB kx ky hl
  go_enter Tryz.func62, Tryz.ntmps62
  go_wp2
  go_loopw [5] (fun vi wr => ∃ k : Nat, vi = .int .i64 k ∧ k ≤ xs.length ∧ k ≤ ys.length ∧ Hid (xs.take k = ys.take k) ∧ Hid (Below w.heap.size w wr)) (fun vi _ => xs.length - (intOf vi).toNat)
  case atStart => exact ⟨0, rfl, by omega, by omega, Lib.hid (by simp), Lib.hid (Below.refl _ _)⟩
  case round =>
    obtain ⟨k, rfl, hkx, hky, HT, HW⟩ := hrel
    have hsz := HW.out.size
    rcases Nat.lt_or_ge k xs.length with hlt | hge
    · have hly : k < ys.length := by have := HL.out; omega
      obtain ⟨b1, o1, rfl, hb1, x0, x1, x2⟩ := (HA.out.below (Nat.le_refl _) HW.out).val3 hlt
      obtain ⟨b2, o2, rfl, hb2, y0, y1, y2⟩ := (HB.out.below (Nat.le_refl _) HW.out).val3 hly
      have hl1 : b1 < wr.heap.size := by omega
      have hl2 : b2 < wr.heap.size := by omega
      have HD := Lib.hid (list3_diff HT.out hlt hly)
      have HS := Lib.hid (take_same HT.out hlt hly)
      have HC := Lib.hid fun W => rCompareValues_any xs[k] ys[k] W (HKX.out _ (List.getElem_mem hlt)) (HKY.out _ (List.getElem_mem hly))
      generalize xs[k] = x at *
      generalize ys[k] = y at *
      obtain ⟨xk, xi, xw⟩ := x
      obtain ⟨yk, yi, yw⟩ := y
      simp only [GVal.val] at *
      generalize cmpV ⟨xk, xi, xw⟩ ⟨yk, yi, yw⟩ = c at *
      have HKS : Hid (∀ W W' : World, (Below wr.heap.size wr W ∧ W.cell? ⟨b1, o1 + k * 3, none⟩ = some (.int .i64 xk) ∧ W.cell? ⟨b1, o1 + k * 3 + 1, none⟩ = some (.int .i64 xi) ∧ W.cell? ⟨b1, o1 + k * 3 + 2, none⟩ = some (.string ⟨xw.toArray⟩) ∧ W.cell? ⟨b2, o2 + k * 3, none⟩ = some (.int .i64 yk) ∧ W.cell? ⟨b2, o2 + k * 3 + 1, none⟩ = some (.int .i64 yi) ∧ W.cell? ⟨b2, o2 + k * 3 + 2, none⟩ = some (.string ⟨yw.toArray⟩)) → Below W.heap.size W W' →
          (Below wr.heap.size wr W' ∧ W'.cell? ⟨b1, o1 + k * 3, none⟩ = some (.int .i64 xk) ∧ W'.cell? ⟨b1, o1 + k * 3 + 1, none⟩ = some (.int .i64 xi) ∧ W'.cell? ⟨b1, o1 + k * 3 + 2, none⟩ = some (.string ⟨xw.toArray⟩) ∧ W'.cell? ⟨b2, o2 + k * 3, none⟩ = some (.int .i64 yk) ∧ W'.cell? ⟨b2, o2 + k * 3 + 1, none⟩ = some (.int .i64 yi) ∧ W'.cell? ⟨b2, o2 + k * 3 + 2, none⟩ = some (.string ⟨yw.toArray⟩))) := Lib.hid fun W W' h hb => by
        obtain ⟨h0, h1, h2, h3, h4, h5, h6⟩ := h
        have key : ∀ {N j : Nat} {v : Value}, W.cell? ⟨N, j, none⟩ = some v → W'.cell? ⟨N, j, none⟩ = some v := fun {N j v} h => (hb.cell (p := ⟨N, j, none⟩) (World.block_lt_of_cell? W _ h)).trans h
        exact ⟨bel_next h0 hb, key h1, key h2, key h3, key h4, key h5, key h6⟩
      have hS4 := HKS.out wr wr.drew ⟨Below.refl _ _, x0, x1, x2, y0, y1, y2⟩ ((Below.refl _ _).drew)
      clear x0 x1 x2 y0 y1 y2
      go_upto_region 4 with fail
      go_region_held3 (fun W => Below wr.heap.size wr W ∧ W.cell? ⟨b1, o1 + k * 3, none⟩ = some (.int .i64 xk) ∧ W.cell? ⟨b1, o1 + k * 3 + 1, none⟩ = some (.int .i64 xi) ∧ W.cell? ⟨b1, o1 + k * 3 + 2, none⟩ = some (.string ⟨xw.toArray⟩) ∧ W.cell? ⟨b2, o2 + k * 3, none⟩ = some (.int .i64 yk) ∧ W.cell? ⟨b2, o2 + k * 3 + 1, none⟩ = some (.int .i64 yi) ∧ W.cell? ⟨b2, o2 + k * 3 + 2, none⟩ = some (.string ⟨yw.toArray⟩))
        (assumption)
        (first | (go_at_call 100; go_fit (HC.out _); rintro e w1 ⟨rfl, hbn⟩; have hSn := HKS.out _ _ (by assumption) hbn))
      have HN := Lib.hid (bel_next HW.out hSn.1)
      clear hSn HKS HC
      by_cases hc : c = 0
      · have fc : (c != 0) = false := by simp [hc]
        have HS2 := Lib.hid (HS.out hc)
        go_wp2
        go_roundw
        case rel => exact ⟨k + 1, by go_num, by omega, by omega, HS2, HN⟩
        case measure => simp [intOf]; omega
      · have fc : (c != 0) = true := by simp [hc]
        go_wp2
        go_ret
        exact ⟨ret_int (HD.out hc).symm, HN.out⟩
    · have HZ := Lib.hid (list3_same HT.out hge (by have := HL.out; omega))
      go_wp2
      go_ret
      exact ⟨ret_int HZ.out.symm, HW.out⟩

set_option maxRecDepth 50000 in
set_option maxHeartbeats 1000000 in
theorem rCompare_any (f g : GFact) (s t : SFact) (w : World) (hf : FHold w w.heap.size s f) (hg : FHold w w.heap.size t g) (kf : KindsWf f.args) (kg : KindsWf g.args) :
    Calls Tryz.prog 33 #[.agg #[.string ⟨s.rel.toArray⟩, .slice s.A s.n s.c], .agg #[.string ⟨t.rel.toArray⟩, .slice t.A t.n t.c]] w fun e w' => e = .returned (.int .i64 (cmpF f g)) ∧ Below w.heap.size w w' := by
  obtain ⟨sr, A, sn, ca⟩ := s
  obtain ⟨tr, B, tn, cb⟩ := t
  obtain ⟨r, xs⟩ := f
  obtain ⟨q, ys⟩ := g
  have e1 := hf.rel
  have e2 := hf.n
  have e3 := hg.rel
  have e4 := hg.n
  have hx := hf.few
  have hy := hg.few
  have hA := hf.row
  have hB := hg.row
  simp only at *
  subst e1 e2 e3 e4
  clear hf hg
  have HE := Lib.hid (cmpF_eq ⟨sr, xs⟩ ⟨tr, ys⟩)
  have HT : Hid (∀ p q : Int, then3 p q = if p ≠ 0 then p else q) := Lib.hid fun _ _ => rfl
  have H1 := Lib.hid (rOrder_any sr tr)
  have H2 := Lib.hid (rNumber_any (xs.length : Int) (ys.length : Int))
  have HIZ := Lib.hid (ord_int.z (xs.length : Int) (ys.length : Int))
  have HC := Lib.hid fun W (hW : Below w.heap.size w W) (hl : xs.length = ys.length) => rCompareLists_any xs ys A B ca cb W (((hA.below (Nat.le_refl _) hW).wide hW.size)) (((hB.below (Nat.le_refl _) hW).wide hW.size)) hl hx kf kg
  have HB := Lib.hid (bel_lit (bel_lit (Below.refl w.heap.size w) (.cells #[.string ⟨sr.toArray⟩, .slice A xs.length ca] 37)) (.cells #[.string ⟨tr.toArray⟩, .slice B ys.length cb] 37))
  generalize cmpF ⟨sr, xs⟩ ⟨tr, ys⟩ = cf at *
  simp only at HE
  generalize Lib.compareBytes sr tr = c1 at *
  generalize Lib.compareInt (xs.length : Int) (ys.length : Int) = c2 at *
  generalize list3 cmpV xs ys = c3 at *
  clear hA hB kf kg
  go_enter Tryz.func33, Tryz.ntmps33
  go_wp2_with fail
  go_fit (H1.out _)
  rintro e w1 ⟨rfl, rfl⟩
  by_cases h1 : c1 = 0
  · have f1 : (c1 != 0) = false := by simp [h1]
    have HZ := Lib.hid h1
    clear h1
    go_wp2_with fail
    go_fit (H2.out _)
    rintro e w1 ⟨rfl, rfl⟩
    by_cases h2 : c2 = 0
    · have f2 : (c2 != 0) = false := by simp [h2]
      have HZ2 := Lib.hid h2
      have HLL := Lib.hid (HIZ.out.1 h2)
      clear h2
      go_wp2_with fail
      go_fit (HC.out _ HB.out (by have := HLL.out; omega))
      rintro e w1 ⟨rfl, hb⟩
      go_wp2
      go_ret
      exact ⟨ret_int (by rw [HE.out, HT.out, if_neg (by have := HZ.out; omega), HT.out, if_neg (by have := HZ2.out; omega)]), bel_next HB.out hb⟩
    · have f2 : (c2 != 0) = true := by simp [h2]
      go_wp2
      go_ret
      exact ⟨ret_int (by rw [HE.out, HT.out, if_neg (by have := HZ.out; omega), HT.out, if_pos h2]), HB.out⟩
  · have f1 : (c1 != 0) = true := by simp [h1]
    go_wp2
    go_ret
    exact ⟨ret_int (by rw [HE.out, HT.out, if_pos h1]), HB.out⟩

def SameEnd (fa fb : List GFact) (w : World) (e : Ending) (w' : World) : Prop := (∃ b, e = .returned (.bool b) ∧ (b = true ↔ fa = fb)) ∧ Below w.heap.size w w'
theorem facts_snoc {xs ys : List GFact} {k : Nat} (h : xs.take k = ys.take k) (h1 : k < xs.length) (h2 : k < ys.length) (hc : cmpF xs[k] ys[k] = 0) : xs.take (k + 1) = ys.take (k + 1) := by
  rw [List.take_succ_eq_append_getElem h1, List.take_succ_eq_append_getElem h2, h, (ord_fact.z _ _).1 hc]
theorem facts_diff {xs ys : List GFact} {k : Nat} (h1 : k < xs.length) (h2 : k < ys.length) (hc : cmpF xs[k] ys[k] ≠ 0) : xs ≠ ys := fun e => by
  subst e
  exact hc (ord_fact.self _)
def KindsF (fs : List GFact) : Prop := ∀ f ∈ fs, KindsWf f.args
theorem SetV.frow {w : World} {v : Value} {ss : List SFact} {fs : List GFact} (h : SetV w v ss fs) : ∃ A c, v = .slice A fs.length c ∧ FRow w w.heap.size A ss fs := by
  rcases h.row with ⟨rfl, h0⟩ | ⟨ad, c, rfl, hr⟩
  · have hf : fs = [] := List.eq_nil_of_length_eq_zero (by rw [← h.len, h0]; rfl)
    subst h0 hf
    exact ⟨none, 0, rfl, ⟨GRow.nil, rfl, fun i h1 => by simp at h1⟩⟩
  · exact ⟨some ad, c, by rw [h.len], ⟨hr, h.len, h.each⟩⟩
set_option maxRecDepth 50000 in
set_option maxHeartbeats 1000000 in
theorem rSame_any (va vb : Value) (sa sb : List SFact) (fa fb : List GFact) (w : World) (ha : SetV w va sa fa) (hb : SetV w vb sb fb) (na : fa.length ≤ 1099511627776) (ka : KindsF fa) (kb : KindsF fb) :
    Calls Tryz.prog 9 #[va, vb] w (SameEnd fa fb w) := by
  obtain ⟨A, ca, rfl, hA⟩ := ha.frow
  obtain ⟨B, cb, rfl, hB⟩ := hb.frow
  have HA := Lib.hid hA
  have HB := Lib.hid hB
  have hla := hA.len
  have hlb := hB.len
  have HKA := Lib.hid ka
  have HKB := Lib.hid kb
  clear ha hb hA hB ka kb
  by_cases hl : fa.length = fb.length
  · have HL := Lib.hid hl
    have fl : ((fa.length : Int) != (fb.length : Int)) = false := by simp [hl]
    clear hl
    go_enter Tryz.func9, Tryz.ntmps9
    go_wp2
    go_loopw [5] (fun vi wr => ∃ k : Nat, vi = .int .i64 k ∧ k ≤ fa.length ∧ Hid (fa.take k = fb.take k) ∧ Hid (Below w.heap.size w wr)) (fun vi _ => fa.length - (intOf vi).toNat)
    case atStart => exact ⟨0, rfl, by omega, Lib.hid (by simp), Lib.hid (Below.refl _ _)⟩
    case round =>
      obtain ⟨k, rfl, hk, HT, HW⟩ := hrel
      have hsz := HW.out.size
      rcases Nat.lt_or_ge k fa.length with hlt | hge
      · have hly : k < fb.length := by have := HL.out; omega
        have hls : k < sa.length := by omega
        have hlt' : k < sb.length := by omega
        obtain ⟨b1, o1, rfl, hb1, x0, x1⟩ := (HA.out.row.below (Nat.le_refl _) HW.out).fact2 hls
        obtain ⟨b2, o2, rfl, hb2, y0, y1⟩ := (HB.out.row.below (Nat.le_refl _) HW.out).fact2 hlt'
        have hl1 : b1 < wr.heap.size := by omega
        have hl2 : b2 < wr.heap.size := by omega
        have HD := Lib.hid (facts_diff hlt hly)
        have HS := Lib.hid (facts_snoc HT.out hlt hly)
        have HC := Lib.hid fun W (hW : Below wr.heap.size wr W) => rCompare_any fa[k] fb[k] sa[k] sb[k] W (((HA.out.each k hls hlt).next (Nat.le_refl _) HW.out).next (Nat.le_refl _) hW) (((HB.out.each k hlt' hly).next (Nat.le_refl _) HW.out).next (Nat.le_refl _) hW) (HKA.out _ (List.getElem_mem hlt)) (HKB.out _ (List.getElem_mem hly))
        generalize fa[k] = x at *
        generalize fb[k] = y at *
        generalize sa[k] = p at *
        generalize sb[k] = q at *
        obtain ⟨pr, pA, pn, pc⟩ := p
        obtain ⟨qr, qA, qn, qc⟩ := q
        simp only at *
        generalize cmpF x y = c at *
        have HKS : Hid (∀ W W' : World, (Below wr.heap.size wr W ∧ W.cell? ⟨b1, o1 + k * 2, none⟩ = some (.string ⟨pr.toArray⟩) ∧ W.cell? ⟨b1, o1 + k * 2 + 1, none⟩ = some (.slice pA pn pc) ∧ W.cell? ⟨b2, o2 + k * 2, none⟩ = some (.string ⟨qr.toArray⟩) ∧ W.cell? ⟨b2, o2 + k * 2 + 1, none⟩ = some (.slice qA qn qc)) → Below W.heap.size W W' →
            (Below wr.heap.size wr W' ∧ W'.cell? ⟨b1, o1 + k * 2, none⟩ = some (.string ⟨pr.toArray⟩) ∧ W'.cell? ⟨b1, o1 + k * 2 + 1, none⟩ = some (.slice pA pn pc) ∧ W'.cell? ⟨b2, o2 + k * 2, none⟩ = some (.string ⟨qr.toArray⟩) ∧ W'.cell? ⟨b2, o2 + k * 2 + 1, none⟩ = some (.slice qA qn qc))) := Lib.hid fun W W' h hb => by
          obtain ⟨h0, h1, h2, h3, h4⟩ := h
          have key : ∀ {N j : Nat} {v : Value}, W.cell? ⟨N, j, none⟩ = some v → W'.cell? ⟨N, j, none⟩ = some v := fun {N j v} h => (hb.cell (p := ⟨N, j, none⟩) (World.block_lt_of_cell? W _ h)).trans h
          exact ⟨bel_next h0 hb, key h1, key h2, key h3, key h4⟩
        have hS4 := HKS.out wr wr.drew ⟨Below.refl _ _, x0, x1, y0, y1⟩ ((Below.refl _ _).drew)
        clear x0 x1 y0 y1
        go_upto_region 6 with fail
        go_region_held3 (fun W => Below wr.heap.size wr W ∧ W.cell? ⟨b1, o1 + k * 2, none⟩ = some (.string ⟨pr.toArray⟩) ∧ W.cell? ⟨b1, o1 + k * 2 + 1, none⟩ = some (.slice pA pn pc) ∧ W.cell? ⟨b2, o2 + k * 2, none⟩ = some (.string ⟨qr.toArray⟩) ∧ W.cell? ⟨b2, o2 + k * 2 + 1, none⟩ = some (.slice qA qn qc))
          (assumption)
          (first | (go_at_call 33; go_fit (HC.out _ (And.left (by assumption))); rintro e w1 ⟨rfl, hbn⟩; have hSn := HKS.out _ _ (by assumption) hbn))
        have HN := Lib.hid (bel_next HW.out hSn.1)
        clear hSn HKS HC
        by_cases hc : c = 0
        · have fc : (c != 0) = false := by simp [hc]
          have HS2 := Lib.hid (HS.out hc)
          go_wp2
          go_roundw
          case rel => exact ⟨k + 1, by go_num, by omega, HS2, HN⟩
          case measure => simp [intOf]; omega
        · have fc : (c != 0) = true := by simp [hc]
          go_wp2
          go_ret
          exact ⟨⟨false, rfl, by simp [HD.out hc]⟩, HN.out⟩
      · have hEQ : fa = fb := by
          have := HT.out
          have hll := HL.out
          rw [List.take_of_length_le hge, List.take_of_length_le (by omega)] at this
          exact this
        have HEQ := Lib.hid hEQ
        clear hEQ
        go_wp2
        go_ret
        exact ⟨⟨true, rfl, by simp [HEQ.out]⟩, HW.out⟩
  · have fl : ((fa.length : Int) != (fb.length : Int)) = true := by simp; omega
    have HNE : Hid (fa ≠ fb) := Lib.hid fun e => hl (by rw [e])
    go_enter Tryz.func9, Tryz.ntmps9
    go_wp2
    go_ret
    exact ⟨⟨false, rfl, by simp [HNE.out]⟩, Below.refl _ _⟩
end Go.Proofs.YtmodjokoggmnaaaGreatDoor
