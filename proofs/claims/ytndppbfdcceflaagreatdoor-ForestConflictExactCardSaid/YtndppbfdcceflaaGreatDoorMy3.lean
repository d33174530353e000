/-
  Package forest: inOrder.
  Conditions: at most 10000 entries.
  Capabilities in the order of nesting: where neighbours may coexist, all may.
  Conditions: none.
  The reference's Coexist.
  Conditions: none.
  The program's Coexist.
  Conditions: none.
-/
import Derived.Test.YtndppbfdcceflaaGreatDoorMy2
import Derived.Test.YtndppbfdcceflaaGreatDoorNpd
import Derived.Test.YtndppbfdcceflaaGreatDoorCaa
import Derived.Test.YtndppbfdcceflaaGreatDoorGrs
import Derived.Test.YtndppbfdcceflaaGreatDoorMca
namespace Go.Proofs.YtndppbfdcceflaaGreatDoor
open Go.RowKit

def slotB (c s : Int) : Bool := decide (0 ≤ c) && decide (c < 32) && decide (0 ≤ s) && decide (s < 64)
theorem slotB_iff {c s : Int} : slotB c s = true ↔ 0 ≤ c ∧ c < 32 ∧ 0 ≤ s ∧ s < 64 := by simp [slotB, and_assoc]
theorem pSlot_any (c s : Int) (w : World) : Calls Tryz.prog 97 #[.int .i64 c, .int .i64 s] w fun e w' => e = .returned (.bool (slotB c s)) ∧ Below w.heap.size w w' := by
  have HR : Hid (slotB c s = (decide (0 ≤ c) && decide (c < 32) && decide (0 ≤ s) && decide (s < 64))) := Lib.hid rfl
  generalize slotB c s = q at *
  go_enter Tryz.func97, Tryz.ntmps97
  go_wp2
  all_goals
    go_ret
    exact ⟨congrArg (fun b => Ending.returned (Value.bool b)) (by rw [HR.out]; first | (simp [*]; done) | (simp [*]; omega)), Below.refl _ _⟩
/-- Whether entry i is asx it must be beside those before it. -/
def okE (es : List GE) (i : Nat) : Bool := match es[i]? with
  | some e => vN e.node && slotB e.core e.slot && !(es.take i).any (pat e.core e.slot) && (i == 0 || (es[i - 1]?).any fun o => ltI o.node.id e.node.id)
  | none => true
def ordE (es : List GE) : Bool := (List.range es.length).all (okE es)
theorem ordE_true {es : List GE} (h : ∀ i, i < es.length → okE es i = true) : ordE es = true := by
  unfold ordE
  rw [List.all_eq_true]
  intro i hi
  exact h i (by simpa using hi)
theorem ordE_false {es : List GE} {i : Nat} (hi : i < es.length) (h : okE es i = false) : ordE es = false := by
  unfold ordE
  rw [List.all_eq_false]
  exact ⟨i, by simpa using hi, by rw [h]; simp⟩
theorem ordE_at {es : List GE} (h : ordE es = true) {i : Nat} (hi : i < es.length) : okE es i = true := by
  unfold ordE at h
  exact List.all_eq_true.1 h i (by simpa using hi)
def slotN (o : GE) : Nat := (o.core * 64 + o.slot).toNat
/-- Which slots the first entries use. -/
def usdE (es : List GE) (k m : Nat) : Bool := (es.take k).any fun o => slotN o == m
structure OkF (es : List GE) (k : Nat) (e : GE) (b : Bool) : Prop where
  v : b = true → vN e.node = true ∧ slotB e.core e.slot = true ∧ (es.take k).any (pat e.core e.slot) = false
theorem okE_iff {es : List GE} {k : Nat} (hk : k < es.length) : okE es k = (vN es[k].node && slotB es[k].core es[k].slot && !(es.take k).any (pat es[k].core es[k].slot) && (k == 0 || (es[k - 1]?).any fun o => ltI o.node.id es[k].node.id)) := by
  unfold okE
  rw [List.getElem?_eq_getElem hk]
theorem slotN_eq {o e : GE} (ho : slotB o.core o.slot = true) (he : slotB e.core e.slot = true) : (slotN o == slotN e) = pat e.core e.slot o := by
  rw [slotB_iff] at ho he
  unfold slotN pat
  rw [Bool.eq_iff_iff]
  simp only [beq_iff_eq, Bool.and_eq_true]
  omega
theorem usd_any {es : List GE} {k : Nat} (h : ∀ j, j < k → okE es j = true) (hk : k < es.length) (he : slotB es[k].core es[k].slot = true) : usdE es k (slotN es[k]) = (es.take k).any (pat es[k].core es[k].slot) := by
  unfold usdE
  rw [Bool.eq_iff_iff, List.any_eq_true, List.any_eq_true]
  have hv : ∀ o ∈ es.take k, slotB o.core o.slot = true := fun o ho => by
    obtain ⟨j, hj, rfl⟩ := List.getElem_of_mem ho
    rw [List.length_take] at hj
    have h1 := h j (by omega)
    rw [okE_iff (by omega)] at h1
    simp only [Bool.and_eq_true] at h1
    rw [List.getElem_take]
    exact h1.1.1.2
  constructor
  · rintro ⟨o, ho, h1⟩
    exact ⟨o, ho, by rw [← slotN_eq (hv o ho) he]; exact h1⟩
  · rintro ⟨o, ho, h1⟩
    exact ⟨o, ho, by rw [slotN_eq (hv o ho) he]; exact h1⟩
theorem usd_succ {es : List GE} {k : Nat} (hk : k < es.length) (m : Nat) : usdE es (k + 1) m = (usdE es k m || (slotN es[k] == m)) := by
  unfold usdE
  rw [List.take_succ_eq_append_getElem hk, List.any_append]
  simp
/-- The block of the slots that are used. -/
def UB (W : World) (g : Nat) (u : Nat → Bool) : Prop := ∃ cur, W.heap[g]? = some (.cells cur 112 (0, 0)) ∧ cur.size = 2048 ∧ ∀ k, k < 2048 → cur[k]? = some (.bool (u k))
theorem UB.lt {W : World} {g : Nat} {u : Nat → Bool} (h : UB W g u) : g < W.heap.size := by
  obtain ⟨cur, h, _⟩ := h
  rcases Nat.lt_or_ge g W.heap.size with h1 | h1
  · exact h1
  · rw [Array.getElem?_eq_none h1] at h; cases h
theorem UB.next {W W' : World} {g : Nat} {u : Nat → Bool} (h : UB W g u) (hb : Below W.heap.size W W') : UB W' g u := by
  have hl := h.lt
  obtain ⟨cur, h1, h2⟩ := h
  exact ⟨cur, (hb.block g hl).trans h1, h2⟩
theorem UB.cell {W : World} {g : Nat} {u : Nat → Bool} (h : UB W g u) {k : Nat} (hk : k < 2048) : W.cell? ⟨g, k, none⟩ = some (.bool (u k)) := by
  obtain ⟨cur, h1, h2, h3⟩ := h
  rw [Lib.cell_of_heap h1]
  exact h3 k hk
theorem UB.frz {W : World} {g : Nat} {u : Nat → Bool} (h : UB W g u) (j : Nat) : W.frozen? ⟨g, j, none⟩ = false := by
  obtain ⟨cur, h1, _⟩ := h
  exact Lib.frozen_of_heap h1 j
theorem UB.set {W : World} {g : Nat} {u : Nat → Bool} (h : UB W g u) (k : Nat) : UB (W.setCell ⟨g, k, none⟩ (.bool true)) g (fun j => u j || (k == j)) := by
  obtain ⟨cur, h1, h2, h3⟩ := h
  refine ⟨_, set_heapZ h1, by simp [h2], fun j hj => ?_⟩
  rw [Array.set!_eq_setIfInBounds, Array.getElem?_setIfInBounds]
  by_cases hkj : k = j
  · subst hkj; simp [h2, hj]
  · rw [if_neg hkj, h3 j hj]
    have : (k == j) = false := by simpa using hkj
    show some (Value.bool (u j)) = some (Value.bool (u j || (k == j)))
    rw [this, Bool.or_false]
theorem UB.congr {W : World} {g : Nat} {u v : Nat → Bool} (h : UB W g u) (e : ∀ k, u k = v k) : UB W g v := by
  obtain ⟨cur, h1, h2, h3⟩ := h
  exact ⟨cur, h1, h2, fun k hk => by rw [h3 k hk, e k]⟩
theorem zc_size : Tryz.zeroCells112 = Array.replicate 2048 (.bool false) := by kernel_rfl
theorem UB.new (w : World) : UB (w.alloc (.cells Tryz.zeroCells112 112)) w.heap.size fun _ => false := by
  refine ⟨_, heap_alloc_new w _, by rw [zc_size]; simp, fun k hk => ?_⟩
  rw [zc_size, Array.getElem?_replicate, if_pos hk]
set_option maxRecDepth 20000 in
set_option maxHeartbeats 2000000 in
theorem pOrd_any (xs : List GV) (A : Option Addr) (c : Nat) (w : World) (h1 : ERow w w.heap.size A xs) (hl : xs.length ≤ 10000) (hp : ∀ x ∈ xs, x.e.node.path.length ≤ 17179869184) :
    Calls Tryz.prog 49 #[.slice A xs.length c] w fun e w' => e = .returned (.bool (ordE (xs.map GV.e))) ∧ Below w.heap.size w w' := by
  have H1 := Lib.hid h1
  have HVN := Lib.hid fun k (hk : k < xs.length) W (hW : Below w.heap.size w W) => pVN_any xs[k].e.node xs[k].A xs[k].c W ((h1.pth _ (List.getElem_mem hk)).1.next hW) (hp _ (List.getElem_mem hk)) (h1.pth _ (List.getElem_mem hk)).2
  have HSL := Lib.hid fun c s W => pSlot_any c s W
  have HLS0 := Lib.hid fun a b W => pLess_any a b W
  have HOT : Hid ((∀ i, i < xs.length → okE (xs.map GV.e) i = true) → ordE (xs.map GV.e) = true) := Lib.hid fun h => ordE_true fun i hi => h i (by simpa using hi)
  have HOF : Hid (∀ i, i < xs.length → okE (xs.map GV.e) i = false → ordE (xs.map GV.e) = false) := Lib.hid fun i hi h => ordE_false (by simpa using hi) h
  have HOK : Hid (∀ k (hk : k < xs.length), okE (xs.map GV.e) k = (vN xs[k].e.node && slotB xs[k].e.core xs[k].e.slot && !((xs.map GV.e).take k).any (pat xs[k].e.core xs[k].e.slot) && (k == 0 || ((xs.map GV.e)[k - 1]?).any fun o => ltI o.node.id xs[k].e.node.id))) := Lib.hid fun k hk => by
    have h := okE_iff (es := xs.map GV.e) (k := k) (by simpa using hk)
    rw [h]
    simp only [List.getElem_map]
  have HUA : Hid (∀ k (hk : k < xs.length), (∀ j, j < k → okE (xs.map GV.e) j = true) → slotB xs[k].e.core xs[k].e.slot = true → usdE (xs.map GV.e) k (slotN xs[k].e) = ((xs.map GV.e).take k).any (pat xs[k].e.core xs[k].e.slot)) := Lib.hid fun k hk h0 he => by
    have h := usd_any (es := xs.map GV.e) (k := k) h0 (by simpa using hk) (by simpa using he)
    simpa using h
  have HUS : Hid (∀ k (hk : k < xs.length) m, usdE (xs.map GV.e) (k + 1) m = (usdE (xs.map GV.e) k m || (slotN xs[k].e == m))) := Lib.hid fun k hk m => by
    have h := usd_succ (es := xs.map GV.e) (k := k) (by simpa using hk) m
    simpa using h
  have HPV : Hid (∀ m (hm : m + 1 < xs.length), ((xs.map GV.e)[m + 1 - 1]?).any (fun o => ltI o.node.id xs[m + 1].e.node.id) = ltI xs[m].e.node.id xs[m + 1].e.node.id) := Lib.hid fun m hm => by
    rw [Nat.add_sub_cancel, List.getElem?_eq_getElem (by simp; omega)]
    simp
  have HU0 := Lib.hid (UB.new w)
  have HB0 := Lib.hid (belt (Below.refl _ w) (.cells Tryz.zeroCells112 112))
  have HUZ : Hid (∀ k, usdE (xs.map GV.e) 0 k = false) := Lib.hid fun k => by simp [usdE]
  generalize ordE (xs.map GV.e) = q at *
  obtain ⟨ok, hok⟩ : ∃ ok : Nat → Bool, ∀ k, okE (xs.map GV.e) k = ok k := ⟨_, fun _ => rfl⟩
  obtain ⟨us, hus⟩ : ∃ us : Nat → Nat → Bool, ∀ k m, usdE (xs.map GV.e) k m = us k m := ⟨_, fun _ _ => rfl⟩
  simp only [hok, hus] at HOT HOF HOK HUA HUS HUZ
  clear h1 hp hok hus
  go_enter Tryz.func49, Tryz.ntmps49
  go_wp2
  generalize w.alloc (.cells Tryz.zeroCells112 112) = w0 at *
  go_loopw [8] (fun vi wr => ∃ k : Nat, vi = .int .i64 k ∧ k ≤ xs.length ∧ Hid (∀ j, j < k → ok j = true) ∧ Hid (UB wr w.heap.size (us k)) ∧ Hid (Below w.heap.size w wr)) (fun vi _ => xs.length - (intOf vi).toNat)
  case atStart => exact ⟨0, rfl, Nat.zero_le _, Lib.hid fun j hj => absurd hj (by omega), Lib.hid (HU0.out.congr fun k => (HUZ.out k).symm), HB0⟩
  case round =>
    obtain ⟨k, rfl, hk, HT, HU, HB⟩ := hrel
    rcases Nat.lt_or_ge k xs.length with hlt | hge
    · obtain ⟨b1, o1, rfl, hb1, ⟨x0, x1, x2, x3, x4, x5, x6, x7, x8, x9, x10, x11, x12⟩⟩ := (H1.out.next HB.out).row.gev hlt
      have HKK := Lib.hid (HOK.out k hlt)
      have HFA := Lib.hid (HOF.out k hlt)
      have HUK := Lib.hid (HUA.out k hlt HT.out)
      have HSK := Lib.hid (HUS.out k hlt)
      have HVK := Lib.hid fun W hW => HVN.out k hlt W hW
      have HPK : Hid (∀ m (hm : m + 1 = k), ∃ y : GV, (∀ W, Below wr.heap.size wr W → EVF W b1 (o1 + m * 13) y) ∧ ((xs.map GV.e)[k - 1]?).any (fun o => ltI o.node.id xs[k].e.node.id) = ltI y.e.node.id xs[k].e.node.id) := Lib.hid fun m hm => by
        subst hm
        refine ⟨xs[m], fun W hW => ?_, HPV.out m hlt⟩
        obtain ⟨b2, o2, e2, hb2, hf⟩ := (H1.out.next HB.out).row.gev (k := m) (by omega)
        cases e2
        exact hf.next hb2 hW
      unfold GN.val at HVK
      generalize vN xs[k].e.node = bv at *
      generalize ((xs.map GV.e).take k).any (pat xs[k].e.core xs[k].e.slot) = bu at *
      generalize hx : xs[k] = x at *
      obtain ⟨⟨xc, xs', ⟨⟨i0, i1, i2⟩, xp, ⟨a0, a1, a2, a3, a4, a5, a6⟩⟩⟩, xA, xcp⟩ := x
      clear hx
      simp only at x0 x1 x2 x3 x4 x5 x6 x7 x8 x9 x10 x11 x12 HKK HUK HSK HVK HPK
      have HEB := Lib.hid (EB.new wr ⟨⟨xc, xs', ⟨⟨i0, i1, i2⟩, xp, ⟨a0, a1, a2, a3, a4, a5, a6⟩⟩⟩, xA, xcp⟩)
      have HB4 := Lib.hid (belt HB.out (.cells #[.int .i64 xc, .int .i64 xs', .int .i64 i0, .int .i64 i1, .int .i64 i2, .slice xA xp.length xcp, .int .i64 a0, .int .i64 a1, .int .i64 a2, .int .i64 a3, .int .i64 a4, .int .i64 a5, .bool a6] 32))
      have HMG0 : Hid (w.heap.size < wr.heap.size) := Lib.hid HU.out.lt
      have HW4 := Lib.hid (belt (Below.refl _ wr) (.cells #[.int .i64 xc, .int .i64 xs', .int .i64 i0, .int .i64 i1, .int .i64 i2, .slice xA xp.length xcp, .int .i64 a0, .int .i64 a1, .int .i64 a2, .int .i64 a3, .int .i64 a4, .int .i64 a5, .bool a6] 32))
      have hbl4 : b1 < (wr.alloc (.cells #[.int .i64 xc, .int .i64 xs', .int .i64 i0, .int .i64 i1, .int .i64 i2, .slice xA xp.length xcp, .int .i64 a0, .int .i64 a1, .int .i64 a2, .int .i64 a3, .int .i64 a4, .int .i64 a5, .bool a6] 32)).heap.size := by simp; omega
      have HU4 := Lib.hid (HU.out.next (belt (Below.refl _ wr) (.cells #[.int .i64 xc, .int .i64 xs', .int .i64 i0, .int .i64 i1, .int .i64 i2, .slice xA xp.length xcp, .int .i64 a0, .int .i64 a1, .int .i64 a2, .int .i64 a3, .int .i64 a4, .int .i64 a5, .bool a6] 32)))
      simp only at HEB
      go_upto_region 5 with fail
      clear x0 x1 x2 x3 x4 x5 x6 x7 x8 x9 x10 x11 x12
      generalize wr.alloc (.cells #[.int .i64 xc, .int .i64 xs', .int .i64 i0, .int .i64 i1, .int .i64 i2, .slice xA xp.length xcp, .int .i64 a0, .int .i64 a1, .int .i64 a2, .int .i64 a3, .int .i64 a4, .int .i64 a5, .bool a6] 32) = w4 at *
      generalize wr.heap.size = M at *
      obtain ⟨c0, c1, c2, c3, c4, c5, c6, c7, c8, c9, c10, c11, c12⟩ := HEB.out.cells
      simp only [Nat.zero_add] at c0 c1 c2 c3 c4 c5 c6 c7 c8 c9 c10 c11 c12
      have hMl := HEB.out.lt
      have HMG : Hid (w.heap.size < M) := HMG0
      clear HMG0
      have hS := (Below.refl w4.heap.size w4).drew
      have HVX := Lib.hid fun W (hW : Below w4.heap.size w4 W) => HVK.out W (beln HB4.out hW)
      clear HVK
      rcases bv with _ | _
      · have HF := Lib.hid (HFA.out (by rw [HKK.out]; rfl))
        refine wp_region_growS (S := fun W => Below w4.heap.size w4 W) [(0, true), (1, true), (2, false), (3, true), (4, true), (5, true), (6, true), (7, true), (8, true), (9, false), (10, true), (11, true), (12, true), (13, true), (14, true), (15, true), (16, true), (17, true), (18, true), (19, true), (20, true)] (by kernel_rfl) (by kernel_rfl) (by kernel_rfl) (by kernel_rfl) (by intro c a d v w h; cases d <;> exact h) hS ?_
        iterate 2
          (first
            | (refine wpGrowS_float (v := ?_) (by simp only [List.getElem?_toArray, List.getElem?_cons_succ, List.getElem?_cons_zero]; rfl) (by rfl) ?_ ?_
               rotate_left
               · (intro W hW; have t0 := (hW.cell (p := ⟨M, 0, none⟩) hMl).trans c0; have t1 := (hW.cell (p := ⟨M, 1, none⟩) hMl).trans c1; have t2 := (hW.cell (p := ⟨M, 2, none⟩) hMl).trans c2; have t3 := (hW.cell (p := ⟨M, 3, none⟩) hMl).trans c3; have t4 := (hW.cell (p := ⟨M, 4, none⟩) hMl).trans c4; have t5 := (hW.cell (p := ⟨M, 5, none⟩) hMl).trans c5; have t6 := (hW.cell (p := ⟨M, 6, none⟩) hMl).trans c6; have t7 := (hW.cell (p := ⟨M, 7, none⟩) hMl).trans c7; have t8 := (hW.cell (p := ⟨M, 8, none⟩) hMl).trans c8; have t9 := (hW.cell (p := ⟨M, 9, none⟩) hMl).trans c9; have t10 := (hW.cell (p := ⟨M, 10, none⟩) hMl).trans c10; have t11 := (hW.cell (p := ⟨M, 11, none⟩) hMl).trans c11; have t12 := (hW.cell (p := ⟨M, 12, none⟩) hMl).trans c12; (try simp only at *); go_simp; try with_reducible rfl)
               simp only [Act.put, List.setIfInBounds_toArray, List.set_cons_zero, List.set_cons_succ])
            | (refine wpGrowS_skip (by simp only [List.getElem?_toArray, List.getElem?_cons_succ, List.getElem?_cons_zero]; rfl) (by rfl) ?_
               simp only [Act.put, List.setIfInBounds_toArray, List.set_cons_zero, List.set_cons_succ]))
        refine wpGrowS_call (by simp only [List.getElem?_toArray, List.getElem?_cons_succ, List.getElem?_cons_zero]; rfl) (by rfl) fun K hK => ?_
        go_simp
        go_fit (HVX.out _ hS)
        rintro e wn ⟨rfl, hbn⟩
        have hSp := hS
        have hS : Below w4.heap.size w4 wn := beln hS hbn
        go_simp
        refine hK _ _ hS ?_
        clear hK K
        try simp only [Act.put, List.setIfInBounds_toArray, List.set_cons_zero, List.set_cons_succ]
        iterate 6
          (first
            | (refine wpGrowS_float (v := ?_) (by simp only [List.getElem?_toArray, List.getElem?_cons_succ, List.getElem?_cons_zero]; rfl) (by rfl) ?_ ?_
               rotate_left
               · (intro W hW; have t0 := (hW.cell (p := ⟨M, 0, none⟩) hMl).trans c0; have t1 := (hW.cell (p := ⟨M, 1, none⟩) hMl).trans c1; have t2 := (hW.cell (p := ⟨M, 2, none⟩) hMl).trans c2; have t3 := (hW.cell (p := ⟨M, 3, none⟩) hMl).trans c3; have t4 := (hW.cell (p := ⟨M, 4, none⟩) hMl).trans c4; have t5 := (hW.cell (p := ⟨M, 5, none⟩) hMl).trans c5; have t6 := (hW.cell (p := ⟨M, 6, none⟩) hMl).trans c6; have t7 := (hW.cell (p := ⟨M, 7, none⟩) hMl).trans c7; have t8 := (hW.cell (p := ⟨M, 8, none⟩) hMl).trans c8; have t9 := (hW.cell (p := ⟨M, 9, none⟩) hMl).trans c9; have t10 := (hW.cell (p := ⟨M, 10, none⟩) hMl).trans c10; have t11 := (hW.cell (p := ⟨M, 11, none⟩) hMl).trans c11; have t12 := (hW.cell (p := ⟨M, 12, none⟩) hMl).trans c12; (try simp only at *); go_simp; try with_reducible rfl)
               simp only [Act.put, List.setIfInBounds_toArray, List.set_cons_zero, List.set_cons_succ])
            | (refine wpGrowS_skip (by simp only [List.getElem?_toArray, List.getElem?_cons_succ, List.getElem?_cons_zero]; rfl) (by rfl) ?_
               simp only [Act.put, List.setIfInBounds_toArray, List.set_cons_zero, List.set_cons_succ]))
        refine wpGrowS_pass hS (by simp only [List.getElem?_toArray, List.getElem?_cons_succ, List.getElem?_cons_zero]; rfl) (by rfl) ?_
        try simp only [Act.put, List.setIfInBounds_toArray, List.set_cons_zero, List.set_cons_succ]
        iterate 11
          (first
            | (refine wpGrowS_float (v := ?_) (by simp only [List.getElem?_toArray, List.getElem?_cons_succ, List.getElem?_cons_zero]; rfl) (by rfl) ?_ ?_
               rotate_left
               · (intro W hW; have t0 := (hW.cell (p := ⟨M, 0, none⟩) hMl).trans c0; have t1 := (hW.cell (p := ⟨M, 1, none⟩) hMl).trans c1; have t2 := (hW.cell (p := ⟨M, 2, none⟩) hMl).trans c2; have t3 := (hW.cell (p := ⟨M, 3, none⟩) hMl).trans c3; have t4 := (hW.cell (p := ⟨M, 4, none⟩) hMl).trans c4; have t5 := (hW.cell (p := ⟨M, 5, none⟩) hMl).trans c5; have t6 := (hW.cell (p := ⟨M, 6, none⟩) hMl).trans c6; have t7 := (hW.cell (p := ⟨M, 7, none⟩) hMl).trans c7; have t8 := (hW.cell (p := ⟨M, 8, none⟩) hMl).trans c8; have t9 := (hW.cell (p := ⟨M, 9, none⟩) hMl).trans c9; have t10 := (hW.cell (p := ⟨M, 10, none⟩) hMl).trans c10; have t11 := (hW.cell (p := ⟨M, 11, none⟩) hMl).trans c11; have t12 := (hW.cell (p := ⟨M, 12, none⟩) hMl).trans c12; (try simp only at *); go_simp; try with_reducible rfl)
               simp only [Act.put, List.setIfInBounds_toArray, List.set_cons_zero, List.set_cons_succ])
            | (refine wpGrowS_skip (by simp only [List.getElem?_toArray, List.getElem?_cons_succ, List.getElem?_cons_zero]; rfl) (by rfl) ?_
               simp only [Act.put, List.setIfInBounds_toArray, List.set_cons_zero, List.set_cons_succ]))
        refine wpGrowS_nil ?_
        have HBE := Lib.hid (beln HB4.out hS)
        clear hS c0 c1 c2 c3 c4 c5 c6 c7 c8 c9 c10 c11 c12
        go_wp2
        go_ret
        exact ⟨congrArg (fun b => Ending.returned (Value.bool b)) HF.out.symm, HBE.out⟩
      have HSX := Lib.hid fun W => HSL.out xc xs' W
      rcases hsb : slotB xc xs' with _ | _
      · have HF := Lib.hid (HFA.out (by rw [HKK.out, hsb]; rfl))
        rw [hsb] at HSX
        clear hsb
        refine wp_region_growS (S := fun W => Below w4.heap.size w4 W) [(0, true), (1, true), (2, false), (3, true), (4, true), (5, true), (6, true), (7, true), (8, true), (9, false), (10, true), (11, true), (12, true), (13, true), (14, true), (15, true), (16, true), (17, true), (18, true), (19, true), (20, true)] (by kernel_rfl) (by kernel_rfl) (by kernel_rfl) (by kernel_rfl) (by intro c a d v w h; cases d <;> exact h) hS ?_
        iterate 2
          (first
            | (refine wpGrowS_float (v := ?_) (by simp only [List.getElem?_toArray, List.getElem?_cons_succ, List.getElem?_cons_zero]; rfl) (by rfl) ?_ ?_
               rotate_left
               · (intro W hW; have t0 := (hW.cell (p := ⟨M, 0, none⟩) hMl).trans c0; have t1 := (hW.cell (p := ⟨M, 1, none⟩) hMl).trans c1; have t2 := (hW.cell (p := ⟨M, 2, none⟩) hMl).trans c2; have t3 := (hW.cell (p := ⟨M, 3, none⟩) hMl).trans c3; have t4 := (hW.cell (p := ⟨M, 4, none⟩) hMl).trans c4; have t5 := (hW.cell (p := ⟨M, 5, none⟩) hMl).trans c5; have t6 := (hW.cell (p := ⟨M, 6, none⟩) hMl).trans c6; have t7 := (hW.cell (p := ⟨M, 7, none⟩) hMl).trans c7; have t8 := (hW.cell (p := ⟨M, 8, none⟩) hMl).trans c8; have t9 := (hW.cell (p := ⟨M, 9, none⟩) hMl).trans c9; have t10 := (hW.cell (p := ⟨M, 10, none⟩) hMl).trans c10; have t11 := (hW.cell (p := ⟨M, 11, none⟩) hMl).trans c11; have t12 := (hW.cell (p := ⟨M, 12, none⟩) hMl).trans c12; (try simp only at *); go_simp; try with_reducible rfl)
               simp only [Act.put, List.setIfInBounds_toArray, List.set_cons_zero, List.set_cons_succ])
            | (refine wpGrowS_skip (by simp only [List.getElem?_toArray, List.getElem?_cons_succ, List.getElem?_cons_zero]; rfl) (by rfl) ?_
               simp only [Act.put, List.setIfInBounds_toArray, List.set_cons_zero, List.set_cons_succ]))
        refine wpGrowS_call (by simp only [List.getElem?_toArray, List.getElem?_cons_succ, List.getElem?_cons_zero]; rfl) (by rfl) fun K hK => ?_
        go_simp
        go_fit (HVX.out _ hS)
        rintro e wn ⟨rfl, hbn⟩
        have hSp := hS
        have hS : Below w4.heap.size w4 wn := beln hS hbn
        go_simp
        refine hK _ _ hS ?_
        clear hK K
        try simp only [Act.put, List.setIfInBounds_toArray, List.set_cons_zero, List.set_cons_succ]
        iterate 6
          (first
            | (refine wpGrowS_float (v := ?_) (by simp only [List.getElem?_toArray, List.getElem?_cons_succ, List.getElem?_cons_zero]; rfl) (by rfl) ?_ ?_
               rotate_left
               · (intro W hW; have t0 := (hW.cell (p := ⟨M, 0, none⟩) hMl).trans c0; have t1 := (hW.cell (p := ⟨M, 1, none⟩) hMl).trans c1; have t2 := (hW.cell (p := ⟨M, 2, none⟩) hMl).trans c2; have t3 := (hW.cell (p := ⟨M, 3, none⟩) hMl).trans c3; have t4 := (hW.cell (p := ⟨M, 4, none⟩) hMl).trans c4; have t5 := (hW.cell (p := ⟨M, 5, none⟩) hMl).trans c5; have t6 := (hW.cell (p := ⟨M, 6, none⟩) hMl).trans c6; have t7 := (hW.cell (p := ⟨M, 7, none⟩) hMl).trans c7; have t8 := (hW.cell (p := ⟨M, 8, none⟩) hMl).trans c8; have t9 := (hW.cell (p := ⟨M, 9, none⟩) hMl).trans c9; have t10 := (hW.cell (p := ⟨M, 10, none⟩) hMl).trans c10; have t11 := (hW.cell (p := ⟨M, 11, none⟩) hMl).trans c11; have t12 := (hW.cell (p := ⟨M, 12, none⟩) hMl).trans c12; (try simp only at *); go_simp; try with_reducible rfl)
               simp only [Act.put, List.setIfInBounds_toArray, List.set_cons_zero, List.set_cons_succ])
            | (refine wpGrowS_skip (by simp only [List.getElem?_toArray, List.getElem?_cons_succ, List.getElem?_cons_zero]; rfl) (by rfl) ?_
               simp only [Act.put, List.setIfInBounds_toArray, List.set_cons_zero, List.set_cons_succ]))
        refine wpGrowS_call (by simp only [List.getElem?_toArray, List.getElem?_cons_succ, List.getElem?_cons_zero]; rfl) (by rfl) fun K hK => ?_
        go_simp
        go_fit (HSX.out _)
        rintro e wn ⟨rfl, hbn⟩
        have hSp := hS
        have hS : Below w4.heap.size w4 wn := beln hS hbn
        go_simp
        refine hK _ _ hS ?_
        clear hK K
        try simp only [Act.put, List.setIfInBounds_toArray, List.set_cons_zero, List.set_cons_succ]
        iterate 11
          (first
            | (refine wpGrowS_float (v := ?_) (by simp only [List.getElem?_toArray, List.getElem?_cons_succ, List.getElem?_cons_zero]; rfl) (by rfl) ?_ ?_
               rotate_left
               · (intro W hW; have t0 := (hW.cell (p := ⟨M, 0, none⟩) hMl).trans c0; have t1 := (hW.cell (p := ⟨M, 1, none⟩) hMl).trans c1; have t2 := (hW.cell (p := ⟨M, 2, none⟩) hMl).trans c2; have t3 := (hW.cell (p := ⟨M, 3, none⟩) hMl).trans c3; have t4 := (hW.cell (p := ⟨M, 4, none⟩) hMl).trans c4; have t5 := (hW.cell (p := ⟨M, 5, none⟩) hMl).trans c5; have t6 := (hW.cell (p := ⟨M, 6, none⟩) hMl).trans c6; have t7 := (hW.cell (p := ⟨M, 7, none⟩) hMl).trans c7; have t8 := (hW.cell (p := ⟨M, 8, none⟩) hMl).trans c8; have t9 := (hW.cell (p := ⟨M, 9, none⟩) hMl).trans c9; have t10 := (hW.cell (p := ⟨M, 10, none⟩) hMl).trans c10; have t11 := (hW.cell (p := ⟨M, 11, none⟩) hMl).trans c11; have t12 := (hW.cell (p := ⟨M, 12, none⟩) hMl).trans c12; (try simp only at *); go_simp; try with_reducible rfl)
               simp only [Act.put, List.setIfInBounds_toArray, List.set_cons_zero, List.set_cons_succ])
            | (refine wpGrowS_skip (by simp only [List.getElem?_toArray, List.getElem?_cons_succ, List.getElem?_cons_zero]; rfl) (by rfl) ?_
               simp only [Act.put, List.setIfInBounds_toArray, List.set_cons_zero, List.set_cons_succ]))
        refine wpGrowS_nil ?_
        have HBE := Lib.hid (beln HB4.out hS)
        clear hS c0 c1 c2 c3 c4 c5 c6 c7 c8 c9 c10 c11 c12
        go_wp2
        go_ret
        exact ⟨congrArg (fun b => Ending.returned (Value.bool b)) HF.out.symm, HBE.out⟩
      obtain ⟨q0, q1, q2, q3⟩ := slotB_iff.1 hsb
      rw [hsb] at HSX HKK
      have HUX := HUK.out hsb
      clear HUK hsb
      obtain ⟨cn, rfl⟩ := Int.eq_ofNat_of_zero_le q0
      obtain ⟨sn, rfl⟩ := Int.eq_ofNat_of_zero_le q2
      have hN : slotN ⟨(cn : Int), (sn : Int), ⟨⟨i0, i1, i2⟩, xp, ⟨a0, a1, a2, a3, a4, a5, a6⟩⟩⟩ = cn * 64 + sn := by unfold slotN; simp only; omega
      rw [hN] at HUX HSK
      have cu := HU4.out.cell (k := cn * 64 + sn) (by omega)
      rw [HUX] at cu
      have hGl := HU4.out.lt
      have n0 : (cn : Int).toNat = cn := by omega
      have n1 : (sn : Int).toNat = sn := by omega
      clear hN HUX
      rcases bu with _ | _
      rotate_left
      · have HF := Lib.hid (HFA.out (by rw [HKK.out]; rfl))
        refine wp_region_growS (S := fun W => Below w4.heap.size w4 W) [(0, true), (1, true), (2, false), (3, true), (4, true), (5, true), (6, true), (7, true), (8, true), (9, false), (10, true), (11, true), (12, true), (13, true), (14, true), (15, true), (16, true), (17, true), (18, true), (19, true), (20, true)] (by kernel_rfl) (by kernel_rfl) (by kernel_rfl) (by kernel_rfl) (by intro c a d v w h; cases d <;> exact h) hS ?_
        iterate 2
          (first
            | (refine wpGrowS_float (v := ?_) (by simp only [List.getElem?_toArray, List.getElem?_cons_succ, List.getElem?_cons_zero]; rfl) (by rfl) ?_ ?_
               rotate_left
               · (intro W hW; have t0 := (hW.cell (p := ⟨M, 0, none⟩) hMl).trans c0; have t1 := (hW.cell (p := ⟨M, 1, none⟩) hMl).trans c1; have t2 := (hW.cell (p := ⟨M, 2, none⟩) hMl).trans c2; have t3 := (hW.cell (p := ⟨M, 3, none⟩) hMl).trans c3; have t4 := (hW.cell (p := ⟨M, 4, none⟩) hMl).trans c4; have t5 := (hW.cell (p := ⟨M, 5, none⟩) hMl).trans c5; have t6 := (hW.cell (p := ⟨M, 6, none⟩) hMl).trans c6; have t7 := (hW.cell (p := ⟨M, 7, none⟩) hMl).trans c7; have t8 := (hW.cell (p := ⟨M, 8, none⟩) hMl).trans c8; have t9 := (hW.cell (p := ⟨M, 9, none⟩) hMl).trans c9; have t10 := (hW.cell (p := ⟨M, 10, none⟩) hMl).trans c10; have t11 := (hW.cell (p := ⟨M, 11, none⟩) hMl).trans c11; have t12 := (hW.cell (p := ⟨M, 12, none⟩) hMl).trans c12; have tu := (hW.cell (p := ⟨w.heap.size, cn * 64 + sn, none⟩) hGl).trans cu; (try simp only at *); go_simp; try with_reducible rfl)
               simp only [Act.put, List.setIfInBounds_toArray, List.set_cons_zero, List.set_cons_succ])
            | (refine wpGrowS_skip (by simp only [List.getElem?_toArray, List.getElem?_cons_succ, List.getElem?_cons_zero]; rfl) (by rfl) ?_
               simp only [Act.put, List.setIfInBounds_toArray, List.set_cons_zero, List.set_cons_succ]))
        refine wpGrowS_call (by simp only [List.getElem?_toArray, List.getElem?_cons_succ, List.getElem?_cons_zero]; rfl) (by rfl) fun K hK => ?_
        go_simp
        go_fit (HVX.out _ hS)
        rintro e wn ⟨rfl, hbn⟩
        have hSp := hS
        have hS : Below w4.heap.size w4 wn := beln hS hbn
        go_simp
        refine hK _ _ hS ?_
        clear hK K
        try simp only [Act.put, List.setIfInBounds_toArray, List.set_cons_zero, List.set_cons_succ]
        iterate 6
          (first
            | (refine wpGrowS_float (v := ?_) (by simp only [List.getElem?_toArray, List.getElem?_cons_succ, List.getElem?_cons_zero]; rfl) (by rfl) ?_ ?_
               rotate_left
               · (intro W hW; have t0 := (hW.cell (p := ⟨M, 0, none⟩) hMl).trans c0; have t1 := (hW.cell (p := ⟨M, 1, none⟩) hMl).trans c1; have t2 := (hW.cell (p := ⟨M, 2, none⟩) hMl).trans c2; have t3 := (hW.cell (p := ⟨M, 3, none⟩) hMl).trans c3; have t4 := (hW.cell (p := ⟨M, 4, none⟩) hMl).trans c4; have t5 := (hW.cell (p := ⟨M, 5, none⟩) hMl).trans c5; have t6 := (hW.cell (p := ⟨M, 6, none⟩) hMl).trans c6; have t7 := (hW.cell (p := ⟨M, 7, none⟩) hMl).trans c7; have t8 := (hW.cell (p := ⟨M, 8, none⟩) hMl).trans c8; have t9 := (hW.cell (p := ⟨M, 9, none⟩) hMl).trans c9; have t10 := (hW.cell (p := ⟨M, 10, none⟩) hMl).trans c10; have t11 := (hW.cell (p := ⟨M, 11, none⟩) hMl).trans c11; have t12 := (hW.cell (p := ⟨M, 12, none⟩) hMl).trans c12; have tu := (hW.cell (p := ⟨w.heap.size, cn * 64 + sn, none⟩) hGl).trans cu; (try simp only at *); go_simp; try with_reducible rfl)
               simp only [Act.put, List.setIfInBounds_toArray, List.set_cons_zero, List.set_cons_succ])
            | (refine wpGrowS_skip (by simp only [List.getElem?_toArray, List.getElem?_cons_succ, List.getElem?_cons_zero]; rfl) (by rfl) ?_
               simp only [Act.put, List.setIfInBounds_toArray, List.set_cons_zero, List.set_cons_succ]))
        refine wpGrowS_call (by simp only [List.getElem?_toArray, List.getElem?_cons_succ, List.getElem?_cons_zero]; rfl) (by rfl) fun K hK => ?_
        go_simp
        go_fit (HSX.out _)
        rintro e wn ⟨rfl, hbn⟩
        have hSp := hS
        have hS : Below w4.heap.size w4 wn := beln hS hbn
        go_simp
        refine hK _ _ hS ?_
        clear hK K
        try simp only [Act.put, List.setIfInBounds_toArray, List.set_cons_zero, List.set_cons_succ]
        iterate 11
          (first
            | (refine wpGrowS_float (v := ?_) (by simp only [List.getElem?_toArray, List.getElem?_cons_succ, List.getElem?_cons_zero]; rfl) (by rfl) ?_ ?_
               rotate_left
               · (intro W hW; have t0 := (hW.cell (p := ⟨M, 0, none⟩) hMl).trans c0; have t1 := (hW.cell (p := ⟨M, 1, none⟩) hMl).trans c1; have t2 := (hW.cell (p := ⟨M, 2, none⟩) hMl).trans c2; have t3 := (hW.cell (p := ⟨M, 3, none⟩) hMl).trans c3; have t4 := (hW.cell (p := ⟨M, 4, none⟩) hMl).trans c4; have t5 := (hW.cell (p := ⟨M, 5, none⟩) hMl).trans c5; have t6 := (hW.cell (p := ⟨M, 6, none⟩) hMl).trans c6; have t7 := (hW.cell (p := ⟨M, 7, none⟩) hMl).trans c7; have t8 := (hW.cell (p := ⟨M, 8, none⟩) hMl).trans c8; have t9 := (hW.cell (p := ⟨M, 9, none⟩) hMl).trans c9; have t10 := (hW.cell (p := ⟨M, 10, none⟩) hMl).trans c10; have t11 := (hW.cell (p := ⟨M, 11, none⟩) hMl).trans c11; have t12 := (hW.cell (p := ⟨M, 12, none⟩) hMl).trans c12; have tu := (hW.cell (p := ⟨w.heap.size, cn * 64 + sn, none⟩) hGl).trans cu; (try simp only at *); go_simp; try with_reducible rfl)
               simp only [Act.put, List.setIfInBounds_toArray, List.set_cons_zero, List.set_cons_succ])
            | (refine wpGrowS_skip (by simp only [List.getElem?_toArray, List.getElem?_cons_succ, List.getElem?_cons_zero]; rfl) (by rfl) ?_
               simp only [Act.put, List.setIfInBounds_toArray, List.set_cons_zero, List.set_cons_succ]))
        refine wpGrowS_nil ?_
        have HBE := Lib.hid (beln HB4.out hS)
        clear hS c0 c1 c2 c3 c4 c5 c6 c7 c8 c9 c10 c11 c12 cu
        go_wp2
        go_ret
        exact ⟨congrArg (fun b => Ending.returned (Value.bool b)) HF.out.symm, HBE.out⟩
      refine wp_region_growS (S := fun W => Below w4.heap.size w4 W) [(0, true), (1, true), (2, false), (3, true), (4, true), (5, true), (6, true), (7, true), (8, true), (9, false), (10, true), (11, true), (12, true), (13, true), (14, true), (15, true), (16, true), (17, true), (18, true), (19, true), (20, true)] (by kernel_rfl) (by kernel_rfl) (by kernel_rfl) (by kernel_rfl) (by intro c a d v w h; cases d <;> exact h) hS ?_
      iterate 2
        (first
          | (refine wpGrowS_float (v := ?_) (by simp only [List.getElem?_toArray, List.getElem?_cons_succ, List.getElem?_cons_zero]; rfl) (by rfl) ?_ ?_
             rotate_left
             · (intro W hW; have t0 := (hW.cell (p := ⟨M, 0, none⟩) hMl).trans c0; have t1 := (hW.cell (p := ⟨M, 1, none⟩) hMl).trans c1; have t2 := (hW.cell (p := ⟨M, 2, none⟩) hMl).trans c2; have t3 := (hW.cell (p := ⟨M, 3, none⟩) hMl).trans c3; have t4 := (hW.cell (p := ⟨M, 4, none⟩) hMl).trans c4; have t5 := (hW.cell (p := ⟨M, 5, none⟩) hMl).trans c5; have t6 := (hW.cell (p := ⟨M, 6, none⟩) hMl).trans c6; have t7 := (hW.cell (p := ⟨M, 7, none⟩) hMl).trans c7; have t8 := (hW.cell (p := ⟨M, 8, none⟩) hMl).trans c8; have t9 := (hW.cell (p := ⟨M, 9, none⟩) hMl).trans c9; have t10 := (hW.cell (p := ⟨M, 10, none⟩) hMl).trans c10; have t11 := (hW.cell (p := ⟨M, 11, none⟩) hMl).trans c11; have t12 := (hW.cell (p := ⟨M, 12, none⟩) hMl).trans c12; have tu := (hW.cell (p := ⟨w.heap.size, cn * 64 + sn, none⟩) hGl).trans cu; (try simp only at *); go_simp; try with_reducible rfl)
             simp only [Act.put, List.setIfInBounds_toArray, List.set_cons_zero, List.set_cons_succ])
          | (refine wpGrowS_skip (by simp only [List.getElem?_toArray, List.getElem?_cons_succ, List.getElem?_cons_zero]; rfl) (by rfl) ?_
             simp only [Act.put, List.setIfInBounds_toArray, List.set_cons_zero, List.set_cons_succ]))
      refine wpGrowS_call (by simp only [List.getElem?_toArray, List.getElem?_cons_succ, List.getElem?_cons_zero]; rfl) (by rfl) fun K hK => ?_
      go_simp
      go_fit (HVX.out _ hS)
      rintro e wn ⟨rfl, hbn⟩
      have hSp := hS
      have hS : Below w4.heap.size w4 wn := beln hS hbn
      go_simp
      refine hK _ _ hS ?_
      clear hK K
      try simp only [Act.put, List.setIfInBounds_toArray, List.set_cons_zero, List.set_cons_succ]
      iterate 6
        (first
          | (refine wpGrowS_float (v := ?_) (by simp only [List.getElem?_toArray, List.getElem?_cons_succ, List.getElem?_cons_zero]; rfl) (by rfl) ?_ ?_
             rotate_left
             · (intro W hW; have t0 := (hW.cell (p := ⟨M, 0, none⟩) hMl).trans c0; have t1 := (hW.cell (p := ⟨M, 1, none⟩) hMl).trans c1; have t2 := (hW.cell (p := ⟨M, 2, none⟩) hMl).trans c2; have t3 := (hW.cell (p := ⟨M, 3, none⟩) hMl).trans c3; have t4 := (hW.cell (p := ⟨M, 4, none⟩) hMl).trans c4; have t5 := (hW.cell (p := ⟨M, 5, none⟩) hMl).trans c5; have t6 := (hW.cell (p := ⟨M, 6, none⟩) hMl).trans c6; have t7 := (hW.cell (p := ⟨M, 7, none⟩) hMl).trans c7; have t8 := (hW.cell (p := ⟨M, 8, none⟩) hMl).trans c8; have t9 := (hW.cell (p := ⟨M, 9, none⟩) hMl).trans c9; have t10 := (hW.cell (p := ⟨M, 10, none⟩) hMl).trans c10; have t11 := (hW.cell (p := ⟨M, 11, none⟩) hMl).trans c11; have t12 := (hW.cell (p := ⟨M, 12, none⟩) hMl).trans c12; have tu := (hW.cell (p := ⟨w.heap.size, cn * 64 + sn, none⟩) hGl).trans cu; (try simp only at *); go_simp; try with_reducible rfl)
             simp only [Act.put, List.setIfInBounds_toArray, List.set_cons_zero, List.set_cons_succ])
          | (refine wpGrowS_skip (by simp only [List.getElem?_toArray, List.getElem?_cons_succ, List.getElem?_cons_zero]; rfl) (by rfl) ?_
             simp only [Act.put, List.setIfInBounds_toArray, List.set_cons_zero, List.set_cons_succ]))
      refine wpGrowS_call (by simp only [List.getElem?_toArray, List.getElem?_cons_succ, List.getElem?_cons_zero]; rfl) (by rfl) fun K hK => ?_
      go_simp
      go_fit (HSX.out _)
      rintro e wn ⟨rfl, hbn⟩
      have hSp := hS
      have hS : Below w4.heap.size w4 wn := beln hS hbn
      go_simp
      refine hK _ _ hS ?_
      clear hK K
      try simp only [Act.put, List.setIfInBounds_toArray, List.set_cons_zero, List.set_cons_succ]
      iterate 11
        (first
          | (refine wpGrowS_float (v := ?_) (by simp only [List.getElem?_toArray, List.getElem?_cons_succ, List.getElem?_cons_zero]; rfl) (by rfl) ?_ ?_
             rotate_left
             · (intro W hW; have t0 := (hW.cell (p := ⟨M, 0, none⟩) hMl).trans c0; have t1 := (hW.cell (p := ⟨M, 1, none⟩) hMl).trans c1; have t2 := (hW.cell (p := ⟨M, 2, none⟩) hMl).trans c2; have t3 := (hW.cell (p := ⟨M, 3, none⟩) hMl).trans c3; have t4 := (hW.cell (p := ⟨M, 4, none⟩) hMl).trans c4; have t5 := (hW.cell (p := ⟨M, 5, none⟩) hMl).trans c5; have t6 := (hW.cell (p := ⟨M, 6, none⟩) hMl).trans c6; have t7 := (hW.cell (p := ⟨M, 7, none⟩) hMl).trans c7; have t8 := (hW.cell (p := ⟨M, 8, none⟩) hMl).trans c8; have t9 := (hW.cell (p := ⟨M, 9, none⟩) hMl).trans c9; have t10 := (hW.cell (p := ⟨M, 10, none⟩) hMl).trans c10; have t11 := (hW.cell (p := ⟨M, 11, none⟩) hMl).trans c11; have t12 := (hW.cell (p := ⟨M, 12, none⟩) hMl).trans c12; have tu := (hW.cell (p := ⟨w.heap.size, cn * 64 + sn, none⟩) hGl).trans cu; (try simp only at *); go_simp; try with_reducible rfl)
             simp only [Act.put, List.setIfInBounds_toArray, List.set_cons_zero, List.set_cons_succ])
          | (refine wpGrowS_skip (by simp only [List.getElem?_toArray, List.getElem?_cons_succ, List.getElem?_cons_zero]; rfl) (by rfl) ?_
             simp only [Act.put, List.setIfInBounds_toArray, List.set_cons_zero, List.set_cons_succ]))
      refine wpGrowS_nil ?_
      clear HVX HSX
      rcases k with _ | m
      · have HT2 : Hid (∀ j, j < 0 + 1 → ok j = true) := Lib.hid fun j hj => by
          obtain rfl : j = 0 := by omega
          rw [HKK.out]; rfl
        clear HPK HKK HFA
        go_upto_region 7 with fail
        replace hS := hS.drew
        refine wp_region_growS (S := fun W => Below w4.heap.size w4 W) [(0, true), (1, true), (2, true), (3, true), (4, true), (5, true), (6, true), (7, true), (8, true), (9, true), (10, true), (11, true), (12, true), (13, false), (14, true), (15, true)] (by kernel_rfl) (by kernel_rfl) (by kernel_rfl) (by kernel_rfl) (by intro c a d v w h; cases d <;> exact h) hS ?_
        iterate 13
          (first
            | (refine wpGrowS_float (v := ?_) (by simp only [List.getElem?_toArray, List.getElem?_cons_succ, List.getElem?_cons_zero]; rfl) (by rfl) ?_ ?_
               rotate_left
               · (intro W hW; have t0 := (hW.cell (p := ⟨M, 0, none⟩) hMl).trans c0; have t1 := (hW.cell (p := ⟨M, 1, none⟩) hMl).trans c1; have t2 := (hW.cell (p := ⟨M, 2, none⟩) hMl).trans c2; have t3 := (hW.cell (p := ⟨M, 3, none⟩) hMl).trans c3; have t4 := (hW.cell (p := ⟨M, 4, none⟩) hMl).trans c4; have t5 := (hW.cell (p := ⟨M, 5, none⟩) hMl).trans c5; have t6 := (hW.cell (p := ⟨M, 6, none⟩) hMl).trans c6; have t7 := (hW.cell (p := ⟨M, 7, none⟩) hMl).trans c7; have t8 := (hW.cell (p := ⟨M, 8, none⟩) hMl).trans c8; have t9 := (hW.cell (p := ⟨M, 9, none⟩) hMl).trans c9; have t10 := (hW.cell (p := ⟨M, 10, none⟩) hMl).trans c10; have t11 := (hW.cell (p := ⟨M, 11, none⟩) hMl).trans c11; have t12 := (hW.cell (p := ⟨M, 12, none⟩) hMl).trans c12; (try simp only at *); go_simp; try with_reducible rfl)
               simp only [Act.put, List.setIfInBounds_toArray, List.set_cons_zero, List.set_cons_succ])
            | (refine wpGrowS_skip (by simp only [List.getElem?_toArray, List.getElem?_cons_succ, List.getElem?_cons_zero]; rfl) (by rfl) ?_
               simp only [Act.put, List.setIfInBounds_toArray, List.set_cons_zero, List.set_cons_succ]))
        refine wpGrowS_pass hS (by simp only [List.getElem?_toArray, List.getElem?_cons_succ, List.getElem?_cons_zero]; rfl) (by rfl) ?_
        try simp only [Act.put, List.setIfInBounds_toArray, List.set_cons_zero, List.set_cons_succ]
        iterate 2
          (first
            | (refine wpGrowS_float (v := ?_) (by simp only [List.getElem?_toArray, List.getElem?_cons_succ, List.getElem?_cons_zero]; rfl) (by rfl) ?_ ?_
               rotate_left
               · (intro W hW; have t0 := (hW.cell (p := ⟨M, 0, none⟩) hMl).trans c0; have t1 := (hW.cell (p := ⟨M, 1, none⟩) hMl).trans c1; have t2 := (hW.cell (p := ⟨M, 2, none⟩) hMl).trans c2; have t3 := (hW.cell (p := ⟨M, 3, none⟩) hMl).trans c3; have t4 := (hW.cell (p := ⟨M, 4, none⟩) hMl).trans c4; have t5 := (hW.cell (p := ⟨M, 5, none⟩) hMl).trans c5; have t6 := (hW.cell (p := ⟨M, 6, none⟩) hMl).trans c6; have t7 := (hW.cell (p := ⟨M, 7, none⟩) hMl).trans c7; have t8 := (hW.cell (p := ⟨M, 8, none⟩) hMl).trans c8; have t9 := (hW.cell (p := ⟨M, 9, none⟩) hMl).trans c9; have t10 := (hW.cell (p := ⟨M, 10, none⟩) hMl).trans c10; have t11 := (hW.cell (p := ⟨M, 11, none⟩) hMl).trans c11; have t12 := (hW.cell (p := ⟨M, 12, none⟩) hMl).trans c12; (try simp only at *); go_simp; try with_reducible rfl)
               simp only [Act.put, List.setIfInBounds_toArray, List.set_cons_zero, List.set_cons_succ])
            | (refine wpGrowS_skip (by simp only [List.getElem?_toArray, List.getElem?_cons_succ, List.getElem?_cons_zero]; rfl) (by rfl) ?_
               simp only [Act.put, List.setIfInBounds_toArray, List.set_cons_zero, List.set_cons_succ]))
        refine wpGrowS_nil ?_
        have HB5 := Lib.hid hS
        have HU5 := Lib.hid (HU4.out.next hS)
        have HE5 := Lib.hid (HEB.out.next hS)
        have HBE := Lib.hid (beln HB4.out hS)
        clear hS c0 c1 c2 c3 c4 c5 c6 c7 c8 c9 c10 c11 c12 cu
        generalize wn.drew = w6 at *
        obtain ⟨c0, c1, _, _, _, _, _, _, _, _, _, _, _⟩ := HE5.out.cells
        simp only [Nat.zero_add] at c0 c1
        have cu := HU5.out.cell (k := cn * 64 + sn) (by omega)
        have cf := HU5.out.frz (cn * 64 + sn)
        have HU6 := Lib.hid (HU5.out.set (cn * 64 + sn))
        have HU7 : Hid (UB (w6.setCell ⟨w.heap.size, cn * 64 + sn, none⟩ (.bool true)).drew w.heap.size (us (0 + 1))) := Lib.hid (show UB (w6.setCell ⟨w.heap.size, cn * 64 + sn, none⟩ (.bool true)) w.heap.size (us (0 + 1)) from HU6.out.congr fun j => (HSK.out j).symm)
        have HB7 := Lib.hid (HBE.out.setCell (p := ⟨w.heap.size, cn * 64 + sn, none⟩) (Nat.le_refl _) (.bool true)).drew
        have HE6 := Lib.hid (show EB w6.drew M ⟨⟨(cn : Int), (sn : Int), ⟨⟨i0, i1, i2⟩, xp, ⟨a0, a1, a2, a3, a4, a5, a6⟩⟩⟩, xA, xcp⟩ from HE5.out)
        have hS9 : EB (w6.drew.setCell ⟨w.heap.size, cn * 64 + sn, none⟩ (.bool true)) M ⟨⟨(cn : Int), (sn : Int), ⟨⟨i0, i1, i2⟩, xp, ⟨a0, a1, a2, a3, a4, a5, a6⟩⟩⟩, xA, xcp⟩ := (Below.heap_setCell _ ⟨_, _, none⟩ _ _ (show M ≠ w.heap.size by have := HMG.out; omega)).trans HE6.out
        clear HU6
        go_upto_region 9 with fail
        refine wp_region_growS (S := fun W => EB W M ⟨⟨(cn : Int), (sn : Int), ⟨⟨i0, i1, i2⟩, xp, ⟨a0, a1, a2, a3, a4, a5, a6⟩⟩⟩, xA, xcp⟩) [(0, true), (1, true), (2, true), (3, true), (4, true), (5, true), (6, false)] (by kernel_rfl) (by kernel_rfl) (by kernel_rfl) (by kernel_rfl) (by intro c a d v w h; cases d <;> exact h) HE6.out ?_
        iterate 6
          (first
            | (refine wpGrowS_float (v := ?_) (by simp only [List.getElem?_toArray, List.getElem?_cons_succ, List.getElem?_cons_zero]; rfl) (by rfl) ?_ ?_
               rotate_left
               · (intro W hW; obtain ⟨c0, c1, _, _, _, _, _, _, _, _, _, _, _⟩ := EBc hW; (try simp only at *); go_simp; try with_reducible rfl)
               simp only [Act.put, List.setIfInBounds_toArray, List.set_cons_zero, List.set_cons_succ])
            | (refine wpGrowS_skip (by simp only [List.getElem?_toArray, List.getElem?_cons_succ, List.getElem?_cons_zero]; rfl) (by rfl) ?_
               simp only [Act.put, List.setIfInBounds_toArray, List.set_cons_zero, List.set_cons_succ]))
        refine wpGrowS_call (by simp only [List.getElem?_toArray, List.getElem?_cons_succ, List.getElem?_cons_zero]; rfl) (by rfl) fun K hK => ?_
        go_simp
        refine hK _ _ hS9 ?_
        clear hK K
        try simp only [Act.put, List.setIfInBounds_toArray, List.set_cons_zero, List.set_cons_succ]
        refine wpGrowS_nil ?_
        go_wp2
        generalize (w6.setCell ⟨w.heap.size, cn * 64 + sn, none⟩ (.bool true)).drew = w7 at *
        go_roundw
        case rel => exact ⟨0 + 1, by go_num, by omega, HT2, HU7, HB7⟩
        case measure => simp [intOf]; omega
      · obtain ⟨y, hy, hly⟩ := HPK.out m rfl
        have hbl : b1 < w4.heap.size := hbl4
        obtain ⟨_, _, y2, y3, y4, _, _, _, _, _, _, _, _⟩ := hy w4 HW4.out
        have HLS := Lib.hid fun W => HLS0.out y.e.node.id ⟨i0, i1, i2⟩ W
        rw [hly] at HKK
        clear HPK hy hly
        generalize ltI y.e.node.id ⟨i0, i1, i2⟩ = bl at *
        generalize y.e.node.id = yi at *
        obtain ⟨v0, v1, v2⟩ := yi
        simp only [GId.val] at y2 y3 y4 HLS
        have hm0 : 0 ≤ (m : Int) := by omega
        have hm1 : (m : Int) < (xs.length : Int) := by omega
        have hm2 : (m : Int).toNat = m := by omega
        have hwr : IntKind.i64.wrap (m : Int) = m := IntWalk.i64_in _ (by omega)
        rcases bl with _ | _
        · have HF := Lib.hid (HFA.out (by rw [HKK.out]; rfl))
          clear HFA HKK
          go_upto_region 7 with fail
          replace hS := hS.drew
          refine wp_region_growS (S := fun W => Below w4.heap.size w4 W) [(0, true), (1, true), (2, true), (3, true), (4, true), (5, true), (6, true), (7, true), (8, true), (9, true), (10, true), (11, true), (12, true), (13, false), (14, true), (15, true)] (by kernel_rfl) (by kernel_rfl) (by kernel_rfl) (by kernel_rfl) (by intro c a d v w h; cases d <;> exact h) hS ?_
          iterate 13
            (first
              | (refine wpGrowS_float (v := ?_) (by simp only [List.getElem?_toArray, List.getElem?_cons_succ, List.getElem?_cons_zero]; rfl) (by rfl) ?_ ?_
                 rotate_left
                 · (intro W hW; have t0 := (hW.cell (p := ⟨M, 0, none⟩) hMl).trans c0; have t1 := (hW.cell (p := ⟨M, 1, none⟩) hMl).trans c1; have t2 := (hW.cell (p := ⟨M, 2, none⟩) hMl).trans c2; have t3 := (hW.cell (p := ⟨M, 3, none⟩) hMl).trans c3; have t4 := (hW.cell (p := ⟨M, 4, none⟩) hMl).trans c4; have t5 := (hW.cell (p := ⟨M, 5, none⟩) hMl).trans c5; have t6 := (hW.cell (p := ⟨M, 6, none⟩) hMl).trans c6; have t7 := (hW.cell (p := ⟨M, 7, none⟩) hMl).trans c7; have t8 := (hW.cell (p := ⟨M, 8, none⟩) hMl).trans c8; have t9 := (hW.cell (p := ⟨M, 9, none⟩) hMl).trans c9; have t10 := (hW.cell (p := ⟨M, 10, none⟩) hMl).trans c10; have t11 := (hW.cell (p := ⟨M, 11, none⟩) hMl).trans c11; have t12 := (hW.cell (p := ⟨M, 12, none⟩) hMl).trans c12; have s2 := (hW.cell (p := ⟨b1, o1 + m * 13 + 2, none⟩) hbl).trans y2; have s3 := (hW.cell (p := ⟨b1, o1 + m * 13 + 3, none⟩) hbl).trans y3; have s4 := (hW.cell (p := ⟨b1, o1 + m * 13 + 4, none⟩) hbl).trans y4; (try simp only at *); go_simp; try with_reducible rfl)
                 simp only [Act.put, List.setIfInBounds_toArray, List.set_cons_zero, List.set_cons_succ])
              | (refine wpGrowS_skip (by simp only [List.getElem?_toArray, List.getElem?_cons_succ, List.getElem?_cons_zero]; rfl) (by rfl) ?_
                 simp only [Act.put, List.setIfInBounds_toArray, List.set_cons_zero, List.set_cons_succ]))
          refine wpGrowS_call (by simp only [List.getElem?_toArray, List.getElem?_cons_succ, List.getElem?_cons_zero]; rfl) (by rfl) fun K hK => ?_
          go_simp
          go_fit (HLS.out _)
          rintro e wn ⟨rfl, hbn⟩
          have hSp := hS
          have hS : Below w4.heap.size w4 wn := beln hS hbn
          go_simp
          refine hK _ _ hS ?_
          clear hK K
          try simp only [Act.put, List.setIfInBounds_toArray, List.set_cons_zero, List.set_cons_succ]
          iterate 2
            (first
              | (refine wpGrowS_float (v := ?_) (by simp only [List.getElem?_toArray, List.getElem?_cons_succ, List.getElem?_cons_zero]; rfl) (by rfl) ?_ ?_
                 rotate_left
                 · (intro W hW; have t0 := (hW.cell (p := ⟨M, 0, none⟩) hMl).trans c0; have t1 := (hW.cell (p := ⟨M, 1, none⟩) hMl).trans c1; have t2 := (hW.cell (p := ⟨M, 2, none⟩) hMl).trans c2; have t3 := (hW.cell (p := ⟨M, 3, none⟩) hMl).trans c3; have t4 := (hW.cell (p := ⟨M, 4, none⟩) hMl).trans c4; have t5 := (hW.cell (p := ⟨M, 5, none⟩) hMl).trans c5; have t6 := (hW.cell (p := ⟨M, 6, none⟩) hMl).trans c6; have t7 := (hW.cell (p := ⟨M, 7, none⟩) hMl).trans c7; have t8 := (hW.cell (p := ⟨M, 8, none⟩) hMl).trans c8; have t9 := (hW.cell (p := ⟨M, 9, none⟩) hMl).trans c9; have t10 := (hW.cell (p := ⟨M, 10, none⟩) hMl).trans c10; have t11 := (hW.cell (p := ⟨M, 11, none⟩) hMl).trans c11; have t12 := (hW.cell (p := ⟨M, 12, none⟩) hMl).trans c12; have s2 := (hW.cell (p := ⟨b1, o1 + m * 13 + 2, none⟩) hbl).trans y2; have s3 := (hW.cell (p := ⟨b1, o1 + m * 13 + 3, none⟩) hbl).trans y3; have s4 := (hW.cell (p := ⟨b1, o1 + m * 13 + 4, none⟩) hbl).trans y4; (try simp only at *); go_simp; try with_reducible rfl)
                 simp only [Act.put, List.setIfInBounds_toArray, List.set_cons_zero, List.set_cons_succ])
              | (refine wpGrowS_skip (by simp only [List.getElem?_toArray, List.getElem?_cons_succ, List.getElem?_cons_zero]; rfl) (by rfl) ?_
                 simp only [Act.put, List.setIfInBounds_toArray, List.set_cons_zero, List.set_cons_succ]))
          refine wpGrowS_nil ?_
          have HBE := Lib.hid (beln HB4.out hS)
          clear hS c0 c1 c2 c3 c4 c5 c6 c7 c8 c9 c10 c11 c12 cu y2 y3 y4
          go_wp2
          go_ret
          exact ⟨congrArg (fun b => Ending.returned (Value.bool b)) HF.out.symm, HBE.out⟩
        · have HT2 : Hid (∀ j, j < m + 1 + 1 → ok j = true) := Lib.hid fun j hj => by
            rcases Nat.lt_or_ge j (m + 1) with h | h
            · exact HT.out j h
            · obtain rfl : j = m + 1 := by omega
              rw [HKK.out]; simp
          clear HFA HKK
          go_upto_region 7 with fail
          replace hS := hS.drew
          refine wp_region_growS (S := fun W => Below w4.heap.size w4 W) [(0, true), (1, true), (2, true), (3, true), (4, true), (5, true), (6, true), (7, true), (8, true), (9, true), (10, true), (11, true), (12, true), (13, false), (14, true), (15, true)] (by kernel_rfl) (by kernel_rfl) (by kernel_rfl) (by kernel_rfl) (by intro c a d v w h; cases d <;> exact h) hS ?_
          iterate 13
            (first
              | (refine wpGrowS_float (v := ?_) (by simp only [List.getElem?_toArray, List.getElem?_cons_succ, List.getElem?_cons_zero]; rfl) (by rfl) ?_ ?_
                 rotate_left
                 · (intro W hW; have t0 := (hW.cell (p := ⟨M, 0, none⟩) hMl).trans c0; have t1 := (hW.cell (p := ⟨M, 1, none⟩) hMl).trans c1; have t2 := (hW.cell (p := ⟨M, 2, none⟩) hMl).trans c2; have t3 := (hW.cell (p := ⟨M, 3, none⟩) hMl).trans c3; have t4 := (hW.cell (p := ⟨M, 4, none⟩) hMl).trans c4; have t5 := (hW.cell (p := ⟨M, 5, none⟩) hMl).trans c5; have t6 := (hW.cell (p := ⟨M, 6, none⟩) hMl).trans c6; have t7 := (hW.cell (p := ⟨M, 7, none⟩) hMl).trans c7; have t8 := (hW.cell (p := ⟨M, 8, none⟩) hMl).trans c8; have t9 := (hW.cell (p := ⟨M, 9, none⟩) hMl).trans c9; have t10 := (hW.cell (p := ⟨M, 10, none⟩) hMl).trans c10; have t11 := (hW.cell (p := ⟨M, 11, none⟩) hMl).trans c11; have t12 := (hW.cell (p := ⟨M, 12, none⟩) hMl).trans c12; have s2 := (hW.cell (p := ⟨b1, o1 + m * 13 + 2, none⟩) hbl).trans y2; have s3 := (hW.cell (p := ⟨b1, o1 + m * 13 + 3, none⟩) hbl).trans y3; have s4 := (hW.cell (p := ⟨b1, o1 + m * 13 + 4, none⟩) hbl).trans y4; (try simp only at *); go_simp; try with_reducible rfl)
                 simp only [Act.put, List.setIfInBounds_toArray, List.set_cons_zero, List.set_cons_succ])
              | (refine wpGrowS_skip (by simp only [List.getElem?_toArray, List.getElem?_cons_succ, List.getElem?_cons_zero]; rfl) (by rfl) ?_
                 simp only [Act.put, List.setIfInBounds_toArray, List.set_cons_zero, List.set_cons_succ]))
          refine wpGrowS_call (by simp only [List.getElem?_toArray, List.getElem?_cons_succ, List.getElem?_cons_zero]; rfl) (by rfl) fun K hK => ?_
          go_simp
          go_fit (HLS.out _)
          rintro e wn ⟨rfl, hbn⟩
          have hSp := hS
          have hS : Below w4.heap.size w4 wn := beln hS hbn
          go_simp
          refine hK _ _ hS ?_
          clear hK K
          try simp only [Act.put, List.setIfInBounds_toArray, List.set_cons_zero, List.set_cons_succ]
          iterate 2
            (first
              | (refine wpGrowS_float (v := ?_) (by simp only [List.getElem?_toArray, List.getElem?_cons_succ, List.getElem?_cons_zero]; rfl) (by rfl) ?_ ?_
                 rotate_left
                 · (intro W hW; have t0 := (hW.cell (p := ⟨M, 0, none⟩) hMl).trans c0; have t1 := (hW.cell (p := ⟨M, 1, none⟩) hMl).trans c1; have t2 := (hW.cell (p := ⟨M, 2, none⟩) hMl).trans c2; have t3 := (hW.cell (p := ⟨M, 3, none⟩) hMl).trans c3; have t4 := (hW.cell (p := ⟨M, 4, none⟩) hMl).trans c4; have t5 := (hW.cell (p := ⟨M, 5, none⟩) hMl).trans c5; have t6 := (hW.cell (p := ⟨M, 6, none⟩) hMl).trans c6; have t7 := (hW.cell (p := ⟨M, 7, none⟩) hMl).trans c7; have t8 := (hW.cell (p := ⟨M, 8, none⟩) hMl).trans c8; have t9 := (hW.cell (p := ⟨M, 9, none⟩) hMl).trans c9; have t10 := (hW.cell (p := ⟨M, 10, none⟩) hMl).trans c10; have t11 := (hW.cell (p := ⟨M, 11, none⟩) hMl).trans c11; have t12 := (hW.cell (p := ⟨M, 12, none⟩) hMl).trans c12; have s2 := (hW.cell (p := ⟨b1, o1 + m * 13 + 2, none⟩) hbl).trans y2; have s3 := (hW.cell (p := ⟨b1, o1 + m * 13 + 3, none⟩) hbl).trans y3; have s4 := (hW.cell (p := ⟨b1, o1 + m * 13 + 4, none⟩) hbl).trans y4; (try simp only at *); go_simp; try with_reducible rfl)
                 simp only [Act.put, List.setIfInBounds_toArray, List.set_cons_zero, List.set_cons_succ])
              | (refine wpGrowS_skip (by simp only [List.getElem?_toArray, List.getElem?_cons_succ, List.getElem?_cons_zero]; rfl) (by rfl) ?_
                 simp only [Act.put, List.setIfInBounds_toArray, List.set_cons_zero, List.set_cons_succ]))
          refine wpGrowS_nil ?_
          clear y2 y3 y4
          have HB5 := Lib.hid hS
          have HU5 := Lib.hid (HU4.out.next hS)
          have HE5 := Lib.hid (HEB.out.next hS)
          have HBE := Lib.hid (beln HB4.out hS)
          clear hS c0 c1 c2 c3 c4 c5 c6 c7 c8 c9 c10 c11 c12 cu
          generalize wn = w6 at *
          obtain ⟨c0, c1, _, _, _, _, _, _, _, _, _, _, _⟩ := HE5.out.cells
          simp only [Nat.zero_add] at c0 c1
          have cu := HU5.out.cell (k := cn * 64 + sn) (by omega)
          have cf := HU5.out.frz (cn * 64 + sn)
          have HU6 := Lib.hid (HU5.out.set (cn * 64 + sn))
          have HU7 : Hid (UB (w6.setCell ⟨w.heap.size, cn * 64 + sn, none⟩ (.bool true)).drew w.heap.size (us ((m + 1) + 1))) := Lib.hid (show UB (w6.setCell ⟨w.heap.size, cn * 64 + sn, none⟩ (.bool true)) w.heap.size (us ((m + 1) + 1)) from HU6.out.congr fun j => (HSK.out j).symm)
          have HB7 := Lib.hid (HBE.out.setCell (p := ⟨w.heap.size, cn * 64 + sn, none⟩) (Nat.le_refl _) (.bool true)).drew
          have HE6 := Lib.hid (show EB w6.drew M ⟨⟨(cn : Int), (sn : Int), ⟨⟨i0, i1, i2⟩, xp, ⟨a0, a1, a2, a3, a4, a5, a6⟩⟩⟩, xA, xcp⟩ from HE5.out)
          have hS9 : EB (w6.drew.setCell ⟨w.heap.size, cn * 64 + sn, none⟩ (.bool true)) M ⟨⟨(cn : Int), (sn : Int), ⟨⟨i0, i1, i2⟩, xp, ⟨a0, a1, a2, a3, a4, a5, a6⟩⟩⟩, xA, xcp⟩ := (Below.heap_setCell _ ⟨_, _, none⟩ _ _ (show M ≠ w.heap.size by have := HMG.out; omega)).trans HE6.out
          clear HU6
          go_upto_region 9 with fail
          refine wp_region_growS (S := fun W => EB W M ⟨⟨(cn : Int), (sn : Int), ⟨⟨i0, i1, i2⟩, xp, ⟨a0, a1, a2, a3, a4, a5, a6⟩⟩⟩, xA, xcp⟩) [(0, true), (1, true), (2, true), (3, true), (4, true), (5, true), (6, false)] (by kernel_rfl) (by kernel_rfl) (by kernel_rfl) (by kernel_rfl) (by intro c a d v w h; cases d <;> exact h) HE6.out ?_
          iterate 6
            (first
              | (refine wpGrowS_float (v := ?_) (by simp only [List.getElem?_toArray, List.getElem?_cons_succ, List.getElem?_cons_zero]; rfl) (by rfl) ?_ ?_
                 rotate_left
                 · (intro W hW; obtain ⟨c0, c1, _, _, _, _, _, _, _, _, _, _, _⟩ := EBc hW; (try simp only at *); go_simp; try with_reducible rfl)
                 simp only [Act.put, List.setIfInBounds_toArray, List.set_cons_zero, List.set_cons_succ])
              | (refine wpGrowS_skip (by simp only [List.getElem?_toArray, List.getElem?_cons_succ, List.getElem?_cons_zero]; rfl) (by rfl) ?_
                 simp only [Act.put, List.setIfInBounds_toArray, List.set_cons_zero, List.set_cons_succ]))
          refine wpGrowS_call (by simp only [List.getElem?_toArray, List.getElem?_cons_succ, List.getElem?_cons_zero]; rfl) (by rfl) fun K hK => ?_
          go_simp
          refine hK _ _ hS9 ?_
          clear hK K
          try simp only [Act.put, List.setIfInBounds_toArray, List.set_cons_zero, List.set_cons_succ]
          refine wpGrowS_nil ?_
          go_wp2
          generalize (w6.setCell ⟨w.heap.size, cn * 64 + sn, none⟩ (.bool true)).drew = w7 at *
          go_roundw
          case rel => exact ⟨(m + 1) + 1, by go_num, by omega, HT2, HU7, HB7⟩
          case measure => simp [intOf]; omega
    · have HF := Lib.hid (HOT.out fun i hi => HT.out i (by omega))
      go_wp2
      go_ret
      exact ⟨congrArg (fun b => Ending.returned (Value.bool b)) HF.out.symm, HB.out⟩
end Go.Proofs.YtndppbfdcceflaaGreatDoor


namespace Go.Proofs.YtndppbfdcceflaaGreatDoor

open Go.RowKit

/-- The order of nesting: by address, what contains others first, of the same range the least kind first. -/
def nestLe (a b : GC) : Prop := a.base < b.base ∨ a.base = b.base ∧ (b.bits < a.bits ∨ b.bits = a.bits ∧ a.kind ≤ b.kind)
theorem coex_sym (a b : GC) : coexB b a = coexB a b := by
  unfold coexB
  rw [ov_comm b.rng a.rng]
  have h : sameO b a = sameO a b := by
    rw [Bool.eq_iff_iff]
    unfold sameO
    simp only [Bool.and_eq_true, decide_eq_true_eq]
    exact ⟨fun h => ⟨⟨⟨⟨⟨h.1.1.1.1.1.symm, h.1.1.1.1.2.symm⟩, h.1.1.1.2.symm⟩, h.1.1.2.symm⟩, h.1.2.symm⟩, h.2.symm⟩, fun h => ⟨⟨⟨⟨⟨h.1.1.1.1.1.symm, h.1.1.1.1.2.symm⟩, h.1.1.1.2.symm⟩, h.1.1.2.symm⟩, h.1.2.symm⟩, h.2.symm⟩⟩
  rw [h]
  cases ovR a.rng b.rng <;> cases sameO a b <;> cases (decide (a.kind = 1) && conR a.rng b.rng) <;> cases (decide (b.kind = 1) && conR b.rng a.rng) <;> rfl
theorem vC_kind {c : GC} (h : vC c = true) : 1 ≤ c.kind ∧ VR c.rng := by
  unfold vC at h
  simp only [Bool.and_eq_true] at h
  refine ⟨?_, vR_iff.1 h.1.1.1.1.2⟩
  have h1 := h.1.1.1.1.1
  unfold sizB at h1
  split at h1
  · omega
  · split at h1
    · omega
    · simp only [Bool.and_eq_true, decide_eq_true_eq] at h1
      omega
theorem coex_iff {a b : GC} : coexB a b = true ↔ (ovR a.rng b.rng = true → sameO a b = true ∨ (a.kind = 1 ∧ conR a.rng b.rng = true) ∨ (b.kind = 1 ∧ conR b.rng a.rng = true)) := by
  unfold coexB
  cases ovR a.rng b.rng <;> simp [or_assoc]
theorem same_iff {a b : GC} : sameO a b = true ↔ a.kind = b.kind ∧ a.base = b.base ∧ a.bits = b.bits ∧ a.width = b.width ∧ a.level = b.level ∧ a.device = b.device := by
  unfold sameO
  simp [and_assoc]
theorem coex_step {a b c : GC} (va : vC a = true) (vb : vC b = true) (vc : vC c = true) (hab : nestLe a b) (hbc : nestLe b c) (hac : nestLe a c) (h1 : coexB a b = true) (h2 : coexB b c = true) : coexB a c = true := by
  obtain ⟨ka, ra⟩ := vC_kind va
  obtain ⟨kb, rb⟩ := vC_kind vb
  obtain ⟨kc, rc⟩ := vC_kind vc
  rw [coex_iff]
  intro ho
  by_cases k1 : a.kind = 1
  · right; left
    refine ⟨k1, ?_⟩
    have hb := hac
    rcases hac with h | ⟨h, h3⟩
    · rcases Int.lt_or_le a.bits c.bits with h4 | h4
      · have := nest ho (Int.le_of_lt h4)
        rw [con_iff] at this
        obtain ⟨_, _, h5, _⟩ := this
        simp only [GC.rng] at h5
        omega
      · rw [ov_comm] at ho
        exact nest ho h4
    · rw [ov_comm] at ho
      exact nest ho (show c.bits ≤ a.bits by omega)
  · rw [ov_iff] at ho
    obtain ⟨_, _, o1, o2⟩ := ho
    have hov : ovR a.rng b.rng = true := by
      rw [ov_iff]
      refine ⟨ra, rb, ?_, ?_⟩
      · have := sz_pos b.rng
        show a.base < b.base + b.rng.sz
        unfold nestLe at hab
        omega
      · show b.base < a.base + a.rng.sz
        have o3 : c.base < a.base + a.rng.sz := o2
        unfold nestLe at hbc
        omega
    rw [coex_iff] at h1
    rcases h1 hov with hs | ⟨h3, _⟩ | ⟨h3, h4⟩
    · rw [same_iff] at hs
      obtain ⟨e1, e2, e3, e4, e5, e6⟩ := hs
      have er : a.rng = b.rng := by unfold GC.rng; rw [e2, e3]
      rw [coex_iff] at h2
      rw [er, same_iff, e1, e2, e3, e4, e5, e6, ← same_iff]
      refine h2 ?_
      rw [← er, ov_iff]
      exact ⟨ra, rc, o1, o2⟩
    · exact absurd h3 k1
    · have h5 := con_bits h4
      rw [con_iff] at h4
      obtain ⟨_, _, h6, _⟩ := h4
      simp only [GC.rng] at h5 h6
      unfold nestLe at hab
      omega
theorem coex_chain : ∀ {l : List GC}, (∀ c ∈ l, vC c = true) → l.Pairwise nestLe → (∀ i (h : i + 1 < l.length), coexB l[i] l[i + 1] = true) → l.Pairwise (fun a b => coexB a b = true)
  | [], _, _, _ => List.Pairwise.nil
  | [a], _, _, _ => List.pairwise_singleton _ _
  | a :: b :: r, hv, hs, ha => by
    have ih := coex_chain (l := b :: r) (fun c hc => hv c (List.mem_cons_of_mem _ hc)) (List.pairwise_cons.1 hs).2 (fun i h => by
      have := ha (i + 1) (by simpa using h)
      simpa using this)
    refine List.pairwise_cons.2 ⟨fun c hc => ?_, ih⟩
    have hab : coexB a b = true := by simpa using ha 0 (by simp)
    rcases List.mem_cons.1 hc with rfl | hc'
    · exact hab
    · have p1 := (List.pairwise_cons.1 hs).1
      have p2 := (List.pairwise_cons.1 (List.pairwise_cons.1 hs).2).1
      exact coex_step (hv a (by simp)) (hv b (by simp)) (hv c (by simp [hc'])) (p1 b (by simp)) (p2 c hc') (p1 c (by simp [hc'])) hab ((List.pairwise_cons.1 ih).1 c hc')
/-- Sorted by nesting: neighbours tell of all pairs. -/
theorem coex_all {l s : List GC} (hv : ∀ c ∈ l, vC c = true) (hp : s.Perm l) (hs : s.Pairwise nestLe) : (∀ i (h : i + 1 < s.length), coexB s[i] s[i + 1] = true) ↔ l.Pairwise (fun a b => coexB a b = true) := by
  have hsym : ∀ {a b : GC}, coexB a b = true → coexB b a = true := fun h => by rw [coex_sym]; exact h
  rw [← hp.pairwise_iff hsym]
  constructor
  · exact fun h => coex_chain (fun c hc => hv c (hp.mem_iff.1 hc)) hs h
  · intro h i hi
    exact List.pairwise_iff_getElem.1 h i (i + 1) (by omega) hi (by omega)
end Go.Proofs.YtndppbfdcceflaaGreatDoor


namespace Go.Proofs.YtndppbfdcceflaaGreatDoor

open Go.RowKit

theorem CS2.drew {w W : World} {N M : Nat} {a b : GC} (h : Below w.heap.size w W ∧ CB W N a ∧ CB W M b) : Below w.heap.size w W.drew ∧ CB W.drew N a ∧ CB W.drew M b :=
  ⟨h.1.drew, h.2.1.next (Below.refl _ _).drew, h.2.2.next (Below.refl _ _).drew⟩
theorem CS2.mk (w : World) (a b : GC) : Below w.heap.size w ((w.alloc (.cells a.cells.toArray 28)).alloc (.cells b.cells.toArray 28)) ∧ CB ((w.alloc (.cells a.cells.toArray 28)).alloc (.cells b.cells.toArray 28)) w.heap.size a ∧ CB ((w.alloc (.cells a.cells.toArray 28)).alloc (.cells b.cells.toArray 28)) (w.heap.size + 1) b := by
  have e : (w.alloc (.cells a.cells.toArray 28)).heap.size = w.heap.size + 1 := by simp
  have h2 := CB.new (w.alloc (.cells a.cells.toArray 28)) b
  rw [e] at h2
  exact ⟨belt (belt (Below.refl _ w) _) _, (CB.new w a).next (belt (Below.refl _ _) _), h2⟩
set_option maxRecDepth 20000 in
set_option maxHeartbeats 4000000 in
theorem rCoe_any (a b : GC) (w : World) : Calls Tryz.prog 55 #[a.val, b.val] w fun e w' => e = .returned (.bool (coexB a b)) ∧ Below w.heap.size w w' := by
  have HGA := Lib.hid fun W => rRng_any a W
  have HGB := Lib.hid fun W => rRng_any b W
  have HOV := Lib.hid fun W => rOv_any a.rng b.rng W
  have HSM := Lib.hid fun W => rSam_any a b W
  have HC1 := Lib.hid fun W => rCon_any a.rng b.rng W
  have HC2 := Lib.hid fun W => rCon_any b.rng a.rng W
  have HR : Hid (coexB a b = (!ovR a.rng b.rng || sameO a b || (decide (a.kind = 1) && conR a.rng b.rng) || (decide (b.kind = 1) && conR b.rng a.rng))) := Lib.hid rfl
  have HS0 := Lib.hid (CS2.drew (CS2.mk w a b))
  generalize coexB a b = q at *
  generalize ovR a.rng b.rng = o at *
  generalize sameO a b = s at *
  generalize conR a.rng b.rng = c1 at *
  generalize conR b.rng a.rng = c2 at *
  generalize a.rng = ga at *
  generalize b.rng = gb at *
  obtain ⟨gab, gan⟩ := ga
  obtain ⟨gbb, gbn⟩ := gb
  obtain ⟨ak, ab, an, ar, aw, al, ad⟩ := a
  obtain ⟨bk, bb, bn, br, bw, bl, bd⟩ := b
  simp only [GC.val, GR.val, GC.cells] at *
  rcases o with _ | _
  · go_enter Tryz.func55, Tryz.ntmps55
    go_upto_region 1 with fail
    have hS := HS0.out
    refine wp_region_growS (S := fun W => Below w.heap.size w W ∧ CB W w.heap.size ⟨ak, ab, an, ar, aw, al, ad⟩ ∧ CB W (w.heap.size + 1) ⟨bk, bb, bn, br, bw, bl, bd⟩) [(0, true), (2, true), (1, false), (3, false), (4, false), (5, true), (6, true), (7, true), (8, true), (9, false), (10, true), (11, true)] (by kernel_rfl) (by kernel_rfl) (by kernel_rfl) (by kernel_rfl) (by intro c a d v w h; cases d <;> exact h) hS ?_
    iterate 2
      (first
        | (refine wpGrowS_float (v := ?_) (by simp only [List.getElem?_toArray, List.getElem?_cons_succ, List.getElem?_cons_zero]; rfl) (by rfl) ?_ ?_
           rotate_left
           · (intro W hW; obtain ⟨p0, p1, p2, p3, p4, p5, p6⟩ := CB.cells (hW.2.1); obtain ⟨q0, q1, q2, q3, q4, q5, q6⟩ := CB.cells (hW.2.2); (try simp only at *); go_simp; try with_reducible rfl)
           simp only [Act.put, List.setIfInBounds_toArray, List.set_cons_zero, List.set_cons_succ])
        | (refine wpGrowS_skip (by simp only [List.getElem?_toArray, List.getElem?_cons_succ, List.getElem?_cons_zero]; rfl) (by rfl) ?_
           simp only [Act.put, List.setIfInBounds_toArray, List.set_cons_zero, List.set_cons_succ]))
    refine wpGrowS_call (by simp only [List.getElem?_toArray, List.getElem?_cons_succ, List.getElem?_cons_zero]; rfl) (by rfl) fun K hK => ?_
    go_simp
    go_fit (HGA.out _)
    rintro e wn ⟨rfl, hbn⟩
    have hSp := hS
    have hS : Below w.heap.size w wn ∧ CB wn w.heap.size ⟨ak, ab, an, ar, aw, al, ad⟩ ∧ CB wn (w.heap.size + 1) ⟨bk, bb, bn, br, bw, bl, bd⟩ := ⟨beln (hS.1) hbn, CB.next (hS.2.1) hbn, CB.next (hS.2.2) hbn⟩
    go_simp
    refine hK _ _ hS ?_
    clear hK K
    try simp only [Act.put, List.setIfInBounds_toArray, List.set_cons_zero, List.set_cons_succ]
    refine wpGrowS_call (by simp only [List.getElem?_toArray, List.getElem?_cons_succ, List.getElem?_cons_zero]; rfl) (by rfl) fun K hK => ?_
    go_simp
    go_fit (HGB.out _)
    rintro e wn ⟨rfl, hbn⟩
    have hSp := hS
    have hS : Below w.heap.size w wn ∧ CB wn w.heap.size ⟨ak, ab, an, ar, aw, al, ad⟩ ∧ CB wn (w.heap.size + 1) ⟨bk, bb, bn, br, bw, bl, bd⟩ := ⟨beln (hS.1) hbn, CB.next (hS.2.1) hbn, CB.next (hS.2.2) hbn⟩
    go_simp
    refine hK _ _ hS ?_
    clear hK K
    try simp only [Act.put, List.setIfInBounds_toArray, List.set_cons_zero, List.set_cons_succ]
    refine wpGrowS_call (by simp only [List.getElem?_toArray, List.getElem?_cons_succ, List.getElem?_cons_zero]; rfl) (by rfl) fun K hK => ?_
    go_simp
    go_fit (HOV.out _)
    rintro e wn ⟨rfl, hbn⟩
    have hSp := hS
    have hS : Below w.heap.size w wn ∧ CB wn w.heap.size ⟨ak, ab, an, ar, aw, al, ad⟩ ∧ CB wn (w.heap.size + 1) ⟨bk, bb, bn, br, bw, bl, bd⟩ := ⟨beln (hS.1) hbn, CB.next (hS.2.1) hbn, CB.next (hS.2.2) hbn⟩
    go_simp
    refine hK _ _ hS ?_
    clear hK K
    try simp only [Act.put, List.setIfInBounds_toArray, List.set_cons_zero, List.set_cons_succ]
    iterate 4
      (first
        | (refine wpGrowS_float (v := ?_) (by simp only [List.getElem?_toArray, List.getElem?_cons_succ, List.getElem?_cons_zero]; rfl) (by rfl) ?_ ?_
           rotate_left
           · (intro W hW; obtain ⟨p0, p1, p2, p3, p4, p5, p6⟩ := CB.cells (hW.2.1); obtain ⟨q0, q1, q2, q3, q4, q5, q6⟩ := CB.cells (hW.2.2); (try simp only at *); go_simp; try with_reducible rfl)
           simp only [Act.put, List.setIfInBounds_toArray, List.set_cons_zero, List.set_cons_succ])
        | (refine wpGrowS_skip (by simp only [List.getElem?_toArray, List.getElem?_cons_succ, List.getElem?_cons_zero]; rfl) (by rfl) ?_
           simp only [Act.put, List.setIfInBounds_toArray, List.set_cons_zero, List.set_cons_succ]))
    refine wpGrowS_pass hS (by simp only [List.getElem?_toArray, List.getElem?_cons_succ, List.getElem?_cons_zero]; rfl) (by rfl) ?_
    try simp only [Act.put, List.setIfInBounds_toArray, List.set_cons_zero, List.set_cons_succ]
    iterate 2
      (first
        | (refine wpGrowS_float (v := ?_) (by simp only [List.getElem?_toArray, List.getElem?_cons_succ, List.getElem?_cons_zero]; rfl) (by rfl) ?_ ?_
           rotate_left
           · (intro W hW; obtain ⟨p0, p1, p2, p3, p4, p5, p6⟩ := CB.cells (hW.2.1); obtain ⟨q0, q1, q2, q3, q4, q5, q6⟩ := CB.cells (hW.2.2); (try simp only at *); go_simp; try with_reducible rfl)
           simp only [Act.put, List.setIfInBounds_toArray, List.set_cons_zero, List.set_cons_succ])
        | (refine wpGrowS_skip (by simp only [List.getElem?_toArray, List.getElem?_cons_succ, List.getElem?_cons_zero]; rfl) (by rfl) ?_
           simp only [Act.put, List.setIfInBounds_toArray, List.set_cons_zero, List.set_cons_succ]))
    refine wpGrowS_nil ?_
    have HE := Lib.hid hS.1
    clear hS hSp hbn
    generalize wn = wz at *
    go_wp2
    go_ret
    exact ⟨congrArg (fun b => Ending.returned (Value.bool b)) (by rw [HR.out]; simp [*]), HE.out⟩
  rcases s with _ | _
  rotate_left
  · go_enter Tryz.func55, Tryz.ntmps55
    go_upto_region 1 with fail
    have hS := HS0.out
    refine wp_region_growS (S := fun W => Below w.heap.size w W ∧ CB W w.heap.size ⟨ak, ab, an, ar, aw, al, ad⟩ ∧ CB W (w.heap.size + 1) ⟨bk, bb, bn, br, bw, bl, bd⟩) [(0, true), (2, true), (1, false), (3, false), (4, false), (5, true), (6, true), (7, true), (8, true), (9, false), (10, true), (11, true)] (by kernel_rfl) (by kernel_rfl) (by kernel_rfl) (by kernel_rfl) (by intro c a d v w h; cases d <;> exact h) hS ?_
    iterate 2
      (first
        | (refine wpGrowS_float (v := ?_) (by simp only [List.getElem?_toArray, List.getElem?_cons_succ, List.getElem?_cons_zero]; rfl) (by rfl) ?_ ?_
           rotate_left
           · (intro W hW; obtain ⟨p0, p1, p2, p3, p4, p5, p6⟩ := CB.cells (hW.2.1); obtain ⟨q0, q1, q2, q3, q4, q5, q6⟩ := CB.cells (hW.2.2); (try simp only at *); go_simp; try with_reducible rfl)
           simp only [Act.put, List.setIfInBounds_toArray, List.set_cons_zero, List.set_cons_succ])
        | (refine wpGrowS_skip (by simp only [List.getElem?_toArray, List.getElem?_cons_succ, List.getElem?_cons_zero]; rfl) (by rfl) ?_
           simp only [Act.put, List.setIfInBounds_toArray, List.set_cons_zero, List.set_cons_succ]))
    refine wpGrowS_call (by simp only [List.getElem?_toArray, List.getElem?_cons_succ, List.getElem?_cons_zero]; rfl) (by rfl) fun K hK => ?_
    go_simp
    go_fit (HGA.out _)
    rintro e wn ⟨rfl, hbn⟩
    have hSp := hS
    have hS : Below w.heap.size w wn ∧ CB wn w.heap.size ⟨ak, ab, an, ar, aw, al, ad⟩ ∧ CB wn (w.heap.size + 1) ⟨bk, bb, bn, br, bw, bl, bd⟩ := ⟨beln (hS.1) hbn, CB.next (hS.2.1) hbn, CB.next (hS.2.2) hbn⟩
    go_simp
    refine hK _ _ hS ?_
    clear hK K
    try simp only [Act.put, List.setIfInBounds_toArray, List.set_cons_zero, List.set_cons_succ]
    refine wpGrowS_call (by simp only [List.getElem?_toArray, List.getElem?_cons_succ, List.getElem?_cons_zero]; rfl) (by rfl) fun K hK => ?_
    go_simp
    go_fit (HGB.out _)
    rintro e wn ⟨rfl, hbn⟩
    have hSp := hS
    have hS : Below w.heap.size w wn ∧ CB wn w.heap.size ⟨ak, ab, an, ar, aw, al, ad⟩ ∧ CB wn (w.heap.size + 1) ⟨bk, bb, bn, br, bw, bl, bd⟩ := ⟨beln (hS.1) hbn, CB.next (hS.2.1) hbn, CB.next (hS.2.2) hbn⟩
    go_simp
    refine hK _ _ hS ?_
    clear hK K
    try simp only [Act.put, List.setIfInBounds_toArray, List.set_cons_zero, List.set_cons_succ]
    refine wpGrowS_call (by simp only [List.getElem?_toArray, List.getElem?_cons_succ, List.getElem?_cons_zero]; rfl) (by rfl) fun K hK => ?_
    go_simp
    go_fit (HOV.out _)
    rintro e wn ⟨rfl, hbn⟩
    have hSp := hS
    have hS : Below w.heap.size w wn ∧ CB wn w.heap.size ⟨ak, ab, an, ar, aw, al, ad⟩ ∧ CB wn (w.heap.size + 1) ⟨bk, bb, bn, br, bw, bl, bd⟩ := ⟨beln (hS.1) hbn, CB.next (hS.2.1) hbn, CB.next (hS.2.2) hbn⟩
    go_simp
    refine hK _ _ hS ?_
    clear hK K
    try simp only [Act.put, List.setIfInBounds_toArray, List.set_cons_zero, List.set_cons_succ]
    iterate 4
      (first
        | (refine wpGrowS_float (v := ?_) (by simp only [List.getElem?_toArray, List.getElem?_cons_succ, List.getElem?_cons_zero]; rfl) (by rfl) ?_ ?_
           rotate_left
           · (intro W hW; obtain ⟨p0, p1, p2, p3, p4, p5, p6⟩ := CB.cells (hW.2.1); obtain ⟨q0, q1, q2, q3, q4, q5, q6⟩ := CB.cells (hW.2.2); (try simp only at *); go_simp; try with_reducible rfl)
           simp only [Act.put, List.setIfInBounds_toArray, List.set_cons_zero, List.set_cons_succ])
        | (refine wpGrowS_skip (by simp only [List.getElem?_toArray, List.getElem?_cons_succ, List.getElem?_cons_zero]; rfl) (by rfl) ?_
           simp only [Act.put, List.setIfInBounds_toArray, List.set_cons_zero, List.set_cons_succ]))
    refine wpGrowS_call (by simp only [List.getElem?_toArray, List.getElem?_cons_succ, List.getElem?_cons_zero]; rfl) (by rfl) fun K hK => ?_
    go_simp
    go_fit (HSM.out _)
    rintro e wn ⟨rfl, hbn⟩
    have hSp := hS
    have hS : Below w.heap.size w wn ∧ CB wn w.heap.size ⟨ak, ab, an, ar, aw, al, ad⟩ ∧ CB wn (w.heap.size + 1) ⟨bk, bb, bn, br, bw, bl, bd⟩ := ⟨beln (hS.1) hbn, CB.next (hS.2.1) hbn, CB.next (hS.2.2) hbn⟩
    go_simp
    refine hK _ _ hS ?_
    clear hK K
    try simp only [Act.put, List.setIfInBounds_toArray, List.set_cons_zero, List.set_cons_succ]
    iterate 2
      (first
        | (refine wpGrowS_float (v := ?_) (by simp only [List.getElem?_toArray, List.getElem?_cons_succ, List.getElem?_cons_zero]; rfl) (by rfl) ?_ ?_
           rotate_left
           · (intro W hW; obtain ⟨p0, p1, p2, p3, p4, p5, p6⟩ := CB.cells (hW.2.1); obtain ⟨q0, q1, q2, q3, q4, q5, q6⟩ := CB.cells (hW.2.2); (try simp only at *); go_simp; try with_reducible rfl)
           simp only [Act.put, List.setIfInBounds_toArray, List.set_cons_zero, List.set_cons_succ])
        | (refine wpGrowS_skip (by simp only [List.getElem?_toArray, List.getElem?_cons_succ, List.getElem?_cons_zero]; rfl) (by rfl) ?_
           simp only [Act.put, List.setIfInBounds_toArray, List.set_cons_zero, List.set_cons_succ]))
    refine wpGrowS_nil ?_
    have HE := Lib.hid hS.1
    clear hS hSp hbn
    generalize wn = wz at *
    go_wp2
    go_ret
    exact ⟨congrArg (fun b => Ending.returned (Value.bool b)) (by rw [HR.out]; simp [*]), HE.out⟩
  go_enter Tryz.func55, Tryz.ntmps55
  go_upto_region 1 with fail
  have hS := HS0.out
  refine wp_region_growS (S := fun W => Below w.heap.size w W ∧ CB W w.heap.size ⟨ak, ab, an, ar, aw, al, ad⟩ ∧ CB W (w.heap.size + 1) ⟨bk, bb, bn, br, bw, bl, bd⟩) [(0, true), (2, true), (1, false), (3, false), (4, false), (5, true), (6, true), (7, true), (8, true), (9, false), (10, true), (11, true)] (by kernel_rfl) (by kernel_rfl) (by kernel_rfl) (by kernel_rfl) (by intro c a d v w h; cases d <;> exact h) hS ?_
  iterate 2
    (first
      | (refine wpGrowS_float (v := ?_) (by simp only [List.getElem?_toArray, List.getElem?_cons_succ, List.getElem?_cons_zero]; rfl) (by rfl) ?_ ?_
         rotate_left
         · (intro W hW; obtain ⟨p0, p1, p2, p3, p4, p5, p6⟩ := CB.cells (hW.2.1); obtain ⟨q0, q1, q2, q3, q4, q5, q6⟩ := CB.cells (hW.2.2); (try simp only at *); go_simp; try with_reducible rfl)
         simp only [Act.put, List.setIfInBounds_toArray, List.set_cons_zero, List.set_cons_succ])
      | (refine wpGrowS_skip (by simp only [List.getElem?_toArray, List.getElem?_cons_succ, List.getElem?_cons_zero]; rfl) (by rfl) ?_
         simp only [Act.put, List.setIfInBounds_toArray, List.set_cons_zero, List.set_cons_succ]))
  refine wpGrowS_call (by simp only [List.getElem?_toArray, List.getElem?_cons_succ, List.getElem?_cons_zero]; rfl) (by rfl) fun K hK => ?_
  go_simp
  go_fit (HGA.out _)
  rintro e wn ⟨rfl, hbn⟩
  have hSp := hS
  have hS : Below w.heap.size w wn ∧ CB wn w.heap.size ⟨ak, ab, an, ar, aw, al, ad⟩ ∧ CB wn (w.heap.size + 1) ⟨bk, bb, bn, br, bw, bl, bd⟩ := ⟨beln (hS.1) hbn, CB.next (hS.2.1) hbn, CB.next (hS.2.2) hbn⟩
  go_simp
  refine hK _ _ hS ?_
  clear hK K
  try simp only [Act.put, List.setIfInBounds_toArray, List.set_cons_zero, List.set_cons_succ]
  refine wpGrowS_call (by simp only [List.getElem?_toArray, List.getElem?_cons_succ, List.getElem?_cons_zero]; rfl) (by rfl) fun K hK => ?_
  go_simp
  go_fit (HGB.out _)
  rintro e wn ⟨rfl, hbn⟩
  have hSp := hS
  have hS : Below w.heap.size w wn ∧ CB wn w.heap.size ⟨ak, ab, an, ar, aw, al, ad⟩ ∧ CB wn (w.heap.size + 1) ⟨bk, bb, bn, br, bw, bl, bd⟩ := ⟨beln (hS.1) hbn, CB.next (hS.2.1) hbn, CB.next (hS.2.2) hbn⟩
  go_simp
  refine hK _ _ hS ?_
  clear hK K
  try simp only [Act.put, List.setIfInBounds_toArray, List.set_cons_zero, List.set_cons_succ]
  refine wpGrowS_call (by simp only [List.getElem?_toArray, List.getElem?_cons_succ, List.getElem?_cons_zero]; rfl) (by rfl) fun K hK => ?_
  go_simp
  go_fit (HOV.out _)
  rintro e wn ⟨rfl, hbn⟩
  have hSp := hS
  have hS : Below w.heap.size w wn ∧ CB wn w.heap.size ⟨ak, ab, an, ar, aw, al, ad⟩ ∧ CB wn (w.heap.size + 1) ⟨bk, bb, bn, br, bw, bl, bd⟩ := ⟨beln (hS.1) hbn, CB.next (hS.2.1) hbn, CB.next (hS.2.2) hbn⟩
  go_simp
  refine hK _ _ hS ?_
  clear hK K
  try simp only [Act.put, List.setIfInBounds_toArray, List.set_cons_zero, List.set_cons_succ]
  iterate 4
    (first
      | (refine wpGrowS_float (v := ?_) (by simp only [List.getElem?_toArray, List.getElem?_cons_succ, List.getElem?_cons_zero]; rfl) (by rfl) ?_ ?_
         rotate_left
         · (intro W hW; obtain ⟨p0, p1, p2, p3, p4, p5, p6⟩ := CB.cells (hW.2.1); obtain ⟨q0, q1, q2, q3, q4, q5, q6⟩ := CB.cells (hW.2.2); (try simp only at *); go_simp; try with_reducible rfl)
         simp only [Act.put, List.setIfInBounds_toArray, List.set_cons_zero, List.set_cons_succ])
      | (refine wpGrowS_skip (by simp only [List.getElem?_toArray, List.getElem?_cons_succ, List.getElem?_cons_zero]; rfl) (by rfl) ?_
         simp only [Act.put, List.setIfInBounds_toArray, List.set_cons_zero, List.set_cons_succ]))
  refine wpGrowS_call (by simp only [List.getElem?_toArray, List.getElem?_cons_succ, List.getElem?_cons_zero]; rfl) (by rfl) fun K hK => ?_
  go_simp
  go_fit (HSM.out _)
  rintro e wn ⟨rfl, hbn⟩
  have hSp := hS
  have hS : Below w.heap.size w wn ∧ CB wn w.heap.size ⟨ak, ab, an, ar, aw, al, ad⟩ ∧ CB wn (w.heap.size + 1) ⟨bk, bb, bn, br, bw, bl, bd⟩ := ⟨beln (hS.1) hbn, CB.next (hS.2.1) hbn, CB.next (hS.2.2) hbn⟩
  go_simp
  refine hK _ _ hS ?_
  clear hK K
  try simp only [Act.put, List.setIfInBounds_toArray, List.set_cons_zero, List.set_cons_succ]
  iterate 2
    (first
      | (refine wpGrowS_float (v := ?_) (by simp only [List.getElem?_toArray, List.getElem?_cons_succ, List.getElem?_cons_zero]; rfl) (by rfl) ?_ ?_
         rotate_left
         · (intro W hW; obtain ⟨p0, p1, p2, p3, p4, p5, p6⟩ := CB.cells (hW.2.1); obtain ⟨q0, q1, q2, q3, q4, q5, q6⟩ := CB.cells (hW.2.2); (try simp only at *); go_simp; try with_reducible rfl)
         simp only [Act.put, List.setIfInBounds_toArray, List.set_cons_zero, List.set_cons_succ])
      | (refine wpGrowS_skip (by simp only [List.getElem?_toArray, List.getElem?_cons_succ, List.getElem?_cons_zero]; rfl) (by rfl) ?_
         simp only [Act.put, List.setIfInBounds_toArray, List.set_cons_zero, List.set_cons_succ]))
  refine wpGrowS_nil ?_
  clear HOV HSM
  by_cases ha1 : ak = 1
  · subst ha1
    have HS3 := Lib.hid hS
    clear hS hSp hbn
    generalize wn = w1 at *
    go_upto_region 3 with fail
    have hS := CS2.drew HS3.out
    rcases c1 with _ | _
    rotate_left
    · refine wp_region_growS (S := fun W => Below w.heap.size w W ∧ CB W w.heap.size ⟨1, ab, an, ar, aw, al, ad⟩ ∧ CB W (w.heap.size + 1) ⟨bk, bb, bn, br, bw, bl, bd⟩) [(0, true), (1, true), (2, true), (3, true), (4, true), (6, true), (5, false), (7, false), (8, false), (9, true), (10, true)] (by kernel_rfl) (by kernel_rfl) (by kernel_rfl) (by kernel_rfl) (by intro c a d v w h; cases d <;> exact h) hS ?_
      iterate 6
        (first
          | (refine wpGrowS_float (v := ?_) (by simp only [List.getElem?_toArray, List.getElem?_cons_succ, List.getElem?_cons_zero]; rfl) (by rfl) ?_ ?_
             rotate_left
             · (intro W hW; obtain ⟨p0, p1, p2, p3, p4, p5, p6⟩ := CB.cells (hW.2.1); obtain ⟨q0, q1, q2, q3, q4, q5, q6⟩ := CB.cells (hW.2.2); (try simp only at *); go_simp; try with_reducible rfl)
             simp only [Act.put, List.setIfInBounds_toArray, List.set_cons_zero, List.set_cons_succ])
          | (refine wpGrowS_skip (by simp only [List.getElem?_toArray, List.getElem?_cons_succ, List.getElem?_cons_zero]; rfl) (by rfl) ?_
             simp only [Act.put, List.setIfInBounds_toArray, List.set_cons_zero, List.set_cons_succ]))
      refine wpGrowS_call (by simp only [List.getElem?_toArray, List.getElem?_cons_succ, List.getElem?_cons_zero]; rfl) (by rfl) fun K hK => ?_
      go_simp
      go_fit (HGA.out _)
      rintro e wn ⟨rfl, hbn⟩
      have hSp := hS
      have hS : Below w.heap.size w wn ∧ CB wn w.heap.size ⟨1, ab, an, ar, aw, al, ad⟩ ∧ CB wn (w.heap.size + 1) ⟨bk, bb, bn, br, bw, bl, bd⟩ := ⟨beln (hS.1) hbn, CB.next (hS.2.1) hbn, CB.next (hS.2.2) hbn⟩
      go_simp
      refine hK _ _ hS ?_
      clear hK K
      try simp only [Act.put, List.setIfInBounds_toArray, List.set_cons_zero, List.set_cons_succ]
      refine wpGrowS_call (by simp only [List.getElem?_toArray, List.getElem?_cons_succ, List.getElem?_cons_zero]; rfl) (by rfl) fun K hK => ?_
      go_simp
      go_fit (HGB.out _)
      rintro e wn ⟨rfl, hbn⟩
      have hSp := hS
      have hS : Below w.heap.size w wn ∧ CB wn w.heap.size ⟨1, ab, an, ar, aw, al, ad⟩ ∧ CB wn (w.heap.size + 1) ⟨bk, bb, bn, br, bw, bl, bd⟩ := ⟨beln (hS.1) hbn, CB.next (hS.2.1) hbn, CB.next (hS.2.2) hbn⟩
      go_simp
      refine hK _ _ hS ?_
      clear hK K
      try simp only [Act.put, List.setIfInBounds_toArray, List.set_cons_zero, List.set_cons_succ]
      refine wpGrowS_call (by simp only [List.getElem?_toArray, List.getElem?_cons_succ, List.getElem?_cons_zero]; rfl) (by rfl) fun K hK => ?_
      go_simp
      go_fit (HC1.out _)
      rintro e wn ⟨rfl, hbn⟩
      have hSp := hS
      have hS : Below w.heap.size w wn ∧ CB wn w.heap.size ⟨1, ab, an, ar, aw, al, ad⟩ ∧ CB wn (w.heap.size + 1) ⟨bk, bb, bn, br, bw, bl, bd⟩ := ⟨beln (hS.1) hbn, CB.next (hS.2.1) hbn, CB.next (hS.2.2) hbn⟩
      go_simp
      refine hK _ _ hS ?_
      clear hK K
      try simp only [Act.put, List.setIfInBounds_toArray, List.set_cons_zero, List.set_cons_succ]
      iterate 2
        (first
          | (refine wpGrowS_float (v := ?_) (by simp only [List.getElem?_toArray, List.getElem?_cons_succ, List.getElem?_cons_zero]; rfl) (by rfl) ?_ ?_
             rotate_left
             · (intro W hW; obtain ⟨p0, p1, p2, p3, p4, p5, p6⟩ := CB.cells (hW.2.1); obtain ⟨q0, q1, q2, q3, q4, q5, q6⟩ := CB.cells (hW.2.2); (try simp only at *); go_simp; try with_reducible rfl)
             simp only [Act.put, List.setIfInBounds_toArray, List.set_cons_zero, List.set_cons_succ])
          | (refine wpGrowS_skip (by simp only [List.getElem?_toArray, List.getElem?_cons_succ, List.getElem?_cons_zero]; rfl) (by rfl) ?_
             simp only [Act.put, List.setIfInBounds_toArray, List.set_cons_zero, List.set_cons_succ]))
      refine wpGrowS_nil ?_
      have HE := Lib.hid hS.1
      clear hS hSp hbn
      generalize wn = wz at *
      go_wp2
      go_ret
      exact ⟨congrArg (fun b => Ending.returned (Value.bool b)) (by rw [HR.out]; simp [*]), HE.out⟩
    refine wp_region_growS (S := fun W => Below w.heap.size w W ∧ CB W w.heap.size ⟨1, ab, an, ar, aw, al, ad⟩ ∧ CB W (w.heap.size + 1) ⟨bk, bb, bn, br, bw, bl, bd⟩) [(0, true), (1, true), (2, true), (3, true), (4, true), (6, true), (5, false), (7, false), (8, false), (9, true), (10, true)] (by kernel_rfl) (by kernel_rfl) (by kernel_rfl) (by kernel_rfl) (by intro c a d v w h; cases d <;> exact h) hS ?_
    iterate 6
      (first
        | (refine wpGrowS_float (v := ?_) (by simp only [List.getElem?_toArray, List.getElem?_cons_succ, List.getElem?_cons_zero]; rfl) (by rfl) ?_ ?_
           rotate_left
           · (intro W hW; obtain ⟨p0, p1, p2, p3, p4, p5, p6⟩ := CB.cells (hW.2.1); obtain ⟨q0, q1, q2, q3, q4, q5, q6⟩ := CB.cells (hW.2.2); (try simp only at *); go_simp; try with_reducible rfl)
           simp only [Act.put, List.setIfInBounds_toArray, List.set_cons_zero, List.set_cons_succ])
        | (refine wpGrowS_skip (by simp only [List.getElem?_toArray, List.getElem?_cons_succ, List.getElem?_cons_zero]; rfl) (by rfl) ?_
           simp only [Act.put, List.setIfInBounds_toArray, List.set_cons_zero, List.set_cons_succ]))
    refine wpGrowS_call (by simp only [List.getElem?_toArray, List.getElem?_cons_succ, List.getElem?_cons_zero]; rfl) (by rfl) fun K hK => ?_
    go_simp
    go_fit (HGA.out _)
    rintro e wn ⟨rfl, hbn⟩
    have hSp := hS
    have hS : Below w.heap.size w wn ∧ CB wn w.heap.size ⟨1, ab, an, ar, aw, al, ad⟩ ∧ CB wn (w.heap.size + 1) ⟨bk, bb, bn, br, bw, bl, bd⟩ := ⟨beln (hS.1) hbn, CB.next (hS.2.1) hbn, CB.next (hS.2.2) hbn⟩
    go_simp
    refine hK _ _ hS ?_
    clear hK K
    try simp only [Act.put, List.setIfInBounds_toArray, List.set_cons_zero, List.set_cons_succ]
    refine wpGrowS_call (by simp only [List.getElem?_toArray, List.getElem?_cons_succ, List.getElem?_cons_zero]; rfl) (by rfl) fun K hK => ?_
    go_simp
    go_fit (HGB.out _)
    rintro e wn ⟨rfl, hbn⟩
    have hSp := hS
    have hS : Below w.heap.size w wn ∧ CB wn w.heap.size ⟨1, ab, an, ar, aw, al, ad⟩ ∧ CB wn (w.heap.size + 1) ⟨bk, bb, bn, br, bw, bl, bd⟩ := ⟨beln (hS.1) hbn, CB.next (hS.2.1) hbn, CB.next (hS.2.2) hbn⟩
    go_simp
    refine hK _ _ hS ?_
    clear hK K
    try simp only [Act.put, List.setIfInBounds_toArray, List.set_cons_zero, List.set_cons_succ]
    refine wpGrowS_call (by simp only [List.getElem?_toArray, List.getElem?_cons_succ, List.getElem?_cons_zero]; rfl) (by rfl) fun K hK => ?_
    go_simp
    go_fit (HC1.out _)
    rintro e wn ⟨rfl, hbn⟩
    have hSp := hS
    have hS : Below w.heap.size w wn ∧ CB wn w.heap.size ⟨1, ab, an, ar, aw, al, ad⟩ ∧ CB wn (w.heap.size + 1) ⟨bk, bb, bn, br, bw, bl, bd⟩ := ⟨beln (hS.1) hbn, CB.next (hS.2.1) hbn, CB.next (hS.2.2) hbn⟩
    go_simp
    refine hK _ _ hS ?_
    clear hK K
    try simp only [Act.put, List.setIfInBounds_toArray, List.set_cons_zero, List.set_cons_succ]
    iterate 2
      (first
        | (refine wpGrowS_float (v := ?_) (by simp only [List.getElem?_toArray, List.getElem?_cons_succ, List.getElem?_cons_zero]; rfl) (by rfl) ?_ ?_
           rotate_left
           · (intro W hW; obtain ⟨p0, p1, p2, p3, p4, p5, p6⟩ := CB.cells (hW.2.1); obtain ⟨q0, q1, q2, q3, q4, q5, q6⟩ := CB.cells (hW.2.2); (try simp only at *); go_simp; try with_reducible rfl)
           simp only [Act.put, List.setIfInBounds_toArray, List.set_cons_zero, List.set_cons_succ])
        | (refine wpGrowS_skip (by simp only [List.getElem?_toArray, List.getElem?_cons_succ, List.getElem?_cons_zero]; rfl) (by rfl) ?_
           simp only [Act.put, List.setIfInBounds_toArray, List.set_cons_zero, List.set_cons_succ]))
    refine wpGrowS_nil ?_
    have HS5 := Lib.hid hS
    clear hS hSp hbn
    generalize wn = w2 at *
    go_upto_region 5 with fail
    have hS := CS2.drew HS5.out
    by_cases hb1 : bk = 1
    · subst hb1
      refine wp_region_growS (S := fun W => Below w.heap.size w W ∧ CB W w.heap.size ⟨1, ab, an, ar, aw, al, ad⟩ ∧ CB W (w.heap.size + 1) ⟨1, bb, bn, br, bw, bl, bd⟩) [(0, true), (1, true), (2, true), (3, true), (4, true), (6, true), (5, false), (7, false), (8, false), (9, true), (10, true)] (by kernel_rfl) (by kernel_rfl) (by kernel_rfl) (by kernel_rfl) (by intro c a d v w h; cases d <;> exact h) hS ?_
      iterate 6
        (first
          | (refine wpGrowS_float (v := ?_) (by simp only [List.getElem?_toArray, List.getElem?_cons_succ, List.getElem?_cons_zero]; rfl) (by rfl) ?_ ?_
             rotate_left
             · (intro W hW; obtain ⟨p0, p1, p2, p3, p4, p5, p6⟩ := CB.cells (hW.2.1); obtain ⟨q0, q1, q2, q3, q4, q5, q6⟩ := CB.cells (hW.2.2); (try simp only at *); go_simp; try with_reducible rfl)
             simp only [Act.put, List.setIfInBounds_toArray, List.set_cons_zero, List.set_cons_succ])
          | (refine wpGrowS_skip (by simp only [List.getElem?_toArray, List.getElem?_cons_succ, List.getElem?_cons_zero]; rfl) (by rfl) ?_
             simp only [Act.put, List.setIfInBounds_toArray, List.set_cons_zero, List.set_cons_succ]))
      refine wpGrowS_call (by simp only [List.getElem?_toArray, List.getElem?_cons_succ, List.getElem?_cons_zero]; rfl) (by rfl) fun K hK => ?_
      go_simp
      go_fit (HGB.out _)
      rintro e wn ⟨rfl, hbn⟩
      have hSp := hS
      have hS : Below w.heap.size w wn ∧ CB wn w.heap.size ⟨1, ab, an, ar, aw, al, ad⟩ ∧ CB wn (w.heap.size + 1) ⟨1, bb, bn, br, bw, bl, bd⟩ := ⟨beln (hS.1) hbn, CB.next (hS.2.1) hbn, CB.next (hS.2.2) hbn⟩
      go_simp
      refine hK _ _ hS ?_
      clear hK K
      try simp only [Act.put, List.setIfInBounds_toArray, List.set_cons_zero, List.set_cons_succ]
      refine wpGrowS_call (by simp only [List.getElem?_toArray, List.getElem?_cons_succ, List.getElem?_cons_zero]; rfl) (by rfl) fun K hK => ?_
      go_simp
      go_fit (HGA.out _)
      rintro e wn ⟨rfl, hbn⟩
      have hSp := hS
      have hS : Below w.heap.size w wn ∧ CB wn w.heap.size ⟨1, ab, an, ar, aw, al, ad⟩ ∧ CB wn (w.heap.size + 1) ⟨1, bb, bn, br, bw, bl, bd⟩ := ⟨beln (hS.1) hbn, CB.next (hS.2.1) hbn, CB.next (hS.2.2) hbn⟩
      go_simp
      refine hK _ _ hS ?_
      clear hK K
      try simp only [Act.put, List.setIfInBounds_toArray, List.set_cons_zero, List.set_cons_succ]
      refine wpGrowS_call (by simp only [List.getElem?_toArray, List.getElem?_cons_succ, List.getElem?_cons_zero]; rfl) (by rfl) fun K hK => ?_
      go_simp
      go_fit (HC2.out _)
      rintro e wn ⟨rfl, hbn⟩
      have hSp := hS
      have hS : Below w.heap.size w wn ∧ CB wn w.heap.size ⟨1, ab, an, ar, aw, al, ad⟩ ∧ CB wn (w.heap.size + 1) ⟨1, bb, bn, br, bw, bl, bd⟩ := ⟨beln (hS.1) hbn, CB.next (hS.2.1) hbn, CB.next (hS.2.2) hbn⟩
      go_simp
      refine hK _ _ hS ?_
      clear hK K
      try simp only [Act.put, List.setIfInBounds_toArray, List.set_cons_zero, List.set_cons_succ]
      iterate 2
        (first
          | (refine wpGrowS_float (v := ?_) (by simp only [List.getElem?_toArray, List.getElem?_cons_succ, List.getElem?_cons_zero]; rfl) (by rfl) ?_ ?_
             rotate_left
             · (intro W hW; obtain ⟨p0, p1, p2, p3, p4, p5, p6⟩ := CB.cells (hW.2.1); obtain ⟨q0, q1, q2, q3, q4, q5, q6⟩ := CB.cells (hW.2.2); (try simp only at *); go_simp; try with_reducible rfl)
             simp only [Act.put, List.setIfInBounds_toArray, List.set_cons_zero, List.set_cons_succ])
          | (refine wpGrowS_skip (by simp only [List.getElem?_toArray, List.getElem?_cons_succ, List.getElem?_cons_zero]; rfl) (by rfl) ?_
             simp only [Act.put, List.setIfInBounds_toArray, List.set_cons_zero, List.set_cons_succ]))
      refine wpGrowS_nil ?_
      have HE := Lib.hid hS.1
      clear hS hSp hbn
      generalize wn = wz at *
      go_wp2
      go_ret
      exact ⟨congrArg (fun b => Ending.returned (Value.bool b)) (by rw [HR.out]; simp [*]), HE.out⟩
    · have fb1 : (bk == 1) = false := beq_eq_false_iff_ne.2 hb1
      refine wp_region_growS (S := fun W => Below w.heap.size w W ∧ CB W w.heap.size ⟨1, ab, an, ar, aw, al, ad⟩ ∧ CB W (w.heap.size + 1) ⟨bk, bb, bn, br, bw, bl, bd⟩) [(0, true), (1, true), (2, true), (3, true), (4, true), (6, true), (5, false), (7, false), (8, false), (9, true), (10, true)] (by kernel_rfl) (by kernel_rfl) (by kernel_rfl) (by kernel_rfl) (by intro c a d v w h; cases d <;> exact h) hS ?_
      iterate 6
        (first
          | (refine wpGrowS_float (v := ?_) (by simp only [List.getElem?_toArray, List.getElem?_cons_succ, List.getElem?_cons_zero]; rfl) (by rfl) ?_ ?_
             rotate_left
             · (intro W hW; obtain ⟨p0, p1, p2, p3, p4, p5, p6⟩ := CB.cells (hW.2.1); obtain ⟨q0, q1, q2, q3, q4, q5, q6⟩ := CB.cells (hW.2.2); (try simp only at *); go_simp; try with_reducible rfl)
             simp only [Act.put, List.setIfInBounds_toArray, List.set_cons_zero, List.set_cons_succ])
          | (refine wpGrowS_skip (by simp only [List.getElem?_toArray, List.getElem?_cons_succ, List.getElem?_cons_zero]; rfl) (by rfl) ?_
             simp only [Act.put, List.setIfInBounds_toArray, List.set_cons_zero, List.set_cons_succ]))
      refine wpGrowS_pass hS (by simp only [List.getElem?_toArray, List.getElem?_cons_succ, List.getElem?_cons_zero]; rfl) (by rfl) ?_
      try simp only [Act.put, List.setIfInBounds_toArray, List.set_cons_zero, List.set_cons_succ]
      refine wpGrowS_pass hS (by simp only [List.getElem?_toArray, List.getElem?_cons_succ, List.getElem?_cons_zero]; rfl) (by rfl) ?_
      try simp only [Act.put, List.setIfInBounds_toArray, List.set_cons_zero, List.set_cons_succ]
      refine wpGrowS_pass hS (by simp only [List.getElem?_toArray, List.getElem?_cons_succ, List.getElem?_cons_zero]; rfl) (by rfl) ?_
      try simp only [Act.put, List.setIfInBounds_toArray, List.set_cons_zero, List.set_cons_succ]
      iterate 2
        (first
          | (refine wpGrowS_float (v := ?_) (by simp only [List.getElem?_toArray, List.getElem?_cons_succ, List.getElem?_cons_zero]; rfl) (by rfl) ?_ ?_
             rotate_left
             · (intro W hW; obtain ⟨p0, p1, p2, p3, p4, p5, p6⟩ := CB.cells (hW.2.1); obtain ⟨q0, q1, q2, q3, q4, q5, q6⟩ := CB.cells (hW.2.2); (try simp only at *); go_simp; try with_reducible rfl)
             simp only [Act.put, List.setIfInBounds_toArray, List.set_cons_zero, List.set_cons_succ])
          | (refine wpGrowS_skip (by simp only [List.getElem?_toArray, List.getElem?_cons_succ, List.getElem?_cons_zero]; rfl) (by rfl) ?_
             simp only [Act.put, List.setIfInBounds_toArray, List.set_cons_zero, List.set_cons_succ]))
      refine wpGrowS_nil ?_
      have HE := Lib.hid hS.1
      clear hS
      go_wp2
      go_ret
      exact ⟨congrArg (fun b => Ending.returned (Value.bool b)) (by rw [HR.out]; simp [*]), HE.out⟩
  · have fa1 : (ak == 1) = false := beq_eq_false_iff_ne.2 ha1
    have HS3 := Lib.hid hS
    clear hS hSp hbn
    generalize wn = w1 at *
    go_upto_region 3 with fail
    have hS := CS2.drew HS3.out
    refine wp_region_growS (S := fun W => Below w.heap.size w W ∧ CB W w.heap.size ⟨ak, ab, an, ar, aw, al, ad⟩ ∧ CB W (w.heap.size + 1) ⟨bk, bb, bn, br, bw, bl, bd⟩) [(0, true), (1, true), (2, true), (3, true), (4, true), (6, true), (5, false), (7, false), (8, false), (9, true), (10, true)] (by kernel_rfl) (by kernel_rfl) (by kernel_rfl) (by kernel_rfl) (by intro c a d v w h; cases d <;> exact h) hS ?_
    iterate 6
      (first
        | (refine wpGrowS_float (v := ?_) (by simp only [List.getElem?_toArray, List.getElem?_cons_succ, List.getElem?_cons_zero]; rfl) (by rfl) ?_ ?_
           rotate_left
           · (intro W hW; obtain ⟨p0, p1, p2, p3, p4, p5, p6⟩ := CB.cells (hW.2.1); obtain ⟨q0, q1, q2, q3, q4, q5, q6⟩ := CB.cells (hW.2.2); (try simp only at *); go_simp; try with_reducible rfl)
           simp only [Act.put, List.setIfInBounds_toArray, List.set_cons_zero, List.set_cons_succ])
        | (refine wpGrowS_skip (by simp only [List.getElem?_toArray, List.getElem?_cons_succ, List.getElem?_cons_zero]; rfl) (by rfl) ?_
           simp only [Act.put, List.setIfInBounds_toArray, List.set_cons_zero, List.set_cons_succ]))
    refine wpGrowS_pass hS (by simp only [List.getElem?_toArray, List.getElem?_cons_succ, List.getElem?_cons_zero]; rfl) (by rfl) ?_
    try simp only [Act.put, List.setIfInBounds_toArray, List.set_cons_zero, List.set_cons_succ]
    refine wpGrowS_pass hS (by simp only [List.getElem?_toArray, List.getElem?_cons_succ, List.getElem?_cons_zero]; rfl) (by rfl) ?_
    try simp only [Act.put, List.setIfInBounds_toArray, List.set_cons_zero, List.set_cons_succ]
    refine wpGrowS_pass hS (by simp only [List.getElem?_toArray, List.getElem?_cons_succ, List.getElem?_cons_zero]; rfl) (by rfl) ?_
    try simp only [Act.put, List.setIfInBounds_toArray, List.set_cons_zero, List.set_cons_succ]
    iterate 2
      (first
        | (refine wpGrowS_float (v := ?_) (by simp only [List.getElem?_toArray, List.getElem?_cons_succ, List.getElem?_cons_zero]; rfl) (by rfl) ?_ ?_
           rotate_left
           · (intro W hW; obtain ⟨p0, p1, p2, p3, p4, p5, p6⟩ := CB.cells (hW.2.1); obtain ⟨q0, q1, q2, q3, q4, q5, q6⟩ := CB.cells (hW.2.2); (try simp only at *); go_simp; try with_reducible rfl)
           simp only [Act.put, List.setIfInBounds_toArray, List.set_cons_zero, List.set_cons_succ])
        | (refine wpGrowS_skip (by simp only [List.getElem?_toArray, List.getElem?_cons_succ, List.getElem?_cons_zero]; rfl) (by rfl) ?_
           simp only [Act.put, List.setIfInBounds_toArray, List.set_cons_zero, List.set_cons_succ]))
    refine wpGrowS_nil ?_
    have HS5 := Lib.hid hS
    clear hS
    go_upto_region 5 with fail
    have hS := CS2.drew HS5.out
    by_cases hb1 : bk = 1
    · subst hb1
      refine wp_region_growS (S := fun W => Below w.heap.size w W ∧ CB W w.heap.size ⟨ak, ab, an, ar, aw, al, ad⟩ ∧ CB W (w.heap.size + 1) ⟨1, bb, bn, br, bw, bl, bd⟩) [(0, true), (1, true), (2, true), (3, true), (4, true), (6, true), (5, false), (7, false), (8, false), (9, true), (10, true)] (by kernel_rfl) (by kernel_rfl) (by kernel_rfl) (by kernel_rfl) (by intro c a d v w h; cases d <;> exact h) hS ?_
      iterate 6
        (first
          | (refine wpGrowS_float (v := ?_) (by simp only [List.getElem?_toArray, List.getElem?_cons_succ, List.getElem?_cons_zero]; rfl) (by rfl) ?_ ?_
             rotate_left
             · (intro W hW; obtain ⟨p0, p1, p2, p3, p4, p5, p6⟩ := CB.cells (hW.2.1); obtain ⟨q0, q1, q2, q3, q4, q5, q6⟩ := CB.cells (hW.2.2); (try simp only at *); go_simp; try with_reducible rfl)
             simp only [Act.put, List.setIfInBounds_toArray, List.set_cons_zero, List.set_cons_succ])
          | (refine wpGrowS_skip (by simp only [List.getElem?_toArray, List.getElem?_cons_succ, List.getElem?_cons_zero]; rfl) (by rfl) ?_
             simp only [Act.put, List.setIfInBounds_toArray, List.set_cons_zero, List.set_cons_succ]))
      refine wpGrowS_call (by simp only [List.getElem?_toArray, List.getElem?_cons_succ, List.getElem?_cons_zero]; rfl) (by rfl) fun K hK => ?_
      go_simp
      go_fit (HGB.out _)
      rintro e wn ⟨rfl, hbn⟩
      have hSp := hS
      have hS : Below w.heap.size w wn ∧ CB wn w.heap.size ⟨ak, ab, an, ar, aw, al, ad⟩ ∧ CB wn (w.heap.size + 1) ⟨1, bb, bn, br, bw, bl, bd⟩ := ⟨beln (hS.1) hbn, CB.next (hS.2.1) hbn, CB.next (hS.2.2) hbn⟩
      go_simp
      refine hK _ _ hS ?_
      clear hK K
      try simp only [Act.put, List.setIfInBounds_toArray, List.set_cons_zero, List.set_cons_succ]
      refine wpGrowS_call (by simp only [List.getElem?_toArray, List.getElem?_cons_succ, List.getElem?_cons_zero]; rfl) (by rfl) fun K hK => ?_
      go_simp
      go_fit (HGA.out _)
      rintro e wn ⟨rfl, hbn⟩
      have hSp := hS
      have hS : Below w.heap.size w wn ∧ CB wn w.heap.size ⟨ak, ab, an, ar, aw, al, ad⟩ ∧ CB wn (w.heap.size + 1) ⟨1, bb, bn, br, bw, bl, bd⟩ := ⟨beln (hS.1) hbn, CB.next (hS.2.1) hbn, CB.next (hS.2.2) hbn⟩
      go_simp
      refine hK _ _ hS ?_
      clear hK K
      try simp only [Act.put, List.setIfInBounds_toArray, List.set_cons_zero, List.set_cons_succ]
      refine wpGrowS_call (by simp only [List.getElem?_toArray, List.getElem?_cons_succ, List.getElem?_cons_zero]; rfl) (by rfl) fun K hK => ?_
      go_simp
      go_fit (HC2.out _)
      rintro e wn ⟨rfl, hbn⟩
      have hSp := hS
      have hS : Below w.heap.size w wn ∧ CB wn w.heap.size ⟨ak, ab, an, ar, aw, al, ad⟩ ∧ CB wn (w.heap.size + 1) ⟨1, bb, bn, br, bw, bl, bd⟩ := ⟨beln (hS.1) hbn, CB.next (hS.2.1) hbn, CB.next (hS.2.2) hbn⟩
      go_simp
      refine hK _ _ hS ?_
      clear hK K
      try simp only [Act.put, List.setIfInBounds_toArray, List.set_cons_zero, List.set_cons_succ]
      iterate 2
        (first
          | (refine wpGrowS_float (v := ?_) (by simp only [List.getElem?_toArray, List.getElem?_cons_succ, List.getElem?_cons_zero]; rfl) (by rfl) ?_ ?_
             rotate_left
             · (intro W hW; obtain ⟨p0, p1, p2, p3, p4, p5, p6⟩ := CB.cells (hW.2.1); obtain ⟨q0, q1, q2, q3, q4, q5, q6⟩ := CB.cells (hW.2.2); (try simp only at *); go_simp; try with_reducible rfl)
             simp only [Act.put, List.setIfInBounds_toArray, List.set_cons_zero, List.set_cons_succ])
          | (refine wpGrowS_skip (by simp only [List.getElem?_toArray, List.getElem?_cons_succ, List.getElem?_cons_zero]; rfl) (by rfl) ?_
             simp only [Act.put, List.setIfInBounds_toArray, List.set_cons_zero, List.set_cons_succ]))
      refine wpGrowS_nil ?_
      have HE := Lib.hid hS.1
      clear hS hSp hbn
      generalize wn = wz at *
      go_wp2
      go_ret
      exact ⟨congrArg (fun b => Ending.returned (Value.bool b)) (by rw [HR.out]; simp [*]), HE.out⟩
    · have fb1 : (bk == 1) = false := beq_eq_false_iff_ne.2 hb1
      refine wp_region_growS (S := fun W => Below w.heap.size w W ∧ CB W w.heap.size ⟨ak, ab, an, ar, aw, al, ad⟩ ∧ CB W (w.heap.size + 1) ⟨bk, bb, bn, br, bw, bl, bd⟩) [(0, true), (1, true), (2, true), (3, true), (4, true), (6, true), (5, false), (7, false), (8, false), (9, true), (10, true)] (by kernel_rfl) (by kernel_rfl) (by kernel_rfl) (by kernel_rfl) (by intro c a d v w h; cases d <;> exact h) hS ?_
      iterate 6
        (first
          | (refine wpGrowS_float (v := ?_) (by simp only [List.getElem?_toArray, List.getElem?_cons_succ, List.getElem?_cons_zero]; rfl) (by rfl) ?_ ?_
             rotate_left
             · (intro W hW; obtain ⟨p0, p1, p2, p3, p4, p5, p6⟩ := CB.cells (hW.2.1); obtain ⟨q0, q1, q2, q3, q4, q5, q6⟩ := CB.cells (hW.2.2); (try simp only at *); go_simp; try with_reducible rfl)
             simp only [Act.put, List.setIfInBounds_toArray, List.set_cons_zero, List.set_cons_succ])
          | (refine wpGrowS_skip (by simp only [List.getElem?_toArray, List.getElem?_cons_succ, List.getElem?_cons_zero]; rfl) (by rfl) ?_
             simp only [Act.put, List.setIfInBounds_toArray, List.set_cons_zero, List.set_cons_succ]))
      refine wpGrowS_pass hS (by simp only [List.getElem?_toArray, List.getElem?_cons_succ, List.getElem?_cons_zero]; rfl) (by rfl) ?_
      try simp only [Act.put, List.setIfInBounds_toArray, List.set_cons_zero, List.set_cons_succ]
      refine wpGrowS_pass hS (by simp only [List.getElem?_toArray, List.getElem?_cons_succ, List.getElem?_cons_zero]; rfl) (by rfl) ?_
      try simp only [Act.put, List.setIfInBounds_toArray, List.set_cons_zero, List.set_cons_succ]
      refine wpGrowS_pass hS (by simp only [List.getElem?_toArray, List.getElem?_cons_succ, List.getElem?_cons_zero]; rfl) (by rfl) ?_
      try simp only [Act.put, List.setIfInBounds_toArray, List.set_cons_zero, List.set_cons_succ]
      iterate 2
        (first
          | (refine wpGrowS_float (v := ?_) (by simp only [List.getElem?_toArray, List.getElem?_cons_succ, List.getElem?_cons_zero]; rfl) (by rfl) ?_ ?_
             rotate_left
             · (intro W hW; obtain ⟨p0, p1, p2, p3, p4, p5, p6⟩ := CB.cells (hW.2.1); obtain ⟨q0, q1, q2, q3, q4, q5, q6⟩ := CB.cells (hW.2.2); (try simp only at *); go_simp; try with_reducible rfl)
             simp only [Act.put, List.setIfInBounds_toArray, List.set_cons_zero, List.set_cons_succ])
          | (refine wpGrowS_skip (by simp only [List.getElem?_toArray, List.getElem?_cons_succ, List.getElem?_cons_zero]; rfl) (by rfl) ?_
             simp only [Act.put, List.setIfInBounds_toArray, List.set_cons_zero, List.set_cons_succ]))
      refine wpGrowS_nil ?_
      have HE := Lib.hid hS.1
      clear hS
      go_wp2
      go_ret
      exact ⟨congrArg (fun b => Ending.returned (Value.bool b)) (by rw [HR.out]; simp [*]), HE.out⟩
end Go.Proofs.YtndppbfdcceflaaGreatDoor


namespace Go.Proofs.YtndppbfdcceflaaGreatDoor

open Go.RowKit

def holB (a b : GC) : Bool := decide (a.kind = 1) && conR a.rng b.rng
set_option maxRecDepth 20000 in
set_option maxHeartbeats 4000000 in
theorem pHol_any (a b : GC) (w : World) : Calls Tryz.prog 123 #[a.val, b.val] w fun e w' => e = .returned (.bool (holB a b)) ∧ Below w.heap.size w w' := by
  have HGA := Lib.hid fun W => pRng_any a W
  have HGB := Lib.hid fun W => pRng_any b W
  have HC1 := Lib.hid fun W => pCon_any a.rng b.rng W
  have HR : Hid (holB a b = (decide (a.kind = 1) && conR a.rng b.rng)) := Lib.hid rfl
  have HS0 := Lib.hid (CS2.drew (CS2.mk w a b))
  generalize holB a b = q at *
  generalize conR a.rng b.rng = c1 at *
  generalize a.rng = ga at *
  generalize b.rng = gb at *
  obtain ⟨gab, gan⟩ := ga
  obtain ⟨gbb, gbn⟩ := gb
  obtain ⟨ak, ab, an, ar, aw, al, ad⟩ := a
  obtain ⟨bk, bb, bn, br, bw, bl, bd⟩ := b
  simp only [GC.val, GR.val, GC.cells] at *
  by_cases ha1 : ak = 1
  · subst ha1
    go_enter Tryz.func123, Tryz.ntmps123
    go_upto_region 1 with fail
    have hS := HS0.out
    refine wp_region_growS (S := fun W => Below w.heap.size w W ∧ CB W w.heap.size ⟨1, ab, an, ar, aw, al, ad⟩ ∧ CB W (w.heap.size + 1) ⟨bk, bb, bn, br, bw, bl, bd⟩) [(0, true), (1, true), (2, true), (3, true), (4, true), (6, true), (5, false), (7, false), (8, false), (9, true), (10, true)] (by kernel_rfl) (by kernel_rfl) (by kernel_rfl) (by kernel_rfl) (by intro c a d v w h; cases d <;> exact h) hS ?_
    iterate 6
      (first
        | (refine wpGrowS_float (v := ?_) (by simp only [List.getElem?_toArray, List.getElem?_cons_succ, List.getElem?_cons_zero]; rfl) (by rfl) ?_ ?_
           rotate_left
           · (intro W hW; obtain ⟨p0, p1, p2, p3, p4, p5, p6⟩ := CB.cells (hW.2.1); obtain ⟨q0, q1, q2, q3, q4, q5, q6⟩ := CB.cells (hW.2.2); (try simp only at *); go_simp; try with_reducible rfl)
           simp only [Act.put, List.setIfInBounds_toArray, List.set_cons_zero, List.set_cons_succ])
        | (refine wpGrowS_skip (by simp only [List.getElem?_toArray, List.getElem?_cons_succ, List.getElem?_cons_zero]; rfl) (by rfl) ?_
           simp only [Act.put, List.setIfInBounds_toArray, List.set_cons_zero, List.set_cons_succ]))
    refine wpGrowS_call (by simp only [List.getElem?_toArray, List.getElem?_cons_succ, List.getElem?_cons_zero]; rfl) (by rfl) fun K hK => ?_
    go_simp
    go_fit (HGA.out _)
    rintro e wn ⟨rfl, hbn⟩
    have hSp := hS
    have hS : Below w.heap.size w wn ∧ CB wn w.heap.size ⟨1, ab, an, ar, aw, al, ad⟩ ∧ CB wn (w.heap.size + 1) ⟨bk, bb, bn, br, bw, bl, bd⟩ := ⟨beln (hS.1) hbn, CB.next (hS.2.1) hbn, CB.next (hS.2.2) hbn⟩
    go_simp
    refine hK _ _ hS ?_
    clear hK K
    try simp only [Act.put, List.setIfInBounds_toArray, List.set_cons_zero, List.set_cons_succ]
    refine wpGrowS_call (by simp only [List.getElem?_toArray, List.getElem?_cons_succ, List.getElem?_cons_zero]; rfl) (by rfl) fun K hK => ?_
    go_simp
    go_fit (HGB.out _)
    rintro e wn ⟨rfl, hbn⟩
    have hSp := hS
    have hS : Below w.heap.size w wn ∧ CB wn w.heap.size ⟨1, ab, an, ar, aw, al, ad⟩ ∧ CB wn (w.heap.size + 1) ⟨bk, bb, bn, br, bw, bl, bd⟩ := ⟨beln (hS.1) hbn, CB.next (hS.2.1) hbn, CB.next (hS.2.2) hbn⟩
    go_simp
    refine hK _ _ hS ?_
    clear hK K
    try simp only [Act.put, List.setIfInBounds_toArray, List.set_cons_zero, List.set_cons_succ]
    refine wpGrowS_call (by simp only [List.getElem?_toArray, List.getElem?_cons_succ, List.getElem?_cons_zero]; rfl) (by rfl) fun K hK => ?_
    go_simp
    go_fit (HC1.out _)
    rintro e wn ⟨rfl, hbn⟩
    have hSp := hS
    have hS : Below w.heap.size w wn ∧ CB wn w.heap.size ⟨1, ab, an, ar, aw, al, ad⟩ ∧ CB wn (w.heap.size + 1) ⟨bk, bb, bn, br, bw, bl, bd⟩ := ⟨beln (hS.1) hbn, CB.next (hS.2.1) hbn, CB.next (hS.2.2) hbn⟩
    go_simp
    refine hK _ _ hS ?_
    clear hK K
    try simp only [Act.put, List.setIfInBounds_toArray, List.set_cons_zero, List.set_cons_succ]
    iterate 2
      (first
        | (refine wpGrowS_float (v := ?_) (by simp only [List.getElem?_toArray, List.getElem?_cons_succ, List.getElem?_cons_zero]; rfl) (by rfl) ?_ ?_
           rotate_left
           · (intro W hW; obtain ⟨p0, p1, p2, p3, p4, p5, p6⟩ := CB.cells (hW.2.1); obtain ⟨q0, q1, q2, q3, q4, q5, q6⟩ := CB.cells (hW.2.2); (try simp only at *); go_simp; try with_reducible rfl)
           simp only [Act.put, List.setIfInBounds_toArray, List.set_cons_zero, List.set_cons_succ])
        | (refine wpGrowS_skip (by simp only [List.getElem?_toArray, List.getElem?_cons_succ, List.getElem?_cons_zero]; rfl) (by rfl) ?_
           simp only [Act.put, List.setIfInBounds_toArray, List.set_cons_zero, List.set_cons_succ]))
    refine wpGrowS_nil ?_
    have HE := Lib.hid hS.1
    clear hS hSp hbn
    generalize wn = wz at *
    go_wp2
    go_ret
    exact ⟨congrArg (fun b => Ending.returned (Value.bool b)) (by rw [HR.out]; simp [*]), HE.out⟩
  · have fa1 : (ak == 1) = false := beq_eq_false_iff_ne.2 ha1
    go_enter Tryz.func123, Tryz.ntmps123
    go_upto_region 1 with fail
    have hS := HS0.out
    refine wp_region_growS (S := fun W => Below w.heap.size w W ∧ CB W w.heap.size ⟨ak, ab, an, ar, aw, al, ad⟩ ∧ CB W (w.heap.size + 1) ⟨bk, bb, bn, br, bw, bl, bd⟩) [(0, true), (1, true), (2, true), (3, true), (4, true), (6, true), (5, false), (7, false), (8, false), (9, true), (10, true)] (by kernel_rfl) (by kernel_rfl) (by kernel_rfl) (by kernel_rfl) (by intro c a d v w h; cases d <;> exact h) hS ?_
    iterate 6
      (first
        | (refine wpGrowS_float (v := ?_) (by simp only [List.getElem?_toArray, List.getElem?_cons_succ, List.getElem?_cons_zero]; rfl) (by rfl) ?_ ?_
           rotate_left
           · (intro W hW; obtain ⟨p0, p1, p2, p3, p4, p5, p6⟩ := CB.cells (hW.2.1); obtain ⟨q0, q1, q2, q3, q4, q5, q6⟩ := CB.cells (hW.2.2); (try simp only at *); go_simp; try with_reducible rfl)
           simp only [Act.put, List.setIfInBounds_toArray, List.set_cons_zero, List.set_cons_succ])
        | (refine wpGrowS_skip (by simp only [List.getElem?_toArray, List.getElem?_cons_succ, List.getElem?_cons_zero]; rfl) (by rfl) ?_
           simp only [Act.put, List.setIfInBounds_toArray, List.set_cons_zero, List.set_cons_succ]))
    refine wpGrowS_pass hS (by simp only [List.getElem?_toArray, List.getElem?_cons_succ, List.getElem?_cons_zero]; rfl) (by rfl) ?_
    try simp only [Act.put, List.setIfInBounds_toArray, List.set_cons_zero, List.set_cons_succ]
    refine wpGrowS_pass hS (by simp only [List.getElem?_toArray, List.getElem?_cons_succ, List.getElem?_cons_zero]; rfl) (by rfl) ?_
    try simp only [Act.put, List.setIfInBounds_toArray, List.set_cons_zero, List.set_cons_succ]
    refine wpGrowS_pass hS (by simp only [List.getElem?_toArray, List.getElem?_cons_succ, List.getElem?_cons_zero]; rfl) (by rfl) ?_
    try simp only [Act.put, List.setIfInBounds_toArray, List.set_cons_zero, List.set_cons_succ]
    iterate 2
      (first
        | (refine wpGrowS_float (v := ?_) (by simp only [List.getElem?_toArray, List.getElem?_cons_succ, List.getElem?_cons_zero]; rfl) (by rfl) ?_ ?_
           rotate_left
           · (intro W hW; obtain ⟨p0, p1, p2, p3, p4, p5, p6⟩ := CB.cells (hW.2.1); obtain ⟨q0, q1, q2, q3, q4, q5, q6⟩ := CB.cells (hW.2.2); (try simp only at *); go_simp; try with_reducible rfl)
           simp only [Act.put, List.setIfInBounds_toArray, List.set_cons_zero, List.set_cons_succ])
        | (refine wpGrowS_skip (by simp only [List.getElem?_toArray, List.getElem?_cons_succ, List.getElem?_cons_zero]; rfl) (by rfl) ?_
           simp only [Act.put, List.setIfInBounds_toArray, List.set_cons_zero, List.set_cons_succ]))
    refine wpGrowS_nil ?_
    have HE := Lib.hid hS.1
    clear hS
    go_wp2
    go_ret
    exact ⟨congrArg (fun b => Ending.returned (Value.bool b)) (by rw [HR.out]; simp [*]), HE.out⟩
theorem coex_hol (a b : GC) : coexB a b = (!ovR a.rng b.rng || sameO a b || holB a b || holB b a) := rfl
set_option maxRecDepth 20000 in
set_option maxHeartbeats 4000000 in
theorem pCoe_any (a b : GC) (w : World) : Calls Tryz.prog 100 #[a.val, b.val] w fun e w' => e = .returned (Value.bool (coexB a b)) ∧ Below w.heap.size w w' := by
  have HGA := Lib.hid fun W => pRng_any a W
  have HGB := Lib.hid fun W => pRng_any b W
  have HOV := Lib.hid fun W => pOv_any a.rng b.rng W
  have HSM := Lib.hid fun W => pSam_any a b W
  have HH1 := Lib.hid fun W => pHol_any a b W
  have HH2 := Lib.hid fun W => pHol_any b a W
  have HR : Hid (coexB a b = (!ovR a.rng b.rng || sameO a b || holB a b || holB b a)) := Lib.hid (coex_hol a b)
  have HS0 := Lib.hid (CS2.drew (CS2.mk w a b))
  generalize coexB a b = q at *
  generalize ovR a.rng b.rng = o at *
  generalize sameO a b = s at *
  generalize holB a b = c1 at *
  generalize holB b a = c2 at *
  generalize a.rng = ga at *
  generalize b.rng = gb at *
  obtain ⟨gab, gan⟩ := ga
  obtain ⟨gbb, gbn⟩ := gb
  obtain ⟨ak, ab, an, ar, aw, al, ad⟩ := a
  obtain ⟨bk, bb, bn, br, bw, bl, bd⟩ := b
  simp only [GC.val, GR.val, GC.cells] at *
  rcases o with _ | _
  · go_enter Tryz.func100, Tryz.ntmps100
    go_upto_region 1 with fail
    have hS := HS0.out
    refine wp_region_growS (S := fun W => Below w.heap.size w W ∧ CB W w.heap.size ⟨ak, ab, an, ar, aw, al, ad⟩ ∧ CB W (w.heap.size + 1) ⟨bk, bb, bn, br, bw, bl, bd⟩) [(0, true), (2, true), (1, false), (3, false), (4, false), (5, true), (6, true), (7, true), (8, true), (9, false), (10, true), (11, true), (12, true), (13, true), (14, false), (15, true), (16, true), (17, true), (18, true), (19, false), (20, true), (21, true)] (by kernel_rfl) (by kernel_rfl) (by kernel_rfl) (by kernel_rfl) (by intro c a d v w h; cases d <;> exact h) hS ?_
    iterate 2
      (first
        | (refine wpGrowS_float (v := ?_) (by simp only [List.getElem?_toArray, List.getElem?_cons_succ, List.getElem?_cons_zero]; rfl) (by rfl) ?_ ?_
           rotate_left
           · (intro W hW; obtain ⟨p0, p1, p2, p3, p4, p5, p6⟩ := CB.cells (hW.2.1); obtain ⟨q0, q1, q2, q3, q4, q5, q6⟩ := CB.cells (hW.2.2); (try simp only at *); go_simp; try with_reducible rfl)
           simp only [Act.put, List.setIfInBounds_toArray, List.set_cons_zero, List.set_cons_succ])
        | (refine wpGrowS_skip (by simp only [List.getElem?_toArray, List.getElem?_cons_succ, List.getElem?_cons_zero]; rfl) (by rfl) ?_
           simp only [Act.put, List.setIfInBounds_toArray, List.set_cons_zero, List.set_cons_succ]))
    refine wpGrowS_call (by simp only [List.getElem?_toArray, List.getElem?_cons_succ, List.getElem?_cons_zero]; rfl) (by rfl) fun K hK => ?_
    go_simp
    go_fit (HGA.out _)
    rintro e wn ⟨rfl, hbn⟩
    have hSp := hS
    have hS : Below w.heap.size w wn ∧ CB wn w.heap.size ⟨ak, ab, an, ar, aw, al, ad⟩ ∧ CB wn (w.heap.size + 1) ⟨bk, bb, bn, br, bw, bl, bd⟩ := ⟨beln (hS.1) hbn, CB.next (hS.2.1) hbn, CB.next (hS.2.2) hbn⟩
    go_simp
    refine hK _ _ hS ?_
    clear hK K
    try simp only [Act.put, List.setIfInBounds_toArray, List.set_cons_zero, List.set_cons_succ]
    refine wpGrowS_call (by simp only [List.getElem?_toArray, List.getElem?_cons_succ, List.getElem?_cons_zero]; rfl) (by rfl) fun K hK => ?_
    go_simp
    go_fit (HGB.out _)
    rintro e wn ⟨rfl, hbn⟩
    have hSp := hS
    have hS : Below w.heap.size w wn ∧ CB wn w.heap.size ⟨ak, ab, an, ar, aw, al, ad⟩ ∧ CB wn (w.heap.size + 1) ⟨bk, bb, bn, br, bw, bl, bd⟩ := ⟨beln (hS.1) hbn, CB.next (hS.2.1) hbn, CB.next (hS.2.2) hbn⟩
    go_simp
    refine hK _ _ hS ?_
    clear hK K
    try simp only [Act.put, List.setIfInBounds_toArray, List.set_cons_zero, List.set_cons_succ]
    refine wpGrowS_call (by simp only [List.getElem?_toArray, List.getElem?_cons_succ, List.getElem?_cons_zero]; rfl) (by rfl) fun K hK => ?_
    go_simp
    go_fit (HOV.out _)
    rintro e wn ⟨rfl, hbn⟩
    have hSp := hS
    have hS : Below w.heap.size w wn ∧ CB wn w.heap.size ⟨ak, ab, an, ar, aw, al, ad⟩ ∧ CB wn (w.heap.size + 1) ⟨bk, bb, bn, br, bw, bl, bd⟩ := ⟨beln (hS.1) hbn, CB.next (hS.2.1) hbn, CB.next (hS.2.2) hbn⟩
    go_simp
    refine hK _ _ hS ?_
    clear hK K
    try simp only [Act.put, List.setIfInBounds_toArray, List.set_cons_zero, List.set_cons_succ]
    iterate 4
      (first
        | (refine wpGrowS_float (v := ?_) (by simp only [List.getElem?_toArray, List.getElem?_cons_succ, List.getElem?_cons_zero]; rfl) (by rfl) ?_ ?_
           rotate_left
           · (intro W hW; obtain ⟨p0, p1, p2, p3, p4, p5, p6⟩ := CB.cells (hW.2.1); obtain ⟨q0, q1, q2, q3, q4, q5, q6⟩ := CB.cells (hW.2.2); (try simp only at *); go_simp; try with_reducible rfl)
           simp only [Act.put, List.setIfInBounds_toArray, List.set_cons_zero, List.set_cons_succ])
        | (refine wpGrowS_skip (by simp only [List.getElem?_toArray, List.getElem?_cons_succ, List.getElem?_cons_zero]; rfl) (by rfl) ?_
           simp only [Act.put, List.setIfInBounds_toArray, List.set_cons_zero, List.set_cons_succ]))
    refine wpGrowS_pass hS (by simp only [List.getElem?_toArray, List.getElem?_cons_succ, List.getElem?_cons_zero]; rfl) (by rfl) ?_
    try simp only [Act.put, List.setIfInBounds_toArray, List.set_cons_zero, List.set_cons_succ]
    iterate 4
      (first
        | (refine wpGrowS_float (v := ?_) (by simp only [List.getElem?_toArray, List.getElem?_cons_succ, List.getElem?_cons_zero]; rfl) (by rfl) ?_ ?_
           rotate_left
           · (intro W hW; obtain ⟨p0, p1, p2, p3, p4, p5, p6⟩ := CB.cells (hW.2.1); obtain ⟨q0, q1, q2, q3, q4, q5, q6⟩ := CB.cells (hW.2.2); (try simp only at *); go_simp; try with_reducible rfl)
           simp only [Act.put, List.setIfInBounds_toArray, List.set_cons_zero, List.set_cons_succ])
        | (refine wpGrowS_skip (by simp only [List.getElem?_toArray, List.getElem?_cons_succ, List.getElem?_cons_zero]; rfl) (by rfl) ?_
           simp only [Act.put, List.setIfInBounds_toArray, List.set_cons_zero, List.set_cons_succ]))
    refine wpGrowS_pass hS (by simp only [List.getElem?_toArray, List.getElem?_cons_succ, List.getElem?_cons_zero]; rfl) (by rfl) ?_
    try simp only [Act.put, List.setIfInBounds_toArray, List.set_cons_zero, List.set_cons_succ]
    iterate 4
      (first
        | (refine wpGrowS_float (v := ?_) (by simp only [List.getElem?_toArray, List.getElem?_cons_succ, List.getElem?_cons_zero]; rfl) (by rfl) ?_ ?_
           rotate_left
           · (intro W hW; obtain ⟨p0, p1, p2, p3, p4, p5, p6⟩ := CB.cells (hW.2.1); obtain ⟨q0, q1, q2, q3, q4, q5, q6⟩ := CB.cells (hW.2.2); (try simp only at *); go_simp; try with_reducible rfl)
           simp only [Act.put, List.setIfInBounds_toArray, List.set_cons_zero, List.set_cons_succ])
        | (refine wpGrowS_skip (by simp only [List.getElem?_toArray, List.getElem?_cons_succ, List.getElem?_cons_zero]; rfl) (by rfl) ?_
           simp only [Act.put, List.setIfInBounds_toArray, List.set_cons_zero, List.set_cons_succ]))
    refine wpGrowS_pass hS (by simp only [List.getElem?_toArray, List.getElem?_cons_succ, List.getElem?_cons_zero]; rfl) (by rfl) ?_
    try simp only [Act.put, List.setIfInBounds_toArray, List.set_cons_zero, List.set_cons_succ]
    iterate 2
      (first
        | (refine wpGrowS_float (v := ?_) (by simp only [List.getElem?_toArray, List.getElem?_cons_succ, List.getElem?_cons_zero]; rfl) (by rfl) ?_ ?_
           rotate_left
           · (intro W hW; obtain ⟨p0, p1, p2, p3, p4, p5, p6⟩ := CB.cells (hW.2.1); obtain ⟨q0, q1, q2, q3, q4, q5, q6⟩ := CB.cells (hW.2.2); (try simp only at *); go_simp; try with_reducible rfl)
           simp only [Act.put, List.setIfInBounds_toArray, List.set_cons_zero, List.set_cons_succ])
        | (refine wpGrowS_skip (by simp only [List.getElem?_toArray, List.getElem?_cons_succ, List.getElem?_cons_zero]; rfl) (by rfl) ?_
           simp only [Act.put, List.setIfInBounds_toArray, List.set_cons_zero, List.set_cons_succ]))
    refine wpGrowS_nil ?_
    have HE := Lib.hid hS.1
    clear hS hSp hbn
    generalize wn = wz at *
    go_wp2
    go_ret
    exact ⟨congrArg (fun b => Ending.returned (Value.bool b)) (by rw [HR.out]; simp [*]), HE.out⟩
  rcases s with _ | _
  rotate_left
  · go_enter Tryz.func100, Tryz.ntmps100
    go_upto_region 1 with fail
    have hS := HS0.out
    refine wp_region_growS (S := fun W => Below w.heap.size w W ∧ CB W w.heap.size ⟨ak, ab, an, ar, aw, al, ad⟩ ∧ CB W (w.heap.size + 1) ⟨bk, bb, bn, br, bw, bl, bd⟩) [(0, true), (2, true), (1, false), (3, false), (4, false), (5, true), (6, true), (7, true), (8, true), (9, false), (10, true), (11, true), (12, true), (13, true), (14, false), (15, true), (16, true), (17, true), (18, true), (19, false), (20, true), (21, true)] (by kernel_rfl) (by kernel_rfl) (by kernel_rfl) (by kernel_rfl) (by intro c a d v w h; cases d <;> exact h) hS ?_
    iterate 2
      (first
        | (refine wpGrowS_float (v := ?_) (by simp only [List.getElem?_toArray, List.getElem?_cons_succ, List.getElem?_cons_zero]; rfl) (by rfl) ?_ ?_
           rotate_left
           · (intro W hW; obtain ⟨p0, p1, p2, p3, p4, p5, p6⟩ := CB.cells (hW.2.1); obtain ⟨q0, q1, q2, q3, q4, q5, q6⟩ := CB.cells (hW.2.2); (try simp only at *); go_simp; try with_reducible rfl)
           simp only [Act.put, List.setIfInBounds_toArray, List.set_cons_zero, List.set_cons_succ])
        | (refine wpGrowS_skip (by simp only [List.getElem?_toArray, List.getElem?_cons_succ, List.getElem?_cons_zero]; rfl) (by rfl) ?_
           simp only [Act.put, List.setIfInBounds_toArray, List.set_cons_zero, List.set_cons_succ]))
    refine wpGrowS_call (by simp only [List.getElem?_toArray, List.getElem?_cons_succ, List.getElem?_cons_zero]; rfl) (by rfl) fun K hK => ?_
    go_simp
    go_fit (HGA.out _)
    rintro e wn ⟨rfl, hbn⟩
    have hSp := hS
    have hS : Below w.heap.size w wn ∧ CB wn w.heap.size ⟨ak, ab, an, ar, aw, al, ad⟩ ∧ CB wn (w.heap.size + 1) ⟨bk, bb, bn, br, bw, bl, bd⟩ := ⟨beln (hS.1) hbn, CB.next (hS.2.1) hbn, CB.next (hS.2.2) hbn⟩
    go_simp
    refine hK _ _ hS ?_
    clear hK K
    try simp only [Act.put, List.setIfInBounds_toArray, List.set_cons_zero, List.set_cons_succ]
    refine wpGrowS_call (by simp only [List.getElem?_toArray, List.getElem?_cons_succ, List.getElem?_cons_zero]; rfl) (by rfl) fun K hK => ?_
    go_simp
    go_fit (HGB.out _)
    rintro e wn ⟨rfl, hbn⟩
    have hSp := hS
    have hS : Below w.heap.size w wn ∧ CB wn w.heap.size ⟨ak, ab, an, ar, aw, al, ad⟩ ∧ CB wn (w.heap.size + 1) ⟨bk, bb, bn, br, bw, bl, bd⟩ := ⟨beln (hS.1) hbn, CB.next (hS.2.1) hbn, CB.next (hS.2.2) hbn⟩
    go_simp
    refine hK _ _ hS ?_
    clear hK K
    try simp only [Act.put, List.setIfInBounds_toArray, List.set_cons_zero, List.set_cons_succ]
    refine wpGrowS_call (by simp only [List.getElem?_toArray, List.getElem?_cons_succ, List.getElem?_cons_zero]; rfl) (by rfl) fun K hK => ?_
    go_simp
    go_fit (HOV.out _)
    rintro e wn ⟨rfl, hbn⟩
    have hSp := hS
    have hS : Below w.heap.size w wn ∧ CB wn w.heap.size ⟨ak, ab, an, ar, aw, al, ad⟩ ∧ CB wn (w.heap.size + 1) ⟨bk, bb, bn, br, bw, bl, bd⟩ := ⟨beln (hS.1) hbn, CB.next (hS.2.1) hbn, CB.next (hS.2.2) hbn⟩
    go_simp
    refine hK _ _ hS ?_
    clear hK K
    try simp only [Act.put, List.setIfInBounds_toArray, List.set_cons_zero, List.set_cons_succ]
    iterate 4
      (first
        | (refine wpGrowS_float (v := ?_) (by simp only [List.getElem?_toArray, List.getElem?_cons_succ, List.getElem?_cons_zero]; rfl) (by rfl) ?_ ?_
           rotate_left
           · (intro W hW; obtain ⟨p0, p1, p2, p3, p4, p5, p6⟩ := CB.cells (hW.2.1); obtain ⟨q0, q1, q2, q3, q4, q5, q6⟩ := CB.cells (hW.2.2); (try simp only at *); go_simp; try with_reducible rfl)
           simp only [Act.put, List.setIfInBounds_toArray, List.set_cons_zero, List.set_cons_succ])
        | (refine wpGrowS_skip (by simp only [List.getElem?_toArray, List.getElem?_cons_succ, List.getElem?_cons_zero]; rfl) (by rfl) ?_
           simp only [Act.put, List.setIfInBounds_toArray, List.set_cons_zero, List.set_cons_succ]))
    refine wpGrowS_call (by simp only [List.getElem?_toArray, List.getElem?_cons_succ, List.getElem?_cons_zero]; rfl) (by rfl) fun K hK => ?_
    go_simp
    go_fit (HSM.out _)
    rintro e wn ⟨rfl, hbn⟩
    have hSp := hS
    have hS : Below w.heap.size w wn ∧ CB wn w.heap.size ⟨ak, ab, an, ar, aw, al, ad⟩ ∧ CB wn (w.heap.size + 1) ⟨bk, bb, bn, br, bw, bl, bd⟩ := ⟨beln (hS.1) hbn, CB.next (hS.2.1) hbn, CB.next (hS.2.2) hbn⟩
    go_simp
    refine hK _ _ hS ?_
    clear hK K
    try simp only [Act.put, List.setIfInBounds_toArray, List.set_cons_zero, List.set_cons_succ]
    iterate 4
      (first
        | (refine wpGrowS_float (v := ?_) (by simp only [List.getElem?_toArray, List.getElem?_cons_succ, List.getElem?_cons_zero]; rfl) (by rfl) ?_ ?_
           rotate_left
           · (intro W hW; obtain ⟨p0, p1, p2, p3, p4, p5, p6⟩ := CB.cells (hW.2.1); obtain ⟨q0, q1, q2, q3, q4, q5, q6⟩ := CB.cells (hW.2.2); (try simp only at *); go_simp; try with_reducible rfl)
           simp only [Act.put, List.setIfInBounds_toArray, List.set_cons_zero, List.set_cons_succ])
        | (refine wpGrowS_skip (by simp only [List.getElem?_toArray, List.getElem?_cons_succ, List.getElem?_cons_zero]; rfl) (by rfl) ?_
           simp only [Act.put, List.setIfInBounds_toArray, List.set_cons_zero, List.set_cons_succ]))
    refine wpGrowS_pass hS (by simp only [List.getElem?_toArray, List.getElem?_cons_succ, List.getElem?_cons_zero]; rfl) (by rfl) ?_
    try simp only [Act.put, List.setIfInBounds_toArray, List.set_cons_zero, List.set_cons_succ]
    iterate 4
      (first
        | (refine wpGrowS_float (v := ?_) (by simp only [List.getElem?_toArray, List.getElem?_cons_succ, List.getElem?_cons_zero]; rfl) (by rfl) ?_ ?_
           rotate_left
           · (intro W hW; obtain ⟨p0, p1, p2, p3, p4, p5, p6⟩ := CB.cells (hW.2.1); obtain ⟨q0, q1, q2, q3, q4, q5, q6⟩ := CB.cells (hW.2.2); (try simp only at *); go_simp; try with_reducible rfl)
           simp only [Act.put, List.setIfInBounds_toArray, List.set_cons_zero, List.set_cons_succ])
        | (refine wpGrowS_skip (by simp only [List.getElem?_toArray, List.getElem?_cons_succ, List.getElem?_cons_zero]; rfl) (by rfl) ?_
           simp only [Act.put, List.setIfInBounds_toArray, List.set_cons_zero, List.set_cons_succ]))
    refine wpGrowS_pass hS (by simp only [List.getElem?_toArray, List.getElem?_cons_succ, List.getElem?_cons_zero]; rfl) (by rfl) ?_
    try simp only [Act.put, List.setIfInBounds_toArray, List.set_cons_zero, List.set_cons_succ]
    iterate 2
      (first
        | (refine wpGrowS_float (v := ?_) (by simp only [List.getElem?_toArray, List.getElem?_cons_succ, List.getElem?_cons_zero]; rfl) (by rfl) ?_ ?_
           rotate_left
           · (intro W hW; obtain ⟨p0, p1, p2, p3, p4, p5, p6⟩ := CB.cells (hW.2.1); obtain ⟨q0, q1, q2, q3, q4, q5, q6⟩ := CB.cells (hW.2.2); (try simp only at *); go_simp; try with_reducible rfl)
           simp only [Act.put, List.setIfInBounds_toArray, List.set_cons_zero, List.set_cons_succ])
        | (refine wpGrowS_skip (by simp only [List.getElem?_toArray, List.getElem?_cons_succ, List.getElem?_cons_zero]; rfl) (by rfl) ?_
           simp only [Act.put, List.setIfInBounds_toArray, List.set_cons_zero, List.set_cons_succ]))
    refine wpGrowS_nil ?_
    have HE := Lib.hid hS.1
    clear hS hSp hbn
    generalize wn = wz at *
    go_wp2
    go_ret
    exact ⟨congrArg (fun b => Ending.returned (Value.bool b)) (by rw [HR.out]; simp [*]), HE.out⟩
  rcases c1 with _ | _
  rotate_left
  · go_enter Tryz.func100, Tryz.ntmps100
    go_upto_region 1 with fail
    have hS := HS0.out
    refine wp_region_growS (S := fun W => Below w.heap.size w W ∧ CB W w.heap.size ⟨ak, ab, an, ar, aw, al, ad⟩ ∧ CB W (w.heap.size + 1) ⟨bk, bb, bn, br, bw, bl, bd⟩) [(0, true), (2, true), (1, false), (3, false), (4, false), (5, true), (6, true), (7, true), (8, true), (9, false), (10, true), (11, true), (12, true), (13, true), (14, false), (15, true), (16, true), (17, true), (18, true), (19, false), (20, true), (21, true)] (by kernel_rfl) (by kernel_rfl) (by kernel_rfl) (by kernel_rfl) (by intro c a d v w h; cases d <;> exact h) hS ?_
    iterate 2
      (first
        | (refine wpGrowS_float (v := ?_) (by simp only [List.getElem?_toArray, List.getElem?_cons_succ, List.getElem?_cons_zero]; rfl) (by rfl) ?_ ?_
           rotate_left
           · (intro W hW; obtain ⟨p0, p1, p2, p3, p4, p5, p6⟩ := CB.cells (hW.2.1); obtain ⟨q0, q1, q2, q3, q4, q5, q6⟩ := CB.cells (hW.2.2); (try simp only at *); go_simp; try with_reducible rfl)
           simp only [Act.put, List.setIfInBounds_toArray, List.set_cons_zero, List.set_cons_succ])
        | (refine wpGrowS_skip (by simp only [List.getElem?_toArray, List.getElem?_cons_succ, List.getElem?_cons_zero]; rfl) (by rfl) ?_
           simp only [Act.put, List.setIfInBounds_toArray, List.set_cons_zero, List.set_cons_succ]))
    refine wpGrowS_call (by simp only [List.getElem?_toArray, List.getElem?_cons_succ, List.getElem?_cons_zero]; rfl) (by rfl) fun K hK => ?_
    go_simp
    go_fit (HGA.out _)
    rintro e wn ⟨rfl, hbn⟩
    have hSp := hS
    have hS : Below w.heap.size w wn ∧ CB wn w.heap.size ⟨ak, ab, an, ar, aw, al, ad⟩ ∧ CB wn (w.heap.size + 1) ⟨bk, bb, bn, br, bw, bl, bd⟩ := ⟨beln (hS.1) hbn, CB.next (hS.2.1) hbn, CB.next (hS.2.2) hbn⟩
    go_simp
    refine hK _ _ hS ?_
    clear hK K
    try simp only [Act.put, List.setIfInBounds_toArray, List.set_cons_zero, List.set_cons_succ]
    refine wpGrowS_call (by simp only [List.getElem?_toArray, List.getElem?_cons_succ, List.getElem?_cons_zero]; rfl) (by rfl) fun K hK => ?_
    go_simp
    go_fit (HGB.out _)
    rintro e wn ⟨rfl, hbn⟩
    have hSp := hS
    have hS : Below w.heap.size w wn ∧ CB wn w.heap.size ⟨ak, ab, an, ar, aw, al, ad⟩ ∧ CB wn (w.heap.size + 1) ⟨bk, bb, bn, br, bw, bl, bd⟩ := ⟨beln (hS.1) hbn, CB.next (hS.2.1) hbn, CB.next (hS.2.2) hbn⟩
    go_simp
    refine hK _ _ hS ?_
    clear hK K
    try simp only [Act.put, List.setIfInBounds_toArray, List.set_cons_zero, List.set_cons_succ]
    refine wpGrowS_call (by simp only [List.getElem?_toArray, List.getElem?_cons_succ, List.getElem?_cons_zero]; rfl) (by rfl) fun K hK => ?_
    go_simp
    go_fit (HOV.out _)
    rintro e wn ⟨rfl, hbn⟩
    have hSp := hS
    have hS : Below w.heap.size w wn ∧ CB wn w.heap.size ⟨ak, ab, an, ar, aw, al, ad⟩ ∧ CB wn (w.heap.size + 1) ⟨bk, bb, bn, br, bw, bl, bd⟩ := ⟨beln (hS.1) hbn, CB.next (hS.2.1) hbn, CB.next (hS.2.2) hbn⟩
    go_simp
    refine hK _ _ hS ?_
    clear hK K
    try simp only [Act.put, List.setIfInBounds_toArray, List.set_cons_zero, List.set_cons_succ]
    iterate 4
      (first
        | (refine wpGrowS_float (v := ?_) (by simp only [List.getElem?_toArray, List.getElem?_cons_succ, List.getElem?_cons_zero]; rfl) (by rfl) ?_ ?_
           rotate_left
           · (intro W hW; obtain ⟨p0, p1, p2, p3, p4, p5, p6⟩ := CB.cells (hW.2.1); obtain ⟨q0, q1, q2, q3, q4, q5, q6⟩ := CB.cells (hW.2.2); (try simp only at *); go_simp; try with_reducible rfl)
           simp only [Act.put, List.setIfInBounds_toArray, List.set_cons_zero, List.set_cons_succ])
        | (refine wpGrowS_skip (by simp only [List.getElem?_toArray, List.getElem?_cons_succ, List.getElem?_cons_zero]; rfl) (by rfl) ?_
           simp only [Act.put, List.setIfInBounds_toArray, List.set_cons_zero, List.set_cons_succ]))
    refine wpGrowS_call (by simp only [List.getElem?_toArray, List.getElem?_cons_succ, List.getElem?_cons_zero]; rfl) (by rfl) fun K hK => ?_
    go_simp
    go_fit (HSM.out _)
    rintro e wn ⟨rfl, hbn⟩
    have hSp := hS
    have hS : Below w.heap.size w wn ∧ CB wn w.heap.size ⟨ak, ab, an, ar, aw, al, ad⟩ ∧ CB wn (w.heap.size + 1) ⟨bk, bb, bn, br, bw, bl, bd⟩ := ⟨beln (hS.1) hbn, CB.next (hS.2.1) hbn, CB.next (hS.2.2) hbn⟩
    go_simp
    refine hK _ _ hS ?_
    clear hK K
    try simp only [Act.put, List.setIfInBounds_toArray, List.set_cons_zero, List.set_cons_succ]
    iterate 4
      (first
        | (refine wpGrowS_float (v := ?_) (by simp only [List.getElem?_toArray, List.getElem?_cons_succ, List.getElem?_cons_zero]; rfl) (by rfl) ?_ ?_
           rotate_left
           · (intro W hW; obtain ⟨p0, p1, p2, p3, p4, p5, p6⟩ := CB.cells (hW.2.1); obtain ⟨q0, q1, q2, q3, q4, q5, q6⟩ := CB.cells (hW.2.2); (try simp only at *); go_simp; try with_reducible rfl)
           simp only [Act.put, List.setIfInBounds_toArray, List.set_cons_zero, List.set_cons_succ])
        | (refine wpGrowS_skip (by simp only [List.getElem?_toArray, List.getElem?_cons_succ, List.getElem?_cons_zero]; rfl) (by rfl) ?_
           simp only [Act.put, List.setIfInBounds_toArray, List.set_cons_zero, List.set_cons_succ]))
    refine wpGrowS_call (by simp only [List.getElem?_toArray, List.getElem?_cons_succ, List.getElem?_cons_zero]; rfl) (by rfl) fun K hK => ?_
    go_simp
    go_fit (HH1.out _)
    rintro e wn ⟨rfl, hbn⟩
    have hSp := hS
    have hS : Below w.heap.size w wn ∧ CB wn w.heap.size ⟨ak, ab, an, ar, aw, al, ad⟩ ∧ CB wn (w.heap.size + 1) ⟨bk, bb, bn, br, bw, bl, bd⟩ := ⟨beln (hS.1) hbn, CB.next (hS.2.1) hbn, CB.next (hS.2.2) hbn⟩
    go_simp
    refine hK _ _ hS ?_
    clear hK K
    try simp only [Act.put, List.setIfInBounds_toArray, List.set_cons_zero, List.set_cons_succ]
    iterate 4
      (first
        | (refine wpGrowS_float (v := ?_) (by simp only [List.getElem?_toArray, List.getElem?_cons_succ, List.getElem?_cons_zero]; rfl) (by rfl) ?_ ?_
           rotate_left
           · (intro W hW; obtain ⟨p0, p1, p2, p3, p4, p5, p6⟩ := CB.cells (hW.2.1); obtain ⟨q0, q1, q2, q3, q4, q5, q6⟩ := CB.cells (hW.2.2); (try simp only at *); go_simp; try with_reducible rfl)
           simp only [Act.put, List.setIfInBounds_toArray, List.set_cons_zero, List.set_cons_succ])
        | (refine wpGrowS_skip (by simp only [List.getElem?_toArray, List.getElem?_cons_succ, List.getElem?_cons_zero]; rfl) (by rfl) ?_
           simp only [Act.put, List.setIfInBounds_toArray, List.set_cons_zero, List.set_cons_succ]))
    refine wpGrowS_pass hS (by simp only [List.getElem?_toArray, List.getElem?_cons_succ, List.getElem?_cons_zero]; rfl) (by rfl) ?_
    try simp only [Act.put, List.setIfInBounds_toArray, List.set_cons_zero, List.set_cons_succ]
    iterate 2
      (first
        | (refine wpGrowS_float (v := ?_) (by simp only [List.getElem?_toArray, List.getElem?_cons_succ, List.getElem?_cons_zero]; rfl) (by rfl) ?_ ?_
           rotate_left
           · (intro W hW; obtain ⟨p0, p1, p2, p3, p4, p5, p6⟩ := CB.cells (hW.2.1); obtain ⟨q0, q1, q2, q3, q4, q5, q6⟩ := CB.cells (hW.2.2); (try simp only at *); go_simp; try with_reducible rfl)
           simp only [Act.put, List.setIfInBounds_toArray, List.set_cons_zero, List.set_cons_succ])
        | (refine wpGrowS_skip (by simp only [List.getElem?_toArray, List.getElem?_cons_succ, List.getElem?_cons_zero]; rfl) (by rfl) ?_
           simp only [Act.put, List.setIfInBounds_toArray, List.set_cons_zero, List.set_cons_succ]))
    refine wpGrowS_nil ?_
    have HE := Lib.hid hS.1
    clear hS hSp hbn
    generalize wn = wz at *
    go_wp2
    go_ret
    exact ⟨congrArg (fun b => Ending.returned (Value.bool b)) (by rw [HR.out]; simp [*]), HE.out⟩
  go_enter Tryz.func100, Tryz.ntmps100
  go_upto_region 1 with fail
  have hS := HS0.out
  refine wp_region_growS (S := fun W => Below w.heap.size w W ∧ CB W w.heap.size ⟨ak, ab, an, ar, aw, al, ad⟩ ∧ CB W (w.heap.size + 1) ⟨bk, bb, bn, br, bw, bl, bd⟩) [(0, true), (2, true), (1, false), (3, false), (4, false), (5, true), (6, true), (7, true), (8, true), (9, false), (10, true), (11, true), (12, true), (13, true), (14, false), (15, true), (16, true), (17, true), (18, true), (19, false), (20, true), (21, true)] (by kernel_rfl) (by kernel_rfl) (by kernel_rfl) (by kernel_rfl) (by intro c a d v w h; cases d <;> exact h) hS ?_
  iterate 2
    (first
      | (refine wpGrowS_float (v := ?_) (by simp only [List.getElem?_toArray, List.getElem?_cons_succ, List.getElem?_cons_zero]; rfl) (by rfl) ?_ ?_
         rotate_left
         · (intro W hW; obtain ⟨p0, p1, p2, p3, p4, p5, p6⟩ := CB.cells (hW.2.1); obtain ⟨q0, q1, q2, q3, q4, q5, q6⟩ := CB.cells (hW.2.2); (try simp only at *); go_simp; try with_reducible rfl)
         simp only [Act.put, List.setIfInBounds_toArray, List.set_cons_zero, List.set_cons_succ])
      | (refine wpGrowS_skip (by simp only [List.getElem?_toArray, List.getElem?_cons_succ, List.getElem?_cons_zero]; rfl) (by rfl) ?_
         simp only [Act.put, List.setIfInBounds_toArray, List.set_cons_zero, List.set_cons_succ]))
  refine wpGrowS_call (by simp only [List.getElem?_toArray, List.getElem?_cons_succ, List.getElem?_cons_zero]; rfl) (by rfl) fun K hK => ?_
  go_simp
  go_fit (HGA.out _)
  rintro e wn ⟨rfl, hbn⟩
  have hSp := hS
  have hS : Below w.heap.size w wn ∧ CB wn w.heap.size ⟨ak, ab, an, ar, aw, al, ad⟩ ∧ CB wn (w.heap.size + 1) ⟨bk, bb, bn, br, bw, bl, bd⟩ := ⟨beln (hS.1) hbn, CB.next (hS.2.1) hbn, CB.next (hS.2.2) hbn⟩
  go_simp
  refine hK _ _ hS ?_
  clear hK K
  try simp only [Act.put, List.setIfInBounds_toArray, List.set_cons_zero, List.set_cons_succ]
  refine wpGrowS_call (by simp only [List.getElem?_toArray, List.getElem?_cons_succ, List.getElem?_cons_zero]; rfl) (by rfl) fun K hK => ?_
  go_simp
  go_fit (HGB.out _)
  rintro e wn ⟨rfl, hbn⟩
  have hSp := hS
  have hS : Below w.heap.size w wn ∧ CB wn w.heap.size ⟨ak, ab, an, ar, aw, al, ad⟩ ∧ CB wn (w.heap.size + 1) ⟨bk, bb, bn, br, bw, bl, bd⟩ := ⟨beln (hS.1) hbn, CB.next (hS.2.1) hbn, CB.next (hS.2.2) hbn⟩
  go_simp
  refine hK _ _ hS ?_
  clear hK K
  try simp only [Act.put, List.setIfInBounds_toArray, List.set_cons_zero, List.set_cons_succ]
  refine wpGrowS_call (by simp only [List.getElem?_toArray, List.getElem?_cons_succ, List.getElem?_cons_zero]; rfl) (by rfl) fun K hK => ?_
  go_simp
  go_fit (HOV.out _)
  rintro e wn ⟨rfl, hbn⟩
  have hSp := hS
  have hS : Below w.heap.size w wn ∧ CB wn w.heap.size ⟨ak, ab, an, ar, aw, al, ad⟩ ∧ CB wn (w.heap.size + 1) ⟨bk, bb, bn, br, bw, bl, bd⟩ := ⟨beln (hS.1) hbn, CB.next (hS.2.1) hbn, CB.next (hS.2.2) hbn⟩
  go_simp
  refine hK _ _ hS ?_
  clear hK K
  try simp only [Act.put, List.setIfInBounds_toArray, List.set_cons_zero, List.set_cons_succ]
  iterate 4
    (first
      | (refine wpGrowS_float (v := ?_) (by simp only [List.getElem?_toArray, List.getElem?_cons_succ, List.getElem?_cons_zero]; rfl) (by rfl) ?_ ?_
         rotate_left
         · (intro W hW; obtain ⟨p0, p1, p2, p3, p4, p5, p6⟩ := CB.cells (hW.2.1); obtain ⟨q0, q1, q2, q3, q4, q5, q6⟩ := CB.cells (hW.2.2); (try simp only at *); go_simp; try with_reducible rfl)
         simp only [Act.put, List.setIfInBounds_toArray, List.set_cons_zero, List.set_cons_succ])
      | (refine wpGrowS_skip (by simp only [List.getElem?_toArray, List.getElem?_cons_succ, List.getElem?_cons_zero]; rfl) (by rfl) ?_
         simp only [Act.put, List.setIfInBounds_toArray, List.set_cons_zero, List.set_cons_succ]))
  refine wpGrowS_call (by simp only [List.getElem?_toArray, List.getElem?_cons_succ, List.getElem?_cons_zero]; rfl) (by rfl) fun K hK => ?_
  go_simp
  go_fit (HSM.out _)
  rintro e wn ⟨rfl, hbn⟩
  have hSp := hS
  have hS : Below w.heap.size w wn ∧ CB wn w.heap.size ⟨ak, ab, an, ar, aw, al, ad⟩ ∧ CB wn (w.heap.size + 1) ⟨bk, bb, bn, br, bw, bl, bd⟩ := ⟨beln (hS.1) hbn, CB.next (hS.2.1) hbn, CB.next (hS.2.2) hbn⟩
  go_simp
  refine hK _ _ hS ?_
  clear hK K
  try simp only [Act.put, List.setIfInBounds_toArray, List.set_cons_zero, List.set_cons_succ]
  iterate 4
    (first
      | (refine wpGrowS_float (v := ?_) (by simp only [List.getElem?_toArray, List.getElem?_cons_succ, List.getElem?_cons_zero]; rfl) (by rfl) ?_ ?_
         rotate_left
         · (intro W hW; obtain ⟨p0, p1, p2, p3, p4, p5, p6⟩ := CB.cells (hW.2.1); obtain ⟨q0, q1, q2, q3, q4, q5, q6⟩ := CB.cells (hW.2.2); (try simp only at *); go_simp; try with_reducible rfl)
         simp only [Act.put, List.setIfInBounds_toArray, List.set_cons_zero, List.set_cons_succ])
      | (refine wpGrowS_skip (by simp only [List.getElem?_toArray, List.getElem?_cons_succ, List.getElem?_cons_zero]; rfl) (by rfl) ?_
         simp only [Act.put, List.setIfInBounds_toArray, List.set_cons_zero, List.set_cons_succ]))
  refine wpGrowS_call (by simp only [List.getElem?_toArray, List.getElem?_cons_succ, List.getElem?_cons_zero]; rfl) (by rfl) fun K hK => ?_
  go_simp
  go_fit (HH1.out _)
  rintro e wn ⟨rfl, hbn⟩
  have hSp := hS
  have hS : Below w.heap.size w wn ∧ CB wn w.heap.size ⟨ak, ab, an, ar, aw, al, ad⟩ ∧ CB wn (w.heap.size + 1) ⟨bk, bb, bn, br, bw, bl, bd⟩ := ⟨beln (hS.1) hbn, CB.next (hS.2.1) hbn, CB.next (hS.2.2) hbn⟩
  go_simp
  refine hK _ _ hS ?_
  clear hK K
  try simp only [Act.put, List.setIfInBounds_toArray, List.set_cons_zero, List.set_cons_succ]
  iterate 4
    (first
      | (refine wpGrowS_float (v := ?_) (by simp only [List.getElem?_toArray, List.getElem?_cons_succ, List.getElem?_cons_zero]; rfl) (by rfl) ?_ ?_
         rotate_left
         · (intro W hW; obtain ⟨p0, p1, p2, p3, p4, p5, p6⟩ := CB.cells (hW.2.1); obtain ⟨q0, q1, q2, q3, q4, q5, q6⟩ := CB.cells (hW.2.2); (try simp only at *); go_simp; try with_reducible rfl)
         simp only [Act.put, List.setIfInBounds_toArray, List.set_cons_zero, List.set_cons_succ])
      | (refine wpGrowS_skip (by simp only [List.getElem?_toArray, List.getElem?_cons_succ, List.getElem?_cons_zero]; rfl) (by rfl) ?_
         simp only [Act.put, List.setIfInBounds_toArray, List.set_cons_zero, List.set_cons_succ]))
  refine wpGrowS_call (by simp only [List.getElem?_toArray, List.getElem?_cons_succ, List.getElem?_cons_zero]; rfl) (by rfl) fun K hK => ?_
  go_simp
  go_fit (HH2.out _)
  rintro e wn ⟨rfl, hbn⟩
  have hSp := hS
  have hS : Below w.heap.size w wn ∧ CB wn w.heap.size ⟨ak, ab, an, ar, aw, al, ad⟩ ∧ CB wn (w.heap.size + 1) ⟨bk, bb, bn, br, bw, bl, bd⟩ := ⟨beln (hS.1) hbn, CB.next (hS.2.1) hbn, CB.next (hS.2.2) hbn⟩
  go_simp
  refine hK _ _ hS ?_
  clear hK K
  try simp only [Act.put, List.setIfInBounds_toArray, List.set_cons_zero, List.set_cons_succ]
  iterate 2
    (first
      | (refine wpGrowS_float (v := ?_) (by simp only [List.getElem?_toArray, List.getElem?_cons_succ, List.getElem?_cons_zero]; rfl) (by rfl) ?_ ?_
         rotate_left
         · (intro W hW; obtain ⟨p0, p1, p2, p3, p4, p5, p6⟩ := CB.cells (hW.2.1); obtain ⟨q0, q1, q2, q3, q4, q5, q6⟩ := CB.cells (hW.2.2); (try simp only at *); go_simp; try with_reducible rfl)
         simp only [Act.put, List.setIfInBounds_toArray, List.set_cons_zero, List.set_cons_succ])
      | (refine wpGrowS_skip (by simp only [List.getElem?_toArray, List.getElem?_cons_succ, List.getElem?_cons_zero]; rfl) (by rfl) ?_
         simp only [Act.put, List.setIfInBounds_toArray, List.set_cons_zero, List.set_cons_succ]))
  refine wpGrowS_nil ?_
  have HE := Lib.hid hS.1
  clear hS hSp hbn
  generalize wn = wz at *
  go_wp2
  go_ret
  exact ⟨congrArg (fun b => Ending.returned (Value.bool b)) (by rw [HR.out]; simp [*]), HE.out⟩
end Go.Proofs.YtndppbfdcceflaaGreatDoor
