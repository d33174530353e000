/-
  Package forest: compareNesting, the library's sort at capabilities, coexist.
  Conditions: at most 10000 entries, whose capabilities are valid.
  Package forest: coexist.
  Conditions: at most 10000 entries, whose capabilities are valid.
  Package forest: descend at one entry without a path (the laws' sanity check).
  Conditions: as said.
  Package forest's Parent; the reference's IdsOf, Descendants and Parent.
  Conditions: at most 100000 entries.
-/
import Derived.Test.YtndppbfdcceflaaGreatDoorMy3
import Derived.Test.YtndppbfdcceflaaGreatDoorMrd
import Derived.Test.YtndppbfdcceflaaGreatDoorMy2
import Derived.Maps.Own
import Derived.DeepKeys4
namespace Go.Proofs.YtndppbfdcceflaaGreatDoor
open Go.RowKit Go.Shelf Go.Sort

/-- What the program's comparison of two capabilities returns. -/
def cmpC (a b : GC) : Int := orI3 (sgn a.base b.base) (sgn b.bits a.bits) (sgn a.kind b.kind)
theorem cmpC_lt (a b : GC) : cmpC a b < 0 ↔ a.base < b.base ∨ a.base = b.base ∧ (b.bits < a.bits ∨ b.bits = a.bits ∧ a.kind < b.kind) := by
  unfold cmpC orI3
  have h1 := @sgn_zero a.base b.base
  have h2 := @sgn_zero b.bits a.bits
  have h3 := @sgn_neg a.base b.base
  have h4 := @sgn_neg b.bits a.bits
  have h5 := @sgn_neg a.kind b.kind
  by_cases e1 : sgn a.base b.base = 0
  · by_cases e2 : sgn b.bits a.bits = 0
    · rw [if_neg (by simpa using e1), if_neg (by simpa using e2), h5]
      have := h1.1 e1
      have := h2.1 e2
      omega
    · rw [if_neg (by simpa using e1), if_pos e2, h4]
      have := h1.1 e1
      have : b.bits ≠ a.bits := fun e => e2 (h2.2 e)
      omega
  · rw [if_pos e1, h3]
    have : a.base ≠ b.base := fun e => e1 (h1.2 e)
    omega
instance : Inhabited GC := ⟨⟨0, 0, 0, 0, 0, 0, false⟩⟩
set_option maxRecDepth 50000 in
set_option maxHeartbeats 2000000 in
theorem cmpC_gr (a b : GC) (w : World) :
    Calls Tryz.prog 99 #[a.val, b.val] w fun e w' => e = .returned (.int .i64 (cmpC a b)) ∧ Gr w w' := by
  have HE : Hid (cmpC a b = orI3 (sgn a.base b.base) (sgn b.bits a.bits) (sgn a.kind b.kind)) := Lib.hid rfl
  have H1 := Lib.hid fun W => pCmp_any a.base b.base W
  have H2 := Lib.hid fun W => pCmp_any b.bits a.bits W
  have H3 := Lib.hid fun W => pCmp_any a.kind b.kind W
  generalize cmpC a b = q at *
  generalize sgn a.base b.base = s1 at *
  generalize sgn b.bits a.bits = s2 at *
  generalize sgn a.kind b.kind = s3 at *
  obtain ⟨a0, a1, a2, a3, a4, a5, a6⟩ := a
  obtain ⟨b0, b1, b2, b3, b4, b5, b6⟩ := b
  simp only [GC.val] at *
  have hca : (w.alloc (.cells #[.int .i64 a0, .int .i64 a1, .int .i64 a2, .int .i64 a3, .int .i64 a4, .int .i64 a5, .bool a6] 28)).heap[w.heap.size]? = some (.cells #[.int .i64 a0, .int .i64 a1, .int .i64 a2, .int .i64 a3, .int .i64 a4, .int .i64 a5, .bool a6] 28 (0, 0)) := heap_alloc_new w _
  have hcb := heap_alloc_new (w.alloc (.cells #[.int .i64 a0, .int .i64 a1, .int .i64 a2, .int .i64 a3, .int .i64 a4, .int .i64 a5, .bool a6] 28)) (.cells #[.int .i64 b0, .int .i64 b1, .int .i64 b2, .int .i64 b3, .int .i64 b4, .int .i64 b5, .bool b6] 28)
  rw [World.size_alloc] at hcb
  have hca2 := ((belt (RowKit.Below.refl _ (w.alloc (.cells #[.int .i64 a0, .int .i64 a1, .int .i64 a2, .int .i64 a3, .int .i64 a4, .int .i64 a5, .bool a6] 28))) (.cells #[.int .i64 b0, .int .i64 b1, .int .i64 b2, .int .i64 b3, .int .i64 b4, .int .i64 b5, .bool b6] 28)).block w.heap.size (by simp)).trans hca
  have HGR := Lib.hid (gr_lit (gr_lit (Gr.refl w) (.cells #[.int .i64 a0, .int .i64 a1, .int .i64 a2, .int .i64 a3, .int .i64 a4, .int .i64 a5, .bool a6] 28)) (.cells #[.int .i64 b0, .int .i64 b1, .int .i64 b2, .int .i64 b3, .int .i64 b4, .int .i64 b5, .bool b6] 28))
  have hA : w.heap.size < ((w.alloc (.cells #[.int .i64 a0, .int .i64 a1, .int .i64 a2, .int .i64 a3, .int .i64 a4, .int .i64 a5, .bool a6] 28)).alloc (.cells #[.int .i64 b0, .int .i64 b1, .int .i64 b2, .int .i64 b3, .int .i64 b4, .int .i64 b5, .bool b6] 28)).heap.size := by simp; omega
  have hB : w.heap.size + 1 < ((w.alloc (.cells #[.int .i64 a0, .int .i64 a1, .int .i64 a2, .int .i64 a3, .int .i64 a4, .int .i64 a5, .bool a6] 28)).alloc (.cells #[.int .i64 b0, .int .i64 b1, .int .i64 b2, .int .i64 b3, .int .i64 b4, .int .i64 b5, .bool b6] 28)).heap.size := by simp
  go_enter Tryz.func99, Tryz.ntmps99
  go_upto_region 1 with fail
  clear hca
  generalize (w.alloc (.cells #[.int .i64 a0, .int .i64 a1, .int .i64 a2, .int .i64 a3, .int .i64 a4, .int .i64 a5, .bool a6] 28)).alloc (.cells #[.int .i64 b0, .int .i64 b1, .int .i64 b2, .int .i64 b3, .int .i64 b4, .int .i64 b5, .bool b6] 28) = w2 at *
  have ca0 : w2.cell? ⟨w.heap.size, 0, none⟩ = some (.int .i64 a0) := by rw [Lib.cell_of_heap hca2]; rfl
  have ca1 : w2.cell? ⟨w.heap.size, 1, none⟩ = some (.int .i64 a1) := by rw [Lib.cell_of_heap hca2]; rfl
  have ca2 : w2.cell? ⟨w.heap.size, 2, none⟩ = some (.int .i64 a2) := by rw [Lib.cell_of_heap hca2]; rfl
  have cb0 : w2.cell? ⟨w.heap.size + 1, 0, none⟩ = some (.int .i64 b0) := by rw [Lib.cell_of_heap hcb]; rfl
  have cb1 : w2.cell? ⟨w.heap.size + 1, 1, none⟩ = some (.int .i64 b1) := by rw [Lib.cell_of_heap hcb]; rfl
  have cb2 : w2.cell? ⟨w.heap.size + 1, 2, none⟩ = some (.int .i64 b2) := by rw [Lib.cell_of_heap hcb]; rfl
  clear hca2 hcb
  have hS : RowKit.Below w2.heap.size w2 w2.drew := (RowKit.Below.refl w2.heap.size w2).drew
  refine wp_region_growS (S := fun W => RowKit.Below w2.heap.size w2 W) [(0, true), (1, true), (2, true), (3, true), (5, true), (6, true), (7, true), (8, true), (10, true), (11, true), (12, true), (13, true), (4, false), (9, false), (14, false), (15, false), (16, false), (17, true)] (by kernel_rfl) (by kernel_rfl) (by kernel_rfl) (by kernel_rfl) (by intro c a d v w h; cases d <;> exact h) hS ?_
  generalize hw3 : w2.drew = w3 at *
  iterate 12
    (first
      | (refine wpGrowS_float (v := ?_) (by simp only [List.getElem?_toArray, List.getElem?_cons_succ, List.getElem?_cons_zero]; rfl) (by rfl) ?_ ?_
         rotate_left
         · (intro W hW; have t0 := (hW.cell (p := ⟨w.heap.size, 0, none⟩) hA).trans ca0; have t1 := (hW.cell (p := ⟨w.heap.size, 1, none⟩) hA).trans ca1; have t2 := (hW.cell (p := ⟨w.heap.size, 2, none⟩) hA).trans ca2; have u0 := (hW.cell (p := ⟨w.heap.size + 1, 0, none⟩) hB).trans cb0; have u1 := (hW.cell (p := ⟨w.heap.size + 1, 1, none⟩) hB).trans cb1; have u2 := (hW.cell (p := ⟨w.heap.size + 1, 2, none⟩) hB).trans cb2; (try simp only at *); go_simp; try with_reducible rfl)
         simp only [Act.put, List.setIfInBounds_toArray, List.set_cons_zero, List.set_cons_succ])
      | (refine wpGrowS_skip (by simp only [List.getElem?_toArray, List.getElem?_cons_succ, List.getElem?_cons_zero]; rfl) (by rfl) ?_
         simp only [Act.put, List.setIfInBounds_toArray, List.set_cons_zero, List.set_cons_succ]))
  refine wpGrowS_call (by simp only [List.getElem?_toArray, List.getElem?_cons_succ, List.getElem?_cons_zero]; rfl) (by rfl) fun K hK => ?_
  go_simp
  go_fit (H1.out _)
  rintro e wn ⟨rfl, hww⟩
  obtain rfl : w3 = wn := hww.symm
  go_simp
  refine hK _ _ hS ?_
  clear hK K
  try simp only [Act.put, List.setIfInBounds_toArray, List.set_cons_zero, List.set_cons_succ]
  refine wpGrowS_call (by simp only [List.getElem?_toArray, List.getElem?_cons_succ, List.getElem?_cons_zero]; rfl) (by rfl) fun K hK => ?_
  go_simp
  go_fit (H2.out _)
  rintro e wn ⟨rfl, hww⟩
  obtain rfl : w3 = wn := hww.symm
  go_simp
  refine hK _ _ hS ?_
  clear hK K
  try simp only [Act.put, List.setIfInBounds_toArray, List.set_cons_zero, List.set_cons_succ]
  refine wpGrowS_call (by simp only [List.getElem?_toArray, List.getElem?_cons_succ, List.getElem?_cons_zero]; rfl) (by rfl) fun K hK => ?_
  go_simp
  go_fit (H3.out _)
  rintro e wn ⟨rfl, hww⟩
  obtain rfl : w3 = wn := hww.symm
  go_simp
  refine hK _ _ hS ?_
  clear hK K
  try simp only [Act.put, List.setIfInBounds_toArray, List.set_cons_zero, List.set_cons_succ]
  refine wpGrowS_call (by simp only [List.getElem?_toArray, List.getElem?_cons_succ, List.getElem?_cons_zero]; rfl) (by rfl) fun K hK => ?_
  go_simp
  have hS3 : RowKit.Below w2.heap.size w2 (w3.alloc (.cells #[.int .i64 s1, .int .i64 s2, .int .i64 s3] 3)) := belt hS _
  refine hK _ _ hS3 ?_
  clear hK K
  try simp only [Act.put, List.setIfInBounds_toArray, List.set_cons_zero, List.set_cons_succ]
  refine wpGrowS_call (by simp only [List.getElem?_toArray, List.getElem?_cons_succ, List.getElem?_cons_zero]; rfl) (by rfl) fun K hK => ?_
  go_simp
  go_fit (pOr_any s1 s2 s3 _ _ _ (by go_simp) (by go_simp) (by go_simp))
  rintro e wn ⟨rfl, rfl⟩
  go_simp
  refine hK _ _ hS3 ?_
  clear hK K
  try simp only [Act.put, List.setIfInBounds_toArray, List.set_cons_zero, List.set_cons_succ]
  iterate 1
    (first
      | (refine wpGrowS_float (v := ?_) (by simp only [List.getElem?_toArray, List.getElem?_cons_succ, List.getElem?_cons_zero]; rfl) (by rfl) ?_ ?_
         rotate_left
         · (intro W hW; have t0 := (hW.cell (p := ⟨w.heap.size, 0, none⟩) hA).trans ca0; have t1 := (hW.cell (p := ⟨w.heap.size, 1, none⟩) hA).trans ca1; have t2 := (hW.cell (p := ⟨w.heap.size, 2, none⟩) hA).trans ca2; have u0 := (hW.cell (p := ⟨w.heap.size + 1, 0, none⟩) hB).trans cb0; have u1 := (hW.cell (p := ⟨w.heap.size + 1, 1, none⟩) hB).trans cb1; have u2 := (hW.cell (p := ⟨w.heap.size + 1, 2, none⟩) hB).trans cb2; (try simp only at *); go_simp; try with_reducible rfl)
         simp only [Act.put, List.setIfInBounds_toArray, List.set_cons_zero, List.set_cons_succ])
      | (refine wpGrowS_skip (by simp only [List.getElem?_toArray, List.getElem?_cons_succ, List.getElem?_cons_zero]; rfl) (by rfl) ?_
         simp only [Act.put, List.setIfInBounds_toArray, List.set_cons_zero, List.set_cons_succ]))
  refine wpGrowS_nil ?_
  have HG3 := Lib.hid (gr_lit (hw3 ▸ HGR.out.drew : Gr w w3) (.cells #[.int .i64 s1, .int .i64 s2, .int .i64 s3] 3))
  clear hS hS3 hw3 ca0 ca1 ca2 cb0 cb1 cb2
  go_wp2
  go_ret
  exact ⟨congrArg (fun x => Ending.returned (Value.int .i64 x)) HE.out.symm, HG3.out⟩
theorem swo_cap : SWO (ltOf cmpC) := by
  refine ⟨fun x => ?_, fun x y z h1 h2 => ?_, fun x y z h1 h2 => ?_⟩
  · refine decide_eq_false ?_
    rw [cmpC_lt]; omega
  · have g1 := of_decide_eq_true h1
    have g2 := of_decide_eq_true h2
    refine decide_eq_true ?_
    rw [cmpC_lt] at *; omega
  · have g1 := of_decide_eq_false h1
    have g2 := of_decide_eq_false h2
    refine decide_eq_false ?_
    rw [cmpC_lt] at *; omega
set_option maxRecDepth 50000 in
theorem cmpLays_cap (w : World) (g n : Nat) : CmpLays Tryz.prog 99 #[] GC.cells 7 cmpC g 0 n w := by
  intro m os dk _ x y
  have h := cmpC_gr x y (sortWorldK GC.cells 7 w g 0 m dk os)
  rw [Array.append_empty]
  exact h
def SortCEnd (es : List GC) (base : Nat) (w : World) (g cap : Nat) (e : Ending) (w' : World) : Prop :=
  e = .returned (.tuple #[]) ∧ ∃ es' : List GC, es'.Perm es ∧ es'.Pairwise nestLe ∧ OwnG GC.cells 28 7 w' base (.slice (some ⟨g, 0, none⟩) es.length cap) es' ∧ w.grownBy w' (some g)
set_option maxRecDepth 50000 in
set_option maxHeartbeats 1000000 in
theorem sortC_own (es : List GC) (base : Nat) (w : World) (g cap : Nat) (h : OwnG GC.cells 28 7 w base (.slice (some ⟨g, 0, none⟩) es.length cap) es) (hn : es.length < 4611686018427387904) :
    Calls Tryz.prog 98 #[.slice (some ⟨g, 0, none⟩) es.length cap, .func (.func 99) #[] #[]] w (SortCEnd es base w g cap) := by
  have hg := h.lt g rfl
  have eg : ∀ args w, (callFunc 99 args).run Tryz.prog w = .ok (.enter 99 args) w := enters_of Tryz.func99 (by kernel_rfl) rfl
  have hcon := AnyQ.slices_SortFunc Tryz.sortC 7 Tryz.isAgg28 Tryz.sizeOf28 GC.cells GC.len GC.one cmpC swo_cap 99 #[] g 0 cap es.toArray w eg (cmpLays_cap w g _) (holdsK_own GC.len h) hg.2 (by simpa using hn)
  change Calls Tryz.prog 98 _ _ _ at hcon
  rw [show es.toArray.size = es.length by simp] at hcon
  refine hcon.mono ?_
  rintro e w' ⟨rfl, d', n, os, hp, hs, rfl⟩
  obtain ⟨hp1, _, hp3⟩ := hp
  have hds : d'.size = es.length := by simpa using hp1
  refine ⟨rfl, d'.toList, ?_, ?_, ?_, ?_⟩
  · have e1 : d'.extract 0 es.length = d' := by rw [← hds]; simp
    have e2 : es.toArray.extract 0 es.length = es.toArray := by simp
    rw [e1, e2] at hp3
    simpa using hp3
  · refine List.pairwise_iff_getElem.2 fun i j hi hj hij => ?_
    rw [Array.length_toList] at hi hj
    have := hs i j (Nat.zero_le _) hij (by omega)
    rw [getElem!_pos d' i hi, getElem!_pos d' j hj] at this
    have this : ¬ cmpC d'[j] d'[i] < 0 := of_decide_eq_false this
    rw [cmpC_lt] at this
    unfold nestLe
    simp only [Array.getElem_toList]
    omega
  · rcases h.2 with ⟨hv, _⟩ | ⟨g', cap', cur, hv, hbs, hh, hn', hm, hss, ht⟩
    · cases hv
    · cases hv
      have hl : d'.toList.length = es.length := by rw [Array.length_toList, hds]
      refine ⟨gcells_len GC.len _, .inr ⟨g, cap, _, by rw [hl], hbs, sortW_at _ _ _ _ _ _ _ _ cur _ _ hh, by omega, hm, by simp [putCells, hss], ?_⟩⟩
      have hfs : (flatK GC.cells 7 d').size = d'.toList.length * 7 := by simp
      rw [← hfs, put_take _ _ (by simp; omega), flat_gcells _ _ GC.len]
  · refine ⟨rfl, rfl, rfl, size_sortWorldK_c _ _ _ _ _ _ _ _, fun b hlt hne => sortW_heap _ _ _ _ _ _ _ _ b hlt (by intro e; exact hne (by rw [e]))⟩
end Go.Proofs.YtndppbfdcceflaaGreatDoor


namespace Go.Proofs.YtndppbfdcceflaaGreatDoor
open Go.RowKit

def capsE (es : List GE) : List GC := es.map fun o => o.node.cap
theorem capsE_succ (xs : List GV) {k : Nat} (hk : k < xs.length) : capsE ((xs.map GV.e).take (k + 1)) = capsE ((xs.map GV.e).take k) ++ [xs[k].e.node.cap] := by
  rw [take_map GV.e xs hk]
  unfold capsE
  rw [List.map_append]
  rfl
def coxE (es : List GE) : Bool := decide ((capsE es).Pairwise fun a b => coexB a b = true)
theorem lit_capZ (w : World) (y : GC) : GRow GC.cells 7 (w.alloc (.cells #[.int .i64 y.kind, .int .i64 y.base, .int .i64 y.bits, .int .i64 y.rights, .int .i64 y.width, .int .i64 y.level, .bool y.device] 28)) (w.heap.size + 1) (some ⟨w.heap.size, 0, none⟩) [y] := by
  have h := (OwnG.lit GC.len w w.heap.size (T := 28) [y] #[.int .i64 y.kind, .int .i64 y.base, .int .i64 y.bits, .int .i64 y.rights, .int .i64 y.width, .int .i64 y.level, .bool y.device] rfl (Nat.le_refl _) (by unfold maxLen; simp)).row GC.len
  obtain ⟨A, c, e, _, _, hr⟩ := h
  cases e
  simpa using hr
theorem elt_capZ : Elt 56 28 7 56 := Elt.of (.agg #[.int .i64 0, .int .i64 0, .int .i64 0, .int .i64 0, .int .i64 0, .int .i64 0, .bool false]) Tryz.underlying56 (by kernel_rfl) rfl (by decide)
theorem OwnG.someG {α : Type} {enc : α → List Value} {T : TypeId} {m : Nat} {w : World} {base : Nat} {v : Value} {xs : List α} (h : OwnG enc T m w base v xs) (h0 : 0 < xs.length) : ∃ g c, v = .slice (some ⟨g, 0, none⟩) xs.length c := by
  rcases h.2 with ⟨_, hn⟩ | ⟨g, cap, cur, hv, _⟩
  · omega
  · exact ⟨g, cap, hv⟩
theorem OwnC.snocZ {w w0 : World} {base : Nat} {v : Value} {xs : List GC} (h : OwnG GC.cells 28 7 w base v xs) (hb : Below w0.heap.size w0 w) (hbs : w0.heap.size ≤ base) (hbw : base ≤ w.heap.size) (y : GC) (hl : xs.length ≤ 1000000) :
    ∃ v' w', (Builtin.append_ #[56, 56] 56 #[v, .slice (some ⟨w.heap.size, 0, none⟩) 1 1]).run Tryz.prog (w.alloc (.cells #[.int .i64 y.kind, .int .i64 y.base, .int .i64 y.bits, .int .i64 y.rights, .int .i64 y.width, .int .i64 y.level, .bool y.device] 28)) = .ok v' w' ∧ OwnG GC.cells 28 7 w' base v' (xs ++ [y]) ∧ Below w0.heap.size w0 w' := by
  have hs := hb.size
  obtain ⟨v', w', hrun, hown, hg, _⟩ := OwnG.app elt_capZ GC.len GC.one (h.alloc (.cells #[.int .i64 y.kind, .int .i64 y.base, .int .i64 y.bits, .int .i64 y.rights, .int .i64 y.width, .int .i64 y.level, .bool y.device] 28)) 1 (lit_capZ w y) (by simp; omega) (by unfold maxLen; simp; omega) (by simp; omega)
  exact ⟨v', w', hrun, hown, (hb.alloc hs _).grown hg (by simp; omega) (fun g e => Nat.le_trans hbs (h.lt g e).1)⟩
theorem GRow.capZ {w : World} {B : Nat} {A : Option Addr} {xs : List GC} (h : GRow GC.cells 7 w B A xs) {k : Nat} (hk : k < xs.length) : ∃ b off, A = some ⟨b, off, none⟩ ∧ b < B ∧ w.cell? ⟨b, off + k * 7, none⟩ = some (.int .i64 xs[k].kind) ∧ w.cell? ⟨b, off + k * 7 + 1, none⟩ = some (.int .i64 xs[k].base) ∧ w.cell? ⟨b, off + k * 7 + 2, none⟩ = some (.int .i64 xs[k].bits) ∧ w.cell? ⟨b, off + k * 7 + 3, none⟩ = some (.int .i64 xs[k].rights) ∧ w.cell? ⟨b, off + k * 7 + 4, none⟩ = some (.int .i64 xs[k].width) ∧ w.cell? ⟨b, off + k * 7 + 5, none⟩ = some (.int .i64 xs[k].level) ∧ w.cell? ⟨b, off + k * 7 + 6, none⟩ = some (.bool xs[k].device) := by
  obtain ⟨b, off, rfl, hb, hc⟩ := h (by omega)
  exact ⟨b, off, rfl, hb, hc k hk 0 _ rfl, hc k hk 1 _ rfl, hc k hk 2 _ rfl, hc k hk 3 _ rfl, hc k hk 4 _ rfl, hc k hk 5 _ rfl, hc k hk 6 _ rfl⟩
set_option maxRecDepth 20000 in
set_option maxHeartbeats 2000000 in
theorem pCox_any (xs : List GV) (A : Option Addr) (c : Nat) (w : World) (h1 : ERow w w.heap.size A xs) (hl : xs.length ≤ 10000) (hv : ∀ x ∈ xs, vC x.e.node.cap = true) :
    Calls Tryz.prog 50 #[.slice A xs.length c] w fun e w' => e = .returned (.bool (coxE (xs.map GV.e))) ∧ Below w.heap.size w w' := by
  have H1 := Lib.hid h1
  have HST := Lib.hid fun k (hk : k < xs.length) => capsE_succ xs hk
  have HLN : Hid (∀ k, (capsE ((xs.map GV.e).take k)).length ≤ k) := Lib.hid fun k => by unfold capsE; simp; omega
  have HALL : Hid (capsE ((xs.map GV.e).take xs.length) = capsE (xs.map GV.e)) := Lib.hid (by rw [List.take_of_length_le (by simp)])
  have HD0 : Hid (capsE ((xs.map GV.e).take 0) = []) := Lib.hid (by simp [capsE])
  have HLL : Hid ((capsE (xs.map GV.e)).length = xs.length) := Lib.hid (by unfold capsE; simp)
  have HCA : Hid (∀ cs : List GC, cs.Perm (capsE (xs.map GV.e)) → cs.Pairwise nestLe → ((∀ i (h : i + 1 < cs.length), coexB cs[i] cs[i + 1] = true) → coxE (xs.map GV.e) = true) ∧ (∀ i (h : i + 1 < cs.length), coexB cs[i] cs[i + 1] = false → coxE (xs.map GV.e) = false)) := Lib.hid fun cs hp hs => by
    have h := coex_all (l := capsE (xs.map GV.e)) (s := cs) (fun x hx => by
      unfold capsE at hx
      obtain ⟨o, ho, rfl⟩ := List.mem_map.1 hx
      obtain ⟨y, hy, rfl⟩ := List.mem_map.1 ho
      exact hv y hy) hp hs
    unfold coxE
    refine ⟨fun h2 => decide_eq_true (h.1 h2), fun i hi h2 => decide_eq_false fun h3 => ?_⟩
    rw [h.2 h3 i hi] at h2
    cases h2
  have HMK := Lib.hid fun W => OwnG.made (enc := GC.cells) (w := W) elt_capZ
  have HCX := Lib.hid fun a b W => pCoe_any a b W
  generalize coxE (xs.map GV.e) = q at *
  generalize capsE (xs.map GV.e) = RL at *
  obtain ⟨D, hD⟩ : ∃ D : Nat → List GC, ∀ k, capsE ((xs.map GV.e).take k) = D k := ⟨_, fun _ => rfl⟩
  simp only [hD] at HST HLN HALL HD0
  clear h1 hD hv
  obtain ⟨wm, hmk, hom, hbm⟩ := HMK.out w w.heap.size xs.length (Nat.le_refl _) (by omega) (by omega)
  have HOM := Lib.hid hom
  have HBM := Lib.hid hbm
  clear hom hbm HMK
  go_enter Tryz.func50, Tryz.ntmps50
  go_wp2
  go_loopw [3, 12] (fun v3 vi wr => ∃ (k g c : Nat), vi = .int .i64 k ∧ k ≤ xs.length ∧ v3 = .slice (some ⟨g, 0, none⟩) (D k).length c ∧ Hid (OwnG GC.cells 28 7 wr w.heap.size (.slice (some ⟨g, 0, none⟩) (D k).length c) (D k)) ∧ Hid (Below w.heap.size w wr)) (fun _ vi _ => xs.length - (intOf vi).toNat)
  case atStart => exact ⟨0, _, _, rfl, Nat.zero_le _, by rw [HD0.out]; rfl, Lib.hid (by rw [HD0.out]; exact HOM.out), HBM⟩
  case round =>
    obtain ⟨k, g, cc, rfl, hk, rfl, HO, HB⟩ := hrel
    rcases Nat.lt_or_ge k xs.length with hlt | hge
    · clear hmk
      obtain ⟨b1, o1, rfl, hb1, ⟨x0, x1, x2, x3, x4, x5, x6, x7, x8, x9, x10, x11, x12⟩⟩ := (H1.out.next HB.out).row.gev hlt
      have HSK := Lib.hid (HST.out k hlt)
      have HLK := Lib.hid (HLN.out k)
      generalize xs[k] = x at *
      obtain ⟨⟨xc, xs', ⟨⟨i0, i1, i2⟩, xp, ⟨a0, a1, a2, a3, a4, a5, a6⟩⟩⟩, xA, xcp⟩ := x
      simp only at x0 x1 x2 x3 x4 x5 x6 x7 x8 x9 x10 x11 x12 HSK
      have HEB := Lib.hid (EB.new wr ⟨⟨xc, xs', ⟨⟨i0, i1, i2⟩, xp, ⟨a0, a1, a2, a3, a4, a5, a6⟩⟩⟩, xA, xcp⟩)
      simp only at HEB
      have HBX := Lib.hid (belt HB.out (.cells #[.int .i64 xc, .int .i64 xs', .int .i64 i0, .int .i64 i1, .int .i64 i2, .slice xA xp.length xcp, .int .i64 a0, .int .i64 a1, .int .i64 a2, .int .i64 a3, .int .i64 a4, .int .i64 a5, .bool a6] 32))
      have HO1 := Lib.hid (HO.out.alloc (.cells #[.int .i64 xc, .int .i64 xs', .int .i64 i0, .int .i64 i1, .int .i64 i2, .slice xA xp.length xcp, .int .i64 a0, .int .i64 a1, .int .i64 a2, .int .i64 a3, .int .i64 a4, .int .i64 a5, .bool a6] 32))
      obtain ⟨v9, w9, hrun9, hown9, hb9⟩ := OwnC.snocZ HO1.out HBX.out (Nat.le_refl _) HBX.out.size ⟨a0, a1, a2, a3, a4, a5, a6⟩ (by have := HLK.out; omega)
      obtain ⟨g9, c9, rfl⟩ := hown9.someG (by simp)
      simp only [World.size_alloc] at hrun9
      have HB9 := Lib.hid hb9
      have HO9 : Hid (OwnG GC.cells 28 7 w9 w.heap.size (.slice (some ⟨g9, 0, none⟩) (D (k + 1)).length c9) (D (k + 1))) := Lib.hid (by rw [HSK.out]; exact hown9)
      rw [← HSK.out] at hrun9
      have HRUN := Lib.hid hrun9
      clear hrun9 hown9 hb9
      generalize (D k).length = dl at *
      generalize hdl : (D (k + 1)).length = dl1 at *
      go_wp2_with (at_builtin; refine wpList_gapp HRUN.out rfl rfl rfl rfl rfl ?_)
      go_roundw
      case rel => exact ⟨k + 1, g9, c9, by go_num, by omega, by rw [hdl], by rw [hdl]; exact HO9, HB9⟩
      case measure => simp [intOf]; omega
    · obtain rfl : k = xs.length := by omega
      rw [HALL.out] at HO
      rw [HALL.out]
      have HSC := Lib.hid (sortC_own RL w.heap.size wr g cc HO.out (by rw [HLL.out]; omega))
      unfold SortCEnd at HSC
      have hlL := HLL.out
      rw [hlL] at HSC ⊢
      clear hk hge hmk
      have HBW := Lib.hid HB.out
      go_wp2_with fail
      go_fit HSC.out
      rintro e w5 ⟨rfl, cs, hperm, hsort, ho5, hg5⟩
      have HB5 := Lib.hid (HBW.out.grown hg5 HBW.out.size fun b e => by cases e; exact (HO.out.lt g rfl).1)
      obtain ⟨HCT0, HCF0⟩ := HCA.out cs hperm hsort
      have HCT := Lib.hid HCT0
      have HCF := Lib.hid HCF0
      have HCL : Hid (cs.length = RL.length) := Lib.hid hperm.length_eq
      have HR5 := Lib.hid (ho5.rowAt GC.len).2
      clear HCT0 HCF0 hperm hsort ho5 hg5 HSC HCA HO
      rw [hlL] at HCL
      clear hlL
      go_wp2
      go_loopw [6] (fun vi wr2 => ∃ k : Nat, vi = .int .i64 ((k : Int) + 1) ∧ k ≤ xs.length ∧ Hid (∀ i (h : i + 1 < cs.length), i < k → coexB cs[i] cs[i + 1] = true) ∧ Hid (Below w5.heap.size w5 wr2)) (fun vi _ => xs.length + 1 - (intOf vi).toNat)
      case atStart => exact ⟨0, rfl, Nat.zero_le _, Lib.hid fun i _ hi => absurd hi (by omega), Lib.hid (Below.refl _ _)⟩
      case round =>
        obtain ⟨k, rfl, hk, HT, HB6⟩ := hrel
        generalize wr = w6 at *
        rcases Nat.lt_or_ge (k + 1) xs.length with hlt | hge
        · have hk0 : k < cs.length := by have := HCL.out; omega
          have hk1 : k + 1 < cs.length := by have := HCL.out; omega
          obtain ⟨b1, o1, e1, hb1, x0, x1, x2, x3, x4, x5, x6⟩ := HR5.out.capZ hk0
          obtain ⟨b2, o2, e2, hb2, y0, y1, y2, y3, y4, y5, y6⟩ := HR5.out.capZ hk1
          cases e1
          cases e2
          simp only [Nat.zero_add] at x0 x1 x2 x3 x4 x5 x6 y0 y1 y2 y3 y4 y5 y6
          have HCK := Lib.hid fun W => HCX.out cs[k] cs[k + 1] W
          have HFK := Lib.hid (HCF.out k hk1)
          have HTK : Hid (coexB cs[k] cs[k + 1] = true → ∀ i (h : i + 1 < cs.length), i < k + 1 → coexB cs[i] cs[i + 1] = true) := Lib.hid fun hc i h hi => by
            rcases Nat.lt_or_ge i k with h2 | h2
            · exact HT.out i h h2
            · obtain rfl : i = k := by omega
              exact hc
          generalize coexB cs[k] cs[k + 1] = b at *
          generalize cs[k] = ca at *
          generalize cs[k + 1] = cb at *
          obtain ⟨p0, p1, p2, p3, p4, p5, p6⟩ := ca
          obtain ⟨q0, q1, q2, q3, q4, q5, q6⟩ := cb
          simp only [GC.val] at x0 x1 x2 x3 x4 x5 x6 y0 y1 y2 y3 y4 y5 y6 HCK
          have hwr : IntKind.i64.wrap (k : Int) = k := IntWalk.i64_in _ (by omega)
          have i0 : 0 ≤ (k : Int) := by omega
          have i1 : (k : Int) < (xs.length : Int) := by omega
          have i2 : (k : Int).toNat = k := by omega
          have i3 : 0 ≤ (k : Int) + 1 := by omega
          have i4 : (k : Int) + 1 < (xs.length : Int) := by omega
          have i5 : ((k : Int) + 1).toNat = k + 1 := by omega
          go_upto_region 11 with fail
          have hS : Below w5.heap.size w5 w6.drew := HB6.out.drew
          refine wp_region_growS (S := fun W => Below w5.heap.size w5 W) [(0, true), (1, true), (2, true), (3, true), (4, true), (5, true), (6, true), (7, true), (8, true), (9, false), (10, true)] (by kernel_rfl) (by kernel_rfl) (by kernel_rfl) (by kernel_rfl) (by intro c a d v w h; cases d <;> exact h) hS ?_
          iterate 9
            (first
              | (refine wpGrowS_float (v := ?_) (by simp only [List.getElem?_toArray, List.getElem?_cons_succ, List.getElem?_cons_zero]; rfl) (by rfl) ?_ ?_
                 rotate_left
                 · (intro W hW; have s0 := (hW.cell (p := ⟨_, _, none⟩) hb1).trans x0; have s1 := (hW.cell (p := ⟨_, _, none⟩) hb1).trans x1; have s2 := (hW.cell (p := ⟨_, _, none⟩) hb1).trans x2; have s3 := (hW.cell (p := ⟨_, _, none⟩) hb1).trans x3; have s4 := (hW.cell (p := ⟨_, _, none⟩) hb1).trans x4; have s5 := (hW.cell (p := ⟨_, _, none⟩) hb1).trans x5; have s6 := (hW.cell (p := ⟨_, _, none⟩) hb1).trans x6; have t0 := (hW.cell (p := ⟨_, _, none⟩) hb2).trans y0; have t1 := (hW.cell (p := ⟨_, _, none⟩) hb2).trans y1; have t2 := (hW.cell (p := ⟨_, _, none⟩) hb2).trans y2; have t3 := (hW.cell (p := ⟨_, _, none⟩) hb2).trans y3; have t4 := (hW.cell (p := ⟨_, _, none⟩) hb2).trans y4; have t5 := (hW.cell (p := ⟨_, _, none⟩) hb2).trans y5; have t6 := (hW.cell (p := ⟨_, _, none⟩) hb2).trans y6; (try simp only at *); go_simp; try with_reducible rfl)
                 simp only [Act.put, List.setIfInBounds_toArray, List.set_cons_zero, List.set_cons_succ])
              | (refine wpGrowS_skip (by simp only [List.getElem?_toArray, List.getElem?_cons_succ, List.getElem?_cons_zero]; rfl) (by rfl) ?_
                 simp only [Act.put, List.setIfInBounds_toArray, List.set_cons_zero, List.set_cons_succ]))
          refine wpGrowS_call (by simp only [List.getElem?_toArray, List.getElem?_cons_succ, List.getElem?_cons_zero]; rfl) (by rfl) fun K hK => ?_
          go_simp
          go_fit (HCK.out _)
          rintro e wn ⟨rfl, hbn⟩
          have hSp := hS
          have hS : Below w5.heap.size w5 wn := beln hS hbn
          go_simp
          refine hK _ _ hS ?_
          clear hK K
          try simp only [Act.put, List.setIfInBounds_toArray, List.set_cons_zero, List.set_cons_succ]
          iterate 1
            (first
              | (refine wpGrowS_float (v := ?_) (by simp only [List.getElem?_toArray, List.getElem?_cons_succ, List.getElem?_cons_zero]; rfl) (by rfl) ?_ ?_
                 rotate_left
                 · (intro W hW; have s0 := (hW.cell (p := ⟨_, _, none⟩) hb1).trans x0; have s1 := (hW.cell (p := ⟨_, _, none⟩) hb1).trans x1; have s2 := (hW.cell (p := ⟨_, _, none⟩) hb1).trans x2; have s3 := (hW.cell (p := ⟨_, _, none⟩) hb1).trans x3; have s4 := (hW.cell (p := ⟨_, _, none⟩) hb1).trans x4; have s5 := (hW.cell (p := ⟨_, _, none⟩) hb1).trans x5; have s6 := (hW.cell (p := ⟨_, _, none⟩) hb1).trans x6; have t0 := (hW.cell (p := ⟨_, _, none⟩) hb2).trans y0; have t1 := (hW.cell (p := ⟨_, _, none⟩) hb2).trans y1; have t2 := (hW.cell (p := ⟨_, _, none⟩) hb2).trans y2; have t3 := (hW.cell (p := ⟨_, _, none⟩) hb2).trans y3; have t4 := (hW.cell (p := ⟨_, _, none⟩) hb2).trans y4; have t5 := (hW.cell (p := ⟨_, _, none⟩) hb2).trans y5; have t6 := (hW.cell (p := ⟨_, _, none⟩) hb2).trans y6; (try simp only at *); go_simp; try with_reducible rfl)
                 simp only [Act.put, List.setIfInBounds_toArray, List.set_cons_zero, List.set_cons_succ])
              | (refine wpGrowS_skip (by simp only [List.getElem?_toArray, List.getElem?_cons_succ, List.getElem?_cons_zero]; rfl) (by rfl) ?_
                 simp only [Act.put, List.setIfInBounds_toArray, List.set_cons_zero, List.set_cons_succ]))
          refine wpGrowS_nil ?_
          have HBE := Lib.hid hS
          clear hS x0 x1 x2 x3 x4 x5 x6 y0 y1 y2 y3 y4 y5 y6 HCK
          rcases b with _ | _
          · have HF := Lib.hid (HFK.out rfl)
            have HBF := Lib.hid (beln HB5.out HBE.out)
            go_wp2
            go_ret
            exact ⟨congrArg (fun b => Ending.returned (Value.bool b)) HF.out.symm, HBF.out⟩
          · have HT2 := Lib.hid (HTK.out rfl)
            clear HTK HFK i0 i1 i2 i3 i5 hwr
            go_wp2
            go_roundw
            case rel => exact ⟨k + 1, by go_num, by omega, HT2, HBE⟩
            case measure => simp [intOf]; omega
        · have HF := Lib.hid (HCT.out fun i h => HT.out i h (by have := HCL.out; omega))
          have HBE := Lib.hid (beln HB5.out HB6.out)
          go_wp2
          go_ret
          exact ⟨congrArg (fun b => Ending.returned (Value.bool b)) HF.out.symm, HBE.out⟩
end Go.Proofs.YtndppbfdcceflaaGreatDoor


namespace Go.Proofs.YtndppbfdcceflaaGreatDoor
open Go.RowKit Go.ChangeShapes Go.WideShapes

theorem laidZ : laidOutB Tryz.prog = true := by kernel_rfl
theorem keyed_id : Maps.Keyed Tryz.prog 25 := Maps.Keyed.of_law (deep_law_laid laidZ (m := 3) (by decide) (by decide +kernel) (by kernel_rfl) (by kernel_rfl))
theorem map_und : Tryz.prog.underlying 115 = some (.map 25 30) := by kernel_rfl
/-- The first store into a map that the call has made. -/
theorem map_first (W : World) (b : Nat) (key val : Value) (kl : Lit) (hb : W.heap[b]? = some (.map #[] 0)) (hk : keyOf Tryz.prog 25 key = some kl) :
    (Instr.mapUpdate 115 (.map (some b)) key val).run Tryz.prog W = .ok () (ChangeMaps.setBlock W b (.map #[⟨key, val, 0⟩] 1)) := by
  have h1 : (Instr.findKey 25 key []).run Tryz.prog W = .ok none W := by
    rcases keyed_id.find W hk [] (fun e he => by cases he) with ⟨h, _⟩ | ⟨j, e, _, h, _⟩
    · exact h
    · simp at h
  simp [Instr.mapUpdate, run_underlying map_und, MapKept.run_getObj_map hb, keyed_id.check W false hk, h1, MapKept.run_setObj_map _ hb, Result.andThen, ChangeMaps.setBlock]
theorem below_setBlock {w W : World} (h : Below w.heap.size w W) {b : Nat} (hb : w.heap.size ≤ b) (o : Obj) : Below w.heap.size w (ChangeMaps.setBlock W b o) :=
  h.grown (row := some b) ⟨rfl, rfl, rfl, by simp [ChangeMaps.setBlock], fun i _ hi => by
    show (W.heap.setIfInBounds b o)[i]? = _
    rw [Array.getElem?_setIfInBounds_ne (fun e => hi (by rw [e]))]⟩ h.size (fun g e => by cases e; exact hb)
/-- The entry of the laws' sanity check. -/
def ex13 : GE := ⟨1, 2, ⟨⟨0, 1, 0⟩, [], ⟨1, 0, 8, 7, 0, 0, false⟩⟩⟩
theorem key13 : ∃ kl, keyOf Tryz.prog 25 (.agg #[.int .i64 0, .int .i64 1, .int .i64 0]) = some kl := Option.isSome_iff_exists.1 (by kernel_rfl)
theorem run_makeMapH (W : World) (n : Int) : (Instr.makeMap 115 (some (.int .i64 n))).run Tryz.prog W = .ok (.map (some W.heap.size)) (W.alloc (.map #[] 0)) := by
  simp [Instr.makeMap, run_underlying map_und, asInt, asIntOf, newObj, Sem.run, Result.andThen]
set_option maxRecDepth 20000 in
set_option maxHeartbeats 1000000 in
theorem pDsc1_any (x : GV) (hx : x.e = ex13) (A : Option Addr) (c : Nat) (w : World) (h1 : ERow w w.heap.size A [x]) :
    Calls Tryz.prog 51 #[.slice A 1 c] w fun e w' => e = .returned (.bool true) ∧ Below w.heap.size w w' := by
  obtain ⟨b1, o1, rfl, hb1, ⟨x0, x1, x2, x3, x4, x5, x6, x7, x8, x9, x10, x11, x12⟩⟩ := h1.row.gev (k := 0) (by simp)
  obtain ⟨xe, xA, xcp⟩ := x
  simp only at hx
  subst hx
  obtain ⟨kl, hkl⟩ := key13
  simp only [ex13, List.getElem_cons_zero, Nat.zero_mul, Nat.add_zero, List.length_nil] at x0 x1 x2 x3 x4 x5 x6 x7 x8 x9 x10 x11 x12
  clear h1
  go_enter Tryz.func51, Tryz.ntmps51
  have hmm := run_makeMapH w 1
  have HC : Hid (∀ W, Below w.heap.size w W → EVF W b1 o1 ⟨ex13, xA, xcp⟩) := Lib.hid fun W hW => (show EVF w b1 o1 ⟨ex13, xA, xcp⟩ from ⟨x0, x1, x2, x3, x4, x5, x6, x7, x8, x9, x10, x11, x12⟩).next hb1 hW
  have HM0 : Hid ((w.alloc (.map #[] 0)).heap[w.heap.size]? = some (.map #[] 0)) := Lib.hid (heap_alloc_new w _)
  have HB0 : Hid (Below w.heap.size w (w.alloc (.map #[] 0))) := Lib.hid (belt (Below.refl _ w) _)
  clear x0 x1 x2 x3 x4 x5 x6 x7 x8 x9 x10 x11 x12
  go_wp2
  clear hmm
  go_loopw [17] (fun vi wr => ∃ k : Nat, vi = .int .i64 k ∧ k ≤ 1 ∧ Hid (k = 0 → wr.heap[w.heap.size]? = some (.map #[] 0)) ∧ Hid (Below w.heap.size w wr)) (fun vi _ => 1 - (intOf vi).toNat)
  case atStart => exact ⟨0, rfl, Nat.zero_le _, Lib.hid fun _ => HM0.out, HB0⟩
  case round =>
    obtain ⟨k, rfl, hk, HM, HB⟩ := hrel
    obtain rfl | rfl : k = 0 ∨ k = 1 := by omega
    · obtain ⟨x0, x1, x2, x3, x4, x5, x6, x7, x8, x9, x10, x11, x12⟩ := HC.out _ HB.out
      simp only [ex13, List.length_nil] at x0 x1 x2 x3 x4 x5 x6 x7 x8 x9 x10 x11 x12
      have hlt : w.heap.size < wr.heap.size := by
        have h := HM.out rfl
        rcases Nat.lt_or_ge w.heap.size wr.heap.size with h1 | h1
        · exact h1
        · rw [Array.getElem?_eq_none h1] at h; cases h
      have hrun := map_first (wr.alloc (.cells #[.int .i64 1, .int .i64 2, .int .i64 0, .int .i64 1, .int .i64 0, .slice xA 0 xcp, .int .i64 1, .int .i64 0, .int .i64 8, .int .i64 7, .int .i64 0, .int .i64 0, .bool false] 32)) w.heap.size (.agg #[.int .i64 0, .int .i64 1, .int .i64 0]) (.agg #[.int .i64 0, .int .i64 1, .int .i64 0, .slice xA 0 xcp, .int .i64 1, .int .i64 0, .int .i64 8, .int .i64 7, .int .i64 0, .int .i64 0, .bool false]) kl ((Below.heap_alloc wr _ w.heap.size hlt).trans (HM.out rfl)) hkl
      have HB2 := Lib.hid (below_setBlock (belt HB.out (.cells #[.int .i64 1, .int .i64 2, .int .i64 0, .int .i64 1, .int .i64 0, .slice xA 0 xcp, .int .i64 1, .int .i64 0, .int .i64 8, .int .i64 7, .int .i64 0, .int .i64 0, .bool false] 32)) (Nat.le_refl _) (.map #[⟨.agg #[.int .i64 0, .int .i64 1, .int .i64 0], (.agg #[.int .i64 0, .int .i64 1, .int .i64 0, .slice xA 0 xcp, .int .i64 1, .int .i64 0, .int .i64 8, .int .i64 7, .int .i64 0, .int .i64 0, .bool false]), 0⟩] 1))
      have HEB := Lib.hid (EB.new wr ⟨ex13, xA, xcp⟩)
      simp only [ex13, List.length_nil] at HEB
      obtain ⟨y0, y1, y2, y3, y4, y5, y6, y7, y8, y9, y10, y11, y12⟩ := EBc (show EB (wr.alloc (.cells #[.int .i64 1, .int .i64 2, .int .i64 0, .int .i64 1, .int .i64 0, .slice xA 0 xcp, .int .i64 1, .int .i64 0, .int .i64 8, .int .i64 7, .int .i64 0, .int .i64 0, .bool false] 32)) wr.heap.size ⟨ex13, xA, xcp⟩ from HEB.out)
      simp only [ex13, List.length_nil] at y0 y1 y2 y3 y4 y5 y6 y7 y8 y9 y10 y11 y12
      go_wp2
      generalize ChangeMaps.setBlock (wr.alloc (.cells #[.int .i64 1, .int .i64 2, .int .i64 0, .int .i64 1, .int .i64 0, .slice xA 0 xcp, .int .i64 1, .int .i64 0, .int .i64 8, .int .i64 7, .int .i64 0, .int .i64 0, .bool false] 32)) w.heap.size (.map #[⟨.agg #[.int .i64 0, .int .i64 1, .int .i64 0], (.agg #[.int .i64 0, .int .i64 1, .int .i64 0, .slice xA 0 xcp, .int .i64 1, .int .i64 0, .int .i64 8, .int .i64 7, .int .i64 0, .int .i64 0, .bool false]), 0⟩] 1) = w3 at *
      go_roundw
      case rel => exact ⟨1, by go_num, by omega, Lib.hid fun h => absurd h (by omega), HB2⟩
      case measure => simp [intOf]
    · go_wp2
      go_loopw [30] (fun vi wr => ∃ k : Nat, vi = .int .i64 k ∧ k ≤ 1 ∧ Hid (Below w.heap.size w wr)) (fun vi _ => 1 - (intOf vi).toNat)
      case atStart => exact ⟨0, rfl, Nat.zero_le _, HB⟩
      case round =>
        obtain ⟨k, rfl, hk, HB3⟩ := hrel
        obtain rfl | rfl : k = 0 ∨ k = 1 := by omega
        · obtain ⟨x0, x1, x2, x3, x4, x5, x6, x7, x8, x9, x10, x11, x12⟩ := HC.out _ HB3.out
          simp only [ex13, List.length_nil] at x0 x1 x2 x3 x4 x5 x6 x7 x8 x9 x10 x11 x12
          generalize wr = w5 at *
          have HBX := Lib.hid (belt HB3.out (.cells #[.int .i64 1, .int .i64 2, .int .i64 0, .int .i64 1, .int .i64 0, .slice xA 0 xcp, .int .i64 1, .int .i64 0, .int .i64 8, .int .i64 7, .int .i64 0, .int .i64 0, .bool false] 32))
          have HEB := Lib.hid (EB.new w5 ⟨ex13, xA, xcp⟩)
          simp only [ex13, List.length_nil] at HEB
          obtain ⟨y0, y1, y2, y3, y4, y5, y6, y7, y8, y9, y10, y11, y12⟩ := EBc (show EB (w5.alloc (.cells #[.int .i64 1, .int .i64 2, .int .i64 0, .int .i64 1, .int .i64 0, .slice xA 0 xcp, .int .i64 1, .int .i64 0, .int .i64 8, .int .i64 7, .int .i64 0, .int .i64 0, .bool false] 32)) w5.heap.size ⟨ex13, xA, xcp⟩ from HEB.out)
          simp only [ex13, List.length_nil] at y0 y1 y2 y3 y4 y5 y6 y7 y8 y9 y10 y11 y12
          go_wp2
          go_loopw [38] (fun vi wr3 => vi = .int .i64 0 ∧ Hid (Below w.heap.size w wr3)) (fun _ _ => 0)
          case atStart => exact ⟨rfl, HBX⟩
          case round =>
            obtain ⟨rfl, HB4⟩ := hrel
            go_wp2
            go_roundw
            case rel => exact ⟨1, by go_num, by omega, HB4⟩
            case measure => simp [intOf]
        · go_wp2
          go_ret
          exact ⟨rfl, HB3.out⟩
theorem ex_ord : ordE [ex13] = true := by decide +kernel
theorem ex_cox : coxE [ex13] = true := by decide +kernel
theorem ex_vc : vC ex13.node.cap = true := by decide +kernel
theorem ex_ins : insR [] ex13 = [ex13] ∧ insB [] ex13 = true := by decide +kernel
theorem ex_at : fidx (pat 1 2) [ex13] = 0 := by decide +kernel
theorem ex_free : freeL ⟨0, 9⟩ (rngE [ex13]) = [⟨256, 8⟩] := by decide +kernel
set_option maxRecDepth 20000 in
set_option maxHeartbeats 1000000 in
theorem pVal1_any (x : GV) (hx : x.e = ex13) (A : Option Addr) (c : Nat) (w : World) (h1 : ERow w w.heap.size A [x]) :
    Calls Tryz.prog 16 #[.slice A 1 c] w fun e w' => e = .returned (.bool true) ∧ Below w.heap.size w w' := by
  have hm : [x].map GV.e = [ex13] := by simp [hx]
  have HO := Lib.hid fun W (hW : Below w.heap.size w W) => pOrd_any [x] A c W (h1.next hW) (by simp) (fun y hy => by rw [List.mem_singleton] at hy; subst hy; rw [hx]; simp [ex13])
  have HX := Lib.hid fun W (hW : Below w.heap.size w W) => pCox_any [x] A c W (h1.next hW) (by simp) (fun y hy => by rw [List.mem_singleton] at hy; subst hy; rw [hx]; exact ex_vc)
  have HD := Lib.hid fun W (hW : Below w.heap.size w W) => pDsc1_any x hx A c W (h1.next hW)
  rw [hm, ex_ord] at HO
  rw [hm, ex_cox] at HX
  simp only [List.length_singleton] at HO HX
  clear h1
  go_enter Tryz.func16, Tryz.ntmps16
  go_wp2_with fail
  go_fit (HO.out _ (Below.refl _ _))
  rintro e w1 ⟨rfl, hb1⟩
  have HB1 := Lib.hid hb1
  clear hb1 HO
  go_wp2_with fail
  go_fit (HX.out _ HB1.out)
  rintro e w2 ⟨rfl, hb2⟩
  have HB2 := Lib.hid (beln HB1.out hb2)
  clear hb2 HX
  go_wp2_with fail
  go_fit (HD.out _ HB2.out)
  rintro e w3 ⟨rfl, hb3⟩
  have HB3 := Lib.hid (beln HB2.out hb3)
  clear hb3 HD
  go_wp2
  go_ret
  exact ⟨rfl, HB3.out⟩
set_option maxRecDepth 20000 in
set_option maxHeartbeats 1000000 in
theorem awake13 (w : World) (hG : T10 w) : Calls Tryz.prog 14 #[] w fun e w' => e = .returned (.bool true) ∧ Below w.heap.size w w' := by
  have HIN := Lib.hid fun W => pInsE_any [] none 0 ⟨ex13, none, 0⟩ W ERow.nil (by simp) ⟨GRow.nil, by simp [ex13]⟩ (by simp) (fun y hy => by cases hy) (by simp [ex13])
  simp only [List.map_nil, ex_ins.1, ex_ins.2, List.length_nil] at HIN
  unfold OptEnd at HIN
  have HG := Lib.hid hG
  have HAT : Hid (∀ (x : GV) (hx : x.e = ex13) A c W, ERow W W.heap.size A [x] → Calls Tryz.prog 21 #[.slice A 1 c, .int .i64 1, .int .i64 2] W fun e w' => e = .returned (.tuple #[.int .i64 0, .bool true]) ∧ Below W.heap.size W w') := Lib.hid fun x hx A c W h => by
    have h2 := pAtE_any [x] A c 1 2 W h.row (by simp)
    rw [show [x].map GV.e = [ex13] by simp [hx], ex_at] at h2
    exact h2
  have HVA := Lib.hid fun x hx A c W h => pVal1_any x hx A c W h
  have HFR : Hid (∀ (x : GV) (hx : x.e = ex13) A c W, ERow W W.heap.size A [x] → T10 W → Calls Tryz.prog 41 #[.slice A 1 c, .agg #[.int .i64 0, .int .i64 9]] W (FreeEnd [⟨256, 8⟩] W)) := Lib.hid fun x hx A c W h hT => by
    have h2 := pFreE_any [x] A c ⟨0, 9⟩ W h (by simp) hT
    rw [show [x].map GV.e = [ex13] by simp [hx], ex_free] at h2
    exact h2
  unfold FreeEnd at HFR
  simp only [GV.val, ex13, List.length_nil] at HIN
  clear hG
  go_enter Tryz.func14, Tryz.ntmps14
  go_wp2_with fail
  go_fit (HIN.out _)
  rintro e w1 ⟨v, ys, rfl, ho, hm, hb1⟩
  obtain ⟨y, rfl, hy⟩ : ∃ y : GV, ys = [y] ∧ y.e = ex13 := by
    have hl : ys.length = 1 := by simpa using congrArg List.length hm
    obtain ⟨y, rfl⟩ := List.length_eq_one_iff.1 hl
    exact ⟨y, rfl, (List.cons.inj hm).1⟩
  obtain ⟨A1, c1, rfl, _, _, hr1⟩ := ho.erow
  have HR1 := Lib.hid hr1
  have HB1 := Lib.hid (beln (belt (Below.refl _ w) _) hb1)
  clear ho hm hb1 hr1 HIN
  simp only [List.length_singleton]
  go_wp2_with fail
  go_fit (HAT.out y hy A1 c1 _ HR1.out)
  rintro e w2 ⟨rfl, hb2⟩
  have HR2 := Lib.hid (HR1.out.next hb2)
  have HB2 := Lib.hid (beln HB1.out hb2)
  clear hb2 HR1 HB1 HAT
  go_wp2_with fail
  go_fit (HVA.out y hy A1 c1 _ HR2.out)
  rintro e w3 ⟨rfl, hb3⟩
  have HR3 := Lib.hid (HR2.out.next hb3)
  have HB3 := Lib.hid (beln HB2.out hb3)
  clear hb3 HR2 HB2 HVA
  go_wp2_with fail
  go_fit (HFR.out y hy A1 c1 _ HR3.out (T10.next HG.out HB3.out))
  rintro e w4 ⟨v4, rfl, ho4, hb4⟩
  obtain ⟨A4, c4, rfl, _, _, _⟩ := ho4.row GR.len
  have HB4 := Lib.hid (beln HB3.out hb4)
  clear hb4 ho4 HR3 HB3 HFR HG
  simp only [List.length_singleton]
  go_wp2
  go_ret
  exact ⟨rfl, HB4.out⟩
end Go.Proofs.YtndppbfdcceflaaGreatDoor


namespace Go.Proofs.YtndppbfdcceflaaGreatDoor
open Go.RowKit

theorem pthE_of {es : List GE} {i : GId} {k : Nat} (h : fidx (pid i) es = k) : ∃ hk : k < es.length, pthE es i = es[k].node.path := by
  obtain ⟨hk, hf, _⟩ := find_at h
  refine ⟨hk, ?_⟩
  unfold pthE
  rw [hf]
theorem pthE_no {es : List GE} {i : GId} (h : fidx (pid i) es < 0) : pthE es i = [] := by
  unfold pthE
  rw [find_no h]
theorem par_no {es : List GE} {i : GId} (h : fidx (pid i) es < 0) : parEI es i = ⟨0, 0, 0⟩ ∧ parEB es i = false := by
  unfold parEI parEB
  rw [pthE_no h]
  exact par_nil _
theorem par_at {xs : List GV} {i : GId} {k : Nat} (h : fidx (pid i) (xs.map GV.e) = k) : ∃ hk : k < xs.length, parEI (xs.map GV.e) i = parI xs[k].e.node.path (idsE (xs.map GV.e)) ∧ parEB (xs.map GV.e) i = parB xs[k].e.node.path (idsE (xs.map GV.e)) := by
  obtain ⟨hk, hp⟩ := pthE_of h
  have hk2 : k < xs.length := by simpa using hk
  refine ⟨hk2, ?_⟩
  unfold parEI parEB
  rw [hp]
  simp
set_option maxRecDepth 20000 in
set_option maxHeartbeats 2000000 in
theorem pParE_any (xs : List GV) (A : Option Addr) (c : Nat) (i : GId) (w : World) (h1 : ERow w w.heap.size A xs) (hl : xs.length ≤ 100000) (hp : ∀ x ∈ xs, x.e.node.path.length ≤ 17179869184) :
    Calls Tryz.prog 22 #[.slice A xs.length c, i.val] w fun e w' => e = .returned (.tuple #[(parEI (xs.map GV.e) i).val, .bool (parEB (xs.map GV.e) i)]) ∧ Below w.heap.size w w' := by
  have H1 := Lib.hid h1
  have HFI := Lib.hid fun W (hW : Below w.heap.size w W) => pFindE_any xs A c i W (h1.row.next hW) (by omega)
  have HX := Lib.hid ((IB.new w i).next (belt (Below.refl _ _) (.cells #[.int .i64 0, .int .i64 0, .int .i64 0] 25)))
  have HZ := Lib.hid (IB.new (w.alloc (.cells #[.int .i64 i.core, .int .i64 i.op, .int .i64 i.part] 25)) ⟨0, 0, 0⟩)
  simp only [World.size_alloc] at HZ
  have HB0 := Lib.hid (belt (belt (Below.refl _ w) (.cells #[.int .i64 i.core, .int .i64 i.op, .int .i64 i.part] 25)) (.cells #[.int .i64 0, .int .i64 0, .int .i64 0] 25))
  unfold findV at HFI
  rcases Int.lt_or_le (fidx (pid i) (xs.map GV.e)) 0 with hr | hr
  · obtain ⟨e1, e2⟩ := par_no hr
    rw [e1, e2]
    rw [show max (fidx (pid i) (xs.map GV.e)) 0 = 0 by omega, show decide (0 ≤ fidx (pid i) (xs.map GV.e)) = false by simp; omega] at HFI
    clear hr e1 e2 h1 hp
    obtain ⟨j0, j1, j2⟩ := i
    simp only [GId.val] at *
    obtain ⟨y0, y1, y2⟩ := HX.out.cells
    simp only at y0 y1 y2
    go_enter Tryz.func22, Tryz.ntmps22
    go_wp2_with fail
    go_fit (HFI.out _ HB0.out)
    rintro e w1 ⟨rfl, hb1⟩
    have HB1 := Lib.hid (beln HB0.out hb1)
    obtain ⟨z0, z1, z2⟩ := (HZ.out.next hb1).cells
    have zf := (HZ.out.next hb1).frz
    simp only at z0 z1 z2
    clear hb1 HFI y0 y1 y2
    go_wp2
    refine bodyPost_ret (v := .tuple #[.agg #[.int .i64 0, .int .i64 0, .int .i64 0], .bool false]) (by simp [results, Tryz.results22, go_sem, z0, z1, z2]) rfl ?_
    exact ⟨rfl, ((HB1.out.setCell (p := ⟨w.heap.size + 1, 0, none⟩) (by simp) _).setCell (p := ⟨w.heap.size + 1, 1, none⟩) (by simp) _).setCell (p := ⟨w.heap.size + 1, 2, none⟩) (by simp) _⟩
  · obtain ⟨r, hr2⟩ := Int.eq_ofNat_of_zero_le hr
    obtain ⟨hrl, e1, e2⟩ := par_at hr2
    rw [e1, e2]
    have HPR := Lib.hid fun L d W (hW : Below w.heap.size w W) (hL : PRow W W.heap.size L (idsE (xs.map GV.e))) => pPar_any xs[r].e.node xs[r].A xs[r].c (idsE (xs.map GV.e)) L d W ((h1.pth _ (List.getElem_mem hrl)).1.next hW) hL (hp _ (List.getElem_mem hrl)) (by unfold idsE; simp; omega)
    rw [show max (fidx (pid i) (xs.map GV.e)) 0 = (r : Int) by omega, show decide (0 ≤ fidx (pid i) (xs.map GV.e)) = true by simpa using hr] at HFI
    have HST := Lib.hid fun k (hk : k < xs.length) => idsE_succ xs hk
    have HLN : Hid (∀ k, (idsE ((xs.map GV.e).take k)).length ≤ k) := Lib.hid fun k => by unfold idsE; simp; omega
    have HALL : Hid (idsE ((xs.map GV.e).take xs.length) = idsE (xs.map GV.e)) := Lib.hid (by rw [List.take_of_length_le (by simp)])
    have HD0 : Hid (idsE ((xs.map GV.e).take 0) = []) := Lib.hid (by simp [idsE])
    have HLL : Hid ((idsE (xs.map GV.e)).length = xs.length) := Lib.hid (by unfold idsE; simp)
    have HMK := Lib.hid fun W => OwnG.made (enc := GId.cells) (w := W) elt_id
    have HRF : Hid (∀ W, Below w.heap.size w W → ∃ b off, A = some ⟨b, off, none⟩ ∧ b < W.heap.size ∧ EVF W b (off + r * 13) xs[r]) := Lib.hid fun W hW => (h1.next hW).row.gev hrl
    generalize parI xs[r].e.node.path (idsE (xs.map GV.e)) = pi at *
    generalize parB xs[r].e.node.path (idsE (xs.map GV.e)) = pb at *
    generalize idsE (xs.map GV.e) = RL at *
    obtain ⟨D, hD⟩ : ∃ D : Nat → List GId, ∀ k, idsE ((xs.map GV.e).take k) = D k := ⟨_, fun _ => rfl⟩
    simp only [hD] at HST HLN HALL HD0
    clear hr hr2 e1 e2 h1 hp hD
    unfold GN.val at HPR
    obtain ⟨j0, j1, j2⟩ := i
    simp only [GId.val] at *
    obtain ⟨y0, y1, y2⟩ := HX.out.cells
    simp only at y0 y1 y2
    go_enter Tryz.func22, Tryz.ntmps22
    go_wp2_with fail
    go_fit (HFI.out _ HB0.out)
    rintro e w1 ⟨rfl, hb1⟩
    have HB1 := Lib.hid (beln HB0.out hb1)
    have HZ1 := Lib.hid (HZ.out.next hb1)
    clear hb1 HFI y0 y1 y2 HX HZ HB0
    obtain ⟨wm, hmk, hom, hbm⟩ := HMK.out w1 w1.heap.size xs.length (Nat.le_refl _) (by omega) (by omega)
    have HOM := Lib.hid hom
    have HBM := Lib.hid hbm
    clear hom hbm HMK
    go_wp2
    go_loopw [8, 25] (fun v8 vi wr => ∃ k : Nat, vi = .int .i64 k ∧ k ≤ xs.length ∧ Hid (OwnG GId.cells 25 3 wr w1.heap.size v8 (D k)) ∧ Hid (Below w1.heap.size w1 wr)) (fun _ vi _ => xs.length - (intOf vi).toNat)
    case atStart => exact ⟨0, rfl, Nat.zero_le _, Lib.hid (by rw [HD0.out]; exact HOM.out), HBM⟩
    case round =>
      obtain ⟨k, rfl, hk, HO, HB⟩ := hrel
      have HBw := Lib.hid (beln HB1.out HB.out)
      rcases Nat.lt_or_ge k xs.length with hlt | hge
      · clear hmk
        obtain ⟨An, cn, rfl, hcn, hmn, hrn⟩ := HO.out.row GId.len
        clear hcn hmn hrn
        obtain ⟨b1, o1, rfl, hb1, ⟨x0, x1, x2, x3, x4, x5, x6, x7, x8, x9, x10, x11, x12⟩⟩ := (H1.out.next HBw.out).row.gev hlt
        have HSK := Lib.hid (HST.out k hlt)
        have HLK := Lib.hid (HLN.out k)
        generalize xs[k] = x at *
        obtain ⟨⟨xc, xs', ⟨⟨i0, i1, i2⟩, xp, ⟨a0, a1, a2, a3, a4, a5, a6⟩⟩⟩, xA, xcp⟩ := x
        simp only at x0 x1 x2 x3 x4 x5 x6 x7 x8 x9 x10 x11 x12 HSK
        have HBX := Lib.hid (belt HB.out (.cells #[.int .i64 xc, .int .i64 xs', .int .i64 i0, .int .i64 i1, .int .i64 i2, .slice xA xp.length xcp, .int .i64 a0, .int .i64 a1, .int .i64 a2, .int .i64 a3, .int .i64 a4, .int .i64 a5, .bool a6] 32))
        have HO1 := Lib.hid (HO.out.alloc (.cells #[.int .i64 xc, .int .i64 xs', .int .i64 i0, .int .i64 i1, .int .i64 i2, .slice xA xp.length xcp, .int .i64 a0, .int .i64 a1, .int .i64 a2, .int .i64 a3, .int .i64 a4, .int .i64 a5, .bool a6] 32))
        obtain ⟨v9, w9, hrun9, hown9, hb9⟩ := OwnI.snoc HO1.out HBX.out (Nat.le_refl _) HBX.out.size ⟨i0, i1, i2⟩ (by have := HLK.out; omega)
        simp only [World.size_alloc] at hrun9
        have HRUN := Lib.hid hrun9
        have HB9 := Lib.hid hb9
        have HO9 : Hid (OwnG GId.cells 25 3 w9 w1.heap.size v9 (D (k + 1))) := Lib.hid (by rw [HSK.out]; exact hown9)
        clear hrun9 hown9 hb9
        generalize (D k).length = dl at *
        go_wp2_with (at_builtin; refine wpList_gapp HRUN.out rfl rfl rfl rfl rfl ?_)
        go_roundw
        case rel => exact ⟨k + 1, by go_num, by omega, HO9, HB9⟩
        case measure => simp [intOf]; omega
      · obtain rfl : k = xs.length := by omega
        rw [HALL.out] at HO
        obtain ⟨An, cn, rfl, hcn, hmn, hrn⟩ := HO.out.row GId.len
        have HPX := Lib.hid (HPR.out An cn wr HBw.out hrn)
        obtain ⟨b1, o1, rfl, hb1, ⟨x0, x1, x2, x3, x4, x5, x6, x7, x8, x9, x10, x11, x12⟩⟩ := HRF.out _ HBw.out
        generalize hx : xs[r] = x at *
        obtain ⟨⟨xc, xs', ⟨⟨i0, i1, i2⟩, xp, ⟨a0, a1, a2, a3, a4, a5, a6⟩⟩⟩, xA, xcp⟩ := x
        simp only at x0 x1 x2 x3 x4 x5 x6 x7 x8 x9 x10 x11 x12 HPX
        clear hcn hmn hrn hmk hx HRF HPR
        rw [HLL.out] at HPX ⊢
        go_wp2_with fail
        go_fit HPX.out
        rintro e w2 ⟨rfl, hb2⟩
        have HB2 := Lib.hid (beln HBw.out hb2)
        obtain ⟨z0, z1, z2⟩ := ((HZ1.out.next HB.out).next hb2).cells
        have zf := ((HZ1.out.next HB.out).next hb2).frz
        simp only at z0 z1 z2
        obtain ⟨pi0, pi1, pi2⟩ := pi
        clear hb2 HPX x0 x1 x2 x3 x4 x5 x6 x7 x8 x9 x10 x11 x12
        go_wp2
        refine bodyPost_ret (v := .tuple #[.agg #[.int .i64 pi0, .int .i64 pi1, .int .i64 pi2], .bool pb]) (by simp [results, Tryz.results22, go_sem, z0, z1, z2]) rfl ?_
        exact ⟨rfl, ((HB2.out.setCell (p := ⟨w.heap.size + 1, 0, none⟩) (by simp) _).setCell (p := ⟨w.heap.size + 1, 1, none⟩) (by simp) _).setCell (p := ⟨w.heap.size + 1, 2, none⟩) (by simp) _⟩
set_option maxRecDepth 20000 in
set_option maxHeartbeats 1000000 in
theorem rIdsE_any (xs : List GV) (A : Option Addr) (c : Nat) (w : World) (h1 : GRow GV.cells 13 w w.heap.size A xs) (hl : xs.length ≤ 100000) :
    Calls Tryz.prog 63 #[.slice A xs.length c] w (IdsEnd (idsE (xs.map GV.e)) w) := by
  have H1 := Lib.hid h1
  have HST := Lib.hid fun k (hk : k < xs.length) => idsE_succ xs hk
  have HLN : Hid (∀ k, (idsE ((xs.map GV.e).take k)).length ≤ k) := Lib.hid fun k => by unfold idsE; simp; omega
  have HALL : Hid (idsE ((xs.map GV.e).take xs.length) = idsE (xs.map GV.e)) := Lib.hid (by rw [List.take_of_length_le (by simp)])
  have HD0 : Hid (idsE ((xs.map GV.e).take 0) = []) := Lib.hid (by simp [idsE])
  have HEND : Hid (∀ v W, OwnG GId.cells 25 3 W w.heap.size v (idsE (xs.map GV.e)) → Below w.heap.size w W → IdsEnd (idsE (xs.map GV.e)) w (.returned v) W) := Lib.hid fun v W h1 h2 => ⟨v, rfl, h1, h2⟩
  generalize IdsEnd (idsE (xs.map GV.e)) w = EE at *
  generalize idsE (xs.map GV.e) = RL at *
  obtain ⟨D, hD⟩ : ∃ D : Nat → List GId, ∀ k, idsE ((xs.map GV.e).take k) = D k := ⟨_, fun _ => rfl⟩
  simp only [hD] at HST HLN HALL HD0
  clear h1 hD
  go_enter Tryz.func63, Tryz.ntmps63
  go_wp2
  go_loopw [3, 4] (fun v3 vi wr => ∃ k : Nat, vi = .int .i64 k ∧ k ≤ xs.length ∧ Hid (OwnG GId.cells 25 3 wr w.heap.size v3 (D k)) ∧ Hid (Below w.heap.size w wr)) (fun _ vi _ => xs.length - (intOf vi).toNat)
  case atStart => exact ⟨0, rfl, Nat.zero_le _, Lib.hid (by rw [HD0.out]; exact OwnG.nil _ _), Lib.hid (Below.refl _ _)⟩
  case round =>
    obtain ⟨k, rfl, hk, HO, HB⟩ := hrel
    rcases Nat.lt_or_ge k xs.length with hlt | hge
    · obtain ⟨An, cn, rfl, hcn, hmn, hrn⟩ := HO.out.row GId.len
      clear hcn hmn hrn
      obtain ⟨b1, o1, rfl, hb1, ⟨x0, x1, x2, x3, x4, x5, x6, x7, x8, x9, x10, x11, x12⟩⟩ := (H1.out.next HB.out).gev hlt
      have HSK := Lib.hid (HST.out k hlt)
      have HLK := Lib.hid (HLN.out k)
      generalize xs[k] = x at *
      obtain ⟨⟨xc, xs', ⟨⟨i0, i1, i2⟩, xp, ⟨a0, a1, a2, a3, a4, a5, a6⟩⟩⟩, xA, xcp⟩ := x
      simp only at x0 x1 x2 x3 x4 x5 x6 x7 x8 x9 x10 x11 x12 HSK
      obtain ⟨v9, w9, hrun9, hown9, hb9⟩ := OwnI.snoc HO.out HB.out (Nat.le_refl _) HB.out.size ⟨i0, i1, i2⟩ (by have := HLK.out; omega)
      simp only at hrun9
      have HRUN := Lib.hid hrun9
      have HB9 := Lib.hid hb9
      have HO9 : Hid (OwnG GId.cells 25 3 w9 w.heap.size v9 (D (k + 1))) := Lib.hid (by rw [HSK.out]; exact hown9)
      clear hrun9 hown9 hb9
      generalize (D k).length = dl at *
      go_wp2_with (at_builtin; refine wpList_gapp HRUN.out rfl rfl rfl rfl rfl ?_)
      go_roundw
      case rel => exact ⟨k + 1, by go_num, by omega, HO9, HB9⟩
      case measure => simp [intOf]; omega
    · obtain rfl : k = xs.length := by omega
      rw [HALL.out] at HO
      go_wp2
      exact HEND.out _ _ HO.out HB.out
end Go.Proofs.YtndppbfdcceflaaGreatDoor
