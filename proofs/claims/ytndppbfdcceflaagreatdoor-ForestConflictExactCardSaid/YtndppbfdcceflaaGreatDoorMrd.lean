/-
  slices.SortFunc at ranges, by the program's comparison: a permutation, ascending.
  Conditions: the slice is one of the call's own.
-/
import Derived.Test.YtndppbfdcceflaaGreatDoorMrc
import Derived.Test.YtndppbfdcceflaaGreatDoorSortShelf
import Derived.Shelf.SlSortCmp.WholeK
namespace Go.Proofs.YtndppbfdcceflaaGreatDoor

open Go.RowKit Go.Shelf Go.Sort

theorem swo_rng : SWO (ltOf cmpR) := by
  refine ⟨fun x => ?_, fun x y z h1 h2 => ?_, fun x y z h1 h2 => ?_⟩
  · refine decide_eq_false ?_
    rw [cmp_lt]; omega
  · have g1 := of_decide_eq_true h1
    have g2 := of_decide_eq_true h2
    refine decide_eq_true ?_
    rw [cmp_lt] at *; omega
  · have g1 := of_decide_eq_false h1
    have g2 := of_decide_eq_false h2
    refine decide_eq_false ?_
    rw [cmp_lt] at *; omega
section

variable {α : Type} [Inhabited α]

theorem sortW_heap (enc : α → List Value) (k : Nat) (w : World) (blk off m : Nat) (dk : Array α) (os : Array Obj) (b : Nat) (hb : b < w.heap.size) (hne : b ≠ blk) : (sortWorldK enc k w blk off m dk os).heap[b]? = w.heap[b]? := by
  unfold sortWorldK putRowK putRow mapBlock grow Sort.ahead
  simp only
  rw [Array.getElem?_append_left (by simpa using hb), Array.getElem?_modify, if_neg (Ne.symm hne)]
theorem sortW_at (enc : α → List Value) (k : Nat) (w : World) (blk off m : Nat) (dk : Array α) (os : Array Obj) (cur : Array Value) (T : TypeId) (fz : Nat × Nat) (h : w.heap[blk]? = some (.cells cur T fz)) : (sortWorldK enc k w blk off m dk os).heap[blk]? = some (.cells (putCells id off (flatK enc k dk) cur) T fz) := by
  have hlt : blk < w.heap.size := by
    rcases Nat.lt_or_ge blk w.heap.size with h1 | h1
    · exact h1
    · rw [Array.getElem?_eq_none h1] at h; cases h
  unfold sortWorldK putRowK putRow mapBlock grow Sort.ahead
  simp only
  rw [Array.getElem?_append_left (by simpa using hlt), Array.getElem?_modify, if_pos rfl, h]
  rfl
theorem flat_gcells (enc : α → List Value) (k : Nat) (hk : ∀ x, (enc x).length = k) (d : Array α) : (flatK enc k d).toList = gcells enc d.toList := by
  refine List.ext_getElem? fun t => ?_
  rcases Nat.lt_or_ge t (d.size * k) with ht | ht
  · have k0 : 0 < k := by
      rcases Nat.eq_zero_or_pos k with h | h
      · subst h; simp at ht
      · exact h
    have hi : t / k < d.toList.length := by rw [Array.length_toList, Nat.div_lt_iff_lt_mul k0]; exact ht
    have hm : t % k < k := Nat.mod_lt _ k0
    have e : t / k * k + t % k = t := by rw [Nat.mul_comm]; exact Nat.div_add_mod t k
    have h1 := gcells_get hk d.toList (t / k) (t % k) hi hm
    rw [e] at h1
    rw [h1, Array.getElem?_toList, Array.getElem?_eq_getElem (by simpa using ht)]
    have h2 := get_flatK enc k d t ht
    rw [getElem!_pos _ t (by simpa using ht)] at h2
    rw [h2, getElem!_pos d (t / k) (by simpa using hi), List.getElem?_eq_getElem (by rw [hk]; exact hm)]
    rw [getElem!_pos _ _ (by rw [hk]; exact hm)]
    simp
  · rw [List.getElem?_eq_none (by simpa using ht), List.getElem?_eq_none (by rw [gcells_len hk, Array.length_toList]; exact ht)]
theorem put_take (F cur : Array Value) (h : F.size ≤ cur.size) : (putCells id 0 F cur).toList.take F.size = F.toList := by
  refine List.ext_getElem? fun t => ?_
  rcases Nat.lt_or_ge t F.size with ht | ht
  · rw [List.getElem?_take_of_lt ht, Array.getElem?_toList, Array.getElem?_toList, Array.getElem?_eq_getElem (by simp [putCells]; omega), Array.getElem?_eq_getElem ht]
    simp only [putCells, Array.getElem_mapIdx]
    rw [if_pos (by omega), Nat.sub_zero, getElem!_pos F t ht]
    rfl
  · rw [List.getElem?_eq_none (by simp; omega), List.getElem?_eq_none (by simpa using ht)]
end

theorem holdsK_own {α : Type} [Inhabited α] {enc : α → List Value} {T : TypeId} {k : Nat} (hk : ∀ x, (enc x).length = k) {w : World} {base g cap : Nat} {es : List α} (h : OwnG enc T k w base (.slice (some ⟨g, 0, none⟩) es.length cap) es) : HoldsK enc k w g 0 es.toArray := by
  rcases h.2 with ⟨hv, _⟩ | ⟨g', cap', cur, hv, hbs, hh, hn, hm, hs, ht⟩
  · cases hv
  · cases hv
    intro j hj
    have hj' : j < es.length * k := by simpa using hj
    have hfl := flat_gcells enc k hk es.toArray
    have e1 := World.ownsRow.cellAt h j hj'
    refine ⟨?_, Lib.frozen_of_heap hh _⟩
    rw [Nat.zero_add, e1]
    have e2 : (gcells enc es)[j]? = (flatK enc k es.toArray).toList[j]? := by rw [hfl]
    rw [e2, Array.getElem?_toList, Array.getElem?_eq_getElem (by simpa using hj'), getElem!_pos _ j (by simpa using hj')]
    rfl
set_option maxRecDepth 50000 in
theorem cmpLays_rng (w : World) (g n : Nat) : CmpLays Tryz.prog 129 #[] GR.cells 2 cmpR g 0 n w := by
  intro m os dk _ x y
  have h := cmpR_gr x y (sortWorldK GR.cells 2 w g 0 m dk os)
  rw [Array.append_empty]
  exact h
def SortREnd (es : List GR) (base : Nat) (w : World) (g cap : Nat) (e : Ending) (w' : World) : Prop :=
  e = .returned (.tuple #[]) ∧ ∃ es' : List GR, es'.Perm es ∧ es'.Pairwise leR ∧ OwnR w' base (.slice (some ⟨g, 0, none⟩) es.length cap) es' ∧ w.grownBy w' (some g)
set_option maxRecDepth 50000 in
set_option maxHeartbeats 1000000 in
theorem sortR_own (es : List GR) (base : Nat) (w : World) (g cap : Nat) (h : OwnR w base (.slice (some ⟨g, 0, none⟩) es.length cap) es) (hn : es.length < 4611686018427387904) :
    Calls Tryz.prog 128 #[.slice (some ⟨g, 0, none⟩) es.length cap, .func (.func 129) #[] #[]] w (SortREnd es base w g cap) := by
  have hg := h.lt g rfl
  have eg : ∀ args w, (callFunc 129 args).run Tryz.prog w = .ok (.enter 129 args) w := enters_of Tryz.func129 (by kernel_rfl) rfl
  have hcon := AnyQ.slices_SortFunc Tryz.sortF 2 Tryz.isAgg58 Tryz.sizeOf58 GR.cells GR.len GR.one cmpR swo_rng 129 #[] g 0 cap es.toArray w eg (cmpLays_rng w g _) (holdsK_own GR.len h) hg.2 (by simpa using hn)
  change Calls Tryz.prog 128 _ _ _ at hcon
  rw [show es.toArray.size = es.length by simp] at hcon
  refine hcon.mono ?_
  rintro e w' ⟨rfl, d', n, os, hp, hs, rfl⟩
  obtain ⟨hp1, _, hp3⟩ := hp
  have hds : d'.size = es.length := by simpa using hp1
  refine ⟨rfl, d'.toList, ?_, ?_, ?_, ?_⟩
  · have e1 : d'.extract 0 es.length = d' := by rw [← hds]; simp
    have e2 : es.toArray.extract 0 es.length = es.toArray := by simp
    rw [e1, e2] at hp3
    simpa using hp3
  · refine List.pairwise_iff_getElem.2 fun i j hi hj hij => ?_
    rw [Array.length_toList] at hi hj
    have := hs i j (Nat.zero_le _) hij (by omega)
    rw [getElem!_pos d' i hi, getElem!_pos d' j hj] at this
    have this : ¬ cmpR d'[j] d'[i] < 0 := of_decide_eq_false this
    rw [cmp_lt] at this
    unfold leR
    simp only [Array.getElem_toList]
    omega
  · rcases h.2 with ⟨hv, _⟩ | ⟨g', cap', cur, hv, hbs, hh, hn', hm, hss, ht⟩
    · cases hv
    · cases hv
      have hl : d'.toList.length = es.length := by rw [Array.length_toList, hds]
      refine ⟨gcells_len GR.len _, .inr ⟨g, cap, _, by rw [hl], hbs, sortW_at _ _ _ _ _ _ _ _ cur _ _ hh, by omega, hm, by simp [putCells, hss], ?_⟩⟩
      have hfs : (flatK GR.cells 2 d').size = d'.toList.length * 2 := by simp
      rw [← hfs, put_take _ _ (by simp; omega), flat_gcells _ _ GR.len]
  · refine ⟨rfl, rfl, rfl, size_sortWorldK_c _ _ _ _ _ _ _ _, fun b hlt hne => sortW_heap _ _ _ _ _ _ _ _ b hlt (by intro e; exact hne (by rw [e]))⟩
end Go.Proofs.YtndppbfdcceflaaGreatDoor
