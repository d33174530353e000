/-
  DERIVED: THE SHELF's CONTRACTS AT THIS DUMP, IN PLAIN WORDS (tools/lay-plain.mjs out of 'TryzSortLay.lean', which tools/lay-shelf.mjs wrote): THE SAME DECLARATIONS UNDER THE SAME NAMES: 'import', 'namespace', 'open', 'def', 'theorem' AND NOTHING ELSE: no command of the shelf's: FOR A HAND-IN. Each laying: the table of numbers ('.._ren') and one theorem, a field a fact of the dump's own or the kernel's comparison; each contract: ONE APPLICATION.
  slices.SortFunc at facts, by facts.Compare: a permutation, ascending.
  Conditions: the slice is one of the call's own; the facts' arguments lie in memory that the call does not turn.
  What facts.merged leans on: copies and sorts of whatever slice of facts, the merging of two ascending lists, an append inside a statement whose order is open.
  Conditions: as each theorem says.
-/
import Derived.Shelf.SlGeneric
import Derived.Shelf.SlSortCmp.WholeK
import Derived.Ground.SlsfProg
import Derived.Test.YtmodjokoggmnaaaGreatDoorProg
import Derived.Test.YtmodjokoggmnaaaGreatDoorMa17
namespace Go.Proofs
open Go.Shelf
def Tryz.sortF_ren : Go.Shelf.Ren := ⟨fun | 6 => 122 | 15 => 143 | 14 => 142 | 28 => 166 | 29 => 114 | 20 => 158 | 21 => 159 | 22 => 160 | 23 => 161 | 24 => 162 | 25 => 163 | 26 => 164 | 27 => 165 | 46 => 172 | 47 => 173 | 48 => 174 | 49 => 175 | 50 => 176 | 57 => 178 | n => n, fun | 22 => 22 | 24 => 37 | 25 => 44 | 3 => 3 | 39 => 140 | 0 => 0 | 53 => 156 | 55 => 50 | 4 => 4 | 46 => 168 | 45 => 167 | 50 => 172 | 5 => 5 | 9 => 9 | 66 => 178 | 70 => 182 | 76 => 189 | 77 => 190 | n => n, fun | n => n⟩
theorem Tryz.sortF : Go.Proofs.SlLaysF0.n6 Tryz.prog Tryz.sortF_ren := {
  mixed := by kernel_rfl
  f6 := ⟨Tryz.f122.name, by decide, Tryz.func122.trans (congrArg some (by kernel_rfl))⟩
  f14 := ⟨Tryz.f142.name, by decide, Tryz.func142.trans (congrArg some (by kernel_rfl))⟩
  f15 := Tryz.func143.trans (congrArg some (by kernel_rfl))
  f20 := ⟨Tryz.f158.name, by decide, Tryz.func158.trans (congrArg some (by kernel_rfl))⟩
  f21 := ⟨Tryz.f159.name, by decide, Tryz.func159.trans (congrArg some (by kernel_rfl))⟩
  f22 := ⟨Tryz.f160.name, by decide, Tryz.func160.trans (congrArg some (by kernel_rfl))⟩
  f23 := ⟨Tryz.f161.name, by decide, Tryz.func161.trans (congrArg some (by kernel_rfl))⟩
  f24 := ⟨Tryz.f162.name, by decide, Tryz.func162.trans (congrArg some (by kernel_rfl))⟩
  f25 := ⟨Tryz.f163.name, by decide, Tryz.func163.trans (congrArg some (by kernel_rfl))⟩
  f26 := ⟨Tryz.f164.name, by decide, Tryz.func164.trans (congrArg some (by kernel_rfl))⟩
  f27 := ⟨Tryz.f165.name, by decide, Tryz.func165.trans (congrArg some (by kernel_rfl))⟩
  f28 := Tryz.func166.trans (congrArg some (by kernel_rfl))
  f29 := Tryz.func114.trans (congrArg some (by kernel_rfl))
  f46 := ⟨Tryz.f172.name, by decide, Tryz.func172.trans (congrArg some (by kernel_rfl))⟩
  f47 := Tryz.func173.trans (congrArg some (by kernel_rfl))
  f48 := Tryz.func174.trans (congrArg some (by kernel_rfl))
  f49 := ⟨Tryz.f175.name, by decide, Tryz.func175.trans (congrArg some (by kernel_rfl))⟩
  f50 := ⟨Tryz.f176.name, by decide, Tryz.func176.trans (congrArg some (by kernel_rfl))⟩
  f57 := ⟨Tryz.f178.name, by decide, Tryz.func178.trans (congrArg some (by kernel_rfl))⟩
  t0 := Tryz.underlying0
  a0 := Tryz.isAgg0
  z0 := Tryz.sizeOf0
  v0 := Tryz.zeroValue0
  t3 := Tryz.underlying3
  a3 := Tryz.isAgg3
  z3 := Tryz.sizeOf3
  v3 := Tryz.zeroValue3
  t4 := Tryz.underlying4
  a4 := Tryz.isAgg4
  z4 := Tryz.sizeOf4
  v4 := Tryz.zeroValue4
  t5 := Tryz.underlying5
  a5 := Tryz.isAgg5
  z5 := Tryz.sizeOf5
  v5 := Tryz.zeroValue5
  t9 := Tryz.underlying9
  a9 := Tryz.isAgg9
  z9 := Tryz.sizeOf9
  v9 := Tryz.zeroValue9
  t22 := Tryz.underlying22
  a22 := Tryz.isAgg22
  z22 := Tryz.sizeOf22
  v22 := Tryz.zeroValue22
  t25 := Tryz.underlying44
  a25 := Tryz.isAgg44
  z25 := Tryz.sizeOf44
  v25 := Tryz.zeroValue44
  t39 := Tryz.underlying140
  a39 := Tryz.isAgg140
  z39 := Tryz.sizeOf140
  v39 := Tryz.zeroValue140
  t45 := Tryz.underlying167
  a45 := Tryz.isAgg167
  z45 := Tryz.sizeOf167
  v45 := Tryz.zeroValue167
  t46 := Tryz.underlying168
  a46 := Tryz.isAgg168
  z46 := Tryz.sizeOf168
  v46 := Tryz.zeroValue168
  t50 := Tryz.underlying172
  a50 := Tryz.isAgg172
  z50 := Tryz.sizeOf172
  v50 := Tryz.zeroValue172
  t53 := Tryz.underlying156
  a53 := Tryz.isAgg156
  z53 := Tryz.sizeOf156
  v53 := Tryz.zeroValue156
  t55 := Tryz.underlying50
  a55 := Tryz.isAgg50
  z55 := Tryz.sizeOf50
  v55 := Tryz.zeroValue50
  t66 := Tryz.underlying178
  a66 := Tryz.isAgg178
  z66 := Tryz.sizeOf178
  v66 := Tryz.zeroValue178
  t70 := Tryz.underlying182
  a70 := Tryz.isAgg182
  z70 := Tryz.sizeOf182
  v70 := Tryz.zeroValue182
  t76 := Tryz.underlying189
  a76 := Tryz.isAgg189
  z76 := Tryz.sizeOf189
  v76 := Tryz.zeroValue189
  t77 := Tryz.underlying190
  a77 := Tryz.isAgg190
  z77 := Tryz.sizeOf190
  v77 := Tryz.zeroValue190 }
end Go.Proofs


namespace Go.Proofs.YtmodjokoggmnaaaGreatDoor

open Go.RowKit Go.Shelf Go.Sort

theorem swo_fact (w0 : World) : SWO (ltOf (Elem.cf (w0 := w0))) := by
  refine ⟨fun x => ?_, fun x y z h1 h2 => ?_, fun x y z h1 h2 => ?_⟩
  · simp [ltOf, Elem.cf, ord_fact.self]
  · exact decide_eq_true (ord_fact.t _ _ _ (of_decide_eq_true h1) (of_decide_eq_true h2))
  · have g1 : ¬ cmpF x.fact y.fact < 0 := of_decide_eq_false h1
    have g2 : ¬ cmpF y.fact z.fact < 0 := of_decide_eq_false h2
    have g3 := (ord_fact.laws x.fact y.fact z.fact).2.1 (by omega) (by omega)
    exact decide_eq_false (show ¬ cmpF x.fact z.fact < 0 by omega)
section

variable {α : Type} [Inhabited α]

theorem sortW_heap (enc : α → List Value) (k : Nat) (w : World) (blk off m : Nat) (dk : Array α) (os : Array Obj) (b : Nat) (hb : b < w.heap.size) (hne : b ≠ blk) : (sortWorldK enc k w blk off m dk os).heap[b]? = w.heap[b]? := by
  unfold sortWorldK putRowK putRow mapBlock grow Sort.ahead
  simp only
  rw [Array.getElem?_append_left (by simpa using hb), Array.getElem?_modify, if_neg (Ne.symm hne)]
theorem sortW_at (enc : α → List Value) (k : Nat) (w : World) (blk off m : Nat) (dk : Array α) (os : Array Obj) (cur : Array Value) (T : TypeId) (fz : Nat × Nat) (h : w.heap[blk]? = some (.cells cur T fz)) : (sortWorldK enc k w blk off m dk os).heap[blk]? = some (.cells (putCells id off (flatK enc k dk) cur) T fz) := by
  have hlt : blk < w.heap.size := by
    rcases Nat.lt_or_ge blk w.heap.size with h1 | h1
    · exact h1
    · rw [Array.getElem?_eq_none h1] at h; cases h
  unfold sortWorldK putRowK putRow mapBlock grow Sort.ahead
  simp only
  rw [Array.getElem?_append_left (by simpa using hlt), Array.getElem?_modify, if_pos rfl, h]
  rfl
theorem flat_gcells (enc : α → List Value) (k : Nat) (hk : ∀ x, (enc x).length = k) (d : Array α) : (flatK enc k d).toList = gcells enc d.toList := by
  refine List.ext_getElem? fun t => ?_
  rcases Nat.lt_or_ge t (d.size * k) with ht | ht
  · have k0 : 0 < k := by
      rcases Nat.eq_zero_or_pos k with h | h
      · subst h; simp at ht
      · exact h
    have hi : t / k < d.toList.length := by rw [Array.length_toList, Nat.div_lt_iff_lt_mul k0]; exact ht
    have hm : t % k < k := Nat.mod_lt _ k0
    have e : t / k * k + t % k = t := by rw [Nat.mul_comm]; exact Nat.div_add_mod t k
    have h1 := gcells_get hk d.toList (t / k) (t % k) hi hm
    rw [e] at h1
    rw [h1, Array.getElem?_toList, Array.getElem?_eq_getElem (by simpa using ht)]
    have h2 := get_flatK enc k d t ht
    rw [getElem!_pos _ t (by simpa using ht)] at h2
    rw [h2, getElem!_pos d (t / k) (by simpa using hi), List.getElem?_eq_getElem (by rw [hk]; exact hm)]
    rw [getElem!_pos _ _ (by rw [hk]; exact hm)]
    simp
  · rw [List.getElem?_eq_none (by simpa using ht), List.getElem?_eq_none (by rw [gcells_len hk, Array.length_toList]; exact ht)]
theorem put_take (F cur : Array Value) (h : F.size ≤ cur.size) : (putCells id 0 F cur).toList.take F.size = F.toList := by
  refine List.ext_getElem? fun t => ?_
  rcases Nat.lt_or_ge t F.size with ht | ht
  · rw [List.getElem?_take_of_lt ht, Array.getElem?_toList, Array.getElem?_toList, Array.getElem?_eq_getElem (by simp [putCells]; omega), Array.getElem?_eq_getElem ht]
    simp only [putCells, Array.getElem_mapIdx]
    rw [if_pos (by omega), Nat.sub_zero, getElem!_pos F t ht]
    rfl
  · rw [List.getElem?_eq_none (by simp; omega), List.getElem?_eq_none (by simpa using ht)]
end

theorem holdsK_own {α : Type} [Inhabited α] {enc : α → List Value} {T : TypeId} {k : Nat} (hk : ∀ x, (enc x).length = k) {w : World} {base g cap : Nat} {es : List α} (h : OwnG enc T k w base (.slice (some ⟨g, 0, none⟩) es.length cap) es) : HoldsK enc k w g 0 es.toArray := by
  rcases h.2 with ⟨hv, _⟩ | ⟨g', cap', cur, hv, hbs, hh, hn, hm, hs, ht⟩
  · cases hv
  · cases hv
    intro j hj
    have hj' : j < es.length * k := by simpa using hj
    have hfl := flat_gcells enc k hk es.toArray
    have e1 := World.ownsRow.cellAt h j hj'
    refine ⟨?_, Lib.frozen_of_heap hh _⟩
    rw [Nat.zero_add, e1]
    have e2 : (gcells enc es)[j]? = (flatK enc k es.toArray).toList[j]? := by rw [hfl]
    rw [e2, Array.getElem?_toList, Array.getElem?_eq_getElem (by simpa using hj'), getElem!_pos _ j (by simpa using hj')]
    rfl
set_option maxRecDepth 50000 in
theorem cmpLays_fact {w0 : World} (w : World) (hb : RowKit.Below w0.heap.size w0 w) (g n : Nat) (hg : w0.heap.size ≤ g) :
    CmpLays Tryz.prog 94 #[] (Elem.enc (w0 := w0)) 2 Elem.cf g 0 n w := by
  intro m os dk _ x y
  have hkeep : ∀ b, b < w0.heap.size → (sortWorldK (Elem.enc (w0 := w0)) 2 w g 0 m dk os).heap[b]? = w0.heap[b]? := fun b hlt => (sortW_heap _ _ _ _ _ _ _ _ b (Nat.lt_of_lt_of_le hlt hb.size) (by omega)).trans (hb.block b hlt)
  have hsz : w0.heap.size ≤ (sortWorldK (Elem.enc (w0 := w0)) 2 w g 0 m dk os).heap.size := Nat.le_trans hb.size (size_sortWorldK_c _ _ _ _ _ _ _ _)
  have hx := (x.2.row.keep hkeep).wide hsz
  have hy := (y.2.row.keep hkeep).wide hsz
  have h := unionC_gr x.fact y.fact x.sf.A y.sf.A x.sf.c y.sf.c _ hx hy x.2.few y.2.few
  simp only [factV] at h
  have ex : Value.agg (Elem.enc x).toArray = .agg #[.string ⟨x.fact.rel.toArray⟩, .slice x.sf.A x.fact.args.length x.sf.c] := by
    have h1 := x.2.rel
    have h2 := x.2.n
    simp only [Elem.enc, SFact.cells, Elem.fact, Elem.sf]
    rw [h1, h2]
  have ey : Value.agg (Elem.enc y).toArray = .agg #[.string ⟨y.fact.rel.toArray⟩, .slice y.sf.A y.fact.args.length y.sf.c] := by
    have h1 := y.2.rel
    have h2 := y.2.n
    simp only [Elem.enc, SFact.cells, Elem.fact, Elem.sf]
    rw [h1, h2]
  rw [ex, ey, Array.append_empty]
  exact h
def SortEnd {w0 : World} (es : List (Elem w0)) (w : World) (g cap : Nat) (e : Ending) (w' : World) : Prop :=
  e = .returned (.tuple #[]) ∧ ∃ es' : List (Elem w0), es'.Perm es ∧ SortedE es' ∧ OwnG Elem.enc 37 2 w' w0.heap.size (.slice (some ⟨g, 0, none⟩) es.length cap) es' ∧ w.grownBy w' (some g)
set_option maxRecDepth 50000 in
set_option maxHeartbeats 1000000 in
theorem sortF_any {w0 : World} (es : List (Elem w0)) (w : World) (hb : RowKit.Below w0.heap.size w0 w) (g cap : Nat) (h : OwnG Elem.enc 37 2 w w0.heap.size (.slice (some ⟨g, 0, none⟩) es.length cap) es) (hn : es.length < 4611686018427387904) :
    Calls Tryz.prog 122 #[.slice (some ⟨g, 0, none⟩) es.length cap, .func (.func 94) #[] #[]] w (SortEnd es w g cap) := by
  have hg := h.lt g rfl
  have eg : ∀ args w, (callFunc 94 args).run Tryz.prog w = .ok (.enter 94 args) w := enters_of Tryz.func94 (by kernel_rfl) rfl
  have hcon := AnyQ.slices_SortFunc Tryz.sortF 2 Tryz.isAgg37 Tryz.sizeOf37 (Elem.enc (w0 := w0)) Elem.len Elem.one Elem.cf (swo_fact w0) 94 #[] g 0 cap es.toArray w eg (cmpLays_fact w hb g _ hg.1) (holdsK_own Elem.len h) hg.2 (by simpa using hn)
  change Calls Tryz.prog 122 _ _ _ at hcon
  rw [show es.toArray.size = es.length by simp] at hcon
  refine hcon.mono ?_
  rintro e w' ⟨rfl, d', n, os, hp, hs, rfl⟩
  obtain ⟨hp1, _, hp3⟩ := hp
  have hds : d'.size = es.length := by simpa using hp1
  refine ⟨rfl, d'.toList, ?_, ?_, ?_, ?_⟩
  · have e1 : d'.extract 0 es.length = d' := by rw [← hds]; simp
    have e2 : es.toArray.extract 0 es.length = es.toArray := by simp
    rw [e1, e2] at hp3
    simpa using hp3
  · refine List.pairwise_iff_getElem.2 fun i j hi hj hij => ?_
    rw [Array.length_toList] at hi hj
    have := hs i j (Nat.zero_le _) hij (by omega)
    rw [getElem!_pos d' i hi, getElem!_pos d' j hj] at this
    have this : ¬ Elem.cf d'[j] d'[i] < 0 := of_decide_eq_false this
    have hneg : Elem.cf d'[i] d'[j] = - Elem.cf d'[j] d'[i] := ord_fact.n _ _
    simp only [Array.getElem_toList]
    omega
  · rcases h.2 with ⟨hv, _⟩ | ⟨g', cap', cur, hv, hbs, hh, hn', hm, hss, ht⟩
    · cases hv
    · cases hv
      have hl : d'.toList.length = es.length := by rw [Array.length_toList, hds]
      refine ⟨gcells_len Elem.len _, .inr ⟨g, cap, _, by rw [hl], hbs, sortW_at _ _ _ _ _ _ _ _ cur _ _ hh, by omega, hm, by simp [putCells, hss], ?_⟩⟩
      have hfs : (flatK (Elem.enc (w0 := w0)) 2 d').size = d'.toList.length * 2 := by simp
      rw [← hfs, put_take _ _ (by simp; omega), flat_gcells _ _ Elem.len]
  · refine ⟨rfl, rfl, rfl, size_sortWorldK_c _ _ _ _ _ _ _ _, fun b hlt hne => sortW_heap _ _ _ _ _ _ _ _ b hlt (by intro e; exact hne (by rw [e]))⟩
end Go.Proofs.YtmodjokoggmnaaaGreatDoor


namespace Go.Proofs.YtmodjokoggmnaaaGreatDoor

open Go.RowKit Go.Shelf

/-- v is a slice (nil, or not) that holds the facts ss. -/
def RowV (w : World) (v : Value) (ss : List SFact) : Prop := (v = .slice none 0 0 ∧ ss = []) ∨ ∃ ad c, v = .slice (some ad) ss.length c ∧ GRow SFact.cells 2 w w.heap.size (some ad) ss
theorem RowV.next {w w' : World} {v : Value} {ss : List SFact} (h : RowV w v ss) (hb : RowKit.Below w.heap.size w w') : RowV w' v ss := by
  rcases h with h | ⟨ad, c, e, h⟩
  · exact .inl h
  · exact .inr ⟨ad, c, e, h.next hb⟩
def CloneEnd (ss : List SFact) (w : World) (e : Ending) (w' : World) : Prop := (∃ v, e = .returned v ∧ OwnG SFact.cells 37 2 w' w.heap.size v ss) ∧ RowKit.Below w.heap.size w w'
theorem clone_all (v : Value) (ss : List SFact) (w : World) (h : RowV w v ss) (hl : ss.length ≤ 1000000) : Calls Tryz.prog 121 #[v] w (CloneEnd ss w) := by
  rcases h with ⟨rfl, rfl⟩ | ⟨ad, c, rfl, h⟩
  · refine (cloneF_nil w).mono ?_
    rintro e w' ⟨rfl, rfl⟩
    exact ⟨⟨_, rfl, OwnG.nil _ _⟩, RowKit.Below.refl _ _⟩
  · exact (cloneF_any ss (some ad) c w h (by simp) hl).mono fun e w' h => h
def Elem.of {w0 : World} (s : SFact) (f : GFact) (h : FHold w0 w0.heap.size s f) : Elem w0 := ⟨(s, f), h⟩
theorem elems_of {w0 : World} : ∀ (ss : List SFact) (fs : List GFact), ss.length = fs.length → (∀ i (h1 : i < ss.length) (h2 : i < fs.length), FHold w0 w0.heap.size ss[i] fs[i]) → ∃ es : List (Elem w0), es.map Elem.sf = ss ∧ es.map Elem.fact = fs
  | [], [], _, _ => ⟨[], rfl, rfl⟩
  | [], _ :: _, h, _ => by simp at h
  | _ :: _, [], h, _ => by simp at h
  | s :: ss, f :: fs, h, hh => by
    obtain ⟨es, h1, h2⟩ := elems_of ss fs (by simpa using h) (fun i a b => by have := hh (i + 1) (by simpa using a) (by simpa using b); simpa using this)
    have h0 := hh 0 (by simp) (by simp)
    exact ⟨Elem.of s f h0 :: es, by rw [List.map_cons, h1]; rfl, by rw [List.map_cons, h2]; rfl⟩
theorem own_elem {w0 w : World} {base : Nat} {v : Value} {es : List (Elem w0)} (h : OwnG SFact.cells 37 2 w base v (es.map Elem.sf)) : OwnG Elem.enc 37 2 w base v es := by
  have e : gcells Elem.enc es = gcells SFact.cells (es.map Elem.sf) := by
    unfold gcells
    rw [List.flatMap_map]
    rfl
  unfold OwnG at *
  rw [e]
  rw [List.length_map] at h
  exact h
def SortAllEnd {w0 : World} (v : Value) (es : List (Elem w0)) (w : World) (e : Ending) (w' : World) : Prop :=
  e = .returned (.tuple #[]) ∧ ∃ es' : List (Elem w0), es'.Perm es ∧ SortedE es' ∧ OwnG Elem.enc 37 2 w' w0.heap.size v es' ∧ w.grownBy w' v.ownBlock
theorem sort_all {w0 : World} (v : Value) (es : List (Elem w0)) (w : World) (hb : RowKit.Below w0.heap.size w0 w) (h : OwnG Elem.enc 37 2 w w0.heap.size v es) (hn : es.length ≤ 1000000) :
    Calls Tryz.prog 122 #[v, .func (.func 94) #[] #[]] w (SortAllEnd v es w) := by
  rcases h.2 with ⟨hv, h0⟩ | ⟨g, cap, cur, hv, _⟩
  · have he : es = [] := List.eq_nil_of_length_eq_zero h0
    subst hv he
    refine (sort_tiny none 0 0 _ w (by omega)).mono ?_
    rintro e w' ⟨rfl, rfl⟩
    exact ⟨rfl, [], List.Perm.refl _, List.Pairwise.nil, OwnG.nil _ _, gb_refl _⟩
  · subst hv
    refine (sortF_any es w hb g cap h (by omega)).mono ?_
    rintro e w' ⟨rfl, es', h1, h2, h3, h4⟩
    exact ⟨rfl, es', h1, h2, h3, h4⟩
/-- Where the merging stands: out is done, xs and ys are left. -/
structure MergeI {w0 : World} (all out xs ys : List (Elem w0)) : Prop where
  a : SortedE (out ++ xs)
  b : SortedE (out ++ ys)
  p : (out ++ (xs ++ ys)).Perm all
theorem MergeI.swap {w0 : World} {all out xs ys : List (Elem w0)} (h : MergeI all out xs ys) : MergeI all out ys xs := ⟨h.b, h.a, (List.perm_append_comm.append_left out).trans h.p⟩
theorem MergeI.step {w0 : World} {all out xs ys : List (Elem w0)} {x y : Elem w0} (h : MergeI all out (x :: xs) (y :: ys)) (hle : ¬ Elem.cf y x < 0) : MergeI all (out ++ [x]) xs (y :: ys) := by
  have hxy : Elem.cf x y ≤ 0 := by have : Elem.cf x y = - Elem.cf y x := ord_fact.n _ _; omega
  refine ⟨by rw [List.append_assoc]; exact h.a, ?_, ?_⟩
  · have ha := h.a
    have hb := h.b
    unfold SortedE at *
    rw [List.pairwise_append] at ha hb
    rw [List.append_assoc, List.pairwise_append]
    refine ⟨ha.1, ?_, ?_⟩
    · rw [List.singleton_append, List.pairwise_cons]
      refine ⟨fun z hz => ?_, hb.2.1⟩
      rcases List.mem_cons.1 hz with rfl | hz
      · exact hxy
      · exact (ord_fact.laws _ _ _).1 hxy ((List.pairwise_cons.1 hb.2.1).1 z hz)
    · intro u hu z hz
      rcases List.mem_append.1 hz with hz | hz
      · simp at hz
        subst hz
        exact ha.2.2 u hu _ List.mem_cons_self
      · exact hb.2.2 u hu z hz
  · refine List.Perm.trans ?_ h.p
    rw [List.append_assoc]
    exact List.Perm.refl _
theorem MergeI.done {w0 : World} {all out xs ys : List (Elem w0)} (h : MergeI all out xs ys) (he : xs = [] ∨ ys = []) : SortedE (out ++ xs ++ ys) := by
  rcases he with rfl | rfl
  · rw [List.append_nil]; exact h.b
  · rw [List.append_nil]; exact h.a
theorem MergeI.start {w0 : World} {ea eb xs ys : List (Elem w0)} (h1 : xs.Perm ea) (h2 : ys.Perm eb) (s1 : SortedE xs) (s2 : SortedE ys) : MergeI (ea ++ eb) [] xs ys := ⟨s1, s2, h1.append h2⟩
/-- An append whose run is known, asx a step of a region that leaves its order open. -/
theorem step_gapp {S : TypeId} {ops : Array Oper} {o : Oper} {a : Act} {K : Act → World → Prop} {Q : Exit → Act → World → Prop} {E : Prop} {v y v' : Value} {W w' : World}
    (hrun : (Builtin.append_ #[S, S] S #[v, y]).run Tryz.prog W = .ok v' w') (hgd : o.guard = none) {s x : Operand}
    (ho : o.op = .call { callee := .builtin .append, args := #[s, x], argTypes := #[S, S] }) (hty : o.type = S) (hs : a.eval s = v) (hx : a.eval x = y)
    (h : K (a.put o.dst v') w') : if Region.wanted o (yielded ops a.tmps) = true then Oper.wp Tryz.prog o a W K Q else E := by
  have hw : Region.wanted o (yielded ops a.tmps) = true := by simp [Region.wanted, hgd]
  rw [if_pos hw]
  unfold Oper.wp execOp
  simp only [ho, hty, resolve, invoke, builtin, Sem.run_bind, Sem.run_pure, Result.andThen_ok, List.map_toArray, List.map_cons, List.map_nil, hs, hx, hrun]
  exact h
end Go.Proofs.YtmodjokoggmnaaaGreatDoor
