/-
  What facts.merged leans on: copies and sorts of whatever slice of facts, the merging of two ascending lists, an append inside a statement whose order is open.
  Conditions: as each theorem says.
  facts.merged: the facts of two slices, ascending, each once.
  Conditions: the slices hold at most 1000000 facts together.
  facts.union: the set of two lists, in new memory.
  Conditions: the lists have at most 1000000 facts together, each fact at most 1000000 arguments.
-/
import Derived.Test.YtmodjokoggmnaaaGreatDoorMa18
import Derived.Test.YtmodjokoggmnaaaGreatDoorMa14
namespace Go.Proofs.YtmodjokoggmnaaaGreatDoor

open Go.RowKit Go.Shelf

/-- v is a slice (nil, or not) that holds the facts ss. -/
def RowV (w : World) (v : Value) (ss : List SFact) : Prop := (v = .slice none 0 0 ∧ ss = []) ∨ ∃ ad c, v = .slice (some ad) ss.length c ∧ GRow SFact.cells 2 w w.heap.size (some ad) ss
theorem RowV.next {w w' : World} {v : Value} {ss : List SFact} (h : RowV w v ss) (hb : RowKit.Below w.heap.size w w') : RowV w' v ss := by
  rcases h with h | ⟨ad, c, e, h⟩
  · exact .inl h
  · exact .inr ⟨ad, c, e, h.next hb⟩
def CloneEnd (ss : List SFact) (w : World) (e : Ending) (w' : World) : Prop := (∃ v, e = .returned v ∧ OwnG SFact.cells 37 2 w' w.heap.size v ss) ∧ RowKit.Below w.heap.size w w'
theorem clone_all (v : Value) (ss : List SFact) (w : World) (h : RowV w v ss) (hl : ss.length ≤ 1000000) : Calls Tryz.prog 121 #[v] w (CloneEnd ss w) := by
  rcases h with ⟨rfl, rfl⟩ | ⟨ad, c, rfl, h⟩
  · refine (cloneF_nil w).mono ?_
    rintro e w' ⟨rfl, rfl⟩
    exact ⟨⟨_, rfl, OwnG.nil _ _⟩, RowKit.Below.refl _ _⟩
  · exact (cloneF_any ss (some ad) c w h (by simp) hl).mono fun e w' h => h
def Elem.of {w0 : World} (s : SFact) (f : GFact) (h : FHold w0 w0.heap.size s f) : Elem w0 := ⟨(s, f), h⟩
theorem elems_of {w0 : World} : ∀ (ss : List SFact) (fs : List GFact), ss.length = fs.length → (∀ i (h1 : i < ss.length) (h2 : i < fs.length), FHold w0 w0.heap.size ss[i] fs[i]) → ∃ es : List (Elem w0), es.map Elem.sf = ss ∧ es.map Elem.fact = fs
  | [], [], _, _ => ⟨[], rfl, rfl⟩
  | [], _ :: _, h, _ => by simp at h
  | _ :: _, [], h, _ => by simp at h
  | s :: ss, f :: fs, h, hh => by
    obtain ⟨es, h1, h2⟩ := elems_of ss fs (by simpa using h) (fun i a b => by have := hh (i + 1) (by simpa using a) (by simpa using b); simpa using this)
    have h0 := hh 0 (by simp) (by simp)
    exact ⟨Elem.of s f h0 :: es, by rw [List.map_cons, h1]; rfl, by rw [List.map_cons, h2]; rfl⟩
theorem own_elem {w0 w : World} {base : Nat} {v : Value} {es : List (Elem w0)} (h : OwnG SFact.cells 37 2 w base v (es.map Elem.sf)) : OwnG Elem.enc 37 2 w base v es := by
  have e : gcells Elem.enc es = gcells SFact.cells (es.map Elem.sf) := by
    unfold gcells
    rw [List.flatMap_map]
    rfl
  unfold OwnG at *
  rw [e]
  rw [List.length_map] at h
  exact h
def SortAllEnd {w0 : World} (v : Value) (es : List (Elem w0)) (w : World) (e : Ending) (w' : World) : Prop :=
  e = .returned (.tuple #[]) ∧ ∃ es' : List (Elem w0), es'.Perm es ∧ SortedE es' ∧ OwnG Elem.enc 37 2 w' w0.heap.size v es' ∧ w.grownBy w' v.ownBlock
theorem sort_all {w0 : World} (v : Value) (es : List (Elem w0)) (w : World) (hb : RowKit.Below w0.heap.size w0 w) (h : OwnG Elem.enc 37 2 w w0.heap.size v es) (hn : es.length ≤ 1000000) :
    Calls Tryz.prog 122 #[v, .func (.func 94) #[] #[]] w (SortAllEnd v es w) := by
  rcases h.2 with ⟨hv, h0⟩ | ⟨g, cap, cur, hv, _⟩
  · have he : es = [] := List.eq_nil_of_length_eq_zero h0
    subst hv he
    refine (sort_tiny none 0 0 _ w (by omega)).mono ?_
    rintro e w' ⟨rfl, rfl⟩
    exact ⟨rfl, [], List.Perm.refl _, List.Pairwise.nil, OwnG.nil _ _, gb_refl _⟩
  · subst hv
    refine (sortF_any es w hb g cap h (by omega)).mono ?_
    rintro e w' ⟨rfl, es', h1, h2, h3, h4⟩
    exact ⟨rfl, es', h1, h2, h3, h4⟩
/-- Where the merging stands: out is done, xs and ys are left. -/
structure MergeI {w0 : World} (all out xs ys : List (Elem w0)) : Prop where
  a : SortedE (out ++ xs)
  b : SortedE (out ++ ys)
  p : (out ++ (xs ++ ys)).Perm all
theorem MergeI.swap {w0 : World} {all out xs ys : List (Elem w0)} (h : MergeI all out xs ys) : MergeI all out ys xs := ⟨h.b, h.a, (List.perm_append_comm.append_left out).trans h.p⟩
theorem MergeI.step {w0 : World} {all out xs ys : List (Elem w0)} {x y : Elem w0} (h : MergeI all out (x :: xs) (y :: ys)) (hle : ¬ Elem.cf y x < 0) : MergeI all (out ++ [x]) xs (y :: ys) := by
  have hxy : Elem.cf x y ≤ 0 := by have : Elem.cf x y = - Elem.cf y x := ord_fact.n _ _; omega
  refine ⟨by rw [List.append_assoc]; exact h.a, ?_, ?_⟩
  · have ha := h.a
    have hb := h.b
    unfold SortedE at *
    rw [List.pairwise_append] at ha hb
    rw [List.append_assoc, List.pairwise_append]
    refine ⟨ha.1, ?_, ?_⟩
    · rw [List.singleton_append, List.pairwise_cons]
      refine ⟨fun z hz => ?_, hb.2.1⟩
      rcases List.mem_cons.1 hz with rfl | hz
      · exact hxy
      · exact (ord_fact.laws _ _ _).1 hxy ((List.pairwise_cons.1 hb.2.1).1 z hz)
    · intro u hu z hz
      rcases List.mem_append.1 hz with hz | hz
      · simp at hz
        subst hz
        exact ha.2.2 u hu _ List.mem_cons_self
      · exact hb.2.2 u hu z hz
  · refine List.Perm.trans ?_ h.p
    rw [List.append_assoc]
    exact List.Perm.refl _
theorem MergeI.done {w0 : World} {all out xs ys : List (Elem w0)} (h : MergeI all out xs ys) (he : xs = [] ∨ ys = []) : SortedE (out ++ xs ++ ys) := by
  rcases he with rfl | rfl
  · rw [List.append_nil]; exact h.b
  · rw [List.append_nil]; exact h.a
theorem MergeI.start {w0 : World} {ea eb xs ys : List (Elem w0)} (h1 : xs.Perm ea) (h2 : ys.Perm eb) (s1 : SortedE xs) (s2 : SortedE ys) : MergeI (ea ++ eb) [] xs ys := ⟨s1, s2, h1.append h2⟩
/-- An append whose run is known, asx a step of a region that leaves its order open. -/
theorem step_gapp {S : TypeId} {ops : Array Oper} {o : Oper} {a : Act} {K : Act → World → Prop} {Q : Exit → Act → World → Prop} {E : Prop} {v y v' : Value} {W w' : World}
    (hrun : (Builtin.append_ #[S, S] S #[v, y]).run Tryz.prog W = .ok v' w') (hgd : o.guard = none) {s x : Operand}
    (ho : o.op = .call { callee := .builtin .append, args := #[s, x], argTypes := #[S, S] }) (hty : o.type = S) (hs : a.eval s = v) (hx : a.eval x = y)
    (h : K (a.put o.dst v') w') : if Region.wanted o (yielded ops a.tmps) = true then Oper.wp Tryz.prog o a W K Q else E := by
  have hw : Region.wanted o (yielded ops a.tmps) = true := by simp [Region.wanted, hgd]
  rw [if_pos hw]
  unfold Oper.wp execOp
  simp only [ho, hty, resolve, invoke, builtin, Sem.run_bind, Sem.run_pure, Result.andThen_ok, List.map_toArray, List.map_cons, List.map_nil, hs, hx, hrun]
  exact h
end Go.Proofs.YtmodjokoggmnaaaGreatDoor


namespace Go.Proofs.YtmodjokoggmnaaaGreatDoor

open Go.RowKit Go.Shelf

def MergedEnd {w0 : World} (ea eb : List (Elem w0)) (e : Ending) (w' : World) : Prop :=
  ∃ v, ∃ es : List (Elem w0), e = .returned v ∧ OwnG Elem.enc 37 2 w' w0.heap.size v es ∧ StrictF (es.map Elem.fact) ∧ (∀ f, (∃ x ∈ es, x.fact = f) ↔ ∃ x ∈ ea ++ eb, x.fact = f) ∧ es.length ≤ ea.length + eb.length ∧ Below w0.heap.size w0 w'
theorem OwnG.apart {α β : Type} {enc : α → List Value} {enc2 : β → List Value} {T T2 : TypeId} {k k2 : Nat} {w w' : World} {base base2 : Nat} {v v2 : Value} {l : List α} {l2 : List β} (h : OwnG enc T k w base v l) (h2 : OwnG enc2 T2 k2 w base2 v2 l2) (hne : ∀ g, v.ownBlock = some g → g < base2) (hg : w.grownBy w' v2.ownBlock) : OwnG enc T k w' base v l :=
  h.keep fun g hgv => hg.block g (h.lt g hgv).2 (by
    intro e
    have h1 := (h2.lt g e.symm).1
    have h3 := hne g hgv
    omega)
def CompactAllEnd {w0 : World} (v : Value) (es : List (Elem w0)) (w : World) (e : Ending) (w' : World) : Prop :=
  ∃ v', e = .returned v' ∧ OwnG Elem.enc 37 2 w' w0.heap.size v' (compE es) ∧ w.grownBy w' v.ownBlock
theorem compE_tiny {w0 : World} {es : List (Elem w0)} (h : es.length ≤ 1) : compE es = es := by
  match es, h with
  | [], _ => rfl
  | [x], _ => rfl
theorem compact_all {w0 : World} (v : Value) (es : List (Elem w0)) (bx : Nat) (w : World) (hb : Below w0.heap.size w0 w) (hx : w.cell? ⟨bx, 0, none⟩ = some (.func (.func 94) #[] #[])) (hgx : ∀ g, v.ownBlock = some g → bx ≠ g) (h : OwnG Elem.enc 37 2 w w0.heap.size v es) (hn : es.length ≤ 1000000) :
    Calls Tryz.prog 123 #[v, .func (.func 124) #[] #[.pointer (some ⟨bx, 0, none⟩)]] w (CompactAllEnd v es w) := by
  rcases Nat.lt_or_ge 1 es.length with h2 | h2
  · rcases h.2 with ⟨_, h0⟩ | ⟨g, cap, cur, hv, _⟩
    · omega
    · subst hv
      refine (compactF_any es bx g cap w hb hx (hgx g rfl) h hn h2).mono ?_
      rintro e w' ⟨rfl, h1, h3⟩
      exact ⟨_, rfl, h1, h3⟩
  · obtain ⟨A, c, rfl, _, _, _⟩ := h.row Elem.len
    refine (compact_tiny A es.length c _ w h2).mono ?_
    rintro e w' ⟨rfl, rfl⟩
    exact ⟨_, rfl, by rw [compE_tiny h2]; exact h, gb_refl _⟩
theorem fact_elem : Tryz.prog.underlying 22 = some (.slice (Tryz.prog.elem 22)) := by kernel_rfl
theorem run_factSize (W : World) : (sizeOf (Tryz.prog.elem 22)).run Tryz.prog W = .ok 2 W := by kernel_rfl
theorem cut_tail {w0 w4 : World} (ba oa ca : Nat) (x : Elem w0) (us : List (Elem w0)) (hr : GRow Elem.enc 2 w4 w4.heap.size (some ⟨ba, oa, none⟩) (x :: us)) (hc : us.length + 1 ≤ ca) :
    ∃ Ax, (∀ W, (Instr.sliceAt 22 (.slice (some ⟨ba, oa, none⟩) (us.length + 1) ca) (some (.int .i64 1)) none none).run Tryz.prog W = .ok (.slice Ax us.length (ca - 1)) W) ∧ GRow Elem.enc 2 w4 w4.heap.size Ax us := by
  refine ⟨if ca = 1 then some ⟨ba, oa, none⟩ else some ⟨ba, oa + 2, none⟩, fun W => ?_, ?_⟩
  · rw [run_sliceAt_slice _ _ _ _ _ _ fact_elem, run_slice_l _ _ _ _ _ fact_elem .i64 1 (by omega) (by omega), run_factSize]
    by_cases h : ca = 1
    · simp [Result.andThen, sliced, h]
    · simp [Result.andThen, sliced, h, Addr.add]
  · by_cases h : ca = 1
    · have : us = [] := List.eq_nil_of_length_eq_zero (by omega)
      subst this
      exact GRow.nil
    · rw [if_neg h]
      exact hr.tail
def lenV : Value → Nat
  | .slice _ n _ => n
  | _ => 0
def MRel {w0 : World} (ea eb : List (Elem w0)) (w4 : World) (va vb vl : Value) (wr : World) : Prop :=
  ∃ (Aa Ab : Option Addr) (ca cb : Nat) (xs ys out : List (Elem w0)), va = .slice Aa xs.length ca ∧ vb = .slice Ab ys.length cb ∧ xs.length ≤ ca ∧ ca ≤ 9223372036854775807 ∧ ys.length ≤ cb ∧ cb ≤ 9223372036854775807 ∧ out.length + xs.length + ys.length ≤ 1000000 ∧
    Hid (GRow Elem.enc 2 w4 w4.heap.size Aa xs) ∧ Hid (GRow Elem.enc 2 w4 w4.heap.size Ab ys) ∧ Hid (OwnG Elem.enc 37 2 wr w4.heap.size vl out) ∧ Hid (MergeI (ea ++ eb) out xs ys) ∧ Hid (Below w4.heap.size w4 wr)
set_option maxRecDepth 50000 in
set_option maxHeartbeats 1000000 in
theorem merged_any {w0 : World} (va vb : Value) (ea eb : List (Elem w0)) (hva : RowV w0 va (ea.map Elem.sf)) (hvb : RowV w0 vb (eb.map Elem.sf)) (hn : ea.length + eb.length ≤ 1000000) :
    Calls Tryz.prog 93 #[va, vb, .func (.func 94) #[] #[]] w0 (MergedEnd ea eb) := by
  have hb0 := bel_lit (Below.refl w0.heap.size w0) (.cells #[.func (.func 94) #[] #[]] 44)
  have HC1 := Lib.hid (clone_all va _ (w0.alloc (.cells #[.func (.func 94) #[] #[]] 44)) (hva.next hb0) (by rw [List.length_map]; omega))
  have HVB := Lib.hid (hvb.next hb0)
  have hws : (w0.alloc (.cells #[.func (.func 94) #[] #[]] 44)).heap.size = w0.heap.size + 1 := by simp
  clear hva hvb
  go_enter Tryz.func93, Tryz.ntmps93
  go_wp2_with fail
  go_fit HC1.out
  rintro e w1 ⟨⟨v1, rfl, ho1⟩, hb1⟩
  have HC2 := Lib.hid (clone_all vb _ w1 (HVB.out.next hb1) (by rw [List.length_map]; omega))
  have k1 : w1.cell? ⟨w0.heap.size, 0, none⟩ = some (.func (.func 94) #[] #[]) := (hb1.cell (p := ⟨w0.heap.size, 0, none⟩) (by simp)).trans (by go_simp)
  rw [hws] at ho1
  have hs1 := hb1.size
  rw [hws] at hs1
  have HO1 := Lib.hid (own_elem ho1)
  have HB1 := Lib.hid (bel_next hb0 hb1)
  clear ho1 hb1 hb0
  go_wp2_with fail
  go_fit HC2.out
  rintro e w2 ⟨⟨v2, rfl, ho2⟩, hb2⟩
  have hs2 := hb2.size
  have HO2 := Lib.hid (own_elem ho2)
  have HO1b := Lib.hid ((HO1.out.next hb2).base (b' := w0.heap.size) (by omega))
  have HB2 := Lib.hid (bel_next HB1.out hb2)
  have k2 : w2.cell? ⟨w0.heap.size, 0, none⟩ = some (.func (.func 94) #[] #[]) := (hb2.cell (p := ⟨w0.heap.size, 0, none⟩) (by simp; omega)).trans k1
  have HL1 := Lib.hid HO1.out.lt
  have HS1 := Lib.hid (sort_all v1 ea w2 HB2.out HO1b.out (by omega))
  clear ho2 hb2 k1
  go_wp2_with fail
  go_fit HS1.out
  rintro e w3 ⟨rfl, xs, hp1, hs1', ho3, hg3⟩
  have HO2c := Lib.hid ((HO2.out.keep (fun g hgv => hg3.block g (HO2.out.lt g hgv).2 (by intro e; have h1 := (HO2.out.lt g hgv).1; have := (HL1.out g e.symm).2; omega))).base (b' := w0.heap.size) (by omega))
  have HL2 := Lib.hid HO2.out.lt
  have HB3 := Lib.hid (below_of_own HB2.out hg3 (fun g e => by have := (HL1.out g e).1; omega))
  have k3 : w3.cell? ⟨w0.heap.size, 0, none⟩ = some (.func (.func 94) #[] #[]) := (World.cell?_of_block (a := ⟨w0.heap.size, 0, none⟩) (hg3.block w0.heap.size (by omega) (by intro e; have := (HL1.out _ e.symm).1; omega))).trans k2
  have hs3 := hg3.size
  have HP1 := Lib.hid hp1
  have HS1' := Lib.hid hs1'
  have HO3 := Lib.hid ho3
  have HS2 := Lib.hid (sort_all v2 eb w3 HB3.out HO2c.out (by omega))
  clear hp1 hs1' ho3 hg3 k2 HC1 HC2 HS1 HVB
  go_wp2_with fail
  go_fit HS2.out
  rintro e w4 ⟨rfl, ys, hp2, hs2', ho4, hg4⟩
  have HO4a := Lib.hid (HO3.out.keep (fun g hgv => hg4.block g (HO3.out.lt g hgv).2 (by intro e; have h1 := (HL2.out g e.symm).1; have := (HL1.out g hgv).2; omega)))
  have HB4 := Lib.hid (below_of_own HB3.out hg4 (fun g e => by have := (HL2.out g e).1; omega))
  have k4 : w4.cell? ⟨w0.heap.size, 0, none⟩ = some (.func (.func 94) #[] #[]) := (World.cell?_of_block (a := ⟨w0.heap.size, 0, none⟩) (hg4.block w0.heap.size (by omega) (by intro e; have := (HL2.out _ e.symm).1; omega))).trans k3
  have hs4 := hg4.size
  have HM0 := Lib.hid (MergeI.start HP1.out hp2 HS1'.out hs2')
  have hlx : xs.length = ea.length := HP1.out.length_eq
  have hly : ys.length = eb.length := hp2.length_eq
  have hnx : xs.length + ys.length ≤ 1000000 := by omega
  clear hlx hly
  obtain ⟨A1, c1, rfl, hle1, hmx1, hr1⟩ := HO4a.out.row Elem.len
  obtain ⟨A2, c2, rfl, hle2, hmx2, hr2⟩ := ho4.row Elem.len
  have HR1 := Lib.hid hr1
  have HR2 := Lib.hid hr2
  obtain ⟨i0, z, hi0, hz0, hz1, hz2, _⟩ := elt_fact.inf
  obtain ⟨w5, hmk, hm0, hgm⟩ := run_make_own (P := Tryz.prog) w4 w4.heap.size 22 37 i0 z 2 elt_fact.und hi0 hz0 hz1 .i64 .i64 (xs.length + ys.length) (by rw [hz2]; omega) (by unfold maxLen; omega) (Nat.le_refl _)
  have hm : OwnG Elem.enc 37 2 w5 w4.heap.size (.slice (some ⟨w4.heap.size, 0, none⟩) 0 (xs.length + ys.length)) ([] : List (Elem w0)) := hm0
  have HOL := Lib.hid hm
  have hmk' : (Instr.makeSlice 22 (.int .i64 0) (.int .i64 ((xs.length : Int) + (ys.length : Int)))).run Tryz.prog w4 = .ok (.slice (some ⟨w4.heap.size, 0, none⟩) 0 (xs.length + ys.length)) w5 := by rw [← Int.natCast_add]; exact hmk
  have hwr : IntKind.i64.wrap ((xs.length : Int) + (ys.length : Int)) = (xs.length : Int) + (ys.length : Int) := IntWalk.i64_in _ (by omega)
  have HB5 := Lib.hid ((Below.refl w4.heap.size w4).grown hgm (Nat.le_refl _) (fun k hk => by cases hk))
  clear hp2 hs2' ho4 hg4 hr1 hr2 hm hm0 hmk hgm hi0 hz0 hz1 hz2 k3 HS2 HO4a HO3 HO2c HO2 HO1 HO1b HP1 HS1' HL1 HL2 HB1 HB2 HB3
  unfold maxLen at hmx1 hmx2
  have hbx : w0.heap.size < w4.heap.size := by omega
  go_wp2
  go_loopw [0, 1, 7] (fun va vb vl wr => MRel ea eb w4 va vb vl wr) (fun va vb _ _ => lenV va + lenV vb)
  case atStart => exact ⟨A1, A2, c1, c2, xs, ys, [], rfl, rfl, hle1, by omega, hle2, by omega, by simp; omega, HR1, HR2, HOL, HM0, HB5⟩
  case round =>
    clear HR1 HR2 HOL HM0 HB5 hle1 hle2 hmx1 hmx2 hmk' hwr hnx
    obtain ⟨Aa, Ab, ca, cb, us, vs, out, rfl, rfl, hla, hca, hlb, hcb, hnn, HRa, HRb, HOl, HMI, HBr⟩ := hrel
    have kr : wr.cell? ⟨w0.heap.size, 0, none⟩ = some (.func (.func 94) #[] #[]) := (HBr.out.cell (p := ⟨w0.heap.size, 0, none⟩) hbx).trans k4
    cases us with
    | nil =>
      obtain ⟨Al, cl, rfl, hll, hml, _⟩ := HOl.out.row Elem.len
      obtain ⟨v6, w6, hrun6, hown6, hgr6, _⟩ := OwnG.app elt_fact Elem.len Elem.one HOl.out ca ((HRa.out.below (Nat.le_refl _) HBr.out).wide HBr.out.size) HBr.out.size (by unfold maxLen; omega) (by omega)
      have hb6 : Below w4.heap.size w4 w6 := HBr.out.grown hgr6 HBr.out.size (fun g hg => (HOl.out.lt g hg).1)
      obtain ⟨A6, c6, rfl, _, _, _⟩ := hown6.row Elem.len
      obtain ⟨v7, w7, hrun7, hown7, hgr7, _⟩ := OwnG.app elt_fact Elem.len Elem.one hown6 cb ((HRb.out.below (Nat.le_refl _) hb6).wide hb6.size) hb6.size (by unfold maxLen; rw [List.length_append]; omega) (by rw [List.length_append]; omega)
      have hb7 : Below w4.heap.size w4 w7 := hb6.grown hgr7 hb6.size (fun g hg => (hown6.lt g hg).1)
      have hsd := HMI.out.done (.inl rfl)
      have hpm := HMI.out.p
      rw [← List.append_assoc] at hpm
      have hll7 := hpm.length_eq
      conv at hll7 => rhs; rw [List.length_append]
      have HCA := Lib.hid (compact_all v7 _ w0.heap.size w7 (bel_next HB4.out hb7) ((hb7.cell (p := ⟨w0.heap.size, 0, none⟩) hbx).trans k4) (fun g hg => by have := (hown7.lt g hg).1; omega) (hown7.base (b' := w0.heap.size) (by omega)) (by rw [List.length_append, List.length_append]; omega))
      have HL7 := Lib.hid hown7.lt
      have HEND : Hid (∀ v' w', OwnG Elem.enc 37 2 w' w0.heap.size v' (compE (out ++ [] ++ vs)) → w7.grownBy w' v7.ownBlock → MergedEnd ea eb (.returned v') w') := Lib.hid fun v' w' h1 h2 =>
        ⟨v', _, rfl, h1, compE_strict hsd, fun f => (compE_mem _ f).trans ⟨fun ⟨x, hx, e⟩ => ⟨x, hpm.mem_iff.1 hx, e⟩, fun ⟨x, hx, e⟩ => ⟨x, hpm.mem_iff.2 hx, e⟩⟩, Nat.le_trans (compE_len _) (Nat.le_of_eq hll7), (bel_next HB4.out hb7).grown h2 (bel_next HB4.out hb7).size (fun g e => by have := (hown7.lt g e).1; omega)⟩
      have HR6 := Lib.hid hrun6
      have HR7 := Lib.hid hrun7
      clear hrun6 hrun7 hown6 hown7 hgr6 hgr7 hb6 hb7 hsd hpm hll7
      have hmf : ∀ (fn : Fn) (first cap : Array Value) (w : World), (Instr.makeFunc fn first cap).run Tryz.prog w = .ok (.func fn first cap) w := fun _ _ _ _ => rfl
      simp only [List.length_nil, List.length_append, Nat.add_zero] at HR6 HR7
      go_wp2_with (at_builtin; (first | refine wpList_gapp (s := .tmp 51) (x := .tmp 52) HR6.out rfl rfl rfl rfl rfl ?_ | refine wpList_gapp (s := .tmp 53) (x := .tmp 54) HR7.out rfl rfl rfl rfl rfl ?_))
      go_fit HCA.out
      rintro e w8 ⟨v8, rfl, ho8, hg8⟩
      have HF := Lib.hid (HEND.out v8 w8 ho8 hg8)
      clear ho8 hg8 HEND HCA
      go_wp2
      go_ret
      exact HF.out
    | cons x us =>
      cases vs with
      | nil =>
        obtain ⟨Al, cl, rfl, hll, hml, _⟩ := HOl.out.row Elem.len
        obtain ⟨v6, w6, hrun6, hown6, hgr6, _⟩ := OwnG.app elt_fact Elem.len Elem.one HOl.out ca ((HRa.out.below (Nat.le_refl _) HBr.out).wide HBr.out.size) HBr.out.size (by unfold maxLen; omega) (by omega)
        have hb6 : Below w4.heap.size w4 w6 := HBr.out.grown hgr6 HBr.out.size (fun g hg => (HOl.out.lt g hg).1)
        obtain ⟨A6, c6, rfl, _, _, _⟩ := hown6.row Elem.len
        obtain ⟨v7, w7, hrun7, hown7, hgr7, _⟩ := OwnG.app elt_fact Elem.len Elem.one hown6 cb ((HRb.out.below (Nat.le_refl _) hb6).wide hb6.size) hb6.size (by unfold maxLen; rw [List.length_append]; omega) (by rw [List.length_append]; omega)
        have hb7 : Below w4.heap.size w4 w7 := hb6.grown hgr7 hb6.size (fun g hg => (hown6.lt g hg).1)
        have hsd := HMI.out.done (.inr rfl)
        have hpm := HMI.out.p
        rw [← List.append_assoc] at hpm
        have hll7 := hpm.length_eq
        conv at hll7 => rhs; rw [List.length_append]
        have HCA := Lib.hid (compact_all v7 _ w0.heap.size w7 (bel_next HB4.out hb7) ((hb7.cell (p := ⟨w0.heap.size, 0, none⟩) hbx).trans k4) (fun g hg => by have := (hown7.lt g hg).1; omega) (hown7.base (b' := w0.heap.size) (by omega)) (by rw [List.length_append, List.length_append]; omega))
        have HL7 := Lib.hid hown7.lt
        have HEND : Hid (∀ v' w', OwnG Elem.enc 37 2 w' w0.heap.size v' (compE (out ++ (x :: us) ++ [])) → w7.grownBy w' v7.ownBlock → MergedEnd ea eb (.returned v') w') := Lib.hid fun v' w' h1 h2 =>
          ⟨v', _, rfl, h1, compE_strict hsd, fun f => (compE_mem _ f).trans ⟨fun ⟨x, hx, e⟩ => ⟨x, hpm.mem_iff.1 hx, e⟩, fun ⟨x, hx, e⟩ => ⟨x, hpm.mem_iff.2 hx, e⟩⟩, Nat.le_trans (compE_len _) (Nat.le_of_eq hll7), (bel_next HB4.out hb7).grown h2 (bel_next HB4.out hb7).size (fun g e => by have := (hown7.lt g e).1; omega)⟩
        have HR6 := Lib.hid hrun6
        have HR7 := Lib.hid hrun7
        clear hrun6 hrun7 hown6 hown7 hgr6 hgr7 hb6 hb7 hsd hpm hll7
        have hmf : ∀ (fn : Fn) (first cap : Array Value) (w : World), (Instr.makeFunc fn first cap).run Tryz.prog w = .ok (.func fn first cap) w := fun _ _ _ _ => rfl
        simp only [List.length_cons, List.length_nil, List.length_append] at HR6 HR7
        go_wp2_with (at_builtin; (first | refine wpList_gapp (s := .tmp 51) (x := .tmp 52) HR6.out rfl rfl rfl rfl rfl ?_ | refine wpList_gapp (s := .tmp 53) (x := .tmp 54) HR7.out rfl rfl rfl rfl rfl ?_))
        go_fit HCA.out
        rintro e w8 ⟨v8, rfl, ho8, hg8⟩
        have HF := Lib.hid (HEND.out v8 w8 ho8 hg8)
        clear ho8 hg8 HEND HCA
        go_wp2
        go_ret
        exact HF.out
      | cons y vs =>
        obtain ⟨ba, oa, rfl, hba, hca'⟩ := HRa.out (by simp)
        obtain ⟨bb, ob, rfl, hbb, hcb'⟩ := HRb.out (by simp)
        have x0 := (HBr.out.cell (p := ⟨ba, oa, none⟩) hba).trans (hca' 0 (by simp) 0 _ rfl)
        have x1 := (HBr.out.cell (p := ⟨ba, oa + 1, none⟩) hba).trans (hca' 0 (by simp) 1 _ rfl)
        have y0 := (HBr.out.cell (p := ⟨bb, ob, none⟩) hbb).trans (hcb' 0 (by simp) 0 _ rfl)
        have y1 := (HBr.out.cell (p := ⟨bb, ob + 1, none⟩) hbb).trans (hcb' 0 (by simp) 1 _ rfl)
        simp only [List.getElem_cons_zero] at x0 x1 y0 y1
        clear hca' hcb'
        have HKS : Hid (∀ (W W' : World), (Below w4.heap.size w4 W ∧ W.cell? ⟨w0.heap.size, 0, none⟩ = some (.func (.func 94) #[] #[]) ∧ W.cell? ⟨ba, oa, none⟩ = some (.string ⟨x.sf.rel.toArray⟩) ∧ W.cell? ⟨ba, oa + 1, none⟩ = some (.slice x.sf.A x.sf.n x.sf.c) ∧ W.cell? ⟨bb, ob, none⟩ = some (.string ⟨y.sf.rel.toArray⟩) ∧ W.cell? ⟨bb, ob + 1, none⟩ = some (.slice y.sf.A y.sf.n y.sf.c)) → Below w4.heap.size W W' →
          (Below w4.heap.size w4 W' ∧ W'.cell? ⟨w0.heap.size, 0, none⟩ = some (.func (.func 94) #[] #[]) ∧ W'.cell? ⟨ba, oa, none⟩ = some (.string ⟨x.sf.rel.toArray⟩) ∧ W'.cell? ⟨ba, oa + 1, none⟩ = some (.slice x.sf.A x.sf.n x.sf.c) ∧ W'.cell? ⟨bb, ob, none⟩ = some (.string ⟨y.sf.rel.toArray⟩) ∧ W'.cell? ⟨bb, ob + 1, none⟩ = some (.slice y.sf.A y.sf.n y.sf.c))) := Lib.hid fun W W' h hb => by
          obtain ⟨h0, h1, h2, h3, h4, h5⟩ := h
          exact ⟨h0.trans hb, (hb.cell (p := ⟨w0.heap.size, 0, none⟩) hbx).trans h1, (hb.cell (p := ⟨ba, oa, none⟩) hba).trans h2, (hb.cell (p := ⟨ba, oa + 1, none⟩) hba).trans h3, (hb.cell (p := ⟨bb, ob, none⟩) hbb).trans h4, (hb.cell (p := ⟨bb, ob + 1, none⟩) hbb).trans h5⟩
        have HS0 := Lib.hid (show _ ∧ _ ∧ _ ∧ _ ∧ _ ∧ _ from ⟨HBr.out, kr, x0, x1, y0, y1⟩)
        have hS := HKS.out wr wr.drew HS0.out ((Below.refl _ _).drew)
        have HC := Lib.hid fun W (hW : Below w4.heap.size w4 W) => unionE_gr y x W (bel_next HB4.out hW)
        unfold Elem.val at HC
        have HST := Lib.hid fun h => HMI.out.step h
        have HSW := Lib.hid HMI.out.swap
        clear x0 x1 y0 y1 kr
        simp only [List.length_cons] at hla hlb hnn
        obtain ⟨Al, cl, rfl, hll, hml, _⟩ := HOl.out.row Elem.len
        by_cases hk : Elem.cf y x < 0
        · have fk : decide (Elem.cf y x < 0) = true := by simp; omega
          have HI2 := Lib.hid (HSW.out.step (show ¬ Elem.cf x y < 0 by have : Elem.cf x y = - Elem.cf y x := ord_fact.n _ _; omega))
          generalize Elem.cf y x = kk at *
          have HKG : Hid (∀ W W' : World, (Below w4.heap.size w4 W ∧ W.cell? ⟨w0.heap.size, 0, none⟩ = some (.func (.func 94) #[] #[]) ∧ W.cell? ⟨ba, oa, none⟩ = some (.string ⟨x.sf.rel.toArray⟩) ∧ W.cell? ⟨ba, oa + 1, none⟩ = some (.slice x.sf.A x.sf.n x.sf.c) ∧ W.cell? ⟨bb, ob, none⟩ = some (.string ⟨y.sf.rel.toArray⟩) ∧ W.cell? ⟨bb, ob + 1, none⟩ = some (.slice y.sf.A y.sf.n y.sf.c)) → Gr W W' → (Below w4.heap.size w4 W' ∧ W'.cell? ⟨w0.heap.size, 0, none⟩ = some (.func (.func 94) #[] #[]) ∧ W'.cell? ⟨ba, oa, none⟩ = some (.string ⟨x.sf.rel.toArray⟩) ∧ W'.cell? ⟨ba, oa + 1, none⟩ = some (.slice x.sf.A x.sf.n x.sf.c) ∧ W'.cell? ⟨bb, ob, none⟩ = some (.string ⟨y.sf.rel.toArray⟩) ∧ W'.cell? ⟨bb, ob + 1, none⟩ = some (.slice y.sf.A y.sf.n y.sf.c))) := Lib.hid fun W W' h g => HKS.out W W' h (g.bel.mono h.1.size)
          clear HS0
          go_upto_region 6 with fail
          go_region_held3 (fun W => Below w4.heap.size w4 W ∧ W.cell? ⟨w0.heap.size, 0, none⟩ = some (.func (.func 94) #[] #[]) ∧ W.cell? ⟨ba, oa, none⟩ = some (.string ⟨x.sf.rel.toArray⟩) ∧ W.cell? ⟨ba, oa + 1, none⟩ = some (.slice x.sf.A x.sf.n x.sf.c) ∧ W.cell? ⟨bb, ob, none⟩ = some (.string ⟨y.sf.rel.toArray⟩) ∧ W.cell? ⟨bb, ob + 1, none⟩ = some (.slice y.sf.A y.sf.n y.sf.c))
            (assumption)
            (first | (go_at_call 94; go_fit (HC.out _ (And.left (by assumption))); rintro e wq ⟨rfl, hgn⟩; have hSn := HKG.out _ _ (by assumption) hgn))
          have HSq := Lib.hid hSn
          have HOq := Lib.hid (HOl.out.next (gr_next (Gr.refl wr).drew hgn).bel)
          clear hS hSn hgn HOl HC HKG
          obtain ⟨Ax, hsl, hrx⟩ := cut_tail bb ob cb y vs HRb.out (by omega)
          have HRX := Lib.hid hrx
          have hlit := GRow.lit Elem.len wq.drew 37 [y] #[.string ⟨y.sf.rel.toArray⟩, .slice y.sf.A y.sf.n y.sf.c] rfl (by unfold maxLen; simp)
          obtain ⟨v8, w8, hrun8, hown8, hgr8, _⟩ := OwnG.app elt_fact Elem.len Elem.one ((HOq.out.next ((Below.refl _ _).drew)).alloc (.cells #[.string ⟨y.sf.rel.toArray⟩, .slice y.sf.A y.sf.n y.sf.c] 37)) 1 hlit (by have := HSq.out.1.size; simp; omega) (by unfold maxLen; simp; omega) (by simp; omega)
          have hs8d := HKS.out _ _ HSq.out ((Below.refl _ _).drew)
          have hs8a := HKS.out _ _ hs8d ((Below.refl w4.heap.size wq.drew).alloc HSq.out.1.size (.cells #[.string ⟨y.sf.rel.toArray⟩, .slice y.sf.A y.sf.n y.sf.c] 37))
          have hs8b := HKS.out _ _ hs8a ((Below.refl w4.heap.size _).grown hgr8 (by have := HSq.out.1.size; simp; omega) (fun g hg => (HOq.out.lt g hg).1))
          obtain ⟨A8, c8, rfl, _, _, _⟩ := hown8.row Elem.len
          have HR8 := Lib.hid hrun8
          have HO8 := Lib.hid hown8
          have HB8 := Lib.hid hs8b.1
          clear hrun8 hown8 hgr8 hlit hrx HKS
          simp only [List.length_cons, List.length_nil, List.length_append, Nat.zero_add] at HR8
          go_upto_region 8 with fail
          go_region_held3 (fun W => Below w4.heap.size w4 W ∧ W.cell? ⟨w0.heap.size, 0, none⟩ = some (.func (.func 94) #[] #[]) ∧ W.cell? ⟨ba, oa, none⟩ = some (.string ⟨x.sf.rel.toArray⟩) ∧ W.cell? ⟨ba, oa + 1, none⟩ = some (.slice x.sf.A x.sf.n x.sf.c) ∧ W.cell? ⟨bb, ob, none⟩ = some (.string ⟨y.sf.rel.toArray⟩) ∧ W.cell? ⟨bb, ob + 1, none⟩ = some (.slice y.sf.A y.sf.n y.sf.c))
            (assumption)
            (first | (refine step_gapp HR8.out rfl rfl rfl rfl rfl ?_))
          go_wp2
          refine ⟨⟨Ax, some ⟨ba, oa, none⟩, cb - 1, ca, vs, x :: us, out ++ [y], rfl, rfl, by omega, by omega, by simpa using hla, hca, by simp; omega, HRX, HRa, Lib.hid (by have := HO8.out; rw [List.length_append] at this; exact this), HI2, HB8⟩, by simp [lenV]; omega⟩
        · have fk : decide (Elem.cf y x < 0) = false := by simp; omega
          have HI2 := Lib.hid (HST.out hk)
          generalize Elem.cf y x = kk at *
          have HKG : Hid (∀ W W' : World, (Below w4.heap.size w4 W ∧ W.cell? ⟨w0.heap.size, 0, none⟩ = some (.func (.func 94) #[] #[]) ∧ W.cell? ⟨ba, oa, none⟩ = some (.string ⟨x.sf.rel.toArray⟩) ∧ W.cell? ⟨ba, oa + 1, none⟩ = some (.slice x.sf.A x.sf.n x.sf.c) ∧ W.cell? ⟨bb, ob, none⟩ = some (.string ⟨y.sf.rel.toArray⟩) ∧ W.cell? ⟨bb, ob + 1, none⟩ = some (.slice y.sf.A y.sf.n y.sf.c)) → Gr W W' → (Below w4.heap.size w4 W' ∧ W'.cell? ⟨w0.heap.size, 0, none⟩ = some (.func (.func 94) #[] #[]) ∧ W'.cell? ⟨ba, oa, none⟩ = some (.string ⟨x.sf.rel.toArray⟩) ∧ W'.cell? ⟨ba, oa + 1, none⟩ = some (.slice x.sf.A x.sf.n x.sf.c) ∧ W'.cell? ⟨bb, ob, none⟩ = some (.string ⟨y.sf.rel.toArray⟩) ∧ W'.cell? ⟨bb, ob + 1, none⟩ = some (.slice y.sf.A y.sf.n y.sf.c))) := Lib.hid fun W W' h g => HKS.out W W' h (g.bel.mono h.1.size)
          clear HS0
          go_upto_region 6 with fail
          go_region_held3 (fun W => Below w4.heap.size w4 W ∧ W.cell? ⟨w0.heap.size, 0, none⟩ = some (.func (.func 94) #[] #[]) ∧ W.cell? ⟨ba, oa, none⟩ = some (.string ⟨x.sf.rel.toArray⟩) ∧ W.cell? ⟨ba, oa + 1, none⟩ = some (.slice x.sf.A x.sf.n x.sf.c) ∧ W.cell? ⟨bb, ob, none⟩ = some (.string ⟨y.sf.rel.toArray⟩) ∧ W.cell? ⟨bb, ob + 1, none⟩ = some (.slice y.sf.A y.sf.n y.sf.c))
            (assumption)
            (first | (go_at_call 94; go_fit (HC.out _ (And.left (by assumption))); rintro e wq ⟨rfl, hgn⟩; have hSn := HKG.out _ _ (by assumption) hgn))
          have HSq := Lib.hid hSn
          have HOq := Lib.hid (HOl.out.next (gr_next (Gr.refl wr).drew hgn).bel)
          clear hS hSn hgn HOl HC HKG
          obtain ⟨Ax, hsl, hrx⟩ := cut_tail ba oa ca x us HRa.out (by omega)
          have HRX := Lib.hid hrx
          have hlit := GRow.lit Elem.len wq.drew 37 [x] #[.string ⟨x.sf.rel.toArray⟩, .slice x.sf.A x.sf.n x.sf.c] rfl (by unfold maxLen; simp)
          obtain ⟨v8, w8, hrun8, hown8, hgr8, _⟩ := OwnG.app elt_fact Elem.len Elem.one ((HOq.out.next ((Below.refl _ _).drew)).alloc (.cells #[.string ⟨x.sf.rel.toArray⟩, .slice x.sf.A x.sf.n x.sf.c] 37)) 1 hlit (by have := HSq.out.1.size; simp; omega) (by unfold maxLen; simp; omega) (by simp; omega)
          have hs8d := HKS.out _ _ HSq.out ((Below.refl _ _).drew)
          have hs8a := HKS.out _ _ hs8d ((Below.refl w4.heap.size wq.drew).alloc HSq.out.1.size (.cells #[.string ⟨x.sf.rel.toArray⟩, .slice x.sf.A x.sf.n x.sf.c] 37))
          have hs8b := HKS.out _ _ hs8a ((Below.refl w4.heap.size _).grown hgr8 (by have := HSq.out.1.size; simp; omega) (fun g hg => (HOq.out.lt g hg).1))
          obtain ⟨A8, c8, rfl, _, _, _⟩ := hown8.row Elem.len
          have HR8 := Lib.hid hrun8
          have HO8 := Lib.hid hown8
          have HB8 := Lib.hid hs8b.1
          clear hrun8 hown8 hgr8 hlit hrx HKS
          simp only [List.length_cons, List.length_nil, List.length_append, Nat.zero_add] at HR8
          go_upto_region 8 with fail
          go_region_held3 (fun W => Below w4.heap.size w4 W ∧ W.cell? ⟨w0.heap.size, 0, none⟩ = some (.func (.func 94) #[] #[]) ∧ W.cell? ⟨ba, oa, none⟩ = some (.string ⟨x.sf.rel.toArray⟩) ∧ W.cell? ⟨ba, oa + 1, none⟩ = some (.slice x.sf.A x.sf.n x.sf.c) ∧ W.cell? ⟨bb, ob, none⟩ = some (.string ⟨y.sf.rel.toArray⟩) ∧ W.cell? ⟨bb, ob + 1, none⟩ = some (.slice y.sf.A y.sf.n y.sf.c))
            (assumption)
            (first | (refine step_gapp HR8.out rfl rfl rfl rfl rfl ?_))
          go_wp2
          refine ⟨⟨Ax, some ⟨bb, ob, none⟩, ca - 1, cb, us, y :: vs, out ++ [x], rfl, rfl, by omega, by omega, by simpa using hlb, hcb, by simp; omega, HRX, HRb, Lib.hid (by have := HO8.out; rw [List.length_append] at this; exact this), HI2, HB8⟩, by simp [lenV]⟩
end Go.Proofs.YtmodjokoggmnaaaGreatDoor


namespace Go.Proofs.YtmodjokoggmnaaaGreatDoor

open Go.RowKit Go.Shelf

set_option maxRecDepth 50000 in
theorem cloneV_none (c : Nat) (w : World) : Calls Tryz.prog 95 #[.slice none 0 c] w fun e w' => e = .returned (.slice none 0 0) ∧ w = w' := by
  have hq : ∀ W : World, (binOp .eql 35 (.slice none 0 c) (.slice none 0 0)).run Tryz.prog W = .ok (.bool true) W := fun W => by rw [_root_.Go.run_eql_slice_nil W 35 _ _ _ _ Tryz.underlying35]; rfl
  go_enter Tryz.func95, Tryz.ntmps95
  go_wp2
  go_ret
  exact ⟨rfl, rfl⟩
def CloneVEnd (vs : List GVal) (w : World) (e : Ending) (w' : World) : Prop := (∃ v, e = .returned v ∧ OwnG GVal.cells 40 3 w' w.heap.size v vs) ∧ Below w.heap.size w w'
theorem cloneV_all (vs : List GVal) (A : Option Addr) (c : Nat) (w : World) (h : GRow GVal.cells 3 w w.heap.size A vs) (hl : vs.length ≤ 1000000) : Calls Tryz.prog 95 #[.slice A vs.length c] w (CloneVEnd vs w) := by
  cases A with
  | none =>
    have h0 : vs = [] := by
      cases vs with
      | nil => rfl
      | cons x r => obtain ⟨b, off, e, _⟩ := h (by simp); cases e
    subst h0
    refine (cloneV_none c w).mono ?_
    rintro e w' ⟨rfl, rfl⟩
    exact ⟨⟨_, rfl, OwnG.nil _ _⟩, Below.refl _ _⟩
  | some ad => exact (cloneV_any vs (some ad) c w h (by simp) hl).mono fun e w' h => h
/-- The second cell of an element is stored anew. -/
theorem OwnG.setSnd {w : World} {base g cap n : Nat} {l : List SFact} (h : OwnG SFact.cells 37 2 w base (.slice (some ⟨g, 0, none⟩) n cap) l) (hn : l.length = n) {i : Nat} (hi : i < l.length) (A : Option Addr) (m c : Nat) :
    OwnG SFact.cells 37 2 (w.setCell ⟨g, i * 2 + 1, none⟩ (.slice A m c)) base (.slice (some ⟨g, 0, none⟩) n cap) (l.set i ⟨l[i].rel, A, m, c⟩) := by
  refine ⟨gcells_len SFact.len _, ?_⟩
  rcases h.2 with ⟨hh, _⟩ | ⟨g', cap', cur, e, hb, hh, hn', hm, hs, ht⟩
  · cases hh
  · cases e
    refine .inr ⟨g, cap, _, by rw [List.length_set], hb, set_heap hh, by rw [List.length_set]; exact hn', hm, by simp [hs], ?_⟩
    have hg0 := gcells_get SFact.len l i 0 hi (by omega)
    rw [Nat.add_zero] at hg0
    have e0 : (gcells SFact.cells l).set (i * 2) (.string ⟨l[i].rel.toArray⟩) = gcells SFact.cells l := by
      refine List.ext_getElem? fun t => ?_
      rw [List.getElem?_set]
      by_cases ht2 : i * 2 = t
      · subst ht2
        rw [if_pos rfl, hg0]
        have hlt : i * 2 < (gcells SFact.cells l).length := by rw [gcells_len SFact.len]; omega
        rw [if_pos hlt]
        rfl
      · rw [if_neg ht2]
    rw [List.length_set, ← gcells_set SFact.len l i hi ⟨l[i].rel, A, m, c⟩ (.string ⟨l[i].rel.toArray⟩) (.slice A m c) rfl, e0, ← ht]
    simp [take_set]
/-- A fact in new memory beside the block g. -/
def FNew (w : World) (g : Nat) (s : SFact) (f : GFact) : Prop := FHold w w.heap.size s f ∧ ∀ b off, s.A = some ⟨b, off, none⟩ → b ≠ g
theorem FNew.next {w w' : World} {g : Nat} {s : SFact} {f : GFact} (h : FNew w g s f) (hb : Below w.heap.size w w') : FNew w' g s f := ⟨h.1.next (Nat.le_refl _) hb, h.2⟩
theorem FNew.set {w : World} {g : Nat} {s : SFact} {f : GFact} (h : FNew w g s f) (j : Nat) (v : Value) : FNew (w.setCell ⟨g, j, none⟩ v) g s f := by
  refine ⟨⟨h.1.rel, h.1.n, fun hn => ?_, h.1.few⟩, h.2⟩
  obtain ⟨b, off, e, hlt, hc⟩ := h.1.row hn
  refine ⟨b, off, e, by simpa using hlt, fun i hi k u hu => ?_⟩
  have hne := h.2 b off e
  exact (World.cell?_of_block (a := ⟨b, off + (i * 3 + k), none⟩) (Below.heap_setCell _ _ _ b (by omega))).trans (hc i hi k u hu)
def UnionEnd {w0 : World} (ea eb : List (Elem w0)) (e : Ending) (w' : World) : Prop :=
  ∃ v, ∃ ss : List SFact, ∃ fs : List GFact, e = .returned v ∧ OwnG SFact.cells 37 2 w' w0.heap.size v ss ∧ ss.length = fs.length ∧ (∀ i (h1 : i < ss.length) (h2 : i < fs.length), FHold w' w'.heap.size ss[i] fs[i]) ∧ StrictF fs ∧ (∀ f, f ∈ fs ↔ ∃ x ∈ ea ++ eb, x.fact = f) ∧ fs.length ≤ ea.length + eb.length ∧ Below w0.heap.size w0 w'
structure UnI {w0 : World} (es : List (Elem w0)) (w : World) (g k : Nat) (cur : List SFact) : Prop where
  len : cur.length = es.length
  new : ∀ i (h1 : i < cur.length) (h2 : i < es.length), i < k → FNew w g cur[i] es[i].fact
  old : ∀ i (h1 : i < cur.length) (h2 : i < es.length), k ≤ i → cur[i] = es[i].sf
theorem UnI.step {w0 : World} {es : List (Elem w0)} {w : World} {g k : Nat} {cur : List SFact} (h : UnI es w g k cur) (hk : k < es.length) (s : SFact) (hs : FNew w g s es[k].fact) : UnI es w g (k + 1) (cur.set k s) := by
  refine ⟨by rw [List.length_set]; exact h.len, fun i h1 h2 hi => ?_, fun i h1 h2 hi => ?_⟩
  · rw [List.getElem_set]
    split
    · rename_i e; subst e; exact hs
    · exact h.new i (by simpa using h1) h2 (by omega)
  · rw [List.getElem_set_ne (by omega)]
    exact h.old i (by simpa using h1) h2 (by omega)
theorem UnI.move {w0 : World} {es : List (Elem w0)} {w w' : World} {g k : Nat} {cur : List SFact} (h : UnI es w g k cur) (hf : ∀ s f, FNew w g s f → FNew w' g s f) : UnI es w' g k cur := ⟨h.len, fun i h1 h2 hi => hf _ _ (h.new i h1 h2 hi), h.old⟩
end Go.Proofs.YtmodjokoggmnaaaGreatDoor
