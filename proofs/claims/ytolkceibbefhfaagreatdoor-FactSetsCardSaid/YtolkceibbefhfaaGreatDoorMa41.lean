/-
  The reference kit's CopyFacts: a copy of a list of facts, with their arguments.
  Conditions: at most 1000 facts of at most 1000 arguments.
  The calls of the law FactSets, the program's and the reference's, in terms of plain facts.
  Conditions: at most 990 facts of at most 12 arguments each.
-/
import Derived.Test.YtolkceibbefhfaaGreatDoorMa33
import Derived.Test.YtolkceibbefhfaaGreatDoorMa25
import Derived.Test.YtolkceibbefhfaaGreatDoorMa40
import Derived.Test.YtolkceibbefhfaaGreatDoorMa38
namespace Go.Proofs.YtolkceibbefhfaaGreatDoor
open Go.RowKit Go.Shelf

theorem GRow.keep1 {α : Type} {enc : α → List Value} {k : Nat} {w w' : World} {B B' : Nat} {A : Option Addr} {xs : List α} (h : GRow enc k w B A xs) (hB : B ≤ B') (hb : 0 < xs.length → ∀ b off, A = some ⟨b, off, none⟩ → b < B → w'.heap[b]? = w.heap[b]?) : GRow enc k w' B' A xs := fun hn => by
  obtain ⟨b, off, e, hlt, hc⟩ := h hn
  exact ⟨b, off, e, by omega, fun i hi j u hu => (World.cell?_of_block (a := ⟨b, off + (i * k + j), none⟩) (hb hn b off e hlt)).trans (hc i hi j u hu)⟩
/-- No argument of f lies in the block o. -/
def Apart (o : Option Nat) (s : SFact) (f : GFact) : Prop := 0 < f.args.length → ∀ b off, s.A = some ⟨b, off, none⟩ → o ≠ some b
/-- The copy so far: what it holds, and that no argument lies in the copy's own block. -/
structure CopyI (w wr : World) (vl : Value) (ss : List SFact) (fs : List GFact) : Prop where
  own : OwnG SFact.cells 25 2 wr w.heap.size vl ss
  len : ss.length = fs.length
  each : ∀ i (h1 : i < ss.length) (h2 : i < fs.length), FHold wr wr.heap.size ss[i] fs[i] ∧ Apart vl.ownBlock ss[i] fs[i]
theorem CopyI.nil (w : World) : CopyI w w (.slice none 0 0) [] [] := ⟨OwnG.nil _ _, rfl, fun i h1 => by simp at h1⟩
theorem CopyI.step {w wr W u : World} {vl v : Value} {ss : List SFact} {fs : List GFact} {s : SFact} {f : GFact} (h : CopyI w wr vl ss fs) (hbel : Below wr.heap.size wr W) (hg : W.grownBy u vl.ownBlock) (hown : OwnG SFact.cells 25 2 u w.heap.size v (ss ++ [s]))
    (hob : v.ownBlock = vl.ownBlock ∨ v.ownBlock = some W.heap.size) (hs : FHold W W.heap.size s f) (hne : Apart vl.ownBlock s f) :
    CopyI w u v (ss ++ [s]) (fs ++ [f]) := by
  have key : ∀ (t : SFact) (g : GFact), FHold W W.heap.size t g → Apart vl.ownBlock t g → FHold u u.heap.size t g ∧ Apart v.ownBlock t g := fun t g ht hn => by
    refine ⟨⟨ht.rel, ht.n, ht.row.keep1 hg.size fun h0 b off e hb => hg.block b hb (fun e2 => hn h0 b off e e2.symm), ht.few⟩, fun h0 b off e => ?_⟩
    rcases hob with q | q
    · rw [q]; exact hn h0 b off e
    · rw [q]
      intro e2
      obtain ⟨b', off', e', hlt, _⟩ := ht.row h0
      rw [e] at e'
      cases e'
      injection e2 with e3
      omega
  refine ⟨hown, by simp [h.len], fun i h1 h2 => ?_⟩
  have hl := h.len
  rcases Nat.lt_or_ge i ss.length with hi | hi
  · rw [List.getElem_append_left hi, List.getElem_append_left (by omega)]
    have := h.each i hi (by omega)
    exact key _ _ (this.1.next (Nat.le_refl _) hbel) this.2
  · have e : i = ss.length := by simp at h1; omega
    subst e
    have e2 : fs.length ≤ ss.length := by omega
    rw [List.getElem_append_right (Nat.le_refl _), List.getElem_append_right e2]
    simp
    exact key _ _ hs hne
theorem facts_take {fs : List GFact} {k : Nat} (h : k < fs.length) : fs.take (k + 1) = fs.take k ++ [fs[k]] := List.take_succ_eq_append_getElem h
def CopyFEnd (fs : List GFact) (w : World) (e : Ending) (w' : World) : Prop :=
  ∃ A, ∃ c : Nat, ∃ ss : List SFact, e = .returned (.slice A fs.length c) ∧ SetV w' (.slice A fs.length c) ss fs ∧ fs.length ≤ c ∧ c ≤ maxLen ∧ (A = none → c = 0) ∧ Below w.heap.size w w'
theorem copyFacts_end {w wr : World} {vl : Value} {ss : List SFact} {fs : List GFact} (h : CopyI w wr vl ss fs) (hb : Below w.heap.size w wr) : CopyFEnd fs w (.returned vl) wr := by
  obtain ⟨A, c, e, h1, h2, h3⟩ := h.own.row SFact.len
  rw [h.len] at e h1
  have hn : A = none → c = 0 := fun hA => by
    rcases h.own.2 with ⟨hv, h0⟩ | ⟨g, cap, cur, hv, _⟩
    · rw [e] at hv; injection hv
    · rw [e, hA] at hv; cases hv
  have hr := h.own.rowV
  rw [e] at hr
  exact ⟨A, c, ss, by rw [e], ⟨hr, h.len, fun i a b => (h.each i a b).1⟩, h1, h2, hn, hb⟩
set_option maxRecDepth 50000 in
set_option maxHeartbeats 1000000 in
theorem copyFacts_any (A : Option Addr) (c : Nat) (ss : List SFact) (fs : List GFact) (w : World) (hA : FRow w w.heap.size A ss fs) (hn : fs.length ≤ 1000) (ha : ∀ f ∈ fs, f.args.length ≤ 1000) :
    Calls Tryz.prog 8 #[.slice A fs.length c] w (CopyFEnd fs w) := by
  have HA := Lib.hid hA
  have HAR := Lib.hid ha
  have hlen := hA.len
  clear hA ha
  go_enter Tryz.func8, Tryz.ntmps8
  go_wp2
  go_loopw [3, 4] (fun vl vi wr => ∃ k : Nat, vi = .int .i64 k ∧ k ≤ fs.length ∧ (∃ ss', Hid (CopyI w wr vl ss' (fs.take k))) ∧ Hid (Below w.heap.size w wr)) (fun _ vi _ => fs.length - (intOf vi).toNat)
  case atStart => exact ⟨0, rfl, Nat.zero_le _, ⟨[], Lib.hid (CopyI.nil _)⟩, Lib.hid (Below.refl _ _)⟩
  case round =>
    obtain ⟨k, rfl, hk, ⟨ss', HI⟩, HW⟩ := hrel
    obtain ⟨Al, cl, rfl, hll, hml, _⟩ := HI.out.own.row SFact.len
    rcases Nat.lt_or_ge k fs.length with hlt | hge
    · have hls : k < ss.length := by omega
      obtain ⟨b1, o1, rfl, hb1, x0, x1⟩ := (HA.out.row.below (Nat.le_refl _) HW.out).fact2 hls
      have hsz := HW.out.size
      have hl1 : b1 < wr.heap.size := by omega
      have hold := (HA.out.each k hls hlt).next (Nat.le_refl _) HW.out
      have har := HAR.out fs[k] (List.getElem_mem hlt)
      have HTK := Lib.hid (facts_take hlt)
      have hl' : ss'.length ≤ 1000 := by have := HI.out.len; rw [List.length_take] at this; omega
      generalize fs[k] = f at *
      generalize ss[k] = y at *
      obtain ⟨yr, yA, yn, yc⟩ := y
      obtain ⟨r, vs⟩ := f
      have e1 := hold.rel
      have e2 := hold.n
      have hrow := hold.row
      simp only at e1 e2 hrow har x0 x1
      subst e1 e2
      have hbd : Below wr.heap.size wr wr.drew := (Below.refl _ _).drew
      obtain ⟨v3, w3, hrun3, hown3, hgr3, hbk3⟩ := OwnG.app elt_val GVal.len GVal.one (OwnG.nil wr.drew wr.heap.size) yc (hrow.below (Nat.le_refl _) hbd) (by have := hbd.size; omega) (by unfold maxLen; simp; omega) (by simp; omega)
      rw [List.nil_append] at hown3
      obtain ⟨A3, c3, rfl, hc3, hm3, hr3⟩ := hown3.row GVal.len
      have hb3 : Below wr.heap.size wr w3 := hbd.grown hgr3 (by have := hbd.size; omega) (fun g hg => by simp [Value.ownBlock] at hg)
      have hb4 := bel_lit hb3 (.cells #[.string ⟨yr.toArray⟩, .slice A3 vs.length c3] 25)
      have hs3 := hb3.size
      obtain ⟨v5, w5, hrun5, hown5, hgr5, hbk5⟩ := OwnG.app elt_fact SFact.len SFact.one ((HI.out.own.next hb3).alloc (.cells #[.string ⟨yr.toArray⟩, .slice A3 vs.length c3] 25)) 1 (GRow.lit SFact.len w3 25 [⟨yr, A3, vs.length, c3⟩] _ rfl (by unfold maxLen; simp)) (by have h2 := HW.out.size; simp; omega) (by unfold maxLen; simp; omega) (by simp; omega)
      have hap : Apart (Value.slice Al ss'.length cl).ownBlock ⟨yr, A3, vs.length, c3⟩ ⟨yr, vs⟩ := fun h0 b off e e2 => by
        have h1 := HI.out.own.lt _ e2
        rcases hown3.2 with ⟨hv, h00⟩ | ⟨g, cap, cur, hv, hbs, _⟩
        · simp at h0; omega
        · simp only at e
          rw [e] at hv
          cases hv
          omega
      have HI5 := Lib.hid (HI.out.step hb4 hgr5 hown5 hbk5 ⟨rfl, rfl, (hr3.next (bel_lit (Below.refl w3.heap.size w3) _)), by simp; omega⟩ hap)
      rw [← HTK.out] at HI5
      obtain ⟨A5, c5, rfl, _, _, _⟩ := hown5.row SFact.len
      have hb5 : Below wr.heap.size wr w5 → Below w.heap.size w w5 := fun h => bel_next HW.out h
      have HB5 : Hid (Below w.heap.size w w5) := Lib.hid ((bel_next HW.out hb4).grown hgr5 (by have := HW.out.size; simp; omega) (fun g hg => (HI.out.own.lt g hg).1))
      have HR3 := Lib.hid hrun3
      have HR5 := Lib.hid hrun5
      simp only [List.length_cons, List.length_nil, List.length_append, Nat.zero_add] at HR5 HR3
      have HS : Hid (∀ W : World, Below w.heap.size w W → wr.cell? ⟨b1, o1 + k * 2, none⟩ = W.cell? ⟨b1, o1 + k * 2, none⟩ ∧ wr.cell? ⟨b1, o1 + k * 2 + 1, none⟩ = W.cell? ⟨b1, o1 + k * 2 + 1, none⟩) := Lib.hid fun W hb => ⟨(HW.out.cell (p := ⟨b1, o1 + k * 2, none⟩) hb1).trans (hb.cell (p := ⟨b1, o1 + k * 2, none⟩) hb1).symm, (HW.out.cell (p := ⟨b1, o1 + k * 2 + 1, none⟩) hb1).trans (hb.cell (p := ⟨b1, o1 + k * 2 + 1, none⟩) hb1).symm⟩
      have mk : ∀ W : World, Below w.heap.size w W → (W.cell? ⟨b1, o1 + k * 2, none⟩ = some (.string ⟨yr.toArray⟩) ∧ W.cell? ⟨b1, o1 + k * 2 + 1, none⟩ = some (.slice yA vs.length yc)) := fun W hb => ⟨(HS.out W hb).1.symm.trans x0, (HS.out W hb).2.symm.trans x1⟩
      have hS0 := mk _ (bel_next HW.out hbd)
      have hS3 := mk _ (bel_next HW.out hb3)
      have hS4 := mk _ (bel_next HW.out hb4)
      have hS5 := mk _ HB5.out
      have HBS := Lib.hid hb1
      clear mk hb3 hb4 hbd hb5 hap hrun3 hrun5 hown3 hown5 hgr3 hgr5 hbk3 hbk5 hr3 x0 x1 hold hrow
      go_upto_region 5 with fail
      go_region_held3 (fun W => W.cell? ⟨b1, o1 + k * 2, none⟩ = some (.string ⟨yr.toArray⟩) ∧ W.cell? ⟨b1, o1 + k * 2 + 1, none⟩ = some (.slice yA vs.length yc))
        (assumption)
        (first | (refine step_gapp HR3.out rfl rfl rfl rfl rfl ?_) | (refine step_gapp HR5.out rfl rfl rfl rfl rfl ?_))
      go_wp2
      go_roundw
      case rel => exact ⟨k + 1, by go_num, by omega, ⟨_, by simpa using HI5⟩, HB5⟩
      case measure => simp [intOf]; omega
    · have HE := Lib.hid (copyFacts_end HI.out HW.out)
      rw [List.take_of_length_le hge] at HE
      go_wp2
      go_ret
      exact HE.out
end Go.Proofs.YtolkceibbefhfaaGreatDoor


namespace Go.Proofs.YtolkceibbefhfaaGreatDoor
open Go.RowKit Go.Shelf

/-- The law's list of facts, asx it lies in the world w0. -/
def DbE (w0 : World) (A : Option Addr) (c : Nat) (fs : List GFact) : Prop := ∃ es : List (Elem w0), FactsE es = fs ∧ RowE w0 A c es ∧ fs.length ≤ 80 ∧ ∀ f ∈ fs, f.args.length ≤ 12
theorem IsFacts.dbE {w : World} {A : Option Addr} {len c : Nat} {ss : List SFact} {fs : List GFact} (h : IsFacts w A len c ss fs) (hn : A = none → c = 0) (hs : Small fs) : DbE w A c fs := by
  have hr := h.row.small hs
  obtain ⟨es, e1, e2⟩ := elems_of ss fs hr.len hr.each
  refine ⟨es, e2, ⟨?_, ?_, hn, h.max, ?_⟩, hs.1, fun f hf => (hs.2 f hf).args⟩
  · have hrow := hr.row
    rw [← e1] at hrow
    intro h0
    obtain ⟨b, off, e, hlt, hc⟩ := hrow (by simpa using h0)
    refine ⟨b, off, e, hlt, fun i hi j u hu => ?_⟩
    have := hc i (by simpa using hi) j u (by rw [List.getElem_map]; exact hu)
    exact this
  · have := h.le
    have := h.count
    have h3 := congrArg List.length e2
    rw [List.length_map] at h3
    omega
  · intro f hf v hv
    unfold FactsE at hf
    rw [e2] at hf
    obtain ⟨i, hi, rfl⟩ := List.getElem_of_mem hf
    exact ((h.each i (by have := hr.len; omega) hi).wf v hv).kind
theorem DbE.len {w0 : World} {es : List (Elem w0)} {fs : List GFact} (h : FactsE es = fs) : es.length = fs.length := by rw [← h]; simp [FactsE]
/-- What Insert yields: a set, or nothing. -/
def IsIns (fs : List GFact) (f : GFact) (p : Bool) (fs' : List GFact) : Prop := (p = true → StrictF fs' ∧ ∀ g, g ∈ fs' ↔ g ∈ fs ∨ g = f) ∧ (p = false → fs' = [])
theorem IsIns.same {fs a b : List GFact} {f : GFact} {p : Bool} (h1 : IsIns fs f p a) (h2 : IsIns fs f p b) : a = b := by
  cases p
  · rw [h1.2 rfl, h2.2 rfl]
  · exact strict_ext _ _ (h1.1 rfl).1 (h2.1 rfl).1 fun g => by rw [(h1.1 rfl).2 g, (h2.1 rfl).2 g]
def InsU (fs : List GFact) (f : GFact) (p : Bool) (w : World) (e : Ending) (w' : World) : Prop :=
  ∃ A, ∃ c : Nat, ∃ fs' : List GFact, e = .returned (.tuple #[.slice A fs'.length c, .int .i64 (errOf p)]) ∧ SetL w' (.slice A fs'.length c) fs' 90 ∧ IsIns fs f p fs' ∧ Below w.heap.size w w'
theorem SetL.nil (w : World) (n : Nat) : SetL w (.slice none 0 0) [] n := ⟨⟨[], SetV.nil w⟩, Nat.zero_le _, fun f h => by simp at h, fun f h => by simp at h⟩
theorem SetL.more {w : World} {v : Value} {fs : List GFact} {n m : Nat} (h : SetL w v fs n) (hm : n ≤ m) : SetL w v fs m := ⟨h.ex, Nat.le_trans h.few hm, h.args, h.kinds⟩
theorem insertU (v : Value) (fs : List GFact) (s : SFact) (f : GFact) (w : World) (hS : SetL w v fs 80) (hf : FactS w s f) (hP : Pow w) :
    Calls Tryz.prog 9 #[v, .agg #[.string ⟨s.rel.toArray⟩, .slice s.A s.n s.c]] w (InsU fs f (gwfF f) w) := by
  refine (insertG v fs 80 s f w hS (by omega) hf hP).mono ?_
  rintro e w' (⟨h1, rfl, h2⟩ | ⟨h1, A, c, fs', rfl, h3, h4, h5, h6⟩)
  · rw [h1]
    exact ⟨none, 0, [], rfl, SetL.nil _ _, ⟨fun h => (by cases h), fun _ => rfl⟩, h2⟩
  · rw [h1]
    exact ⟨A, c, fs', rfl, h3.more (by omega), ⟨fun _ => ⟨h4, h5⟩, fun h => by cases h⟩, h6⟩
theorem rInsertU {w0 : World} (A : Option Addr) (c : Nat) (fs : List GFact) (s : SFact) (f : GFact) (w : World) (hD : DbE w0 A c fs) (hf : FactS w0 s f) (hb : Below w0.heap.size w0 w) :
    Calls Tryz.prog 10 #[.slice A fs.length c, .agg #[.string ⟨s.rel.toArray⟩, .slice s.A s.n s.c]] w (InsU fs f (gwfF f) w) := by
  obtain ⟨es, he, hr, hn, ha⟩ := hD
  have hl := DbE.len he
  rw [← hl]
  refine (rInsert_any es (Elem.of s f hf.hold) A c w hb (hr.next hb) (by omega) hf.kinds (by have := hf.small.rel; show f.rel.length ≤ _; omega) (fun v hv => by have := hf.small.word v hv; omega)).mono ?_
  rintro e w' (⟨h1, rfl, h2⟩ | ⟨h1, A', c', es', rfl, h3, h4, h5, h6, h7⟩)
  · rw [show gwfF f = false from h1]
    exact ⟨none, 0, [], rfl, SetL.nil _ _, ⟨fun h => (by cases h), fun _ => rfl⟩, h2⟩
  · rw [show gwfF f = true from h1]
    refine ⟨A', c', FactsE es', by simp [FactsE, errOf], ?_, ⟨fun _ => ⟨h4, fun g => by rw [h5 g, he]; rfl⟩, fun h => by cases h⟩, h7⟩
    rw [show (FactsE es').length = es'.length by simp [FactsE]]
    refine h3.setL (bel_next hb h7) (by omega) fun g hg => ?_
    rcases (h5 g).1 hg with h | rfl
    · rw [he] at h; exact ha g h
    · exact hf.small.args
def RemU (fs : List GFact) (f : GFact) (w : World) (e : Ending) (w' : World) : Prop :=
  ∃ A, ∃ c : Nat, ∃ fs' : List GFact, e = .returned (.tuple #[.slice A fs'.length c, .bool (fs.any (isF f))]) ∧ SetL w' (.slice A fs'.length c) fs' 90 ∧ StrictF fs' ∧ (∀ g, g ∈ fs' ↔ g ∈ fs ∧ g ≠ f) ∧ Below w.heap.size w w'
theorem removeU (v : Value) (fs : List GFact) (s : SFact) (f : GFact) (w : World) (hS : SetL w v fs 80) (hf : FactS w s f) :
    Calls Tryz.prog 11 #[v, .agg #[.string ⟨s.rel.toArray⟩, .slice s.A s.n s.c]] w (RemU fs f w) := by
  refine (removeS v fs 80 s f w hS (by omega) hf).mono ?_
  rintro e w' ⟨A, c, fs', rfl, h1, h2, h3, h4⟩
  exact ⟨A, c, fs', rfl, h1.more (by omega), h2, h3, h4⟩
theorem rRemoveU {w0 : World} (A : Option Addr) (c : Nat) (fs : List GFact) (s : SFact) (f : GFact) (w : World) (hD : DbE w0 A c fs) (hf : FactS w0 s f) (hb : Below w0.heap.size w0 w) :
    Calls Tryz.prog 12 #[.slice A fs.length c, .agg #[.string ⟨s.rel.toArray⟩, .slice s.A s.n s.c]] w (RemU fs f w) := by
  obtain ⟨es, he, hr, hn, ha⟩ := hD
  have hl := DbE.len he
  rw [← hl]
  refine (rRemove_any es (Elem.of s f hf.hold) A c w hb (hr.next hb) (by omega) hf.kinds).mono ?_
  rintro e w' ⟨A', c', es', rfl, h3, h4, h5, h6, h7⟩
  refine ⟨A', c', FactsE es', by rw [he]; simp [FactsE]; rfl, ?_, h4, fun g => by rw [h5 g, he]; rfl, h7⟩
  rw [show (FactsE es').length = es'.length by simp [FactsE]]
  refine h3.setL (bel_next hb h7) (by omega) fun g hg => ?_
  have := ((h5 g).1 hg).1
  rw [he] at this
  exact ha g this
theorem rContainsU {w0 : World} (A : Option Addr) (c : Nat) (fs : List GFact) (s : SFact) (f : GFact) (w : World) (hD : DbE w0 A c fs) (hf : FactS w0 s f) (hb : Below w0.heap.size w0 w) :
    Calls Tryz.prog 17 #[.slice A fs.length c, .agg #[.string ⟨s.rel.toArray⟩, .slice s.A s.n s.c]] w fun e w' => e = .returned (.bool (fs.any (isF f))) ∧ Below w.heap.size w w' := by
  obtain ⟨es, he, hr, hn, ha⟩ := hD
  have hl := DbE.len he
  rw [← hl]
  refine (rContains_any es (Elem.of s f hf.hold) A c w hb (hr.next hb) (by omega) hf.kinds).mono ?_
  rintro e w' ⟨rfl, h⟩
  exact ⟨by rw [he]; rfl, h⟩
/-- What Select yields; it holds in every later world. -/
def SelU (fs : List GFact) (r : List UInt8) (n : Int) (w : World) (e : Ending) (w' : World) : Prop :=
  ∃ A, ∃ c : Nat, ∃ fs' : List GFact, e = .returned (.slice A fs'.length c) ∧ (∀ W, Below w'.heap.size w' W → SetL W (.slice A fs'.length c) fs' 90) ∧ StrictF fs' ∧ (∀ g, g ∈ fs' ↔ g ∈ fs ∧ selB r n g = true) ∧ Below w.heap.size w w'
theorem selectU (v : Value) (fs : List GFact) (r : List UInt8) (n : Int) (w : World) (hS : SetL w v fs 80) :
    Calls Tryz.prog 18 #[v, .string ⟨r.toArray⟩, .int .i64 n] w (SelU fs r n w) := by
  obtain ⟨ss, hs⟩ := hS.ex
  have hn' := hS.few
  refine (select_any v ss fs r n w hs (by omega) (fun g hg => by have := hS.args g hg; omega)).mono ?_
  rintro e w' ⟨v', ss', fs', rfl, h3, h4, h5, h6, h7⟩
  obtain ⟨A, c, rfl⟩ := h3.slice
  exact ⟨A, c, fs', rfl, fun W hW => ⟨⟨ss', h3.next hW⟩, by omega, fun g hg => hS.args g ((h5 g).1 hg).1, fun g hg => hS.kinds g ((h5 g).1 hg).1⟩, h4, h5, h7⟩
theorem rSelectU {w0 : World} (A : Option Addr) (c : Nat) (fs : List GFact) (r : List UInt8) (n : Int) (w : World) (hD : DbE w0 A c fs) (hb : Below w0.heap.size w0 w) :
    Calls Tryz.prog 19 #[.slice A fs.length c, .string ⟨r.toArray⟩, .int .i64 n] w (SelU fs r n w) := by
  obtain ⟨es, he, hr, hn, ha⟩ := hD
  have hl := DbE.len he
  rw [← hl]
  refine (rSelect_any es r n A c w hb (hr.next hb) (by omega)).mono ?_
  rintro e w' ⟨A', c', es', rfl, h3, h4, h5, h6, h7⟩
  refine ⟨A', c', FactsE es', by simp [FactsE], fun W hW => ?_, h4, fun g => by rw [h5 g, he], h7⟩
  rw [show (FactsE es').length = es'.length by simp [FactsE]]
  refine ((h3.next hW).setL (bel_next (bel_next hb h7) hW) (by omega) fun g hg => ?_)
  have := ((h5 g).1 hg).1
  rw [he] at this
  exact ha g this
theorem sel_same {fs a b : List GFact} {p : GFact → Prop} (h1 : StrictF a) (h2 : StrictF b) (e1 : ∀ g, g ∈ a ↔ g ∈ fs ∧ p g) (e2 : ∀ g, g ∈ b ↔ g ∈ fs ∧ p g) : a = b := strict_ext _ _ h1 h2 fun g => by rw [e1 g, e2 g]
def CopyU (fs : List GFact) (w : World) (e : Ending) (w' : World) : Prop :=
  ∃ A, ∃ c : Nat, e = .returned (.slice A fs.length c) ∧ SetL w' (.slice A fs.length c) fs 80 ∧ Below w.heap.size w w'
theorem copyU (A : Option Addr) (c : Nat) (fs : List GFact) (w : World) (hS : SetL w (.slice A fs.length c) fs 80) :
    Calls Tryz.prog 8 #[.slice A fs.length c] w (CopyU fs w) := by
  obtain ⟨ss, hs⟩ := hS.ex
  have hn' := hS.few
  obtain ⟨A', c', e', hr⟩ := hs.frow
  cases e'
  refine (copyFacts_any A c ss fs w hr (by omega) (fun g hg => by have := hS.args g hg; omega)).mono ?_
  rintro e w' ⟨A', c', ss', rfl, h1, _, _, _, h2⟩
  exact ⟨A', c', rfl, ⟨⟨ss', h1⟩, hn', hS.args, hS.kinds⟩, h2⟩
end Go.Proofs.YtolkceibbefhfaaGreatDoor
