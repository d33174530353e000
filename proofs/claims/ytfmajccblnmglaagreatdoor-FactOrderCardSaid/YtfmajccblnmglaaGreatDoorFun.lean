/-
  The set of a list of one fact: facts.union, setOf.
  Conditions: the list has one fact, which has at most 1000000 arguments, in a slice that is not nil.
-/
import Derived.Test.YtfmajccblnmglaaGreatDoorFmg
namespace Go.Proofs.YtfmajccblnmglaaGreatDoor
open Go.RowKit Go.Shelf

def OneSet (f : SFact) (vs : List GVal) (w : World) (e : Ending) (w' : World) : Prop :=
  ∃ v A n c, e = .returned v ∧ OwnG SFact.cells 25 2 w' w.heap.size v [⟨f.rel, A, n, c⟩] ∧ OwnG GVal.cells 40 3 w' w.heap.size (.slice A n c) vs ∧ Below w.heap.size w w'
def UnionRel (f : SFact) (vs : List GVal) (w : World) (g cap : Nat) (vi : Value) (wr : World) : Prop :=
  (vi = .int .i64 0 ∧ OwnG SFact.cells 25 2 wr w.heap.size (.slice (some ⟨g, 0, none⟩) 1 cap) [f] ∧ Below w.heap.size w wr) ∨
  (vi = .int .i64 1 ∧ ∃ A n c, OwnG SFact.cells 25 2 wr w.heap.size (.slice (some ⟨g, 0, none⟩) 1 cap) [⟨f.rel, A, n, c⟩] ∧ OwnG GVal.cells 40 3 wr w.heap.size (.slice A n c) vs ∧ Below w.heap.size w wr)
/-- A store into the second cell of the one fact of an own row. -/
theorem OwnG.setArgs {w : World} {base g cap : Nat} {f : SFact} {A : Option Addr} {n c : Nat} (h : OwnG SFact.cells 25 2 w base (.slice (some ⟨g, 0, none⟩) 1 cap) [f]) :
    OwnG SFact.cells 25 2 (w.setCell ⟨g, 1, none⟩ (.slice A n c)) base (.slice (some ⟨g, 0, none⟩) 1 cap) [⟨f.rel, A, n, c⟩] := by
  refine ⟨rfl, ?_⟩
  rcases h.2 with ⟨hh, _⟩ | ⟨g', cap', cur, e, hb, hh, hn, hm, hs, ht⟩
  · cases hh
  · cases e
    have hlen : 2 ≤ cur.size := by rw [hs]; simp at hn; omega
    refine .inr ⟨g, cap, cur.set! 1 (.slice A n c), rfl, hb, by simp [World.setCell, Array.getElem?_modify, hh], hn, hm, by simp [hs], ?_⟩
    obtain ⟨l⟩ := cur
    match l, hlen, ht with
    | a :: b :: r, _, ht =>
      simp [gcells, SFact.cells] at ht ⊢
      exact ht.1
theorem OwnG.other {α : Type} {enc : α → List Value} {T : TypeId} {k : Nat} {w : World} {base : Nat} {v : Value} {l : List α} (h : OwnG enc T k w base v l) (a : Addr) (u : Value) (ha : v.ownBlock ≠ some a.block) : OwnG enc T k (w.setCell a u) base v l :=
  h.keep fun g hg => Below.heap_setCell _ _ _ g (by intro e; apply ha; rw [hg, e])
/-- Two own rows of different element types lie in different blocks. -/
theorem own_apart {w : World} {b1 b2 : Nat} {v1 v2 : Value} {vs : List GVal} {fs : List SFact} (h1 : OwnG GVal.cells 40 3 w b1 v1 vs) (h2 : OwnG SFact.cells 25 2 w b2 v2 fs) : ∀ g, v2.ownBlock = some g → v1.ownBlock ≠ some g := by
  intro g hg hg1
  rcases h1.2 with ⟨rfl, _⟩ | ⟨g1, c1, cur1, rfl, _, hh1, _⟩
  · simp [Value.ownBlock] at hg1
  · rcases h2.2 with ⟨rfl, _⟩ | ⟨g2, c2, cur2, rfl, _, hh2, _⟩
    · simp [Value.ownBlock] at hg
    · simp [Value.ownBlock] at hg hg1
      subst hg hg1
      rw [hh1] at hh2
      simp at hh2
set_option maxRecDepth 50000 in
set_option maxHeartbeats 1000000 in
theorem union_one (f : SFact) (vs : List GVal) (A : Addr) (c : Nat) (w : World) (h : GRow SFact.cells 2 w w.heap.size (some A) [f]) (hn : f.n = vs.length) (hA : f.A ≠ none) (hv : GRow GVal.cells 3 w w.heap.size f.A vs) (hl : vs.length ≤ 1000000) :
    Calls Tryz.prog 27 #[.slice (some A) 1 c, .slice none 0 0] w (OneSet f vs w) := by
  have HM := Lib.hid (merged_one f A c w h)
  have HV := Lib.hid hv
  have HCL := Lib.hid fun W (hW : Below w.heap.size w W) => cloneV_any vs f.A f.c W ((hv.below (Nat.le_refl _) hW).wide hW.size) hA hl
  clear h hv hA
  obtain ⟨fr, fA, fn, fc⟩ := f
  simp only at *
  subst hn
  go_enter Tryz.func27, Tryz.ntmps27
  go_wp2_with fail
  refine HM.out.mono ?_
  rintro e w1 ⟨⟨v1, rfl, ho1⟩, hb1⟩
  obtain ⟨g, cap, rfl, hg0, hg1, hc1, hcm, hr1⟩ := ho1.nonnil SFact.len
  simp only [List.length_nil, Nat.zero_add] at *
  have HO1 := Lib.hid ho1
  have HB1 := Lib.hid hb1
  clear ho1 hb1 hr1 HM
  go_wp2
  go_loopw [13] (fun vi wr => UnionRel ⟨fr, fA, vs.length, fc⟩ vs w g cap vi wr) (fun vi _ => 1 - (intOf vi).toNat)
  case atStart => exact .inl ⟨rfl, HO1.out, HB1.out⟩
  case round =>
    rcases hrel with ⟨rfl, ho, hb⟩ | ⟨rfl, A3, n3, c3, ho, hv3, hb⟩
    · obtain ⟨g', cap', e', _, hgw, _, _, hr⟩ := ho.nonnil SFact.len
      cases e'
      obtain ⟨b, off, e2, _, hc⟩ := hr (by simp)
      cases e2
      have x0 := hc 0 (by simp) 0 _ rfl
      have x1 := hc 0 (by simp) 1 _ rfl
      simp only [Nat.zero_mul, Nat.zero_add, Nat.add_zero] at x0 x1
      have HO := Lib.hid ho
      have HB := Lib.hid hb
      have HC := Lib.hid (HCL.out _ (bel_lit hb (.cells #[.string ⟨fr.toArray⟩, .slice fA vs.length fc] 25)))
      clear ho hb hr hc
      go_wp2_with fail
      refine HC.out.mono ?_
      rintro e w2 ⟨⟨v2, rfl, hv2⟩, hb2⟩
      obtain ⟨A2, c2, rfl, _, _, _⟩ := hv2.row GVal.len
      have hbase : w.heap.size ≤ (wr.alloc (.cells #[.string ⟨fr.toArray⟩, .slice fA vs.length fc] 25)).heap.size := by have := HB.out.size; simp; omega
      have HO2 := Lib.hid ((HO.out.alloc (.cells #[.string ⟨fr.toArray⟩, .slice fA vs.length fc] 25)).next hb2)
      have HV2 := Lib.hid (hv2.base hbase)
      have HB2 := Lib.hid (bel_alloc HB.out hb2)
      have hz : wr.heap.size < w2.heap.size := by have := hb2.size; simp at this; omega
      have y1 : w2.cell? ⟨g, 1, none⟩ = some (.slice fA vs.length fc) := (hb2.cell (p := ⟨g, 1, none⟩) (by simp; omega)).trans (by rw [World.cell?_of_block (a := ⟨g, 1, none⟩) (Below.heap_alloc wr _ g hgw)]; exact x1)
      have hfz : w2.frozen? ⟨g, 1, none⟩ = false := by
        rcases HO2.out.2 with ⟨hh, _⟩ | ⟨g', cap', cur, e3, _, hh, _⟩
        · cases hh
        · cases e3; exact Lib.frozen_of_heap hh 1
      have HAP := Lib.hid (own_apart HV2.out HO2.out g rfl)
      clear hv2 hb2 hbase
      go_wp2
      go_roundw
      case rel => exact .inr ⟨by go_num, A2, vs.length, c2, HO2.out.setArgs, HV2.out.other _ _ HAP.out, HB2.out.setCell hg0 _⟩
      case measure => simp [intOf]
    · have HO := Lib.hid ho
      have HV3 := Lib.hid hv3
      have HB := Lib.hid hb
      clear ho hv3 hb
      go_wp2
      go_ret
      exact ⟨_, A3, n3, c3, rfl, HO.out, HV3.out, HB.out⟩
theorem setOf_one (f : SFact) (vs : List GVal) (A : Addr) (c : Nat) (w : World) (h : GRow SFact.cells 2 w w.heap.size (some A) [f]) (hn : f.n = vs.length) (hA : f.A ≠ none) (hv : GRow GVal.cells 3 w w.heap.size f.A vs) (hl : vs.length ≤ 1000000) :
    Calls Tryz.prog 32 #[.slice (some A) 1 c] w (OneSet f vs w) := by
  have HU := Lib.hid (union_one f vs A c w h hn hA hv hl)
  clear h hn hA hv hl
  go_enter Tryz.func32, Tryz.ntmps32
  go_wp2_with fail
  refine HU.out.mono ?_
  rintro e w1 ⟨v, A1, n1, c1, rfl, h1, h2, h3⟩
  go_wp2
  go_ret
  exact ⟨_, A1, n1, c1, rfl, h1, h2, h3⟩
end Go.Proofs.YtfmajccblnmglaaGreatDoor
