/-
  The reference's Set, Insert and Contains.
  Conditions: at most 990 facts; kinds are ints of the language.
  facts.Select in terms of plain facts, and the closure that it hands on.
  Conditions: the list has at most 1000000 facts, each of at most 1000000 arguments.
  The reference's Contains, Remove and Select.
  Conditions: at most 990 facts; kinds are ints of the language.
-/
import Derived.Test.YtmodjokoggmnaaaGreatDoorMa35
import Derived.Test.YtmodjokoggmnaaaGreatDoorMa32
namespace Go.Proofs.YtmodjokoggmnaaaGreatDoor

open Go.RowKit Go.Shelf

section

variable {w0 : World}

def SetREnd (es : List (Elem w0)) (w : World) (e : Ending) (w' : World) : Prop :=
  ∃ A, ∃ c : Nat, ∃ es' : List (Elem w0), e = .returned (.slice A es'.length c) ∧ RowE w' A c es' ∧ StrictF (FactsE es') ∧ (∀ g, g ∈ FactsE es' ↔ g ∈ FactsE es) ∧ es'.length ≤ es.length ∧ Below w.heap.size w w'
theorem factsE_take {es : List (Elem w0)} {k : Nat} (h : k < es.length) (g : GFact) : g ∈ FactsE (es.take (k + 1)) ↔ g ∈ FactsE (es.take k) ∨ g = es[k].fact := by
  unfold FactsE
  rw [List.take_succ_eq_append_getElem h, List.map_append, List.mem_append]
  simp
set_option maxRecDepth 50000 in
set_option maxHeartbeats 1000000 in
theorem rSet_any (es : List (Elem w0)) (A : Option Addr) (c : Nat) (w : World) (hb : Below w0.heap.size w0 w) (hr : RowE w A c es) (hn : es.length ≤ 990000) :
    Calls Tryz.prog 14 #[.slice A es.length c] w (SetREnd es w) := by
  have HR := Lib.hid hr.row
  have HB := Lib.hid hb
  have HK := Lib.hid hr.kinds
  clear hr hb
  go_enter Tryz.func14, Tryz.ntmps14
  go_wp2
  go_loopw [3, 4] (fun vl vi wr => ∃ k : Nat, vi = .int .i64 k ∧ k ≤ es.length ∧ (∃ A, ∃ c : Nat, ∃ es' : List (Elem w0), vl = .slice A es'.length c ∧ es'.length ≤ k ∧ Hid (RowE wr A c es' ∧ StrictF (FactsE es') ∧ ∀ g, g ∈ FactsE es' ↔ g ∈ FactsE (es.take k))) ∧ Hid (Below w.heap.size w wr)) (fun _ vi _ => es.length - (intOf vi).toNat)
  case atStart => exact ⟨0, rfl, Nat.zero_le _, ⟨none, 0, [], rfl, Nat.le_refl _, Lib.hid ⟨RowE.nil _, List.Pairwise.nil, fun g => by simp [FactsE]⟩⟩, Lib.hid (Below.refl _ _)⟩
  case round =>
    obtain ⟨k, rfl, hk, ⟨Al, cl, el, rfl, hll, HL⟩, HW⟩ := hrel
    rcases Nat.lt_or_ge k es.length with hlt | hge
    · obtain ⟨b1, o1, rfl, hb1, x0, x1⟩ := (HR.out.below (Nat.le_refl _) HW.out).elem2 hlt
      have hsz := HW.out.size
      have hl1 : b1 < wr.heap.size := by omega
      have HTK := Lib.hid (factsE_take hlt)
      have HA := Lib.hid (rAdd_any el es[k] Al cl wr (bel_next HB.out HW.out) HL.out.1 HL.out.2.1 (by omega) (HK.out _ (List.mem_map.2 ⟨es[k], List.getElem_mem hlt, rfl⟩)))
      generalize es[k] = x at *
      go_wp2_with fail
      go_fit HA.out
      rintro e w1 ⟨A1, c1, e1, rfl, h1, h2, h3, h4, h5⟩
      have HN := Lib.hid (bel_next HW.out h5)
      have HL2 : Hid (RowE w1 A1 c1 e1 ∧ StrictF (FactsE e1) ∧ ∀ g, g ∈ FactsE e1 ↔ g ∈ FactsE (es.take (k + 1))) := Lib.hid ⟨h1, h2, fun g => by rw [h3 g, HTK.out g, HL.out.2.2 g]⟩
      clear h1 h2 h3 h5 HA
      go_wp2
      go_roundw
      case rel => exact ⟨k + 1, by go_num, by omega, ⟨A1, c1, e1, rfl, by omega, HL2⟩, HN⟩
      case measure => simp [intOf]; omega
    · have HE : Hid (SetREnd es w (.returned (.slice Al el.length cl)) wr) := Lib.hid ⟨Al, cl, el, rfl, HL.out.1, HL.out.2.1, fun g => by rw [HL.out.2.2 g, List.take_of_length_le hge], by omega, HW.out⟩
      go_wp2
      go_ret
      exact HE.out
def RInsEnd (es : List (Elem w0)) (f : GFact) (w : World) (e : Ending) (w' : World) : Prop :=
  (gwfF f = false ∧ e = .returned (.tuple #[.slice none 0 0, .int .i64 63]) ∧ Below w.heap.size w w') ∨
  (gwfF f = true ∧ ∃ A, ∃ c : Nat, ∃ es' : List (Elem w0), e = .returned (.tuple #[.slice A es'.length c, .int .i64 0]) ∧ RowE w' A c es' ∧ StrictF (FactsE es') ∧ (∀ g, g ∈ FactsE es' ↔ g ∈ FactsE es ∨ g = f) ∧ es'.length ≤ es.length + 1 ∧ Below w.heap.size w w')
end

end Go.Proofs.YtmodjokoggmnaaaGreatDoor


namespace Go.Proofs.YtmodjokoggmnaaaGreatDoor

open Go.RowKit Go.Shelf

/-- What Select asks. -/
def selB (r : List UInt8) (n : Int) (f : GFact) : Bool := decide (f.rel = r) && decide ((f.args.length : Int) = n)
def keepS {w0 : World} (r : List UInt8) (n : Int) (es : List (Elem w0)) : List (Elem w0) := es.filter fun x => selB r n x.fact
theorem keepS_step {w0 : World} {r : List UInt8} {n : Int} {es : List (Elem w0)} {k : Nat} (h : k < es.length) : keepS r n (es.take (k + 1)) = if selB r n es[k].fact then keepS r n (es.take k) ++ [es[k]] else keepS r n (es.take k) := by
  unfold keepS
  rw [List.take_succ_eq_append_getElem h, List.filter_append]
  cases hq : selB r n es[k].fact
  · simp [hq]
  · simp [hq]
theorem keepS_len {w0 : World} (r : List UInt8) (n : Int) (es : List (Elem w0)) : (keepS r n es).length ≤ es.length := List.length_filter_le _ _
def SelS {w0 : World} (r : List UInt8) (n : Int) (es : List (Elem w0)) (e : Ending) (w' : World) : Prop := ∃ v, e = .returned v ∧ OwnG Elem.enc 37 2 w' w0.heap.size v (keepS r n es) ∧ Below w0.heap.size w0 w'
theorem keepS_mem {w0 : World} (r : List UInt8) (n : Int) (es : List (Elem w0)) (g : GFact) : g ∈ (keepS r n es).map Elem.fact ↔ g ∈ es.map Elem.fact ∧ selB r n g = true := by
  rw [List.mem_map, List.mem_map]
  constructor
  · rintro ⟨x, hx, rfl⟩
    have h := List.mem_filter.1 hx
    exact ⟨⟨x, h.1, rfl⟩, h.2⟩
  · rintro ⟨⟨x, hx, rfl⟩, hne⟩
    exact ⟨x, List.mem_filter.2 ⟨hx, hne⟩, rfl⟩
def SelectEnd (fa : List GFact) (r : List UInt8) (n : Int) (w : World) (e : Ending) (w' : World) : Prop :=
  ∃ v, ∃ ss : List SFact, ∃ fs : List GFact, e = .returned v ∧ SetV w' v ss fs ∧ StrictF fs ∧ (∀ g, g ∈ fs ↔ g ∈ fa ∧ selB r n g = true) ∧ fs.length ≤ fa.length ∧ Below w.heap.size w w'
end Go.Proofs.YtmodjokoggmnaaaGreatDoor


namespace Go.Proofs.YtmodjokoggmnaaaGreatDoor

open Go.RowKit Go.Shelf

section

variable {w0 : World}

theorem anyE_snoc {es : List (Elem w0)} {f : GFact} {k : Nat} (h : k < es.length) (ha : (FactsE (es.take k)).any (isF f) = false) (hc : cmpF es[k].fact f ≠ 0) : (FactsE (es.take (k + 1))).any (isF f) = false := by
  rw [any_isF_false] at ha ⊢
  intro hm
  rcases (factsE_take h f).1 hm with h1 | h1
  · exact ha h1
  · exact hc ((ord_fact.z _ _).2 h1.symm)
theorem anyE_hit {es : List (Elem w0)} {f : GFact} {k : Nat} (h : k < es.length) (hc : cmpF es[k].fact f = 0) : (FactsE es).any (isF f) = true := by
  rw [any_isF]
  have e : f = es[k].fact := ((ord_fact.z _ _).1 hc).symm
  rw [e]
  exact List.mem_map.2 ⟨es[k], List.getElem_mem h, rfl⟩
theorem sub_strict {xs' es : List (Elem w0)} (h : xs'.Sublist es) (hs : StrictF (FactsE es)) : StrictF (FactsE xs') := List.Pairwise.sublist (h.map _) hs
def RRemEnd (es : List (Elem w0)) (f : GFact) (w : World) (e : Ending) (w' : World) : Prop :=
  ∃ A, ∃ c : Nat, ∃ es' : List (Elem w0), e = .returned (.tuple #[.slice A es'.length c, .bool ((FactsE es).any (isF f))]) ∧ RowE w' A c es' ∧ StrictF (FactsE es') ∧ (∀ g, g ∈ FactsE es' ↔ g ∈ FactsE es ∧ g ≠ f) ∧ es'.length ≤ es.length ∧ Below w.heap.size w w'
theorem any_congr {a b : List GFact} (h : ∀ g, g ∈ a ↔ g ∈ b) (f : GFact) : a.any (isF f) = b.any (isF f) := by
  cases hq : b.any (isF f)
  · rw [any_isF_false] at hq ⊢; rw [h]; exact hq
  · rw [any_isF] at hq ⊢; rw [h]; exact hq
def RSelEnd (es : List (Elem w0)) (r : List UInt8) (n : Int) (w : World) (e : Ending) (w' : World) : Prop :=
  ∃ A, ∃ c : Nat, ∃ es' : List (Elem w0), e = .returned (.slice A es'.length c) ∧ RowE w' A c es' ∧ StrictF (FactsE es') ∧ (∀ g, g ∈ FactsE es' ↔ g ∈ FactsE es ∧ selB r n g = true) ∧ es'.length ≤ es.length ∧ Below w.heap.size w w'
end

end Go.Proofs.YtmodjokoggmnaaaGreatDoor
