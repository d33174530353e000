/-
  The forest's functions in plain words, over lists of entries.
  Conditions: none.
-/
import Derived.Test.YtndppbfdcceflaaGreatDoorZaa
import Derived.Test.YtndppbfdcceflaaGreatDoorNae
namespace Go.Proofs.YtndppbfdcceflaaGreatDoor

open Go.RowKit

/-- The index of the first that fits, or -1. -/
def fidx {α : Type} (p : α → Bool) (l : List α) : Int := if l.findIdx p < l.length then (l.findIdx p : Int) else -1
theorem fidx_found {α : Type} {p : α → Bool} {l : List α} {k : Nat} (hk : k < l.length) (h0 : ∀ j (hj : j < l.length), j < k → p l[j] = false) (h1 : p l[k] = true) : fidx p l = k := by
  have e : l.findIdx p = k := by
    rw [List.findIdx_eq hk]
    exact ⟨h1, fun j hj => h0 j (by omega) hj⟩
  unfold fidx
  rw [e, if_pos hk]
theorem fidx_none {α : Type} {p : α → Bool} {l : List α} (h : ∀ j (hj : j < l.length), p l[j] = false) : fidx p l = -1 := by
  unfold fidx
  rw [if_neg]
  intro h1
  have h2 := List.findIdx_getElem (w := h1)
  rw [h _ h1] at h2
  cases h2
theorem fidx_map {α β : Type} (f : α → β) (p : β → Bool) (l : List α) : fidx p (l.map f) = fidx (fun x => p (f x)) l := by
  unfold fidx
  rw [List.findIdx_map, List.length_map]
  rfl
theorem fidx_lt {α : Type} {p : α → Bool} {l : List α} : fidx p l < l.length := by
  unfold fidx
  split <;> omega
theorem fidx_ge {α : Type} {p : α → Bool} {l : List α} : -1 ≤ fidx p l := by
  unfold fidx
  split <;> omega
theorem fidx_iff {α : Type} {p : α → Bool} {l : List α} : 0 ≤ fidx p l ↔ ∃ x ∈ l, p x = true := by
  unfold fidx
  split
  · rename_i h
    exact ⟨fun _ => ⟨_, List.getElem_mem h, List.findIdx_getElem (w := h)⟩, fun _ => by omega⟩
  · rename_i h
    refine ⟨fun h1 => by omega, ?_⟩
    rintro ⟨x, hx, hp⟩
    exact absurd (List.findIdx_lt_length_of_exists ⟨x, hx, hp⟩) h
theorem fidx_congr {α : Type} {p q : α → Bool} {l : List α} (h : ∀ x ∈ l, p x = q x) : fidx p l = fidx q l := by
  have e : l.findIdx p = l.findIdx q := by
    induction l with
    | nil => rfl
    | cons a r ih =>
      rw [List.findIdx_cons, List.findIdx_cons, h a (by simp), ih fun x hx => h x (List.mem_cons_of_mem _ hx)]
  unfold fidx
  rw [e]
def pid (i : GId) (o : GE) : Bool := eqI o.node.id i
def pat (c s : Int) (o : GE) : Bool := o.core == c && o.slot == s
def plt (i : GId) (o : GE) : Bool := ltI i o.node.id
def insK (es : List GE) (e : GE) : Nat := es.findIdx (plt e.node.id)
def insL (es : List GE) (e : GE) : List GE := es.take (insK es e) ++ e :: es.drop (insK es e)
def insB (es : List GE) (e : GE) : Bool := decide (fidx (pid e.node.id) es < 0) && decide (fidx (pat e.core e.slot) es < 0)
def remK (es : List GE) (i : GId) : Nat := es.findIdx (pid i)
def remL (es : List GE) (i : GId) : List GE := es.take (remK es i) ++ es.drop (remK es i + 1)
def prnL (es : List GE) (i : GId) : List GE := es.filter fun o => !hasI o.node.path i
def evcL (es : List GE) (c : Int) : List GE := es.filter fun o => o.core != c
def desL (es : List GE) (i : GId) : List GId := (es.filter fun o => hasI o.node.path i).map fun o => o.node.id
def idsE (es : List GE) : List GId := es.map fun o => o.node.id
/-- The path of the first entry with an Id, or no path. -/
def pthE (es : List GE) (i : GId) : List GId := match es.find? (pid i) with | some o => o.node.path | none => []
def parEI (es : List GE) (i : GId) : GId := parI (pthE es i) (idsE es)
def parEB (es : List GE) (i : GId) : Bool := parB (pthE es i) (idsE es)
def prmB (es : List GE) (src : GId) (o : GE) : Bool := match es.find? (pid src) with | some s => decide (o.node.cap.kind = 1) && conR o.node.cap.rng s.node.cap.rng | none => false
def conE (es : List GE) (src : GId) (caps : List GC) : Bool := caps.any fun c => es.any fun o => ovR o.node.cap.rng c.rng && !prmB es src o
theorem find_at {α : Type} {p : α → Bool} {l : List α} {k : Nat} (h : fidx p l = k) : ∃ hk : k < l.length, l.find? p = some l[k] ∧ l.findIdx p = k := by
  unfold fidx at h
  split at h
  · rename_i h1
    have e : l.findIdx p = k := by omega
    have hk : k < l.length := by omega
    refine ⟨hk, ?_, e⟩
    rw [List.find?_eq_some_iff_getElem]
    have h2 := (List.findIdx_eq hk).1 e
    exact ⟨h2.1, k, hk, rfl, fun j hj => by simp [h2.2 j hj]⟩
  · omega
theorem find_no {α : Type} {p : α → Bool} {l : List α} (h : fidx p l < 0) : l.find? p = none := by
  rw [List.find?_eq_none]
  intro x hx hp
  have := fidx_iff.2 ⟨x, hx, hp⟩
  omega
theorem par_nil (ls : List GId) : parI [] ls = ⟨0, 0, 0⟩ ∧ parB [] ls = false := par_none (by rfl)
end Go.Proofs.YtndppbfdcceflaaGreatDoor
