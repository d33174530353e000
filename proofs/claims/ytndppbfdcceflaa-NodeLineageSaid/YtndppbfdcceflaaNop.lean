/-
  Ids, slices of Ids and nodes that come in as arguments, as the library opens them.
  Conditions: none beyond the frame's.
-/
import Derived.Test.YtndppbfdcceflaaNap
import Derived.Deep.Slices
import Derived.Deep.Fields
import Derived.OpenShut
import Derived.ChangeSlices
import Derived.ChangeSame
import Derived.SizedLaws
namespace Go.Proofs.Ytndppbfdcceflaa

open Go.ChangeShapes Go.WideShapes Go.RowKit

def IdRow (w : World) (B : Nat) (A : Option Addr) (len cap : Nat) (l : List GId) : Prop := l.length = len ∧ len ≤ cap ∧ GRow GId.cells 3 w B A l
section

variable {H : Type} {enc : TypeId × Value → H} {W : World} {base : Nat} {held : Bool}

set_option maxRecDepth 50000 in
theorem id_open {n : Nat} {cs : List Value} {x : DataW H × List MemPlace} (h : DataW.trod enc Try.prog W base (fun _ => true) held n 24 cs = some x) : ∃ r : GId, cs = r.cells := by
  obtain ⟨ys, m, _, hxy, hlen, hyl, hf⟩ := DataW.trod_struct Try.underlying24 h
  have c0 : Try.prog.cellsOf 24 = 3 := by kernel_rfl
  rw [c0] at hlen
  match cs, hlen with
  | [v0, v1, v2], _ =>
    have n1 : Try.prog.cellsOf 3 = 1 := by kernel_rfl
    have h0 := hf 0 _ rfl
    have h1 := hf 1 _ rfl
    have h2 := hf 2 _ rfl
    have yl : ys.length = 3 := hyl
    match ys, yl with
    | [y0, y1, y2], _ =>
      simp [n1] at h0
      simp [n1] at h1
      simp [n1] at h2
      obtain ⟨a0, e0, _, _⟩ := DataW.trod_int Try.underlying3 h0
      obtain ⟨a1, e1, _, _⟩ := DataW.trod_int Try.underlying3 h1
      obtain ⟨a2, e2, _, _⟩ := DataW.trod_int Try.underlying3 h2
      simp at e0 e1 e2
      subst e0 e1 e2
      exact ⟨⟨a0, a1, a2⟩, rfl⟩
theorem IsId_open {v : Value} {d : DataW H} {p : List MemPlace} {r : Reach} {b : Nat} (hv : Value.okWide Try.prog W r b 24 v) (h : DataW.Trod enc Try.prog W base (fun _ => true) held 24 v d p) : ∃ x : GId, v = x.val := by
  obtain ⟨cs, rfl, _⟩ := okWide_struct Try.underlying24 hv
  obtain ⟨fuel, hf⟩ := h
  obtain ⟨x, hcs⟩ := id_open hf
  refine ⟨x, ?_⟩
  have h2 : cs.toList = x.cells := hcs
  obtain ⟨cl⟩ := cs
  simp at h2
  rw [h2]; rfl
set_option maxRecDepth 50000 in
theorem cap_open {n : Nat} {cs : List Value} {x : DataW H × List MemPlace} (h : DataW.trod enc Try.prog W base (fun _ => true) held n 28 cs = some x) : ∃ c : GC, cs = c.cells := by
  obtain ⟨ys, m, _, hxy, hlen, hyl, hf⟩ := DataW.trod_struct Try.underlying28 h
  have c0 : Try.prog.cellsOf 28 = 7 := by kernel_rfl
  rw [c0] at hlen
  match cs, hlen with
  | [v0, v1, v2, v3, v4, v5, v6], _ =>
    have n1 : Try.prog.cellsOf 3 = 1 := by kernel_rfl
    have n2 : Try.prog.cellsOf 4 = 1 := by kernel_rfl
    have h0 := hf 0 _ rfl
    have h1 := hf 1 _ rfl
    have h2 := hf 2 _ rfl
    have h3 := hf 3 _ rfl
    have h4 := hf 4 _ rfl
    have h5 := hf 5 _ rfl
    have h6 := hf 6 _ rfl
    have yl : ys.length = 7 := hyl
    match ys, yl with
    | [y0, y1, y2, y3, y4, y5, y6], _ =>
      simp [n1] at h0
      simp [n1] at h1
      simp [n1] at h2
      simp [n1] at h3
      simp [n1] at h4
      simp [n1] at h5
      simp [n2] at h6
      obtain ⟨a0, e0, _, _⟩ := DataW.trod_int Try.underlying3 h0
      obtain ⟨a1, e1, _, _⟩ := DataW.trod_int Try.underlying3 h1
      obtain ⟨a2, e2, _, _⟩ := DataW.trod_int Try.underlying3 h2
      obtain ⟨a3, e3, _, _⟩ := DataW.trod_int Try.underlying3 h3
      obtain ⟨a4, e4, _, _⟩ := DataW.trod_int Try.underlying3 h4
      obtain ⟨a5, e5, _, _⟩ := DataW.trod_int Try.underlying3 h5
      obtain ⟨a6, e6, _⟩ := DataW.trod_bool Try.underlying4 h6
      simp at e0 e1 e2 e3 e4 e5 e6
      subst e0 e1 e2 e3 e4 e5 e6
      exact ⟨⟨a0, a1, a2, a3, a4, a5, a6⟩, rfl⟩
theorem IsCap_open {v : Value} {d : DataW H} {p : List MemPlace} {r : Reach} {b : Nat} (hv : Value.okWide Try.prog W r b 28 v) (h : DataW.Trod enc Try.prog W base (fun _ => true) held 28 v d p) : ∃ x : GC, v = x.val := by
  obtain ⟨cs, rfl, _⟩ := okWide_struct Try.underlying28 hv
  obtain ⟨fuel, hf⟩ := h
  obtain ⟨x, hcs⟩ := cap_open hf
  refine ⟨x, ?_⟩
  have h2 : cs.toList = x.cells := hcs
  obtain ⟨cl⟩ := cs
  simp at h2
  rw [h2]; rfl
set_option maxRecDepth 50000 in
theorem ids_open {fuel : Nat} {cs : List Value} {x : DataW H × List MemPlace} (hf : DataW.trod enc Try.prog W base (fun _ => true) held fuel 26 cs = some x) : ∃ a len cap l, cs = [.slice a len cap] ∧ IdRow W W.heap.size a len cap l := by
  rcases Go.Deep.open_slice Try.underlying26 hf with ⟨hcs, _⟩ | ⟨x, len, cap, m, n, D, Pl, hcs, _, hl, hm, hmm, hxd, hx⟩
  · exact ⟨none, 0, 0, [], by simpa [Value.cells] using hcs, rfl, Nat.le_refl _, GRow.nil⟩
  · refine ⟨some x, len, cap, ?_⟩
    have c0 : Try.prog.cellsOf 24 = 3 := by kernel_rfl
    rw [c0] at hx
    have hlm : len ≤ m := by rw [hmm]; split <;> omega
    have each : ∀ i, i < len → ∃ t : GId, ∀ j, j < 3 → W.cell? ((x.add (i * 3)).add j) = t.cells[j]? := fun i hi => by
      obtain ⟨cs', hc, ht⟩ := hx i (by omega)
      obtain ⟨s, rfl⟩ := id_open ht
      obtain ⟨_, _, hat⟩ := World.cells?_some hc
      exact ⟨s, fun j hj => hat j hj⟩
    haveI : Inhabited GId := ⟨⟨0, 0, 0⟩⟩
    obtain ⟨g, hgx⟩ := Go.Deep.choose_lt each
    refine ⟨(List.range len).map g, by simpa [Value.cells] using hcs, by simp, hl, fun h0 => ?_⟩
    simp at h0
    obtain ⟨b, off, spot⟩ := x
    have hc0 := hgx 0 h0 0 (by omega)
    have hspot : spot = none := by simpa [Addr.add] using World.cell?_spot (hc0.trans rfl)
    subst hspot
    have hlt := World.block_lt_of_cell? W _ (hc0.trans rfl)
    refine ⟨b, off, rfl, by simpa [Addr.add] using hlt, fun i hi j u hu => ?_⟩
    simp at hi
    have hj : j < 3 := by
      rcases Nat.lt_or_ge j 3 with h1 | h1
      · exact h1
      · rw [List.getElem?_eq_none (by simp [GId.cells]; omega)] at hu; cases hu
    have e : ((⟨b, off, none⟩ : Addr).add (i * 3)).add j = ⟨b, off + (i * 3 + j), none⟩ := by rw [Go.WideShapes.add_plain, Go.WideShapes.add_plain, Nat.add_assoc]
    have := hgx i hi j hj
    rw [e] at this
    simp at hu
    rw [this, hu]
set_option maxRecDepth 50000 in
theorem node_open {n : Nat} {cs : List Value} {x : DataW H × List MemPlace} (h : DataW.trod enc Try.prog W base (fun _ => true) held n 30 cs = some x) : ∃ (r : GN) (A : Option Addr) (c : Nat), Value.agg cs.toArray = r.val A c ∧ r.path.length ≤ c ∧ PRow W W.heap.size A r.path := by
  obtain ⟨ys, m, _, hxy, hlen, hyl, hf⟩ := DataW.trod_struct Try.underlying30 h
  have c0 : Try.prog.cellsOf 30 = 11 := by kernel_rfl
  rw [c0] at hlen
  match cs, hlen with
  | [v0, v1, v2, v3, v4, v5, v6, v7, v8, v9, v10], _ =>
    have n1 : Try.prog.cellsOf 24 = 3 := by kernel_rfl
    have n2 : Try.prog.cellsOf 26 = 1 := by kernel_rfl
    have n3 : Try.prog.cellsOf 28 = 7 := by kernel_rfl
    have h0 := hf 0 _ rfl
    have h1 := hf 1 _ rfl
    have h2 := hf 2 _ rfl
    have yl : ys.length = 3 := hyl
    match ys, yl with
    | [y0, y1, y2], _ =>
      simp [n1] at h0
      simp [n2] at h1
      simp [n3] at h2
      obtain ⟨i, hi⟩ := id_open h0
      obtain ⟨a, ha⟩ := cap_open h2
      obtain ⟨A, len, cp, l, hs, h3, h4, h5⟩ := ids_open h1
      obtain ⟨i0, i1, i2⟩ := i
      obtain ⟨a0, a1, a2, a3, a4, a5, a6⟩ := a
      simp only [GId.cells, GC.cells, List.cons.injEq, and_true] at hi ha hs
      obtain ⟨rfl, rfl, rfl⟩ := hi
      obtain ⟨rfl, rfl, rfl, rfl, rfl, rfl, rfl⟩ := ha
      subst hs h3
      exact ⟨⟨⟨i0, i1, i2⟩, l, ⟨a0, a1, a2, a3, a4, a5, a6⟩⟩, A, cp, rfl, h4, h5⟩
theorem IsNode_open {v : Value} {d : DataW H} {p : List MemPlace} {r : Reach} {b : Nat} (hv : Value.okWide Try.prog W r b 30 v) (h : DataW.Trod enc Try.prog W base (fun _ => true) held 30 v d p) : ∃ (x : GN) (A : Option Addr) (c : Nat), v = x.val A c ∧ x.path.length ≤ c ∧ PRow W W.heap.size A x.path := by
  obtain ⟨cs, rfl, _⟩ := okWide_struct Try.underlying30 hv
  obtain ⟨fuel, hf⟩ := h
  obtain ⟨x, A, c, hcs, h2, h3⟩ := node_open hf
  exact ⟨x, A, c, by rw [← hcs]; simp [Value.cells], h2, h3⟩
theorem IsIds_open {a : Option Addr} {len cap : Nat} {d : DataW H} {p : List MemPlace} (h : DataW.Trod enc Try.prog W base (fun _ => true) held 26 (.slice a len cap) d p) : ∃ l, IdRow W W.heap.size a len cap l := by
  obtain ⟨fuel, hf⟩ := h
  obtain ⟨a', len', cap', l, e, h⟩ := ids_open hf
  simp [Value.cells] at e
  obtain ⟨rfl, rfl, rfl⟩ := e
  exact ⟨l, h⟩
end

end Go.Proofs.Ytndppbfdcceflaa
