/-
  Capabilities that come in as arguments, as the library opens them.
  Conditions: none beyond the frame's.
-/
import Derived.Test.YtpjakfbjiioflaaCag
import Derived.Deep.Slices
import Derived.Deep.Fields
import Derived.OpenShut
import Derived.ChangeSlices
import Derived.ChangeSame
import Derived.SizedLaws
namespace Go.Proofs.Ytpjakfbjiioflaa

open Go.ChangeShapes Go.WideShapes Go.RowKit

section

variable {H : Type} {enc : TypeId × Value → H} {W : World} {base : Nat} {held : Bool}

set_option maxRecDepth 50000 in
theorem cap_open {n : Nat} {cs : List Value} {x : DataW H × List MemPlace} (h : DataW.trod enc Try.prog W base (fun _ => true) held n 23 cs = some x) : ∃ c : GC, cs = c.cells := by
  obtain ⟨ys, m, _, hxy, hlen, hyl, hf⟩ := DataW.trod_struct Try.underlying23 h
  have c0 : Try.prog.cellsOf 23 = 7 := by kernel_rfl
  rw [c0] at hlen
  match cs, hlen with
  | [v0, v1, v2, v3, v4, v5, v6], _ =>
    have n1 : Try.prog.cellsOf 3 = 1 := by kernel_rfl
    have n2 : Try.prog.cellsOf 4 = 1 := by kernel_rfl
    have h0 := hf 0 _ rfl
    have h1 := hf 1 _ rfl
    have h2 := hf 2 _ rfl
    have h3 := hf 3 _ rfl
    have h4 := hf 4 _ rfl
    have h5 := hf 5 _ rfl
    have h6 := hf 6 _ rfl
    have yl : ys.length = 7 := hyl
    match ys, yl with
    | [y0, y1, y2, y3, y4, y5, y6], _ =>
      simp [n1] at h0
      simp [n1] at h1
      simp [n1] at h2
      simp [n1] at h3
      simp [n1] at h4
      simp [n1] at h5
      simp [n2] at h6
      obtain ⟨a0, e0, _, _⟩ := DataW.trod_int Try.underlying3 h0
      obtain ⟨a1, e1, _, _⟩ := DataW.trod_int Try.underlying3 h1
      obtain ⟨a2, e2, _, _⟩ := DataW.trod_int Try.underlying3 h2
      obtain ⟨a3, e3, _, _⟩ := DataW.trod_int Try.underlying3 h3
      obtain ⟨a4, e4, _, _⟩ := DataW.trod_int Try.underlying3 h4
      obtain ⟨a5, e5, _, _⟩ := DataW.trod_int Try.underlying3 h5
      obtain ⟨a6, e6, _⟩ := DataW.trod_bool Try.underlying4 h6
      simp at e0 e1 e2 e3 e4 e5 e6
      subst e0 e1 e2 e3 e4 e5 e6
      exact ⟨⟨a0, a1, a2, a3, a4, a5, a6⟩, rfl⟩
theorem IsCap_open {v : Value} {d : DataW H} {p : List MemPlace} {r : Reach} {b : Nat} (hv : Value.okWide Try.prog W r b 23 v) (h : DataW.Trod enc Try.prog W base (fun _ => true) held 23 v d p) : ∃ x : GC, v = x.val := by
  obtain ⟨cs, rfl, _⟩ := okWide_struct Try.underlying23 hv
  obtain ⟨fuel, hf⟩ := h
  obtain ⟨x, hcs⟩ := cap_open hf
  refine ⟨x, ?_⟩
  have h2 : cs.toList = x.cells := hcs
  obtain ⟨cl⟩ := cs
  simp at h2
  rw [h2]; rfl
end

end Go.Proofs.Ytpjakfbjiioflaa
