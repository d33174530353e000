/-
  A slice of bytes that comes in as an argument, as the library opens it, reads as a list of bytes.
  Conditions: none beyond the frame's.
  Slices of bytes that come in as arguments, with what their capacity is.
  Conditions: none beyond the frame's.
-/
import Derived.Test.YtnoegjfokceghaaOwn
import Derived.OpenShut
import Derived.ChangeSlices
namespace Go.Proofs.Ytnoegjfokceghaa

open Go.ChangeShapes Go.WideShapes Go.RowKit

theorem rowByt {w : World} {a : Option Addr} {len cap : Nat} {zs : List Int}
    (h : (a = none ∧ len = 0 ∧ cap = 0 ∧ zs = []) ∨
      ∃ x, a = some x ∧ len ≤ cap ∧ cap ≤ maxLen ∧ zs.length = cap ∧ (∀ i, i < zs.length → w.cell? (x.add i) = some (.int .u8 (zs.getD i 0))) ∧ ∀ n ∈ zs, (Lit.int .u8 n).wf = true) :
    ∃ l, Byt w w.heap.size a len l ∧ len ≤ cap ∧ cap ≤ maxLen := by
  rcases h with ⟨rfl, rfl, rfl, rfl⟩ | ⟨x, rfl, hl, hm, hz, hcell, hwz⟩
  · exact ⟨[], Byt.nil, Nat.le_refl _, Nat.zero_le _⟩
  · refine ⟨(zs.take len).map fun z => UInt8.ofNat z.toNat, ⟨by rw [List.length_map, List.length_take]; omega, fun h0 => ?_⟩, hl, hm⟩
    obtain ⟨b, off, spot⟩ := x
    have hc0 := hcell 0 (by omega)
    have hspot : spot = none := by simpa [Addr.add] using World.cell?_spot hc0
    subst hspot
    have hlt := World.block_lt_of_cell? w _ hc0
    refine ⟨b, off, rfl, by simpa [Addr.add] using hlt, fun j hj => ?_⟩
    have e : (⟨b, off, none⟩ : Addr).add j = ⟨b, off + j, none⟩ := by unfold Addr.add; split <;> simp_all
    rw [← e, hcell j (by omega)]
    have hjz : j < zs.length := by omega
    have hw := hwz _ (List.getElem_mem hjz)
    have hb := bounds_u8 hw
    unfold byV bt
    have e2 : ((zs.take len).map fun z => UInt8.ofNat z.toNat).getD j 0 = UInt8.ofNat zs[j].toNat := by
      rw [List.getD_eq_getElem?_getD, List.getElem?_map, List.getElem?_take, if_pos hj, List.getElem?_eq_getElem hjz]; rfl
    rw [e2, List.getD_eq_getElem?_getD, List.getElem?_eq_getElem hjz]
    have e3 : (UInt8.ofNat zs[j].toNat).toNat = zs[j].toNat := by
      rw [UInt8.toNat_ofNat']; omega
    rw [e3]
    simp only [Option.getD_some]
    congr 2
    omega
/-- Such a slice, with its capacity. -/
abbrev BytC (w : World) (B : Nat) (a : Option Addr) (len _cap : Nat) (l : List UInt8) : Prop := Byt w B a len l
section

variable {H : Type} {enc : TypeId × Value → H} {W : World} {base : Nat} {held : Bool}

theorem IsBytes_open0 {a : Option Addr} {len cap : Nat} {d : DataW H} {p : List MemPlace} (h : DataW.Trod enc Try.prog W base (fun _ => true) held 45 (.slice a len cap) d p) : ∃ l, BytC W W.heap.size a len cap l := by
  obtain ⟨fuel, hf⟩ := h
  rcases open_ints Try.underlying45 Try.underlying5 (by kernel_rfl) hf with ⟨hcs, _⟩ | ⟨x, l, c, zs, hcs, _, hl, hm, hz, _, hcell, hwz⟩
  · simp [Value.cells] at hcs
    obtain ⟨rfl, rfl, rfl⟩ := hcs
    obtain ⟨l, hl, _⟩ := rowByt (zs := []) (.inl ⟨rfl, rfl, rfl, rfl⟩)
    exact ⟨l, hl⟩
  · simp [Value.cells] at hcs
    obtain ⟨rfl, rfl, rfl⟩ := hcs
    obtain ⟨l, hl, _⟩ := rowByt (zs := zs) (.inr ⟨_, rfl, hl, hm, by simpa using hz, hcell, hwz⟩)
    exact ⟨l, hl⟩
end

end Go.Proofs.Ytnoegjfokceghaa


namespace Go.Proofs.Ytnoegjfokceghaa
open Go.ChangeShapes Go.WideShapes Go.RowKit

def BytL (w : World) (B : Nat) (a : Option Addr) (len cap : Nat) (l : List UInt8) : Prop := len ≤ cap ∧ Byt w B a len l
section
variable {H : Type} {enc : TypeId × Value → H} {W : World} {base : Nat} {held : Bool}
theorem IsBytes_open1 {a : Option Addr} {len cap : Nat} {d : DataW H} {p : List MemPlace} (h : DataW.Trod enc Try.prog W base (fun _ => true) held 45 (.slice a len cap) d p) : ∃ l, BytL W W.heap.size a len cap l := by
  obtain ⟨fuel, hf⟩ := h
  rcases open_ints Try.underlying45 Try.underlying5 (by kernel_rfl) hf with ⟨hcs, _⟩ | ⟨x, l, c, zs, hcs, _, hl, hm, hz, _, hcell, hwz⟩
  · simp [Value.cells] at hcs
    obtain ⟨rfl, rfl, rfl⟩ := hcs
    obtain ⟨l, hl, h2, _⟩ := rowByt (zs := []) (.inl ⟨rfl, rfl, rfl, rfl⟩)
    exact ⟨l, h2, hl⟩
  · simp [Value.cells] at hcs
    obtain ⟨rfl, rfl, rfl⟩ := hcs
    obtain ⟨l, h1, h2, _⟩ := rowByt (zs := zs) (.inr ⟨_, rfl, hl, hm, by simpa using hz, hcell, hwz⟩)
    exact ⟨l, h2, h1⟩
end
end Go.Proofs.Ytnoegjfokceghaa
