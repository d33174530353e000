/-
  A slice of ints that is read, and as an argument that comes in.
  Conditions: none beyond the frame's.
  The kit's maker of an Id.
  Conditions: none.
-/
import Derived.Test.YtnoegjfokceghaaMc26
import Derived.Test.YtnoegjfokceghaaMc17
namespace Go.Proofs.Ytnoegjfokceghaa
open Go.ChangeShapes Go.WideShapes Go.RowKit

/-- A slice of ints that is read. -/
structure IRow (w : World) (B : Nat) (A : Option Addr) (len cap : Nat) (zs : List Int) : Prop where
  count : zs.length = len
  le : len ≤ cap
  max : cap ≤ 9223372036854775807
  row : 0 < len → ∃ b off, A = some ⟨b, off, none⟩ ∧ b < B ∧ ∀ i, i < len → w.cell? ⟨b, off + i, none⟩ = some (.int .i64 (zs.getD i 0))
  wf : ∀ z ∈ zs, (Lit.int .i64 z).wf = true
theorem IRow.below {w w' : World} {B B' : Nat} {A : Option Addr} {len cap : Nat} {zs : List Int} (h : IRow w B A len cap zs) (hB : B ≤ B') (hb : Below B' w w') : IRow w' B A len cap zs :=
  ⟨h.count, h.le, h.max, fun hn => by
    obtain ⟨b, off, e, hlt, hc⟩ := h.row hn
    exact ⟨b, off, e, hlt, fun i hi => (hb.cell (p := ⟨b, off + i, none⟩) (by show b < B'; omega)).trans (hc i hi)⟩, h.wf⟩
section
variable {H : Type} {enc : TypeId × Value → H} {W : World} {base : Nat} {held : Bool}
theorem IsInts_open {a : Option Addr} {len cap : Nat} {d : DataW H} {p : List MemPlace} (h : DataW.Trod enc Try.prog W base (fun _ => true) held 50 (.slice a len cap) d p) : ∃ zs, IRow W W.heap.size a len cap zs := by
  obtain ⟨fuel, hf⟩ := h
  rcases open_ints Try.underlying50 Try.underlying3 (by kernel_rfl) hf with ⟨hcs, _⟩ | ⟨x, l, c, zs, hcs, _, hl, hm, hz, _, hc, hw⟩
  · simp [Value.cells] at hcs
    obtain ⟨rfl, rfl, rfl⟩ := hcs
    exact ⟨[], rfl, Nat.le_refl _, Nat.zero_le _, fun h => absurd h (by omega), fun z hz => (by cases hz)⟩
  · simp [Value.cells] at hcs
    obtain ⟨rfl, rfl, rfl⟩ := hcs
    have hzl : len ≤ zs.length := by rw [hz]; simp; omega
    refine ⟨zs.take len, by simp; omega, hl, by unfold maxLen at hm; omega, fun h0 => ?_, fun z hz => hw z (List.mem_of_mem_take hz)⟩
    obtain ⟨b, off, rfl, hat⟩ := ints_at hc (by omega)
    refine ⟨b, off, rfl, ?_, fun i hi => ?_⟩
    · have := World.block_lt_of_cell? W _ (hat 0 (by omega))
      simpa using this
    · rw [hat i (by omega), List.getD_eq_getElem?_getD, List.getD_eq_getElem?_getD, List.getElem?_take, if_pos hi]
end
end Go.Proofs.Ytnoegjfokceghaa


namespace Go.Proofs.Ytnoegjfokceghaa

open Go.RowKit

set_option maxRecDepth 20000 in
set_option maxHeartbeats 1000000 in
theorem mId_any (a b c : Int) (w : World) : Calls Try.prog 35 #[.int .i64 a, .int .i64 b, .int .i64 c] w fun e w' => ∃ x : GId, vI x = true ∧ e = .returned x.val ∧ Below w.heap.size w w' := by
  have H1 := Lib.hid fun W => mPlace_any a 4 (by omega) (by omega) W
  have H2 := Lib.hid fun W => mPlace_any b 12 (by omega) (by omega) W
  have H3 := Lib.hid fun W => mPlace_any c 3 (by omega) (by omega) W
  go_enter Try.func35, Try.ntmps35
  go_wp2_with fail
  go_fit (H1.out _)
  rintro e w1 ⟨p, p0, p1, rfl, rfl⟩
  go_wp2_with fail
  go_fit (H2.out _)
  rintro e w2 ⟨q, q0, q1, rfl, rfl⟩
  go_wp2_with fail
  go_fit (H3.out _)
  rintro e w3 ⟨r, r0, r1, rfl, rfl⟩
  have HV : Hid (vI ⟨p, 1 + q, r⟩ = true) := Lib.hid (vI_iff.2 (by simp only; omega))
  go_wp2
  refine bodyPost_ret (v := .agg #[.int .i64 p, .int .i64 (1 + q), .int .i64 r]) (by simp [results, Try.results35, go_sem]) rfl ?_
  exact ⟨_, HV.out, rfl, belt (Below.refl _ w) _⟩
end Go.Proofs.Ytnoegjfokceghaa
