/-
  The contract of strconv.ParseUint at the bases 10 and 16 on texts of valid digits: the value, or an error where it is 2^64 or more; and of hwlex.number: the numeral's value or the error that the chapter names.
  Conditions: as each theorem says; the variable strconv.ErrRange lies as the program's start lays it.
  What the rows' listed variables give the walks, and that the program's own start meets the rows' condition on them.
  Conditions: none.
-/
import Derived.Test.YtolkceibbefhfaaGreatDoorMa2
import Derived.Lib.ItoaNum
import Derived.Lib.AtoiErrMem
import Derived.Test.YtolkceibbefhfaaGreatDoorRows
import Derived.ProofKit
import Derived.LaidMore
import Derived.LaidLaws
import Derived.OpenShut
import Derived.Stop.Joined
namespace Go.Proofs.YtolkceibbefhfaaGreatDoor

open Go.RowKit Go.Shelf

/-- The package-level variables that the call reads lie asx the program's start lays them, below the heap's end. -/
def Glob (w : World) : Prop := 3 < w.heap.size ∧ ∃ ev, w.cell? ⟨3, 0, none⟩ = some ev ∧ (ev = .nilIface ∨ ∃ te pe, ev = .iface te pe)
theorem Glob.below {w w' : World} {B : Nat} (h : Glob w) (hB : 3 < B) (hb : Below B w w') : Glob w' := by
  obtain ⟨h1, ev, h2, h3⟩ := h
  refine ⟨?_, ev, ?_, h3⟩
  · have := hb.size; omega
  · exact (hb.cell (p := ⟨3, 0, none⟩) hB).trans h2
theorem Glob.lt {w : World} (h : Glob w) : 3 < w.heap.size := h.1
theorem Glob.next {w w' : World} (h : Glob w) (hb : Below w.heap.size w w') : Glob w' := h.below h.1 hb

theorem pu10 (bs : List UInt8) (hne : bs ≠ []) (hmax : bs.length ≤ 4294967296) (hall : bs.all (okDig 10) = true) (w : World) :
    Calls Tryz.prog 137 #[.string ⟨bs.toArray⟩, .int .i64 10, .int .i64 64] w fun e w' => e = .returned (puV 163 (parse 10 0 bs)) ∧ w' = Lib.bytesWorld w 5 ⟨bs.toArray⟩ :=
  (Tryz.internal_strconv_ParseUint_10_b64 ⟨bs.toArray⟩ (by
    rw [Lib.size_eq]; exact fun h => hne (List.eq_nil_of_length_eq_zero h)) (by rw [Lib.size_eq]; show bs.length ≤ _; omega) w).mono fun e w' ⟨he, hw⟩ => ⟨by
    rw [he]; show Ending.returned (Lib.uintTuple _ (Lib.parseUint10 0 bs)) = _
    rw [parse_ten bs hall]; cases parse 10 0 bs <;> rfl, hw⟩
theorem pu (base : Nat) (hb : base = 10 ∨ base = 16) (bs : List UInt8) (hne : bs ≠ []) (hmax : bs.length ≤ 4294967296) (hall : bs.all (okDig base) = true) (w : World) :
    Calls Tryz.prog 137 #[.string ⟨bs.toArray⟩, .int .i64 (base : Int), .int .i64 64] w fun e w' => e = .returned (puV 163 (parse base 0 bs)) ∧ w' = Lib.bytesWorld w 5 ⟨bs.toArray⟩ := by
  rcases hb with rfl | rfl
  · exact pu10 bs hne hmax hall w
  · exact pu16 bs hne hmax hall w

theorem parseUint_ok (base : Nat) (hb : base = 10 ∨ base = 16) (bs : List UInt8) (hne : bs ≠ []) (hmax : bs.length ≤ 4294967296) (hall : bs.all (okDig base) = true) (hv : value base bs < 18446744073709551616) (w : World) :
    Calls Tryz.prog 110 #[.string ⟨bs.toArray⟩, .int .i64 (base : Int), .int .i64 64] w fun e w' => e = .returned (.tuple #[.int .u64 (value base bs), .nilIface]) ∧ Below w.heap.size w w' := by
  have HP : Hid (parse base 0 bs = some (value base bs)) := Lib.hid (by rw [parse_eq base (by omega) bs 0 (by omega), ← value_eq, if_pos hv])
  have hc := pu base hb bs hne hmax hall w
  rw [HP.out] at hc
  have HB := Lib.hid (Lib.bytesWorld_below w 5 ⟨bs.toArray⟩)
  generalize value base bs = v at hc HP hv ⊢
  generalize Lib.bytesWorld w 5 ⟨bs.toArray⟩ = W1 at hc HB
  have HC := Lib.hid hc
  clear hc hv hall HP
  go_enter Tryz.func110, Tryz.ntmps110
  go_wp2_with fail
  refine HC.out.mono ?_
  rintro e w' ⟨rfl, rfl⟩
  simp only [puV]
  go_wp2
  go_ret2
  exact ⟨rfl, HB.out⟩
theorem parseUint_big (base : Nat) (hb : base = 10 ∨ base = 16) (bs : List UInt8) (hne : bs ≠ []) (hmax : bs.length ≤ 4294967296) (hall : bs.all (okDig base) = true) (hv : ¬ value base bs < 18446744073709551616) (w : World) (hG : Glob w) :
    Calls Tryz.prog 110 #[.string ⟨bs.toArray⟩, .int .i64 (base : Int), .int .i64 64] w fun e w' => ∃ N, e = .returned (.tuple #[.int .u64 18446744073709551615, .iface 165 (.pointer (some ⟨N, 0, none⟩))]) ∧ Below w.heap.size w w' := by
  have HP : Hid (parse base 0 bs = none) := Lib.hid (by rw [parse_eq base (by omega) bs 0 (by omega), ← value_eq, if_neg hv])
  have hc := pu base hb bs hne hmax hall w
  rw [HP.out] at hc
  have hbl := Lib.bytesWorld_below w 5 ⟨bs.toArray⟩
  obtain ⟨hlt, ev, hev, hee⟩ := hG.next hbl
  have HB := Lib.hid hbl
  generalize Lib.bytesWorld w 5 ⟨bs.toArray⟩ = W1 at hc HB hlt hev
  have HC := Lib.hid hc
  have HT : Hid (Calls Tryz.prog 138 #[.string ⟨#[80, 97, 114, 115, 101, 85, 105, 110, 116]⟩, .string ⟨bs.toArray⟩, .int .i64 (base : Int), .int .i64 64, .iface 163 (.int .i64 1)] W1 fun e w' => ∃ N, e = .returned (.iface 165 (.pointer (some ⟨N, 0, none⟩))) ∧ Below W1.heap.size W1 w') :=
    Lib.hid ((Tryz.strconv_toError_range ⟨#[80, 97, 114, 115, 101, 85, 105, 110, 116]⟩ ⟨bs.toArray⟩ base 64 ev W1 (by rw [Lib.size_eq]; show bs.length ≤ _; omega) hev hee).mono fun e w' ⟨N, he, _, _, hb'⟩ => ⟨N, he, hb'⟩)
  clear hc hv hall HP hev hee hlt hbl hG
  go_enter Tryz.func110, Tryz.ntmps110
  go_wp2_with fail
  refine HC.out.mono ?_
  rintro e w' ⟨rfl, rfl⟩
  simp only [puV]
  go_wp2_with fail
  refine HT.out.mono ?_
  rintro e w2 ⟨N, rfl, hb2⟩
  have HB2 := Lib.hid hb2
  clear hb2
  go_wp2
  go_ret2
  exact ⟨N, rfl, HB.out.trans (HB2.out.mono HB.out.size)⟩
end Go.Proofs.YtolkceibbefhfaaGreatDoor


namespace Go.Proofs.YtolkceibbefhfaaGreatDoor
open Go.ChangeShapes Go.WideShapes Go.ChangeAt Go.RowKit

theorem gRange : Tryz.prog.globalNamed "strconv.ErrRange" = some 3 := by kernel_rfl
theorem tRange : (Tryz.prog.globals[3]?).map (·.type) = some 79 := by kernel_rfl
theorem glob_of_laid {W : World} (h : laidMetH Tryz.prog Rows.factOrderRow.laid W) : Glob W := by
  rw [MakeChecks.laidMetH_plain _ _ _ (by kernel_rfl)] at h
  obtain ⟨ps, ⟨g0, t0, cs0, f0, p0, q0, hg0, ht0, hv0, hd0, ⟨g1, t1, cs1, f1, p1, q1, hg1, ht1, hv1, hd1, ⟨g2, t2, cs2, f2, p2, q2, hg2, ht2, hv2, hd2, ⟨g3, t3, cs3, f3, p3, q3, hg3, ht3, hv3, hd3, _⟩, _⟩, _⟩, _⟩, _, _⟩ := h
  obtain rfl := Option.some.inj (gRange.symm.trans hg3)
  obtain rfl := Option.some.inj (tRange.symm.trans ht3)
  obtain ⟨l3⟩ := cs3
  obtain ⟨f, u, v, hcs, hn, h1⟩ := iface_of_trod Tryz.underlying79 hd3
  have hcell : W.cell? ⟨3, 0, none⟩ = some (.iface u v) := by
    have h := World.var?_cell hg3 hv3 0
    have e : l3 = [.iface u v] := hcs
    subst e
    simpa using h
  exact ⟨World.block_lt_of_cell? W ⟨3, 0, none⟩ hcell, _, hcell, .inr ⟨u, v, rfl⟩⟩
theorem door_met (os : Os) (args : Array Value) : laidMetH Tryz.prog Rows.factOrderRow.laid ((World.doorLaid Tryz.prog 400 os).forCall (fun _ _ => 0) ⟨#[], args, []⟩).memory :=
  laidMetH_of_parts3 (fuel := 8) (laidMet_of_run' 8 (by kernel_rfl) (by kernel_rfl)) (by kernel_rfl) (by kernel_rfl)
end Go.Proofs.YtolkceibbefhfaaGreatDoor
