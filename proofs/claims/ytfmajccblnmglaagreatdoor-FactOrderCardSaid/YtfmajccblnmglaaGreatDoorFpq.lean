/-
  The parser of facts at a number, at a relation, at the arguments of a fact: where the text is as the grammar asks, its arguments numbers.
  Conditions: as each theorem says.
-/
import Derived.Test.YtfmajccblnmglaaGreatDoorFpt
namespace Go.Proofs.YtfmajccblnmglaaGreatDoor
open Go.RowKit Go.Shelf

theorem firstError_num (t : GTok) (w : World) (hk : t.kind = 2) (h0 : 0 ≤ t.value) (h1 : t.value ≤ 9223372036854775807) :
    Calls Tryz.prog 114 #[t.val] w fun e w' => e = .returned (.int .i64 0) ∧ Below w.heap.size w w' := by
  obtain ⟨tk, tt, tv, tl, tc⟩ := t
  simp only [GTok.val] at *
  subst hk
  have hf : decide (tv > 9223372036854775807) = false := by simp; omega
  have hf2 : ¬ tv > 9223372036854775807 := by omega
  go_enter Tryz.func114, Tryz.ntmps114
  go_wp2
  go_ret
  exact ⟨rfl, bel_lit (Below.refl _ _) _⟩
theorem fnum_any (v : Int) (w : World) (h0 : 0 ≤ v) (h1 : v ≤ 9223372036854775807) :
    Calls Tryz.prog 116 #[.int .u64 v] w fun e w' => e = .returned (GVal.val ⟨1, v, []⟩) ∧ Below w.heap.size w w' := by
  have hw : IntKind.i64.wrap v = v := IntWalk.i64_in _ (by omega)
  go_enter Tryz.func116, Tryz.ntmps116
  go_wp2
  exact bodyPost_ret (v := GVal.val ⟨1, v, []⟩) (by simp [results, Tryz.results116, go_sem, GVal.val]) rfl ⟨rfl, bel_lit (Below.refl _ _) _⟩
theorem gb_new {q : Option Nat} {w w1 : World} (h : w.grownBy w1 q) (a : Addr) (v : Value) (ha : w.heap.size ≤ a.block) : w.grownBy (w1.setCell a v) q :=
  ⟨h.os, h.tape, h.output, by have := h.size; simp; omega, fun k hk hne => (Below.heap_setCell _ _ _ k (by omega)).trans (h.block k hk hne)⟩
theorem PS.other {w : World} {p : Nat} {ts : List GTok} (h : PS w p ts) (a : Addr) (v : Value) (ha : p < a.block) : PS (w.setCell a v) p ts := by
  obtain ⟨A, cap, hh, h1, h2, h3⟩ := h
  exact ⟨A, cap, (Below.heap_setCell _ _ _ p (by omega)).trans hh, h1, h2, h3.keep fun g hg => Below.heap_setCell _ _ _ g (by omega)⟩
set_option maxRecDepth 50000 in
set_option maxHeartbeats 1000000 in
theorem argument_num (p : Nat) (t u : GTok) (ts : List GTok) (w : World) (h : PS w p (t :: u :: ts)) (hk : t.kind = 2) (h0 : 0 ≤ t.value) (h1 : t.value ≤ 9223372036854775807) :
    Calls Tryz.prog 100 #[.pointer (some ⟨p, 0, none⟩), .bool true] w fun e w' => e = .returned (.tuple #[GVal.val ⟨1, t.value, []⟩, .int .i64 0]) ∧ PS w' p (u :: ts) ∧ w.grownBy w' (some p) := by
  have HPS := Lib.hid h
  obtain ⟨b, off, cp, hbp, hpw, hc1, hc2, hh, hcp, hfz, hr, x0, x1, x2, x3, x4⟩ := h.open
  have HF := Lib.hid fun W => firstError_num t W hk h0 h1
  have HN := Lib.hid fun W => fnum_any t.value W h0 h1
  have HT := Lib.hid fun W => take_any p t u ts W
  obtain ⟨tk, tt, tv, tl, tc⟩ := t
  simp only [GTok.val, GVal.val] at *
  subst hk
  have hbw : b < w.heap.size := by omega
  clear h hh hr
  go_enter Tryz.func100, Tryz.ntmps100
  go_wp2_with fail
  refine (HF.out _).mono ?_
  rintro e w1 ⟨rfl, hb1⟩
  have HB1 := Lib.hid (bel_alloc (Below.refl w.heap.size w) hb1)
  have hs1 := HB1.out.size
  have HB0 := Lib.hid hb1
  have hz : w.heap.size < w1.heap.size := by have := hb1.size; simp at this; omega
  clear hb1
  go_wp2_with fail
  refine (HT.out _ (HPS.out.next HB1.out)).mono ?_
  rintro e w2 ⟨rfl, hps2, hg2⟩
  have HP2 := Lib.hid hps2
  have HG2 := Lib.hid hg2
  have hs2 := hg2.size
  clear hps2 hg2
  go_wp2_with fail
  refine (HN.out _).mono ?_
  rintro e w3 ⟨rfl, hb3⟩
  have HP3 := Lib.hid ((HP2.out.lit _).next hb3)
  have HG3 := Lib.hid (gb_trans (gb_trans (gb_bel HB1.out) HG2.out) (gb_trans (gb_lit (gb_refl _) _) (gb_bel hb3)))
  have hs3 : w2.heap.size + 1 ≤ w3.heap.size := by have := hb3.size; simp at this; omega
  have k0 : w3.heap[w.heap.size]? = some (.cells #[.int .i64 0, .int .i64 0, .string ⟨#[]⟩] 40 (0, 0)) := by
    rw [hb3.block _ (by simp; omega), Below.heap_alloc _ _ _ (by omega), HG2.out.block _ (by omega) (by intro e; cases e; omega), HB0.out.block _ (by simp)]
    exact heap_alloc_new w _
  have z0 := Lib.frozen_of_heap k0 0
  have z1 := Lib.frozen_of_heap k0 1
  have z2 := Lib.frozen_of_heap k0 2
  have q0 : w3.cell? ⟨w.heap.size, 0, none⟩ = some (.int .i64 0) := by rw [Lib.cell_of_heap k0]; rfl
  have q1 : w3.cell? ⟨w.heap.size, 1, none⟩ = some (.int .i64 0) := by rw [Lib.cell_of_heap k0]; rfl
  have q2 : w3.cell? ⟨w.heap.size, 2, none⟩ = some (.string ⟨#[]⟩) := by rw [Lib.cell_of_heap k0]; rfl
  have HK := Lib.hid k0
  clear hb3 k0
  go_wp2
  refine bodyPost_ret (v := .tuple #[GVal.val ⟨1, tv, []⟩, .int .i64 0]) (by simp [results, Tryz.results100, go_sem, GVal.val, q0, q1, q2]) rfl ⟨rfl, ?_, ?_⟩
  · exact ((HP3.out.other _ _ hpw).other _ _ hpw).other _ _ hpw
  · exact gb_new (gb_new (gb_new HG3.out _ _ (Nat.le_refl _)) _ _ (Nat.le_refl _)) _ _ (Nat.le_refl _)
set_option maxRecDepth 50000 in
set_option maxHeartbeats 1000000 in
theorem relation_any (p : Nat) (t u : GTok) (ts : List GTok) (w : World) (h : PS w p (t :: u :: ts)) (hk : t.kind = 1) (h1 : 1 ≤ t.text.length) (h2 : t.text.length ≤ 24) :
    Calls Tryz.prog 70 #[.pointer (some ⟨p, 0, none⟩), .bool true] w fun e w' => e = .returned (.tuple #[.string ⟨t.text.toArray⟩, .int .i64 0]) ∧ PS w' p (u :: ts) ∧ w.grownBy w' (some p) := by
  have HPS := Lib.hid h
  obtain ⟨b, off, cp, hbp, hpw, hc1, hc2, hh, hcp, hfz, hr, x0, x1, x2, x3, x4⟩ := h.open
  have HN := Lib.hid fun W => nameSized_yes t.text W h1 h2
  have HT := Lib.hid fun W => take_any p t u ts W
  obtain ⟨tk, tt, tv, tl, tc⟩ := t
  simp only [GTok.val] at *
  subst hk
  have hbw : b < w.heap.size := by omega
  have hfl : ∀ W : World, (Instr.field 70 (.agg #[.int .i64 1, .string ⟨tt.toArray⟩, .int .u64 tv, .int .i64 tl, .int .i64 tc]) 1).run Tryz.prog W = .ok (.string ⟨tt.toArray⟩) W := fun W => by kernel_rfl
  clear h hh hr h1 h2
  go_enter Tryz.func70, Tryz.ntmps70
  go_wp2_with fail
  refine (HN.out _).mono ?_
  rintro e w1 ⟨rfl, rfl⟩
  go_wp2_with fail
  refine (HT.out _ (HPS.out.lit _)).mono ?_
  rintro e w2 ⟨rfl, hps2, hg2⟩
  have HP2 := Lib.hid hps2
  have HG2 := Lib.hid (gb_trans (gb_lit (gb_refl _) _) hg2)
  clear hps2 hg2
  go_wp2
  go_ret2
  exact ⟨rfl, HP2.out, HG2.out⟩
end Go.Proofs.YtfmajccblnmglaaGreatDoor
