/-
  The laws' sanity check: the chapter's examples.
  Conditions: none.
-/
import Derived.Test.YtlndafkmihdbmaaDoorMrp
namespace Go.Proofs.YtlndafkmihdbmaaDoor
open Go.RowKit

theorem free_ex : freeL ⟨0, 8⟩ [⟨64, 6⟩] = [⟨0, 6⟩, ⟨128, 7⟩] := by decide +kernel
theorem find_ex : findL ⟨0, 8⟩ [⟨64, 6⟩] 6 = some ⟨0, 6⟩ := by decide +kernel
theorem valid_ex : vR ⟨0, 6⟩ = true := by decide +kernel
set_option maxRecDepth 20000 in
theorem awake10 (w : World) (hG : T10 w) : Calls Tryd.prog 25 #[] w fun e w' => e = .returned (.bool true) ∧ Below w.heap.size w w' := by
  have HF := Lib.hid fun (W : World) (hb : Below w.heap.size w W) => pFree_any ⟨0, 8⟩ [⟨64, 6⟩] (some ⟨W.heap.size, 0, none⟩) 1 (W.alloc (.cells #[.int .i64 64, .int .i64 6] 23)) (by simpa using lit_rng W ⟨64, 6⟩) (by simp) (T10.next hG (belt hb _))
  have HG := Lib.hid fun (W : World) (hb : Below w.heap.size w W) => pFind_any ⟨0, 8⟩ [⟨64, 6⟩] 6 (some ⟨W.heap.size, 0, none⟩) 1 (W.alloc (.cells #[.int .i64 64, .int .i64 6] 23)) (by simpa using lit_rng W ⟨64, 6⟩) (by simp) (T10.next hG (belt hb _))
  have HV := Lib.hid fun W => pValid_any ⟨0, 6⟩ W
  rw [valid_ex] at HV
  rw [find_ex] at HG
  rw [free_ex] at HF
  simp only [GR.val, optV, List.length_singleton] at HF HG HV
  go_enter Tryd.func25, Tryd.ntmps25
  go_wp2_with fail
  go_fit (HF.out _ (Below.refl _ _))
  rintro e w1 ⟨v1, rfl, ho1, hb1⟩
  obtain ⟨A1, c1, rfl, hc1, hm1, hr1⟩ := ho1.row GR.len
  obtain ⟨b1, o1, rfl, hlt1, x0, x1⟩ := hr1.rng (k := 1) (by simp)
  have HR1 := Lib.hid hr1
  have HB1 := Lib.hid (bela (Below.refl _ w) hb1)
  simp only [List.length_cons, List.length_nil, List.getElem_cons_succ, List.getElem_cons_zero] at x0 x1 hc1 ⊢
  clear ho1 hr1 hb1 HF
  go_wp2_with fail
  go_fit (HG.out _ HB1.out)
  rintro e w2 ⟨rfl, hb2⟩
  have HB2 := Lib.hid (bela HB1.out hb2)
  have y0 : w2.cell? ⟨b1, o1 + 2, none⟩ = some (.int .i64 128) := (hb2.cell (p := ⟨b1, o1 + 2, none⟩) (by simp; omega)).trans ((((Below.refl _ w1).alloc (Nat.le_refl _) _).cell (p := ⟨b1, o1 + 2, none⟩) hlt1).trans x0)
  have y1 : w2.cell? ⟨b1, o1 + 2 + 1, none⟩ = some (.int .i64 7) := (hb2.cell (p := ⟨b1, o1 + 2 + 1, none⟩) (by simp; omega)).trans ((((Below.refl _ w1).alloc (Nat.le_refl _) _).cell (p := ⟨b1, o1 + 2 + 1, none⟩) hlt1).trans x1)
  clear hb2 x0 x1 HG
  have hlt2 : b1 < w2.heap.size := by
    rcases Nat.lt_or_ge b1 w2.heap.size with h | h
    · exact h
    · have := World.block_lt_of_cell? w2 _ y0; simpa using this
  go_wp2_with fail
  go_fit (HV.out _)
  rintro e w3 ⟨rfl, hb3⟩
  have HB3 := Lib.hid (bela HB2.out hb3)
  clear hb3
  go_wp2
  go_ret
  exact ⟨rfl, HB3.out⟩
end Go.Proofs.YtlndafkmihdbmaaDoor
