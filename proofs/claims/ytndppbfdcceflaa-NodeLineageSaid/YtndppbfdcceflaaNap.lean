/-
  The laws' page and their sanity check.
  Conditions: none.
-/
import Derived.Test.YtndppbfdcceflaaNmp
namespace Go.Proofs.Ytndppbfdcceflaa

open Go.RowKit

def pgC : GC := ⟨2, 4096, 12, 3, 0, 0, false⟩
theorem vC_pg : vC pgC = true := by decide +kernel
set_option maxRecDepth 20000 in
set_option maxHeartbeats 1000000 in
theorem rPage (w : World) : Calls Try.prog 6 #[] w fun e w' => e = .returned pgC.val ∧ Below w.heap.size w w' := by
  go_enter Try.func6, Try.ntmps6
  go_wp2
  refine bodyPost_ret (v := .agg #[.int .i64 2, .int .i64 4096, .int .i64 12, .int .i64 3, .int .i64 0, .int .i64 0, .bool false]) (by simp [results, Try.results6, go_sem]) rfl ?_
  refine ⟨rfl, ?_⟩
  exact belt (Below.refl _ w) _
def nA : GN := ⟨⟨0, 1, 0⟩, [], pgC⟩
def nB : GN := ⟨⟨0, 2, 0⟩, [⟨0, 1, 0⟩], pgC⟩
theorem aw_e : chE nA ⟨0, 2, 0⟩ pgC = 0 := by decide +kernel
theorem aw_n : chN nA ⟨0, 2, 0⟩ pgC = nB := by decide +kernel
theorem aw_v : vN nB = true := by decide +kernel
theorem aw_l : (encN nB).length = 17 := by decide +kernel
theorem aw_h : hasI nB.path ⟨0, 1, 0⟩ = true := by decide +kernel
set_option maxRecDepth 20000 in
set_option maxHeartbeats 2000000 in
theorem awake12 (w : World) : Calls Try.prog 4 #[] w fun e w' => e = .returned (.bool true) ∧ Below w.heap.size w w' := by
  have HP := Lib.hid fun W => rPage W
  have HC := Lib.hid fun W => pChi_any nA none 0 ⟨0, 2, 0⟩ pgC W GRow.nil (by decide) (by decide)
  have HV := Lib.hid fun A c W (h : PRow W W.heap.size A nB.path) (hc : 1 ≤ c) => pVN_any nB A c W h (by decide) hc
  have HE := Lib.hid fun A c W (h : PRow W W.heap.size A nB.path) (hc : 1 ≤ c) => pEncN_any nB A c W h (by decide) hc
  have HH := Lib.hid fun A c W (h : PRow W W.heap.size A nB.path) (hc : 1 ≤ c) => pBel_any nB A c ⟨0, 1, 0⟩ W h (by decide) hc
  rw [aw_e, aw_n] at HC
  rw [aw_v] at HV
  rw [aw_v, if_pos rfl, if_pos rfl] at HE
  rw [aw_h] at HH
  unfold EncEnd at HE
  unfold ChEnd at HC
  have HLEN : Hid ((encN nB).length = 17) := Lib.hid aw_l
  generalize encN nB = eb at *
  simp only [GN.val, GC.val, GId.val, nA, nB, pgC, List.length_cons, List.length_nil] at HC HV HE HH HP
  go_enter Try.func4, Try.ntmps4
  go_wp2_with fail
  go_fit (HP.out _)
  rintro e w1 ⟨rfl, hb1⟩
  have HB1 := Lib.hid hb1
  clear hb1
  go_wp2_with fail
  go_fit (HP.out _)
  rintro e w2 ⟨rfl, hb2⟩
  have HB2 := Lib.hid (beln HB1.out hb2)
  clear hb2 HB1
  go_wp2_with fail
  go_fit (HC.out _)
  rintro e w3 ⟨A, c, rfl, hc, ho, hb3⟩
  have HB3 := Lib.hid (beln HB2.out hb3)
  have hr := (ho.rowAt GId.len).2
  have HR3 := Lib.hid hr
  have hc1 : 1 ≤ c := hc
  clear ho hb3 hr hc HB2 HC HP
  go_wp2_with fail
  go_fit (HE.out _ _ _ (HR3.out.next (belt (Below.refl _ _) _)) hc1)
  rintro e w4 ⟨v4, rfl, ho4, hb4⟩
  have HNB : Hid (NB (w3.alloc (.cells #[.int .i64 0, .int .i64 2, .int .i64 0, .slice A 1 c, .int .i64 2, .int .i64 4096, .int .i64 12, .int .i64 3, .int .i64 0, .int .i64 0, .bool false] 30)) w3.heap.size ⟨0, 2, 0⟩ A 1 c ⟨2, 4096, 12, 3, 0, 0, false⟩) := Lib.hid (NB.new w3 ⟨0, 2, 0⟩ A 1 c ⟨2, 4096, 12, 3, 0, 0, false⟩)
  have HN4 := Lib.hid (HNB.out.next hb4)
  have hb34 := beln (belt (Below.refl _ w3) _) hb4
  have HR4 := Lib.hid (HR3.out.next hb34)
  have HB4 := Lib.hid (beln HB3.out hb34)
  obtain ⟨A4, c4, rfl, _, _, _⟩ := ho4.form
  rw [HLEN.out]
  clear ho4 hb4 hb34 HNB HR3 HB3 HE
  obtain ⟨d0, d1, d2, d3, d4, d5, d6, d7, d8, d9, d10⟩ := HN4.out.cells
  simp only at d0 d1 d2 d3 d4 d5 d6 d7 d8 d9 d10
  go_wp2_with fail
  go_fit (HV.out _ _ _ HR4.out hc1)
  rintro e w5 ⟨rfl, hb5⟩
  have HN5 := Lib.hid (HN4.out.next hb5)
  have HR5 := Lib.hid (HR4.out.next hb5)
  have HB5 := Lib.hid (beln HB4.out hb5)
  clear hb5 HN4 HR4 HB4 HV d0 d1 d2 d3 d4 d5 d6 d7 d8 d9 d10
  obtain ⟨d0, d1, d2, d3, d4, d5, d6, d7, d8, d9, d10⟩ := HN5.out.cells
  simp only at d0 d1 d2 d3 d4 d5 d6 d7 d8 d9 d10
  go_wp2_with fail
  go_fit (HH.out _ _ _ HR5.out hc1)
  rintro e w6 ⟨rfl, hb6⟩
  have HB6 := Lib.hid (beln HB5.out hb6)
  clear hb6 HN5 HR5 HB5 HH d0 d1 d2 d3 d4 d5 d6 d7 d8 d9 d10
  go_wp2
  go_ret
  exact ⟨rfl, HB6.out⟩
end Go.Proofs.Ytndppbfdcceflaa
