/-
  The law FactText returns true.
  Conditions: the text and the facts are the language's; strconv.ErrRange and the table of powers of ten lie as the program's start lays them.
-/
import Derived.Test.YtmodjokoggmnaaaGreatDoorMa41
import Derived.Test.YtmodjokoggmnaaaGreatDoorMa7
namespace Go.Proofs.YtmodjokoggmnaaaGreatDoor
open Go.RowKit Go.Shelf

theorem fmt_fix (fs : List GFact) : ∃ T : List UInt8, ∀ fs', StrictF fs' → (∀ f, f ∈ fs' ↔ f ∈ fs) → fmtT fs' = T := by
  by_cases h : ∃ a, StrictF a ∧ ∀ f, f ∈ a ↔ f ∈ fs
  · obtain ⟨a, h1, h2⟩ := h
    exact ⟨fmtT a, fun b h3 h4 => by rw [FmtU.same h3 h4 h1 h2]⟩
  · exact ⟨[], fun b h3 h4 => absurd ⟨b, h3, h4⟩ h⟩
def FmtT (T : List UInt8) (w : World) (e : Ending) (w' : World) : Prop := e = .returned (.string ⟨T.toArray⟩) ∧ Below w.heap.size w w'
theorem FmtU.fix {fs : List GFact} {T : List UInt8} {w : World} (hT : ∀ fs', StrictF fs' → (∀ f, f ∈ fs' ↔ f ∈ fs) → fmtT fs' = T) : ∀ e w', FmtU fs w e w' → FmtT T w e w' := by
  rintro e w' ⟨fs', rfl, h1, h2, h3⟩
  exact ⟨by rw [hT fs' h1 h2], h3⟩
set_option maxRecDepth 50000 in
set_option maxHeartbeats 1000000 in
theorem text_any (l : List UInt8) (A : Option Addr) (c : Nat) (ss : List SFact) (fs : List GFact) (w : World) (hl : l.length ≤ maxLen) (hD : IsFacts w A fs.length c ss fs) (hn : A = none → c = 0) (hG : Glob2 w) :
    Calls Tryz.prog 3 #[.string ⟨l.toArray⟩, .slice A fs.length c] w fun e w' => e = .returned (.bool true) ∧ Below w.heap.size w w' := by
  have hsz : (⟨l.toArray⟩ : ByteArray).size = l.length := ba_size l
  have HAW := Lib.hid fun W (hW : Below w.heap.size w W) => awake_any W (hG.next hW)
  have hnot : ∀ (x : Bool) (w : World), (Op.unary .not (.bool x)).run Tryz.prog w = .ok (.bool (!x)) w := fun _ _ => rfl
  by_cases h3 : l.length ≤ 3000
  case neg =>
    have f3 : decide ((3000 : Int) < (l.length : Int)) = true := by simp; omega
    have g3 : (3000 : Int) < (l.length : Int) := by omega
    have HA0 := Lib.hid (HAW.out w (Below.refl _ _))
    clear hD hn hG HAW
    unfold maxLen at hl
    go_enter Tryz.func3, Tryz.ntmps3
    go_wp2_with fail
    go_fit HA0.out
    rintro e w5 ⟨rfl, hb5⟩
    have HN := Lib.hid hb5
    clear hb5
    go_wp2
    go_ret
    exact ⟨rfl, HN.out⟩
  have f3 : decide ((3000 : Int) < (l.length : Int)) = false := by simp; omega
  have g3 : ¬ (3000 : Int) < (l.length : Int) := by omega
  have HFD := Lib.hid (few_any ss fs A c w hD.row)
  have HPA := Lib.hid (parse_u l w hl hG.1)
  have HPB := Lib.hid fun W => rParse_u l W h3
  have HRE := Lib.hid fun (hs : Small fs) => hD.rowE hn hs
  have HSV := Lib.hid fun (hs : Small fs) => hD.setV hn hs
  have HFR := Lib.hid fun (hs : Small fs) => hD.row.small hs
  have HVA := Lib.hid hD.vals
  have HG := Lib.hid hG
  clear hD hn hG
  unfold maxLen at hl
  go_enter Tryz.func3, Tryz.ntmps3
  go_wp2_with fail
  go_fit HFD.out
  rintro e w4 ⟨⟨q, rfl, hq⟩, rfl⟩
  have HQ := Lib.hid hq
  clear hq HFD
  cases q
  · have HA0 := Lib.hid (HAW.out w (Below.refl _ _))
    go_wp2_with fail
    go_fit HA0.out
    rintro e w5 ⟨rfl, hb5⟩
    have HN := Lib.hid hb5
    clear hb5
    go_wp2
    go_ret
    exact ⟨rfl, HN.out⟩
  have hsm : Small fs := HQ.out (by first | rfl | trivial)
  have h80 := hsm.1
  obtain ⟨T, hT⟩ := fmt_fix fs
  have HFV := Lib.hid (small_fewV hsm HVA.out)
  have HT := Lib.hid hT
  have HSM := Lib.hid hsm
  have HR1 := Lib.hid (HRE.out hsm)
  have HS1 := Lib.hid (HSV.out hsm)
  have HFW := Lib.hid (HFR.out hsm)
  clear hT hsm HRE HSV HFR HVA HQ
  go_wp2_with fail
  go_fit HPA.out
  rintro e w1 ⟨A1, c1, x, y, er, f1, rfl, h1, h2, h4, h5⟩
  have HV1 := Lib.hid h1
  have HP1 := Lib.hid h4
  have HB1 := Lib.hid h5
  clear h1 h4 h5 HPA
  go_wp2_with fail
  go_fit (HPB.out _)
  rintro e w2 ⟨A2, c2, x2, y2, er2, f2, rfl, h1, h2b, h4, h5⟩
  obtain ⟨e1, e2, e3, e4⟩ := HP1.out.same h4
  subst e1 e2 e3 e4
  have HV2 := Lib.hid h1
  have HKF := Lib.hid (okF_kinds HP1.out.okF)
  have hfx : w2.heap[w1.heap.size]? = some (.cells #[.int .i64 x, .int .i64 y] 26 (0, 0)) := (h5.block _ (by simp)).trans (heap_alloc_new w1 _)
  have HBA := Lib.hid (bel_lit (Below.refl w1.heap.size w1) (.cells #[.int .i64 x, .int .i64 y] 26))
  have HB2 := Lib.hid (bel_next (bel_next HB1.out HBA.out) h5)
  have HV1' := Lib.hid (show ∃ ss, SetV w2 (.slice A1 f1.length c1) ss f1 from by obtain ⟨s1, hs1⟩ := HV1.out; exact ⟨s1, (hs1.next HBA.out).next h5⟩)
  have hBL := bel_lit (Below.refl w2.heap.size w2) (.cells #[.int .i64 x, .int .i64 y] 26)
  have hfy : (w2.alloc (.cells #[.int .i64 x, .int .i64 y] 26)).heap[w2.heap.size]? = some (.cells #[.int .i64 x, .int .i64 y] 26 (0, 0)) := heap_alloc_new w2 _
  have hfx2 := (hBL.block _ (heap_lt hfx)).trans hfx
  have hb3 := bel_next HB2.out hBL
  have hv1 : ∃ ss, SetV (w2.alloc (.cells #[.int .i64 x, .int .i64 y] 26)) (.slice A1 f1.length c1) ss f1 := by
    obtain ⟨s1, hs1⟩ := HV1'.out
    exact ⟨s1, hs1.next hBL⟩
  have hv2 : ∃ ss, SetV (w2.alloc (.cells #[.int .i64 x, .int .i64 y] 26)) (.slice A2 f1.length c2) ss f1 := by
    obtain ⟨s1, hs1⟩ := HV2.out
    exact ⟨s1, hs1.next hBL⟩
  go_upto_region 5 with fail
  clear hBL HBA HB1 HB2 HV1 HV1' HV2 h5 hfx h1 h4 h2b HPB
  generalize w2.alloc (.cells #[.int .i64 x, .int .i64 y] 26) = W3 at *
  generalize w2.heap.size = N9 at *
  generalize w1.heap.size = N6 at *
  have x0 : W3.cell? ⟨N6, 0, none⟩ = some (.int .i64 x) := by rw [Lib.cell_of_heap hfx2]; rfl
  have x1 : W3.cell? ⟨N6, 1, none⟩ = some (.int .i64 y) := by rw [Lib.cell_of_heap hfx2]; rfl
  have y0 : W3.cell? ⟨N9, 0, none⟩ = some (.int .i64 x) := by rw [Lib.cell_of_heap hfy]; rfl
  have y1 : W3.cell? ⟨N9, 1, none⟩ = some (.int .i64 y) := by rw [Lib.cell_of_heap hfy]; rfl
  have HB3 := Lib.hid hb3
  have HV1 := Lib.hid hv1
  have HV2 := Lib.hid hv2
  have KSM := Lib.hid fun W (hW : Below W3.heap.size W3 W) => sameU (.slice A1 f1.length c1) (.slice A2 f1.length c2) f1 W (by obtain ⟨s1, hs1⟩ := HV1.out; exact ⟨s1, hs1.next hW⟩) (by obtain ⟨s1, hs1⟩ := HV2.out; exact ⟨s1, hs1.next hW⟩) (by omega) HKF.out
  have KCP := Lib.hid fun W (hW : Below W3.heap.size W3 W) => copyFacts_any A c ss fs W (HFW.out.next (Nat.le_refl _) (bel_next HB3.out hW)) (by omega) (fun f hf => by have := (HSM.out.2 f hf).args; omega)
  have KFM := Lib.hid fun v W (hW : Below W3.heap.size W3 W) (hv : ∃ ss, SetV W v ss fs) => (fformat_u v fs W hv (by omega) HFV.out (fun f hf => by have := (HSM.out.2 f hf).args; omega) (HG.out.2.next (bel_next HB3.out hW))).mono (FmtU.fix HT.out)
  have KRF := Lib.hid fun W (hW : Below W3.heap.size W3 W) => (rFormat_u W HR1.out (bel_next HB3.out hW) (by omega) HFV.out).mono (FmtU.fix HT.out)
  have KAW := Lib.hid fun W (hW : Below W3.heap.size W3 W) => HAW.out W (bel_next HB3.out hW)
  have HKS : Hid (∀ W W' : World, (Below W3.heap.size W3 W ∧ W.cell? ⟨N6, 0, none⟩ = some (.int .i64 x) ∧ W.cell? ⟨N6, 1, none⟩ = some (.int .i64 y) ∧ W.cell? ⟨N9, 0, none⟩ = some (.int .i64 x) ∧ W.cell? ⟨N9, 1, none⟩ = some (.int .i64 y)) → Below W.heap.size W W' →
      (Below W3.heap.size W3 W' ∧ W'.cell? ⟨N6, 0, none⟩ = some (.int .i64 x) ∧ W'.cell? ⟨N6, 1, none⟩ = some (.int .i64 y) ∧ W'.cell? ⟨N9, 0, none⟩ = some (.int .i64 x) ∧ W'.cell? ⟨N9, 1, none⟩ = some (.int .i64 y))) := Lib.hid fun W W' h hb => by
    obtain ⟨h0, h1, h2, h3, h4⟩ := h
    have key : ∀ {N j : Nat} {v : Value}, W.cell? ⟨N, j, none⟩ = some v → W'.cell? ⟨N, j, none⟩ = some v := fun {N j v} h => (hb.cell (p := ⟨N, j, none⟩) (World.block_lt_of_cell? W _ h)).trans h
    exact ⟨bel_next h0 hb, key h1, key h2, key h3, key h4⟩
  clear hv1 hv2 hb3 hfx2 hfy HAW HP1 HKF HV1 HV2 HR1 HS1 HFW HFV HT HG hsz f3 g3 h3 hl h80 HSM
  have hS3 : (Below W3.heap.size W3 W3 ∧ W3.cell? ⟨N6, 0, none⟩ = some (.int .i64 x) ∧ W3.cell? ⟨N6, 1, none⟩ = some (.int .i64 y) ∧ W3.cell? ⟨N9, 0, none⟩ = some (.int .i64 x) ∧ W3.cell? ⟨N9, 1, none⟩ = some (.int .i64 y)) := ⟨Below.refl _ _, x0, x1, y0, y1⟩
  clear x0 x1 y0 y1
  go_wp2_with fail
  go_fit (KSM.out _ (Below.refl _ _))
  rintro e w5 ⟨rfl, hbn⟩
  obtain ⟨hb5, x0, x1, y0, y1⟩ := HKS.out _ _ hS3 hbn
  have HB5 := Lib.hid hb5
  clear hb5 hbn hS3 KSM HKS
  go_wp2_with fail
  go_fit (KCP.out _ HB5.out)
  rintro e w6 ⟨A3, c3, s3, rfl, hv3, hd1, hd2, hd3, hbc⟩
  have HB6 := Lib.hid (bel_next HB5.out hbc)
  have HV3 := Lib.hid (show ∃ ss, SetV w6 (.slice A3 fs.length c3) ss fs from ⟨s3, hv3⟩)
  clear hv3 hd1 hd2 hd3 hbc KCP x0 x1 y0 y1
  go_wp2_with fail
  go_fit (KFM.out _ _ HB6.out HV3.out)
  rintro e w7 ⟨rfl, hbm⟩
  have HB7 := Lib.hid (bel_next HB6.out hbm)
  clear hbm KFM HV3
  go_wp2_with fail
  go_fit (KRF.out _ HB7.out)
  rintro e w8 ⟨rfl, hbm⟩
  have HB8 := Lib.hid (bel_next HB7.out hbm)
  clear hbm KRF
  go_wp2_with fail
  go_fit (KAW.out _ HB8.out)
  rintro e w9 ⟨rfl, hbm⟩
  have HN := Lib.hid (bel_next HB3.out (bel_next HB8.out hbm))
  clear hbm KAW
  go_wp2
  go_ret
  exact ⟨rfl, HN.out⟩
end Go.Proofs.YtmodjokoggmnaaaGreatDoor
