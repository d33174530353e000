/-
  The reference's Format of facts.
  facts.Format at any list of facts.
  Conditions: at most 90000 facts, their words and numbers as FewV says; the table of powers of ten lies as the program's text writes it.
  Texts of tokens with white space and comments between them are scanned as these tokens. Plain mathematics.
  Conditions: a number's value is less than 2^64.
-/
import Derived.Test.YtmodjokoggmnaaaGreatDoorMa27
import Derived.Test.YtmodjokoggmnaaaGreatDoorMa37
import Derived.Test.YtmodjokoggmnaaaGreatDoorMa16
import Derived.Test.YtmodjokoggmnaaaGreatDoorMa21
import Derived.Test.YtmodjokoggmnaaaGreatDoorMa10
namespace Go.Proofs.YtmodjokoggmnaaaGreatDoor
open Go.RowKit Go.Shelf

def fmtT (fs : List GFact) : List UInt8 := if fs.all gwfF then fs.flatMap factText else []
/-- What is asked of the words and numbers of a fact. -/
def FewV (f : GFact) : Prop := f.rel.length ≤ 65536 ∧ ∀ v ∈ f.args, v.word.length ≤ 65536 ∧ -9223372036854775808 ≤ v.int ∧ v.int ≤ 9223372036854775807 ∧ (vtextL v).length ≤ 70000
theorem factText_len {f : GFact} (h : FewV f) (hw : gwfF f = true) : (factText f).length ≤ 700000 := by
  have h8 : f.args.length ≤ 8 := by simp [gwfF] at hw; omega
  have h1 := argsT_len f.args (fun v hv => (h.2 v hv).2.2.2)
  have h2 := h.1
  have h3 : f.args.length * 70002 ≤ 8 * 70002 := Nat.mul_le_mul_right _ h8
  unfold factText
  simp
  omega
theorem flat_len : ∀ (fs : List GFact), (∀ f ∈ fs, FewV f) → fs.all gwfF = true → (fs.flatMap factText).length ≤ fs.length * 700000
  | [], _, _ => by simp
  | f :: fs, h, hw => by
    simp only [List.all_cons, Bool.and_eq_true] at hw
    have h1 := factText_len (h f List.mem_cons_self) hw.1
    have h2 := flat_len fs (fun g hg => h g (List.mem_cons_of_mem _ hg)) hw.2
    rw [List.flatMap_cons, List.length_append, List.length_cons]
    omega
theorem factsE_at {w0 : World} {es : List (Elem w0)} {k : Nat} (h : k < es.length) : (FactsE es).take (k + 1) = (FactsE es).take k ++ [es[k].fact] := by
  unfold FactsE
  rw [List.take_succ_eq_append_getElem (by rw [List.length_map]; exact h), List.getElem_map]
theorem ba_cat (a b : List UInt8) : (⟨a.toArray⟩ ++ ⟨b.toArray⟩ : ByteArray) = ⟨(a ++ b).toArray⟩ := ByteArray.ext (by simp [ByteArray.data_append])
set_option maxRecDepth 50000 in
set_option maxHeartbeats 4000000 in
theorem rFormat_any {w0 : World} (es : List (Elem w0)) (A : Option Addr) (c : Nat) (w : World) (hb : Below w0.heap.size w0 w) (hr : RowE w A c es) (hn : es.length ≤ 990000) (hz : ∀ f ∈ FactsE es, FewV f) :
    Calls Tryz.prog 12 #[.slice A es.length c] w fun e w' => ∃ fs, e = .returned (.string ⟨(fmtT fs).toArray⟩) ∧ StrictF fs ∧ (∀ f, f ∈ fs ↔ f ∈ FactsE es) ∧ Below w.heap.size w w' := by
  have HS := Lib.hid (rSet_any es A c w hb hr hn)
  have HB00 := Lib.hid hb
  clear hb hr
  go_enter Tryz.func12, Tryz.ntmps12
  go_wp2_with fail
  refine HS.out.mono ?_
  rintro e w4 ⟨A4, c4, es4, rfl, h1, h2, h3, h4, h5⟩
  have HR := Lib.hid h1
  have HST := Lib.hid h2
  have HME := Lib.hid h3
  have HB := Lib.hid h5
  have HB4 := Lib.hid (bel_next HB00.out h5)
  have HFV : Hid (∀ f ∈ FactsE es4, FewV f) := Lib.hid fun f hf => hz f ((h3 f).1 hf)
  have hcm := h1.max
  clear h1 h2 h3 h5 HS hz
  go_wp2
  go_loopw [4, 5] (fun vs vi wr => ∃ k : Nat, vs = .string ⟨(((FactsE es4).take k).flatMap factText).toArray⟩ ∧ vi = .int .i64 k ∧ k ≤ es4.length ∧ Hid (((FactsE es4).take k).all gwfF = true) ∧ Hid (Below w4.heap.size w4 wr)) (fun _ vi _ => es4.length - (intOf vi).toNat)
  case atStart => exact ⟨0, rfl, rfl, Nat.zero_le _, Lib.hid rfl, Lib.hid (Below.refl _ _)⟩
  case round =>
    obtain ⟨k, rfl, rfl, hk, HA, HW⟩ := hrel
    have hTl : (((FactsE es4).take k).flatMap factText).length ≤ 693000000000 := by
      have h1 := flat_len ((FactsE es4).take k) (fun f hf => HFV.out f (List.mem_of_mem_take hf)) HA.out
      have h2 : ((FactsE es4).take k).length * 700000 ≤ 990000 * 700000 := Nat.mul_le_mul_right _ (by rw [List.length_take]; omega)
      omega
    rcases Nat.lt_or_ge k es4.length with hlt | hge
    · obtain ⟨b1, o1, rfl, hb1, x0, x1⟩ := (HR.out.row.below (Nat.le_refl _) HW.out).elem2 hlt
      have hsz := HW.out.size
      have hl1 : b1 < wr.heap.size := by omega
      have HTK := Lib.hid (factsE_at hlt)
      have hy : es4[k].fact ∈ FactsE es4 := List.mem_map.2 ⟨_, List.getElem_mem hlt, rfl⟩
      have HFY := Lib.hid (HFV.out _ hy)
      have HH := Lib.hid fun W (hW : Below wr.heap.size wr W) => es4[k].hold (bel_next (bel_next HB4.out HW.out) hW)
      have HRI := Lib.hid fun W (hW : Below wr.heap.size wr W) => rRight_any es4[k].fact es4[k].sf W (HH.out W hW) HFY.out.1 (fun v hv => (HFY.out.2 v hv).1)
      have hrl : es4[k].sf.rel = es4[k].fact.rel := es4[k].2.rel
      have hnn : es4[k].sf.n = es4[k].fact.args.length := es4[k].2.n
      have HYM := Lib.hid hy
      clear hy
      generalize es4[k] = y at *
      rw [hrl] at x0 HRI
      rw [hnn] at x1 HRI
      generalize htk : ((FactsE es4).take k).flatMap factText = tk at *
      have HTKE := Lib.hid htk
      clear htk
      have HB1 := Lib.hid (bel_lit (Below.refl wr.heap.size wr) (.cells #[.string ⟨y.fact.rel.toArray⟩, .slice y.sf.A y.fact.args.length y.sf.c] 37))
      have HRC := Lib.hid (HRI.out _ HB1.out)
      clear HRI
      cases hg : gwfF y.fact
      · have hnil : fmtT (FactsE es4) = [] := by
          unfold fmtT
          rw [if_neg]
          intro h
          have := List.all_eq_true.1 h _ HYM.out
          rw [hg] at this
          cases this
        have HNIL := Lib.hid hnil
        rw [hg] at HRC
        clear hnil hg
        go_wp2_with fail
        refine HRC.out.mono ?_
        rintro e w5 ⟨rfl, h5⟩
        have HB5 := Lib.hid (bel_next (bel_next (bel_next HB.out HW.out) HB1.out) h5)
        clear h5 HRC
        go_wp2
        refine bodyPost_ret (v := .string ⟨#[]⟩) (by simp [results, Tryz.results12, go_sem]) rfl ?_
        exact ⟨_, by rw [HNIL.out], HST.out, HME.out, HB5.out⟩
      · have h8 : y.fact.args.length ≤ 8 := by have := hg; simp [gwfF] at this; omega
        have hra := HFY.out.1
        have HAW : Hid (∀ v ∈ y.fact.args, gwfV v = true) := Lib.hid (by have := hg; simp [gwfF] at this; exact this.2)
        have HA2 : Hid (((FactsE es4).take (k + 1)).all gwfF = true) := Lib.hid (by rw [HTK.out, List.all_append, HA.out]; simp [hg])
        rw [hg] at HRC
        clear hg
        obtain ⟨t1, ht1⟩ : ∃ t1, t1 = tk ++ y.fact.rel := ⟨_, rfl⟩
        obtain ⟨t2, ht2⟩ : ∃ t2, t2 = t1 ++ [40] := ⟨_, rfl⟩
        have hl1 : t1.length ≤ 693000065536 := by rw [ht1, List.length_append]; omega
        have hl2 : t2.length ≤ 693000065537 := by rw [ht2, List.length_append]; simp; omega
        have hq1 : (⟨tk.toArray⟩ ++ ⟨y.fact.rel.toArray⟩ : ByteArray) = ⟨t1.toArray⟩ := by rw [ht1]; exact ba_cat _ _
        have hq2 : (⟨t1.toArray⟩ ++ ⟨#[40]⟩ : ByteArray) = ⟨t2.toArray⟩ := by rw [ht2]; exact ba_cat _ [40]
        have HT2 : Hid (t2 = tk ++ y.fact.rel ++ [40]) := Lib.hid (by rw [ht2, ht1])
        clear ht1 ht2
        go_wp2_with fail
        refine HRC.out.mono ?_
        rintro e w5 ⟨rfl, h5⟩
        have hfx : w5.heap[wr.heap.size]? = some (.cells #[.string ⟨y.fact.rel.toArray⟩, .slice y.sf.A y.fact.args.length y.sf.c] 37 (0, 0)) := (h5.block _ (by simp)).trans (heap_alloc_new wr _)
        have y0 : w5.cell? ⟨wr.heap.size, 0, none⟩ = some (.string ⟨y.fact.rel.toArray⟩) := by rw [Lib.cell_of_heap hfx]; rfl
        have y1 : w5.cell? ⟨wr.heap.size, 1, none⟩ = some (.slice y.sf.A y.fact.args.length y.sf.c) := by rw [Lib.cell_of_heap hfx]; rfl
        have HFX := Lib.hid hfx
        have HB5 := Lib.hid (bel_next HB1.out h5)
        have hs5 : wr.heap.size < w5.heap.size := by have := h5.size; simp at this; omega
        clear h5 HRC hfx
        go_wp2
        clear hq1 hq2 y0 y1
        generalize hsA : y.sf.A = sA at *
        obtain ⟨wq, rfl⟩ : ∃ q, q = wr := ⟨_, rfl⟩
        go_loopw [4, 7] (fun vs vj wx => ∃ j : Nat, vs = .string ⟨(t2 ++ argsT (y.fact.args.take j)).toArray⟩ ∧ vj = .int .i64 j ∧ j ≤ y.fact.args.length ∧ Hid (Below w5.heap.size w5 wx)) (fun _ vj _ => y.fact.args.length - (intOf vj).toNat)
        case atStart => exact ⟨0, by simp [argsT], rfl, Nat.zero_le _, Lib.hid (Below.refl _ _)⟩
        case round =>
          obtain ⟨j, rfl, rfl, hj, HWX⟩ := hrel
          have hsx := HWX.out.size
          have hal := argsT_len (y.fact.args.take j) (fun v hv => (HFY.out.2 v (List.mem_of_mem_take hv)).2.2.2)
          have hal2 : (y.fact.args.take j).length * 70002 ≤ 8 * 70002 := Nat.mul_le_mul_right _ (by rw [List.length_take]; omega)
          obtain ⟨u, hu⟩ : ∃ u, u = t2 ++ argsT (y.fact.args.take j) := ⟨_, rfl⟩
          have hul : u.length ≤ 693010000000 := by rw [hu, List.length_append]; omega
          have HU := Lib.hid hu
          rw [← hu]
          clear hu hal hal2
          have HBX := Lib.hid (bel_next HB5.out HWX.out)
          have hfx := (HWX.out.block wq.heap.size hs5).trans HFX.out
          rcases Nat.lt_or_ge j y.fact.args.length with hlt2 | hge2
          · have hrow := (HH.out _ HBX.out).row
            rw [hsA] at hrow
            have hgv := HAW.out _ (List.getElem_mem hlt2)
            obtain ⟨q1, q2, q3, q4⟩ := HFY.out.2 _ (List.getElem_mem hlt2)
            have HRT := Lib.hid (rText_any y.fact.args[j] wr q1 q2 q3)
            rw [rtext_eq _ hgv] at HRT
            have HAT := Lib.hid (argsT_take hlt2)
            obtain ⟨b2, o2, hA2, hb2, z0, z1, z2⟩ := hrow.val3 hlt2
            have y1 : wr.cell? ⟨wq.heap.size, 1, none⟩ = some (.slice (some ⟨b2, o2, none⟩) y.fact.args.length y.sf.c) := by rw [Lib.cell_of_heap hfx, hA2]; rfl
            generalize y.fact.args[j] = v at *
            clear hrow hfx hgv q1 q2 q3 hA2
            obtain ⟨vk, vi, vw⟩ := v
            unfold GVal.val at HRT
            simp only at z0 z1 z2 HRT
            generalize vtextL ⟨vk, vi, vw⟩ = vt at *
            by_cases hj0 : j = 0
            · subst hj0
              rw [if_pos rfl] at HAT
              rw [Nat.zero_mul, Nat.add_zero] at z0 z1 z2
              have hq : (⟨u.toArray⟩ ++ ⟨vt.toArray⟩ : ByteArray) = ⟨(u ++ vt).toArray⟩ := ba_cat _ _
              have HEQ : Hid (u ++ vt = t2 ++ argsT (y.fact.args.take (0 + 1))) := Lib.hid (by rw [HAT.out, HU.out]; simp [argsT])
              go_wp2_with fail
              refine HRT.out.mono ?_
              rintro e w6 ⟨rfl, h6⟩
              have HWY := Lib.hid (bel_next HWX.out h6)
              clear h6 HRT
              go_wp2
              go_roundw
              case rel => exact ⟨1, by rw [HEQ.out], rfl, by omega, HWY⟩
              case measure =>
                show y.fact.args.length - ((1 : Int)).toNat < y.fact.args.length - ((0 : Int)).toNat
                omega
            · rw [if_neg hj0] at HAT
              have g0 : (0 : Int) < (j : Int) := by omega
              obtain ⟨u1, hu1⟩ : ∃ u1, u1 = u ++ [44, 32] := ⟨_, rfl⟩
              have hul1 : u1.length ≤ 693010000002 := by rw [hu1, List.length_append]; simp; omega
              have hq0 : (⟨u.toArray⟩ ++ ⟨#[44, 32]⟩ : ByteArray) = ⟨u1.toArray⟩ := by rw [hu1]; exact ba_cat _ [44, 32]
              have hq : (⟨u1.toArray⟩ ++ ⟨vt.toArray⟩ : ByteArray) = ⟨(u1 ++ vt).toArray⟩ := ba_cat _ _
              have HEQ : Hid (u1 ++ vt = t2 ++ argsT (y.fact.args.take (j + 1))) := Lib.hid (by rw [HAT.out, hu1, HU.out]; simp)
              clear hu1
              go_wp2_with fail
              refine HRT.out.mono ?_
              rintro e w6 ⟨rfl, h6⟩
              have HWY := Lib.hid (bel_next HWX.out h6)
              clear h6 HRT
              go_wp2
              go_roundw
              case rel => exact ⟨j + 1, by rw [HEQ.out], by go_num, by omega, HWY⟩
              case measure =>
                show y.fact.args.length - ((j : Int) + 1).toNat < y.fact.args.length - ((j : Int)).toNat
                omega
          · obtain rfl : j = y.fact.args.length := by omega
            have y1 : wr.cell? ⟨wq.heap.size, 1, none⟩ = some (.slice sA y.fact.args.length y.sf.c) := by rw [Lib.cell_of_heap hfx]; rfl
            rw [List.take_length] at HU
            have hq : (⟨u.toArray⟩ ++ ⟨#[41, 46, 10]⟩ : ByteArray) = ⟨(u ++ [41, 46, 10]).toArray⟩ := ba_cat _ [41, 46, 10]
            have HEQ : Hid (u ++ [41, 46, 10] = ((FactsE es4).take (k + 1)).flatMap factText) := Lib.hid (by rw [HTK.out, HU.out, HT2.out, List.flatMap_append, HTKE.out]; simp [factText])
            have HWZ := Lib.hid (bel_next HW.out HBX.out)
            clear hfx
            go_wp2
            go_roundw
            case rel => exact ⟨k + 1, by rw [HEQ.out], by go_num, by omega, HA2, HWZ⟩
            case measure =>
              show es4.length - ((k : Int) + 1).toNat < es4.length - ((k : Int)).toNat
              omega
    · obtain rfl : k = es4.length := by omega
      have hl : (FactsE es4).length = es4.length := by simp [FactsE]
      have hall := HA.out
      rw [← hl, List.take_length] at hall ⊢
      have HEND : Hid (fmtT (FactsE es4) = (FactsE es4).flatMap factText) := Lib.hid (by unfold fmtT; rw [if_pos hall])
      clear hall hTl
      rw [hl]
      have HBZ := Lib.hid (bel_next HB.out HW.out)
      go_wp2
      refine bodyPost_ret (v := .string ⟨((FactsE es4).flatMap factText).toArray⟩) (by simp [results, Tryz.results12, go_sem]) rfl ?_
      exact ⟨_, by rw [HEND.out], HST.out, HME.out, HBZ.out⟩
end Go.Proofs.YtmodjokoggmnaaaGreatDoor


namespace Go.Proofs.YtmodjokoggmnaaaGreatDoor
open Go.RowKit Go.Shelf

theorem fmtT_no {fs : List GFact} {f : GFact} (h : f ∈ fs) (hw : gwfF f = false) : fmtT fs = [] := by
  unfold fmtT
  rw [if_neg]
  intro ha
  have := List.all_eq_true.1 ha _ h
  rw [hw] at this
  cases this
theorem flat_take {fs : List GFact} {k : Nat} (h : k < fs.length) : (fs.take (k + 1)).flatMap factText = (fs.take k).flatMap factText ++ (fs[k].rel ++ [40] ++ argsT fs[k].args ++ [41, 46, 10]) := by
  rw [List.take_succ_eq_append_getElem h, List.flatMap_append]
  simp [factText]
theorem allF_take {fs : List GFact} {k : Nat} (h : k < fs.length) (ha : (fs.take k).all gwfF = true) (hw : gwfF fs[k] = true) : (fs.take (k + 1)).all gwfF = true := by
  rw [List.take_succ_eq_append_getElem h, List.all_append, ha]
  simp [hw]
set_option maxRecDepth 50000 in
set_option maxHeartbeats 2000000 in
theorem fformat_any (v : Value) (ss : List SFact) (fs : List GFact) (w : World) (hs : SetV w v ss fs) (hn : fs.length ≤ 90000) (hz : ∀ f ∈ fs, FewV f) (ha : ∀ f ∈ fs, f.args.length ≤ 1000000) (hP : Pow w) :
    Calls Tryz.prog 10 #[v] w fun e w' => ∃ fs', e = .returned (.string ⟨(fmtT fs').toArray⟩) ∧ StrictF fs' ∧ (∀ f, f ∈ fs' ↔ f ∈ fs) ∧ Below w.heap.size w w' := by
  have hb0 := bel_lit (Below.refl w.heap.size w) (.cells #[.pointer none, .slice none 0 0] 69)
  have HSO := Lib.hid (setOf_facts v ss fs (w.alloc (.cells #[.pointer none, .slice none 0 0] 69)) (hs.next hb0) (by omega) ha)
  have HZ := Lib.hid hz
  have HP := Lib.hid hP
  clear hs hz ha hP hb0
  go_enter Tryz.func10, Tryz.ntmps10
  go_wp2_with fail
  go_fit HSO.out
  rintro e w2 ⟨v2, ss2, fs2, rfl, ho2, hs2, hst, hme, hln, hb2⟩
  obtain ⟨A2, c2, e2, hf2⟩ := hs2.frow
  subst e2
  have hbn : w2.heap[w.heap.size]? = some (.cells #[.pointer none, .slice none 0 0] 69 (0, 0)) := (hb2.block _ (by simp)).trans (heap_alloc_new w _)
  have HBN := Lib.hid hbn
  have HL0 := Lib.hid (Bld2.start hbn)
  have HF := Lib.hid hf2
  have HST := Lib.hid hst
  have HME : Hid (∀ f, f ∈ fs2 ↔ f ∈ fs) := Lib.hid fun f => by rw [hme f]; simp
  have HB2 := Lib.hid (bel_alloc (Below.refl _ w) hb2)
  have HFV : Hid (∀ f ∈ fs2, FewV f) := Lib.hid fun f hf => HZ.out f ((HME.out f).1 hf)
  have hl2 : fs2.length ≤ 90000 := by simp at hln; omega
  have hcl : ss2.length = fs2.length := hf2.len
  have hnz : w.heap.size < w2.heap.size := heap_lt hbn
  clear ho2 hs2 hst hme hln hb2 hbn hf2 HSO HZ
  go_wp2
  go_loopw [11] (fun vi wr => ∃ k : Nat, vi = .int .i64 k ∧ k ≤ fs2.length ∧ Hid ((fs2.take k).all gwfF = true) ∧ Hid (Bld2 w2 wr w.heap.size ((fs2.take k).flatMap factText))) (fun vi _ => fs2.length - (intOf vi).toNat)
  case atStart => exact ⟨0, rfl, Nat.zero_le _, Lib.hid rfl, HL0⟩
  case round =>
    obtain ⟨k, rfl, hk, HA, HL⟩ := hrel
    have hTl : ((fs2.take k).flatMap factText).length ≤ 63000000000 := by
      have h1 := flat_len (fs2.take k) (fun f hf => HFV.out f (List.mem_of_mem_take hf)) HA.out
      have h2 : (fs2.take k).length * 700000 ≤ 90000 * 700000 := Nat.mul_le_mul_right _ (by rw [List.length_take]; omega)
      omega
    have HW := Lib.hid (bel_gb HB2.out (Nat.le_refl _) HL.out.2.1)
    have hsz : w2.heap.size ≤ wr.heap.size := HL.out.2.1.size
    rcases Nat.lt_or_ge k fs2.length with hlt | hge
    · have hls : k < ss2.length := by omega
      have HFR := Lib.hid (HF.out.gbN HBN.out HL.out.2.1)
      obtain ⟨b1, o1, rfl, hb1, x0, x1⟩ := HFR.out.row.fact2 hls
      have hold := HF.out.each k hls hlt
      have hmem : fs2[k] ∈ fs2 := List.getElem_mem hlt
      have HFY := Lib.hid (HFV.out _ hmem)
      have HMEM := Lib.hid hmem
      have HTK := Lib.hid (flat_take hlt)
      have HAT := Lib.hid fun h => allF_take hlt HA.out h
      generalize fs2[k] = y at *
      generalize ss2[k] = sy at *
      generalize htk : (fs2.take k).flatMap factText = tk at *
      clear htk
      obtain ⟨r, vs⟩ := y
      obtain ⟨sr, sA, sn, sc⟩ := sy
      have e1 := hold.rel
      have e2 := hold.n
      have hrow := hold.row
      simp only at e1 e2 hrow x0 x1 HTK
      subst e1 e2
      have hN : ∀ b off, sA = some ⟨b, off, none⟩ → 0 < vs.length → b ≠ w.heap.size := fun b off e h0 hbn => by
        subst hbn
        obtain ⟨b', off', e', _, hc⟩ := hrow h0
        rw [e] at e'
        cases e'
        exact noStrB HBN.out (hc 0 h0 2 _ rfl) rfl
      have HROW : Hid (∀ W, w2.grownBy W (some w.heap.size) → GRow GVal.cells 3 W W.heap.size sA vs) := Lib.hid fun W hW h0 => by
        exact hrow.gb (fun b off e => hN b off e h0) hW h0
      have hf1 := HFY.out.1
      simp only at hf1
      have hv4 : ∀ v ∈ vs, v.word.length ≤ 65536 ∧ -9223372036854775808 ≤ v.int ∧ v.int ≤ 9223372036854775807 ∧ (vtextL v).length ≤ 70000 := HFY.out.2
      have HV4 := Lib.hid hv4
      have hfew := hold.few
      simp only at hfew
      have HLa := Lib.hid (HL.out.next (bel_lit (Below.refl wr.heap.size wr) (.cells #[.string ⟨sr.toArray⟩, .slice sA vs.length sc] 37)))
      have HWF := Lib.hid (fwellFormed_any ⟨sr, vs⟩ sA sc (wr.alloc (.cells #[.string ⟨sr.toArray⟩, .slice sA vs.length sc] 37)) (HROW.out _ HLa.out.2.1) hf1 hfew (fun v hv => (hv4 v hv).1) ((HP.out.next HW.out).next (bel_lit (Below.refl _ _) _)))
      simp only [factV] at HWF
      clear hold hrow hN hv4 hfew
      cases hg : gwfF ⟨sr, vs⟩
      · have HNIL := Lib.hid (fmtT_no HMEM.out hg)
        rw [hg] at HWF
        clear hg
        go_wp2_with fail
        refine HWF.out.mono ?_
        rintro e w3 ⟨rfl, hb3⟩
        have HB3 := Lib.hid (bel_next (bel_lit HW.out _) hb3)
        clear hb3 HWF
        go_wp2
        refine bodyPost_ret (v := .string ⟨#[]⟩) (by simp [results, Tryz.results10, go_sem]) rfl ?_
        exact ⟨fs2, by rw [HNIL.out], HST.out, HME.out, HB3.out⟩
      · have h8 : vs.length ≤ 8 := by have := hg; simp [gwfF] at this; omega
        have HA2 := Lib.hid (HAT.out hg)
        rw [hg] at HWF
        clear hg HAT
        have hq1 : (⟨sr.toArray⟩ ++ ⟨#[40]⟩ : ByteArray) = ⟨(sr ++ [40]).toArray⟩ := ba_cat _ [40]
        go_wp2_with fail
        refine HWF.out.mono ?_
        rintro e w3 ⟨rfl, hb3⟩
        have hfx : w3.heap[wr.heap.size]? = some (.cells #[.string ⟨sr.toArray⟩, .slice sA vs.length sc] 37 (0, 0)) := (hb3.block _ (by simp)).trans (heap_alloc_new wr _)
        have y0 : w3.cell? ⟨wr.heap.size, 0, none⟩ = some (.string ⟨sr.toArray⟩) := by rw [Lib.cell_of_heap hfx]; rfl
        have HFX := Lib.hid hfx
        have HL3 := Lib.hid (HLa.out.next hb3)
        have hz3 : wr.heap.size < w3.heap.size := heap_lt hfx
        clear hfx hb3 HWF
        go_wp2_with fail
        refine (bld_str2 w2 _ _ (sr ++ [40]) _ HL3.out (by simp; omega)).mono ?_
        rintro e w4 ⟨rfl, hbl4, hk4, _⟩
        have hfx4 := hk4 _ _ HFX.out (by simp; omega) (by rintro c fz he; cases he)
        have y1 : w4.cell? ⟨wr.heap.size, 1, none⟩ = some (.slice sA vs.length sc) := by rw [Lib.cell_of_heap hfx4]; rfl
        obtain ⟨tq, htq⟩ : ∃ tq, tq = tk ++ (sr ++ [40]) := ⟨_, rfl⟩
        have htl : tq.length ≤ 63000070000 := by rw [htq, List.length_append, List.length_append]; simp; omega
        rw [← htq] at hbl4
        have HTQ := Lib.hid htq
        have HL4 := Lib.hid hbl4
        clear hfx4 hbl4 hk4 y0 htq hq1
        go_wp2
        go_loopw [25] (fun vi wx => ∃ j : Nat, vi = .int .i64 j ∧ j ≤ vs.length ∧ Hid (Bld2 w2 wx w.heap.size (tq ++ argsT (vs.take j)))) (fun vi _ => vs.length - (intOf vi).toNat)
        case atStart => exact ⟨0, rfl, Nat.zero_le _, Lib.hid (by simpa [argsT] using HL4.out)⟩
        case round =>
          obtain ⟨j, rfl, hj, HLk⟩ := hrel
          have hzz : w.heap.size < wr.heap.size := Nat.lt_of_lt_of_le hnz HLk.out.2.1.size
          have hjl : (argsT (vs.take j)).length ≤ 560016 := by
            have h1 := argsT_len (vs.take j) (fun v hv => (HV4.out v (List.mem_of_mem_take hv)).2.2.2)
            rw [List.length_take] at h1
            have h2 : min j vs.length * 70002 ≤ 8 * 70002 := Nat.mul_le_mul_right _ (by omega)
            omega
          have HWk := Lib.hid (bel_gb HB2.out (Nat.le_refl _) HLk.out.2.1)
          rcases Nat.lt_or_ge j vs.length with hlt2 | hge2
          · obtain ⟨b2, o2, rfl, hb2, z0, z1, z2⟩ := (HROW.out _ HLk.out.2.1).val3 hlt2
            obtain ⟨q1, q2, q3, q4⟩ := HV4.out _ (List.getElem_mem hlt2)
            have HVT := Lib.hid fun W (hW : Pow W) => valueText_any vs[j] W q1 q2 q3 hW
            have HJ := Lib.hid (argsT_take hlt2)
            clear q1 q2 q3
            generalize vs[j] = v at *
            obtain ⟨vk, vi, vw⟩ := v
            simp only [GVal.val] at z0 z1 z2 HVT
            generalize vtextL ⟨vk, vi, vw⟩ = vt at *
            have HVA : Hid (ValAt (wr.alloc (.cells #[.int .i64 vk, .int .i64 vi, .string ⟨vw.toArray⟩] 40)) wr.heap.size ⟨vk, vi, vw⟩) := Lib.hid (heap_alloc_new wr _)
            have HBa := Lib.hid (bel_lit (Below.refl wr.heap.size wr) (.cells #[.int .i64 vk, .int .i64 vi, .string ⟨vw.toArray⟩] 40))
            have HLb := Lib.hid (HLk.out.next HBa.out)
            by_cases hk0 : j = 0
            · subst hk0
              have HJ0 : Hid (argsT (vs.take (0 + 1)) = vt) := Lib.hid (by rw [HJ.out, if_pos rfl])
              have HJE : Hid (argsT (vs.take 0) = []) := Lib.hid rfl
              have HT := Lib.hid (HVT.out _ ((HP.out.next HWk.out).next HBa.out))
              simp only [Nat.zero_mul, Nat.add_zero] at z0 z1 z2
              go_wp2_with fail
              refine HT.out.mono ?_
              rintro e w5 ⟨rfl, hb5⟩
              have HL5 := Lib.hid (HLb.out.next hb5)
              clear hb5 HT
              go_wp2_with fail
              refine (bld_str2 w2 _ _ vt _ HL5.out (by rw [HJE.out, List.append_nil]; omega)).mono ?_
              rintro e w6 ⟨rfl, hbl6, hk6, _⟩
              have HL6 : Hid (Bld2 w2 w6 w.heap.size (tq ++ argsT (vs.take (0 + 1)))) := Lib.hid (by rw [HJ0.out]; rw [HJE.out, List.append_nil] at hbl6; exact hbl6)
              clear hbl6 hk6
              go_wp2
              go_roundw
              case rel => exact ⟨0 + 1, by go_num, by omega, HL6⟩
              case measure => simp [intOf]; omega
            · have g0 : (0 : Int) < (j : Int) := by omega
              have HJ0 : Hid (argsT (vs.take (j + 1)) = argsT (vs.take j) ++ 44 :: 32 :: vt) := Lib.hid (by rw [HJ.out, if_neg hk0])
              clear hk0
              go_wp2_with fail
              refine (bld_str2 w2 _ _ [44, 32] _ HLb.out (by simp; omega)).mono ?_
              rintro e w5 ⟨rfl, hbl5, hk5, hb5⟩
              obtain ⟨y0, y1, y2⟩ := (HVA.out.kept hk5 (by omega)).cells
              simp only at y0 y1 y2
              have HL5 := Lib.hid hbl5
              have HT := Lib.hid (HVT.out _ (HP.out.next (bel_gb HB2.out (Nat.le_refl _) hbl5.2.1)))
              clear hbl5 hb5 hk5 z0 z1 z2
              go_wp2_with fail
              refine HT.out.mono ?_
              rintro e w6 ⟨rfl, hb6⟩
              have HL6 := Lib.hid (HL5.out.next hb6)
              clear hb6 HT
              go_wp2_with fail
              refine (bld_str2 w2 _ _ vt _ HL6.out (by simp; omega)).mono ?_
              rintro e w7 ⟨rfl, hbl7, hk7, _⟩
              have HL7 : Hid (Bld2 w2 w7 w.heap.size (tq ++ argsT (vs.take (j + 1)))) := Lib.hid (by rw [HJ0.out]; simpa using hbl7)
              clear hbl7 hk7
              go_wp2
              go_roundw
              case rel => exact ⟨j + 1, by go_num, by omega, HL7⟩
              case measure => simp [intOf]; omega
          · have HTJ : Hid (argsT (vs.take j) = argsT vs) := Lib.hid (by rw [List.take_of_length_le hge2])
            go_wp2_with fail
            refine (bld_str2 w2 _ _ [41, 46, 10] _ HLk.out (by simp; omega)).mono ?_
            rintro e w6 ⟨rfl, hbl6, hk6, _⟩
            have HL6 : Hid (Bld2 w2 w6 w.heap.size ((fs2.take (k + 1)).flatMap factText)) := Lib.hid (by rw [HTK.out, ← HTJ.out]; rw [HTQ.out] at hbl6; simpa using hbl6)
            clear hbl6 hk6
            go_wp2
            go_roundw
            case rel => exact ⟨k + 1, by go_num, by omega, HA2, HL6⟩
            case measure => simp [intOf]; omega
    · obtain rfl : k = fs2.length := by omega
      have HEND : Hid (fmtT fs2 = fs2.flatMap factText) := Lib.hid (by have := HA.out; rw [List.take_length] at this; unfold fmtT; rw [if_pos this])
      have HLz := HL.out.bld
      rw [List.take_length] at HLz
      have HLY := Lib.hid HLz
      have hnw : w.heap.size ≤ wr.heap.size := by omega
      clear HLz
      go_wp2_with fail
      refine (bld_string _ _ _ _ HLY.out hnw).mono ?_
      rintro e w5 ⟨rfl, hb5⟩
      have HB5 := Lib.hid (HW.out.trans hb5)
      clear hb5
      go_wp2
      refine bodyPost_ret (v := .string ⟨(fs2.flatMap factText).toArray⟩) (by simp [results, Tryz.results10, go_sem]) rfl ?_
      exact ⟨fs2, by rw [HEND.out], HST.out, HME.out, HB5.out⟩
end Go.Proofs.YtmodjokoggmnaaaGreatDoor


namespace Go.Proofs.YtmodjokoggmnaaaGreatDoor

open Go.RowKit Go.Shelf

def gapsL : List (List UInt8) := [[32], [10], [9, 13, 10], [32, 35, 32, 97, 32, 99, 111, 109, 109, 101, 110, 116, 32, 34, 32, 123, 32, 10], [35, 10, 35, 10], [32, 32, 9]]
def gapL (k : Nat) : List UInt8 := gapsL.getD k []
theorem lex_s (b : UInt8) (hb : isSp b = true) (m : List UInt8) (p : Nat × Nat) : lex 0 p (b :: m) = lex 0 (adv p [b]) m := by
  have h : step (b :: m) = .skip 1 := by simp [step, hb]
  rw [lex_sk p (by simp) h]; rfl
theorem lex_c (c : List UInt8) (hc : c.all notNl = true) (m : List UInt8) (p : Nat × Nat) : ∃ q, lex 0 p (35 :: (c ++ 10 :: m)) = lex 0 q m := by
  have hr : run notNl ((35 :: c) ++ 10 :: m) = (35 :: c).length := run_sep notNl (35 :: c) (10 :: m) (by rw [List.all_cons, hc]; rfl) (.inr ⟨10, m, rfl, by decide⟩)
  have h : step ((35 :: c) ++ 10 :: m) = .skip (run notNl ((35 :: c) ++ 10 :: m)) := rfl
  rw [hr] at h
  have e : lex 0 p ((35 :: c) ++ 10 :: m) = lex 0 (adv (adv p (((35 :: c) ++ 10 :: m).take (35 :: c).length)) [10]) m := by
    rw [lex_sk p (by simp) h, List.drop_left, lex_s 10 (by decide)]
  exact ⟨_, e⟩
theorem lex_end (p : Nat × Nat) : lex 0 p [35, 32, 116, 104, 101, 32, 101, 110, 100] = .ok [] := by
  have h : step [35, 32, 116, 104, 101, 32, 101, 110, 100] = .skip 9 := by decide
  rw [lex_sk p (by simp) h]; rfl
theorem lex_gap (k : Nat) (hk : k < 6) (m : List UInt8) (p : Nat × Nat) : ∃ q, lex 0 p (gapL k ++ m) = lex 0 q m := by
  obtain rfl | rfl | rfl | rfl | rfl | rfl : k = 0 ∨ k = 1 ∨ k = 2 ∨ k = 3 ∨ k = 4 ∨ k = 5 := by omega
  · exact ⟨_, lex_s 32 (by decide) m p⟩
  · exact ⟨_, lex_s 10 (by decide) m p⟩
  · exact ⟨_, (lex_s 9 (by decide) _ p).trans ((lex_s 13 (by decide) _ _).trans (lex_s 10 (by decide) m _))⟩
  · obtain ⟨q, hq⟩ := lex_c [32, 97, 32, 99, 111, 109, 109, 101, 110, 116, 32, 34, 32, 123, 32] (by decide) m (adv p [32])
    exact ⟨q, (lex_s 32 (by decide) _ p).trans hq⟩
  · obtain ⟨q, hq⟩ := lex_c [] rfl (35 :: ([] ++ 10 :: m)) p
    obtain ⟨q2, hq2⟩ := lex_c [] rfl m q
    exact ⟨q2, hq.trans hq2⟩
  · exact ⟨_, (lex_s 32 (by decide) _ p).trans ((lex_s 32 (by decide) _ _).trans (lex_s 9 (by decide) m _))⟩
theorem sep_gap (k : Nat) (hk : k < 6) (m : List UInt8) : Sep (gapL k ++ m) := by
  obtain rfl | rfl | rfl | rfl | rfl | rfl : k = 0 ∨ k = 1 ∨ k = 2 ∨ k = 3 ∨ k = 4 ∨ k = 5 := by omega
  all_goals exact .inr ⟨_, _, rfl, by decide, by decide, by decide, by decide⟩
theorem gap_len (k : Nat) (hk : k < 6) : (gapL k).length ≤ 18 := by
  obtain rfl | rfl | rfl | rfl | rfl | rfl : k = 0 ∨ k = 1 ∨ k = 2 ∨ k = 3 ∨ k = 4 ∨ k = 5 := by omega
  all_goals decide
/-- The text T is scanned asx the tokens ts, whatever follows. -/
def SpInv (T : List UInt8) (ts : List GTok) : Prop := ∀ (m : List UInt8) (p : Nat × Nat), ∃ q us, lex 0 p (T ++ m) = (lex 0 q m).app us ∧ bareEq us ts
theorem SpInv.start (k : Nat) (hk : k < 6) : SpInv (gapL k) [] := fun m p => by
  obtain ⟨q, hq⟩ := lex_gap k hk m p
  exact ⟨q, [], by rw [hq, app_nil], rfl⟩
theorem SpInv.go {T : List UInt8} {ts : List GTok} (h : SpInv T ts) (t : GTok) (hw : wf t = true) (hv0 : 0 ≤ t.value) (hv : t.value < 18446744073709551616) (k : Nat) (hk : k < 6) : SpInv (T ++ txt t ++ gapL k) (ts ++ [t]) := fun m p => by
  obtain ⟨q, us, hl, hb⟩ := h (txt t ++ (gapL k ++ m)) p
  obtain ⟨q2, u, hu, hl2⟩ := lex_txt t hw hv0 hv (gapL k ++ m) (sep_gap k hk m) q
  obtain ⟨q3, hl3⟩ := lex_gap k hk m q2
  refine ⟨q3, us ++ [u], ?_, ?_⟩
  · rw [List.append_assoc, List.append_assoc, hl, hl2, hl3, app_cons]
  · unfold bareEq at hb ⊢
    rw [List.map_append, List.map_append, hb]
    simp [hu]
theorem SpInv.fin {T : List UInt8} {ts : List GTok} (h : SpInv T ts) (p : Nat × Nat) : ∃ us, lex 0 p (T ++ [35, 32, 116, 104, 101, 32, 101, 110, 100]) = .ok us ∧ bareEq us ts := by
  obtain ⟨q, us, hl, hb⟩ := h [35, 32, 116, 104, 101, 32, 101, 110, 100] p
  exact ⟨us, by rw [hl, lex_end]; simp [Res.app], hb⟩
end Go.Proofs.YtmodjokoggmnaaaGreatDoor
