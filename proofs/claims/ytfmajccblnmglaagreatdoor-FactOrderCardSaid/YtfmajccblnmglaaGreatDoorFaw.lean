/-
  The sanity check of layer 4 (awake) returns true.
  Conditions: strconv.ErrRange and the table of powers of ten lie as the program's start lays them.
-/
import Derived.Test.YtfmajccblnmglaaGreatDoorFfm
import Derived.Test.YtfmajccblnmglaaGreatDoorGlob2
namespace Go.Proofs.YtfmajccblnmglaaGreatDoor
open Go.RowKit Go.Shelf

theorem rInt_any (n : Int) (w : World) : Calls Tryz.prog 23 #[.int .i64 n] w fun e w' => e = .returned (GVal.val ⟨1, n, []⟩) ∧ Below w.heap.size w w' := by
  go_enter Tryz.func23, Tryz.ntmps23
  go_wp2
  exact bodyPost_ret (v := GVal.val ⟨1, n, []⟩) (by simp [results, Tryz.results23, go_sem, GVal.val]) rfl ⟨rfl, bel_lit (Below.refl _ _) _⟩
theorem rWordV_any (l : List UInt8) (w : World) : Calls Tryz.prog 24 #[.string ⟨l.toArray⟩] w fun e w' => e = .returned (GVal.val ⟨2, 0, l⟩) ∧ Below w.heap.size w w' := by
  go_enter Tryz.func24, Tryz.ntmps24
  go_wp2
  exact bodyPost_ret (v := GVal.val ⟨2, 0, l⟩) (by simp [results, Tryz.results24, go_sem, GVal.val]) rfl ⟨rfl, bel_lit (Below.refl _ _) _⟩
set_option maxRecDepth 50000 in
set_option maxHeartbeats 1000000 in
theorem rFact_any (r : List UInt8) (vs : List GVal) (A : Option Addr) (c : Nat) (w : World) (h : GRow GVal.cells 3 w w.heap.size A vs) (hl : vs.length ≤ 1000000) :
    Calls Tryz.prog 22 #[.string ⟨r.toArray⟩, .slice A vs.length c] w fun e w' => (∃ A' c', e = .returned (.agg #[.string ⟨r.toArray⟩, .slice A' vs.length c']) ∧ OwnG GVal.cells 40 3 w' w.heap.size (.slice A' vs.length c') vs) ∧ Below w.heap.size w w' := by
  have hb0 := bel_lit (Below.refl w.heap.size w) (.cells #[.string ⟨#[]⟩, .slice none 0 0] 25)
  obtain ⟨v3, w3, hrun3, hown3, hgr3, hbk3⟩ := OwnG.app elt_val GVal.len GVal.one (OwnG.nil (w.alloc (.cells #[.string ⟨#[]⟩, .slice none 0 0] 25)) (w.heap.size + 1)) c ((h.below (Nat.le_refl _) hb0).wide hb0.size) (by simp) (by unfold maxLen; simp; omega) (by simp; omega)
  rw [List.nil_append] at hown3
  obtain ⟨A3, c3, rfl, hc3, hm3, hr3⟩ := hown3.row GVal.len
  have hb3 : Below w.heap.size w w3 := below_of_own hb0 hgr3 (fun g hg => by simp [Value.ownBlock] at hg)
  have hk : w3.heap[w.heap.size]? = some (.cells #[.string ⟨#[]⟩, .slice none 0 0] 25 (0, 0)) := (hgr3.block _ (by simp) (by simp [Value.ownBlock])).trans (heap_alloc_new w _)
  have z0 := Lib.frozen_of_heap hk 0
  have z1 := Lib.frozen_of_heap hk 1
  have q0 : w3.cell? ⟨w.heap.size, 0, none⟩ = some (.string ⟨#[]⟩) := by rw [Lib.cell_of_heap hk]; rfl
  have q1 : w3.cell? ⟨w.heap.size, 1, none⟩ = some (.slice none 0 0) := by rw [Lib.cell_of_heap hk]; rfl
  have hne : Value.ownBlock (.slice A3 vs.length c3) ≠ some w.heap.size := by intro e; have := (hown3.lt _ e).1; omega
  have HO := Lib.hid (((hown3.base (b' := w.heap.size) (by omega)).other ⟨w.heap.size, 0, none⟩ (.string ⟨r.toArray⟩) hne).other ⟨w.heap.size, 1, none⟩ (.slice A3 vs.length c3) hne)
  have HB := Lib.hid ((hb3.setCell (p := ⟨w.heap.size, 0, none⟩) (Nat.le_refl _) (.string ⟨r.toArray⟩)).setCell (p := ⟨w.heap.size, 1, none⟩) (Nat.le_refl _) (.slice A3 vs.length c3))
  have HRUN := Lib.hid hrun3
  clear h hb0 hrun3 hown3 hgr3 hr3 hb3 hk hne hbk3
  go_enter Tryz.func22, Tryz.ntmps22
  go_wp2_with (at_builtin; refine wpList_gapp HRUN.out rfl rfl rfl rfl rfl ?_)
  go_wp2
  exact bodyPost_ret (v := .agg #[.string ⟨r.toArray⟩, .slice A3 vs.length c3]) (by simp [results, Tryz.results22, go_sem, q0, q1]) rfl ⟨⟨A3, c3, rfl, HO.out⟩, HB.out⟩

def awkL : List UInt8 := [99, 111, 114, 101, 40, 48, 44, 32, 51, 50, 44, 32, 48, 44, 32, 49, 48, 48, 41, 46]
def awkVs : List GVal := [⟨1, -5, []⟩, ⟨2, 0, [97, 32, 98]⟩]
def awkF : GFact := ⟨[112], awkVs⟩
def awkToks : List Tok := [⟨1, [99, 111, 114, 101], 0, 1, 1⟩, ⟨4, [40], 0, 1, 5⟩, ⟨2, [], 0, 1, 6⟩, ⟨4, [44], 0, 1, 7⟩, ⟨2, [], 32, 1, 9⟩, ⟨4, [44], 0, 1, 11⟩, ⟨2, [], 0, 1, 13⟩, ⟨4, [44], 0, 1, 14⟩, ⟨2, [], 100, 1, 16⟩, ⟨4, [41], 0, 1, 19⟩, ⟨4, [46], 0, 1, 20⟩]
theorem awk_scan : scan awkL = .ok awkToks := by decide +kernel
theorem awk_toks (x y : Int) : FactToks [99, 111, 114, 101] [0, 32, 0, 100] (awkToks.map Tok.g ++ [⟨0, [], 0, x, y⟩]) := by
  refine ⟨rfl, fun _ => ⟨rfl, rfl⟩, by decide, by decide, ⟨by simp [awkToks], by decide, by decide, by decide, fun _ => ⟨rfl, rfl⟩, fun i h _ => ?_, fun i h _ => ?_, fun _ => ⟨rfl, rfl⟩, fun _ => ⟨rfl, rfl⟩⟩, fun _ => rfl⟩
  · match i, h with
    | 0, _ => exact ⟨rfl, rfl⟩
    | 1, _ => exact ⟨rfl, rfl⟩
    | 2, _ => exact ⟨rfl, rfl⟩
    | 3, _ => exact ⟨rfl, rfl⟩
  · match i, h with
    | 0, _ => exact ⟨rfl, rfl⟩
    | 1, _ => exact ⟨rfl, rfl⟩
    | 2, _ => exact ⟨rfl, rfl⟩
theorem itoa5 : Lib.itoa (-5) = [45, 53] := by
  unfold Lib.itoa
  rw [if_pos (by decide), Lib.decDigits]
  rfl
theorem awk_v1 : vtextL ⟨1, -5, []⟩ = [45, 53] := by
  show Lib.itoa (-5) = _
  exact itoa5
theorem awk_v2 : vtextL ⟨2, 0, [97, 32, 98]⟩ = [34, 97, 32, 98, 34] := by
  have h1 : nameB [97, 32, 98] = false := by decide +kernel
  have h2 : quoteL [97, 32, 98] = [34, 97, 32, 98, 34] := by decide +kernel
  simp [vtextL, h1, h2]
theorem awk_text : factText awkF = [112, 40, 45, 53, 44, 32, 34, 97, 32, 98, 34, 41, 46, 10] := by
  simp [factText, awkF, awkVs, argsT, awk_v1, awk_v2]
theorem awk_wf : gwfF awkF = true := by decide +kernel
theorem awk_vals : ∀ v ∈ awkF.args, v.word.length ≤ 65536 ∧ -9223372036854775808 ≤ v.int ∧ v.int ≤ 9223372036854775807 ∧ (vtextL v).length ≤ 70000 := by
  intro v hv
  have hv' : v = ⟨1, -5, []⟩ ∨ v = ⟨2, 0, [97, 32, 98]⟩ := by simpa [awkF, awkVs] using hv
  rcases hv' with rfl | rfl
  · rw [awk_v1]; simp
  · rw [awk_v2]; simp
def awkC : GFact := ⟨[99, 111, 114, 101], [0, 32, 0, 100].map gnum⟩
theorem awk_self : [awkC].any (isF awkC) = true := by simp [isF, ord_fact.self]
set_option maxRecDepth 50000 in
set_option maxHeartbeats 2000000 in
theorem awake_any (w : World) (hG : Glob2 w) : Calls Tryz.prog 7 #[] w fun e w' => e = .returned (.bool true) ∧ Below w.heap.size w w' := by
  have HPA := Lib.hid (parse_one awkL awkToks awk_scan _ _ (by decide) awk_toks w hG.1)
  have HP := Lib.hid hG.2
  have HFM := Lib.hid fun A c W (h1 : GRow SFact.cells 2 W W.heap.size (some A) [c]) hf hA hP => fformat_one awkF c A 1 W h1 hf hA awk_wf (by decide) awk_vals hP
  rw [awk_text] at HFM
  clear hG
  go_enter Tryz.func7, Tryz.ntmps7
  go_wp2_with fail
  refine HPA.out.mono ?_
  rintro e w1 ⟨v1, A1, n1, c1, rfl, ho1, hv1, hb1⟩
  obtain ⟨g1, cap1, rfl, hg0, hg1, hc1, hcm, hr1⟩ := ho1.nonnil SFact.len
  obtain ⟨A2, c2, e2, hc2, hm2, hr2⟩ := hv1.row GVal.len
  cases e2
  have HFR : Hid (FRow w1 w1.heap.size (some ⟨g1, 0, none⟩) [⟨[99, 111, 114, 101], A1, 4, c1⟩] [awkC]) := Lib.hid ⟨hr1, rfl, fun i h1 _ => by
    have h0 : i = 0 := by simp at h1; omega
    subst h0
    exact ⟨rfl, rfl, hr2, by simp [awkC]⟩⟩
  have HB1 := Lib.hid hb1
  simp only [List.length_nil, Nat.zero_add]
  clear ho1 hv1 hb1 hr1 hr2 HPA
  go_wp2_with fail
  refine (rInt_any _ _).mono ?_
  rintro e w2 ⟨rfl, hb2⟩
  have HFR2 := Lib.hid ((HFR.out.next (Nat.le_refl _) (bel_lit (Below.refl _ w1) _)).next (Nat.le_refl _) hb2)
  have HB2 := Lib.hid (bel_alloc HB1.out hb2)
  clear hb2
  go_wp2_with fail
  refine (rWordV_any [97, 32, 98] _).mono ?_
  rintro e w3 ⟨rfl, hb3⟩
  have HFR3 := Lib.hid (HFR2.out.next (Nat.le_refl _) hb3)
  have HB3 := Lib.hid (bel_next HB2.out hb3)
  clear hb3
  simp only [GVal.val]
  have HBS := Lib.hid (bel_lit (Below.refl w3.heap.size w3) (.cells #[.int .i64 1, .int .i64 (-5), .string ⟨#[]⟩, .int .i64 2, .int .i64 0, .string ⟨#[97, 32, 98]⟩] 40))
  have HRF := Lib.hid (rFact_any [112] awkVs (some ⟨w3.heap.size, 0, none⟩) 2 (w3.alloc (.cells #[.int .i64 1, .int .i64 (-5), .string ⟨#[]⟩, .int .i64 2, .int .i64 0, .string ⟨#[97, 32, 98]⟩] 40)) (GRow.lit GVal.len w3 _ awkVs _ rfl (by decide)) (by decide))
  rw [show awkVs.length = 2 from rfl] at HRF
  go_wp2_with fail
  refine HRF.out.mono ?_
  rintro e w4 ⟨⟨A5, c5, rfl, ho5⟩, hb4⟩
  obtain ⟨A6, c6, e6, _, _, hr5⟩ := ho5.row GVal.len
  cases e6
  have hA5 : A5 ≠ none := by
    intro e
    subst e
    obtain ⟨b, off, e, _⟩ := hr5 (by decide)
    cases e
  have HB4 := Lib.hid (bel_next (bel_lit HB3.out _) hb4)
  have HFR4 := Lib.hid ((HFR3.out.next (Nat.le_refl _) HBS.out).next (Nat.le_refl _) hb4)
  have HH4 : Hid (FHold w4 w4.heap.size ⟨[112], A5, 2, c5⟩ awkF) := Lib.hid ⟨rfl, rfl, hr5, by decide⟩
  obtain ⟨b1, o1, eA, hl1, x0, x1⟩ := HFR4.out.row.fact2 (i := 0) (by simp)
  cases eA
  simp only [Nat.zero_mul, Nat.zero_add, List.getElem_cons_zero] at x0 x1
  have HBF := Lib.hid (bel_lit (bel_lit (Below.refl w4.heap.size w4) (.cells #[.string ⟨#[112]⟩, .slice A5 2 c5] 25)) (.cells #[.string ⟨#[112]⟩, .slice A5 2 c5] 25))
  have HFC := Lib.hid (HFM.out ⟨w4.heap.size + 1, 0, none⟩ ⟨[112], A5, 2, c5⟩ ((w4.alloc (.cells #[.string ⟨#[112]⟩, .slice A5 2 c5] 25)).alloc (.cells #[.string ⟨#[112]⟩, .slice A5 2 c5] 25)) (by
      have := GRow.lit SFact.len (w4.alloc (.cells #[.string ⟨#[112]⟩, .slice A5 2 c5] 25)) 25 [(⟨[112], A5, 2, c5⟩ : SFact)] #[.string ⟨#[112]⟩, .slice A5 2 c5] rfl (by unfold maxLen; simp)
      simpa using this) (HH4.out.next (Nat.le_refl _) HBF.out) hA5 ((HP.out.next HB4.out).next HBF.out))
  clear ho5 hb4 hr5 HRF HFM hA5
  go_wp2_with fail
  refine HFC.out.mono ?_
  rintro e w7 ⟨rfl, hb7⟩
  have HB47 := Lib.hid (bel_next HBF.out hb7)
  have hz7 : w4.heap.size + 1 < w7.heap.size := by have := hb7.size; simp at this; omega
  have hk7 : w7.heap[w4.heap.size]? = some (.cells #[.string ⟨#[112]⟩, .slice A5 2 c5] 25 (0, 0)) := (hb7.block _ (by simp; omega)).trans (by rw [Below.heap_alloc _ _ _ (by simp)]; exact heap_alloc_new w4 _)
  have y0 : w7.cell? ⟨w4.heap.size, 0, none⟩ = some (.string ⟨#[112]⟩) := by rw [Lib.cell_of_heap hk7]; rfl
  have y1 : w7.cell? ⟨w4.heap.size, 1, none⟩ = some (.slice A5 2 c5) := by rw [Lib.cell_of_heap hk7]; rfl
  have HH7 := Lib.hid (HH4.out.next (Nat.le_refl _) HB47.out)
  have HCM := Lib.hid (compare_any awkF awkF A5 A5 c5 c5 w7 HH7.out.row HH7.out.row (by decide) (by decide))
  rw [ord_fact.self] at HCM
  have HFR7 := Lib.hid (HFR4.out.next (Nat.le_refl _) HB47.out)
  clear hb7 hk7 x0 x1
  simp only [factV] at HCM
  go_wp2_with fail
  refine HCM.out.mono ?_
  rintro e w8 ⟨rfl, hb8⟩
  have HFR8 := Lib.hid (HFR7.out.next (Nat.le_refl _) hb8)
  have HB8 := Lib.hid (bel_next (bel_next HB4.out HB47.out) hb8)
  obtain ⟨b1, o1, eA, hl8, x0, x1⟩ := HFR8.out.row.fact2 (i := 0) (by simp)
  cases eA
  simp only [Nat.zero_mul, Nat.zero_add, List.getElem_cons_zero] at x0 x1
  have hrow := HFR8.out.each 0 (by simp) (by simp)
  simp only [List.getElem_cons_zero] at hrow
  have hCT := fcontains_any awkC ⟨[99, 111, 114, 101], A1, 4, c1⟩ [⟨[99, 111, 114, 101], A1, 4, c1⟩] [awkC] (some ⟨g1, 0, none⟩) cap1 w8 hrow HFR8.out (by simp)
  rw [awk_self] at hCT
  have HCT := Lib.hid hCT
  clear hCT hrow hb8 y0 y1
  go_wp2_with fail
  refine HCT.out.mono ?_
  rintro e w9 ⟨rfl, hb9⟩
  go_wp2
  go_ret
  exact ⟨rfl, bel_next HB8.out hb9⟩
end Go.Proofs.YtfmajccblnmglaaGreatDoor
