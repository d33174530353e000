/-
  What the laws' walks share: what Find yields of modules that the maker made; one module out of a row; what a filter keeps.
  Conditions: as each theorem says.
  The law ImageFind returns true.
  Conditions: the numbers are the language's.
  A slice of bytes that comes in as an argument, as the library opens it, reads as a list of bytes.
  Conditions: none beyond the frame's.
-/
import Derived.Test.YtcenonnccodfoaaDoorMa18
import Derived.Test.YtcenonnccodfoaaDoorMa17
import Derived.StillTailTactics
import Derived.Deep.RegionHeld3
import Derived.Test.YtcenonnccodfoaaDoorMa3
import Derived.OpenShut
import Derived.ChangeSlices
namespace Go.Proofs.YtcenonnccodfoaaDoor

open Go.RowKit

theorem pair_get {ms : List GMod} (h : AllMade ms) {i j : Nat} (hi : i < ms.length) (hj : j < ms.length) (hij : i < j) : ¬ (ms[i].name = ms[j].name ∧ ms[i].width = ms[j].width) :=
  List.pairwise_iff_getElem.1 h.2 i j hi hj hij
theorem find_made {ms : List GMod} (h : AllMade ms) {k : Nat} (hk : k < ms.length) {i : Int} {ok : Bool} (hf : FindR ms ms[k].name ms[k].width i ok) : ok = true ∧ i = k := by
  have h2 : FindR ms ms[k].name ms[k].width (k : Int) true := .inl ⟨rfl, k, rfl, hk, by simp [keyIs], by
    rw [List.any_eq_false]
    intro x hx
    obtain ⟨j, hj, rfl⟩ := List.mem_take_iff_getElem.1 hx
    have := pair_get h (i := j) (j := k) (by omega) hk (by omega)
    simpa [keyIs] using this⟩
  obtain ⟨h3, h4⟩ := hf.same h2
  exact ⟨h4, h3⟩
def absentL : List UInt8 := [97, 98, 115, 101, 110, 116]
theorem find_absent {ms : List GMod} (h : AllMade ms) {wd i : Int} {ok : Bool} (hf : FindR ms absentL wd i ok) : ok = false := by
  rcases hf with ⟨_, k, _, hk, hy, _⟩ | ⟨h1, _⟩
  · exfalso
    obtain ⟨⟨r, hr, hn⟩, _⟩ := h.1 ms[k] (List.getElem_mem hk)
    have hy2 : ms[k].name = absentL := by
      have := hy
      simp only [keyIs, Bool.and_eq_true, decide_eq_true_eq] at this
      exact this.1
    rw [hn] at hy2
    match r, hr with
    | 0, _ => exact absurd hy2 (by decide)
    | 1, _ => exact absurd hy2 (by decide)
    | 2, _ => exact absurd hy2 (by decide)
  · exact h1
theorem find_nil {nm : List UInt8} {wd i : Int} {ok : Bool} (hf : FindR [] nm wd i ok) : ok = false := by
  rcases hf with ⟨_, k, _, hk, _⟩ | ⟨h1, _⟩
  · simp at hk
  · exact h1
/-- A member that a filter keeps stands there. -/
theorem sel_here {ms : List GMod} {p : GMod → Bool} {k : Nat} (hk : k < ms.length) (hp : p ms[k] = true) : ∃ h : ((ms.take k).filter p).length < (ms.filter p).length, (ms.filter p)[((ms.take k).filter p).length] = ms[k] := by
  have e : ms.filter p = (ms.take k).filter p ++ ms[k] :: (ms.drop (k + 1)).filter p := by
    conv => lhs; rw [← List.take_append_drop k ms, ← List.getElem_cons_drop hk]
    rw [List.filter_append, List.filter_cons_of_pos hp]
  refine ⟨by rw [e]; simp, ?_⟩
  simp only [e]
  rw [List.getElem_append_right (Nat.le_refl _)]
  simp
theorem CopI.row2 {w W : World} {v : Value} {ss : List SMod} {ms : List GMod} (h : CopI w W v ss ms) : ∃ A' c, v = .slice A' ms.length c ∧ ms.length ≤ c ∧ c ≤ maxLen ∧ MRow W W.heap.size A' ss ms := by
  obtain ⟨A', c, e, h1, h2, hr⟩ := h.own.row SMod.len
  have hl := h.len
  exact ⟨A', c, by rw [← h.len]; exact e, by omega, h2, ⟨hr, h.len, fun i h1 h2 => (h.each i h1 h2).hold⟩⟩
theorem mods_one (b off len cap j : Nat) (h : j + 1 ≤ cap) (W : World) : (Instr.slice 22 (.slice (some ⟨b, off, none⟩) len cap) (some (.int .i64 (j : Int))) (some (.int .i64 ((j : Int) + 1))) none).run Tryd.prog W = .ok (.slice (some ⟨b, off + j * 5, none⟩) 1 (cap - j)) W := by
  rw [run_slice_lh _ _ _ _ _ mods_slice .i64 .i64 (j : Int) ((j : Int) + 1) (by omega) (by omega) (by omega)]
  have e : (sizeOf (Tryd.prog.elem 22)).run Tryd.prog W = .ok 5 W := by kernel_rfl
  rw [e]
  have e1 : ((j : Int) + 1).toNat = j + 1 := by omega
  have e2 : ¬ cap = j := by omega
  simp only [Result.andThen, sliced, e1, Int.toNat_natCast]
  simp [e2, Addr.add]
theorem mods_one2 (b off len cap j : Nat) (h : j + 1 ≤ cap) (W : World) : (Instr.sliceAt 22 (.slice (some ⟨b, off, none⟩) len cap) (some (.int .i64 (j : Int))) (some (.int .i64 ((j : Int) + 1))) none).run Tryd.prog W = .ok (.slice (some ⟨b, off + j * 5, none⟩) 1 (cap - j)) W := by
  rw [run_sliceAt_slice _ _ _ _ _ _ mods_slice]; exact mods_one b off len cap j h W
theorem MRow.one {w : World} {B b off : Nat} {ss : List SMod} {ms : List GMod} (h : MRow w B (some ⟨b, off, none⟩) ss ms) {j : Nat} (hj : j < ms.length) (hs : j < ss.length) : MRow w B (some ⟨b, off + j * 5, none⟩) [ss[j]] [ms[j]] := by
  refine ⟨fun _ => ?_, rfl, fun i i1 i2 => ?_⟩
  · obtain ⟨b', off', e, hb, hc⟩ := h.row (by omega)
    cases e
    refine ⟨b, off + j * 5, rfl, hb, fun i hi t u hu => ?_⟩
    have i0 : i = 0 := by simp at hi; omega
    subst i0
    have := hc j hs t u hu
    rwa [show off + j * 5 + (0 * 5 + t) = off + (j * 5 + t) by omega]
  · have i0 : i = 0 := by simp at i1; omega
    subst i0
    exact h.each j hs hj
theorem MRow.at_ {w : World} {B : Nat} {A : Option Addr} {ss : List SMod} {ms : List GMod} (h : MRow w B A ss ms) (hn : 0 < ms.length) : ∃ b off, A = some ⟨b, off, none⟩ ∧ b < B := by
  obtain ⟨b, off, e, hb, _⟩ := h.row (by rw [h.len]; exact hn)
  exact ⟨b, off, e, hb⟩
theorem made_data {ms : List GMod} (h : AllMade ms) : ∀ m ∈ ms, m.data.length ≤ 2000 := fun m hm => by have := made_len (h.1 m hm); omega
end Go.Proofs.YtcenonnccodfoaaDoor


namespace Go.Proofs.YtcenonnccodfoaaDoor

open Go.RowKit

set_option maxRecDepth 50000 in
set_option maxHeartbeats 1000000 in
theorem lfind_any (A : Option Addr) (len cap : Nat) (zs : List Int) (which width : Int) (w : World) (hr : IRow w w.heap.size A len cap zs) :
    Calls Tryd.prog 8 #[.slice A len cap, .int .i64 which, .int .i64 width] w fun e w' => e = .returned (.bool true) ∧ Below w.heap.size w w' := by
  have HAW := Lib.hid awake_any
  have HMD := Lib.hid (modules_any A len cap zs w hr)
  have HAW0 := Lib.hid (awake_any w)
  clear hr
  have hnot : ∀ (x : Bool) (w : World), (Op.unary .not (.bool x)).run Tryd.prog w = .ok (.bool (!x)) w := fun _ _ => rfl
  by_cases h200 : 200 < len
  case pos =>
    have f0 : decide ((200 : Int) < (len : Int)) = true := by simp; omega
    have g0 : decide (200 < len) = true := by simp; omega
    clear HMD HAW
    go_enter Tryd.func8, Tryd.ntmps8
    go_wp2_with fail
    go_fit HAW0.out
    rintro e w5 ⟨rfl, hb5⟩
    have HN := Lib.hid hb5
    clear hb5
    go_wp2
    go_ret
    exact ⟨rfl, HN.out⟩
  have f0 : decide ((200 : Int) < (len : Int)) = false := by simp; omega
  have g0 : decide (200 < len) = false := by simp; omega
  clear HAW0
  go_enter Tryd.func8, Tryd.ntmps8
  go_wp2_with fail
  go_fit HMD.out
  rintro e w1 ⟨A1, c1, ss, ms, rfl, hm, ham, h5, hcap, hb1⟩
  have HM := Lib.hid hm
  have HA := Lib.hid ham
  have HB1 := Lib.hid hb1
  clear hm ham hb1 HMD
  have hlen := HM.out.len
  by_cases h0 : ms.length = 0
  case pos =>
    have e0 : ms = [] := List.eq_nil_of_length_eq_zero h0
    subst e0
    have HF0 := Lib.hid (pFind_any [97] 32 [] ss A1 c1 w1 HM.out (by simp))
    go_wp2_with fail
    go_fit HF0.out
    rintro e w2 ⟨⟨i, ok, rfl, hf⟩, hb2⟩
    obtain rfl := find_nil hf
    have HB2 := Lib.hid (bel_next8 HB1.out hb2)
    have HS0 := Lib.hid (pSelect_any 32 [] ss A1 c1 w2 (HM.out.next hb2) (by simp) (by simp))
    clear hf hb2 HF0
    go_wp2_with fail
    go_fit HS0.out
    rintro e w3 ⟨v, ss', rfl, hc3⟩
    obtain ⟨A3, c3, rfl, _, _, _⟩ := hc3.row2
    have HB3 := Lib.hid (bel_next8 HB2.out hc3.bel)
    have HAW3 := Lib.hid (HAW.out w3)
    clear hc3 HS0
    go_wp2_with fail
    go_fit HAW3.out
    rintro e w5 ⟨rfl, hb5⟩
    have HN := Lib.hid (bel_next8 HB3.out hb5)
    clear hb5
    go_wp2
    go_ret
    exact ⟨rfl, HN.out⟩
  have fz : ((ms.length : Int) == 0) = false := beq_eq_false_iff_ne.2 (by omega)
  have hpb := placeI_bd which ms.length (by omega)
  have HPL := Lib.hid (place_eq which ms.length (by omega) (by omega))
  generalize placeI which ms.length = kI at *
  obtain ⟨k, rfl⟩ : ∃ k : Nat, kI = k := ⟨kI.toNat, by omega⟩
  have hk : k < ms.length := by omega
  have hks : k < ss.length := by omega
  clear hpb
  have HPL1 := Lib.hid (HPL.out w1)
  go_wp2_with fail
  go_fit HPL1.out
  rintro e w2 ⟨rfl, rfl⟩
  clear HPL HPL1
  obtain ⟨b1, o1, rfl, hb1⟩ := HM.out.at_ (by omega)
  have HKS : Hid (∀ W, Below w1.heap.size w1 W → W.cell? ⟨b1, o1 + k * 5, none⟩ = some (.string ⟨ms[k].name.toArray⟩) ∧ W.cell? ⟨b1, o1 + k * 5 + 2, none⟩ = some (.int .i64 ms[k].width)) := Lib.hid fun W hW => by
    obtain ⟨b', o', e, hb', z0, z1, z2, z3, z4⟩ := (HM.out.row.below (Nat.le_refl _) hW).mod5 hks
    cases e
    have hh := HM.out.each k hks hk
    rw [hh.name] at z0
    rw [hh.width] at z2
    exact ⟨z0, z2⟩
  have HFI : Hid (∀ W, Below w1.heap.size w1 W → Calls Tryd.prog 17 #[.slice (some ⟨b1, o1, none⟩) ms.length c1, .string ⟨ms[k].name.toArray⟩, .int .i64 ms[k].width] W fun e w' => e = .returned (.tuple #[.int .i64 (k : Int), .bool true]) ∧ Below W.heap.size W w') := Lib.hid fun W hW => (pFind_any _ _ ms ss _ c1 W (HM.out.next hW) (by omega)).mono fun e w' h => by
    obtain ⟨⟨i, ok, rfl, hf⟩, hb⟩ := h
    obtain ⟨rfl, rfl⟩ := find_made HA.out hk hf
    exact ⟨rfl, hb⟩
  have HFA : Hid (∀ W, Below w1.heap.size w1 W → Calls Tryd.prog 17 #[.slice (some ⟨b1, o1, none⟩) ms.length c1, .string ⟨#[97, 98, 115, 101, 110, 116]⟩, .int .i64 ms[k].width] W fun e w' => (∃ i, e = .returned (.tuple #[.int .i64 i, .bool false])) ∧ Below W.heap.size W w') := Lib.hid fun W hW => (pFind_any absentL _ ms ss _ c1 W (HM.out.next hW) (by omega)).mono fun e w' h => by
    obtain ⟨⟨i, ok, rfl, hf⟩, hb⟩ := h
    obtain rfl := find_absent HA.out hf
    exact ⟨⟨i, rfl⟩, hb⟩
  have hS8 : Below w1.heap.size w1 w1.drew ∧ w1.drew.cell? ⟨b1, o1 + k * 5, none⟩ = some (.string ⟨ms[k].name.toArray⟩) ∧ w1.drew.cell? ⟨b1, o1 + k * 5 + 2, none⟩ = some (.int .i64 ms[k].width) := ⟨(Below.refl _ w1).drew, HKS.out _ (Below.refl _ w1).drew⟩
  go_upto_region 8 with fail
  go_region_held3 (fun W => Below w1.heap.size w1 W ∧ W.cell? ⟨b1, o1 + k * 5, none⟩ = some (.string ⟨ms[k].name.toArray⟩) ∧ W.cell? ⟨b1, o1 + k * 5 + 2, none⟩ = some (.int .i64 ms[k].width))
    (assumption)
    (first | (go_at_call 17; go_fit (HFI.out _ (And.left (by assumption))); rintro e w3 ⟨rfl, hb3⟩; have hB3 := bel_next8 hS8.1 hb3; have hS3 := And.intro hB3 (HKS.out _ hB3)))
  have HB3 := Lib.hid hB3
  have HFA3 := Lib.hid (HFA.out w3 hB3)
  clear hS3 hS8 hb3 hB3 HFA HFI HKS
  go_wp2_with fail
  go_fit HFA3.out
  rintro e w4 ⟨⟨i4, rfl⟩, hb4⟩
  have HB4 := Lib.hid (bel_next8 HB3.out hb4)
  clear hb4 HFA3
  have hpb := placeI_bd width 2 (by omega)
  have HPL := Lib.hid (place_eq width 2 (by omega) (by omega) w4)
  generalize placeI width 2 = pI at *
  have hw7 : IntKind.i64.wrap (7 * pI) = 7 * pI := by rw [IntKind.wrap_i64]; omega
  have hw32 : IntKind.i64.wrap (32 + 7 * pI) = 32 + 7 * pI := by rw [IntKind.wrap_i64]; omega
  clear hpb
  go_wp2_with fail
  go_fit HPL.out
  rintro e w5 ⟨rfl, rfl⟩
  clear HPL
  have HSL := Lib.hid (pSelect_any (32 + 7 * pI) ms ss _ c1 w4 (HM.out.next HB4.out) (by omega) (made_data HA.out))
  go_wp2_with fail
  clear hw7 hw32
  generalize 32 + 7 * pI = wd at *
  go_fit HSL.out
  rintro e w5 ⟨v, ss', rfl, hc5⟩
  obtain ⟨A5, c5, rfl, hcap5, hmx5, hm5⟩ := hc5.row2
  have HM5 := Lib.hid hm5
  have HB5 := Lib.hid (bel_next8 HB4.out hc5.bel)
  clear hc5 hm5 HSL
  go_wp2_with fail
  go_loopw [17, 18] (fun v17 v18 wr => ∃ j : Nat, v18 = .int .i64 j ∧ v17 = .int .i64 (((ms.take j).filter (selB wd)).length : Nat) ∧ j ≤ ms.length ∧ Hid (Below w5.heap.size w5 wr)) (fun _ v18 _ => ms.length - (intOf v18).toNat)
  case atStart => exact ⟨0, rfl, rfl, Nat.zero_le _, Lib.hid (Below.refl _ _)⟩
  case round =>
    obtain ⟨j, rfl, rfl, hj0, HW⟩ := hrel
    rcases Nat.lt_or_ge j ms.length with hj | hge
    · have hjs : j < ss.length := by omega
      have HFS := Lib.hid (filter_snoc (p := selB wd) hj)
      obtain ⟨b', o', e, hb', _, _, z2, _, _⟩ := ((HM.out.next HB5.out).row.below (Nat.le_refl _) HW.out).mod5 hjs
      cases e
      rw [(HM.out.each j hjs hj).width] at z2
      have HSB : Hid ((ms[j].width = wd ∨ ms[j].width = 0 → selB wd ms[j] = true) ∧ (¬ ms[j].width = wd → ¬ ms[j].width = 0 → ¬ selB wd ms[j] = true)) := Lib.hid ⟨fun h => by simpa [selB] using h, fun h1 h2 => by simp [selB, h1, h2]⟩
      by_cases hq : ms[j].width = wd
      · have f1 : (ms[j].width != wd) = false := by simp [hq]
        have HFN := Lib.hid (show ((ms.take (j + 1)).filter (selB wd)).length = ((ms.take j).filter (selB wd)).length + 1 by rw [HFS.out, if_pos (HSB.out.1 (.inl hq))]; simp)
        obtain ⟨hnl, hnm⟩ := sel_here hj (HSB.out.1 (.inl hq))
        have HNM := Lib.hid hnm
        obtain ⟨b5, o5, rfl, hb5⟩ := HM5.out.at_ (by omega)
        generalize hnn : ((ms.take j).filter (selB wd)).length = nn at *
        have g5 : decide (((ms.filter (selB wd)).length : Int) ≤ (nn : Int)) = false := by simp; omega
        have g6 : decide ((ms.filter (selB wd)).length ≤ nn) = false := by simp; omega
        have hl5 := HM5.out.len
        have hls5 : (ms.filter (selB wd)).length ≤ 5 := by have := List.length_filter_le (selB wd) ms; omega
        have wj : IntKind.i64.wrap ((j : Int) + 1) = (j : Int) + 1 := by rw [IntKind.wrap_i64]; omega
        have wn : IntKind.i64.wrap ((nn : Int) + 1) = (nn : Int) + 1 := by rw [IntKind.wrap_i64]; omega
        have sj := fun len W => mods_one b1 o1 len c1 j (by omega) W
        have sj2 := fun len W => mods_one2 b1 o1 len c1 j (by omega) W
        have sn := fun len W => mods_one b5 o5 len c5 nn (by omega) W
        have sn2 := fun len W => mods_one2 b5 o5 len c5 nn (by omega) W
        have HSAME : Hid (Calls Tryd.prog 19 #[.slice (some ⟨b5, o5 + nn * 5, none⟩) 1 (c5 - nn), .slice (some ⟨b1, o1 + j * 5, none⟩) 1 (c1 - j)] wr.drew fun e w' => e = .returned (.bool true) ∧ Below wr.heap.size wr w') := Lib.hid (by
          have r1 := ((HM5.out.next HW.out).one hnl (by omega)).below (Nat.le_refl _) ((Below.refl wr.heap.size wr).drew)
          have r2 := (((HM.out.next HB5.out).next HW.out).one hj hjs).below (Nat.le_refl _) ((Below.refl wr.heap.size wr).drew)
          refine (rSame8_any [(ms.filter (selB wd))[nn]] [ms[j]] _ _ _ _ (c5 - nn) (c1 - j) wr.drew r1 r2 (by simp)).mono fun e w' h => ?_
          obtain ⟨⟨b, rfl, hb⟩, hb2⟩ := h
          obtain rfl : b = true := hb.2 (by rw [HNM.out])
          exact ⟨rfl, bel_next8 (Below.refl wr.heap.size wr).drew hb2⟩)
        clear hnm HNM hcap5 hmx5 hls5 hl5 HSB HFS
        go_upto_region 17 with fail
        refine wp_region_still_tail 15 (by kernel_rfl) (by kernel_rfl) ?_
        simp only [List.take_succ_cons, List.take_zero, List.drop_succ_cons, List.drop_zero]
        repeat still_step
        try refine wpStill_nil ?_
        change wpList _ _ _ _ _ wr.drew
        clear sj sj2 sn sn2
        go_wp2_with fail
        go_fit HSAME.out
        rintro e w6 ⟨rfl, hb6⟩
        have HW6 := Lib.hid (bel_next8 HW.out hb6)
        clear hb6 HSAME
        go_wp2
        go_roundw
        case rel => exact ⟨j + 1, by go_num, by rw [HFN.out]; go_num, by omega, HW6⟩
        case measure => simp [intOf]; omega
      by_cases hv : ms[j].width = 0
      · have f1 : (ms[j].width != wd) = true := by simp [hq]
        have f2 : (ms[j].width != 0) = false := by simp [hv]
        have HFN := Lib.hid (show ((ms.take (j + 1)).filter (selB wd)).length = ((ms.take j).filter (selB wd)).length + 1 by rw [HFS.out, if_pos (HSB.out.1 (.inr hv))]; simp)
        obtain ⟨hnl, hnm⟩ := sel_here hj (HSB.out.1 (.inr hv))
        have HNM := Lib.hid hnm
        obtain ⟨b5, o5, rfl, hb5⟩ := HM5.out.at_ (by omega)
        generalize hnn : ((ms.take j).filter (selB wd)).length = nn at *
        have g5 : decide (((ms.filter (selB wd)).length : Int) ≤ (nn : Int)) = false := by simp; omega
        have g6 : decide ((ms.filter (selB wd)).length ≤ nn) = false := by simp; omega
        have hl5 := HM5.out.len
        have hls5 : (ms.filter (selB wd)).length ≤ 5 := by have := List.length_filter_le (selB wd) ms; omega
        have wj : IntKind.i64.wrap ((j : Int) + 1) = (j : Int) + 1 := by rw [IntKind.wrap_i64]; omega
        have wn : IntKind.i64.wrap ((nn : Int) + 1) = (nn : Int) + 1 := by rw [IntKind.wrap_i64]; omega
        have sj := fun len W => mods_one b1 o1 len c1 j (by omega) W
        have sj2 := fun len W => mods_one2 b1 o1 len c1 j (by omega) W
        have sn := fun len W => mods_one b5 o5 len c5 nn (by omega) W
        have sn2 := fun len W => mods_one2 b5 o5 len c5 nn (by omega) W
        have HSAME : Hid (Calls Tryd.prog 19 #[.slice (some ⟨b5, o5 + nn * 5, none⟩) 1 (c5 - nn), .slice (some ⟨b1, o1 + j * 5, none⟩) 1 (c1 - j)] wr.drew fun e w' => e = .returned (.bool true) ∧ Below wr.heap.size wr w') := Lib.hid (by
          have r1 := ((HM5.out.next HW.out).one hnl (by omega)).below (Nat.le_refl _) ((Below.refl wr.heap.size wr).drew)
          have r2 := (((HM.out.next HB5.out).next HW.out).one hj hjs).below (Nat.le_refl _) ((Below.refl wr.heap.size wr).drew)
          refine (rSame8_any [(ms.filter (selB wd))[nn]] [ms[j]] _ _ _ _ (c5 - nn) (c1 - j) wr.drew r1 r2 (by simp)).mono fun e w' h => ?_
          obtain ⟨⟨b, rfl, hb⟩, hb2⟩ := h
          obtain rfl : b = true := hb.2 (by rw [HNM.out])
          exact ⟨rfl, bel_next8 (Below.refl wr.heap.size wr).drew hb2⟩)
        clear hnm HNM hcap5 hmx5 hls5 hl5 HSB HFS
        go_upto_region 17 with fail
        refine wp_region_still_tail 15 (by kernel_rfl) (by kernel_rfl) ?_
        simp only [List.take_succ_cons, List.take_zero, List.drop_succ_cons, List.drop_zero]
        repeat still_step
        try refine wpStill_nil ?_
        change wpList _ _ _ _ _ wr.drew
        clear sj sj2 sn sn2
        go_wp2_with fail
        go_fit HSAME.out
        rintro e w6 ⟨rfl, hb6⟩
        have HW6 := Lib.hid (bel_next8 HW.out hb6)
        clear hb6 HSAME
        go_wp2
        go_roundw
        case rel => exact ⟨j + 1, by go_num, by rw [HFN.out]; go_num, by omega, HW6⟩
        case measure => simp [intOf]; omega
      have f1 : (ms[j].width != wd) = true := by simp [hq]
      have f2 : (ms[j].width != 0) = true := by simp [hv]
      have HFN := Lib.hid (show ((ms.take (j + 1)).filter (selB wd)).length = ((ms.take j).filter (selB wd)).length by rw [HFS.out, if_neg (HSB.out.2 hq hv)]; simp)
      clear HSB HFS hq hv
      go_wp2
      go_roundw
      case rel => exact ⟨j + 1, by go_num, by rw [HFN.out], by omega, HW⟩
      case measure => simp [intOf]; omega
    · have HAWR := Lib.hid (HAW.out wr)
      have HBR := Lib.hid (bel_next8 (bel_next8 HB1.out HB5.out) HW.out)
      rw [List.take_of_length_le hge]
      go_wp2_with fail
      go_fit HAWR.out
      rintro e w7 ⟨rfl, hb7⟩
      have HN := Lib.hid (bel_next8 HBR.out hb7)
      clear hb7
      go_wp2
      go_ret
      exact ⟨rfl, HN.out⟩
end Go.Proofs.YtcenonnccodfoaaDoor


namespace Go.Proofs.YtcenonnccodfoaaDoor

open Go.ChangeShapes Go.WideShapes Go.RowKit

theorem rowByt {w : World} {a : Option Addr} {len cap : Nat} {zs : List Int}
    (h : (a = none ∧ len = 0 ∧ cap = 0 ∧ zs = []) ∨
      ∃ x, a = some x ∧ len ≤ cap ∧ cap ≤ maxLen ∧ zs.length = cap ∧ (∀ i, i < zs.length → w.cell? (x.add i) = some (.int .u8 (zs.getD i 0))) ∧ ∀ n ∈ zs, (Lit.int .u8 n).wf = true) :
    ∃ l, Byt w w.heap.size a len l ∧ len ≤ cap ∧ cap ≤ maxLen := by
  rcases h with ⟨rfl, rfl, rfl, rfl⟩ | ⟨x, rfl, hl, hm, hz, hcell, hwz⟩
  · exact ⟨[], Byt.nil, Nat.le_refl _, Nat.zero_le _⟩
  · refine ⟨(zs.take len).map fun z => UInt8.ofNat z.toNat, ⟨by rw [List.length_map, List.length_take]; omega, fun h0 => ?_⟩, hl, hm⟩
    obtain ⟨b, off, spot⟩ := x
    have hc0 := hcell 0 (by omega)
    have hspot : spot = none := by simpa [Addr.add] using World.cell?_spot hc0
    subst hspot
    have hlt := World.block_lt_of_cell? w _ hc0
    refine ⟨b, off, rfl, by simpa [Addr.add] using hlt, fun j hj => ?_⟩
    have e : (⟨b, off, none⟩ : Addr).add j = ⟨b, off + j, none⟩ := by unfold Addr.add; split <;> simp_all
    rw [← e, hcell j (by omega)]
    have hjz : j < zs.length := by omega
    have hw := hwz _ (List.getElem_mem hjz)
    have hb := bounds_u8 hw
    unfold byV bt
    have e2 : ((zs.take len).map fun z => UInt8.ofNat z.toNat).getD j 0 = UInt8.ofNat zs[j].toNat := by
      rw [List.getD_eq_getElem?_getD, List.getElem?_map, List.getElem?_take, if_pos hj, List.getElem?_eq_getElem hjz]; rfl
    rw [e2, List.getD_eq_getElem?_getD, List.getElem?_eq_getElem hjz]
    have e3 : (UInt8.ofNat zs[j].toNat).toNat = zs[j].toNat := by
      rw [UInt8.toNat_ofNat']; omega
    rw [e3]
    simp only [Option.getD_some]
    congr 2
    omega
def IsBytes (w : World) (a : Option Addr) (len cap : Nat) (l : List UInt8) : Prop := Byt w w.heap.size a len l ∧ len ≤ cap ∧ cap ≤ maxLen
section

variable {H : Type} {enc : TypeId × Value → H} {W : World} {base : Nat} {held : Bool}

theorem IsBytes_open {a : Option Addr} {len cap : Nat} {d : DataW H} {p : List MemPlace} (h : DataW.Trod enc Tryd.prog W base (fun _ => true) held 23 (.slice a len cap) d p) (_ : ∀ n ∈ d.weights Tryd.prog 23, n ≤ reachBytes) : ∃ l, IsBytes W a len cap l := by
  obtain ⟨fuel, hf⟩ := h
  rcases open_ints Tryd.underlying23 Tryd.underlying5 (by kernel_rfl) hf with ⟨hcs, _⟩ | ⟨x, l, c, zs, hcs, _, hl, hm, hz, _, hcell, hwz⟩
  · simp [Value.cells] at hcs
    obtain ⟨rfl, rfl, rfl⟩ := hcs
    exact rowByt (zs := []) (.inl ⟨rfl, rfl, rfl, rfl⟩)
  · simp [Value.cells] at hcs
    obtain ⟨rfl, rfl, rfl⟩ := hcs
    exact rowByt (zs := zs) (.inr ⟨_, rfl, hl, hm, by simpa using hz, hcell, hwz⟩)
end

end Go.Proofs.YtcenonnccodfoaaDoor
