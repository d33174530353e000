/-
  The reference's Covered: the number of bytes that are covered.
  Conditions: at most 100000 ranges.
-/
import Derived.Test.YtlndafkmihdbmaaDoorRgh
namespace Go.Proofs.YtlndafkmihdbmaaDoor
open Go.RowKit

theorem GRow.rngAt {w : World} {B b o : Nat} {xs : List GR} (h : GRow GR.cells 2 w B (some ⟨b, o, none⟩) xs) {k : Nat} (hk : k < xs.length) : w.cell? ⟨b, o + k * 2, none⟩ = some (.int .i64 xs[k].base) ∧ w.cell? ⟨b, o + k * 2 + 1, none⟩ = some (.int .i64 xs[k].bits) := by
  obtain ⟨b', o', e, _, hc⟩ := h (by omega)
  cases e
  exact ⟨hc k hk 0 _ rfl, hc k hk 1 _ rfl⟩
theorem GRow.rngIs {w : World} {B b o : Nat} {xs : List GR} (h : GRow GR.cells 2 w B (some ⟨b, o, none⟩) xs) {k : Nat} (hk : k < xs.length) {xb xn : Int} (hx : (⟨xb, xn⟩ : GR) = xs[k]) : w.cell? ⟨b, o + k * 2, none⟩ = some (.int .i64 xb) ∧ w.cell? ⟨b, o + k * 2 + 1, none⟩ = some (.int .i64 xn) := by
  have := h.rngAt hk
  rw [← hx] at this
  exact this
theorem covN_bound (l : List GR) : ∀ i : Nat, 0 ≤ covN l i ∧ covN l i ≤ i * 1099511627776
  | 0 => ⟨Int.le_refl _, Int.le_refl _⟩
  | i + 1 => by
    obtain ⟨h1, h2⟩ := covN_bound l i
    have := sz_pos (gAt l i)
    rw [covN]
    by_cases hm : maxAt l i = true
    · rw [if_pos hm]
      have hv := (max_iff.1 hm).1
      have := hv.top
      have := hv.b0
      omega
    · rw [if_neg hm]; omega
theorem beat_step (l : List GR) (i k : Nat) : (List.range (k + 1)).any (beatB l i) = ((List.range k).any (beatB l i) || beatB l i k) := by
  rw [List.range_succ, List.any_append]; simp
set_option maxRecDepth 20000 in
set_option maxHeartbeats 2000000 in
theorem rCov_any (l : List GR) (A : Option Addr) (c : Nat) (w : World) (h : GRow GR.cells 2 w w.heap.size A l) (hl : l.length ≤ 100000) :
    Calls Tryd.prog 33 #[.slice A l.length c] w fun e w' => e = .returned (.int .i64 (covL l)) ∧ Below w.heap.size w w' := by
  have HV := Lib.hid fun r W => rValid_any r W
  have HC := Lib.hid fun a b W => rCon_any a b W
  have HR := Lib.hid h
  have HLL := Lib.hid hl
  have HQ : Hid (covL l = covN l l.length) := Lib.hid rfl
  generalize covL l = q at *
  clear h
  go_enter Tryd.func33, Tryd.ntmps33
  go_wp2
  go_loopw [3, 4] (fun v3 v4 wr => ∃ i : Nat, v4 = .int .i64 i ∧ i ≤ l.length ∧ v3 = .int .i64 (covN l i) ∧ Hid (Below w.heap.size w wr)) (fun _ v4 _ => l.length - (intOf v4).toNat)
  case atStart => exact ⟨0, rfl, Nat.zero_le _, rfl, Lib.hid (Below.refl _ _)⟩
  case round =>
    obtain ⟨i, rfl, hi, rfl, HB⟩ := hrel
    obtain ⟨cb0, cb1⟩ := covN_bound l i
    rcases Nat.lt_or_ge i l.length with hlt | hge
    · obtain ⟨b1, o1, rfl, hb1, x0, x1⟩ := (HR.out.next HB.out).rng hlt
      have HCN : Hid (covN l (i + 1) = covN l i + (if maxAt l i = true then (gAt l i).sz else 0)) := Lib.hid rfl
      have HMX : Hid (maxAt l i = (vR (gAt l i) && !(List.range l.length).any (beatB l i))) := Lib.hid rfl
      have HGI : Hid (gAt l i = l[i]) := Lib.hid (gAt_get hlt)
      have HBS := Lib.hid fun k => beat_step l i k
      have HBK := Lib.hid fun (k : Nat) (hk : k < l.length) => (show beatB l i k = (conR l[k] (gAt l i) && (decide ((gAt l i).bits < l[k].bits) || decide (k < i))) by unfold beatB; rw [gAt_get hk])
      have HBA := Lib.hid fun (k : Nat) (hk : k ≤ l.length) (hb : (List.range k).any (beatB l i) = true) => (show (List.range l.length).any (beatB l i) = true by
        rw [List.any_eq_true] at hb ⊢
        obtain ⟨x, hx, hbx⟩ := hb
        rw [List.mem_range] at hx
        exact ⟨x, List.mem_range.2 (by omega), hbx⟩)
      rw [← HGI.out] at x0 x1
      generalize maxAt l i = mx at *
      generalize hgi : gAt l i = x at *
      obtain ⟨xb, xn⟩ := x
      simp only at x0 x1
      have HVX := Lib.hid (HV.out ⟨xb, xn⟩ wr)
      simp only [GR.val] at HVX HC
      go_wp2_with fail
      go_fit HVX.out
      rintro e w2 ⟨rfl, hb2⟩
      have HB2 := Lib.hid (beln HB.out hb2)
      have HR2 := Lib.hid ((HR.out.next HB.out).next hb2)
      clear hb2 HVX x0 x1 hb1
      go_wp2
      go_loopw [5, 6] (fun v5 v6 wq => ∃ k : Nat, v6 = .int .i64 k ∧ k ≤ l.length ∧ v5 = .bool (vR ⟨xb, xn⟩ && !(List.range k).any (beatB l i)) ∧ Hid (Below w2.heap.size w2 wq)) (fun _ v6 _ => l.length - (intOf v6).toNat)
      case atStart => exact ⟨0, rfl, Nat.zero_le _, by simp, Lib.hid (Below.refl _ _)⟩
      case round =>
        obtain ⟨k, rfl, hk, rfl, HBQ⟩ := hrel
        have HBN := Lib.hid (beln HB2.out HBQ.out)
        have hll := HLL.out
        generalize hb : (vR ⟨xb, xn⟩ && !(List.range k).any (beatB l i)) = b at *
        cases b
        · have HM : Hid (mx = false) := Lib.hid (by
            rw [HMX.out]
            cases hv : vR ⟨xb, xn⟩
            · rfl
            · rw [hv] at hb
              have h9 := HBA.out k hk (by simpa using hb)
              rw [h9]; rfl)
          rw [HM.out] at HCN
          rw [if_neg (by simp)] at HCN
          clear hb
          go_wp2
          all_goals
            go_roundw
            case rel => exact ⟨i + 1, by go_num, by omega, by rw [HCN.out, Int.add_zero], HBN⟩
            case measure => simp [intOf]; omega
        · rcases Nat.lt_or_ge k l.length with hlk | hgk
          · have hrw := (HR2.out.next HBQ.out).next (Below.refl _ wr).drew
            have HBQD := Lib.hid HBQ.out.drew
            have HBK2 := HBK.out k hlk
            have HBS2 := HBS.out k
            obtain ⟨⟨yb, yn⟩, hy⟩ : ∃ y : GR, y = l[k] := ⟨_, rfl⟩
            have HGK := Lib.hid hy
            have HCK := Lib.hid (HC.out ⟨yb, yn⟩ ⟨xb, xn⟩)
            simp only at HCK
            rw [← hy] at HBK2
            simp only at HBK2
            have HNX : Hid (beatB l i k = (conR ⟨yb, yn⟩ ⟨xb, xn⟩ && (decide (xn < yn) || decide (k < i)))) := Lib.hid HBK2
            have HNS : Hid (∀ z, beatB l i k = z → (vR ⟨xb, xn⟩ && !(List.range (k + 1)).any (beatB l i)) = !z) := Lib.hid (fun z hz => by
              rw [HBS2, hz]
              rw [Bool.and_eq_true, Bool.not_eq_true'] at hb
              rw [hb.1, hb.2]; simp)
            clear HBK2 HBS2 hy hb
            generalize conR ⟨yb, yn⟩ ⟨xb, xn⟩ = cv at *
            generalize beatB l i k = bt at *
            rcases cv with _ | _
            rotate_left
            rcases hd1 : decide (xn < yn) with _ | _
            rcases hd2 : decide (k < i) with _ | _
            all_goals
              go_upto_region 9 with fail
              refine wp_region_grow [(0, true), (1, true), (2, true), (3, true), (4, true), (5, true), (6, true), (7, true), (8, false), (9, true), (10, true), (11, true), (12, true), (13, true), (14, true), (15, true), (16, true), (17, true), (18, true), (19, true), (20, true), (21, true), (22, true), (23, true), (24, true), (25, true), (26, true)] (by kernel_rfl) (by kernel_rfl) (by kernel_rfl) (by kernel_rfl) (by intro c a d v w h; cases d <;> exact h) ?_
              repeat (first
                | (refine wpGrow_float (v := ?_) (by simp only [List.getElem?_toArray, List.getElem?_cons_succ, List.getElem?_cons_zero]; rfl) (by rfl) ?_ ?_
                   rotate_left
                   · (intro W hW; obtain ⟨u0, u1⟩ := (GRow.next (by assumption) hW).rngIs hlk HGK.out; obtain ⟨u2, u3⟩ := (GRow.next (by assumption) hW).rngIs hlt HGI.out; go_simp; try with_reducible rfl)
                   simp only [Act.put, List.setIfInBounds_toArray, List.set_cons_zero, List.set_cons_succ])
                | (refine wpGrow_skip (by simp only [List.getElem?_toArray, List.getElem?_cons_succ, List.getElem?_cons_zero]; rfl) (by rfl) ?_
                   simp only [Act.put, List.setIfInBounds_toArray, List.set_cons_zero, List.set_cons_succ])
                | (refine wpGrow_pass (by simp only [List.getElem?_toArray, List.getElem?_cons_succ, List.getElem?_cons_zero]; rfl) (by rfl) ?_
                   simp only [Act.put, List.setIfInBounds_toArray, List.set_cons_zero, List.set_cons_succ])
                | (refine wpGrow_call (by simp only [List.getElem?_toArray, List.getElem?_cons_succ, List.getElem?_cons_zero]; rfl) (by rfl) fun K hK => ?_
                   go_simp
                   go_fit (HCK.out _)
                   rintro e w1 ⟨rfl, hbn⟩
                   have hrw2 := GRow.next hrw hbn
                   go_simp
                   refine hK _ _ hbn ?_
                   clear hK K))
              try refine wpGrow_nil ?_
              have HBE := Lib.hid (beln HBQD.out hbn)
              have HNB := Lib.hid (HNS.out _ HNX.out)
              clear hrw hbn HCK HNS HNX HGK hrw2
              go_wp2
              go_roundw
              case rel =>
                refine ⟨k + 1, by go_num, by omega, ?_, HBE⟩
                rw [HNB.out]
                first | simp [hd1, hd2] | simp [hd1] | simp
              case measure => simp [intOf]; omega
          · obtain rfl : k = l.length := by omega
            have HM : Hid (mx = true) := Lib.hid (by rw [HMX.out, ← hb])
            rw [HM.out, if_pos rfl] at HCN
            have hv : VR ⟨xb, xn⟩ := by
              rw [Bool.and_eq_true] at hb
              exact vR_iff.1 hb.1
            have h1 : 6 ≤ xn := hv.lo
            have h2 : xn ≤ 40 := hv.hi
            have h3 := hv.b0
            have h4 := hv.top
            have hsz := sz_pos ⟨xb, xn⟩
            have hsh : wrap64 (2 ^ xn.toNat) = GR.sz ⟨xb, xn⟩ := shl_one64 (by omega) (by omega)
            generalize GR.sz ⟨xb, xn⟩ = z at *
            simp only at h3 h4
            have hwn : wrap64 (covN l i + z) = covN l i + z := IntWalk.wrap64_in _ (by omega)
            obtain ⟨y0, y1⟩ := (HR2.out.next HBQ.out).rngIs hlt HGI.out
            clear hb hv h3 h4
            generalize hcn : covN l i = cn at *
            go_wp2
            go_roundw
            case rel => exact ⟨i + 1, by go_num, by omega, by rw [HCN.out, hwn], HBN⟩
            case measure => simp [intOf]; omega
    · obtain rfl : i = l.length := by omega
      go_wp2
      go_ret
      exact ⟨congrArg (fun x => Ending.returned (Value.int .i64 x)) HQ.out.symm, HB.out⟩
end Go.Proofs.YtlndafkmihdbmaaDoor
