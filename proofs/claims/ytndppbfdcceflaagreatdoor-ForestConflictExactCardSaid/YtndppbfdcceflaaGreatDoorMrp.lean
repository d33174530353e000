/-
  The program's functions on lists of ranges.
  Conditions: at most 100000 ranges in a list; the table of math/bits lies as the program's text lays it.
-/
import Derived.Test.YtndppbfdcceflaaGreatDoorMrf
import Derived.Test.YtndppbfdcceflaaGreatDoorRgi
namespace Go.Proofs.YtndppbfdcceflaaGreatDoor

open Go.RowKit

theorem sumSz_app : ∀ (a b : List GR), sumSz (a ++ b) = sumSz a + sumSz b
  | [], b => by simp [sumSz]
  | r :: a, b => by rw [List.cons_append, sumSz, sumSz, sumSz_app a b]; omega
theorem cnt_le (P : Int → Bool) (a : Int) : ∀ n : Nat, cnt P a n ≤ n
  | 0 => Int.le_refl _
  | n + 1 => by rw [cnt]; have := cnt_le P a n; split <;> omega
theorem OutS.sum {us os : List GR} (h : OutS us os) (j : Nat) : 0 ≤ sumSz (os.take j) ∧ sumSz (os.take j) ≤ 1099511627776 := by
  have e : sumSz (os.take j) = cnt (inL (os.take j)) 0 TOPN := sum_cnt (fun f hf => by
    have hv := (h.mem f (List.mem_of_mem_take hf)).2
    have := hv.b0
    have := hv.top
    rw [topn]
    exact ⟨hv, by omega, by omega⟩) (h.asc.sublist (List.take_sublist _ _))
  rw [e]
  exact ⟨cnt_nonneg _ _ _, by have := cnt_le (inL (os.take j)) 0 TOPN; rw [topn] at this; exact this⟩
theorem sumSz_take {os : List GR} {j : Nat} (h : j < os.length) : sumSz (os.take (j + 1)) = sumSz (os.take j) + os[j].sz := by
  rw [List.take_succ_eq_append_getElem h, sumSz_app]; simp [sumSz]
set_option maxRecDepth 20000 in
theorem pFree_bad (r : GR) (A : Option Addr) (n c : Nat) (w : World) (h : ¬ VR r) : Calls Tryz.prog 84 #[r.val, .slice A n c] w (FreeEnd [] w) := by
  have HV := Lib.hid fun W => pValid_any r W
  rw [vR_not.2 h] at HV
  obtain ⟨b, m⟩ := r
  simp only [GR.val] at *
  clear h
  go_enter Tryz.func84, Tryz.ntmps84
  go_wp2_with fail
  go_fit (HV.out _)
  rintro e w1 ⟨rfl, hb1⟩
  have HB1 := Lib.hid (bela (Below.refl _ w) hb1)
  clear hb1 HV
  go_wp2
  go_ret
  exact ⟨_, rfl, OwnG.nil _ _, HB1.out⟩
set_option maxRecDepth 20000 in
set_option maxHeartbeats 1000000 in
theorem pFree_good (r : GR) (us : List GR) (A : Option Addr) (c : Nat) (w : World) (h : GRow GR.cells 2 w w.heap.size A us) (hl : us.length ≤ 100000) (hT : T10 w) (hr : VR r) :
    Calls Tryz.prog 84 #[r.val, .slice A us.length c] w (FreeEnd (freeL r us) w) := by
  have HV := Lib.hid fun W => pValid_any r W
  have HEN := Lib.hid fun W => pEnd_any r W
  have HOV := Lib.hid fun u W => pOv_any r u W
  have HU := Lib.hid (h.next (belt (Below.refl _ w) (.cells #[.int .i64 r.base, .int .i64 r.bits] 58)))
  have HX := Lib.hid (RB.new w r)
  have HT := Lib.hid hT
  have HG : Hid (∀ os, OutS us os → gaps r r.base os = freeL r us) := Lib.hid fun os ho => gaps_free hr ho
  have HGS : Hid (∀ os, GapI r os 0 r.base []) := Lib.hid fun os => GapI.start hr os
  have HRT : Hid (0 ≤ r.base + r.sz ∧ r.base + r.sz ≤ 1099511627776 ∧ (r.base + r.sz) % 64 = 0) := Lib.hid ⟨by have := hr.b0; have := sz_pos r; omega, hr.top, hr.e64⟩
  rw [vR_iff.2 hr] at HV
  rw [hr.endR] at HEN
  have HPO := Lib.hid fun A c W h => pOut_any us A c W h hl
  generalize freeL r us = q at *
  obtain ⟨e, he⟩ : ∃ e, e = r.base + r.sz := ⟨_, rfl⟩
  have HEE := Lib.hid he
  rw [← he] at HEN HRT
  obtain ⟨rb, rn⟩ := r
  simp only [GR.val] at *
  clear h hT hr he
  go_enter Tryz.func84, Tryz.ntmps84
  go_wp2_with fail
  go_fit (HV.out _)
  rintro e1 w1 ⟨rfl, hb1⟩
  have HB1 := Lib.hid (bela (Below.refl _ w) hb1)
  have HX1 := Lib.hid (HX.out.next hb1)
  have HU1 := Lib.hid (HU.out.next hb1)
  obtain ⟨y0, y1, _, _⟩ := HX1.out.facts
  clear hb1 HV HX HU
  go_wp2_with fail
  go_fit (HPO.out A c _ HU1.out)
  rintro e1 w2 ⟨v2, os, rfl, hos, hol, ho2, hb2⟩
  obtain ⟨A2, c2, rfl, hc2, hm2, hr2⟩ := ho2.row GR.len
  have HR := Lib.hid hr2
  have HS := Lib.hid hos
  have HOL := Lib.hid hol
  have HB2 := Lib.hid (beln HB1.out hb2)
  have HX2 := Lib.hid (HX1.out.next hb2)
  have HT2 := Lib.hid (T10.next HT.out HB2.out)
  have HQ := Lib.hid (HG.out _ hos)
  have HG0 := Lib.hid (HGS.out os)
  clear y0 y1 ho2 hb2 hc2 hm2 hr2 hos hol HG HGS HX1 HU1 HPO HT HB1
  go_wp2
  go_loopw [5, 6, 17] (fun v5 v6 v17 wr => ∃ (j : Nat) (n : Int) (l : List GR), v6 = .int .i64 n ∧ v17 = .int .i64 j ∧ j ≤ os.length ∧ Hid (GapI ⟨rb, rn⟩ os j n l) ∧ Hid (OwnR wr w2.heap.size v5 l) ∧ Hid (Below w2.heap.size w2 wr)) (fun _ _ v17 _ => os.length - (intOf v17).toNat)
  case atStart => exact ⟨0, rb, [], rfl, rfl, Nat.zero_le _, HG0, Lib.hid (OwnG.nil _ _), Lib.hid (Below.refl _ _)⟩
  case round =>
    obtain ⟨j, n, l, rfl, rfl, hj, HI, HO, HB⟩ := hrel
    obtain ⟨Al, cl, rfl, hcl, hml, hrl⟩ := HO.out.row GR.len
    clear hcl hml hrl
    generalize wr = wB at *
    have HXB := Lib.hid (HX2.out.next HB.out)
    have hol := HOL.out
    rcases Nat.lt_or_ge j os.length with hlt | hge
    · obtain ⟨b1, o1, rfl, hb1, x0, x1⟩ := (HR.out.next HB.out).rng hlt
      have HVX := Lib.hid (HS.out.mem _ (List.getElem_mem hlt)).2
      have HOJ := Lib.hid (HOV.out os[j] (wB.alloc (.cells #[.int .i64 os[j].base, .int .i64 os[j].bits] 58)))
      have HEE := Lib.hid HVX.out.endR
      have HEJ := Lib.hid fun W => pEnd_any os[j] W
      rw [HEE.out] at HEJ
      have HBX := Lib.hid (RB.new wB os[j])
      have HXC := Lib.hid (HXB.out.next (belt (Below.refl _ wB) (.cells #[.int .i64 os[j].base, .int .i64 os[j].bits] 58)))
      have HOC := Lib.hid (HO.out.alloc (.cells #[.int .i64 os[j].base, .int .i64 os[j].bits] 58))
      have HBC := Lib.hid (belt HB.out (.cells #[.int .i64 os[j].base, .int .i64 os[j].bits] 58))
      have HNE : Hid ((Value.slice Al l.length cl).ownBlock ≠ some wB.heap.size) := Lib.hid fun e => by have := (HO.out.lt _ e).2; omega
      rcases hov : ovR ⟨rb, rn⟩ os[j] with _ | _
      · have HI2 := Lib.hid (HI.out.skip hlt hov)
        rw [hov] at HOJ
        clear hov HI HO HB HVX HEE HEJ
        generalize os[j] = x at *
        obtain ⟨xb, xn⟩ := x
        simp only at *
        obtain ⟨r0, r1, _, _⟩ := HXC.out.facts
        go_wp2_with fail
        go_fit HOJ.out
        rintro e1 w3 ⟨rfl, hb3⟩
        have HO3 := Lib.hid (HOC.out.next hb3)
        have HB3 := Lib.hid (beln HBC.out hb3)
        clear hb3 r0 r1 x0 x1 HOJ
        go_wp2
        go_roundw
        case rel => exact ⟨j + 1, _, _, rfl, by go_num, by omega, HI2, HO3, HB3⟩
        case measure => simp [intOf]; omega
      · have HI2 := Lib.hid (HI.out.take (fun o ho => (HS.out.mem o ho).2) HS.out.asc hlt hov)
        rw [hov] at HOJ
        have HPB := Lib.hid fun W hO hB => pBlocks_any l Al cl n os[j].base w2 W hO hB HT2.out HI.out.n0 HI.out.top HVX.out.b0 (by have := HVX.out.top; have := sz_pos os[j]; omega) HI.out.al HVX.out.b64 (by have := HI.out.len; have := HI.out.top; have := HI.out.n0; have := HVX.out.top; have := sz_pos os[j]; omega)
        clear hov HI HO HB HVX HEE
        generalize os[j].sz = z at *
        generalize hx : os[j] = x at *
        obtain ⟨xb, xn⟩ := x
        clear hx
        simp only [GR.val] at *
        obtain ⟨r0, r1, _, _⟩ := HXC.out.facts
        go_wp2_with fail
        go_fit HOJ.out
        rintro e1 w3 ⟨rfl, hb3⟩
        have HO3 := Lib.hid (HOC.out.next hb3)
        have HB3 := Lib.hid (beln HBC.out hb3)
        have HBX3 := Lib.hid (HBX.out.next hb3)
        have hPB := Lib.hid (HPB.out w3 HO3.out HB3.out)
        clear hb3 r0 r1 x0 x1 HOJ HPB
        obtain ⟨t0, t1, _, _⟩ := HBX3.out.facts
        have htl := HBX3.out.lt
        generalize (Value.slice Al l.length cl).ownBlock = ob at *
        generalize l ++ blocks n xb = l2 at *
        generalize l.length = nl at *
        go_wp2_with fail
        go_fit hPB.out
        rintro e1 w4 ⟨v4, rfl, ho4, hb4, hk4, _⟩
        have HO4 := Lib.hid ho4
        have HB4 := Lib.hid hb4
        have HBX4 := Lib.hid (HBX3.out.keep hk4 HNE.out)
        clear ho4 hb4 hk4 t0 t1 HBX3 hPB htl
        obtain ⟨t0, t1, _, _⟩ := HBX4.out.facts
        have htl := HBX4.out.lt
        go_wp2_with fail
        go_fit (HEJ.out _)
        rintro e1 w5 ⟨rfl, hb5⟩
        have HO5 := Lib.hid (HO4.out.next hb5)
        have HB5 := Lib.hid (beln HB4.out hb5)
        clear hb5 t0 t1 htl HBX4
        go_wp2
        go_roundw
        case rel => exact ⟨j + 1, _, _, rfl, by go_num, by omega, HI2, HO5, HB5⟩
        case measure => simp [intOf]; omega
    · obtain rfl : j = os.length := by omega
      have HD : Hid (l ++ blocks n e = q) := Lib.hid (by rw [HEE.out, HI.out.done, HQ.out])
      have HPB := Lib.hid fun W hO hB => pBlocks_any l Al cl n e w2 W hO hB HT2.out HI.out.n0 HI.out.top HRT.out.1 HRT.out.2.1 HI.out.al HRT.out.2.2 (by have := HI.out.len; have := HI.out.top; have := HI.out.n0; have := HRT.out; omega)
      rw [HD.out] at HPB
      obtain ⟨r0, r1, _, _⟩ := HXB.out.facts
      clear hge hj HI HD HQ
      go_wp2_with fail
      go_fit (HEN.out _)
      rintro e1 w3 ⟨rfl, hb3⟩
      have hPB := Lib.hid (HPB.out w3 (HO.out.next hb3) (beln HB.out hb3))
      clear hb3 r0 r1 HPB HO HB
      go_wp2_with fail
      go_fit hPB.out
      rintro e1 w4 ⟨v4, rfl, ho4, hb4, _, _⟩
      have HE : Hid (FreeEnd q w (.returned v4) w4) := Lib.hid ⟨_, rfl, ho4.base HB2.out.size, beln HB2.out hb4⟩
      clear ho4 hb4 hPB
      go_wp2
      go_ret
      exact HE.out
theorem pFree_any (r : GR) (us : List GR) (A : Option Addr) (c : Nat) (w : World) (h : GRow GR.cells 2 w w.heap.size A us) (hl : us.length ≤ 100000) (hT : T10 w) :
    Calls Tryz.prog 84 #[r.val, .slice A us.length c] w (FreeEnd (freeL r us) w) := by
  by_cases hv : VR r
  · exact pFree_good r us A c w h hl hT hv
  · have := pFree_bad r A us.length c w hv
    unfold freeL
    rwa [if_neg (by rw [vR_not.2 hv]; simp)]
end Go.Proofs.YtndppbfdcceflaaGreatDoor
