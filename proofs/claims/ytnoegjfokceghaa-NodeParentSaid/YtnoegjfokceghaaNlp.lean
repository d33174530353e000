/-
  The law NodeParent returns true.
  Conditions: none.
-/
import Derived.Test.YtnoegjfokceghaaNmn
namespace Go.Proofs.Ytnoegjfokceghaa
open Go.RowKit

/-- What last holds when k Ids have been looked at. -/
def LastP (xs ls : List GId) (k : Nat) (l : Int) : Prop := (parO (xs.take k) ls = none ∧ l = -1) ∨ ∃ j, ∃ h : j < xs.length, l = (j : Int) ∧ parO (xs.take k) ls = some xs[j]
set_option maxRecDepth 20000 in
set_option maxHeartbeats 4000000 in
theorem lpar12 (i1 i2 i3 : Int) (a : Option Addr) (len cap : Nat) (zs : List Int) (b : Option Addr) (len2 cap2 : Nat) (zs2 : List Int) (w : World) (h1 : IRow w w.heap.size a len cap zs) (h2 : IRow w w.heap.size b len2 cap2 zs2) :
    Calls Try.prog 10 #[.int .i64 i1, .int .i64 i2, .int .i64 i3, .slice a len cap, .slice b len2 cap2] w fun e w' => e = .returned (.bool true) ∧ Below w.heap.size w w' := by
  have HAW := Lib.hid fun W => awake12 W
  have HPG := Lib.hid fun W => rPage W
  have HR1 := Lib.hid fun W (hW : Below w.heap.size w W) => (show IRow W W.heap.size a len cap zs from ⟨h1.count, h1.le, h1.max, fun hn => by
    obtain ⟨b, off, e, hb, hc⟩ := h1.row hn
    exact ⟨b, off, e, by have := hW.size; omega, fun i hi => (hW.cell (p := ⟨b, off + i, none⟩) hb).trans (hc i hi)⟩, h1.wf⟩)
  have HR2 := Lib.hid fun W (hW : Below w.heap.size w W) => (show IRow W W.heap.size b len2 cap2 zs2 from ⟨h2.count, h2.le, h2.max, fun hn => by
    obtain ⟨b, off, e, hb, hc⟩ := h2.row hn
    exact ⟨b, off, e, by have := hW.size; omega, fun i hi => (hW.cell (p := ⟨b, off + i, none⟩) hb).trans (hc i hi)⟩, h2.wf⟩)
  have HMN := Lib.hid fun W (hW : Below w.heap.size w W) (hl : len ≤ 40) => mNode_any i1 i2 i3 a len cap zs pgC W (HR1.out W hW) hl vC_pg
  have HMI := Lib.hid fun W (hW : Below w.heap.size w W) (hl : len2 ≤ 40) => mIds_any b len2 cap2 zs2 W (HR2.out W hW) hl
  unfold MNode at HMN
  unfold MIds at HMI
  clear h1 h2 HR1 HR2
  go_enter Try.func10, Try.ntmps10
  by_cases h40 : 40 < len
  · have f1 : decide ((40 : Int) < (len : Int)) = true := by simp; omega
    clear h40 HMN HMI
    go_wp2_with fail
    go_fit (HAW.out _)
    rintro e w1 ⟨rfl, hb1⟩
    have HB1 := Lib.hid hb1
    clear hb1
    go_wp2
    go_ret
    exact ⟨rfl, HB1.out⟩
  have f1 : decide ((40 : Int) < (len : Int)) = false := by simp; omega
  by_cases h41 : 40 < len2
  · have f2 : decide ((40 : Int) < (len2 : Int)) = true := by simp; omega
    clear h40 h41 HMN HMI
    go_wp2_with fail
    go_fit (HAW.out _)
    rintro e w1 ⟨rfl, hb1⟩
    have HB1 := Lib.hid hb1
    clear hb1
    go_wp2
    go_ret
    exact ⟨rfl, HB1.out⟩
  have f2 : decide ((40 : Int) < (len2 : Int)) = false := by simp; omega
  have HMN := Lib.hid fun W (hW : Below w.heap.size w W) => HMN.out W hW (by omega)
  have HMI := Lib.hid fun W (hW : Below w.heap.size w W) => HMI.out W hW (by omega)
  clear h40 h41
  go_wp2_with fail
  go_fit (HPG.out _)
  rintro e w1 ⟨rfl, hb1⟩
  have HB1 := Lib.hid hb1
  clear hb1
  simp only [GC.val, pgC] at *
  go_wp2_with fail
  go_fit (HMN.out _ HB1.out)
  rintro e w2 ⟨x, A, cc, rfl, hcc, hxc, hvx, ho2, hb2⟩
  have hx8 := (vN_facts hvx).2.2.1
  obtain ⟨⟨x0, x1, x2⟩, xs, ⟨p0, p1, p2, p3, p4, p5, p6⟩⟩ := x
  simp only [GN.val] at hcc hxc hvx ho2 hx8 ⊢
  have HRX := Lib.hid (OwnG.rowAt GId.len ho2).2
  have HB2 := Lib.hid (beln HB1.out hb2)
  have HN2 := Lib.hid (NB.new w2 ⟨x0, x1, x2⟩ A xs.length cc ⟨p0, p1, p2, p3, p4, p5, p6⟩)
  clear ho2 hb2 hvx hxc HMN HB1
  go_wp2_with fail
  go_fit (HMI.out _ (belt HB2.out _))
  rintro e w3 ⟨ls, v3, rfl, hl8, hvp, ho3, hb3⟩
  obtain ⟨L, d, rfl, _, _, _⟩ := ho3.row GId.len
  have HRL := Lib.hid (OwnG.rowAt GId.len ho3).2
  have HRX3 := Lib.hid (HRX.out.next (belt (Below.refl _ w2) _) |>.next hb3)
  have HB3 := Lib.hid (beln (belt HB2.out _) hb3)
  have HN3 := Lib.hid (HN2.out.next hb3)
  clear ho3 hb3 hvp HRX HB2 HN2 HMI
  obtain ⟨d0, d1, d2, d3, d4, d5, d6, d7, d8, d9, d10⟩ := HN3.out.cells
  simp only at d0 d1 d2 d3 d4 d5 d6 d7 d8 d9 d10
  have HPA := Lib.hid (pPar_any ⟨⟨x0, x1, x2⟩, xs, ⟨p0, p1, p2, p3, p4, p5, p6⟩⟩ A cc ls L d w3 HRX3.out HRL.out (by simp only; omega) (by omega))
  simp only [GN.val, GId.val] at HPA
  have HSU := Lib.hid (parO_succ xs ls)
  have HPS := Lib.hid fun q (h : parO xs ls = some q) => par_some h
  have HPN := Lib.hid (par_none (xs := xs) (ls := ls))
  generalize parI xs ls = pi at *
  generalize parB xs ls = pb at *
  obtain ⟨pi0, pi1, pi2⟩ := pi
  go_wp2_with fail
  go_fit (HPA.out)
  rintro e w4 ⟨rfl, hb4⟩
  have HB4 := Lib.hid (belt (beln HB3.out hb4) (.cells #[.int .i64 pi0, .int .i64 pi1, .int .i64 pi2] 23))
  have HI4 := Lib.hid (IB.new w4 ⟨pi0, pi1, pi2⟩)
  have HN4 := Lib.hid (HN3.out.next (belt hb4 (.cells #[.int .i64 pi0, .int .i64 pi1, .int .i64 pi2] 23)))
  have HRX4 := Lib.hid (HRX3.out.next (belt hb4 (.cells #[.int .i64 pi0, .int .i64 pi1, .int .i64 pi2] 23)))
  have HRL4 := Lib.hid (HRL.out.next (belt hb4 (.cells #[.int .i64 pi0, .int .i64 pi1, .int .i64 pi2] 23)))
  clear hb4 HPA HB3 HN3 HRX3 HRL d0 d1 d2 d3 d4 d5 d6 d7 d8 d9 d10
  simp only at HI4
  go_wp2
  generalize w4.alloc (.cells #[.int .i64 pi0, .int .i64 pi1, .int .i64 pi2] 23) = w5 at *
  generalize w4.heap.size = M at *
  go_loopw [15, 16] (fun vl vi wr => ∃ (k : Nat) (l : Int), vi = .int .i64 k ∧ k ≤ xs.length ∧ vl = .int .i64 l ∧ Hid (LastP xs ls k l) ∧ Hid (Below w5.heap.size w5 wr)) (fun _ vi _ => xs.length - (intOf vi).toNat)
  case atStart => exact ⟨0, -1, rfl, Nat.zero_le _, rfl, Lib.hid (.inl ⟨rfl, rfl⟩), Lib.hid (Below.refl _ _)⟩
  case round =>
    obtain ⟨k, l, rfl, hk, rfl, HL, HB⟩ := hrel
    obtain ⟨d0, d1, d2, d3, d4, d5, d6, d7, d8, d9, d10⟩ := (HN4.out.next HB.out).cells
    simp only at d0 d1 d2 d3 d4 d5 d6 d7 d8 d9 d10
    rcases Nat.lt_or_ge k xs.length with hlt | hge
    · obtain ⟨b1, o1, rfl, hbz, y0, y1, y2⟩ := (HRX4.out.next HB.out).gid hlt
      have f3 : decide ((k : Int) < (xs.length : Int)) = true := by simp; omega
      have HH := Lib.hid (rHas_any ls L d xs[k] wr (HRL4.out.next HB.out) (by omega))
      have HS := Lib.hid (HSU.out k hlt)
      have HLT : Hid (hasI ls xs[k] = true → LastP xs ls (k + 1) k) := Lib.hid fun h => .inr ⟨k, hlt, rfl, by rw [HS.out, if_pos h]⟩
      have HLF : Hid (hasI ls xs[k] = false → LastP xs ls (k + 1) l) := Lib.hid fun h => by
        have e := HS.out
        rw [h, if_neg (by simp)] at e
        rcases HL.out with ⟨h1, h2⟩ | ⟨j, hj, h1, h2⟩
        · exact .inl ⟨e.trans h1, h2⟩
        · exact .inr ⟨j, hj, h1, e.trans h2⟩
      clear HS
      generalize hasI ls xs[k] = hs at *
      generalize xs[k] = y at *
      obtain ⟨yc, yo, yp⟩ := y
      simp only [GId.val] at y0 y1 y2 HH
      go_wp2_with fail
      go_fit HH.out
      rintro e w6 ⟨rfl, hb6⟩
      have HB6 := Lib.hid (beln HB.out hb6)
      clear hb6 HH y0 y1 y2 d0 d1 d2 d3 d4 d5 d6 d7 d8 d9 d10
      rcases hs with _ | _
      · have HL6 := Lib.hid (HLF.out rfl)
        go_wp2
        go_roundw
        case rel => exact ⟨k + 1, l, by go_num, by omega, rfl, HL6, HB6⟩
        case measure => simp [intOf]; omega
      · have HL6 := Lib.hid (HLT.out rfl)
        go_wp2
        go_roundw
        case rel => exact ⟨k + 1, k, by go_num, by omega, rfl, HL6, HB6⟩
        case measure => simp [intOf]; omega
    · obtain rfl : k = xs.length := by omega
      have f3 : decide ((xs.length : Int) < (xs.length : Int)) = false := by simp
      obtain ⟨q0, q1, q2⟩ := (HI4.out.next HB.out).cells
      simp only at q0 q1 q2
      have HBX := Lib.hid (beln HB4.out HB.out)
      have hL := HL.out
      unfold LastP at hL
      rw [List.take_length] at hL
      rcases hL with ⟨h1, hl1⟩ | ⟨j, hj, rfl, h2⟩
      · obtain ⟨e1, rfl⟩ := HPN.out h1
        have f4 : decide (l < 0) = true := by simp; omega
        clear hl1
        simp only [GId.mk.injEq] at e1
        obtain ⟨rfl, rfl, rfl⟩ := e1
        have HEQ := Lib.hid fun W => id_eql ⟨0, 0, 0⟩ ⟨0, 0, 0⟩ W
        rw [show eqI ⟨0, 0, 0⟩ ⟨0, 0, 0⟩ = true from rfl] at HEQ
        simp only [GId.val] at HEQ
        have heq := fun W => HEQ.out W
        clear h1 d0 d1 d2 d4 d5 d6 d7 d8 d9 d10
        go_wp2_with fail
        go_fit (HAW.out _)
        rintro e w7 ⟨rfl, hb7⟩
        have HB7 := Lib.hid (beln HBX.out hb7)
        clear hb7
        go_wp2
        go_ret
        exact ⟨rfl, HB7.out⟩
      · obtain ⟨e1, rfl⟩ := HPS.out _ h2
        obtain ⟨b1, o1, rfl, hbz, y0, y1, y2⟩ := (HRX4.out.next HB.out).gid hj
        rw [← e1] at y0 y1 y2
        simp only at y0 y1 y2
        have f4 : decide ((j : Int) < 0) = false := by simp
        have f5 : decide ((j : Int) < (xs.length : Int)) = true := by simp; omega
        have hj0 : (0 : Int) ≤ (j : Int) := by omega
        have HEQ := Lib.hid fun W => id_eql ⟨pi0, pi1, pi2⟩ ⟨pi0, pi1, pi2⟩ W
        rw [show eqI ⟨pi0, pi1, pi2⟩ ⟨pi0, pi1, pi2⟩ = true from (eqI_iff _ _).2 rfl] at HEQ
        simp only [GId.val] at HEQ
        have hMl := (HI4.out.next HB.out).lt
        have hNl := (HN4.out.next HB.out).lt
        clear h2 e1 d0 d1 d2 d4 d5 d6 d7 d8 d9 d10
        go_upto_region 14 with fail
        have hS := (Below.refl wr.heap.size wr).drew
        refine wp_region_growS (S := fun W => Below wr.heap.size wr W) [(0, true), (1, true), (2, true), (3, true), (4, true), (5, true), (6, true), (7, true), (8, true), (9, true), (10, true), (11, false), (12, true), (13, true)] (by kernel_rfl) (by kernel_rfl) (by kernel_rfl) (by kernel_rfl) (by intro c a d v w h; cases d <;> exact h) hS ?_
        iterate 11
          (first
            | (refine wpGrowS_float (v := ?_) (by simp only [List.getElem?_toArray, List.getElem?_cons_succ, List.getElem?_cons_zero]; rfl) (by rfl) ?_ ?_
               rotate_left
               · (intro W hW; have t0 := (hW.cell (p := ⟨M, 0, none⟩) hMl).trans q0; have t1 := (hW.cell (p := ⟨M, 1, none⟩) hMl).trans q1; have t2 := (hW.cell (p := ⟨M, 2, none⟩) hMl).trans q2; have t3 := (hW.cell (p := ⟨w2.heap.size, 3, none⟩) hNl).trans d3; have e0 := (hW.cell (p := ⟨b1, o1 + j * 3, none⟩) hbz).trans y0; have e1 := (hW.cell (p := ⟨b1, o1 + j * 3 + 1, none⟩) hbz).trans y1; have e2 := (hW.cell (p := ⟨b1, o1 + j * 3 + 2, none⟩) hbz).trans y2; have heq := fun W => HEQ.out W; (try simp only at *); go_simp; try with_reducible rfl)
               simp only [Act.put, List.setIfInBounds_toArray, List.set_cons_zero, List.set_cons_succ])
            | (refine wpGrowS_skip (by simp only [List.getElem?_toArray, List.getElem?_cons_succ, List.getElem?_cons_zero]; rfl) (by rfl) ?_
               simp only [Act.put, List.setIfInBounds_toArray, List.set_cons_zero, List.set_cons_succ]))
        refine wpGrowS_call (by simp only [List.getElem?_toArray, List.getElem?_cons_succ, List.getElem?_cons_zero]; rfl) (by rfl) fun K hK => ?_
        go_simp
        go_fit (HAW.out _)
        rintro e wn ⟨rfl, hbn⟩
        have hSp := hS
        have hS : Below wr.heap.size wr wn := beln hS hbn
        go_simp
        refine hK _ _ hS ?_
        clear hK K
        try simp only [Act.put, List.setIfInBounds_toArray, List.set_cons_zero, List.set_cons_succ]
        iterate 2
          (first
            | (refine wpGrowS_float (v := ?_) (by simp only [List.getElem?_toArray, List.getElem?_cons_succ, List.getElem?_cons_zero]; rfl) (by rfl) ?_ ?_
               rotate_left
               · (intro W hW; have t0 := (hW.cell (p := ⟨M, 0, none⟩) hMl).trans q0; have t1 := (hW.cell (p := ⟨M, 1, none⟩) hMl).trans q1; have t2 := (hW.cell (p := ⟨M, 2, none⟩) hMl).trans q2; have t3 := (hW.cell (p := ⟨w2.heap.size, 3, none⟩) hNl).trans d3; have e0 := (hW.cell (p := ⟨b1, o1 + j * 3, none⟩) hbz).trans y0; have e1 := (hW.cell (p := ⟨b1, o1 + j * 3 + 1, none⟩) hbz).trans y1; have e2 := (hW.cell (p := ⟨b1, o1 + j * 3 + 2, none⟩) hbz).trans y2; have heq := fun W => HEQ.out W; (try simp only at *); go_simp; try with_reducible rfl)
               simp only [Act.put, List.setIfInBounds_toArray, List.set_cons_zero, List.set_cons_succ])
            | (refine wpGrowS_skip (by simp only [List.getElem?_toArray, List.getElem?_cons_succ, List.getElem?_cons_zero]; rfl) (by rfl) ?_
               simp only [Act.put, List.setIfInBounds_toArray, List.set_cons_zero, List.set_cons_succ]))
        refine wpGrowS_nil ?_
        have HB7 := Lib.hid (beln HBX.out hS)
        clear hS hSp hbn y0 y1 y2 d3 q0 q1 q2
        go_wp2
        go_ret
        exact ⟨rfl, HB7.out⟩
end Go.Proofs.Ytnoegjfokceghaa
