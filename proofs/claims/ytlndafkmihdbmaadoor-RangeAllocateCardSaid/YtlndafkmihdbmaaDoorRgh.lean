/-
  The reference's Find.
  Conditions: at most 100000 used ranges.
-/
import Derived.Test.YtlndafkmihdbmaaDoorRgg
namespace Go.Proofs.YtlndafkmihdbmaaDoor
open Go.RowKit

theorem rFreeL_any (r : GR) (us : List GR) (A : Option Addr) (c : Nat) (w : World) (h : GRow GR.cells 2 w w.heap.size A us) (hl : us.length ≤ 100000) :
    Calls Tryd.prog 29 #[r.val, .slice A us.length c] w (FreeEnd (freeL r us) w) := by
  by_cases hv : VR r
  · have := rFree_any 35 r us A c w hv (by have := hv.hi; omega) h hl
    unfold freeL
    rwa [if_pos (vR_iff.2 hv)]
  · have := rFree_bad r A us.length c w hv
    unfold freeL
    rwa [if_neg (by rw [vR_not.2 hv]; simp)]
theorem freeL_len (r : GR) (us : List GR) : (freeL r us).length ≤ 17179869184 := by
  unfold freeL
  by_cases hv : VR r
  · rw [if_pos (vR_iff.2 hv)]; exact free_len us hv 35 (by have := hv.hi; omega)
  · rw [if_neg (by rw [vR_not.2 hv]; simp)]; simp
def optV : Option GR → Value
  | some x => .tuple #[x.val, .bool true]
  | none => .tuple #[zR.val, .bool false]
theorem find_step {p : GR → Bool} {l : List GR} {j : Nat} (h : j < l.length) : (l.drop j).find? p = if p l[j] = true then some l[j] else (l.drop (j + 1)).find? p := by
  rw [List.drop_eq_getElem_cons h]
  by_cases hp : p l[j] = true
  · rw [if_pos hp, List.find?_cons_of_pos hp]
  · rw [if_neg hp, List.find?_cons_of_neg hp]
set_option maxRecDepth 20000 in
set_option maxHeartbeats 1000000 in
theorem rFind_any (r : GR) (us : List GR) (n : Int) (A : Option Addr) (c : Nat) (w : World) (h : GRow GR.cells 2 w w.heap.size A us) (hl : us.length ≤ 100000) :
    Calls Tryd.prog 31 #[r.val, .slice A us.length c, .int .i64 n] w fun e w' => e = .returned (optV (findL r us n)) ∧ Below w.heap.size w w' := by
  have hz : ((w.alloc (.cells #[.int .i64 r.base, .int .i64 r.bits] 23)).alloc (.cells #[.int .i64 0, .int .i64 0] 23)).heap.size = w.heap.size + 1 + 1 := by simp
  have HFR := Lib.hid (rFreeL_any r us A c ((w.alloc (.cells #[.int .i64 r.base, .int .i64 r.bits] 23)).alloc (.cells #[.int .i64 0, .int .i64 0] 23)) ((h.next (belt (Below.refl _ w) _)).next (belt (Below.refl _ _) _)) hl)
  have HD : Hid (findL r us n = if 6 ≤ n then ((freeL r us).find? fun f => decide (n ≤ f.bits)).map fun f => ⟨f.base, n⟩ else none) := Lib.hid rfl
  have HLL := Lib.hid (freeL_len r us)
  have HZ : Hid (RB ((w.alloc (.cells #[.int .i64 r.base, .int .i64 r.bits] 23)).alloc (.cells #[.int .i64 0, .int .i64 0] 23)) (w.heap.size + 1) zR) := Lib.hid (by
    have h9 : RB _ _ zR := RB.new (w.alloc (.cells #[.int .i64 r.base, .int .i64 r.bits] 23)) zR
    simpa [zR] using h9)
  generalize findL r us n = q at *
  generalize freeL r us = l at *
  obtain ⟨rb, rn⟩ := r
  simp only [GR.val] at *
  clear h hl hz
  go_enter Tryd.func31, Tryd.ntmps31
  go_wp2_with fail
  go_fit HFR.out
  rintro e w1 ⟨v1, rfl, ho1, hb1⟩
  obtain ⟨A1, c1, rfl, hc1, hm1, hr1⟩ := ho1.row GR.len
  have HR1 := Lib.hid hr1
  have HZ1 := Lib.hid (HZ.out.next hb1)
  have HB1 := Lib.hid (bela (belt (Below.refl _ w) _) hb1)
  have HS : ∀ (W : World) (p : Value), Below w.heap.size w W → ∀ j, Below w.heap.size w (W.setCell ⟨w.heap.size + 1, j, none⟩ p) := fun W p hb j => hb.setCell (p := ⟨w.heap.size + 1, j, none⟩) (by simp) p
  have HSC := Lib.hid HS
  clear ho1 hr1 hb1 HFR HZ HS hc1 hm1
  by_cases h6 : 6 ≤ n
  case neg =>
    have HQ : Hid (q = none) := Lib.hid (by rw [HD.out, if_neg h6])
    obtain ⟨z0, z1, y0, y1⟩ := HZ1.out.facts
    have hzl := HZ1.out.lt
    have f6 : decide (6 ≤ n) = false := by simp; omega
    have h6' : n < 6 := by omega
    clear h6
    go_wp2
    go_loopw [9] (fun vi wr => vi = .int .i64 0 ∧ wr = w1) (fun _ _ => 0)
    case atStart => exact ⟨rfl, rfl⟩
    case round =>
      obtain ⟨rfl, rfl⟩ := hrel
      go_wp2
      all_goals
        refine bodyPost_ret (v := .tuple #[.agg #[.int .i64 0, .int .i64 0], .bool false]) (by simp [results, Tryd.results31, go_sem, z0, z1]) rfl ?_
        rw [HQ.out]
        refine ⟨rfl, ?_⟩
        exact HSC.out _ _ (HSC.out _ _ HB1.out _) _
  rw [if_pos h6] at HD
  have f6 : decide (6 ≤ n) = true := by simpa using h6
  have hll := HLL.out
  go_wp2
  go_loopw [9] (fun vi wr => ∃ j : Nat, vi = .int .i64 j ∧ j ≤ l.length ∧ wr = w1 ∧ Hid (l.find? (fun f => decide (n ≤ f.bits)) = (l.drop j).find? fun f => decide (n ≤ f.bits))) (fun vi _ => l.length - (intOf vi).toNat)
  case atStart => exact ⟨0, rfl, Nat.zero_le _, rfl, Lib.hid rfl⟩
  case round =>
    obtain ⟨j, rfl, hj, rfl, HT⟩ := hrel
    rcases Nat.lt_or_ge j l.length with hlt | hge
    · obtain ⟨b1, o1, rfl, hb1, x0, x1⟩ := HR1.out.rng hlt
      have HFS := Lib.hid (find_step (p := fun f => decide (n ≤ f.bits)) hlt)
      generalize l[j] = x at *
      obtain ⟨xb, xn⟩ := x
      simp only at x0 x1
      by_cases hx : n ≤ xn
      · have HQ : Hid (q = some ⟨xb, n⟩) := Lib.hid (by rw [HD.out, HT.out, HFS.out, if_pos (by simpa using hx)]; rfl)
        obtain ⟨z0, z1, y0, y1⟩ := HZ1.out.facts
        have hzl := HZ1.out.lt
        go_wp2
        refine bodyPost_ret (v := .tuple #[.agg #[.int .i64 xb, .int .i64 n], .bool true]) (by simp [results, Tryd.results31, go_sem, z0, z1]) rfl ?_
        rw [HQ.out]
        exact ⟨rfl, HSC.out _ _ (HSC.out _ _ HB1.out _) _⟩
      · have HN : Hid (l.find? (fun f => decide (n ≤ f.bits)) = (l.drop (j + 1)).find? fun f => decide (n ≤ f.bits)) := Lib.hid (by rw [HT.out, HFS.out, if_neg (by simpa using hx)])
        go_wp2
        go_roundw
        case rel => exact ⟨j + 1, by go_num, by omega, trivial, HN⟩
        case measure => simp [intOf]; omega
    · obtain rfl : j = l.length := by omega
      have HQ : Hid (q = none) := Lib.hid (by rw [HD.out, HT.out, List.drop_length]; rfl)
      obtain ⟨z0, z1, y0, y1⟩ := HZ1.out.facts
      have hzl := HZ1.out.lt
      go_wp2
      refine bodyPost_ret (v := .tuple #[.agg #[.int .i64 0, .int .i64 0], .bool false]) (by simp [results, Tryd.results31, go_sem, z0, z1]) rfl ?_
      rw [HQ.out]
      exact ⟨rfl, HSC.out _ _ (HSC.out _ _ HB1.out _) _⟩
end Go.Proofs.YtlndafkmihdbmaaDoor
