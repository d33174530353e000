/-
  The law CapRetypeSplits returns true.
  Conditions: none.
-/
import Derived.Test.YtpjakfbjiioflaaLch
namespace Go.Proofs.Ytpjakfbjiioflaa

open Go.RowKit

set_option maxRecDepth 20000 in
set_option maxHeartbeats 2000000 in
theorem lcspl (s : GC) (obj n lev wid off cnt : Int) (w : World) : Calls Try.prog 8 #[s.val, .int .i64 obj, .int .i64 n, .int .i64 lev, .int .i64 wid, .int .i64 off, .int .i64 cnt] w fun e w' => e = .returned (.bool true) ∧ Below w.heap.size w w' := by
  have HP := Lib.hid (pRet_any s obj n lev wid off cnt (w.alloc (.cells #[.int .i64 s.kind, .int .i64 s.base, .int .i64 s.bits, .int .i64 s.rights, .int .i64 s.width, .int .i64 s.level, .bool s.device] 23)))
  have HA := Lib.hid fun W => awake11 W
  have HX := Lib.hid (CB.new w s)
  have HB0 := Lib.hid (belt (Below.refl _ w) (.cells #[.int .i64 s.kind, .int .i64 s.base, .int .i64 s.bits, .int .i64 s.rights, .int .i64 s.width, .int .i64 s.level, .bool s.device] 23))
  by_cases hq : retErr s obj n lev wid off cnt = 0
  case neg =>
    have hl := split_none hq
    rw [hl] at HP
    have f0 : (retErr s obj n lev wid off cnt != 0) = true := by simp [hq]
    clear hl hq
    generalize retErr s obj n lev wid off cnt = q at *
    obtain ⟨sk, sb, sn, sr, sw, sl, sd⟩ := s
    simp only [GC.val] at *
    go_enter Try.func8, Try.ntmps8
    go_wp2_with fail
    go_fit HP.out
    rintro e w1 ⟨v, rfl, ho, hb⟩
    obtain ⟨A, cc, rfl, _, _, _⟩ := ho.row GC.len
    have HB1 := Lib.hid (beln HB0.out hb)
    clear ho hb HP
    go_wp2_with fail
    go_fit (HA.out _)
    rintro e w2 ⟨rfl, hb2⟩
    have HB2 := Lib.hid (beln HB1.out hb2)
    clear hb2
    go_wp2
    go_ret
    exact ⟨rfl, HB2.out⟩
  obtain ⟨c1, c8, o0, o1, n6, n40, hlen, hz, hsp⟩ := split_ok hq
  have HSP := Lib.hid fun (i : Nat) (hi : i < (retL s obj n lev wid off cnt).length) W => by
    have h := pRet_any s obj n lev wid (off + (i : Int) * pw n) 1 W
    rw [(hsp i hi).2.2.1, (hsp i hi).2.2.2] at h
    exact h
  have HBD := Lib.hid fun (i : Nat) (hi : i < (retL s obj n lev wid off cnt).length) => (show 0 ≤ (i : Int) * pw n ∧ (i : Int) * pw n ≤ 1099511627776 from ⟨(hsp i hi).1, (hsp i hi).2.1⟩)
  have HPZ := Lib.hid fun W => pRet_any s obj n lev wid off 0 W
  rw [hz, split_none (by rw [hz]; decide)] at HPZ
  rw [hq] at HP
  clear hq hz hsp
  generalize retL s obj n lev wid off cnt = l at *
  have HLN := Lib.hid hlen
  obtain ⟨sk, sb, sn, sr, sw, sl, sd⟩ := s
  simp only [GC.val] at *
  go_enter Try.func8, Try.ntmps8
  go_wp2_with fail
  go_fit HP.out
  rintro e w1 ⟨v, rfl, ho, hb⟩
  obtain ⟨A, cc, rfl, _, _, hr⟩ := ho.row GC.len
  have HB1 := Lib.hid (beln HB0.out hb)
  have HX1 := Lib.hid (HX.out.next hb)
  have HR := Lib.hid hr
  clear ho hb HP HB0 HX hr
  have hl8 : l.length ≤ 8 := by omega
  generalize hN : w.heap.size = N at *
  have HNN := Lib.hid hN
  clear hN
  clear hlen
  go_wp2
  go_loopw [17] (fun vi wr => ∃ i : Nat, vi = .int .i64 i ∧ i ≤ l.length ∧ Hid (Below w1.heap.size w1 wr)) (fun vi _ => l.length - (intOf vi).toNat)
  case atStart => exact ⟨0, rfl, Nat.zero_le _, Lib.hid (Below.refl _ _)⟩
  case round =>
    obtain ⟨i, rfl, hi, HB⟩ := hrel
    have HXr := Lib.hid (HX1.out.next HB.out)
    obtain ⟨y0, y1, y2, y3, y4, y5, y6⟩ := HXr.out.cells
    simp only at y0 y1 y2 y3 y4 y5 y6
    rcases Nat.lt_or_ge i l.length with hlt | hge
    · obtain ⟨b0, b1⟩ := HBD.out i hlt
      have HC := Lib.hid (HSP.out i hlt wr)
      have hsh : wrap64 ((i : Int) * 2 ^ n.toNat) = (i : Int) * pw n := IntWalk.wrap64_in _ (by unfold pw at *; omega)
      have hsum : wrap64 (off + (i : Int) * pw n) = off + (i : Int) * pw n := IntWalk.wrap64_in _ (by omega)
      have hcv : IntKind.u64.wrap n = n := by rw [IntKind.wrap_u64]; omega
      generalize (i : Int) * pw n = P at *
      go_upto_region 7 with fail
      go_wp2_with fail
      go_fit HC.out
      rintro e w2 ⟨v2, rfl, ho2, hb2⟩
      obtain ⟨A2, cc2, rfl, _, _, hr2⟩ := ho2.row GC.len
      obtain ⟨k1, q1, rfl, hk1, x0, x1, x2, x3, x4, x5, x6⟩ := hr2.cap (k := 0) (by simp)
      obtain ⟨k2, q2, rfl, hk2, z0, z1, z2, z3, z4, z5, z6⟩ := ((HR.out.next HB.out).next hb2).cap hlt
      simp only [List.getElem_cons_zero, Nat.zero_mul, Nat.add_zero] at x0 x1 x2 x3 x4 x5 x6
      have HNE := Lib.hid (HB.out.trans (Below.mono hb2 HB.out.size)).drew
      have HEQ : Hid (∀ W, (Op.equalIn 10000 23 l[i].val l[i].val).run Try.prog W = .ok true W) := Lib.hid fun W => by rw [cap_eql, (eqC_iff _ _).2 rfl]
      clear ho2 hr2 hb2 HC hsh hsum hcv b0 b1 y0 y1 y2 y3 y4 y5 y6
      generalize l[i] = x at *
      obtain ⟨tk, tb, tn, tr, tw, tl, td⟩ := x
      simp only [GC.val] at HEQ x0 x1 x2 x3 x4 x5 x6 z0 z1 z2 z3 z4 z5 z6
      have heq := fun W => HEQ.out W
      go_upto_region 8 with fail
      go_region
      clear heq x0 x1 x2 x3 x4 x5 x6 z0 z1 z2 z3 z4 z5 z6
      go_wp2
      go_roundw
      case rel => exact ⟨i + 1, by go_num, by omega, HNE⟩
      case measure => simp [intOf]; omega
    · obtain rfl : i = l.length := by omega
      have HBE := Lib.hid (HB1.out.trans (Below.mono HB.out (Nat.le_of_lt HX1.out.lt)))
      have HLT := Lib.hid HXr.out.lt
      have g1 : (((l.length : Nat) : Int) == cnt) = true := by have := HLN.out; simp [this]
      clear HB
      go_wp2_with fail
      go_fit (HPZ.out _)
      rintro e w2 ⟨v2, rfl, ho2, hb2⟩
      obtain ⟨A2, cc2, rfl, _, _, _⟩ := ho2.row GC.len
      have HB2 := Lib.hid (HBE.out.trans (Below.mono hb2 (Nat.le_of_lt HLT.out)))
      have HL2 : Hid (N ≤ w2.heap.size) := Lib.hid (by have := HLT.out; have := hb2.size; omega)
      clear ho2 hb2 HBE y0 y1 y2 y3 y4 y5 y6
      go_wp2_with fail
      go_fit (HA.out _)
      rintro e w3 ⟨rfl, hb3⟩
      have HB3 := Lib.hid (HB2.out.trans (Below.mono hb3 HL2.out))
      clear hb3
      go_wp2
      go_ret
      exact ⟨rfl, by rw [HNN.out]; exact HB3.out⟩
end Go.Proofs.Ytpjakfbjiioflaa
