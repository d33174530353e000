/-
  The assembler's methods target and immediate.
  Conditions: the tokens end with one of kind 0; the lists are short.
  The assembler's method operands.
  Conditions: the tokens end with one of kind 0; the lists are short.
  The assembler's methods atLabel and label.
  Conditions: the tokens end with one of kind 0; the lists are short.
-/
import Derived.Test.YtahhmgoffdggpaaGreatDoorMb10
import Derived.WalkArith
namespace Go.Proofs.YtahhmgoffdggpaaGreatDoor

open Go.RowKit

theorem number_ok {g v : Int} {s s1 : ASt} (h : aNumber g s = .ok v s1) (he : TEnds s.ts) : mu s1 + 2 = mu s ∧ 0 ≤ v ∧ v ≤ g := by
  unfold aNumber at h
  have hne : s.ts ≠ [] := by intro e; rw [e] at he; exact he
  cases hq : aTake 2 s with
  | thr l c x => rw [hq] at h; cases h
  | ok t s2 =>
    rw [hq] at h
    simp only [ARes.bind] at h
    obtain ⟨hmu, ht⟩ := take_mu hq hne
    by_cases hg : g < t.value
    · rw [if_pos hg] at h; cases h
    · rw [if_neg hg] at h
      injection h with h1 h2
      subst h1 h2
      refine ⟨hmu, ?_, by omega⟩
      have hk : s.hd.kind = 2 := by
        unfold aTake at hq
        by_cases hk : s.hd.kind = 2
        · exact hk
        · rw [if_neg hk] at hq; cases hq
      cases hts : s.ts with
      | nil => exact absurd hts hne
      | cons a r =>
        have ha : s.hd = a := by unfold ASt.hd; rw [hts]; rfl
        rw [hts] at he
        rw [ht, ha]
        rw [ha] at hk
        exact (he.more (by omega)).1.low
theorem St.ends {base p : Nat} {O : Nat → Prop} {w : World} {s : ASt} (h : St base p O w s) : TEnds s.ts := by
  obtain ⟨A, c, pv, m, ov, h⟩ := h
  exact h.ends
set_option maxRecDepth 50000 in
set_option maxHeartbeats 1000000 in
theorem target_any (base p : Nat) (O : Nat → Prop) (s : ASt) (w : World) (h : St base p O w s) (hm : mu s ≤ 300000) :
    Calls Tryz.prog 124 #[.pointer (some ⟨p, 0, none⟩)] w (MEnd base p O w s (fun v => .int .i32 v) (aTarget s)) := by
  have HS := Lib.hid h
  have HBB := Lib.hid h.lo
  have HD : Hid (aTarget s = if s.hd.kind = 1 then (aUse s).bind fun _ s1 => .ok 0 s1 else aNumber 2147483647 (aKeep s.hd s)) := Lib.hid rfl
  obtain ⟨t, r, b, off, c, pv, m, ov, hts, hhd, hX, hb, hbp, hpw, hc1, hc2, ⟨x0, x1, x2, x3, x4⟩, ⟨p0, p1, p2, p3, z0, z1, z2, z3⟩⟩ := h.get
  have hbw : b < w.heap.size := by omega
  generalize aTarget s = q at *
  by_cases hk : s.hd.kind = 1
  · rw [if_pos hk] at HD
    have HU := Lib.hid (labelUse_any base p O s w h hm)
    rw [hhd] at hk
    have f1 : (t.kind == 1) = true := by simp [hk]
    have HK := Lib.hid hk
    clear hk
    generalize aUse s = u at *
    clear h hX hts hhd hm
    rcases u with ⟨v, s1⟩ | ⟨l, c, x⟩
    · have HQ : Hid (q = .ok 0 s1) := Lib.hid HD.out
      rw [HK.out] at x0
      go_enter Tryz.func124, Tryz.ntmps124
      go_wp2_with fail
      go_fit HU.out
      rintro e w1 ⟨rfl, hmu, O1, hst1, hf1⟩
      have HST := Lib.hid hst1
      have HF := Lib.hid hf1
      have HM := Lib.hid hmu
      clear hst1 hf1 hmu
      go_wp2
      go_ret
      rw [HQ.out]
      exact ⟨rfl, HM.out, O1, HST.out, HF.out⟩
    · have HQ : Hid (q = .thr l c x) := Lib.hid HD.out
      rw [HK.out] at x0
      go_enter Tryz.func124, Tryz.ntmps124
      go_wp2_with fail
      go_fit HU.out
      rintro e w1 ⟨rfl, hb1⟩
      have HB1 := Lib.hid hb1
      clear hb1
      go_wp2
      refine ⟨rfl, ?_⟩
      rw [HQ.out]
      exact ⟨rfl, HB1.out⟩
  · rw [if_neg hk] at HD
    rw [hhd] at hk HD
    have HKP := Lib.hid (keep_any base p O s t w h hm)
    have HMK := Lib.hid (mu_keep t s)
    have HNB := Lib.hid fun O W (hW : St base p O W (aKeep t s)) => anumber_any base p O (aKeep t s) 2147483647 W hW
    have HNO := Lib.hid fun v s1 (e : aNumber 2147483647 (aKeep t s) = .ok v s1) => number_ok e (show TEnds (aKeep t s).ts from h.ends)
    generalize aNumber 2147483647 (aKeep t s) = u at *
    generalize aKeep t s = sk at *
    clear h hX hts hhd hm
    obtain ⟨tk, tt, tv, tl, tc⟩ := t
    simp only [GTok.tval] at *
    have f1 : (tk == 1) = false := by simp [hk]
    rcases u with ⟨v, s1⟩ | ⟨l, c, x⟩
    · have HQ : Hid (q = .ok v s1) := Lib.hid HD.out
      obtain ⟨hv1, hv2, hv3⟩ := HNO.out v s1 rfl
      have HM1 := Lib.hid hv1
      have HW : IntKind.i32.wrap v = v := IntWalk.i32_in _ (by omega)
      clear hv1 HNO
      go_enter Tryz.func124, Tryz.ntmps124
      go_wp2_with fail
      go_fit HKP.out
      rintro e w1 ⟨rfl, O1, hst1, hf1⟩
      have HF := Lib.hid hf1
      have HN1 := Lib.hid (HNB.out O1 w1 hst1)
      clear hst1 hf1 HNB
      go_wp2_with fail
      go_fit HN1.out
      rintro e w2 ⟨rfl, hmu, O2, hst2, hf2⟩
      have HST := Lib.hid hst2
      have HF2 := Lib.hid (HF.out.trans hf2)
      clear hst2 hf2 hmu
      go_wp2
      go_ret
      rw [HQ.out]
      exact ⟨rfl, by have := HM1.out; have := HMK.out; omega, O2, HST.out, HF2.out⟩
    · have HQ : Hid (q = .thr l c x) := Lib.hid HD.out
      clear HNO
      go_enter Tryz.func124, Tryz.ntmps124
      go_wp2_with fail
      go_fit HKP.out
      rintro e w1 ⟨rfl, O1, hst1, hf1⟩
      have HF := Lib.hid (hf1.bel HBB.out.1 HBB.out.2.2)
      have HN1 := Lib.hid (HNB.out O1 w1 hst1)
      clear hst1 hf1 HNB
      go_wp2_with fail
      go_fit HN1.out
      rintro e w2 ⟨rfl, hb2⟩
      have HB2 := Lib.hid (HF.out.trans hb2)
      clear hb2
      go_wp2
      refine ⟨rfl, ?_⟩
      rw [HQ.out]
      exact ⟨rfl, HB2.out⟩
set_option maxRecDepth 50000 in
set_option maxHeartbeats 1000000 in
theorem immediate_any (base p : Nat) (O : Nat → Prop) (s : ASt) (w : World) (h : St base p O w s) (hm : mu s ≤ 300000) :
    Calls Tryz.prog 123 #[.pointer (some ⟨p, 0, none⟩)] w (MEnd base p O w s (fun v => .int .i32 v) (aImm s)) := by
  have HS := Lib.hid h
  have HBB := Lib.hid h.lo
  have HD : Hid (aImm s = if s.hd.kind = 1 then (aUse s).bind fun _ s1 => .ok 0 s1
    else if isMk s.hd [45] then (aNumber 2147483648 s.next).bind fun v s1 => .ok (-v) s1 else aNumber 2147483647 s) := Lib.hid rfl
  obtain ⟨t, r, b, off, c, pv, m, ov, hts, hhd, hX, hb, hbp, hpw, hc1, hc2, ⟨x0, x1, x2, x3, x4⟩, ⟨p0, p1, p2, p3, z0, z1, z2, z3⟩⟩ := h.get
  have hbw : b < w.heap.size := by omega
  generalize aImm s = q at *
  by_cases hk : s.hd.kind = 1
  · rw [if_pos hk] at HD
    have HU := Lib.hid (labelUse_any base p O s w h hm)
    rw [hhd] at hk
    have HK := Lib.hid hk
    clear hk
    generalize aUse s = u at *
    clear h hX hts hhd hm
    rw [HK.out] at x0
    rcases u with ⟨v, s1⟩ | ⟨l, c, x⟩
    · have HQ : Hid (q = .ok 0 s1) := Lib.hid HD.out
      go_enter Tryz.func123, Tryz.ntmps123
      go_wp2_with fail
      go_fit HU.out
      rintro e w1 ⟨rfl, hmu, O1, hst1, hf1⟩
      have HST := Lib.hid hst1
      have HF := Lib.hid hf1
      have HM := Lib.hid hmu
      clear hst1 hf1 hmu
      go_wp2
      go_ret
      rw [HQ.out]
      exact ⟨rfl, HM.out, O1, HST.out, HF.out⟩
    · have HQ : Hid (q = .thr l c x) := Lib.hid HD.out
      go_enter Tryz.func123, Tryz.ntmps123
      go_wp2_with fail
      go_fit HU.out
      rintro e w1 ⟨rfl, hb1⟩
      have HB1 := Lib.hid hb1
      clear hb1
      go_wp2
      refine ⟨rfl, ?_⟩
      rw [HQ.out]
      exact ⟨rfl, HB1.out⟩
  · rw [if_neg hk] at HD
    have HSK := Lib.hid (skip_any base p O s [45] w h)
    have hD2 : aSkip [45] s = if isMk s.hd [45] then .ok true s.next else .ok false s := rfl
    have hEN := h.ends
    rw [hhd] at hk HD hD2
    have f1 : (t.kind == 1) = false := by simp [hk]
    have HMN := Lib.hid (mu_next hts)
    cases hmk : isMk t [45]
    · rw [hmk] at HD hD2
      simp only [Bool.false_eq_true, if_false] at HD hD2
      rw [hD2] at HSK
      have HNB := Lib.hid fun O W (hW : St base p O W s) => anumber_any base p O s 2147483647 W hW
      have HNO := Lib.hid fun v s1 (e : aNumber 2147483647 s = .ok v s1) => number_ok e hEN
      generalize aNumber 2147483647 s = u at *
      clear h hX hts hhd hm hD2 hEN hmk
      rcases u with ⟨v, s1⟩ | ⟨l, c, x⟩
      · have HQ : Hid (q = .ok v s1) := Lib.hid HD.out
        obtain ⟨hv1, hv2, hv3⟩ := HNO.out v s1 rfl
        have HM1 := Lib.hid hv1
        have HW : IntKind.i32.wrap v = v := IntWalk.i32_in _ (by omega)
        clear hv1 HNO
        go_enter Tryz.func123, Tryz.ntmps123
        go_wp2_with fail
        go_fit HSK.out
        rintro e w1 ⟨rfl, _, O1, hst1, hf1⟩
        have HF := Lib.hid hf1
        have HN1 := Lib.hid (HNB.out O1 w1 hst1)
        clear hst1 hf1 HNB
        go_wp2_with fail
        go_fit HN1.out
        rintro e w2 ⟨rfl, hmu, O2, hst2, hf2⟩
        have HST := Lib.hid hst2
        have HF2 := Lib.hid (HF.out.trans hf2)
        clear hst2 hf2 hmu
        go_wp2
        go_ret
        rw [HQ.out]
        exact ⟨rfl, by have := HM1.out; omega, O2, HST.out, HF2.out⟩
      · have HQ : Hid (q = .thr l c x) := Lib.hid HD.out
        clear HNO
        go_enter Tryz.func123, Tryz.ntmps123
        go_wp2_with fail
        go_fit HSK.out
        rintro e w1 ⟨rfl, _, O1, hst1, hf1⟩
        have HF := Lib.hid (hf1.bel HBB.out.1 HBB.out.2.2)
        have HN1 := Lib.hid (HNB.out O1 w1 hst1)
        clear hst1 hf1 HNB
        go_wp2_with fail
        go_fit HN1.out
        rintro e w2 ⟨rfl, hb2⟩
        have HB2 := Lib.hid (HF.out.trans hb2)
        clear hb2
        go_wp2
        refine ⟨rfl, ?_⟩
        rw [HQ.out]
        exact ⟨rfl, HB2.out⟩
    · rw [hmk] at HD hD2
      simp only [if_true] at HD hD2
      rw [hD2] at HSK
      have hk0 : t.kind ≠ 0 := by
        unfold isMk at hmk
        intro e
        rw [e] at hmk
        simp at hmk
      have hEN2 : TEnds s.next.ts := by
        rw [hts] at hEN
        obtain ⟨_, u, r2, e, he2⟩ := hEN.more hk0
        show TEnds s.ts.tail
        rw [hts]
        show TEnds r
        rw [e]; exact he2
      have HNB := Lib.hid fun O W (hW : St base p O W s.next) => anumber_any base p O s.next 2147483648 W hW
      have HNO := Lib.hid fun v s1 (e : aNumber 2147483648 s.next = .ok v s1) => number_ok e hEN2
      generalize aNumber 2147483648 s.next = u at *
      generalize s.next = sn at *
      clear h hX hts hhd hm hD2 hEN hmk hk0 hEN2
      rcases u with ⟨v, s1⟩ | ⟨l, c, x⟩
      · have HQ : Hid (q = .ok (-v) s1) := Lib.hid HD.out
        obtain ⟨hv1, hv2, hv3⟩ := HNO.out v s1 rfl
        have HM1 := Lib.hid hv1
        have HW : IntKind.i32.wrap (-v) = -v := IntWalk.i32_in _ (by omega)
        have HW2 : IntKind.i64.wrap v = v := IntWalk.i64_in _ (by omega)
        have HW3 : IntKind.i64.wrap (-v) = -v := IntWalk.i64_in _ (by omega)
        have HW4 : wrap64 (-v) = -v := IntWalk.wrap64_in _ (by omega)
        have HW5 : wrap64 v = v := IntWalk.wrap64_in _ (by omega)
        clear hv1 HNO
        go_enter Tryz.func123, Tryz.ntmps123
        go_wp2_with fail
        go_fit HSK.out
        rintro e w1 ⟨rfl, _, O1, hst1, hf1⟩
        have HF := Lib.hid hf1
        have HN1 := Lib.hid (HNB.out O1 w1 hst1)
        clear hst1 hf1 HNB
        go_wp2_with fail
        go_fit HN1.out
        rintro e w2 ⟨rfl, hmu, O2, hst2, hf2⟩
        have HST := Lib.hid hst2
        have HF2 := Lib.hid (HF.out.trans hf2)
        clear hst2 hf2 hmu
        go_wp2
        go_ret
        rw [HQ.out]
        exact ⟨rfl, by have := HM1.out; have := HMN.out; omega, O2, HST.out, HF2.out⟩
      · have HQ : Hid (q = .thr l c x) := Lib.hid HD.out
        clear HNO
        go_enter Tryz.func123, Tryz.ntmps123
        go_wp2_with fail
        go_fit HSK.out
        rintro e w1 ⟨rfl, _, O1, hst1, hf1⟩
        have HF := Lib.hid (hf1.bel HBB.out.1 HBB.out.2.2)
        have HN1 := Lib.hid (HNB.out O1 w1 hst1)
        clear hst1 hf1 HNB
        go_wp2_with fail
        go_fit HN1.out
        rintro e w2 ⟨rfl, hb2⟩
        have HB2 := Lib.hid (HF.out.trans hb2)
        clear hb2
        go_wp2
        refine ⟨rfl, ?_⟩
        rw [HQ.out]
        exact ⟨rfl, HB2.out⟩
end Go.Proofs.YtahhmgoffdggpaaGreatDoor


namespace Go.Proofs.YtahhmgoffdggpaaGreatDoor

open Go.RowKit

theorem Loc.cell {O : Nat → Prop} {w : World} {N : Nat} {cs : Array Value} {T : TypeId} (h : Loc O w N cs T) (j : Nat) : w.cell? ⟨N, j, none⟩ = cs[j]? := Lib.cell_of_heap h.heap j
theorem Loc.frozen {O : Nat → Prop} {w : World} {N : Nat} {cs : Array Value} {T : TypeId} (h : Loc O w N cs T) (j : Nat) : w.frozen? ⟨N, j, none⟩ = false := Lib.frozen_of_heap h.heap j
theorem Loc.set {O : Nat → Prop} {w : World} {N : Nat} {cs : Array Value} {T : TypeId} (h : Loc O w N cs T) (j : Nat) (v : Value) : Loc O (w.setCell ⟨N, j, none⟩ v) N (cs.setIfInBounds j v) T := ⟨heap_set h.heap v, h.out⟩
theorem Loc.beside {O : Nat → Prop} {w : World} {N : Nat} {cs : Array Value} {T : TypeId} (h : Loc O w N cs T) (a : Addr) (v : Value) (hn : N ≠ a.block) : Loc O (w.setCell a v) N cs T := ⟨(Below.heap_setCell _ _ _ N hn).trans h.heap, h.out⟩
theorem Loc.lit {O : Nat → Prop} {w : World} {N : Nat} {cs : Array Value} {T : TypeId} (h : Loc O w N cs T) (o : Obj) : Loc O (w.alloc o) N cs T := ⟨(Below.heap_alloc _ _ _ (heap_lt h.heap)).trans h.heap, h.out⟩
theorem Loc.new {O : Nat → Prop} {w : World} (cs : Array Value) (T : TypeId) (hO : ∀ g, O g → g < w.heap.size) : Loc O (w.alloc (.cells cs T)) w.heap.size cs T := ⟨heap_alloc_new w _, fun h => by have := hO _ h; omega⟩
theorem Loc.lt {O : Nat → Prop} {w : World} {N : Nat} {cs : Array Value} {T : TypeId} (h : Loc O w N cs T) : N < w.heap.size := heap_lt h.heap
theorem ARes.bind_bind {α β γ : Type} (r : ARes α) (f : α → ASt → ARes β) (g : β → ASt → ARes γ) : (r.bind f).bind g = r.bind fun v s => (f v s).bind g := by cases r <;> rfl
theorem ARes.bind_ok {α : Type} (r : ARes α) : (r.bind fun v s => .ok v s) = r := by cases r <;> rfl
/-- One register more has been read. -/
theorem aRegs_step {k fr : Nat} (h : k < fr) (pre : List Int) (s : ASt) : ((aRegs k (fr - k) s).bind fun l s3 => .ok (pre ++ l) s3) =
    (aComma k s).bind fun _ s1 => (aReg s1).bind fun r s2 => (aRegs (k + 1) (fr - (k + 1)) s2).bind fun l s3 => .ok ((pre ++ [r]) ++ l) s3 := by
  obtain ⟨d, hd⟩ : ∃ d, fr - k = d + 1 := ⟨fr - k - 1, by omega⟩
  rw [hd, show fr - (k + 1) = d by omega, aRegs, ARes.bind_bind]
  congr 1
  funext u s1
  rw [ARes.bind_bind]
  congr 1
  funext r s2
  rw [ARes.bind_bind]
  congr 1
  funext l s3
  simp [ARes.bind]
structure OpsI (base p : Nat) (O : Nat → Prop) (w : World) (s : ASt) (fs : List UInt8) (fr fi : Nat) (k : Nat) (sk : ASt) (x : Int × Int × Int) (Ok : Nat → Prop) (wr : World) : Prop where
  st : St base p Ok wr sk
  frm : Fr w O wr Ok
  mu : mu sk ≤ mu s
  eqn : aRegs 0 fr s = (aRegs k (fr - k) sk).bind fun l s3 => .ok ([x.1, x.2.1, x.2.2].take k ++ l) s3
  z0 : k ≤ 0 → x.1 = 0
  z1 : k ≤ 1 → x.2.1 = 0
  z2 : k ≤ 2 → x.2.2 = 0
  lf : Loc Ok wr w.heap.size #[.string ⟨fs.toArray⟩, .int .i64 fr, .int .i64 fi] 64
  lr : Loc Ok wr (w.heap.size + 1) #[.int .i64 0, .int .i64 0, .int .i64 0, .int .i64 0, .int .i32 0] 40
  la : Loc Ok wr (w.heap.size + 1 + 1) #[.int .i64 x.1, .int .i64 x.2.1, .int .i64 x.2.2] 96
set_option maxRecDepth 50000 in
set_option maxHeartbeats 4000000 in
theorem operands_any (base p : Nat) (O : Nat → Prop) (s : ASt) (fs : List UInt8) (fr fi : Nat) (hfr : fr ≤ 3) (w : World) (h : St base p O w s) (hm : mu s ≤ 300000) :
    Calls Tryz.prog 105 #[.pointer (some ⟨p, 0, none⟩), .agg #[.string ⟨fs.toArray⟩, .int .i64 fr, .int .i64 fi]] w (MEnd base p O w s GIns.val (aOps (fr, fi) s)) := by
  have HS := Lib.hid h
  have HBB := Lib.hid h.lo
  have HFR := Lib.hid hfr
  have HMU := Lib.hid hm
  have HD : Hid (aOps (fr, fi) s = (aRegs 0 fr s).bind fun l s1 => (aLast (fr, fi) s1).bind fun v s2 => .ok ⟨0, l.getD 0 0, l.getD 1 0, l.getD 2 0, v⟩ s2) := Lib.hid rfl
  generalize aOps (fr, fi) s = q at *
  have HI0 : Hid (OpsI base p O w s fs fr fi 0 s (0, 0, 0) O (((w.alloc (.cells #[.string ⟨fs.toArray⟩, .int .i64 fr, .int .i64 fi] 64)).alloc (.cells #[.int .i64 0, .int .i64 0, .int .i64 0, .int .i64 0, .int .i32 0] 40)).alloc (.cells #[.int .i64 0, .int .i64 0, .int .i64 0] 96))) := Lib.hid (by
    have n0 := Loc.new (O := O) (w := w) #[.string ⟨fs.toArray⟩, .int .i64 fr, .int .i64 fi] 64 h.lo.2.1
    have n1 := Loc.new (O := O) (w := w.alloc (.cells #[.string ⟨fs.toArray⟩, .int .i64 fr, .int .i64 fi] 64)) #[.int .i64 0, .int .i64 0, .int .i64 0, .int .i64 0, .int .i32 0] 40 (fun g hg => by have := h.lo.2.1 g hg; simp; omega)
    have n2 := Loc.new (O := O) (w := (w.alloc (.cells #[.string ⟨fs.toArray⟩, .int .i64 fr, .int .i64 fi] 64)).alloc (.cells #[.int .i64 0, .int .i64 0, .int .i64 0, .int .i64 0, .int .i32 0] 40)) #[.int .i64 0, .int .i64 0, .int .i64 0] 96 (fun g hg => by have := h.lo.2.1 g hg; simp; omega)
    simp only [World.size_alloc] at n1 n2
    exact ⟨((h.lit _).lit _).lit _, (((Fr.refl w O).lit _).lit _).lit _, Nat.le_refl _, by
      show aRegs 0 fr s = (aRegs 0 fr s).bind fun l s3 => .ok ([] ++ l) s3
      simp only [List.nil_append]
      rw [ARes.bind_ok], fun _ => rfl, fun _ => rfl, fun _ => rfl, (n0.lit _).lit _, n1.lit _, n2⟩)
  clear h hfr hm
  go_enter Tryz.func105, Tryz.ntmps105
  go_wp2
  go_loopw [10] (fun vi wr => ∃ (k : Nat) (sk : ASt) (x : Int × Int × Int) (Ok : Nat → Prop), vi = .int .i64 k ∧ k ≤ fr ∧ Hid (OpsI base p O w s fs fr fi k sk x Ok wr)) (fun vi _ => fr - (intOf vi).toNat)
  case atStart => exact ⟨0, s, (0, 0, 0), O, rfl, Nat.zero_le _, HI0⟩
  case round =>
    obtain ⟨k, sk, ⟨x0, x1, x2⟩, Ok, rfl, hk, HI⟩ := hrel
    clear HI0
    rcases Nat.lt_or_ge k fr with hlt | hge
    · have f0 : decide ((k : Int) < fr) = true := by simp; omega
      rcases (by have := HFR.out; omega : k = 0 ∨ k = 1 ∨ k = 2) with rfl | rfl | rfl
      · have HE : Hid (aRegs 0 fr s = (aComma 0 sk).bind fun _ s1 => (aReg s1).bind fun r s2 => (aRegs 1 (fr - 1) s2).bind fun l s3 => .ok (([] ++ [r]) ++ l) s3) := Lib.hid (by rw [HI.out.eqn]; exact aRegs_step hlt [] sk)
        have HC := Lib.hid (comma_any base p Ok sk 0 wr HI.out.st)
        generalize aComma 0 sk = ac at *
        rcases ac with ⟨u, s1⟩ | ⟨l, c, y⟩
        · have HE1 : Hid (aRegs 0 fr s = (aReg s1).bind fun r s2 => (aRegs 1 (fr - 1) s2).bind fun l s3 => .ok (([] ++ [r]) ++ l) s3) := Lib.hid HE.out
          have HG := Lib.hid fun O1 W (hW : St base p O1 W s1) => areg_any base p O1 s1 W hW
          clear HE
          generalize aReg s1 = ar at *
          rcases ar with ⟨v, s2⟩ | ⟨l, c, y⟩
          · have HE2 : Hid (aRegs 0 fr s = (aRegs 1 (fr - 1) s2).bind fun l s3 => .ok (([] ++ [v]) ++ l) s3) := Lib.hid HE1.out
            go_wp2_with fail
            go_fit HC.out
            rintro e w1 ⟨rfl, hmu1, O1, hst1, hf1⟩
            have HF1 := Lib.hid hf1
            have HM1 := Lib.hid hmu1
            have HG1 := Lib.hid (HG.out O1 w1 hst1)
            clear hst1 hf1 hmu1 HG HC
            go_wp2_with fail
            go_fit HG1.out
            rintro e w2 ⟨rfl, hmu2, O2, hst2, hf2⟩
            have HF2 := Lib.hid (HF1.out.trans hf2)
            have HST2 := Lib.hid hst2
            have HM2 := Lib.hid hmu2
            have HLA := Lib.hid (HI.out.la.fr HF2.out)
            have c0 := HLA.out.cell 0
            have z0 := HLA.out.frozen 0
            simp only [List.getElem?_toArray, List.getElem?_cons_zero] at c0
            have hna : w.heap.size + 1 + 1 < w2.heap.size := HLA.out.lt
            have HI2 : Hid (OpsI base p O w s fs fr fi 1 s2 (v, x1, x2) O2 (w2.setCell ⟨w.heap.size + 1 + 1, 0, none⟩ (.int .i64 v))) := Lib.hid (by
              have hI := HI.out
              have hno := HLA.out.out
              have hnb : base ≤ w.heap.size + 1 + 1 := by have := HBB.out.2.2; omega
              exact ⟨HST2.out.other _ _ hnb hno, (hI.frm.trans HF2.out).set _ _ (.inr (by simp; omega)), by have := HM1.out; have := HM2.out; have := hI.mu; omega, HE2.out, fun h => absurd h (by omega), fun _ => hI.z1 (by omega), fun _ => hI.z2 (by omega),
                (hI.lf.fr HF2.out).beside _ _ (by simp; omega), (hI.lr.fr HF2.out).beside _ _ (by simp), HLA.out.set 0 (.int .i64 v)⟩)
            clear hst2 hf2 hmu2 HG1 HI
            go_wp2
            go_round
            case rel => exact ⟨1, s2, (v, x1, x2), O2, by go_num, by omega, HI2⟩
            case measure => simp [intOf]; omega
          · have HE2 : Hid (aRegs 0 fr s = .thr l c y) := Lib.hid HE1.out
            have HQ : Hid (q = .thr l c y) := Lib.hid (by rw [HD.out, HE2.out]; rfl)
            go_wp2_with fail
            go_fit HC.out
            rintro e w1 ⟨rfl, hmu1, O1, hst1, hf1⟩
            have HF1 := Lib.hid hf1
            have HG1 := Lib.hid (HG.out O1 w1 hst1)
            clear hst1 hf1 hmu1 HG HC
            go_wp2_with fail
            go_fit HG1.out
            rintro e w2 ⟨rfl, hb2⟩
            have HB2 := Lib.hid (((HI.out.frm.trans HF1.out).bel HBB.out.1 HBB.out.2.2).trans hb2)
            clear hb2
            go_wp2
            refine ⟨rfl, ?_⟩
            rw [HQ.out]
            exact ⟨rfl, HB2.out⟩
        · have HE1 : Hid (aRegs 0 fr s = .thr l c y) := Lib.hid HE.out
          have HQ : Hid (q = .thr l c y) := Lib.hid (by rw [HD.out, HE1.out]; rfl)
          go_wp2_with fail
          go_fit HC.out
          rintro e w1 ⟨rfl, hb1⟩
          have HB1 := Lib.hid ((HI.out.frm.bel HBB.out.1 HBB.out.2.2).trans hb1)
          clear hb1
          go_wp2
          refine ⟨rfl, ?_⟩
          rw [HQ.out]
          exact ⟨rfl, HB1.out⟩
      · have HE : Hid (aRegs 0 fr s = (aComma 1 sk).bind fun _ s1 => (aReg s1).bind fun r s2 => (aRegs 2 (fr - 2) s2).bind fun l s3 => .ok (([x0] ++ [r]) ++ l) s3) := Lib.hid (by rw [HI.out.eqn]; exact aRegs_step hlt [x0] sk)
        have HC := Lib.hid (comma_any base p Ok sk 1 wr HI.out.st)
        generalize aComma 1 sk = ac at *
        rcases ac with ⟨u, s1⟩ | ⟨l, c, y⟩
        · have HE1 : Hid (aRegs 0 fr s = (aReg s1).bind fun r s2 => (aRegs 2 (fr - 2) s2).bind fun l s3 => .ok (([x0] ++ [r]) ++ l) s3) := Lib.hid HE.out
          have HG := Lib.hid fun O1 W (hW : St base p O1 W s1) => areg_any base p O1 s1 W hW
          clear HE
          generalize aReg s1 = ar at *
          rcases ar with ⟨v, s2⟩ | ⟨l, c, y⟩
          · have HE2 : Hid (aRegs 0 fr s = (aRegs 2 (fr - 2) s2).bind fun l s3 => .ok (([x0] ++ [v]) ++ l) s3) := Lib.hid HE1.out
            go_wp2_with fail
            go_fit HC.out
            rintro e w1 ⟨rfl, hmu1, O1, hst1, hf1⟩
            have HF1 := Lib.hid hf1
            have HM1 := Lib.hid hmu1
            have HG1 := Lib.hid (HG.out O1 w1 hst1)
            clear hst1 hf1 hmu1 HG HC
            go_wp2_with fail
            go_fit HG1.out
            rintro e w2 ⟨rfl, hmu2, O2, hst2, hf2⟩
            have HF2 := Lib.hid (HF1.out.trans hf2)
            have HST2 := Lib.hid hst2
            have HM2 := Lib.hid hmu2
            have HLA := Lib.hid (HI.out.la.fr HF2.out)
            have c0 := HLA.out.cell 1
            have z0 := HLA.out.frozen 1
            simp only [List.getElem?_toArray, List.getElem?_cons_zero, List.getElem?_cons_succ] at c0
            have hna : w.heap.size + 1 + 1 < w2.heap.size := HLA.out.lt
            have HI2 : Hid (OpsI base p O w s fs fr fi 2 s2 (x0, v, x2) O2 (w2.setCell ⟨w.heap.size + 1 + 1, 1, none⟩ (.int .i64 v))) := Lib.hid (by
              have hI := HI.out
              have hno := HLA.out.out
              have hnb : base ≤ w.heap.size + 1 + 1 := by have := HBB.out.2.2; omega
              exact ⟨HST2.out.other _ _ hnb hno, (hI.frm.trans HF2.out).set _ _ (.inr (by simp; omega)), by have := HM1.out; have := HM2.out; have := hI.mu; omega, HE2.out, fun h => absurd h (by omega), fun h => absurd h (by omega), fun _ => hI.z2 (by omega),
                (hI.lf.fr HF2.out).beside _ _ (by simp; omega), (hI.lr.fr HF2.out).beside _ _ (by simp), HLA.out.set 1 (.int .i64 v)⟩)
            clear hst2 hf2 hmu2 HG1 HI
            go_wp2
            go_round
            case rel => exact ⟨2, s2, (x0, v, x2), O2, by go_num, by omega, HI2⟩
            case measure => simp [intOf]; omega
          · have HE2 : Hid (aRegs 0 fr s = .thr l c y) := Lib.hid HE1.out
            have HQ : Hid (q = .thr l c y) := Lib.hid (by rw [HD.out, HE2.out]; rfl)
            go_wp2_with fail
            go_fit HC.out
            rintro e w1 ⟨rfl, hmu1, O1, hst1, hf1⟩
            have HF1 := Lib.hid hf1
            have HG1 := Lib.hid (HG.out O1 w1 hst1)
            clear hst1 hf1 hmu1 HG HC
            go_wp2_with fail
            go_fit HG1.out
            rintro e w2 ⟨rfl, hb2⟩
            have HB2 := Lib.hid (((HI.out.frm.trans HF1.out).bel HBB.out.1 HBB.out.2.2).trans hb2)
            clear hb2
            go_wp2
            refine ⟨rfl, ?_⟩
            rw [HQ.out]
            exact ⟨rfl, HB2.out⟩
        · have HE1 : Hid (aRegs 0 fr s = .thr l c y) := Lib.hid HE.out
          have HQ : Hid (q = .thr l c y) := Lib.hid (by rw [HD.out, HE1.out]; rfl)
          go_wp2_with fail
          go_fit HC.out
          rintro e w1 ⟨rfl, hb1⟩
          have HB1 := Lib.hid ((HI.out.frm.bel HBB.out.1 HBB.out.2.2).trans hb1)
          clear hb1
          go_wp2
          refine ⟨rfl, ?_⟩
          rw [HQ.out]
          exact ⟨rfl, HB1.out⟩
      · have HE : Hid (aRegs 0 fr s = (aComma 2 sk).bind fun _ s1 => (aReg s1).bind fun r s2 => (aRegs 3 (fr - 3) s2).bind fun l s3 => .ok (([x0, x1] ++ [r]) ++ l) s3) := Lib.hid (by rw [HI.out.eqn]; exact aRegs_step hlt [x0, x1] sk)
        have HC := Lib.hid (comma_any base p Ok sk 2 wr HI.out.st)
        generalize aComma 2 sk = ac at *
        rcases ac with ⟨u, s1⟩ | ⟨l, c, y⟩
        · have HE1 : Hid (aRegs 0 fr s = (aReg s1).bind fun r s2 => (aRegs 3 (fr - 3) s2).bind fun l s3 => .ok (([x0, x1] ++ [r]) ++ l) s3) := Lib.hid HE.out
          have HG := Lib.hid fun O1 W (hW : St base p O1 W s1) => areg_any base p O1 s1 W hW
          clear HE
          generalize aReg s1 = ar at *
          rcases ar with ⟨v, s2⟩ | ⟨l, c, y⟩
          · have HE2 : Hid (aRegs 0 fr s = (aRegs 3 (fr - 3) s2).bind fun l s3 => .ok (([x0, x1] ++ [v]) ++ l) s3) := Lib.hid HE1.out
            go_wp2_with fail
            go_fit HC.out
            rintro e w1 ⟨rfl, hmu1, O1, hst1, hf1⟩
            have HF1 := Lib.hid hf1
            have HM1 := Lib.hid hmu1
            have HG1 := Lib.hid (HG.out O1 w1 hst1)
            clear hst1 hf1 hmu1 HG HC
            go_wp2_with fail
            go_fit HG1.out
            rintro e w2 ⟨rfl, hmu2, O2, hst2, hf2⟩
            have HF2 := Lib.hid (HF1.out.trans hf2)
            have HST2 := Lib.hid hst2
            have HM2 := Lib.hid hmu2
            have HLA := Lib.hid (HI.out.la.fr HF2.out)
            have c0 := HLA.out.cell 2
            have z0 := HLA.out.frozen 2
            simp only [List.getElem?_toArray, List.getElem?_cons_zero, List.getElem?_cons_succ] at c0
            have hna : w.heap.size + 1 + 1 < w2.heap.size := HLA.out.lt
            have HI2 : Hid (OpsI base p O w s fs fr fi 3 s2 (x0, x1, v) O2 (w2.setCell ⟨w.heap.size + 1 + 1, 2, none⟩ (.int .i64 v))) := Lib.hid (by
              have hI := HI.out
              have hno := HLA.out.out
              have hnb : base ≤ w.heap.size + 1 + 1 := by have := HBB.out.2.2; omega
              exact ⟨HST2.out.other _ _ hnb hno, (hI.frm.trans HF2.out).set _ _ (.inr (by simp; omega)), by have := HM1.out; have := HM2.out; have := hI.mu; omega, HE2.out, fun h => absurd h (by omega), fun h => absurd h (by omega), fun h => absurd h (by omega),
                (hI.lf.fr HF2.out).beside _ _ (by simp; omega), (hI.lr.fr HF2.out).beside _ _ (by simp), HLA.out.set 2 (.int .i64 v)⟩)
            clear hst2 hf2 hmu2 HG1 HI
            go_wp2
            go_round
            case rel => exact ⟨3, s2, (x0, x1, v), O2, by go_num, by omega, HI2⟩
            case measure => simp [intOf]; omega
          · have HE2 : Hid (aRegs 0 fr s = .thr l c y) := Lib.hid HE1.out
            have HQ : Hid (q = .thr l c y) := Lib.hid (by rw [HD.out, HE2.out]; rfl)
            go_wp2_with fail
            go_fit HC.out
            rintro e w1 ⟨rfl, hmu1, O1, hst1, hf1⟩
            have HF1 := Lib.hid hf1
            have HG1 := Lib.hid (HG.out O1 w1 hst1)
            clear hst1 hf1 hmu1 HG HC
            go_wp2_with fail
            go_fit HG1.out
            rintro e w2 ⟨rfl, hb2⟩
            have HB2 := Lib.hid (((HI.out.frm.trans HF1.out).bel HBB.out.1 HBB.out.2.2).trans hb2)
            clear hb2
            go_wp2
            refine ⟨rfl, ?_⟩
            rw [HQ.out]
            exact ⟨rfl, HB2.out⟩
        · have HE1 : Hid (aRegs 0 fr s = .thr l c y) := Lib.hid HE.out
          have HQ : Hid (q = .thr l c y) := Lib.hid (by rw [HD.out, HE1.out]; rfl)
          go_wp2_with fail
          go_fit HC.out
          rintro e w1 ⟨rfl, hb1⟩
          have HB1 := Lib.hid ((HI.out.frm.bel HBB.out.1 HBB.out.2.2).trans hb1)
          clear hb1
          go_wp2
          refine ⟨rfl, ?_⟩
          rw [HQ.out]
          exact ⟨rfl, HB1.out⟩
    · obtain rfl : fr = k := by omega
      have f0 : decide ((fr : Int) < fr) = false := by simp
      have HQ1 : Hid (q = (aLast (fr, fi) sk).bind fun v s2 => .ok ⟨0, x0, x1, x2, v⟩ s2) := Lib.hid (by
        have hI := HI.out
        rw [HD.out, hI.eqn, Nat.sub_self]
        show (aLast (fr, fi) sk).bind _ = _
        congr 1
        funext v s2
        have h0 := hI.z0
        have h1 := hI.z1
        have h2 := hI.z2
        simp only at h0 h1 h2
        rcases (by have := HFR.out; omega : fr = 0 ∨ fr = 1 ∨ fr = 2 ∨ fr = 3) with rfl | rfl | rfl | rfl
        · rw [h0 (by omega), h1 (by omega), h2 (by omega)]; rfl
        · rw [h1 (by omega), h2 (by omega)]; rfl
        · rw [h2 (by omega)]; rfl
        · rfl)
      have HSTA := Lib.hid (HI.out.st.lit (.cells #[.int .i64 0, .int .i64 x0, .int .i64 x1, .int .i64 x2, .int .i32 0] 40))
      have HFA := Lib.hid (HI.out.frm.lit (.cells #[.int .i64 0, .int .i64 x0, .int .i64 x1, .int .i64 x2, .int .i32 0] 40))
      have HLI := Lib.hid (Loc.new (O := Ok) (w := wr) #[.int .i64 0, .int .i64 x0, .int .i64 x1, .int .i64 x2, .int .i32 0] 40 HI.out.st.lo.2.1)
      have HLR := Lib.hid (HI.out.lr.lit (.cells #[.int .i64 0, .int .i64 x0, .int .i64 x1, .int .i64 x2, .int .i32 0] 40))
      have a0 := HI.out.la.cell 0
      have a1 := HI.out.la.cell 1
      have a2 := HI.out.la.cell 2
      have b1 := HI.out.lf.cell 1
      have b2 := HI.out.lf.cell 2
      simp only [List.getElem?_toArray, List.getElem?_cons_zero, List.getElem?_cons_succ] at a0 a1 a2 b1 b2
      have hla : w.heap.size + 1 + 1 < wr.heap.size := HI.out.la.lt
      have hlf : w.heap.size < wr.heap.size := by omega
      have hlr : w.heap.size + 1 < wr.heap.size := by omega
      have hne : ¬ w.heap.size + 1 = wr.heap.size := by omega
      clear HD
      rcases (by omega : fi = 1 ∨ fi = 2 ∨ (fi ≠ 1 ∧ fi ≠ 2)) with rfl | rfl | ⟨n1, n2⟩
      · have HC := Lib.hid (comma_any base p Ok sk fr _ HSTA.out)
        have HQ2 : Hid (q = (aComma fr sk).bind fun _ s1 => (aImm s1).bind fun v s2 => .ok ⟨0, x0, x1, x2, v⟩ s2) := Lib.hid (by
          rw [HQ1.out]
          show ((aComma fr sk).bind fun _ s1 => aImm s1).bind _ = _
          rw [ARes.bind_bind])
        clear HQ1
        generalize aComma fr sk = ac at *
        rcases ac with ⟨u, s1⟩ | ⟨l, c, y⟩
        · have HQ3 : Hid (q = (aImm s1).bind fun v s2 => .ok ⟨0, x0, x1, x2, v⟩ s2) := Lib.hid HQ2.out
          have HG := Lib.hid fun O1 W (hW : St base p O1 W s1) (hm : mu s1 ≤ 300000) => immediate_any base p O1 s1 W hW hm
          clear HQ2
          generalize aImm s1 = ar at *
          rcases ar with ⟨v, s2⟩ | ⟨l, c, y⟩
          · have HQ : Hid (q = .ok ⟨0, x0, x1, x2, v⟩ s2) := Lib.hid HQ3.out
            go_wp2_with fail
            go_fit HC.out
            rintro e w1 ⟨rfl, hmu1, O1, hst1, hf1⟩
            have HF1 := Lib.hid (HFA.out.trans hf1)
            have HM1 := Lib.hid hmu1
            have HL1 := Lib.hid (HLI.out.fr hf1)
            have HR1 := Lib.hid (HLR.out.fr hf1)
            have HG1 := Lib.hid (HG.out O1 w1 hst1 (by have := HMU.out; have := HI.out.mu; omega))
            clear hst1 hf1 hmu1 HG HC
            go_wp2_with fail
            go_fit HG1.out
            rintro e w2 ⟨rfl, hmu2, O2, hst2, hf2⟩
            have HF2 := Lib.hid (HF1.out.trans hf2)
            have HST2 := Lib.hid hst2
            have HM2 := Lib.hid hmu2
            have HL2 := Lib.hid (HL1.out.fr hf2)
            have HR2 := Lib.hid (HR1.out.fr hf2)
            have d0 := HL2.out.cell 0
            have d1 := HL2.out.cell 1
            have d2 := HL2.out.cell 2
            have d3 := HL2.out.cell 3
            have d4 := HL2.out.cell 4
            have e4 := HL2.out.frozen 4
            have g0 := HR2.out.cell 0
            have g1 := HR2.out.cell 1
            have g2 := HR2.out.cell 2
            have g3 := HR2.out.cell 3
            have g4 := HR2.out.cell 4
            have k0 := HR2.out.frozen 0
            have k1 := HR2.out.frozen 1
            have k2 := HR2.out.frozen 2
            have k3 := HR2.out.frozen 3
            have k4 := HR2.out.frozen 4
            simp only [List.getElem?_toArray, List.getElem?_cons_zero, List.getElem?_cons_succ] at d0 d1 d2 d3 d4 g0 g1 g2 g3 g4
            have hlt2 : wr.heap.size < w2.heap.size := HL2.out.lt
            have hlr2 : w.heap.size + 1 < w2.heap.size := HR2.out.lt
            have HEND : Hid (MEnd base p O w s GIns.val q (.returned (GIns.val ⟨0, x0, x1, x2, v⟩)) ((((((w2.setCell ⟨wr.heap.size, 4, none⟩ (.int .i32 v)).setCell ⟨w.heap.size + 1, 0, none⟩ (.int .i64 0)).setCell ⟨w.heap.size + 1, 1, none⟩ (.int .i64 x0)).setCell ⟨w.heap.size + 1, 2, none⟩ (.int .i64 x1)).setCell ⟨w.heap.size + 1, 3, none⟩ (.int .i64 x2)).setCell ⟨w.heap.size + 1, 4, none⟩ (.int .i32 v))) := Lib.hid (by
              rw [HQ.out]
              have hb0 := HBB.out.2.2
              have ob := HL2.out.out
              have orr := HR2.out.out
              have hwr := HI.out.frm.size
              refine ⟨rfl, by have := HM1.out; have := HM2.out; have := HI.out.mu; omega, O2, ?_, ?_⟩
              · exact (((((HST2.out.other _ _ (by show base ≤ wr.heap.size; omega) ob).other _ _ (by show base ≤ w.heap.size + 1; omega) orr).other _ _ (by show base ≤ w.heap.size + 1; omega) orr).other _ _ (by show base ≤ w.heap.size + 1; omega) orr).other _ _ (by show base ≤ w.heap.size + 1; omega) orr).other _ _ (by show base ≤ w.heap.size + 1; omega) orr
              · exact (((((HF2.out.set _ _ (.inr hwr)).set _ _ (.inr (by simp))).set _ _ (.inr (by simp))).set _ _ (.inr (by simp))).set _ _ (.inr (by simp))).set _ _ (.inr (by simp)))
            clear hst2 hf2 hmu2 HG1
            go_wp2
            refine bodyPost_ret (v := GIns.val ⟨0, x0, x1, x2, v⟩) (by simp [results, Tryz.results105, go_sem, GIns.val, g0, g1, g2, g3, g4]) rfl ?_
            exact HEND.out
          · have HQ : Hid (q = .thr l c y) := Lib.hid HQ3.out
            go_wp2_with fail
            go_fit HC.out
            rintro e w1 ⟨rfl, hmu1, O1, hst1, hf1⟩
            have HF1 := Lib.hid (HFA.out.trans hf1)
            have HG1 := Lib.hid (HG.out O1 w1 hst1 (by have := HMU.out; have := HI.out.mu; omega))
            clear hst1 hf1 hmu1 HG HC
            go_wp2_with fail
            go_fit HG1.out
            rintro e w2 ⟨rfl, hb2⟩
            have HB2 := Lib.hid ((HF1.out.bel HBB.out.1 HBB.out.2.2).trans hb2)
            clear hb2
            go_wp2
            refine ⟨rfl, ?_⟩
            rw [HQ.out]
            exact ⟨rfl, HB2.out⟩
        · have HQ : Hid (q = .thr l c y) := Lib.hid HQ2.out
          go_wp2_with fail
          go_fit HC.out
          rintro e w1 ⟨rfl, hb1⟩
          have HB1 := Lib.hid ((HFA.out.bel HBB.out.1 HBB.out.2.2).trans hb1)
          clear hb1
          go_wp2
          refine ⟨rfl, ?_⟩
          rw [HQ.out]
          exact ⟨rfl, HB1.out⟩
      · have HC := Lib.hid (comma_any base p Ok sk fr _ HSTA.out)
        have HQ2 : Hid (q = (aComma fr sk).bind fun _ s1 => (aTarget s1).bind fun v s2 => .ok ⟨0, x0, x1, x2, v⟩ s2) := Lib.hid (by
          rw [HQ1.out]
          show ((aComma fr sk).bind fun _ s1 => aTarget s1).bind _ = _
          rw [ARes.bind_bind])
        clear HQ1
        generalize aComma fr sk = ac at *
        rcases ac with ⟨u, s1⟩ | ⟨l, c, y⟩
        · have HQ3 : Hid (q = (aTarget s1).bind fun v s2 => .ok ⟨0, x0, x1, x2, v⟩ s2) := Lib.hid HQ2.out
          have HG := Lib.hid fun O1 W (hW : St base p O1 W s1) (hm : mu s1 ≤ 300000) => target_any base p O1 s1 W hW hm
          clear HQ2
          generalize aTarget s1 = ar at *
          rcases ar with ⟨v, s2⟩ | ⟨l, c, y⟩
          · have HQ : Hid (q = .ok ⟨0, x0, x1, x2, v⟩ s2) := Lib.hid HQ3.out
            go_wp2_with fail
            go_fit HC.out
            rintro e w1 ⟨rfl, hmu1, O1, hst1, hf1⟩
            have HF1 := Lib.hid (HFA.out.trans hf1)
            have HM1 := Lib.hid hmu1
            have HL1 := Lib.hid (HLI.out.fr hf1)
            have HR1 := Lib.hid (HLR.out.fr hf1)
            have HG1 := Lib.hid (HG.out O1 w1 hst1 (by have := HMU.out; have := HI.out.mu; omega))
            clear hst1 hf1 hmu1 HG HC
            go_wp2_with fail
            go_fit HG1.out
            rintro e w2 ⟨rfl, hmu2, O2, hst2, hf2⟩
            have HF2 := Lib.hid (HF1.out.trans hf2)
            have HST2 := Lib.hid hst2
            have HM2 := Lib.hid hmu2
            have HL2 := Lib.hid (HL1.out.fr hf2)
            have HR2 := Lib.hid (HR1.out.fr hf2)
            have d0 := HL2.out.cell 0
            have d1 := HL2.out.cell 1
            have d2 := HL2.out.cell 2
            have d3 := HL2.out.cell 3
            have d4 := HL2.out.cell 4
            have e4 := HL2.out.frozen 4
            have g0 := HR2.out.cell 0
            have g1 := HR2.out.cell 1
            have g2 := HR2.out.cell 2
            have g3 := HR2.out.cell 3
            have g4 := HR2.out.cell 4
            have k0 := HR2.out.frozen 0
            have k1 := HR2.out.frozen 1
            have k2 := HR2.out.frozen 2
            have k3 := HR2.out.frozen 3
            have k4 := HR2.out.frozen 4
            simp only [List.getElem?_toArray, List.getElem?_cons_zero, List.getElem?_cons_succ] at d0 d1 d2 d3 d4 g0 g1 g2 g3 g4
            have hlt2 : wr.heap.size < w2.heap.size := HL2.out.lt
            have hlr2 : w.heap.size + 1 < w2.heap.size := HR2.out.lt
            have HEND : Hid (MEnd base p O w s GIns.val q (.returned (GIns.val ⟨0, x0, x1, x2, v⟩)) ((((((w2.setCell ⟨wr.heap.size, 4, none⟩ (.int .i32 v)).setCell ⟨w.heap.size + 1, 0, none⟩ (.int .i64 0)).setCell ⟨w.heap.size + 1, 1, none⟩ (.int .i64 x0)).setCell ⟨w.heap.size + 1, 2, none⟩ (.int .i64 x1)).setCell ⟨w.heap.size + 1, 3, none⟩ (.int .i64 x2)).setCell ⟨w.heap.size + 1, 4, none⟩ (.int .i32 v))) := Lib.hid (by
              rw [HQ.out]
              have hb0 := HBB.out.2.2
              have ob := HL2.out.out
              have orr := HR2.out.out
              have hwr := HI.out.frm.size
              refine ⟨rfl, by have := HM1.out; have := HM2.out; have := HI.out.mu; omega, O2, ?_, ?_⟩
              · exact (((((HST2.out.other _ _ (by show base ≤ wr.heap.size; omega) ob).other _ _ (by show base ≤ w.heap.size + 1; omega) orr).other _ _ (by show base ≤ w.heap.size + 1; omega) orr).other _ _ (by show base ≤ w.heap.size + 1; omega) orr).other _ _ (by show base ≤ w.heap.size + 1; omega) orr).other _ _ (by show base ≤ w.heap.size + 1; omega) orr
              · exact (((((HF2.out.set _ _ (.inr hwr)).set _ _ (.inr (by simp))).set _ _ (.inr (by simp))).set _ _ (.inr (by simp))).set _ _ (.inr (by simp))).set _ _ (.inr (by simp)))
            clear hst2 hf2 hmu2 HG1
            go_wp2
            refine bodyPost_ret (v := GIns.val ⟨0, x0, x1, x2, v⟩) (by simp [results, Tryz.results105, go_sem, GIns.val, g0, g1, g2, g3, g4]) rfl ?_
            exact HEND.out
          · have HQ : Hid (q = .thr l c y) := Lib.hid HQ3.out
            go_wp2_with fail
            go_fit HC.out
            rintro e w1 ⟨rfl, hmu1, O1, hst1, hf1⟩
            have HF1 := Lib.hid (HFA.out.trans hf1)
            have HG1 := Lib.hid (HG.out O1 w1 hst1 (by have := HMU.out; have := HI.out.mu; omega))
            clear hst1 hf1 hmu1 HG HC
            go_wp2_with fail
            go_fit HG1.out
            rintro e w2 ⟨rfl, hb2⟩
            have HB2 := Lib.hid ((HF1.out.bel HBB.out.1 HBB.out.2.2).trans hb2)
            clear hb2
            go_wp2
            refine ⟨rfl, ?_⟩
            rw [HQ.out]
            exact ⟨rfl, HB2.out⟩
        · have HQ : Hid (q = .thr l c y) := Lib.hid HQ2.out
          go_wp2_with fail
          go_fit HC.out
          rintro e w1 ⟨rfl, hb1⟩
          have HB1 := Lib.hid ((HFA.out.bel HBB.out.1 HBB.out.2.2).trans hb1)
          clear hb1
          go_wp2
          refine ⟨rfl, ?_⟩
          rw [HQ.out]
          exact ⟨rfl, HB1.out⟩
      · have HQ : Hid (q = .ok ⟨0, x0, x1, x2, 0⟩ sk) := Lib.hid (by
          rw [HQ1.out]
          unfold aLast
          rw [if_neg n1, if_neg n2]; rfl)
        have f1 : ((fi : Int) == 1) = false := by simp; omega
        have f2 : ((fi : Int) == 2) = false := by simp; omega
        have N1 : ¬ (fi : Int) = 1 := by omega
        have N2 : ¬ (fi : Int) = 2 := by omega
        have g0 := HI.out.lr.cell 0
        have g1 := HI.out.lr.cell 1
        have g2 := HI.out.lr.cell 2
        have g3 := HI.out.lr.cell 3
        have g4 := HI.out.lr.cell 4
        have k0 := HI.out.lr.frozen 0
        have k1 := HI.out.lr.frozen 1
        have k2 := HI.out.lr.frozen 2
        have k3 := HI.out.lr.frozen 3
        have k4 := HI.out.lr.frozen 4
        simp only [List.getElem?_toArray, List.getElem?_cons_zero, List.getElem?_cons_succ] at g0 g1 g2 g3 g4
        have HEND : Hid (MEnd base p O w s GIns.val q (.returned (GIns.val ⟨0, x0, x1, x2, 0⟩)) ((((((wr.setCell ⟨w.heap.size + 1, 0, none⟩ (.int .i64 0)).setCell ⟨w.heap.size + 1, 1, none⟩ (.int .i64 x0)).setCell ⟨w.heap.size + 1, 2, none⟩ (.int .i64 x1)).setCell ⟨w.heap.size + 1, 3, none⟩ (.int .i64 x2)).setCell ⟨w.heap.size + 1, 4, none⟩ (.int .i32 0)).alloc (.cells #[.int .i64 0, .int .i64 x0, .int .i64 x1, .int .i64 x2, .int .i32 0] 40))) := Lib.hid (by
          rw [HQ.out]
          have hb0 := HBB.out.2.2
          have orr := HI.out.lr.out
          refine ⟨rfl, HI.out.mu, Ok, ?_, ?_⟩
          · exact (((((HI.out.st.other _ _ (by show base ≤ w.heap.size + 1; omega) orr).other _ _ (by show base ≤ w.heap.size + 1; omega) orr).other _ _ (by show base ≤ w.heap.size + 1; omega) orr).other _ _ (by show base ≤ w.heap.size + 1; omega) orr).other _ _ (by show base ≤ w.heap.size + 1; omega) orr).lit _
          · exact (((((HI.out.frm.set _ _ (.inr (by simp))).set _ _ (.inr (by simp))).set _ _ (.inr (by simp))).set _ _ (.inr (by simp))).set _ _ (.inr (by simp))).lit _)
        go_wp2
        refine bodyPost_ret (v := GIns.val ⟨0, x0, x1, x2, 0⟩) (by simp [results, Tryz.results105, go_sem, GIns.val, hlr, g0, g1, g2, g3, g4]) rfl ?_
        exact HEND.out
end Go.Proofs.YtahhmgoffdggpaaGreatDoor


namespace Go.Proofs.YtahhmgoffdggpaaGreatDoor

open Go.RowKit

/-- The token behind the next one. -/
theorem StX.second {base p : Nat} {O : Nat → Prop} {w : World} {s : ASt} {c m : Nat} {pv ov : Value} {b off : Nat} (h : StX base p O w s (some ⟨b, off, none⟩) c pv m ov) {t u : GTok} {r : List GTok} (hs : s.ts = t :: u :: r) :
    w.cell? ⟨b, off + 5, none⟩ = some (.int .i64 u.kind) ∧ w.cell? ⟨b, off + 5 + 1, none⟩ = some (.string ⟨u.text.toArray⟩) ∧ w.cell? ⟨b, off + 5 + 2, none⟩ = some (.int .u64 u.value) ∧ w.cell? ⟨b, off + 5 + 3, none⟩ = some (.int .i64 u.line) ∧ w.cell? ⟨b, off + 5 + 4, none⟩ = some (.int .i64 u.col) := by
  have hr := h.row
  rw [hs] at hr
  obtain ⟨b2, off2, e, hb, hc⟩ := hr.tail (by simp)
  cases e
  have c := fun j u hu => hc 0 (by simp) j u hu
  simp only [Nat.zero_mul, Nat.zero_add, List.getElem_cons_zero] at c
  exact ⟨c 0 _ rfl, c 1 _ rfl, c 2 _ rfl, c 3 _ rfl, c 4 _ rfl⟩
set_option maxRecDepth 50000 in
set_option maxHeartbeats 1000000 in
theorem atLabel_any (base p : Nat) (O : Nat → Prop) (s : ASt) (w : World) (h : St base p O w s) :
    Calls Tryz.prog 77 #[.pointer (some ⟨p, 0, none⟩)] w fun e w' => e = .returned (.bool (atLab s)) ∧ Below w.heap.size w w' := by
  have HD : Hid (atLab s = (decide (s.hd.kind = 1) && isMk s.next.hd [58])) := Lib.hid rfl
  obtain ⟨t, r, b, off, c, pv, m, ov, hts, hhd, hX, hb, hbp, hpw, hc1, hc2, ⟨x0, x1, x2, x3, x4⟩, ⟨p0, p1, p2, p3, z0, z1, z2, z3⟩⟩ := h.get
  have hbw : b < w.heap.size := by omega
  rw [hhd] at HD
  generalize atLab s = q at *
  by_cases hk : t.kind = 1
  · have hen := hX.ends
    rw [hts] at hen
    obtain ⟨_, u, r2, hr2, _⟩ := hen.more (by omega)
    have hts2 := hts
    rw [hr2] at hts2
    obtain ⟨y0, y1, y2, y3, y4⟩ := hX.second hts2
    have hnx : s.next.hd = u := by
      unfold ASt.hd ASt.next
      simp only [hts2, List.tail_cons]; rfl
    have HQ : Hid (q = isMk u [58]) := Lib.hid (by rw [HD.out, hnx, hk]; simp)
    have HIM := Lib.hid fun W => isMark_any u [58] W
    have hl : r.length = r2.length + 1 := by rw [hr2]; simp
    have hi : (1 : Int) < (r.length + 1 : Nat) := by omega
    have hi2 : decide ((1 : Int) < (r.length + 1 : Nat)) = true := by simp; omega
    generalize isMk u [58] = qb at *
    generalize r.length = n at *
    clear h hX hts hhd HD hts2 hnx hen hr2
    obtain ⟨uk, ut, uv, ul, uc⟩ := u
    simp only [GTok.tval] at *
    rw [hk] at x0
    clear hk
    go_enter Tryz.func77, Tryz.ntmps77
    go_wp2_with fail
    go_fit (HIM.out _)
    rintro e w1 ⟨rfl, hb1⟩
    have HB1 := Lib.hid hb1
    clear hb1
    go_wp2
    go_ret
    exact ⟨ret_bool HQ.out.symm, HB1.out⟩
  · have HQ : Hid (q = false) := Lib.hid (by rw [HD.out]; simp [hk])
    have f1 : (t.kind == 1) = false := by simp [hk]
    clear h hX hts hhd HD
    go_enter Tryz.func77, Tryz.ntmps77
    go_wp2
    go_ret
    exact ⟨ret_bool HQ.out.symm, Below.refl _ _⟩
theorem key_str {l : List UInt8} (h : l.length ≤ maxLen) : keyOf Tryz.prog 9 (.string ⟨l.toArray⟩) = some (.string l) := by
  have := Go.WideMaps.keyOf_string_mk (P := Tryz.prog) (k := 9) Tryz.underlying9 (s := ⟨l.toArray⟩) (by rw [ByteArray.size]; simpa using h)
  simpa using this
/-- A label is looked up. -/
theorem zero_int (w : World) : (zeroValue 3).run Tryz.prog w = .ok (.int .i64 0) w := by kernel_rfl
theorem StX.look {base p : Nat} {O : Nat → Prop} {w : World} {s : ASt} {A : Option Addr} {c m : Nat} {pv ov : Value} (h : StX base p O w s A c pv m ov) {l : List UInt8} (hl : l.length ≤ maxLen) :
    (Instr.lookup 105 (.map (some m)) (.string ⟨l.toArray⟩) true).run Tryz.prog w = .ok (.tuple #[.int .i64 ((labOf s.labs l).getD 0 : Nat), .bool (labOf s.labs l).isSome]) w := by
  have := h.labs.look (Go.Maps.string_keyed Tryz.underlying9) Tryz.underlying105 Tryz.underlying3 (zero_int w) (key_str hl)
  rw [labS_of] at this
  cases hq : labOf s.labs l <;> (rw [hq] at this; simpa using this)
/-- A label is defined. -/
theorem StX.define {base p : Nat} {O : Nat → Prop} {w : World} {s : ASt} {A : Option Addr} {c m : Nat} {pv ov : Value} (h : StX base p O w s A c pv m ov) {l : List UInt8} (hl : l.length ≤ maxLen) {n : Nat} (hn : n ≤ 1000000) (hs : s.labs.length ≤ 1000000) :
    ∃ w', (Instr.mapUpdate 105 (.map (some m)) (.string ⟨l.toArray⟩) (.int .i64 n)).run Tryz.prog w = .ok () w' ∧ StX base p O w' { s with labs := (l, n) :: s.labs } A c pv m ov ∧ w.grownBy w' (some m) := by
  obtain ⟨w', hrun, hm, hg⟩ := h.labs.put (Go.Maps.string_keyed Tryz.underlying9) Tryz.underlying105 Tryz.underlying3 (by unfold maxLen; omega) (key_str hl) (v := (n : Int)) (WalkArith.wf_i64 (by omega))
  refine ⟨w', hrun, ?_, hg⟩
  have hk : ∀ g, g < w.heap.size → g ≠ m → w'.heap[g]? = w.heap[g]? := fun g hg1 hgm => hg.block g hg1 (by intro e; cases e; exact hgm rfl)
  have hlt := h.lt
  have hml := h.mlt
  exact { h with
    hi := fun g hg1 => Nat.lt_of_lt_of_le (h.hi g hg1) hg.size
    bw := Nat.le_trans h.bw hg.size
    hh := (hk p hlt.2 (fun e => h.hmp e.symm)).trans h.hh
    row := h.row.keep fun g hg1 => hk g (by have := h.bw; omega) (by omega)
    prog := h.prog.keep fun g hg1 => hk g (h.hi g (h.opv g hg1)) (fun e => h.hpv.2 (by rw [hg1, e]))
    refs := h.refs.keep fun g hg1 => hk g (h.hi g (h.oov g hg1)) (fun e => h.hov.2 (by rw [hg1, e]))
    labs := hm }
set_option maxRecDepth 50000 in
set_option maxHeartbeats 1000000 in
theorem label_any (base p : Nat) (O : Nat → Prop) (s : ASt) (w : World) (h : St base p O w s) (hm : mu s ≤ 300000) :
    Calls Tryz.prog 78 #[.pointer (some ⟨p, 0, none⟩)] w (MEnd base p O w s (fun _ => .tuple #[]) (aLabel s)) := by
  have HTK := Lib.hid (atake_any base p O s 1 w h (by decide))
  have HTM := Lib.hid fun t s1 (e : aTake 1 s = .ok t s1) => take_mu e h.ne
  have HTX : Hid (∀ t s1, aTake 1 s = .ok t s1 → t.text.length ≤ 65536) := Lib.hid fun t s1 e => by
    obtain ⟨_, e2⟩ := take_mu e h.ne
    obtain ⟨t0, r0, _, _, _, _, _, _, hts, hhd, _⟩ := h.get
    have hen := h.ends
    rw [hts] at hen
    rw [e2, hhd]
    exact hen.text
  have HD : Hid (aLabel s = (aTake 1 s).bind fun t s1 =>
    if (regNo t.text).isSome then thrAt t 50 else if (labOf s1.labs t.text).isSome then thrAt t 72 else aMark [58] { s1 with labs := (t.text, s1.prog.length) :: s1.labs }) := Lib.hid rfl
  have HBB := Lib.hid h.lo
  have HMM := Lib.hid hm
  generalize aLabel s = q at *
  generalize aTake 1 s = r at *
  clear h hm
  rcases r with ⟨t, s1⟩ | ⟨l, c, x⟩
  · have HTH := Lib.hid fun W n => throw_any t n W
    have HRG := Lib.hid fun W => register_any t.text W
    have HM1 := Lib.hid (HTM.out t s1 rfl).1
    have HTL := Lib.hid (HTX.out t s1 rfl)
    have HD2 : Hid (q = if (regNo t.text).isSome then thrAt t 50 else if (labOf s1.labs t.text).isSome then thrAt t 72 else aMark [58] { s1 with labs := (t.text, s1.prog.length) :: s1.labs }) := Lib.hid HD.out
    clear HD HTM HTX
    generalize regNo t.text = rn at *
    obtain ⟨tk, tt, tv, tl, tc⟩ := t
    simp only [GTok.tval] at HTH
    simp only at HRG HD2 HTL
    cases rn with
    | some n =>
      have HQ : Hid (q = thrAt ⟨tk, tt, tv, tl, tc⟩ 50) := Lib.hid HD2.out
      simp only [Option.getD_some, Option.isSome_some] at HRG
      clear HD2
      go_enter Tryz.func78, Tryz.ntmps78
      go_wp2_with fail
      go_fit HTK.out
      rintro e w1 ⟨he, hmu, O1, hst1, hf1⟩
      simp only [GTok.tval] at he
      subst he
      have HF := Lib.hid (hf1.bel HBB.out.1 HBB.out.2.2)
      have HL1 := Lib.hid hst1.lo
      clear hmu hst1 hf1 HTK
      go_wp2_with fail
      go_fit (HRG.out _)
      rintro e w2 ⟨rfl, hb2⟩
      have hcell := new_cells hb2
      have y0 := hcell 0
      have y1 := hcell 1
      have y2 := hcell 2
      have y3 := hcell 3
      have y4 := hcell 4
      simp only [List.getElem?_toArray, List.getElem?_cons_zero, List.getElem?_cons_succ] at y0 y1 y2 y3 y4
      have HB2 := Lib.hid (bel_alloc (Below.refl _ w1) hb2)
      clear hb2 hcell
      go_wp2_with fail
      go_fit (HTH.out _ 50)
      rintro e w3 ⟨rfl, hb3⟩
      have HB3 := Lib.hid (HF.out.trans ((bel_next HB2.out hb3).mono HL1.out.2.2))
      clear hb3
      go_wp2
      refine ⟨rfl, ?_⟩
      rw [HQ.out]
      exact ⟨rfl, HB3.out⟩
    | none =>
      have HD3 : Hid (q = if (labOf s1.labs tt).isSome then thrAt ⟨tk, tt, tv, tl, tc⟩ 72 else aMark [58] { s1 with labs := (tt, s1.prog.length) :: s1.labs }) := Lib.hid HD2.out
      simp only [Option.getD_none, Option.isSome_none] at HRG
      clear HD2
      go_enter Tryz.func78, Tryz.ntmps78
      go_wp2_with fail
      go_fit HTK.out
      rintro e w1 ⟨he, hmu, O1, hst1, hf1⟩
      simp only [GTok.tval] at he
      subst he
      have HST1 := Lib.hid hst1
      have HF1 := Lib.hid hf1
      clear hst1 hf1 HTK hmu
      go_wp2_with fail
      go_fit (HRG.out _)
      rintro e w2 ⟨rfl, hb2⟩
      have hcell := new_cells hb2
      have y0 := hcell 0
      have y1 := hcell 1
      have y2 := hcell 2
      have y3 := hcell 3
      have y4 := hcell 4
      simp only [List.getElem?_toArray, List.getElem?_cons_zero, List.getElem?_cons_succ] at y0 y1 y2 y3 y4
      have HB2 := Lib.hid (bel_alloc (Below.refl _ w1) hb2)
      have HNL : Hid (w1.heap.size < w2.heap.size) := Lib.hid (by have := hb2.size; simp at this; omega)
      have hst2 := HST1.out.next HB2.out
      have HL2 := Lib.hid hst2.lo
      obtain ⟨A, c, pv, m, ov, hX2⟩ := hst2
      have HX2 := Lib.hid hX2
      obtain ⟨p0, p1, p2, p3, z0, z1, z2, z3⟩ := hX2.cells
      obtain ⟨⟨AP, cP, hpv⟩, _⟩ := hX2.small
      subst hpv
      have hlk := (hX2.next ((Below.refl _ _).drew)).look (l := tt) (by have := HTL.out; unfold maxLen; omega)
      clear hb2 hcell hX2
      have hpw := HX2.out.lt
      generalize labOf s1.labs tt = ln at *
      cases ln with
      | some n =>
        have HQ : Hid (q = thrAt ⟨tk, tt, tv, tl, tc⟩ 72) := Lib.hid HD3.out
        simp only [Option.getD_some, Option.isSome_some] at hlk
        go_upto_region 4 with fail
        go_region
        have HX3 := Lib.hid (HX2.out.next ((Below.refl _ _).drew))
        have HF3 := Lib.hid ((HF1.out.next HB2.out).next ((Below.refl _ _).drew))
        have v0 : w2.drew.cell? ⟨w1.heap.size, 0, none⟩ = some (.int .i64 tk) := y0
        have v1 : w2.drew.cell? ⟨w1.heap.size, 1, none⟩ = some (.string ⟨tt.toArray⟩) := y1
        have v2 : w2.drew.cell? ⟨w1.heap.size, 2, none⟩ = some (.int .u64 tv) := y2
        have v3 : w2.drew.cell? ⟨w1.heap.size, 3, none⟩ = some (.int .i64 tl) := y3
        have v4 : w2.drew.cell? ⟨w1.heap.size, 4, none⟩ = some (.int .i64 tc) := y4
        clear y0 y1 y2 y3 y4 p0 p1 p2 p3 z0 z1 z2 z3 hlk
        generalize w2.drew = w3 at *
        have HL3 := Lib.hid (HX3.out.lo)
        have HBW := Lib.hid HX3.out.bw
        go_wp2_with fail
        go_fit (HTH.out _ 72)
        rintro e w4 ⟨rfl, hb4⟩
        have HB4 := Lib.hid ((HF3.out.bel HBB.out.1 HBB.out.2.2).trans (hb4.mono HBW.out))
        clear hb4
        go_wp2
        refine ⟨rfl, ?_⟩
        rw [HQ.out]
        exact ⟨rfl, HB4.out⟩
      | none =>
        have HQ : Hid (q = aMark [58] { s1 with labs := (tt, s1.prog.length) :: s1.labs }) := Lib.hid HD3.out
        simp only [Option.getD_none, Option.isSome_none] at hlk
        go_upto_region 4 with fail
        go_region
        have HX3 := Lib.hid (HX2.out.next ((Below.refl _ _).drew))
        have HF3 := Lib.hid ((HF1.out.next HB2.out).next ((Below.refl _ _).drew))
        have v0 : w2.drew.cell? ⟨w1.heap.size, 0, none⟩ = some (.int .i64 tk) := y0
        have v1 : w2.drew.cell? ⟨w1.heap.size, 1, none⟩ = some (.string ⟨tt.toArray⟩) := y1
        have v2 : w2.drew.cell? ⟨w1.heap.size, 2, none⟩ = some (.int .u64 tv) := y2
        have v3 : w2.drew.cell? ⟨w1.heap.size, 3, none⟩ = some (.int .i64 tl) := y3
        have v4 : w2.drew.cell? ⟨w1.heap.size, 4, none⟩ = some (.int .i64 tc) := y4
        clear y0 y1 y2 y3 y4 p0 p1 p2 p3 z0 z1 z2 z3 hlk
        generalize w2.drew = w3 at *
        obtain ⟨p0, p1, p2, p3, z0, z1, z2, z3⟩ := (HX3.out.next ((Below.refl _ _).drew)).cells
        have hmu1 : mu s1 ≤ 300000 := by have := HM1.out; have := HMM.out; omega
        obtain ⟨w4, hput, hX4, hg4⟩ := (HX3.out.next ((Below.refl _ _).drew)).define (l := tt) (n := s1.prog.length) (by have := HTL.out; unfold maxLen; omega) (by unfold mu at hmu1; omega) (by unfold mu at hmu1; omega)
        have HX4 := Lib.hid hX4
        have HF4 := Lib.hid ((HF3.out.next ((Below.refl _ _).drew)).trans (Fr.grown (Fr.refl _ O1) hg4 (fun g hg => by cases hg; exact .inl HX3.out.om)))
        have HMK := Lib.hid (amark_any base p O1 { s1 with labs := (tt, s1.prog.length) :: s1.labs } [58] w4 ⟨_, _, _, _, _, hX4⟩)
        have HMU : Hid (mu { s1 with labs := (tt, s1.prog.length) :: s1.labs } + 1 = mu s) := Lib.hid (by have := HM1.out; unfold mu at this ⊢; simp only [List.length_cons]; omega)
        clear hX4 hg4 hmu1
        generalize aMark [58] { s1 with labs := (tt, s1.prog.length) :: s1.labs } = r3 at *
        generalize (⟨s1.ts, s1.prog, (tt, s1.prog.length) :: s1.labs, s1.refs⟩ : ASt) = s3 at *
        rcases r3 with ⟨u, s5⟩ | ⟨l, c, x⟩
        · go_upto_region 7 with fail
          go_region
          go_wp2_with fail
          go_fit HMK.out
          rintro e w5 ⟨rfl, hmu5, O5, hst5, hf5⟩
          have HST5 := Lib.hid hst5
          have HF5 := Lib.hid (HF4.out.trans hf5)
          have HM5 := Lib.hid hmu5
          clear hst5 hf5 hmu5
          go_wp2
          go_end0
          rw [HQ.out]
          exact ⟨rfl, by have := HM5.out; have := HMU.out; omega, O5, HST5.out, HF5.out⟩
        · go_upto_region 7 with fail
          go_region
          go_wp2_with fail
          go_fit HMK.out
          rintro e w5 ⟨rfl, hb5⟩
          have HB5 := Lib.hid ((HF4.out.bel HBB.out.1 HBB.out.2.2).trans hb5)
          clear hb5
          go_wp2
          refine ⟨rfl, ?_⟩
          rw [HQ.out]
          exact ⟨rfl, HB5.out⟩
  · have HQ : Hid (q = .thr l c x) := Lib.hid HD.out
    go_enter Tryz.func78, Tryz.ntmps78
    go_wp2_with fail
    go_fit HTK.out
    rintro e w1 ⟨rfl, hb1⟩
    have HB1 := Lib.hid hb1
    clear hb1
    go_wp2
    refine ⟨rfl, ?_⟩
    rw [HQ.out]
    exact ⟨rfl, HB1.out⟩
end Go.Proofs.YtahhmgoffdggpaaGreatDoor
