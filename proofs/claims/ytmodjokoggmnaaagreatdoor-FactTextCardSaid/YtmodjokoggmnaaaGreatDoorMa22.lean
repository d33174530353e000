/-
  The parser of facts: argument and relation, whatever the tokens.
  Conditions: the tokens end with one of kind 0, and no other has that kind.
  The parser of facts: relation and the marks, whatever the tokens.
  Conditions: the tokens end with one of kind 0, and no other has that kind.
  The parser of facts: arguments, whatever the tokens.
  Conditions: the tokens end with one of kind 0, and no other has that kind.
-/
import Derived.Test.YtmodjokoggmnaaaGreatDoorMa21
namespace Go.Proofs.YtmodjokoggmnaaaGreatDoor
open Go.RowKit Go.Shelf

theorem TokW.u64 {t : GTok} (h : TokW t) : IntKind.u64.wrap t.value = t.value := by
  show t.value % 18446744073709551616 = t.value
  have := h.low
  have := h.high
  omega
theorem wrap64_in {v : Int} (h0 : 0 ≤ v) (h1 : v ≤ 9223372036854775807) : wrap64 v = v := by unfold wrap64; omega
set_option maxRecDepth 50000 in
set_option maxHeartbeats 1000000 in
theorem argument_any (p : Nat) (room : Bool) (t : GTok) (ts : List GTok) (w : World) (h : PS w p (t :: ts)) (he : TEnds (t :: ts)) :
    Calls Tryz.prog 92 #[.pointer (some ⟨p, 0, none⟩), .bool room] w (ValEnd (pArg room (t :: ts)) p w) := by
  have HPS := Lib.hid h
  obtain ⟨b, off, cp, hbp, hpw, hc1, hc2, hh, hcp, hfz, hr, x0, x1, x2, x3, x4⟩ := h.open
  have HEN := Lib.hid he
  have HRV := Lib.hid (ResV.new w)
  have hbw : b < w.heap.size := by omega
  have HD : Hid (pArg room (t :: ts) = if errArg t ≠ 0 then (errArg t, z0V, t :: ts) else if room = false then (15, z0V, t :: ts) else if t.kind = 4 then pNeg ts else if t.kind = 2 then (0, ⟨1, t.value, []⟩, ts) else (0, ⟨2, 0, t.text⟩, ts)) := Lib.hid rfl
  have HF := Lib.hid fun W => firstError_any t W he.kinds he.text
  have hnot : ∀ (x : Bool) (w : World), (Op.unary .not (.bool x)).run Tryz.prog w = .ok (.bool (!x)) w := fun _ _ => rfl
  clear h hh hr he
  by_cases hne : errArg t = 0
  case neg =>
    rw [if_pos hne] at HD
    rw [HD.out]
    generalize errArg t = er at *
    have f1 : (er != 0) = true := by simp [hne]
    clear HD HEN hne
    obtain ⟨tk, tt, tv, tl, tc⟩ := t
    simp only [GTok.val] at *
    go_enter Tryz.func92, Tryz.ntmps92
    go_wp2_with fail
    go_fit (HF.out _)
    rintro e w1 ⟨rfl, hb1⟩
    have HP1 := Lib.hid ((HPS.out.lit _).next hb1)
    have HG1 := Lib.hid (gb_trans (gb_lit (gb_refl _) _) (gb_bel hb1) : w.grownBy w1 (some p))
    obtain ⟨q0, q1, q2, z0, z1, z2⟩ := (HRV.out.next hb1).facts
    have hs3 : w.heap.size < w1.heap.size := by have := hb1.size; simp at this; omega
    clear hb1 HF x0 x1 x2 x3 x4
    go_wp2
    refine bodyPost_ret (v := .tuple #[z0V.val, .int .i64 er]) (by simp [results, Tryz.results92, go_sem, GVal.val, z0V, q0, q1, q2]) rfl ⟨rfl, ?_, ?_⟩
    · first | exact HP1.out | exact HP1.out.res hpw _ _ _
    · first | exact HG1.out | exact gb_res HG1.out _ (Nat.le_refl _) _ _ _
  case pos =>
    rw [if_neg (by simp [hne])] at HD
    rw [hne] at HF
    cases room
    case false =>
      rw [if_pos rfl] at HD
      rw [HD.out]
      clear HD HEN hne
      obtain ⟨tk, tt, tv, tl, tc⟩ := t
      simp only [GTok.val] at *
      go_enter Tryz.func92, Tryz.ntmps92
      go_wp2_with fail
      go_fit (HF.out _)
      rintro e w1 ⟨rfl, hb1⟩
      have HP1 := Lib.hid ((HPS.out.lit _).next hb1)
      have HG1 := Lib.hid (gb_trans (gb_lit (gb_refl _) _) (gb_bel hb1) : w.grownBy w1 (some p))
      obtain ⟨q0, q1, q2, z0, z1, z2⟩ := (HRV.out.next hb1).facts
      have hs3 : w.heap.size < w1.heap.size := by have := hb1.size; simp at this; omega
      clear hb1 HF x0 x1 x2 x3 x4
      go_wp2
      refine bodyPost_ret (v := .tuple #[z0V.val, .int .i64 15]) (by simp [results, Tryz.results92, go_sem, GVal.val, z0V, q0, q1, q2]) rfl ⟨rfl, ?_, ?_⟩
      · first | exact HP1.out | exact HP1.out.res hpw _ _ _
      · first | exact HG1.out | exact gb_res HG1.out _ (Nat.le_refl _) _ _ _
    case true =>
      rw [if_neg (by simp)] at HD
      rw [HD.out]
      have hk0 : t.kind ≠ 0 := fun e => by
        have := hne
        unfold errArg at this
        rw [if_neg (by omega), if_neg (by omega), if_pos (.inr e)] at this
        cases this
      obtain ⟨hw, u, r, rfl, her⟩ := HEN.out.more hk0
      have HT := Lib.hid fun W => take_any p t u r W
      have HW := Lib.hid hw
      have HER := Lib.hid her
      have HNE := Lib.hid hne
      have hkk := hw.kind
      clear HD HEN hne hw her hk0
      generalize hpn : pNeg (u :: r) = pn at *
      have HPN := Lib.hid hpn
      clear hpn
      obtain ⟨tk, tt, tv, tl, tc⟩ := t
      simp only [GTok.val] at *
      by_cases h4 : tk = 4
      · subst h4
        rw [if_pos rfl]
        have HNG := Lib.hid fun W (hW : PS W p (u :: r)) => negative_any p u r W hW HER.out
        rw [HPN.out] at HNG
        obtain ⟨ne, nv, nts⟩ := pn
        obtain ⟨vk, vi, vw⟩ := nv
        unfold ValEnd at *
        simp only [GVal.val] at *
        go_enter Tryz.func92, Tryz.ntmps92
        go_wp2_with fail
        go_fit (HF.out _)
        rintro e w1 ⟨rfl, hb1⟩
        have HP1 := Lib.hid ((HPS.out.lit _).next hb1)
        have HG1 := Lib.hid (gb_trans (gb_lit (gb_refl _) _) (gb_bel hb1) : w.grownBy w1 (some p))
        have HR1 := Lib.hid (HRV.out.next hb1)
        have hs1 := HG1.out.size
        clear hb1 HF
        go_wp2_with fail
        go_fit (HT.out _ HP1.out)
        rintro e w2 ⟨rfl, hps2, hg2⟩
        have HP2 := Lib.hid (hps2.lit (.cells #[.int .i64 4, .string ⟨tt.toArray⟩, .int .u64 tv, .int .i64 tl, .int .i64 tc] 52))
        have HG2 := Lib.hid (gb_lit (gb_trans HG1.out hg2) (.cells #[.int .i64 4, .string ⟨tt.toArray⟩, .int .u64 tv, .int .i64 tl, .int .i64 tc] 52))
        have HR2 := Lib.hid ((HR1.out.gb hg2 (by omega)).lit (.cells #[.int .i64 4, .string ⟨tt.toArray⟩, .int .u64 tv, .int .i64 tl, .int .i64 tc] 52))
        have hs2 := hg2.size
        clear hps2 hg2 HT x0 x1 x2 x3 x4
        go_wp2_with fail
        go_fit (HNG.out _ HP2.out)
        rintro e w3 ⟨rfl, hps3, hg3⟩
        have HP3 := Lib.hid hps3
        have HG3 := Lib.hid (gb_trans HG2.out hg3)
        obtain ⟨q0, q1, q2, z0, z1, z2⟩ := (HR2.out.gb hg3 (by omega)).facts
        have hs3 : w.heap.size < w3.heap.size := (HR2.out.gb hg3 (by omega)).lt
        clear hps3 hg3 HNG hs1 hs2
        go_wp2
        refine bodyPost_ret (v := .tuple #[.agg #[.int .i64 vk, .int .i64 vi, .string ⟨vw.toArray⟩], .int .i64 ne]) (by simp [results, Tryz.results92, go_sem, q0, q1, q2]) rfl ⟨rfl, ?_, ?_⟩
        · first | exact HP3.out | exact HP3.out.res hpw _ _ _
        · first | exact HG3.out | exact gb_res HG3.out _ (Nat.le_refl _) _ _ _
      · rw [if_neg h4]
        by_cases h2 : tk = 2
        · subst h2
          rw [if_pos rfl]
          have hv : tv ≤ 9223372036854775807 := by
            have := HNE.out
            unfold errArg at this
            simp only at this
            by_cases hv : 9223372036854775807 < tv
            · simp [hv] at this
            · omega
          have hlo := HW.out.low
          simp only at hlo
          have HN := Lib.hid fun W => fnumw_any tv W
          rw [wrap64_in hlo hv] at HN
          simp only [GVal.val] at *
          clear hlo hv h4 HPN
          go_enter Tryz.func92, Tryz.ntmps92
          go_wp2_with fail
          go_fit (HF.out _)
          rintro e w1 ⟨rfl, hb1⟩
          have HP1 := Lib.hid ((HPS.out.lit _).next hb1)
          have HG1 := Lib.hid (gb_trans (gb_lit (gb_refl _) _) (gb_bel hb1) : w.grownBy w1 (some p))
          have HR1 := Lib.hid (HRV.out.next hb1)
          have hs1 := HG1.out.size
          clear hb1 HF
          go_wp2_with fail
          go_fit (HT.out _ HP1.out)
          rintro e w2 ⟨rfl, hps2, hg2⟩
          have HP2 := Lib.hid (hps2.lit (.cells #[.int .i64 2, .string ⟨tt.toArray⟩, .int .u64 tv, .int .i64 tl, .int .i64 tc] 52))
          have HG2 := Lib.hid (gb_lit (gb_trans HG1.out hg2) (.cells #[.int .i64 2, .string ⟨tt.toArray⟩, .int .u64 tv, .int .i64 tl, .int .i64 tc] 52))
          have HR2 := Lib.hid ((HR1.out.gb hg2 (by omega)).lit (.cells #[.int .i64 2, .string ⟨tt.toArray⟩, .int .u64 tv, .int .i64 tl, .int .i64 tc] 52))
          have hs2 := hg2.size
          clear hps2 hg2 HT x0 x1 x2 x3 x4
          go_wp2_with fail
          go_fit (HN.out _)
          rintro e w3 ⟨rfl, hb3⟩
          have HP3 := Lib.hid (HP2.out.next hb3)
          have HG3 := Lib.hid (gb_trans HG2.out (gb_bel hb3))
          obtain ⟨q0, q1, q2, z0, z1, z2⟩ := (HR2.out.next hb3).facts
          have hs3 : w.heap.size < w3.heap.size := (HR2.out.next hb3).lt
          clear hb3 HN hs1 hs2
          go_wp2
          refine bodyPost_ret (v := .tuple #[.agg #[.int .i64 1, .int .i64 tv, .string ⟨#[]⟩], .int .i64 0]) (by simp [results, Tryz.results92, go_sem, q0, q1, q2]) rfl ⟨rfl, ?_, ?_⟩
          · first | exact HP3.out | exact HP3.out.res hpw _ _ _
          · first | exact HG3.out | exact gb_res HG3.out _ (Nat.le_refl _) _ _ _
        · rw [if_neg h2]
          have HN := Lib.hid fun W => fword_any tt W
          simp only [GVal.val] at *
          clear HPN HNE
          rcases hkk with rfl | rfl | rfl | rfl
          case inr.inl => exact absurd rfl h2
          case inr.inr.inr => exact absurd rfl h4
          all_goals
            clear h2 h4
            go_enter Tryz.func92, Tryz.ntmps92
            go_wp2_with fail
            go_fit (HF.out _)
            rintro e w1 ⟨rfl, hb1⟩
            have HP1 := Lib.hid ((HPS.out.lit _).next hb1)
            have HG1 := Lib.hid (gb_trans (gb_lit (gb_refl _) _) (gb_bel hb1) : w.grownBy w1 (some p))
            have HR1 := Lib.hid (HRV.out.next hb1)
            have hs1 := HG1.out.size
            clear hb1 HF
            go_wp2_with fail
            go_fit (HT.out _ HP1.out)
            rintro e w2 ⟨rfl, hps2, hg2⟩
            have HP2 := Lib.hid fun o => hps2.lit o
            have HG2 := Lib.hid fun o => gb_lit (gb_trans HG1.out hg2) o
            have HR2 := Lib.hid fun o => (HR1.out.gb hg2 (by omega)).lit o
            have hs2 := hg2.size
            clear hps2 hg2 HT x0 x1 x2 x3 x4
            go_wp2_with fail
            go_fit (HN.out _)
            rintro e w3 ⟨rfl, hb3⟩
            have HP3 := Lib.hid ((HP2.out _).next hb3)
            have HG3 := Lib.hid (gb_trans (HG2.out _) (gb_bel hb3))
            obtain ⟨q0, q1, q2, z0, z1, z2⟩ := ((HR2.out _).next hb3).facts
            have hs3 : w.heap.size < w3.heap.size := ((HR2.out _).next hb3).lt
            clear hb3 HN hs1 hs2
            go_wp2
            refine bodyPost_ret (v := .tuple #[.agg #[.int .i64 2, .int .i64 0, .string ⟨tt.toArray⟩], .int .i64 0]) (by simp [results, Tryz.results92, go_sem, q0, q1, q2]) rfl ⟨rfl, ?_, ?_⟩
            · first | exact HP3.out | exact HP3.out.res hpw _ _ _
            · first | exact HG3.out | exact gb_res HG3.out _ (Nat.le_refl _) _ _ _
end Go.Proofs.YtmodjokoggmnaaaGreatDoor


namespace Go.Proofs.YtmodjokoggmnaaaGreatDoor
open Go.RowKit Go.Shelf

def RelEnd (r : Int × List UInt8 × List GTok) (p : Nat) (w : World) (e : Ending) (w' : World) : Prop :=
  e = .returned (.tuple #[.string ⟨r.2.1.toArray⟩, .int .i64 r.1]) ∧ PS w' p r.2.2 ∧ w.grownBy w' (some p)
set_option maxRecDepth 50000 in
set_option maxHeartbeats 1000000 in
theorem relationG_any (p : Nat) (room : Bool) (t : GTok) (ts : List GTok) (w : World) (h : PS w p (t :: ts)) (he : TEnds (t :: ts)) :
    Calls Tryz.prog 52 #[.pointer (some ⟨p, 0, none⟩), .bool room] w (RelEnd (pRel room (t :: ts)) p w) := by
  have HPS := Lib.hid h
  obtain ⟨b, off, cp, hbp, hpw, hc1, hc2, hh, hcp, hfz, hr, x0, x1, x2, x3, x4⟩ := h.open
  have HEN := Lib.hid he
  have hbw : b < w.heap.size := by omega
  have HD : Hid (pRel room (t :: ts) = if t.kind ≠ 1 then (50, [], t :: ts) else if sizedP t.text = false then (63, [], t :: ts) else if room = false then (15, [], t :: ts) else (0, t.text, ts)) := Lib.hid rfl
  have HN := Lib.hid fun W => sizedP_any t.text W he.text
  have hnot : ∀ (x : Bool) (w : World), (Op.unary .not (.bool x)).run Tryz.prog w = .ok (.bool (!x)) w := fun _ _ => rfl
  clear h hh hr he
  by_cases h1 : t.kind = 1
  case neg =>
    rw [if_pos h1] at HD
    rw [HD.out]
    clear HD HEN
    obtain ⟨tk, tt, tv, tl, tc⟩ := t
    simp only at *
    have f1 : (tk != 1) = true := by simp [h1]
    go_enter Tryz.func52, Tryz.ntmps52
    go_wp2
    go_ret2
    exact ⟨rfl, HPS.out.lit _, gb_lit (gb_refl _) _⟩
  case pos =>
    rw [if_neg (by simp [h1])] at HD
    generalize hsz : sizedP t.text = sz at *
    cases sz
    case false =>
      rw [if_pos rfl] at HD
      rw [HD.out]
      clear HD HEN hsz
      obtain ⟨tk, tt, tv, tl, tc⟩ := t
      simp only at *
      subst h1
      go_enter Tryz.func52, Tryz.ntmps52
      go_wp2_with fail
      go_fit (HN.out _)
      rintro e w1 ⟨rfl, rfl⟩
      go_wp2
      go_ret2
      exact ⟨rfl, HPS.out.lit _, gb_lit (gb_refl _) _⟩
    case true =>
      rw [if_neg (by simp)] at HD
      obtain ⟨hw, u, r, rfl, _⟩ := HEN.out.more (by omega)
      have HT := Lib.hid fun W => take_any p t u r W
      clear hsz HEN hw
      cases room
      case false =>
        rw [if_pos rfl] at HD
        rw [HD.out]
        clear HD HT
        obtain ⟨tk, tt, tv, tl, tc⟩ := t
        simp only at *
        subst h1
        go_enter Tryz.func52, Tryz.ntmps52
        go_wp2_with fail
        go_fit (HN.out _)
        rintro e w1 ⟨rfl, rfl⟩
        go_wp2
        go_ret2
        exact ⟨rfl, HPS.out.lit _, gb_lit (gb_refl _) _⟩
      case true =>
        rw [if_neg (by simp)] at HD
        rw [HD.out]
        clear HD
        obtain ⟨tk, tt, tv, tl, tc⟩ := t
        simp only [GTok.val] at *
        subst h1
        have hfl : ∀ W : World, (Instr.field 52 (.agg #[.int .i64 1, .string ⟨tt.toArray⟩, .int .u64 tv, .int .i64 tl, .int .i64 tc]) 1).run Tryz.prog W = .ok (.string ⟨tt.toArray⟩) W := fun W => by kernel_rfl
        go_enter Tryz.func52, Tryz.ntmps52
        go_wp2_with fail
        go_fit (HN.out _)
        rintro e w1 ⟨rfl, rfl⟩
        go_wp2_with fail
        go_fit (HT.out _ (HPS.out.lit _))
        rintro e w2 ⟨rfl, hps2, hg2⟩
        have HP2 := Lib.hid hps2
        have HG2 := Lib.hid (gb_trans (gb_lit (gb_refl _) _) hg2)
        clear hps2 hg2
        go_wp2
        go_ret2
        exact ⟨rfl, HP2.out, HG2.out⟩
/-- How marks ends: the tokens that are left. -/
def MarkEnd (e0 : Int) (ts : List GTok) (p : Nat) (w : World) (e : Ending) (w' : World) : Prop := e = .returned (.int .i64 e0) ∧ PS w' p ts ∧ w.grownBy w' (some p)
theorem tMark_iff {s : List UInt8} {t : GTok} : tMark s t = true ↔ t.kind = 4 ∧ t.text = s := by unfold tMark; simp
/-- marks(s), its literal slice made just before. -/
theorem mark1_any (p : Nat) (s : List UInt8) (t : GTok) (ts : List GTok) (w : World) (h : PS w p (t :: ts)) (he : TEnds (t :: ts)) :
    Calls Tryz.prog 91 #[.pointer (some ⟨p, 0, none⟩), .slice (some ⟨w.heap.size, 0, none⟩) 1 1] (w.alloc (.cells #[.string ⟨s.toArray⟩] 9)) (MarkEnd (if tMark s t then 0 else 50) (if tMark s t then ts else t :: ts) p w) := by
  cases hm : tMark s t
  · refine (mark_no p [] s w.heap.size 1 t ts _ (h.lit _) (by go_simp) rfl (by omega) hm he).mono ?_
    rintro e w' ⟨rfl, h1, h2⟩
    exact ⟨rfl, h1, gb_trans (gb_lit (gb_refl _) _) h2⟩
  · obtain ⟨h4, hx⟩ := tMark_iff.1 hm
    obtain ⟨_, u, r, rfl, _⟩ := he.more (by omega)
    refine (mark1_hit p s t (u :: r) w h (by simp) h4 hx).mono ?_
    rintro e w' ⟨rfl, h1, h2⟩
    exact ⟨rfl, h1, h2⟩
/-- marks(s, s2) where the first mark is there and the second is not. -/
def HalfRel (t u : GTok) (ts : List GTok) (p : Nat) (w : World) (vi : Value) (wr : World) : Prop := (vi = .int .i64 0 ∧ PS wr p (t :: u :: ts) ∧ w.grownBy wr (some p)) ∨ (vi = .int .i64 1 ∧ PS wr p (u :: ts) ∧ w.grownBy wr (some p))
set_option maxRecDepth 50000 in
set_option maxHeartbeats 1000000 in
theorem mark_half (p : Nat) (s s2 : List UInt8) (N : Nat) (t u : GTok) (ts : List GTok) (w : World) (h : PS w p (t :: u :: ts)) (hN : p < N) (hs : w.cell? ⟨N, 0, none⟩ = some (.string ⟨s.toArray⟩)) (hs2 : w.cell? ⟨N, 1, none⟩ = some (.string ⟨s2.toArray⟩)) (hk : t.kind = 4) (hx : t.text = s) (hu : tMark s2 u = false) (heu : TEnds (u :: ts)) :
    Calls Tryz.prog 91 #[.pointer (some ⟨p, 0, none⟩), .slice (some ⟨N, 0, none⟩) 2 2] w fun e w' => e = .returned (.int .i64 50) ∧ PS w' p (u :: ts) ∧ w.grownBy w' (some p) := by
  have HPS := Lib.hid h
  have HUK := Lib.hid heu.kinds
  have hNw := World.block_lt_of_cell? w _ hs
  simp only at hNw
  have HS := Lib.hid hs
  have HS2 := Lib.hid hs2
  have HM := Lib.hid hu
  clear h heu hs hs2 hu
  go_enter Tryz.func91, Tryz.ntmps91
  go_wp2
  go_loopw [10] (fun vi wr => HalfRel t u ts p w vi wr) (fun vi _ => 2 - (intOf vi).toNat)
  case atStart => exact .inl ⟨rfl, HPS.out, gb_refl _⟩
  case round =>
    rcases hrel with ⟨rfl, hps, hg⟩ | ⟨rfl, hps, hg⟩
    · have y0 := (World.cell?_of_block (a := ⟨N, 0, none⟩) (hg.block N hNw (by intro e; cases e; omega))).trans HS.out
      have HP := Lib.hid hps
      have HG := Lib.hid hg
      obtain ⟨b, off, cp, hbp, hpw, hc1, hc2, hh, hcp, hfz, hr, x0, x1, x2, x3, x4⟩ := hps.open
      have HT := Lib.hid fun W => take_any p t u ts W
      obtain ⟨tk, tt, tv, tl, tc⟩ := t
      simp only [GTok.val] at *
      subst hk hx
      have ftt : (tt != tt) = false := by simp
      have hbw : b < wr.heap.size := by omega
      clear hps hg hh hr
      go_wp2_with fail
      go_fit (HT.out _ (HP.out.lit _))
      rintro e w1 ⟨rfl, hps1, hg1⟩
      have HP1 := Lib.hid hps1
      have HG1 := Lib.hid (gb_trans (gb_lit HG.out _) hg1)
      clear hps1 hg1
      go_wp2
      go_roundw
      case rel => exact .inr ⟨by go_num, HP1.out, HG1.out⟩
      case measure => simp [intOf]
    · have y0 := (World.cell?_of_block (a := ⟨N, 1, none⟩) (hg.block N hNw (by intro e; cases e; omega))).trans HS2.out
      have HP := Lib.hid hps
      have HG := Lib.hid hg
      obtain ⟨b, off, cp, hbp, hpw, hc1, hc2, hh, hcp, hfz, hr, x0, x1, x2, x3, x4⟩ := hps.open
      have hkk := HUK.out
      have hm : u.kind ≠ 4 ∨ u.text ≠ s2 := by
        have hk := HM.out
        unfold tMark at hk
        simp at hk
        by_cases h4 : u.kind = 4
        · exact .inr (hk h4)
        · exact .inl h4
      obtain ⟨uk, ut, uv, ul, uc⟩ := u
      simp only at hkk hm x0 x1 x2 x3 x4
      have hbw : b < wr.heap.size := by omega
      clear hps hg hh hr
      rcases hm with hm | hm
      · have f1 : (uk != 4) = true := by simp [hm]
        go_wp2
        go_ret
        exact ⟨rfl, HP.out.lit _, gb_lit HG.out _⟩
      · have f1 : (ut == s2) = false := by simp [hm]
        have f2 : (ut != s2) = true := by simp [hm]
        rcases hkk with rfl | rfl | rfl | rfl | rfl
        all_goals
          go_wp2
          go_ret
          exact ⟨rfl, HP.out.lit _, gb_lit HG.out _⟩
def two0 (s s2 : List UInt8) : List GTok → Int × List GTok
  | [] => (50, [])
  | t :: ts => if tMark s t = false then (50, t :: ts) else
    match ts with
    | [] => (50, [])
    | u :: r => if tMark s2 u then (0, r) else (50, u :: r)
/-- marks(s, s2), its literal slice made just before. -/
theorem mark2_any (p : Nat) (s s2 : List UInt8) (t : GTok) (ts : List GTok) (w : World) (h : PS w p (t :: ts)) (he : TEnds (t :: ts)) :
    Calls Tryz.prog 91 #[.pointer (some ⟨p, 0, none⟩), .slice (some ⟨w.heap.size, 0, none⟩) 2 2] (w.alloc (.cells #[.string ⟨s.toArray⟩, .string ⟨s2.toArray⟩] 9)) (MarkEnd (two0 s s2 (t :: ts)).1 (two0 s s2 (t :: ts)).2 p w) := by
  have hpw := h.lt
  cases hm : tMark s t
  · have e2 : two0 s s2 (t :: ts) = (50, t :: ts) := by simp [two0, hm]
    rw [e2]
    refine (mark_no p [s2] s w.heap.size 2 t ts _ (h.lit _) (by go_simp) rfl (by omega) hm he).mono ?_
    rintro e w' ⟨rfl, h1, h2⟩
    exact ⟨rfl, h1, gb_trans (gb_lit (gb_refl _) _) h2⟩
  · obtain ⟨h4, hx⟩ := tMark_iff.1 hm
    obtain ⟨_, u, r, rfl, heu⟩ := he.more (by omega)
    cases hm2 : tMark s2 u
    · have e2 : two0 s s2 (t :: u :: r) = (50, u :: r) := by simp [two0, hm, hm2]
      rw [e2]
      refine (mark_half p s s2 w.heap.size t u r _ (h.lit _) hpw (by go_simp) (by go_simp) h4 hx hm2 heu).mono ?_
      rintro e w' ⟨rfl, h1, h2⟩
      exact ⟨rfl, h1, gb_trans (gb_lit (gb_refl _) _) h2⟩
    · have e2 : two0 s s2 (t :: u :: r) = (0, r) := by simp [two0, hm, hm2]
      rw [e2]
      obtain ⟨h5, hy⟩ := tMark_iff.1 hm2
      obtain ⟨_, v, q, rfl, _⟩ := heu.more (by omega)
      refine (mark2_hit p s s2 t u (v :: q) w h (by simp) h4 hx h5 hy).mono ?_
      rintro e w' ⟨rfl, h1, h2⟩
      exact ⟨rfl, h1, h2⟩
end Go.Proofs.YtmodjokoggmnaaaGreatDoor


namespace Go.Proofs.YtmodjokoggmnaaaGreatDoor
open Go.RowKit Go.Shelf

theorem two0_ends (s s2 : List UInt8) {t : GTok} {ts : List GTok} (h : TEnds (t :: ts)) : TEnds (two0 s s2 (t :: ts)).2 ∧ (two0 s s2 (t :: ts)).2.length ≤ (t :: ts).length := by
  cases hm : tMark s t
  · have e : two0 s s2 (t :: ts) = (50, t :: ts) := by simp [two0, hm]
    rw [e]; exact ⟨h, Nat.le_refl _⟩
  · obtain ⟨_, u, r, rfl, hu⟩ := h.more (by have := (tMark_iff.1 hm).1; omega)
    cases hm2 : tMark s2 u
    · have e : two0 s s2 (t :: u :: r) = (50, u :: r) := by simp [two0, hm, hm2]
      rw [e]; exact ⟨hu, by simp⟩
    · have e : two0 s s2 (t :: u :: r) = (0, r) := by simp [two0, hm, hm2]
      rw [e]
      obtain ⟨_, v, q, rfl, hv⟩ := hu.more (by have := (tMark_iff.1 hm2).1; omega)
      exact ⟨hv, by simp⟩
theorem pNeg_cons (t : GTok) (ts : List GTok) : pNeg (t :: ts) = if t.kind ≠ 2 then (50, z0V, t :: ts) else if 9223372036854775808 < t.value then (6, z0V, t :: ts) else (0, ⟨1, -t.value, []⟩, ts) := rfl
theorem pArg_cons (room : Bool) (t : GTok) (ts : List GTok) : pArg room (t :: ts) = if errArg t ≠ 0 then (errArg t, z0V, t :: ts) else if room = false then (15, z0V, t :: ts) else if t.kind = 4 then pNeg ts else if t.kind = 2 then (0, ⟨1, t.value, []⟩, ts) else (0, ⟨2, 0, t.text⟩, ts) := rfl
theorem pNeg_ends {t : GTok} {ts : List GTok} (h : TEnds (t :: ts)) : TEnds (pNeg (t :: ts)).2.2 ∧ (pNeg (t :: ts)).2.2.length ≤ (t :: ts).length := by
  rw [pNeg_cons]
  by_cases h2 : t.kind = 2
  · rw [if_neg (by simp [h2])]
    split
    · exact ⟨h, Nat.le_refl _⟩
    · obtain ⟨_, u, r, rfl, hu⟩ := h.more (by omega)
      exact ⟨hu, by simp⟩
  · rw [if_pos h2]
    exact ⟨h, Nat.le_refl _⟩
theorem errArg_zero {t : GTok} (h : t.kind = 0) : errArg t = 50 := by
  unfold errArg
  rw [if_neg (by omega), if_neg (by omega), if_pos (.inr h)]
theorem pArg_ends (room : Bool) {t : GTok} {ts : List GTok} (h : TEnds (t :: ts)) : TEnds (pArg room (t :: ts)).2.2 ∧ (pArg room (t :: ts)).2.2.length ≤ (t :: ts).length ∧ ((pArg room (t :: ts)).1 = 0 → (pArg room (t :: ts)).2.2.length < (t :: ts).length ∧ room = true) := by
  rw [pArg_cons]
  by_cases he : errArg t = 0
  · rw [if_neg (by simp [he])]
    cases room
    · rw [if_pos rfl]
      exact ⟨h, Nat.le_refl _, fun e => by cases e⟩
    · rw [if_neg (by simp)]
      obtain ⟨_, u, r, rfl, hu⟩ := h.more (fun e => by rw [errArg_zero e] at he; cases he)
      split
      · obtain ⟨h1, h2⟩ := pNeg_ends hu
        exact ⟨h1, by simp at h2 ⊢; omega, fun _ => ⟨by simp at h2 ⊢; omega, rfl⟩⟩
      · split
        · exact ⟨hu, by simp, fun _ => ⟨by simp, rfl⟩⟩
        · exact ⟨hu, by simp, fun _ => ⟨by simp, rfl⟩⟩
  · rw [if_pos he]
    exact ⟨h, Nat.le_refl _, fun e => absurd e he⟩
theorem pArgs_step (n : Nat) (args : List GVal) {t : GTok} {ts : List GTok} (h : TEnds (t :: ts)) :
    pArgs (n + 1) args (t :: ts) = if (pArg (decide (args.length < 8)) (t :: ts)).1 ≠ 0 then ((pArg (decide (args.length < 8)) (t :: ts)).1, [], (pArg (decide (args.length < 8)) (t :: ts)).2.2) else
      match (pArg (decide (args.length < 8)) (t :: ts)).2.2 with
      | [] => (50, args ++ [(pArg (decide (args.length < 8)) (t :: ts)).2.1], [])
      | u :: ts2 => if tMark [44] u then pArgs n (args ++ [(pArg (decide (args.length < 8)) (t :: ts)).2.1]) ts2 else ((two0 [41] [46] (u :: ts2)).1, args ++ [(pArg (decide (args.length < 8)) (t :: ts)).2.1], (two0 [41] [46] (u :: ts2)).2) := by
  have hp := (pArg_ends (decide (args.length < 8)) h).1
  conv => lhs; unfold pArgs
  generalize pArg (decide (args.length < 8)) (t :: ts) = r at *
  obtain ⟨e, v, ts1⟩ := r
  simp only at *
  by_cases he : e = 0
  · rw [if_neg (by simp [he]), if_neg (by simp [he])]
    cases ts1 with
    | nil => rfl
    | cons u ts2 =>
      cases hm : tMark [44] u
      · cases h1 : tMark [41] u
        · simp [two0, h1]
        · obtain ⟨_, x, q, rfl, _⟩ := hp.more (by have := (tMark_iff.1 h1).1; omega)
          cases h2 : tMark [46] x <;> simp [two0, h1, h2]
      · simp [hm]
  · rw [if_pos he, if_pos he]
/-- How arguments ends. -/
def ArgsEnd (r : Int × List GVal × List GTok) (p : Nat) (w : World) (e : Ending) (w' : World) : Prop :=
  ∃ v, e = .returned (.tuple #[v, .int .i64 r.1]) ∧ OwnG GVal.cells 40 3 w' w.heap.size v r.2.1 ∧ PS w' p r.2.2 ∧ w.grownBy w' (some p)
/-- Where the loop stands: what is left of the tokens yields the end. -/
def ArgI (r : Int × List GVal × List GTok) (p : Nat) (w : World) (va vm : Value) (wr : World) : Prop :=
  ∃ args t ts, TEnds (t :: ts) ∧ OwnG GVal.cells 40 3 wr w.heap.size va args ∧ args.length ≤ 8 ∧ PS wr p (t :: ts) ∧ w.grownBy wr (some p) ∧
    ((vm = .bool true ∧ ∃ n, (t :: ts).length ≤ n ∧ pArgs n args (t :: ts) = r) ∨ (vm = .bool false ∧ r = ((two0 [41] [46] (t :: ts)).1, args, (two0 [41] [46] (t :: ts)).2)))
def ArgM (va vm : Value) : Nat := match va, vm with
  | .slice _ l _, .bool b => 2 * (8 - l) + (if b then 1 else 0)
  | _, _ => 0
set_option maxRecDepth 50000 in
set_option maxHeartbeats 1000000 in
theorem arguments_any (p : Nat) (t : GTok) (ts : List GTok) (w : World) (h : PS w p (t :: ts)) (he : TEnds (t :: ts)) :
    Calls Tryz.prog 53 #[.pointer (some ⟨p, 0, none⟩)] w (ArgsEnd (pArguments (t :: ts).length (t :: ts)) p w) := by
  have hpw := h.lt
  have HD : Hid (pArguments (t :: ts).length (t :: ts) = if tMark [40] t then pArgs (t :: ts).length [] ts else (50, [], t :: ts)) := Lib.hid rfl
  have HM := Lib.hid (mark1_any p [40] t ts w h he)
  have HE := Lib.hid he
  clear h he
  cases hm : tMark [40] t
  · rw [hm] at HD HM
    rw [if_neg (by simp)] at HD
    rw [if_neg (by simp), if_neg (by simp)] at HM
    rw [HD.out]
    clear hm HD
    go_enter Tryz.func53, Tryz.ntmps53
    go_wp2_with fail
    go_fit HM.out
    rintro e w1 ⟨rfl, hps1, hg1⟩
    have HP1 := Lib.hid hps1
    have HG1 := Lib.hid hg1
    clear hps1 hg1
    go_wp2
    go_ret2
    exact ⟨_, rfl, OwnG.nil _ _, HP1.out, HG1.out⟩
  rw [hm] at HD HM
  rw [if_pos rfl] at HD
  rw [if_pos rfl, if_pos rfl] at HM
  rw [HD.out]
  obtain ⟨_, t0, ts0, rfl, he0⟩ := HE.out.more (by have := (tMark_iff.1 hm).1; omega)
  generalize hr : pArgs (t :: t0 :: ts0).length [] (t0 :: ts0) = r at *
  have HR := Lib.hid hr
  have HE0 := Lib.hid he0
  clear hm HD HE he0 hr
  go_enter Tryz.func53, Tryz.ntmps53
  go_wp2_with fail
  go_fit HM.out
  rintro e w1 ⟨rfl, hps1, hg1⟩
  have HP1 := Lib.hid hps1
  have HG1 := Lib.hid hg1
  clear hps1 hg1 HM
  go_wp2
  go_loopw [5, 6] (fun va vm wr => ArgI r p w va vm wr) (fun va vm _ => ArgM va vm)
  case atStart => exact ⟨[], t0, ts0, HE0.out, OwnG.nil _ _, by simp, HP1.out, HG1.out, .inl ⟨rfl, _, by simp, HR.out⟩⟩
  case round =>
    obtain ⟨args, u, us, heu, hown, hl8, hps, hgb, hcase⟩ := hrel
    have HEU := Lib.hid heu
    have HO := Lib.hid hown
    have HPS := Lib.hid hps
    have HG := Lib.hid hgb
    have hgs := hgb.size
    obtain ⟨A, cap, rfl, hcap, hcm, hrow⟩ := hown.row GVal.len
    clear heu hown hps hgb hrow
    rcases hcase with ⟨rfl, n, hn, hr⟩ | ⟨rfl, hr⟩
    · obtain ⟨n, rfl⟩ : ∃ m, n = m + 1 := ⟨n - 1, by simp at hn; omega⟩
      rw [pArgs_step n args HEU.out] at hr
      have HPE := Lib.hid (pArg_ends (decide (args.length < 8)) HEU.out)
      have HARG := Lib.hid (argument_any p (decide (args.length < 8)) u us wr HPS.out HEU.out)
      generalize pArg (decide (args.length < 8)) (u :: us) = q at *
      obtain ⟨qe, ⟨vk, vi, vw⟩, qts⟩ := q
      unfold ValEnd at HARG
      simp only [GVal.val] at HARG HPE hr
      have HRR := Lib.hid hr
      have hd8 : decide ((args.length : Int) < 8) = decide (args.length < 8) := by congr 1; simp; omega
      clear hr
      by_cases hqe : qe = 0
      · have f1 : (qe != 0) = false := by simp [hqe]
        have hrm := (HPE.out.2.2 hqe).2
        have hlt8 : args.length < 8 := by simpa using hrm
        have HQ := Lib.hid hqe
        rw [hrm] at hd8 HARG
        have g8 : (args.length : Int) < 8 := by omega
        clear hqe hrm
        go_wp2_with fail
        go_fit HARG.out
        rintro e w2 ⟨rfl, hps1, hg1⟩
        have hown2 := ((HO.out.gb hpw hg1).alloc (.cells #[.int .i64 vk, .int .i64 vi, .string ⟨vw.toArray⟩] 40)).alloc (.cells #[.int .i64 vk, .int .i64 vi, .string ⟨vw.toArray⟩] 40)
        have hlit := GRow.lit GVal.len (w2.alloc (.cells #[.int .i64 vk, .int .i64 vi, .string ⟨vw.toArray⟩] 40)) 40 [(⟨vk, vi, vw⟩ : GVal)] #[.int .i64 vk, .int .i64 vi, .string ⟨vw.toArray⟩] rfl (by unfold maxLen; simp)
        have hs1 := hg1.size
        obtain ⟨v', w3, hrun, hown3, hgr3, _⟩ := OwnG.app elt_val GVal.len GVal.one hown2 1 hlit (by simp; omega) (by unfold maxLen; simp; omega) (by simp; omega)
        have hq : ∀ g, Value.ownBlock (.slice A args.length cap) = some g → w.heap.size ≤ g := fun g hg => (HO.out.lt g hg).1
        have HG3 := Lib.hid (gb_own (gb_trans HG.out (gb_lit (gb_lit hg1 _) _)) hgr3 hq)
        have HP3 := Lib.hid (((hps1.lit _).lit _).own hgr3 (fun g hg => by have := hq g hg; omega))
        obtain ⟨A3, cap3, rfl, _, _, _⟩ := hown3.row GVal.len
        have HO3 := Lib.hid hown3
        have hl3 : (args ++ [(⟨vk, vi, vw⟩ : GVal)]).length = args.length + 1 := by simp
        rw [hl3] at hrun
        have HRUN := Lib.hid hrun
        have HL3 := Lib.hid hl3
        clear hps1 hg1 hown2 hlit hrun hown3 hgr3 hq
        have eN : (w2.alloc (.cells #[.int .i64 vk, .int .i64 vi, .string ⟨vw.toArray⟩] 40)).heap.size = w2.heap.size + 1 := by simp
        rw [eN] at HRUN
        simp only [List.length_singleton] at HRUN
        rw [hl3] at HO3
        clear eN hl3
        have hends := HPE.out.1
        cases qts with
        | nil => exact hends.elim
        | cons x xs =>
        have HEX := Lib.hid hends
        have hlen := (HPE.out.2.2 HQ.out).1
        have hr2 := HRR.out
        rw [if_neg (by simp [HQ.out])] at hr2
        simp only at hr2
        have HMK := Lib.hid (mark1_any p [44] x xs w3 HP3.out hends)
        clear hends HARG
        go_wp2_with (at_builtin; refine wpList_gapp HRUN.out rfl rfl rfl rfl rfl ?_)
        cases hm : tMark [44] x
        · rw [hm, if_neg (by simp)] at hr2
          rw [hm, if_neg (by simp), if_neg (by simp)] at HMK
          have HR2 := Lib.hid hr2
          clear hr2 hm
          go_wp2_with fail
          go_fit HMK.out
          rintro e w4 ⟨rfl, hps4, hg4⟩
          have HO4 := Lib.hid (HO3.out.gb hpw hg4)
          have HP4 := Lib.hid hps4
          have HG4 := Lib.hid (gb_trans HG3.out hg4)
          clear hps4 hg4
          go_wp2
          go_roundw
          case rel => exact ⟨_, x, xs, HEX.out, HO4.out, by rw [HL3.out]; omega, HP4.out, HG4.out, .inr ⟨rfl, HR2.out.symm⟩⟩
          case measure => simp [ArgM]; omega
        · rw [hm, if_pos rfl] at hr2
          rw [hm, if_pos rfl, if_pos rfl] at HMK
          obtain ⟨_, y, ys, rfl, hey⟩ := HEX.out.more (by have := (tMark_iff.1 hm).1; omega)
          have HR2 := Lib.hid hr2
          have HEY := Lib.hid hey
          clear hr2 hm hey
          go_wp2_with fail
          go_fit HMK.out
          rintro e w4 ⟨rfl, hps4, hg4⟩
          have HO4 := Lib.hid (HO3.out.gb hpw hg4)
          have HP4 := Lib.hid hps4
          have HG4 := Lib.hid (gb_trans HG3.out hg4)
          clear hps4 hg4
          go_wp2
          go_roundw
          case rel => exact ⟨_, y, ys, HEY.out, HO4.out, by rw [HL3.out]; omega, HP4.out, HG4.out, .inl ⟨rfl, n, by simp at hlen hn ⊢; omega, HR2.out⟩⟩
          case measure => simp [ArgM]; omega
      · have f1 : (qe != 0) = true := by simp [hqe]
        have hr2 := HRR.out
        rw [if_pos hqe] at hr2
        have HR2 := Lib.hid hr2
        clear hr2 hqe HRR
        have hdd : decide ((args.length : Int) < 8) = decide (args.length < 8) := hd8
        generalize decide (args.length < 8) = room at *
        clear hd8
        go_wp2_with fail
        go_fit HARG.out
        rintro e w2 ⟨rfl, hps1, hg1⟩
        have HP1 := Lib.hid (hps1.lit (.cells #[.int .i64 vk, .int .i64 vi, .string ⟨vw.toArray⟩] 40))
        have HG1 := Lib.hid (gb_trans HG.out (gb_lit hg1 (.cells #[.int .i64 vk, .int .i64 vi, .string ⟨vw.toArray⟩] 40)))
        clear hps1 hg1
        go_wp2
        go_ret2
        rw [← HR2.out]
        exact ⟨_, rfl, OwnG.nil _ _, HP1.out, HG1.out⟩
    · have HR2 := Lib.hid hr
      have HMK := Lib.hid (mark2_any p [41] [46] u us wr HPS.out HEU.out)
      clear hr
      go_wp2_with fail
      go_fit HMK.out
      rintro e w4 ⟨rfl, hps4, hg4⟩
      have HO4 := Lib.hid (HO.out.gb hpw hg4)
      have HP4 := Lib.hid hps4
      have HG4 := Lib.hid (gb_trans HG.out hg4)
      clear hps4 hg4
      go_wp2
      go_ret2
      rw [HR2.out]
      exact ⟨_, rfl, HO4.out, HP4.out, HG4.out⟩
end Go.Proofs.YtmodjokoggmnaaaGreatDoor
