/-
  The parser of facts: negative, whatever the tokens.
  Conditions: the tokens end with one of kind 0, and no other has that kind.
  The parser of facts: argument and relation, whatever the tokens.
  Conditions: the tokens end with one of kind 0, and no other has that kind.
  The parser of facts: relation and the marks, whatever the tokens.
  Conditions: the tokens end with one of kind 0, and no other has that kind.
-/
import Derived.Test.YtmodjokoggmnaaaGreatDoorMa21
namespace Go.Proofs.YtmodjokoggmnaaaGreatDoor
open Go.RowKit Go.Shelf

theorem neg_wrap {v : Int} (h0 : 0 ≤ v) (h1 : v ≤ 9223372036854775808) : wrap64 (IntKind.u64.wrap (-v)) = -v := by
  by_cases hv : v = 0
  · subst hv; decide +kernel
  · have e : IntKind.u64.wrap (-v) = 18446744073709551616 - v := by
      show (-v) % 18446744073709551616 = _
      omega
    rw [e]
    unfold wrap64
    omega
theorem fnumw_any (v : Int) (w : World) :
    Calls Tryz.prog 119 #[.int .u64 v] w fun e w' => e = .returned (GVal.val ⟨1, wrap64 v, []⟩) ∧ Below w.heap.size w w' := by
  go_enter Tryz.func119, Tryz.ntmps119
  go_wp2
  exact bodyPost_ret (v := GVal.val ⟨1, wrap64 v, []⟩) (by simp [results, Tryz.results119, go_sem, GVal.val]) rfl ⟨rfl, bel_lit (Below.refl _ _) _⟩
theorem fword_any (l : List UInt8) (w : World) :
    Calls Tryz.prog 120 #[.string ⟨l.toArray⟩] w fun e w' => e = .returned (GVal.val ⟨2, 0, l⟩) ∧ Below w.heap.size w w' := by
  go_enter Tryz.func120, Tryz.ntmps120
  go_wp2
  exact bodyPost_ret (v := GVal.val ⟨2, 0, l⟩) (by simp [results, Tryz.results120, go_sem, GVal.val]) rfl ⟨rfl, bel_lit (Below.refl _ _) _⟩
/-- The block N is a result of the type Value that nothing has been stored into. -/
def ResV (W : World) (N : Nat) : Prop := W.heap[N]? = some (.cells #[.int .i64 0, .int .i64 0, .string ⟨#[]⟩] 40 (0, 0))
theorem ResV.new (w : World) : ResV (w.alloc (.cells #[.int .i64 0, .int .i64 0, .string ⟨#[]⟩] 40)) w.heap.size := heap_alloc_new w _
theorem ResV.lt {W : World} {N : Nat} (h : ResV W N) : N < W.heap.size := by
  unfold ResV at h
  rcases Nat.lt_or_ge N W.heap.size with h1 | h1
  · exact h1
  · rw [Array.getElem?_eq_none h1] at h; cases h
theorem ResV.next {W W' : World} {N : Nat} (h : ResV W N) (hb : Below W.heap.size W W') : ResV W' N := (hb.block N h.lt).trans h
theorem ResV.gb {W W' : World} {N p : Nat} (h : ResV W N) (hb : W.grownBy W' (some p)) (hp : N ≠ p) : ResV W' N := (hb.block N h.lt (by intro e; cases e; exact hp rfl)).trans h
theorem ResV.lit {W : World} {N : Nat} (h : ResV W N) (o : Obj) : ResV (W.alloc o) N := h.next ((Below.refl _ _).alloc (Nat.le_refl _) o)
theorem ResV.facts {W : World} {N : Nat} (h : ResV W N) : W.cell? ⟨N, 0, none⟩ = some (.int .i64 0) ∧ W.cell? ⟨N, 1, none⟩ = some (.int .i64 0) ∧ W.cell? ⟨N, 2, none⟩ = some (.string ⟨#[]⟩) ∧ W.frozen? ⟨N, 0, none⟩ = false ∧ W.frozen? ⟨N, 1, none⟩ = false ∧ W.frozen? ⟨N, 2, none⟩ = false := by
  unfold ResV at h
  exact ⟨by rw [Lib.cell_of_heap h]; rfl, by rw [Lib.cell_of_heap h]; rfl, by rw [Lib.cell_of_heap h]; rfl, Lib.frozen_of_heap h 0, Lib.frozen_of_heap h 1, Lib.frozen_of_heap h 2⟩
/-- How a method of the parser ends that yields a value. -/
def ValEnd (r : Int × GVal × List GTok) (p : Nat) (w : World) (e : Ending) (w' : World) : Prop :=
  e = .returned (.tuple #[r.2.1.val, .int .i64 r.1]) ∧ PS w' p r.2.2 ∧ w.grownBy w' (some p)
theorem PS.res {w : World} {p N : Nat} {ts : List GTok} (h : PS w p ts) (hN : p < N) (a b c : Value) : PS (((w.setCell ⟨N, 0, none⟩ a).setCell ⟨N, 1, none⟩ b).setCell ⟨N, 2, none⟩ c) p ts := ((h.other _ _ hN).other _ _ hN).other _ _ hN
theorem gb_res {q : Option Nat} {w w1 : World} (h : w.grownBy w1 q) (N : Nat) (hN : w.heap.size ≤ N) (a b c : Value) : w.grownBy (((w1.setCell ⟨N, 0, none⟩ a).setCell ⟨N, 1, none⟩ b).setCell ⟨N, 2, none⟩ c) q := gb_new (gb_new (gb_new h _ _ hN) _ _ hN) _ _ hN
set_option maxRecDepth 50000 in
set_option maxHeartbeats 1000000 in
theorem negative_any (p : Nat) (t : GTok) (ts : List GTok) (w : World) (h : PS w p (t :: ts)) (he : TEnds (t :: ts)) :
    Calls Tryz.prog 118 #[.pointer (some ⟨p, 0, none⟩)] w (ValEnd (pNeg (t :: ts)) p w) := by
  have HPS := Lib.hid h
  obtain ⟨b, off, cp, hbp, hpw, hc1, hc2, hh, hcp, hfz, hr, x0, x1, x2, x3, x4⟩ := h.open
  have hkk := he.kinds
  have HEN := Lib.hid he
  have HRV := Lib.hid (ResV.new w)
  have hbw : b < w.heap.size := by omega
  have HD : Hid (pNeg (t :: ts) = if t.kind ≠ 2 then (50, z0V, t :: ts) else if 9223372036854775808 < t.value then (6, z0V, t :: ts) else (0, ⟨1, -t.value, []⟩, ts)) := Lib.hid rfl
  clear h hh hr he
  by_cases h2 : t.kind = 2
  case neg =>
    rw [if_pos h2] at HD
    rw [HD.out]
    clear HD HEN
    obtain ⟨tk, tt, tv, tl, tc⟩ := t
    simp only at h2 hkk x0 x1 x2 x3 x4
    have f1 : (tk != 2) = true := by simp [h2]
    clear hkk
    go_enter Tryz.func118, Tryz.ntmps118
    go_wp2
    refine bodyPost_ret (v := .tuple #[z0V.val, .int .i64 50]) (by simp [results, Tryz.results118, go_sem, GVal.val, z0V]) rfl ⟨rfl, ?_, ?_⟩
    · exact (HPS.out.lit _).lit _
    · exact gb_lit (gb_lit (gb_refl _) _) _
  case pos =>
    rw [if_neg (by simp [h2])] at HD
    by_cases hv : 9223372036854775808 < t.value
    · rw [if_pos hv] at HD
      rw [HD.out]
      clear HD HEN
      obtain ⟨tk, tt, tv, tl, tc⟩ := t
      simp only at h2 hkk x0 x1 x2 x3 x4 hv
      subst h2
      have f1 : decide (9223372036854775808 < tv) = true := by simp [hv]
      clear hkk
      go_enter Tryz.func118, Tryz.ntmps118
      go_wp2
      refine bodyPost_ret (v := .tuple #[z0V.val, .int .i64 6]) (by simp [results, Tryz.results118, go_sem, GVal.val, z0V]) rfl ⟨rfl, ?_, ?_⟩
      · exact (HPS.out.lit _).lit _
      · exact gb_lit (gb_lit (gb_refl _) _) _
    · rw [if_neg hv] at HD
      rw [HD.out]
      obtain ⟨hw, u, r, rfl, _⟩ := HEN.out.more (by omega)
      have hlo := hw.low
      have HT := Lib.hid fun W => take_any p t u r W
      clear HD HEN hw
      obtain ⟨tk, tt, tv, tl, tc⟩ := t
      simp only [GTok.val] at *
      subst h2
      have f1 : decide (9223372036854775808 < tv) = false := by simp [hv]
      have HN := Lib.hid fun W => fnumw_any (IntKind.u64.wrap (-tv)) W
      rw [neg_wrap hlo (by omega)] at HN
      simp only [GVal.val] at HN
      have hfl : ∀ W : World, (Instr.field 52 (.agg #[.int .i64 2, .string ⟨tt.toArray⟩, .int .u64 tv, .int .i64 tl, .int .i64 tc]) 2).run Tryz.prog W = .ok (.int .u64 tv) W := fun W => by kernel_rfl
      clear hkk hlo
      go_enter Tryz.func118, Tryz.ntmps118
      go_wp2_with fail
      go_fit (HT.out _ ((HPS.out.lit _).lit _))
      rintro e w2 ⟨rfl, hps2, hg2⟩
      have HP2 := Lib.hid hps2
      have HG2 := Lib.hid (gb_trans (gb_lit (gb_lit (gb_refl _) _) _) hg2)
      have HR2 := Lib.hid ((HRV.out.lit _).gb hg2 (by omega))
      have hs2 := hg2.size
      clear hps2 hg2
      go_wp2_with fail
      go_fit (HN.out _)
      rintro e w3 ⟨rfl, hb3⟩
      have HP3 := Lib.hid (HP2.out.next hb3)
      have HG3 := Lib.hid (gb_trans HG2.out (gb_bel hb3))
      obtain ⟨q0, q1, q2, z0, z1, z2⟩ := (HR2.out.next hb3).facts
      have hs3 : w.heap.size < w3.heap.size := by have := hb3.size; simp at hs2; omega
      clear hb3 HT HN hs2
      go_wp2
      refine bodyPost_ret (v := .tuple #[GVal.val ⟨1, -tv, []⟩, .int .i64 0]) (by simp [results, Tryz.results118, go_sem, GVal.val, q0, q1, q2]) rfl ⟨rfl, ?_, ?_⟩
      · exact HP3.out.res hpw _ _ _
      · exact gb_res HG3.out _ (Nat.le_refl _) _ _ _
end Go.Proofs.YtmodjokoggmnaaaGreatDoor


namespace Go.Proofs.YtmodjokoggmnaaaGreatDoor
open Go.RowKit Go.Shelf

theorem TokW.u64 {t : GTok} (h : TokW t) : IntKind.u64.wrap t.value = t.value := by
  show t.value % 18446744073709551616 = t.value
  have := h.low
  have := h.high
  omega
theorem wrap64_in {v : Int} (h0 : 0 ≤ v) (h1 : v ≤ 9223372036854775807) : wrap64 v = v := by unfold wrap64; omega
set_option maxRecDepth 50000 in
set_option maxHeartbeats 1000000 in
theorem argument_any (p : Nat) (room : Bool) (t : GTok) (ts : List GTok) (w : World) (h : PS w p (t :: ts)) (he : TEnds (t :: ts)) :
    Calls Tryz.prog 92 #[.pointer (some ⟨p, 0, none⟩), .bool room] w (ValEnd (pArg room (t :: ts)) p w) := by
  have HPS := Lib.hid h
  obtain ⟨b, off, cp, hbp, hpw, hc1, hc2, hh, hcp, hfz, hr, x0, x1, x2, x3, x4⟩ := h.open
  have HEN := Lib.hid he
  have HRV := Lib.hid (ResV.new w)
  have hbw : b < w.heap.size := by omega
  have HD : Hid (pArg room (t :: ts) = if errArg t ≠ 0 then (errArg t, z0V, t :: ts) else if room = false then (15, z0V, t :: ts) else if t.kind = 4 then pNeg ts else if t.kind = 2 then (0, ⟨1, t.value, []⟩, ts) else (0, ⟨2, 0, t.text⟩, ts)) := Lib.hid rfl
  have HF := Lib.hid fun W => firstError_any t W he.kinds he.text
  have hnot : ∀ (x : Bool) (w : World), (Op.unary .not (.bool x)).run Tryz.prog w = .ok (.bool (!x)) w := fun _ _ => rfl
  clear h hh hr he
  by_cases hne : errArg t = 0
  case neg =>
    rw [if_pos hne] at HD
    rw [HD.out]
    generalize errArg t = er at *
    have f1 : (er != 0) = true := by simp [hne]
    clear HD HEN hne
    obtain ⟨tk, tt, tv, tl, tc⟩ := t
    simp only [GTok.val] at *
    go_enter Tryz.func92, Tryz.ntmps92
    go_wp2_with fail
    go_fit (HF.out _)
    rintro e w1 ⟨rfl, hb1⟩
    have HP1 := Lib.hid ((HPS.out.lit _).next hb1)
    have HG1 := Lib.hid (gb_trans (gb_lit (gb_refl _) _) (gb_bel hb1) : w.grownBy w1 (some p))
    obtain ⟨q0, q1, q2, z0, z1, z2⟩ := (HRV.out.next hb1).facts
    have hs3 : w.heap.size < w1.heap.size := by have := hb1.size; simp at this; omega
    clear hb1 HF x0 x1 x2 x3 x4
    go_wp2
    refine bodyPost_ret (v := .tuple #[z0V.val, .int .i64 er]) (by simp [results, Tryz.results92, go_sem, GVal.val, z0V, q0, q1, q2]) rfl ⟨rfl, ?_, ?_⟩
    · first | exact HP1.out | exact HP1.out.res hpw _ _ _
    · first | exact HG1.out | exact gb_res HG1.out _ (Nat.le_refl _) _ _ _
  case pos =>
    rw [if_neg (by simp [hne])] at HD
    rw [hne] at HF
    cases room
    case false =>
      rw [if_pos rfl] at HD
      rw [HD.out]
      clear HD HEN hne
      obtain ⟨tk, tt, tv, tl, tc⟩ := t
      simp only [GTok.val] at *
      go_enter Tryz.func92, Tryz.ntmps92
      go_wp2_with fail
      go_fit (HF.out _)
      rintro e w1 ⟨rfl, hb1⟩
      have HP1 := Lib.hid ((HPS.out.lit _).next hb1)
      have HG1 := Lib.hid (gb_trans (gb_lit (gb_refl _) _) (gb_bel hb1) : w.grownBy w1 (some p))
      obtain ⟨q0, q1, q2, z0, z1, z2⟩ := (HRV.out.next hb1).facts
      have hs3 : w.heap.size < w1.heap.size := by have := hb1.size; simp at this; omega
      clear hb1 HF x0 x1 x2 x3 x4
      go_wp2
      refine bodyPost_ret (v := .tuple #[z0V.val, .int .i64 15]) (by simp [results, Tryz.results92, go_sem, GVal.val, z0V, q0, q1, q2]) rfl ⟨rfl, ?_, ?_⟩
      · first | exact HP1.out | exact HP1.out.res hpw _ _ _
      · first | exact HG1.out | exact gb_res HG1.out _ (Nat.le_refl _) _ _ _
    case true =>
      rw [if_neg (by simp)] at HD
      rw [HD.out]
      have hk0 : t.kind ≠ 0 := fun e => by
        have := hne
        unfold errArg at this
        rw [if_neg (by omega), if_neg (by omega), if_pos (.inr e)] at this
        cases this
      obtain ⟨hw, u, r, rfl, her⟩ := HEN.out.more hk0
      have HT := Lib.hid fun W => take_any p t u r W
      have HW := Lib.hid hw
      have HER := Lib.hid her
      have HNE := Lib.hid hne
      have hkk := hw.kind
      clear HD HEN hne hw her hk0
      generalize hpn : pNeg (u :: r) = pn at *
      have HPN := Lib.hid hpn
      clear hpn
      obtain ⟨tk, tt, tv, tl, tc⟩ := t
      simp only [GTok.val] at *
      by_cases h4 : tk = 4
      · subst h4
        rw [if_pos rfl]
        have HNG := Lib.hid fun W (hW : PS W p (u :: r)) => negative_any p u r W hW HER.out
        rw [HPN.out] at HNG
        obtain ⟨ne, nv, nts⟩ := pn
        obtain ⟨vk, vi, vw⟩ := nv
        unfold ValEnd at *
        simp only [GVal.val] at *
        go_enter Tryz.func92, Tryz.ntmps92
        go_wp2_with fail
        go_fit (HF.out _)
        rintro e w1 ⟨rfl, hb1⟩
        have HP1 := Lib.hid ((HPS.out.lit _).next hb1)
        have HG1 := Lib.hid (gb_trans (gb_lit (gb_refl _) _) (gb_bel hb1) : w.grownBy w1 (some p))
        have HR1 := Lib.hid (HRV.out.next hb1)
        have hs1 := HG1.out.size
        clear hb1 HF
        go_wp2_with fail
        go_fit (HT.out _ HP1.out)
        rintro e w2 ⟨rfl, hps2, hg2⟩
        have HP2 := Lib.hid (hps2.lit (.cells #[.int .i64 4, .string ⟨tt.toArray⟩, .int .u64 tv, .int .i64 tl, .int .i64 tc] 52))
        have HG2 := Lib.hid (gb_lit (gb_trans HG1.out hg2) (.cells #[.int .i64 4, .string ⟨tt.toArray⟩, .int .u64 tv, .int .i64 tl, .int .i64 tc] 52))
        have HR2 := Lib.hid ((HR1.out.gb hg2 (by omega)).lit (.cells #[.int .i64 4, .string ⟨tt.toArray⟩, .int .u64 tv, .int .i64 tl, .int .i64 tc] 52))
        have hs2 := hg2.size
        clear hps2 hg2 HT x0 x1 x2 x3 x4
        go_wp2_with fail
        go_fit (HNG.out _ HP2.out)
        rintro e w3 ⟨rfl, hps3, hg3⟩
        have HP3 := Lib.hid hps3
        have HG3 := Lib.hid (gb_trans HG2.out hg3)
        obtain ⟨q0, q1, q2, z0, z1, z2⟩ := (HR2.out.gb hg3 (by omega)).facts
        have hs3 : w.heap.size < w3.heap.size := (HR2.out.gb hg3 (by omega)).lt
        clear hps3 hg3 HNG hs1 hs2
        go_wp2
        refine bodyPost_ret (v := .tuple #[.agg #[.int .i64 vk, .int .i64 vi, .string ⟨vw.toArray⟩], .int .i64 ne]) (by simp [results, Tryz.results92, go_sem, q0, q1, q2]) rfl ⟨rfl, ?_, ?_⟩
        · first | exact HP3.out | exact HP3.out.res hpw _ _ _
        · first | exact HG3.out | exact gb_res HG3.out _ (Nat.le_refl _) _ _ _
      · rw [if_neg h4]
        by_cases h2 : tk = 2
        · subst h2
          rw [if_pos rfl]
          have hv : tv ≤ 9223372036854775807 := by
            have := HNE.out
            unfold errArg at this
            simp only at this
            by_cases hv : 9223372036854775807 < tv
            · simp [hv] at this
            · omega
          have hlo := HW.out.low
          simp only at hlo
          have HN := Lib.hid fun W => fnumw_any tv W
          rw [wrap64_in hlo hv] at HN
          simp only [GVal.val] at *
          clear hlo hv h4 HPN
          go_enter Tryz.func92, Tryz.ntmps92
          go_wp2_with fail
          go_fit (HF.out _)
          rintro e w1 ⟨rfl, hb1⟩
          have HP1 := Lib.hid ((HPS.out.lit _).next hb1)
          have HG1 := Lib.hid (gb_trans (gb_lit (gb_refl _) _) (gb_bel hb1) : w.grownBy w1 (some p))
          have HR1 := Lib.hid (HRV.out.next hb1)
          have hs1 := HG1.out.size
          clear hb1 HF
          go_wp2_with fail
          go_fit (HT.out _ HP1.out)
          rintro e w2 ⟨rfl, hps2, hg2⟩
          have HP2 := Lib.hid (hps2.lit (.cells #[.int .i64 2, .string ⟨tt.toArray⟩, .int .u64 tv, .int .i64 tl, .int .i64 tc] 52))
          have HG2 := Lib.hid (gb_lit (gb_trans HG1.out hg2) (.cells #[.int .i64 2, .string ⟨tt.toArray⟩, .int .u64 tv, .int .i64 tl, .int .i64 tc] 52))
          have HR2 := Lib.hid ((HR1.out.gb hg2 (by omega)).lit (.cells #[.int .i64 2, .string ⟨tt.toArray⟩, .int .u64 tv, .int .i64 tl, .int .i64 tc] 52))
          have hs2 := hg2.size
          clear hps2 hg2 HT x0 x1 x2 x3 x4
          go_wp2_with fail
          go_fit (HN.out _)
          rintro e w3 ⟨rfl, hb3⟩
          have HP3 := Lib.hid (HP2.out.next hb3)
          have HG3 := Lib.hid (gb_trans HG2.out (gb_bel hb3))
          obtain ⟨q0, q1, q2, z0, z1, z2⟩ := (HR2.out.next hb3).facts
          have hs3 : w.heap.size < w3.heap.size := (HR2.out.next hb3).lt
          clear hb3 HN hs1 hs2
          go_wp2
          refine bodyPost_ret (v := .tuple #[.agg #[.int .i64 1, .int .i64 tv, .string ⟨#[]⟩], .int .i64 0]) (by simp [results, Tryz.results92, go_sem, q0, q1, q2]) rfl ⟨rfl, ?_, ?_⟩
          · first | exact HP3.out | exact HP3.out.res hpw _ _ _
          · first | exact HG3.out | exact gb_res HG3.out _ (Nat.le_refl _) _ _ _
        · rw [if_neg h2]
          have HN := Lib.hid fun W => fword_any tt W
          simp only [GVal.val] at *
          clear HPN HNE
          rcases hkk with rfl | rfl | rfl | rfl
          case inr.inl => exact absurd rfl h2
          case inr.inr.inr => exact absurd rfl h4
          all_goals
            clear h2 h4
            go_enter Tryz.func92, Tryz.ntmps92
            go_wp2_with fail
            go_fit (HF.out _)
            rintro e w1 ⟨rfl, hb1⟩
            have HP1 := Lib.hid ((HPS.out.lit _).next hb1)
            have HG1 := Lib.hid (gb_trans (gb_lit (gb_refl _) _) (gb_bel hb1) : w.grownBy w1 (some p))
            have HR1 := Lib.hid (HRV.out.next hb1)
            have hs1 := HG1.out.size
            clear hb1 HF
            go_wp2_with fail
            go_fit (HT.out _ HP1.out)
            rintro e w2 ⟨rfl, hps2, hg2⟩
            have HP2 := Lib.hid fun o => hps2.lit o
            have HG2 := Lib.hid fun o => gb_lit (gb_trans HG1.out hg2) o
            have HR2 := Lib.hid fun o => (HR1.out.gb hg2 (by omega)).lit o
            have hs2 := hg2.size
            clear hps2 hg2 HT x0 x1 x2 x3 x4
            go_wp2_with fail
            go_fit (HN.out _)
            rintro e w3 ⟨rfl, hb3⟩
            have HP3 := Lib.hid ((HP2.out _).next hb3)
            have HG3 := Lib.hid (gb_trans (HG2.out _) (gb_bel hb3))
            obtain ⟨q0, q1, q2, z0, z1, z2⟩ := ((HR2.out _).next hb3).facts
            have hs3 : w.heap.size < w3.heap.size := ((HR2.out _).next hb3).lt
            clear hb3 HN hs1 hs2
            go_wp2
            refine bodyPost_ret (v := .tuple #[.agg #[.int .i64 2, .int .i64 0, .string ⟨tt.toArray⟩], .int .i64 0]) (by simp [results, Tryz.results92, go_sem, q0, q1, q2]) rfl ⟨rfl, ?_, ?_⟩
            · first | exact HP3.out | exact HP3.out.res hpw _ _ _
            · first | exact HG3.out | exact gb_res HG3.out _ (Nat.le_refl _) _ _ _
end Go.Proofs.YtmodjokoggmnaaaGreatDoor


namespace Go.Proofs.YtmodjokoggmnaaaGreatDoor
open Go.RowKit Go.Shelf

def RelEnd (r : Int × List UInt8 × List GTok) (p : Nat) (w : World) (e : Ending) (w' : World) : Prop :=
  e = .returned (.tuple #[.string ⟨r.2.1.toArray⟩, .int .i64 r.1]) ∧ PS w' p r.2.2 ∧ w.grownBy w' (some p)
set_option maxRecDepth 50000 in
set_option maxHeartbeats 1000000 in
theorem relationG_any (p : Nat) (room : Bool) (t : GTok) (ts : List GTok) (w : World) (h : PS w p (t :: ts)) (he : TEnds (t :: ts)) :
    Calls Tryz.prog 52 #[.pointer (some ⟨p, 0, none⟩), .bool room] w (RelEnd (pRel room (t :: ts)) p w) := by
  have HPS := Lib.hid h
  obtain ⟨b, off, cp, hbp, hpw, hc1, hc2, hh, hcp, hfz, hr, x0, x1, x2, x3, x4⟩ := h.open
  have HEN := Lib.hid he
  have hbw : b < w.heap.size := by omega
  have HD : Hid (pRel room (t :: ts) = if t.kind ≠ 1 then (50, [], t :: ts) else if sizedP t.text = false then (63, [], t :: ts) else if room = false then (15, [], t :: ts) else (0, t.text, ts)) := Lib.hid rfl
  have HN := Lib.hid fun W => sizedP_any t.text W he.text
  have hnot : ∀ (x : Bool) (w : World), (Op.unary .not (.bool x)).run Tryz.prog w = .ok (.bool (!x)) w := fun _ _ => rfl
  clear h hh hr he
  by_cases h1 : t.kind = 1
  case neg =>
    rw [if_pos h1] at HD
    rw [HD.out]
    clear HD HEN
    obtain ⟨tk, tt, tv, tl, tc⟩ := t
    simp only at *
    have f1 : (tk != 1) = true := by simp [h1]
    go_enter Tryz.func52, Tryz.ntmps52
    go_wp2
    go_ret2
    exact ⟨rfl, HPS.out.lit _, gb_lit (gb_refl _) _⟩
  case pos =>
    rw [if_neg (by simp [h1])] at HD
    generalize hsz : sizedP t.text = sz at *
    cases sz
    case false =>
      rw [if_pos rfl] at HD
      rw [HD.out]
      clear HD HEN hsz
      obtain ⟨tk, tt, tv, tl, tc⟩ := t
      simp only at *
      subst h1
      go_enter Tryz.func52, Tryz.ntmps52
      go_wp2_with fail
      go_fit (HN.out _)
      rintro e w1 ⟨rfl, rfl⟩
      go_wp2
      go_ret2
      exact ⟨rfl, HPS.out.lit _, gb_lit (gb_refl _) _⟩
    case true =>
      rw [if_neg (by simp)] at HD
      obtain ⟨hw, u, r, rfl, _⟩ := HEN.out.more (by omega)
      have HT := Lib.hid fun W => take_any p t u r W
      clear hsz HEN hw
      cases room
      case false =>
        rw [if_pos rfl] at HD
        rw [HD.out]
        clear HD HT
        obtain ⟨tk, tt, tv, tl, tc⟩ := t
        simp only at *
        subst h1
        go_enter Tryz.func52, Tryz.ntmps52
        go_wp2_with fail
        go_fit (HN.out _)
        rintro e w1 ⟨rfl, rfl⟩
        go_wp2
        go_ret2
        exact ⟨rfl, HPS.out.lit _, gb_lit (gb_refl _) _⟩
      case true =>
        rw [if_neg (by simp)] at HD
        rw [HD.out]
        clear HD
        obtain ⟨tk, tt, tv, tl, tc⟩ := t
        simp only [GTok.val] at *
        subst h1
        have hfl : ∀ W : World, (Instr.field 52 (.agg #[.int .i64 1, .string ⟨tt.toArray⟩, .int .u64 tv, .int .i64 tl, .int .i64 tc]) 1).run Tryz.prog W = .ok (.string ⟨tt.toArray⟩) W := fun W => by kernel_rfl
        go_enter Tryz.func52, Tryz.ntmps52
        go_wp2_with fail
        go_fit (HN.out _)
        rintro e w1 ⟨rfl, rfl⟩
        go_wp2_with fail
        go_fit (HT.out _ (HPS.out.lit _))
        rintro e w2 ⟨rfl, hps2, hg2⟩
        have HP2 := Lib.hid hps2
        have HG2 := Lib.hid (gb_trans (gb_lit (gb_refl _) _) hg2)
        clear hps2 hg2
        go_wp2
        go_ret2
        exact ⟨rfl, HP2.out, HG2.out⟩
/-- How marks ends: the tokens that are left. -/
def MarkEnd (e0 : Int) (ts : List GTok) (p : Nat) (w : World) (e : Ending) (w' : World) : Prop := e = .returned (.int .i64 e0) ∧ PS w' p ts ∧ w.grownBy w' (some p)
theorem tMark_iff {s : List UInt8} {t : GTok} : tMark s t = true ↔ t.kind = 4 ∧ t.text = s := by unfold tMark; simp
/-- marks(s), its literal slice made just before. -/
theorem mark1_any (p : Nat) (s : List UInt8) (t : GTok) (ts : List GTok) (w : World) (h : PS w p (t :: ts)) (he : TEnds (t :: ts)) :
    Calls Tryz.prog 91 #[.pointer (some ⟨p, 0, none⟩), .slice (some ⟨w.heap.size, 0, none⟩) 1 1] (w.alloc (.cells #[.string ⟨s.toArray⟩] 9)) (MarkEnd (if tMark s t then 0 else 50) (if tMark s t then ts else t :: ts) p w) := by
  cases hm : tMark s t
  · refine (mark_no p [] s w.heap.size 1 t ts _ (h.lit _) (by go_simp) rfl (by omega) hm he).mono ?_
    rintro e w' ⟨rfl, h1, h2⟩
    exact ⟨rfl, h1, gb_trans (gb_lit (gb_refl _) _) h2⟩
  · obtain ⟨h4, hx⟩ := tMark_iff.1 hm
    obtain ⟨_, u, r, rfl, _⟩ := he.more (by omega)
    refine (mark1_hit p s t (u :: r) w h (by simp) h4 hx).mono ?_
    rintro e w' ⟨rfl, h1, h2⟩
    exact ⟨rfl, h1, h2⟩
/-- marks(s, s2) where the first mark is there and the second is not. -/
def HalfRel (t u : GTok) (ts : List GTok) (p : Nat) (w : World) (vi : Value) (wr : World) : Prop := (vi = .int .i64 0 ∧ PS wr p (t :: u :: ts) ∧ w.grownBy wr (some p)) ∨ (vi = .int .i64 1 ∧ PS wr p (u :: ts) ∧ w.grownBy wr (some p))
set_option maxRecDepth 50000 in
set_option maxHeartbeats 1000000 in
theorem mark_half (p : Nat) (s s2 : List UInt8) (N : Nat) (t u : GTok) (ts : List GTok) (w : World) (h : PS w p (t :: u :: ts)) (hN : p < N) (hs : w.cell? ⟨N, 0, none⟩ = some (.string ⟨s.toArray⟩)) (hs2 : w.cell? ⟨N, 1, none⟩ = some (.string ⟨s2.toArray⟩)) (hk : t.kind = 4) (hx : t.text = s) (hu : tMark s2 u = false) (heu : TEnds (u :: ts)) :
    Calls Tryz.prog 91 #[.pointer (some ⟨p, 0, none⟩), .slice (some ⟨N, 0, none⟩) 2 2] w fun e w' => e = .returned (.int .i64 50) ∧ PS w' p (u :: ts) ∧ w.grownBy w' (some p) := by
  have HPS := Lib.hid h
  have HUK := Lib.hid heu.kinds
  have hNw := World.block_lt_of_cell? w _ hs
  simp only at hNw
  have HS := Lib.hid hs
  have HS2 := Lib.hid hs2
  have HM := Lib.hid hu
  clear h heu hs hs2 hu
  go_enter Tryz.func91, Tryz.ntmps91
  go_wp2
  go_loopw [10] (fun vi wr => HalfRel t u ts p w vi wr) (fun vi _ => 2 - (intOf vi).toNat)
  case atStart => exact .inl ⟨rfl, HPS.out, gb_refl _⟩
  case round =>
    rcases hrel with ⟨rfl, hps, hg⟩ | ⟨rfl, hps, hg⟩
    · have y0 := (World.cell?_of_block (a := ⟨N, 0, none⟩) (hg.block N hNw (by intro e; cases e; omega))).trans HS.out
      have HP := Lib.hid hps
      have HG := Lib.hid hg
      obtain ⟨b, off, cp, hbp, hpw, hc1, hc2, hh, hcp, hfz, hr, x0, x1, x2, x3, x4⟩ := hps.open
      have HT := Lib.hid fun W => take_any p t u ts W
      obtain ⟨tk, tt, tv, tl, tc⟩ := t
      simp only [GTok.val] at *
      subst hk hx
      have ftt : (tt != tt) = false := by simp
      have hbw : b < wr.heap.size := by omega
      clear hps hg hh hr
      go_wp2_with fail
      go_fit (HT.out _ (HP.out.lit _))
      rintro e w1 ⟨rfl, hps1, hg1⟩
      have HP1 := Lib.hid hps1
      have HG1 := Lib.hid (gb_trans (gb_lit HG.out _) hg1)
      clear hps1 hg1
      go_wp2
      go_roundw
      case rel => exact .inr ⟨by go_num, HP1.out, HG1.out⟩
      case measure => simp [intOf]
    · have y0 := (World.cell?_of_block (a := ⟨N, 1, none⟩) (hg.block N hNw (by intro e; cases e; omega))).trans HS2.out
      have HP := Lib.hid hps
      have HG := Lib.hid hg
      obtain ⟨b, off, cp, hbp, hpw, hc1, hc2, hh, hcp, hfz, hr, x0, x1, x2, x3, x4⟩ := hps.open
      have hkk := HUK.out
      have hm : u.kind ≠ 4 ∨ u.text ≠ s2 := by
        have hk := HM.out
        unfold tMark at hk
        simp at hk
        by_cases h4 : u.kind = 4
        · exact .inr (hk h4)
        · exact .inl h4
      obtain ⟨uk, ut, uv, ul, uc⟩ := u
      simp only at hkk hm x0 x1 x2 x3 x4
      have hbw : b < wr.heap.size := by omega
      clear hps hg hh hr
      rcases hm with hm | hm
      · have f1 : (uk != 4) = true := by simp [hm]
        go_wp2
        go_ret
        exact ⟨rfl, HP.out.lit _, gb_lit HG.out _⟩
      · have f1 : (ut == s2) = false := by simp [hm]
        have f2 : (ut != s2) = true := by simp [hm]
        rcases hkk with rfl | rfl | rfl | rfl | rfl
        all_goals
          go_wp2
          go_ret
          exact ⟨rfl, HP.out.lit _, gb_lit HG.out _⟩
def two0 (s s2 : List UInt8) : List GTok → Int × List GTok
  | [] => (50, [])
  | t :: ts => if tMark s t = false then (50, t :: ts) else
    match ts with
    | [] => (50, [])
    | u :: r => if tMark s2 u then (0, r) else (50, u :: r)
/-- marks(s, s2), its literal slice made just before. -/
theorem mark2_any (p : Nat) (s s2 : List UInt8) (t : GTok) (ts : List GTok) (w : World) (h : PS w p (t :: ts)) (he : TEnds (t :: ts)) :
    Calls Tryz.prog 91 #[.pointer (some ⟨p, 0, none⟩), .slice (some ⟨w.heap.size, 0, none⟩) 2 2] (w.alloc (.cells #[.string ⟨s.toArray⟩, .string ⟨s2.toArray⟩] 9)) (MarkEnd (two0 s s2 (t :: ts)).1 (two0 s s2 (t :: ts)).2 p w) := by
  have hpw := h.lt
  cases hm : tMark s t
  · have e2 : two0 s s2 (t :: ts) = (50, t :: ts) := by simp [two0, hm]
    rw [e2]
    refine (mark_no p [s2] s w.heap.size 2 t ts _ (h.lit _) (by go_simp) rfl (by omega) hm he).mono ?_
    rintro e w' ⟨rfl, h1, h2⟩
    exact ⟨rfl, h1, gb_trans (gb_lit (gb_refl _) _) h2⟩
  · obtain ⟨h4, hx⟩ := tMark_iff.1 hm
    obtain ⟨_, u, r, rfl, heu⟩ := he.more (by omega)
    cases hm2 : tMark s2 u
    · have e2 : two0 s s2 (t :: u :: r) = (50, u :: r) := by simp [two0, hm, hm2]
      rw [e2]
      refine (mark_half p s s2 w.heap.size t u r _ (h.lit _) hpw (by go_simp) (by go_simp) h4 hx hm2 heu).mono ?_
      rintro e w' ⟨rfl, h1, h2⟩
      exact ⟨rfl, h1, gb_trans (gb_lit (gb_refl _) _) h2⟩
    · have e2 : two0 s s2 (t :: u :: r) = (0, r) := by simp [two0, hm, hm2]
      rw [e2]
      obtain ⟨h5, hy⟩ := tMark_iff.1 hm2
      obtain ⟨_, v, q, rfl, _⟩ := heu.more (by omega)
      refine (mark2_hit p s s2 t u (v :: q) w h (by simp) h4 hx h5 hy).mono ?_
      rintro e w' ⟨rfl, h1, h2⟩
      exact ⟨rfl, h1, h2⟩
end Go.Proofs.YtmodjokoggmnaaaGreatDoor
