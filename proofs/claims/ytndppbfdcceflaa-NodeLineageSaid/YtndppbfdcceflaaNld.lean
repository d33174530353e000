/-
  The law NodeDepth returns true.
  Conditions: none.
-/
import Derived.Test.YtndppbfdcceflaaNmn
namespace Go.Proofs.Ytndppbfdcceflaa

open Go.RowKit

set_option maxRecDepth 20000 in
set_option maxHeartbeats 1000000 in
theorem mId4_any (a b c : Int) (w : World) : Calls Try.prog 11 #[.int .i64 a, .int .i64 b, .int .i64 c] w fun e w' => ∃ x : GId, (vI x = true ∧ x.core < 4) ∧ e = .returned x.val ∧ Below w.heap.size w w' := by
  have H1 := Lib.hid fun W => mPlace_any a 4 (by omega) (by omega) W
  have H2 := Lib.hid fun W => mPlace_any b 12 (by omega) (by omega) W
  have H3 := Lib.hid fun W => mPlace_any c 3 (by omega) (by omega) W
  go_enter Try.func11, Try.ntmps11
  go_wp2_with fail
  go_fit (H1.out _)
  rintro e w1 ⟨p, p0, p1, rfl, rfl⟩
  go_wp2_with fail
  go_fit (H2.out _)
  rintro e w2 ⟨q, q0, q1, rfl, rfl⟩
  go_wp2_with fail
  go_fit (H3.out _)
  rintro e w3 ⟨r, r0, r1, rfl, rfl⟩
  have HV : Hid (vI ⟨p, 1 + q, r⟩ = true ∧ p < 4) := Lib.hid ⟨vI_iff.2 (by simp only; omega), p1⟩
  go_wp2
  refine bodyPost_ret (v := .agg #[.int .i64 p, .int .i64 (1 + q), .int .i64 r]) (by simp [results, Try.results11, go_sem]) rfl ?_
  exact ⟨_, HV.out, rfl, belt (Below.refl _ w) _⟩
theorem ch_valid {s : GN} {i : GId} {c : GC} (h : chE s i c = 0) : vN (chN s i c) = true ∧ chN s i c = ⟨i, s.path ++ [s.id], c⟩ := by
  by_cases h1 : CH1 s i c
  · by_cases h8 : s.path.length = 8
    · rw [ch_9 h1 h8] at h; cases h
    · obtain ⟨e1, e2⟩ := ch_0 h1 h8
      refine ⟨?_, e2⟩
      rw [e2]
      obtain ⟨hv, hi, hc, hne, hh⟩ := h1
      obtain ⟨f1, f2, f3, f4, f5, f6⟩ := vN_facts hv
      have hp : vP s.path = true := by unfold vN at hv; simp only [Bool.and_eq_true] at hv; exact hv.2
      have hq := vP_snoc hp f1 f5
      have hh2 : hasI (s.path ++ [s.id]) i = false := by
        unfold hasI at hh ⊢
        simp only [decide_eq_false_iff_not, List.mem_append, List.mem_singleton] at hh ⊢
        exact fun h => h.elim hh hne
      unfold vN
      simp only [Bool.and_eq_true, decide_eq_true_eq, hi, hc, hh2, hq, List.length_append, List.length_singleton]
      exact ⟨⟨⟨⟨trivial, trivial⟩, by omega⟩, rfl⟩, trivial⟩
  · rw [ch_1 h1] at h; cases h
/-- A chain of children: valid, so many ancestors, none of them the next child. -/
def Dep (s : GN) (i : Nat) : Prop := vN s = true ∧ s.path.length = i ∧ ∀ y ∈ s.id :: s.path, y.core = 5 → y.op ≤ i
theorem dep_step {s : GN} {i : Nat} (h : Dep s i) (h8 : i ≤ 8) : (i = 8 ∧ chE s ⟨5, i + 1, 0⟩ pgC = 9 ∧ (chN s ⟨5, i + 1, 0⟩ pgC).path.length = 0) ∨ (i < 8 ∧ chE s ⟨5, i + 1, 0⟩ pgC = 0 ∧ (chN s ⟨5, i + 1, 0⟩ pgC).path.length = i + 1 ∧ Hid (Dep (chN s ⟨5, i + 1, 0⟩ pgC) (i + 1))) := by
  obtain ⟨hv, hl, hn⟩ := h
  have hc : CH1 s ⟨5, i + 1, 0⟩ pgC := by
    refine ⟨hv, vI_iff.2 (by simp only; omega), vC_pg, fun e => ?_, ?_⟩
    · have := hn s.id (by simp) (by rw [← e])
      rw [← e] at this
      simp only at this
      omega
    · unfold hasI
      rw [decide_eq_false_iff_not]
      intro hm
      have := hn _ (List.mem_cons_of_mem _ hm) rfl
      simp only at this
      omega
  by_cases e8 : s.path.length = 8
  · left
    have e := ch_9 hc e8
    refine ⟨by omega, e, ?_⟩
    unfold chN; rw [if_neg (by rw [e]; decide)]; rfl
  · right
    obtain ⟨e, e2⟩ := ch_0 hc e8
    have hv2 := (ch_valid e).1
    refine ⟨by omega, e, by rw [e2]; simp [hl], Lib.hid ⟨hv2, by rw [e2]; simp [hl], ?_⟩⟩
    rw [e2]
    intro y hy h5
    simp only [List.mem_cons, List.mem_append, List.not_mem_nil, or_false] at hy
    rcases hy with rfl | hy | rfl
    · simp
    · have := hn y (List.mem_cons_of_mem _ hy) h5; omega
    · have := hn s.id (by simp) h5; omega
theorem own11 {W : World} {base g0 : Nat} {v : Value} {xs : List GId} (hg0 : g0 < base) (h : OwnG GId.cells 24 3 W base v xs) (v0 v1 v2 v3 v4 v5 v6 v7 v8 v9 v10 : Value) : OwnG GId.cells 24 3 (((((((((((W.setCell ⟨g0, 0, none⟩ v0).setCell ⟨g0, 1, none⟩ v1).setCell ⟨g0, 2, none⟩ v2).setCell ⟨g0, 3, none⟩ v3).setCell ⟨g0, 4, none⟩ v4).setCell ⟨g0, 5, none⟩ v5).setCell ⟨g0, 6, none⟩ v6).setCell ⟨g0, 7, none⟩ v7).setCell ⟨g0, 8, none⟩ v8).setCell ⟨g0, 9, none⟩ v9).setCell ⟨g0, 10, none⟩ v10) base v xs :=
  ((((((((((h.setOther hg0 0 v0).setOther hg0 1 v1).setOther hg0 2 v2).setOther hg0 3 v3).setOther hg0 4 v4).setOther hg0 5 v5).setOther hg0 6 v6).setOther hg0 7 v7).setOther hg0 8 v8).setOther hg0 9 v9).setOther hg0 10 v10
theorem below11b {B N : Nat} {W W' : World} (hN : B ≤ N) (h : Below B W W') (v0 v1 v2 v3 v4 v5 v6 v7 v8 v9 v10 : Value) : Below B W (((((((((((W'.setCell ⟨N, 0, none⟩ v0).setCell ⟨N, 1, none⟩ v1).setCell ⟨N, 2, none⟩ v2).setCell ⟨N, 3, none⟩ v3).setCell ⟨N, 4, none⟩ v4).setCell ⟨N, 5, none⟩ v5).setCell ⟨N, 6, none⟩ v6).setCell ⟨N, 7, none⟩ v7).setCell ⟨N, 8, none⟩ v8).setCell ⟨N, 9, none⟩ v9).setCell ⟨N, 10, none⟩ v10) :=
  ((((((((((h.setCell (p := ⟨N, 0, none⟩) hN v0).setCell (p := ⟨N, 1, none⟩) hN v1).setCell (p := ⟨N, 2, none⟩) hN v2).setCell (p := ⟨N, 3, none⟩) hN v3).setCell (p := ⟨N, 4, none⟩) hN v4).setCell (p := ⟨N, 5, none⟩) hN v5).setCell (p := ⟨N, 6, none⟩) hN v6).setCell (p := ⟨N, 7, none⟩) hN v7).setCell (p := ⟨N, 8, none⟩) hN v8).setCell (p := ⟨N, 9, none⟩) hN v9).setCell (p := ⟨N, 10, none⟩) hN v10
end Go.Proofs.Ytndppbfdcceflaa
