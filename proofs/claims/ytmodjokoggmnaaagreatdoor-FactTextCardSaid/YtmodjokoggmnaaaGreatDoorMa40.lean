/-
  The reference's parser of facts gives what the grammar gives: the states and the tokens left; one argument.
  The reference's parser of facts gives what the grammar gives: the arguments, the facts, the whole text.
  The reference's parser of facts gives what the grammar gives: the facts, the whole text.
-/
import Derived.Test.YtmodjokoggmnaaaGreatDoorMa37
namespace Go.Proofs.YtmodjokoggmnaaaGreatDoor
open Go.RowKit Go.Shelf

/-- Tokens asx a scan gives them. -/
structure GsW (gs : List GTok) : Prop where
  tok : ∀ g ∈ gs, TokW g
  word : ∀ g ∈ gs, g.kind = 1 → g.text ≠ []
def hdR (l : List UInt8) (gs : List GTok) (i : Nat) : GTok := (gs[i]?).getD (endTok l)
def atR (l : List UInt8) (gs : List GTok) (i : Nat) : List GTok := gs.drop i ++ [endTok l]
theorem hd_lt {l : List UInt8} {gs : List GTok} {i : Nat} (hi : i < gs.length) : hdR l gs i = gs[i] := by unfold hdR; rw [List.getElem?_eq_getElem hi]; rfl
theorem hd_ge {l : List UInt8} {gs : List GTok} {i : Nat} (hi : gs.length ≤ i) : hdR l gs i = endTok l := by unfold hdR; rw [List.getElem?_eq_none hi]; rfl
theorem at_lt {l : List UInt8} {gs : List GTok} {i : Nat} (hi : i < gs.length) : atR l gs i = hdR l gs i :: atR l gs (i + 1) := by
  unfold atR
  rw [hd_lt hi, List.drop_eq_getElem_cons hi]
  rfl
theorem at_ge {l : List UInt8} {gs : List GTok} {i : Nat} (hi : gs.length ≤ i) : atR l gs i = [hdR l gs i] := by
  unfold atR
  rw [hd_ge hi, List.drop_eq_nil_of_le hi]
  rfl
theorem at_cons (l : List UInt8) (gs : List GTok) (i : Nat) : ∃ r, atR l gs i = hdR l gs i :: r := by
  rcases Nat.lt_or_ge i gs.length with h | h
  · exact ⟨_, at_lt h⟩
  · exact ⟨_, at_ge h⟩
theorem hd_kind {l : List UInt8} {gs : List GTok} {i : Nat} (hk : (hdR l gs i).kind ≠ 0) : i < gs.length := by
  rcases Nat.lt_or_ge i gs.length with h | h
  · exact h
  · rw [hd_ge h] at hk; exact absurd rfl hk
theorem hd_tok {l : List UInt8} {gs : List GTok} (h : GsW gs) {i : Nat} (hk : (hdR l gs i).kind ≠ 0) : TokW (hdR l gs i) := by
  have hi := hd_kind hk
  rw [hd_lt hi]
  exact h.tok _ (List.getElem_mem hi)
theorem hd_word {l : List UInt8} {gs : List GTok} (h : GsW gs) {i : Nat} (hk : (hdR l gs i).kind = 1) : (hdR l gs i).text ≠ [] := by
  have hi := hd_kind (l := l) (gs := gs) (i := i) (by omega)
  rw [hd_lt hi] at hk ⊢
  exact h.word _ (List.getElem_mem hi) hk
theorem kind_hd (l : List UInt8) {gs : List GTok} {s : RS} {k : Int} (he : s.e = 0) (hk : k ≠ 0) : kindR gs s k = decide ((hdR l gs s.i).kind = k) := by
  unfold kindR doneR
  rw [he]
  rcases Nat.lt_or_ge s.i gs.length with h | h
  · rw [hd_lt h, List.getElem?_eq_getElem h]
    simp [Nat.not_le.2 h]
    exact Bool.beq_eq_decide_eq _ _
  · rw [hd_ge h, List.getElem?_eq_none h]
    have : ¬ (endTok l).kind = k := fun e => hk e.symm
    simp [h, this]
theorem peek_hd (l : List UInt8) {gs : List GTok} {s : RS} (tx : List UInt8) (he : s.e = 0) : peekR gs s 4 tx = tMark tx (hdR l gs s.i) := by
  unfold peekR doneR tMark
  rw [he]
  rcases Nat.lt_or_ge s.i gs.length with h | h
  · rw [hd_lt h, List.getElem?_eq_getElem h]
    simp [Nat.not_le.2 h]
    rw [Bool.beq_eq_decide_eq, Bool.beq_eq_decide_eq]
  · rw [hd_ge h, List.getElem?_eq_none h]
    have : ¬ (endTok l).kind = 4 := fun e => by cases e
    simp [h, this]
theorem fail_hd (l : List UInt8) (gs : List GTok) (s : RS) (j er : Int) (he : s.e = 0) : failR l gs s j er = ⟨s.i, (hdR l gs j.toNat).line, (hdR l gs j.toNat).col, er⟩ := by
  unfold failR hdR
  rw [if_pos he]
  cases gs[j.toNat]? <;> rfl
theorem anyT_hd (l : List UInt8) {gs : List GTok} {s : RS} {k : Int} (he : s.e = 0) (hk : k ≠ 0) (h : (hdR l gs s.i).kind = k) : anyT gs s k = hdR l gs s.i := by
  unfold anyT
  rw [kind_hd l he hk, decide_eq_true h, if_pos rfl, hd_lt (hd_kind (by rw [h]; exact hk)), List.getElem?_eq_getElem (hd_kind (l := l) (by rw [h]; exact hk))]
  rfl
theorem anyS_hd (l : List UInt8) {gs : List GTok} {s : RS} {k : Int} (he : s.e = 0) (hk : k ≠ 0) (h : (hdR l gs s.i).kind = k) : anyS l gs s k = ⟨s.i + 1, s.x, s.y, 0⟩ := by
  unfold anyS
  rw [kind_hd l he hk, decide_eq_true h, if_pos rfl, ← he]
theorem anyS_no (l : List UInt8) {gs : List GTok} {s : RS} {k : Int} (he : s.e = 0) (hk : k ≠ 0) (h : (hdR l gs s.i).kind ≠ k) : anyS l gs s k = ⟨s.i, (hdR l gs s.i).line, (hdR l gs s.i).col, 50⟩ := by
  unfold anyS
  rw [kind_hd l he hk, decide_eq_false h, if_neg (by simp), fail_hd _ _ _ _ _ he]
  rfl
theorem back_one (i : Nat) : (((i + 1 : Nat) : Int) - 1).toNat = i := by omega
theorem name_hd (l : List UInt8) {gs : List GTok} {s : RS} {k : Int} (he : s.e = 0) (hk : k ≠ 0) (h : (hdR l gs s.i).kind = k) : nameR l gs s k =
    if 24 < (hdR l gs s.i).text.length then ⟨s.i + 1, (hdR l gs s.i).line, (hdR l gs s.i).col, 63⟩ else ⟨s.i + 1, s.x, s.y, 0⟩ := by
  unfold nameR
  rw [anyT_hd l he hk h, anyS_hd l he hk h, fail_hd _ _ _ _ _ rfl]
  simp only [back_one]
theorem name_no (l : List UInt8) {gs : List GTok} {s : RS} {k : Int} (he : s.e = 0) (hk : k ≠ 0) (h : (hdR l gs s.i).kind ≠ k) : nameR l gs s k = ⟨s.i, (hdR l gs s.i).line, (hdR l gs s.i).col, 50⟩ := by
  unfold nameR anyT
  rw [kind_hd l he hk, decide_eq_false h, anyS_no l he hk h]
  simp
/-- A state of the reference's parser, and what the grammar gives: an error with the tokens at which it arose, or the tokens left. -/
def StR (l : List UInt8) (gs : List GTok) (s : RS) (e : Int) (ts : List GTok) : Prop :=
  s.e = e ∧ (e = 0 → s.i ≤ gs.length ∧ ts = atR l gs s.i) ∧ (e ≠ 0 → ∃ t r, ts = t :: r ∧ s.x = t.line ∧ s.y = t.col)
theorem StR.bad {l : List UInt8} {gs : List GTok} {i j : Nat} {e : Int} {r : List GTok} (he : e ≠ 0) : StR l gs ⟨i, (hdR l gs j).line, (hdR l gs j).col, e⟩ e (hdR l gs j :: r) := ⟨rfl, fun h => absurd h he, fun _ => ⟨_, _, rfl, rfl, rfl⟩⟩
theorem StR.good {l : List UInt8} {gs : List GTok} {i : Nat} {x y : Int} (hi : i ≤ gs.length) : StR l gs ⟨i, x, y, 0⟩ 0 (atR l gs i) := ⟨rfl, fun _ => ⟨hi, rfl⟩, fun h => absurd rfl h⟩
theorem errArg_mark {t : GTok} (h : tMark [45] t = true) : errArg t = 0 := by
  unfold tMark at h
  simp at h
  unfold errArg
  rw [if_neg (by omega), if_neg (by omega), if_neg (by simp [h.1, h.2])]
/-- The argument at a minus. -/
theorem arg_minus (l : List UInt8) {gs : List GTok} (hw : GsW gs) (s : RS) (he : s.e = 0) (hm : tMark [45] (hdR l gs s.i) = true) :
    StR l gs (argR l gs s).2 (pNeg (atR l gs (s.i + 1))).1 (pNeg (atR l gs (s.i + 1))).2.2 ∧ ((pNeg (atR l gs (s.i + 1))).1 = 0 → (argR l gs s).1 = (pNeg (atR l gs (s.i + 1))).2.1 ∧ s.i < (argR l gs s).2.i) := by
  have hp : peekR gs s 4 [45] = true := by rw [peek_hd l _ he]; exact hm
  have hk4 : (hdR l gs s.i).kind = 4 := by unfold tMark at hm; simp at hm; exact hm.1
  have hil := hd_kind (l := l) (gs := gs) (i := s.i) (by omega)
  have htk : takeR gs s 4 [45] = ⟨s.i + 1, s.x, s.y, 0⟩ := by unfold takeR; rw [hp, if_pos rfl, ← he]
  have ha : argR l gs s = (⟨1, (intR l gs s).1, []⟩, (intR l gs s).2) := by unfold argR; rw [if_pos (.inr hp)]
  rw [ha]
  obtain ⟨r, hr⟩ := at_cons l gs (s.i + 1)
  by_cases h2 : (hdR l gs (s.i + 1)).kind = 2
  · have hil2 := hd_kind (l := l) (gs := gs) (i := s.i + 1) (by omega)
    have htw := hd_tok (l := l) hw (i := s.i + 1) (by omega)
    have hT : anyT gs ⟨s.i + 1, s.x, s.y, 0⟩ 2 = hdR l gs (s.i + 1) := anyT_hd l rfl (by decide) h2
    have hS : anyS l gs ⟨s.i + 1, s.x, s.y, 0⟩ 2 = ⟨s.i + 1 + 1, s.x, s.y, 0⟩ := anyS_hd l rfl (by decide) h2
    rw [at_lt hil2, pNeg_cons, if_neg (by simp [h2])]
    by_cases hv : (hdR l gs (s.i + 1)).value ≤ 9223372036854775808
    · have hI : intR l gs s = (wrap64 (-(wrap64 (hdR l gs (s.i + 1)).value)), ⟨s.i + 1 + 1, s.x, s.y, 0⟩) := by
        unfold intR
        rw [htk, hT, hS, if_pos ⟨hp, hv⟩]
      rw [hI, if_neg (by omega)]
      refine ⟨StR.good (by omega), fun _ => ⟨?_, by show s.i < s.i + 1 + 1; omega⟩⟩
      have : wrap64 (-(wrap64 (hdR l gs (s.i + 1)).value)) = -(hdR l gs (s.i + 1)).value := by
        have := htw.low
        unfold wrap64; omega
      simp only [this]
    · have hI : intR l gs s = (0, ⟨s.i + 1 + 1, (hdR l gs (s.i + 1)).line, (hdR l gs (s.i + 1)).col, 6⟩) := by
        unfold intR
        rw [htk, hT, hS, if_neg (fun h => hv h.2), if_neg (fun h => by rw [hp] at h; cases h.1), fail_hd _ _ _ _ _ rfl]
        simp only [back_one]
      rw [hI, if_pos (by omega)]
      exact ⟨StR.bad (by decide), fun h => by cases h⟩
  · have hS : anyS l gs ⟨s.i + 1, s.x, s.y, 0⟩ 2 = ⟨s.i + 1, (hdR l gs (s.i + 1)).line, (hdR l gs (s.i + 1)).col, 50⟩ := anyS_no l rfl (by decide) h2
    have hI : (intR l gs s).2 = ⟨s.i + 1, (hdR l gs (s.i + 1)).line, (hdR l gs (s.i + 1)).col, 50⟩ := by
      unfold intR
      rw [htk, hS]
      split
      · rfl
      · split
        · rfl
        · simp only; exact failR_keep _ _ (fun h => by cases h)
    rw [hr, pNeg_cons, if_pos h2, hI]
    exact ⟨StR.bad (by decide), fun h => by cases h⟩
/-- The argument elsewhere. -/
theorem arg_other (l : List UInt8) {gs : List GTok} (hw : GsW gs) (s : RS) (he : s.e = 0) (hm : tMark [45] (hdR l gs s.i) = false) :
    if errArg (hdR l gs s.i) ≠ 0 then ∃ i, (argR l gs s).2 = ⟨i, (hdR l gs s.i).line, (hdR l gs s.i).col, errArg (hdR l gs s.i)⟩
    else (hdR l gs s.i).kind ≠ 4 ∧ (hdR l gs s.i).kind ≠ 0 ∧ argR l gs s = (if (hdR l gs s.i).kind = 2 then ⟨1, (hdR l gs s.i).value, []⟩ else ⟨2, 0, (hdR l gs s.i).text⟩, ⟨s.i + 1, s.x, s.y, 0⟩) := by
  have hp : peekR gs s 4 [45] = false := by rw [peek_hd l _ he]; exact hm
  have htk : takeR gs s 4 [45] = s := by unfold takeR; rw [hp]; rfl
  have hk1 := kind_hd l (gs := gs) (k := 1) he (by decide)
  have hk2 := kind_hd l (gs := gs) (k := 2) he (by decide)
  have hk3 := kind_hd l (gs := gs) (k := 3) he (by decide)
  by_cases h2 : (hdR l gs s.i).kind = 2
  · have htw := hd_tok (l := l) hw (i := s.i) (by omega)
    have hlo := htw.low
    have hT := anyT_hd l (gs := gs) (k := 2) he (by decide) h2
    have hS := anyS_hd l (gs := gs) (k := 2) he (by decide) h2
    have ha : argR l gs s = (⟨1, (intR l gs s).1, []⟩, (intR l gs s).2) := by unfold argR; rw [if_pos (.inl (by rw [hk2]; exact decide_eq_true h2))]
    rw [ha]
    by_cases hv : (hdR l gs s.i).value < 9223372036854775808
    · have hI : intR l gs s = (wrap64 (hdR l gs s.i).value, ⟨s.i + 1, s.x, s.y, 0⟩) := by
        unfold intR
        rw [htk, hT, hS, if_neg (fun h => by rw [hp] at h; cases h.1), if_pos ⟨hp, hv⟩]
      have hE : errArg (hdR l gs s.i) = 0 := by unfold errArg; rw [if_neg (by omega), if_neg (by omega), if_neg (by omega)]
      rw [if_neg (by simp [hE]), hI, if_pos h2, wrap64_in hlo (by omega)]
      exact ⟨by omega, by omega, rfl⟩
    · have hI : intR l gs s = (0, ⟨s.i + 1, (hdR l gs s.i).line, (hdR l gs s.i).col, 6⟩) := by
        unfold intR
        rw [htk, hT, hS, if_neg (fun h => by rw [hp] at h; cases h.1), if_neg (fun h => hv h.2), fail_hd _ _ _ _ _ rfl]
        simp only [back_one]
      have hE : errArg (hdR l gs s.i) = 6 := by unfold errArg; rw [if_pos ⟨h2, by omega⟩]
      rw [if_pos (by rw [hE]; decide), hI, hE]
      exact ⟨_, rfl⟩
  · have hn2 : ¬ (kindR gs s 2 = true ∨ peekR gs s 4 [45] = true) := by rw [hk2, hp]; simp [h2]
    by_cases h13 : (hdR l gs s.i).kind = 1 ∨ (hdR l gs s.i).kind = 3
    · have hil := hd_kind (l := l) (gs := gs) (i := s.i) (by omega)
      have hkd : kd gs s = (hdR l gs s.i).kind := by unfold kd; rw [List.getElem?_eq_getElem hil, hd_lt hil]
      have h0 : (hdR l gs s.i).kind ≠ 0 := by omega
      have hT := anyT_hd l (gs := gs) he h0 rfl
      have hN := name_hd l (gs := gs) he h0 rfl
      have ha : argR l gs s = (⟨2, 0, (hdR l gs s.i).text⟩, if (hdR l gs s.i).text = [] then failR l gs (nameR l gs s (hdR l gs s.i).kind) ((nameR l gs s (hdR l gs s.i).kind).i - 1) 63 else nameR l gs s (hdR l gs s.i).kind) := by
        unfold argR
        rw [if_neg hn2, if_pos (by rw [hk1, hk3]; simpa using h13), hkd, hT]
      rw [ha]
      by_cases hsz : sizedP (hdR l gs s.i).text = true
      · have hE : errArg (hdR l gs s.i) = 0 := by unfold errArg; rw [if_neg (by omega), if_neg (by simp [hsz]), if_neg (by omega)]
        have hs := hsz
        unfold sizedP at hs
        simp at hs
        rw [if_neg (by simp [hE]), if_neg h2, if_neg (by intro h; rw [h] at hs; simp at hs), hN, if_neg (by omega)]
        exact ⟨by omega, h0, rfl⟩
      · have hE : errArg (hdR l gs s.i) = 63 := by unfold errArg; rw [if_neg (by omega), if_pos ⟨h13, by simpa using hsz⟩]
        have hs := hsz
        unfold sizedP at hs
        simp at hs
        rw [if_pos (by rw [hE]; decide), hE]
        refine ⟨s.i + 1, ?_⟩
        simp only
        by_cases h24 : 24 < (hdR l gs s.i).text.length
        · rw [if_neg (by intro h; rw [h] at h24; simp at h24), hN, if_pos h24]
        · have hnil : (hdR l gs s.i).text = [] := by
            by_cases h : (hdR l gs s.i).text = []
            · exact h
            · exact absurd (hs (List.length_pos_iff.2 h)) h24
          rw [if_pos hnil, hN, if_neg h24, fail_hd _ _ _ _ _ rfl]
          simp only [back_one]
    · have hE : errArg (hdR l gs s.i) = 50 := by
        unfold errArg
        rw [if_neg (by omega), if_neg (fun h => h13 h.1), if_pos]
        by_cases h0 : (hdR l gs s.i).kind = 0
        · exact .inr h0
        · have hk := (hd_tok (l := l) hw h0).kind
          have h4 : (hdR l gs s.i).kind = 4 := by omega
          refine .inl ⟨h4, fun h => ?_⟩
          unfold tMark at hm
          simp [h4, h] at hm
      have ha : argR l gs s = (z0V, failR l gs s s.i 50) := by
        unfold argR
        rw [if_neg hn2, if_neg (by rw [hk1, hk3]; simpa using h13)]
      rw [if_pos (by rw [hE]; decide), hE, ha, fail_hd _ _ _ _ _ he]
      exact ⟨_, rfl⟩
end Go.Proofs.YtmodjokoggmnaaaGreatDoor


namespace Go.Proofs.YtmodjokoggmnaaaGreatDoor
open Go.RowKit Go.Shelf

theorem arg_keep {l : List UInt8} {gs : List GTok} {s : RS} (he : s.e ≠ 0) : argR l gs s = (z0V, s) := by
  have hk : ∀ k, kindR gs s k = false := fun k => by unfold kindR; simp [he]
  unfold argR
  rw [if_neg (by rw [hk, peek_no _ _ he]; simp), if_neg (by rw [hk, hk]; simp), failR_keep _ _ he]
theorem arg_room (l : List UInt8) {gs : List GTok} (hw : GsW gs) (s : RS) (n : Nat) (he : s.e = 0) :
    StR l gs (endS l gs s n) (pArg (decide (n < 8)) (atR l gs s.i)).1 (pArg (decide (n < 8)) (atR l gs s.i)).2.2 ∧
    ((pArg (decide (n < 8)) (atR l gs s.i)).1 = 0 → (argR l gs (midS l gs s n)).1 = (pArg (decide (n < 8)) (atR l gs s.i)).2.1 ∧ s.i < (endS l gs s n).i) := by
  obtain ⟨r, hr⟩ := at_cons l gs s.i
  by_cases hn : n < 8
  · have hmid : midS l gs s n = s := by unfold midS; rw [if_neg (by omega)]
    have hend : endS l gs s n = (argR l gs s).2 := by unfold endS; rw [if_neg (by omega), hmid]
    rw [hend, hmid, decide_eq_true hn]
    cases hm : tMark [45] (hdR l gs s.i)
    · have ho := arg_other l hw s he hm
      rw [hr, pArg_cons]
      by_cases hE : errArg (hdR l gs s.i) ≠ 0
      · rw [if_pos hE] at ho ⊢
        obtain ⟨i, hi⟩ := ho
        rw [hi]
        exact ⟨StR.bad hE, fun h => absurd h hE⟩
      · rw [if_neg hE] at ho ⊢
        obtain ⟨h4, h0, ha⟩ := ho
        have hil := hd_kind h0
        rw [at_lt hil] at hr
        injection hr with _ hr
        rw [if_neg (by decide), if_neg h4, ha, ← hr]
        by_cases h2 : (hdR l gs s.i).kind = 2
        · rw [if_pos h2, if_pos h2]
          exact ⟨StR.good (by omega), fun _ => ⟨rfl, by show s.i < s.i + 1; omega⟩⟩
        · rw [if_neg h2, if_neg h2]
          exact ⟨StR.good (by omega), fun _ => ⟨rfl, by show s.i < s.i + 1; omega⟩⟩
    · have h4 := (tMark_iff.1 hm).1
      have hil := hd_kind (l := l) (gs := gs) (i := s.i) (by omega)
      rw [at_lt hil, pArg_cons, if_neg (by simp [errArg_mark hm]), if_neg (by decide), if_pos h4]
      exact arg_minus l hw s he hm
  · rw [decide_eq_false hn]
    cases hm : tMark [45] (hdR l gs s.i)
    · have hp : peekR gs s 4 [45] = false := by rw [peek_hd l _ he]; exact hm
      have hmid : midS l gs s n = s := by unfold midS; rw [if_neg (by simp [hp])]
      have hend : endS l gs s n = failR l gs (argR l gs s).2 s.i 15 := by unfold endS; rw [if_pos (by omega), hmid]
      have ho := arg_other l hw s he hm
      rw [hend, hmid, hr, pArg_cons]
      by_cases hE : errArg (hdR l gs s.i) ≠ 0
      · rw [if_pos hE] at ho ⊢
        obtain ⟨i, hi⟩ := ho
        rw [hi, failR_keep _ _ hE]
        exact ⟨StR.bad hE, fun h => absurd h hE⟩
      · rw [if_neg hE] at ho ⊢
        obtain ⟨h4, h0, ha⟩ := ho
        rw [if_pos rfl, ha, fail_hd _ _ _ _ _ rfl]
        exact ⟨StR.bad (by decide), fun h => by cases h⟩
    · have hp : peekR gs s 4 [45] = true := by rw [peek_hd l _ he]; exact hm
      have hmid : midS l gs s n = ⟨s.i, (hdR l gs s.i).line, (hdR l gs s.i).col, 15⟩ := by unfold midS; rw [if_pos ⟨by omega, hp⟩, fail_hd _ _ _ _ _ he]; rfl
      have hend : endS l gs s n = ⟨s.i, (hdR l gs s.i).line, (hdR l gs s.i).col, 15⟩ := by
        unfold endS
        rw [if_pos (by omega), hmid, arg_keep (fun h => by cases h)]
        exact failR_keep _ _ (fun h => by cases h)
      rw [hend, hr, pArg_cons, if_neg (by simp [errArg_mark hm]), if_pos rfl]
      exact ⟨StR.bad (by decide), fun h => by cases h⟩
theorem need_hd (l : List UInt8) {gs : List GTok} {s : RS} (tx : List UInt8) (he : s.e = 0) : needR l gs s 4 tx = if tMark tx (hdR l gs s.i) then ⟨s.i + 1, s.x, s.y, 0⟩ else ⟨s.i, (hdR l gs s.i).line, (hdR l gs s.i).col, 50⟩ := by
  unfold needR
  rw [peek_hd l tx he, fail_hd _ _ _ _ _ he, ← he]
  rfl
theorem need_keep (l : List UInt8) {gs : List GTok} {s : RS} (tx : List UInt8) (he : s.e ≠ 0) : needR l gs s 4 tx = s := by
  unfold needR
  rw [peek_no _ _ he, failR_keep _ _ he]
  rfl
theorem two0_cons (s s2 : List UInt8) (t : GTok) (ts : List GTok) : two0 s s2 (t :: ts) = if tMark s t = false then ((50 : Int), t :: ts) else match ts with | [] => ((50 : Int), []) | u :: r => if tMark s2 u then ((0 : Int), r) else ((50 : Int), u :: r) := rfl
theorem need2_st (l : List UInt8) {gs : List GTok} (s : RS) (he : s.e = 0) :
    StR l gs (needR l gs (needR l gs s 4 [41]) 4 [46]) (two0 [41] [46] (atR l gs s.i)).1 (two0 [41] [46] (atR l gs s.i)).2 ∧ s.i ≤ (needR l gs (needR l gs s 4 [41]) 4 [46]).i := by
  obtain ⟨r, hr⟩ := at_cons l gs s.i
  rw [need_hd l [41] he, hr, two0_cons]
  cases hm : tMark [41] (hdR l gs s.i)
  · rw [if_neg (by simp), if_pos rfl, need_keep l [46] (fun h => by cases h)]
    exact ⟨StR.bad (by decide), Nat.le_refl _⟩
  · have hil := hd_kind (l := l) (gs := gs) (i := s.i) (by have := (tMark_iff.1 hm).1; omega)
    rw [at_lt hil] at hr
    injection hr with _ hr
    obtain ⟨r2, hr2⟩ := at_cons l gs (s.i + 1)
    rw [if_pos rfl, if_neg (by simp), ← hr, hr2, need_hd l [46] (s := ⟨s.i + 1, s.x, s.y, 0⟩) rfl]
    simp only
    cases hm2 : tMark [46] (hdR l gs (s.i + 1))
    · rw [if_neg (by simp), if_neg (by simp)]
      exact ⟨StR.bad (by decide), by show s.i ≤ s.i + 1; omega⟩
    · have hil2 := hd_kind (l := l) (gs := gs) (i := s.i + 1) (by have := (tMark_iff.1 hm2).1; omega)
      rw [at_lt hil2] at hr2
      injection hr2 with _ hr2
      rw [if_pos rfl, if_pos rfl, ← hr2]
      exact ⟨StR.good (by omega), by show s.i ≤ s.i + 1 + 1; omega⟩
theorem at_len (l : List UInt8) {gs : List GTok} {i : Nat} (hi : i ≤ gs.length) : (atR l gs i).length + i = gs.length + 1 := by unfold atR; simp; omega
theorem at_ends (l : List UInt8) {gs : List GTok} (hw : GsW gs) (i : Nat) : TEnds (atR l gs i) := ends_of _ _ (fun g hg => hw.tok g (List.mem_of_mem_drop hg)) rfl rfl
/-- The arguments and the two marks behind them. -/
theorem args_st (l : List UInt8) {gs : List GTok} (hw : GsW gs) : ∀ (n m : Nat) (s : RS) (a : List GVal), s.e = 0 → s.i ≤ gs.length → (atR l gs s.i).length ≤ n → gs.length + 1 ≤ m + s.i →
    StR l gs (needR l gs (needR l gs (rArgsR l gs m s a).1 4 [41]) 4 [46]) (pArgs n a (atR l gs s.i)).1 (pArgs n a (atR l gs s.i)).2.2 ∧
    ((pArgs n a (atR l gs s.i)).1 = 0 → (rArgsR l gs m s a).2 = (pArgs n a (atR l gs s.i)).2.1 ∧ s.i < (needR l gs (needR l gs (rArgsR l gs m s a).1 4 [41]) 4 [46]).i)
  | 0, m, s, a, he, hi, hn, hm => by have := at_len l hi; omega
  | n + 1, m, s, a, he, hi, hn, hm => by
    obtain ⟨m, rfl⟩ : ∃ k, m = k + 1 := ⟨m - 1, by omega⟩
    obtain ⟨h1, h2⟩ := arg_room l hw s a.length he
    have hst : pArgs (n + 1) a (atR l gs s.i) = if (pArg (decide (a.length < 8)) (atR l gs s.i)).1 ≠ 0 then ((pArg (decide (a.length < 8)) (atR l gs s.i)).1, [], (pArg (decide (a.length < 8)) (atR l gs s.i)).2.2) else
      match (pArg (decide (a.length < 8)) (atR l gs s.i)).2.2 with
      | [] => (50, a ++ [(pArg (decide (a.length < 8)) (atR l gs s.i)).2.1], [])
      | u :: ts2 => if tMark [44] u then pArgs n (a ++ [(pArg (decide (a.length < 8)) (atR l gs s.i)).2.1]) ts2 else ((two0 [41] [46] (u :: ts2)).1, a ++ [(pArg (decide (a.length < 8)) (atR l gs s.i)).2.1], (two0 [41] [46] (u :: ts2)).2) := by
      obtain ⟨r, hr⟩ := at_cons l gs s.i
      have := at_ends l hw s.i
      rw [hr] at this ⊢
      exact pArgs_step n a this
    rw [hst, rArgsR_step l gs m s a he]
    generalize pArg (decide (a.length < 8)) (atR l gs s.i) = q at *
    obtain ⟨qe, qv, qts⟩ := q
    generalize endS l gs s a.length = z at *
    generalize (argR l gs (midS l gs s a.length)).1 = v at *
    simp only at *
    by_cases hq : qe = 0
    · subst hq
      obtain ⟨rfl, hlt⟩ := h2 rfl
      obtain ⟨hze, hz, _⟩ := h1
      obtain ⟨hzi, rfl⟩ := hz rfl
      obtain ⟨r, hr⟩ := at_cons l gs z.i
      rw [if_neg (show ¬ ((0 : Int) ≠ 0) from fun h => h rfl), hr, peek_hd l [44] hze]
      simp only
      cases hk : tMark [44] (hdR l gs z.i)
      · rw [if_neg (by simp), if_neg (by simp), ← hr]
        obtain ⟨h3, h4⟩ := need2_st l z hze
        exact ⟨h3, fun _ => ⟨rfl, by simp only; omega⟩⟩
      · have hil := hd_kind (l := l) (gs := gs) (i := z.i) (by have := (tMark_iff.1 hk).1; omega)
        rw [at_lt hil] at hr
        injection hr with _ hr
        have htk : takeR gs z 4 [44] = ⟨z.i + 1, z.x, z.y, 0⟩ := by unfold takeR; rw [peek_hd l [44] hze, hk, if_pos rfl, ← hze]
        rw [if_pos rfl, if_pos rfl, htk, ← hr]
        have e1 := at_len l hi
        have e2 := at_len l (gs := gs) (i := z.i + 1) (by omega)
        obtain ⟨h3, h4⟩ := args_st l hw n m ⟨z.i + 1, z.x, z.y, 0⟩ (a ++ [v]) rfl (by show z.i + 1 ≤ gs.length; omega) (by show (atR l gs (z.i + 1)).length ≤ n; omega) (by show gs.length + 1 ≤ m + (z.i + 1); omega)
        exact ⟨h3, fun h => ⟨(h4 h).1, by have := (h4 h).2; simp only at this; omega⟩⟩
    · rw [if_pos hq]
      have hze : z.e ≠ 0 := by rw [h1.1]; exact hq
      rw [peek_no _ _ hze, if_neg (by simp)]
      simp only
      rw [need_keep l _ hze, need_keep l _ hze]
      exact ⟨h1, fun h => absurd h hq⟩
end Go.Proofs.YtmodjokoggmnaaaGreatDoor


namespace Go.Proofs.YtmodjokoggmnaaaGreatDoor
open Go.RowKit Go.Shelf

def relS (l : List UInt8) (gs : List GTok) (s : RS) (k : Nat) : RS := if 8192 ≤ k then failR l gs (nameR l gs s 1) ((nameR l gs s 1).i - 1) 15 else nameR l gs s 1
theorem rel_st (l : List UInt8) {gs : List GTok} (hw : GsW gs) (s : RS) (k : Nat) (he : s.e = 0) :
    StR l gs (relS l gs s k) (pRel (decide (k < 8192)) (atR l gs s.i)).1 (pRel (decide (k < 8192)) (atR l gs s.i)).2.2 ∧
    ((pRel (decide (k < 8192)) (atR l gs s.i)).1 = 0 → (anyT gs s 1).text = (pRel (decide (k < 8192)) (atR l gs s.i)).2.1 ∧ s.i < (relS l gs s k).i) := by
  obtain ⟨r, hr⟩ := at_cons l gs s.i
  rw [hr, pRel_cons]
  by_cases h1 : (hdR l gs s.i).kind = 1
  · have hil := hd_kind (l := l) (gs := gs) (i := s.i) (by omega)
    rw [at_lt hil] at hr
    injection hr with _ hr
    have hN := name_hd l (gs := gs) he (by decide : (1 : Int) ≠ 0) h1
    have hne := hd_word hw h1
    have hT := anyT_hd l (gs := gs) he (by decide : (1 : Int) ≠ 0) h1
    rw [if_neg (by simp [h1]), hT, ← hr]
    cases hsz : sizedP (hdR l gs s.i).text
    · have h24 : 24 < (hdR l gs s.i).text.length := by
        have := List.length_pos_iff.2 hne
        unfold sizedP at hsz
        simp at hsz
        omega
      rw [if_pos h24] at hN
      have hS : relS l gs s k = ⟨s.i + 1, (hdR l gs s.i).line, (hdR l gs s.i).col, 63⟩ := by
        unfold relS
        rw [hN]
        split
        · exact failR_keep _ _ (fun h => by cases h)
        · rfl
      rw [if_pos rfl, hS]
      exact ⟨StR.bad (by decide), fun h => by cases h⟩
    · have h24 : ¬ 24 < (hdR l gs s.i).text.length := by
        unfold sizedP at hsz
        simp at hsz
        omega
      rw [if_neg h24] at hN
      rw [if_neg (by simp)]
      by_cases hk : k < 8192
      · have hS : relS l gs s k = ⟨s.i + 1, s.x, s.y, 0⟩ := by unfold relS; rw [if_neg (by omega), hN]
        rw [decide_eq_true hk, if_neg (by decide), hS]
        exact ⟨StR.good (by omega), fun _ => ⟨rfl, by show s.i < s.i + 1; omega⟩⟩
      · have hS : relS l gs s k = ⟨s.i + 1, (hdR l gs s.i).line, (hdR l gs s.i).col, 15⟩ := by
          unfold relS
          rw [if_pos (by omega), hN, fail_hd _ _ _ _ _ rfl]
          simp only [back_one]
        rw [decide_eq_false hk, if_pos rfl, hS]
        exact ⟨StR.bad (by decide), fun h => by cases h⟩
  · have hS : relS l gs s k = ⟨s.i, (hdR l gs s.i).line, (hdR l gs s.i).col, 50⟩ := by
      unfold relS
      rw [name_no l he (by decide) h1]
      split
      · exact failR_keep _ _ (fun h => by cases h)
      · rfl
    rw [if_pos h1, hS]
    exact ⟨StR.bad (by decide), fun h => by cases h⟩
theorem rFactsR_step (l : List UInt8) (gs : List GTok) (n : Nat) (s : RS) (o : List GFact) (he : s.e = 0) (hd : doneR gs s = false) : rFactsR l gs (n + 1) s o =
    rFactsR l gs n (needR l gs (needR l gs (rArgsR l gs (gs.length + 1) (needR l gs (relS l gs s o.length) 4 [40]) []).1 4 [41]) 4 [46]) (o ++ [⟨(anyT gs s 1).text, (rArgsR l gs (gs.length + 1) (needR l gs (relS l gs s o.length) 4 [40]) []).2⟩]) := by
  rw [rFactsR, if_pos ⟨he, hd⟩]
  rfl
theorem pArguments_cons (n : Nat) (t : GTok) (ts : List GTok) : pArguments n (t :: ts) = if tMark [40] t then pArgs n [] ts else ((50 : Int), [], t :: ts) := rfl
theorem StR.fails {l : List UInt8} {gs : List GTok} {s : RS} {e : Int} {ts : List GTok} (h : StR l gs s e ts) (he : e ≠ 0) (m : Nat) (o o2 : List GFact) :
    (rFactsR l gs m s o).1.e = e ∧ (e = 0 → (rFactsR l gs m s o).2 = o2) ∧ (e ≠ 0 → ∃ t r, ts = t :: r ∧ (rFactsR l gs m s o).1.x = t.line ∧ (rFactsR l gs m s o).1.y = t.col) := by
  have hne : s.e ≠ 0 := by rw [h.1]; exact he
  rw [rFactsR_stop l gs m s o (fun g => hne g.1)]
  exact ⟨h.1, fun g => absurd g he, h.2.2⟩
/-- The facts of a text. -/
theorem facts_st (l : List UInt8) {gs : List GTok} (hw : GsW gs) : ∀ (n m : Nat) (s : RS) (o : List GFact), s.e = 0 → s.i ≤ gs.length → (atR l gs s.i).length ≤ n → gs.length + 1 ≤ m + s.i →
    (rFactsR l gs m s o).1.e = (pFacts n o (atR l gs s.i)).1 ∧ ((pFacts n o (atR l gs s.i)).1 = 0 → (rFactsR l gs m s o).2 = (pFacts n o (atR l gs s.i)).2.1) ∧
    ((pFacts n o (atR l gs s.i)).1 ≠ 0 → ∃ t r, (pFacts n o (atR l gs s.i)).2.2 = t :: r ∧ (rFactsR l gs m s o).1.x = t.line ∧ (rFactsR l gs m s o).1.y = t.col)
  | 0, m, s, o, he, hi, hn, hm => by have := at_len l hi; omega
  | n + 1, m, s, o, he, hi, hn, hm => by
    obtain ⟨m, rfl⟩ : ∃ k, m = k + 1 := ⟨m - 1, by omega⟩
    obtain ⟨r, hr⟩ := at_cons l gs s.i
    by_cases hk : (hdR l gs s.i).kind = 0
    · have hge : gs.length ≤ s.i := by
        rcases Nat.lt_or_ge s.i gs.length with h | h
        · rw [hd_lt h] at hk
          rcases (hw.tok _ (List.getElem_mem h)).kind with e | e | e | e <;> omega
        · exact h
      have hd : doneR gs s = true := by unfold doneR; exact decide_eq_true hge
      rw [rFactsR_stop l gs (m + 1) s o (fun g => by rw [hd] at g; cases g.2), hr, pFacts_step, if_pos hk]
      exact ⟨he, fun _ => rfl, fun h => absurd rfl h⟩
    · have hil := hd_kind hk
      have hd : doneR gs s = false := by unfold doneR; exact decide_eq_false (by omega)
      obtain ⟨h1, h2⟩ := rel_st l hw s o.length he
      rw [rFactsR_step l gs m s o he hd, hr, pFacts_step, if_neg hk]
      rw [hr] at h1 h2
      generalize pRel (decide (o.length < 8192)) (hdR l gs s.i :: r) = q at *
      obtain ⟨qe, qr, qts⟩ := q
      generalize relS l gs s o.length = z at *
      generalize (anyT gs s 1).text = nm at *
      simp only at *
      by_cases hq : qe = 0
      · subst hq
        obtain ⟨rfl, hlt⟩ := h2 rfl
        obtain ⟨hze, hz, _⟩ := h1
        obtain ⟨hzi, rfl⟩ := hz rfl
        obtain ⟨r2, hr2⟩ := at_cons l gs z.i
        have hzl := at_len l hzi
        rw [if_neg (show ¬ ((0 : Int) ≠ 0) from fun h => h rfl), need_hd l [40] hze, hr2, pArguments_cons, ← hr2]
        cases hm4 : tMark [40] (hdR l gs z.i)
        · rw [if_neg (show ¬ (false = true) from Bool.false_ne_true), if_neg (show ¬ (false = true) from Bool.false_ne_true), rArgsR_stop _ _ _ _ _ (fun h => by cases h)]
          simp only
          rw [need_keep l [41] (fun h => by cases h), need_keep l [46] (fun h => by cases h), if_pos (by decide), hr2]
          have h50 : StR l gs ⟨z.i, (hdR l gs z.i).line, (hdR l gs z.i).col, 50⟩ 50 (hdR l gs z.i :: r2) := StR.bad (by decide)
          exact h50.fails (by decide) _ _ _
        · have hil2 := hd_kind (l := l) (gs := gs) (i := z.i) (by have := (tMark_iff.1 hm4).1; omega)
          rw [at_lt hil2] at hr2
          injection hr2 with _ hr2
          rw [if_pos (show true = true from rfl), if_pos (show true = true from rfl), ← hr2]
          have e2 := at_len l (gs := gs) (i := z.i + 1) (by omega)
          obtain ⟨h3, h4⟩ := args_st l hw (atR l gs z.i).length (gs.length + 1) ⟨z.i + 1, z.x, z.y, 0⟩ [] rfl (by show z.i + 1 ≤ gs.length; omega) (by show (atR l gs (z.i + 1)).length ≤ _; omega) (by omega)
          simp only at h3 h4
          generalize pArgs (atR l gs z.i).length [] (atR l gs (z.i + 1)) = q2 at *
          obtain ⟨qe2, qv, qts2⟩ := q2
          generalize rArgsR l gs (gs.length + 1) ⟨z.i + 1, z.x, z.y, 0⟩ [] = ra at *
          generalize needR l gs (needR l gs ra.1 4 [41]) 4 [46] = y at *
          simp only at *
          by_cases hq2 : qe2 = 0
          · subst hq2
            obtain ⟨hv, hlt2⟩ := h4 rfl
            obtain ⟨hye, hy, _⟩ := h3
            obtain ⟨hyi, rfl⟩ := hy rfl
            rw [if_neg (show ¬ ((0 : Int) ≠ 0) from fun h => h rfl), hv]
            have e3 := at_len l hyi
            have e1 := at_len l hi
            exact facts_st l hw n m y _ hye hyi (by omega) (by omega)
          · rw [if_pos hq2]
            exact h3.fails hq2 _ _ _
      · have hze : z.e ≠ 0 := by rw [h1.1]; exact hq
        rw [need_keep l _ hze, rArgsR_stop _ _ _ _ _ hze, if_pos hq]
        simp only
        rw [need_keep l _ hze, need_keep l _ hze]
        exact h1.fails hq _ _ _
end Go.Proofs.YtmodjokoggmnaaaGreatDoor
