/-
  The reference's parser of facts gives what the grammar gives: the facts, the whole text.
  The two parsers of facts agree: rFactsR over the text's tokens is pAll. A word of a scan is not empty.
  A slice of facts that comes in as an argument, as the library opens it, reads as plain data.
  Conditions: none beyond the frame's.
-/
import Derived.Test.YtmodjokoggmnaaaGreatDoorMa40
import Derived.Test.YtmodjokoggmnaaaGreatDoorMa35
namespace Go.Proofs.YtmodjokoggmnaaaGreatDoor
open Go.RowKit Go.Shelf

def relS (l : List UInt8) (gs : List GTok) (s : RS) (k : Nat) : RS := if 8192 ≤ k then failR l gs (nameR l gs s 1) ((nameR l gs s 1).i - 1) 15 else nameR l gs s 1
theorem rel_st (l : List UInt8) {gs : List GTok} (hw : GsW gs) (s : RS) (k : Nat) (he : s.e = 0) :
    StR l gs (relS l gs s k) (pRel (decide (k < 8192)) (atR l gs s.i)).1 (pRel (decide (k < 8192)) (atR l gs s.i)).2.2 ∧
    ((pRel (decide (k < 8192)) (atR l gs s.i)).1 = 0 → (anyT gs s 1).text = (pRel (decide (k < 8192)) (atR l gs s.i)).2.1 ∧ s.i < (relS l gs s k).i) := by
  obtain ⟨r, hr⟩ := at_cons l gs s.i
  rw [hr, pRel_cons]
  by_cases h1 : (hdR l gs s.i).kind = 1
  · have hil := hd_kind (l := l) (gs := gs) (i := s.i) (by omega)
    rw [at_lt hil] at hr
    injection hr with _ hr
    have hN := name_hd l (gs := gs) he (by decide : (1 : Int) ≠ 0) h1
    have hne := hd_word hw h1
    have hT := anyT_hd l (gs := gs) he (by decide : (1 : Int) ≠ 0) h1
    rw [if_neg (by simp [h1]), hT, ← hr]
    cases hsz : sizedP (hdR l gs s.i).text
    · have h24 : 24 < (hdR l gs s.i).text.length := by
        have := List.length_pos_iff.2 hne
        unfold sizedP at hsz
        simp at hsz
        omega
      rw [if_pos h24] at hN
      have hS : relS l gs s k = ⟨s.i + 1, (hdR l gs s.i).line, (hdR l gs s.i).col, 63⟩ := by
        unfold relS
        rw [hN]
        split
        · exact failR_keep _ _ (fun h => by cases h)
        · rfl
      rw [if_pos rfl, hS]
      exact ⟨StR.bad (by decide), fun h => by cases h⟩
    · have h24 : ¬ 24 < (hdR l gs s.i).text.length := by
        unfold sizedP at hsz
        simp at hsz
        omega
      rw [if_neg h24] at hN
      rw [if_neg (by simp)]
      by_cases hk : k < 8192
      · have hS : relS l gs s k = ⟨s.i + 1, s.x, s.y, 0⟩ := by unfold relS; rw [if_neg (by omega), hN]
        rw [decide_eq_true hk, if_neg (by decide), hS]
        exact ⟨StR.good (by omega), fun _ => ⟨rfl, by show s.i < s.i + 1; omega⟩⟩
      · have hS : relS l gs s k = ⟨s.i + 1, (hdR l gs s.i).line, (hdR l gs s.i).col, 15⟩ := by
          unfold relS
          rw [if_pos (by omega), hN, fail_hd _ _ _ _ _ rfl]
          simp only [back_one]
        rw [decide_eq_false hk, if_pos rfl, hS]
        exact ⟨StR.bad (by decide), fun h => by cases h⟩
  · have hS : relS l gs s k = ⟨s.i, (hdR l gs s.i).line, (hdR l gs s.i).col, 50⟩ := by
      unfold relS
      rw [name_no l he (by decide) h1]
      split
      · exact failR_keep _ _ (fun h => by cases h)
      · rfl
    rw [if_pos h1, hS]
    exact ⟨StR.bad (by decide), fun h => by cases h⟩
theorem rFactsR_step (l : List UInt8) (gs : List GTok) (n : Nat) (s : RS) (o : List GFact) (he : s.e = 0) (hd : doneR gs s = false) : rFactsR l gs (n + 1) s o =
    rFactsR l gs n (needR l gs (needR l gs (rArgsR l gs (gs.length + 1) (needR l gs (relS l gs s o.length) 4 [40]) []).1 4 [41]) 4 [46]) (o ++ [⟨(anyT gs s 1).text, (rArgsR l gs (gs.length + 1) (needR l gs (relS l gs s o.length) 4 [40]) []).2⟩]) := by
  rw [rFactsR, if_pos ⟨he, hd⟩]
  rfl
theorem pArguments_cons (n : Nat) (t : GTok) (ts : List GTok) : pArguments n (t :: ts) = if tMark [40] t then pArgs n [] ts else ((50 : Int), [], t :: ts) := rfl
theorem StR.fails {l : List UInt8} {gs : List GTok} {s : RS} {e : Int} {ts : List GTok} (h : StR l gs s e ts) (he : e ≠ 0) (m : Nat) (o o2 : List GFact) :
    (rFactsR l gs m s o).1.e = e ∧ (e = 0 → (rFactsR l gs m s o).2 = o2) ∧ (e ≠ 0 → ∃ t r, ts = t :: r ∧ (rFactsR l gs m s o).1.x = t.line ∧ (rFactsR l gs m s o).1.y = t.col) := by
  have hne : s.e ≠ 0 := by rw [h.1]; exact he
  rw [rFactsR_stop l gs m s o (fun g => hne g.1)]
  exact ⟨h.1, fun g => absurd g he, h.2.2⟩
/-- The facts of a text. -/
theorem facts_st (l : List UInt8) {gs : List GTok} (hw : GsW gs) : ∀ (n m : Nat) (s : RS) (o : List GFact), s.e = 0 → s.i ≤ gs.length → (atR l gs s.i).length ≤ n → gs.length + 1 ≤ m + s.i →
    (rFactsR l gs m s o).1.e = (pFacts n o (atR l gs s.i)).1 ∧ ((pFacts n o (atR l gs s.i)).1 = 0 → (rFactsR l gs m s o).2 = (pFacts n o (atR l gs s.i)).2.1) ∧
    ((pFacts n o (atR l gs s.i)).1 ≠ 0 → ∃ t r, (pFacts n o (atR l gs s.i)).2.2 = t :: r ∧ (rFactsR l gs m s o).1.x = t.line ∧ (rFactsR l gs m s o).1.y = t.col)
  | 0, m, s, o, he, hi, hn, hm => by have := at_len l hi; omega
  | n + 1, m, s, o, he, hi, hn, hm => by
    obtain ⟨m, rfl⟩ : ∃ k, m = k + 1 := ⟨m - 1, by omega⟩
    obtain ⟨r, hr⟩ := at_cons l gs s.i
    by_cases hk : (hdR l gs s.i).kind = 0
    · have hge : gs.length ≤ s.i := by
        rcases Nat.lt_or_ge s.i gs.length with h | h
        · rw [hd_lt h] at hk
          rcases (hw.tok _ (List.getElem_mem h)).kind with e | e | e | e <;> omega
        · exact h
      have hd : doneR gs s = true := by unfold doneR; exact decide_eq_true hge
      rw [rFactsR_stop l gs (m + 1) s o (fun g => by rw [hd] at g; cases g.2), hr, pFacts_step, if_pos hk]
      exact ⟨he, fun _ => rfl, fun h => absurd rfl h⟩
    · have hil := hd_kind hk
      have hd : doneR gs s = false := by unfold doneR; exact decide_eq_false (by omega)
      obtain ⟨h1, h2⟩ := rel_st l hw s o.length he
      rw [rFactsR_step l gs m s o he hd, hr, pFacts_step, if_neg hk]
      rw [hr] at h1 h2
      generalize pRel (decide (o.length < 8192)) (hdR l gs s.i :: r) = q at *
      obtain ⟨qe, qr, qts⟩ := q
      generalize relS l gs s o.length = z at *
      generalize (anyT gs s 1).text = nm at *
      simp only at *
      by_cases hq : qe = 0
      · subst hq
        obtain ⟨rfl, hlt⟩ := h2 rfl
        obtain ⟨hze, hz, _⟩ := h1
        obtain ⟨hzi, rfl⟩ := hz rfl
        obtain ⟨r2, hr2⟩ := at_cons l gs z.i
        have hzl := at_len l hzi
        rw [if_neg (show ¬ ((0 : Int) ≠ 0) from fun h => h rfl), need_hd l [40] hze, hr2, pArguments_cons, ← hr2]
        cases hm4 : tMark [40] (hdR l gs z.i)
        · rw [if_neg (show ¬ (false = true) from Bool.false_ne_true), if_neg (show ¬ (false = true) from Bool.false_ne_true), rArgsR_stop _ _ _ _ _ (fun h => by cases h)]
          simp only
          rw [need_keep l [41] (fun h => by cases h), need_keep l [46] (fun h => by cases h), if_pos (by decide), hr2]
          have h50 : StR l gs ⟨z.i, (hdR l gs z.i).line, (hdR l gs z.i).col, 50⟩ 50 (hdR l gs z.i :: r2) := StR.bad (by decide)
          exact h50.fails (by decide) _ _ _
        · have hil2 := hd_kind (l := l) (gs := gs) (i := z.i) (by have := (tMark_iff.1 hm4).1; omega)
          rw [at_lt hil2] at hr2
          injection hr2 with _ hr2
          rw [if_pos (show true = true from rfl), if_pos (show true = true from rfl), ← hr2]
          have e2 := at_len l (gs := gs) (i := z.i + 1) (by omega)
          obtain ⟨h3, h4⟩ := args_st l hw (atR l gs z.i).length (gs.length + 1) ⟨z.i + 1, z.x, z.y, 0⟩ [] rfl (by show z.i + 1 ≤ gs.length; omega) (by show (atR l gs (z.i + 1)).length ≤ _; omega) (by omega)
          simp only at h3 h4
          generalize pArgs (atR l gs z.i).length [] (atR l gs (z.i + 1)) = q2 at *
          obtain ⟨qe2, qv, qts2⟩ := q2
          generalize rArgsR l gs (gs.length + 1) ⟨z.i + 1, z.x, z.y, 0⟩ [] = ra at *
          generalize needR l gs (needR l gs ra.1 4 [41]) 4 [46] = y at *
          simp only at *
          by_cases hq2 : qe2 = 0
          · subst hq2
            obtain ⟨hv, hlt2⟩ := h4 rfl
            obtain ⟨hye, hy, _⟩ := h3
            obtain ⟨hyi, rfl⟩ := hy rfl
            rw [if_neg (show ¬ ((0 : Int) ≠ 0) from fun h => h rfl), hv]
            have e3 := at_len l hyi
            have e1 := at_len l hi
            exact facts_st l hw n m y _ hye hyi (by omega) (by omega)
          · rw [if_pos hq2]
            exact h3.fails hq2 _ _ _
      · have hze : z.e ≠ 0 := by rw [h1.1]; exact hq
        rw [need_keep l _ hze, rArgsR_stop _ _ _ _ _ hze, if_pos hq]
        simp only
        rw [need_keep l _ hze, need_keep l _ hze]
        exact h1.fails hq _ _ _
end Go.Proofs.YtmodjokoggmnaaaGreatDoor


namespace Go.Proofs.YtmodjokoggmnaaaGreatDoor
open Go.RowKit Go.Shelf

theorem first_word {l : List UInt8} {kd v n : Nat} {tx : List UInt8} (h : first l = .tok kd tx v n) (hk : kd = 1) : tx ≠ [] := by
  cases l with
  | nil => cases h
  | cons c r =>
    unfold first at h
    simp only at h
    split at h
    · split at h
      · cases h
      · cases h
      · injection h with h1 h2 h3 h4
        omega
    · split at h
      · rename_i hw
        injection h with h1 h2 h3 h4
        subst h2
        simp [run, hw]
      · split at h
        · unfold quoted at h
          split at h
          · injection h with h1 h2 h3 h4
            omega
          · cases h
        · unfold marked at h
          split at h
          · injection h with h1 h2 h3 h4
            omega
          · split at h
            · injection h with h1 h2 h3 h4
              omega
            · cases h
theorem step_word {l : List UInt8} {kd v n : Nat} {tx : List UInt8} (h : step l = .tok kd tx v n) (hk : kd = 1) : tx ≠ [] := by
  cases l with
  | nil => cases h
  | cons c r =>
    unfold step at h
    simp only at h
    split at h
    · cases h
    · split at h
      · cases h
      · exact first_word h hk
theorem lex_word : ∀ (l : List UInt8) (k : Nat) (p : Nat × Nat) (ts : List Tok), lex k p l = .ok ts → ∀ t ∈ ts, t.kind = 1 → t.text ≠ []
  | [], k, p, ts, h => by
    rw [lex_nil] at h
    injection h with h
    subst h
    intro t ht
    cases ht
  | c :: r, k + 1, p, ts, h => by
    rw [lex] at h
    exact lex_word r k _ ts h
  | c :: r, 0, p, ts, h => by
    rw [lex] at h
    cases hs : step (c :: r) with
    | skip n =>
      rw [hs] at h
      exact lex_word r _ _ ts h
    | tok kd tx v n =>
      rw [hs] at h
      simp only at h
      cases hl : lex (n - 1) (adv1 p c) r with
      | ok us =>
        rw [hl] at h
        injection h with h
        subst h
        intro t ht
        rcases List.mem_cons.1 ht with rfl | ht
        · exact step_word hs
        · exact lex_word r _ _ us hl t ht
      | no x y e => rw [hl] at h; cases h
    | err e => rw [hs] at h; cases h
theorem scan_gsW {l : List UInt8} {ts : List Tok} (h : scan l = .ok ts) : GsW (ts.map Tok.g) := by
  refine ⟨fun g hg => ?_, fun g hg hk => ?_⟩
  · obtain ⟨t, ht, rfl⟩ := List.mem_map.1 hg
    exact (scan_tokB h).2 t ht
  · obtain ⟨t, ht, rfl⟩ := List.mem_map.1 hg
    have hl : lex 0 (1, 1) l = .ok ts := by
      unfold scan at h
      split at h
      · cases h
      · exact h
    refine lex_word l 0 _ ts hl t ht ?_
    have : (t.kind : Int) = 1 := hk
    omega
/-- What the reference's Parse of facts reads. -/
def rAll (l : List UInt8) : RS × List GFact := rFactsR l (openG l) ((openG l).length + 1) (openS l) []
theorem rAll_eq (l : List UInt8) : match pAll l with
    | .no x y e => (rAll l).1.e = e ∧ (e ≠ 0 → (rAll l).1.x = x ∧ (rAll l).1.y = y)
    | .ok fs => (rAll l).1.e = 0 ∧ (rAll l).2 = fs := by
  unfold pAll rAll openG openS
  cases hs : scan l with
  | no x y e =>
    simp only
    by_cases he : e = 0
    · subst he
      rw [rFactsR_stop _ _ _ _ _ (fun h => by have := h.2; unfold doneR at this; simp at this)]
      exact ⟨rfl, fun h => absurd rfl h⟩
    · rw [rFactsR_stop _ _ _ _ _ (fun h => by have : (e : Int) = 0 := h.1; omega)]
      exact ⟨rfl, fun _ => ⟨rfl, rfl⟩⟩
  | ok toks =>
    simp only
    have hf := facts_st l (scan_gsW hs) (toks.map Tok.g ++ [endTok l]).length ((toks.map Tok.g).length + 1) ⟨0, 0, 0, 0⟩ [] rfl (Nat.zero_le _) (Nat.le_refl _) (Nat.le_refl _)
    have e0 : atR l (toks.map Tok.g) 0 = toks.map Tok.g ++ [endTok l] := rfl
    simp only [e0] at hf
    generalize rFactsR l (toks.map Tok.g) ((toks.map Tok.g).length + 1) ⟨0, 0, 0, 0⟩ [] = R at *
    generalize pFacts (toks.map Tok.g ++ [endTok l]).length [] (toks.map Tok.g ++ [endTok l]) = q at *
    obtain ⟨qe, qf, qts⟩ := q
    simp only at *
    obtain ⟨h1, h2, h3⟩ := hf
    by_cases he : qe = 0
    · rw [if_pos he]
      exact ⟨h1.trans he, h2 he⟩
    · rw [if_neg he]
      obtain ⟨t, r, rfl, hx, hy⟩ := h3 he
      exact ⟨h1, fun _ => ⟨hx, hy⟩⟩
end Go.Proofs.YtmodjokoggmnaaaGreatDoor


namespace Go.Proofs.YtmodjokoggmnaaaGreatDoor

open Go.ChangeShapes Go.WideShapes Go.RowKit

instance : Inhabited (SFact × GFact) := ⟨(⟨[], none, 0, 0⟩, ⟨[], []⟩)⟩
section

variable {H : Type} {enc : TypeId × Value → H} {W : World} {base : Nat} {spare : Nat → Bool} {held : Bool}

set_option maxRecDepth 50000 in
theorem IsFacts_open {a : Option Addr} {len cap : Nat} {d : DataW H} {p : List MemPlace} (h : DataW.Trod enc Tryz.prog W base spare held 22 (.slice a len cap) d p) (hwt : ∀ n ∈ d.weights Tryz.prog 22, n ≤ reachBytes) : ∃ ss fs, IsFacts W a len cap ss fs ∧ (a = none → cap = 0) := by
  obtain ⟨fuel, hf⟩ := h
  rcases Go.Deep.open_slice Tryz.underlying22 hf with ⟨hcs, _⟩ | ⟨x, l, c, m, n, D, Pl, hcs, _, hl, hm, hmm, hxd, hx⟩
  · simp [Value.cells] at hcs
    obtain ⟨rfl, rfl, rfl⟩ := hcs
    exact ⟨[], [], ⟨rfl, Nat.le_refl _, Nat.zero_le _, ⟨GRow.nil, rfl, fun i h1 => by simp at h1⟩, fun i h1 => by simp at h1⟩, fun _ => rfl⟩
  · simp [Value.cells] at hcs
    obtain ⟨rfl, rfl, rfl⟩ := hcs
    have c0 : Tryz.prog.cellsOf 37 = 2 := by kernel_rfl
    rw [c0] at hx
    have hlm : len ≤ m := by rw [hmm]; split <;> omega
    have each : ∀ i, i < len → ∃ t : SFact × GFact, IsFact W t.1 t.2 ∧ ∀ j, j < 2 → W.cell? ((x.add (i * 2)).add j) = t.1.cells[j]? := fun i hi => by
      obtain ⟨cs', hc, ht⟩ := hx i (by omega)
      have hd : d = .slice ((List.range len).map D) ((List.range (m - len)).map fun j => D (len + j)) := congrArg Prod.fst hxd
      obtain ⟨s, f, rfl, hw⟩ := fact_open ht (fun k hk => hwt k (by
        rw [hd]
        simp only [DataW.weights, Tryz.underlying22, List.mem_cons, List.mem_append]
        exact .inr (.inl (weights_mem_all (List.mem_map.2 ⟨i, List.mem_range.2 hi, rfl⟩) hk))))
      obtain ⟨_, _, hat⟩ := World.cells?_some hc
      exact ⟨(s, f), hw, fun j hj => hat j hj⟩
    obtain ⟨g, hgx⟩ := Go.Deep.choose_lt each
    refine ⟨(List.range len).map fun i => (g i).1, (List.range len).map fun i => (g i).2, ⟨by simp, hl, hm, ⟨fun h0 => ?_, by simp, fun i h1 _ => ?_⟩, fun i h1 _ => ?_⟩, fun e => by cases e⟩
    · simp at h0
      obtain ⟨b, off, spot⟩ := x
      have hc0 := (hgx 0 h0).2 0 (by omega)
      have hspot : spot = none := by simpa [Addr.add] using World.cell?_spot (hc0.trans rfl)
      subst hspot
      have hlt := World.block_lt_of_cell? W _ (hc0.trans rfl)
      refine ⟨b, off, rfl, by simpa [Addr.add] using hlt, fun i hi j u hu => ?_⟩
      simp at hi
      have hj : j < 2 := by
        rcases Nat.lt_or_ge j 2 with h1 | h1
        · exact h1
        · rw [List.getElem?_eq_none (by simp [SFact.cells]; omega)] at hu; cases hu
      have e : ((⟨b, off, none⟩ : Addr).add (i * 2)).add j = ⟨b, off + (i * 2 + j), none⟩ := by rw [Go.WideShapes.add_plain, Go.WideShapes.add_plain, Nat.add_assoc]
      have := (hgx i hi).2 j hj
      rw [e] at this
      simp at hu
      rw [this, hu]
    · have hi : i < len := by simpa using h1
      have := (hgx i hi).1.hold
      simpa using this
    · have hi : i < len := by simpa using h1
      have := (hgx i hi).1
      simpa using this
end

end Go.Proofs.YtmodjokoggmnaaaGreatDoor
