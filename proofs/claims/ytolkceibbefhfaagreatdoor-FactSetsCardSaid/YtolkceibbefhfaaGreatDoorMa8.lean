/-
  Scan's contract in the two forms that its callers take, and the contract of the law's sanity check: it returns true.
  Conditions: the variable strconv.ErrRange lies as the program's start lays it.
  Plain facts on scanning a part of a text, a text and a further one behind a newline, and on positions.
  Conditions: none.
-/
import Derived.Test.YtolkceibbefhfaaGreatDoorMa7
import Derived.Test.YtolkceibbefhfaaGreatDoorMa6
namespace Go.Proofs.YtolkceibbefhfaaGreatDoor

open Go.RowKit Go.Shelf

theorem scan_ok (l : List UInt8) (ts : List Tok) (h : scan l = .ok ts) (w : World) (hG : Glob w) (hl : l.length ≤ maxLen) :
    Calls Tryz.prog 45 #[.string ⟨l.toArray⟩] w fun e w' => ∃ A cap, e = .returned (.tuple #[.slice A ts.length cap, .agg #[.int .i64 0, .int .i64 0], .int .i64 0]) ∧ ts.length ≤ cap ∧ TRow w' w'.heap.size A (ts.map Tok.g) ∧ Below w.heap.size w w' :=
  (scan_any l w hG hl).mono fun e w' hh => by
    rw [h] at hh
    obtain ⟨v, he, hown, hb⟩ := hh
    obtain ⟨A, cap, hv, hc, hr⟩ := hown.row
    rw [List.length_map] at hv hc
    exact ⟨A, cap, by rw [he, hv], hc, hr, hb⟩
theorem scan_no (l : List UInt8) (line col er : Nat) (h : scan l = .no line col er) (w : World) (hG : Glob w) (hl : l.length ≤ maxLen) :
    Calls Tryz.prog 45 #[.string ⟨l.toArray⟩] w fun e w' => e = .returned (.tuple #[.slice none 0 0, .agg #[.int .i64 line, .int .i64 col], .int .i64 er]) ∧ Below w.heap.size w w' :=
  (scan_any l w hG hl).mono fun e w' hh => by rw [h] at hh; exact hh

def awk1 : List Tok := [⟨1, [99, 111, 114, 101], 0, 1, 1⟩, ⟨2, [], 16384, 1, 6⟩, ⟨4, [59], 0, 1, 11⟩]
theorem awk1_eq : scan [99, 111, 114, 101, 32, 48, 120, 49, 48, 75, 59] = .ok awk1 := by decide +kernel
theorem awk2_eq : scan [49, 50, 97] = .no 1 1 50 := by decide +kernel

end Go.Proofs.YtolkceibbefhfaaGreatDoor


namespace Go.Proofs.YtolkceibbefhfaaGreatDoor

section

variable {p : UInt8 → Bool}

theorem run_take_min (l : List UInt8) : ∀ m, run p (l.take m) = min m (run p l) := by
  induction l with
  | nil => intro m; simp [run]
  | cons c r ih =>
    intro m
    cases m with
    | zero => simp [run]
    | succ m =>
      rw [List.take_succ_cons]
      cases hc : p c with
      | true => rw [run_cons_pos hc, run_cons_pos hc, ih]; omega
      | false => rw [run_cons_neg hc, run_cons_neg hc]; simp
theorem run_app (l m : List UInt8) (g : UInt8) (h : p g = false) : run p (l ++ g :: m) = run p l := by
  induction l with
  | nil => rw [List.nil_append, run_cons_neg h]; rfl
  | cons c r ih =>
    rw [List.cons_append]
    cases hc : p c with
    | true => rw [run_cons_pos hc, run_cons_pos hc, ih]
    | false => rw [run_cons_neg hc, run_cons_neg hc]
end

/-- How many bytes a step takes. -/
def Act1.n : Act1 → Nat
  | .skip n => n
  | .tok _ _ _ n => n
  | .err _ => 0
theorem quoted_take (r : List UInt8) (m : Nat) (h : run isStr r + 2 ≤ m + 1) (hq : ∃ s, r.drop (run isStr r) = 34 :: s) : quoted (r.take m) = quoted r := by
  obtain ⟨s, hs⟩ := hq
  have e : run isStr (r.take m) = run isStr r := by rw [run_take_min]; omega
  unfold quoted
  rw [e, List.drop_take, hs, show m - run isStr r = (m - run isStr r - 1) + 1 by omega, List.take_succ_cons, List.take_take, Nat.min_eq_left (by omega)]
  rfl
theorem first_take (l : List UInt8) (m k v n : Nat) (t : List UInt8) (h : first l = .tok k t v n) (hm : n ≤ m) : first (l.take m) = .tok k t v n := by
  obtain ⟨hn1, hn2, _⟩ := first_len h
  cases l with
  | nil => simp [first] at h
  | cons c r =>
    obtain ⟨m, rfl⟩ : ∃ j, m = j + 1 := ⟨m - 1, by omega⟩
    rw [List.take_succ_cons]
    by_cases hd : isDig c = true
    · have e : run isWB (c :: r.take m) = min (m + 1) (run isWB (c :: r)) := by rw [← List.take_succ_cons, run_take_min]
      have e2 : (c :: r.take m).take (run isWB (c :: r)) = (c :: r).take (min (run isWB (c :: r)) (m + 1)) := by rw [← List.take_succ_cons, List.take_take]
      simp only [first, if_pos hd] at h ⊢
      have hn : run isWB (c :: r) ≤ m + 1 := by
        split at h
        · cases h
        · cases h
        · injection h with _ _ _ h4; omega
      rw [e, Nat.min_eq_right hn, e2, Nat.min_eq_left hn]; exact h
    · by_cases hw : isWB c = true
      · have e : run isWB (c :: r.take m) = min (m + 1) (run isWB (c :: r)) := by rw [← List.take_succ_cons, run_take_min]
        have e2 : (c :: r.take m).take (run isWB (c :: r)) = (c :: r).take (min (run isWB (c :: r)) (m + 1)) := by rw [← List.take_succ_cons, List.take_take]
        simp only [first, if_neg hd, if_pos hw] at h ⊢
        have hn : run isWB (c :: r) ≤ m + 1 := by injection h with _ _ _ h4; omega
        rw [e, Nat.min_eq_right hn, e2, Nat.min_eq_left hn]; exact h
      · by_cases hq : c = 34
        · simp only [first, if_neg hd, if_neg hw, if_pos hq] at h ⊢
          obtain ⟨_, _, hn, _, hs⟩ := quoted_tok h
          rw [quoted_take r m (by omega) hs]; exact h
        · simp only [first, if_neg hd, if_neg hw, if_neg hq] at h ⊢
          unfold marked at h ⊢
          rw [← List.take_succ_cons, List.take_take, List.take_take, List.length_take]
          by_cases h2 : 1 < (c :: r).length ∧ punct ((c :: r).take 2) = true
          · rw [if_pos h2] at h
            injection h with h1' h2' h3' h4'
            subst h4'
            rw [if_pos ⟨by have := h2.1; omega, by rw [Nat.min_eq_left (by omega)]; exact h2.2⟩, Nat.min_eq_left (by omega)]
            rw [h1', h2', h3']
          · rw [if_neg h2] at h
            by_cases h1 : punct ((c :: r).take 1) = true
            · rw [if_pos h1] at h
              rw [if_neg, Nat.min_eq_left (show 1 ≤ m + 1 by omega), if_pos h1]
              · exact h
              · rintro ⟨ha, hb⟩
                apply h2
                rw [Nat.min_eq_left (by omega)] at hb
                exact ⟨by omega, hb⟩
            · rw [if_neg h1] at h; cases h
theorem step_take (l : List UInt8) (m : Nat) (he : ∀ e, step l ≠ .err e) (h1 : 1 ≤ m) (hm : (step l).n ≤ m) : step (l.take m) = step l := by
  cases l with
  | nil => simp [step] at he
  | cons c r =>
    obtain ⟨m, rfl⟩ : ∃ j, m = j + 1 := ⟨m - 1, by omega⟩
    rw [List.take_succ_cons]
    by_cases hs : isSp c = true
    · simp [step, hs]
    · by_cases h35 : c = 35
      · simp only [step, if_neg hs, if_pos h35, Act1.n] at hm ⊢
        rw [← List.take_succ_cons, run_take_min, Nat.min_eq_right hm]
      · simp only [step, if_neg hs, if_neg h35] at hm he ⊢
        cases hf : first (c :: r) with
        | tok k t v n =>
          rw [hf] at hm
          have := first_take (c :: r) (m + 1) k v n t hf hm
          rw [List.take_succ_cons] at this; exact this
        | err e => exact absurd hf (he e)
        | skip n => exact absurd hf first_noskip
theorem quoted_app (r m : List UInt8) (g : UInt8) (hg : isStr g = false) (hg2 : g ≠ 34) : quoted (r ++ g :: m) = quoted r := by
  have hle := @run_le isStr r
  unfold quoted
  rw [run_app r m g hg, List.drop_append_of_le_length hle, List.take_append_of_le_length hle]
  cases hd : r.drop (run isStr r) with
  | nil =>
    rw [List.nil_append]
    split
    · rename_i heq; exact absurd (List.cons.inj heq).1 hg2
    · rfl
  | cons x s =>
    rw [List.cons_append]
    by_cases hx : x = 34
    · subst hx; rfl
    · split
      · rename_i heq; exact absurd (List.cons.inj heq).1 hx
      · split
        · rename_i heq; exact absurd (List.cons.inj heq).1 hx
        · rfl
theorem marked_app (l m : List UInt8) (g : UInt8) (hl : l ≠ []) (hg : g ≠ 61 ∧ g ≠ 46 ∧ g ≠ 62) : marked (l ++ g :: m) = marked l := by
  obtain ⟨c, r, rfl⟩ := List.exists_cons_of_ne_nil hl
  unfold marked
  cases r with
  | nil =>
    have hp : punct [c, g] = false := by
      cases h : punct [c, g] with
      | false => rfl
      | true =>
        unfold punct at h
        simp [marks2] at h
        rcases h with h | h | h | h | h <;> first | exact absurd h.2 hg.1 | exact absurd h.2 hg.2.1 | exact absurd h.2 hg.2.2
    have e2 : List.take 2 ([c] ++ g :: m) = [c, g] := rfl
    have e1 : List.take 1 ([c] ++ g :: m) = [c] := rfl
    have e3 : List.take 1 [c] = [c] := rfl
    rw [e2, hp, if_neg (by simp), e1, if_neg (show ¬ (1 < [c].length ∧ _) by simp), e3]
  | cons d s =>
    have e2 : List.take 2 ((c :: d :: s) ++ g :: m) = List.take 2 (c :: d :: s) := rfl
    have e1 : List.take 1 ((c :: d :: s) ++ g :: m) = List.take 1 (c :: d :: s) := rfl
    rw [e2, e1]
    by_cases h2 : punct (List.take 2 (c :: d :: s)) = true
    · rw [if_pos ⟨by simp, h2⟩, if_pos ⟨by simp, h2⟩]
    · simp
/-- A byte that ends every token. -/
structure Ends (g : UInt8) : Prop where
  wb : isWB g = false
  str : isStr g = false ∨ isSp g = true ∨ g = 35
  q : g ≠ 34
  m : g ≠ 61 ∧ g ≠ 46 ∧ g ≠ 62
theorem step_nl (l m : List UInt8) (hl : l ≠ []) : step (l ++ 10 :: m) = step l := by
  obtain ⟨c, r, rfl⟩ := List.exists_cons_of_ne_nil hl
  rw [List.cons_append]
  by_cases hs : isSp c = true
  · simp [step, hs]
  · by_cases h35 : c = 35
    · simp only [step, if_neg hs, if_pos h35]
      rw [← List.cons_append, run_app (c :: r) m 10 rfl]
    · simp only [step, if_neg hs, if_neg h35]
      have hr : run isWB (c :: (r ++ 10 :: m)) = run isWB (c :: r) := by rw [← List.cons_append, run_app (c :: r) m 10 rfl]
      have ht : (c :: (r ++ 10 :: m)).take (run isWB (c :: r)) = (c :: r).take (run isWB (c :: r)) := by
        rw [← List.cons_append, List.take_append_of_le_length run_le]
      simp only [first, hr, ht]
      rw [quoted_app r m 10 rfl (by decide), ← List.cons_append, marked_app (c :: r) m 10 (by simp) (by decide)]

theorem step_n (l : List UInt8) (hl : l ≠ []) (he : ∀ e, step l ≠ .err e) : 1 ≤ (step l).n ∧ (step l).n ≤ l.length := by
  obtain ⟨c, r, rfl⟩ := List.exists_cons_of_ne_nil hl
  by_cases hs : isSp c = true
  · simp [step, hs, Act1.n]
  · by_cases h35 : c = 35
    · simp only [step, if_neg hs, if_pos h35, Act1.n]
      refine ⟨?_, run_le⟩
      rw [run_cons_pos (by rw [h35]; rfl)]; omega
    · simp only [step, if_neg hs, if_neg h35] at he ⊢
      cases hf : first (c :: r) with
      | tok k t v n => obtain ⟨h1, h2, _⟩ := first_len hf; exact ⟨h1, h2⟩
      | err e => exact absurd hf (he e)
      | skip n => exact absurd hf first_noskip
theorem lex_sk {l : List UInt8} (p : Nat × Nat) {n : Nat} (hl : l ≠ []) (h : step l = .skip n) : lex 0 p l = lex 0 (adv p (l.take n)) (l.drop n) := by
  have hn := step_n l hl (by rw [h]; simp)
  rw [h] at hn
  rw [lex_go p hl, h]; simp only []; rw [show n - 1 + 1 = n by have := hn.1; simp [Act1.n] at this; omega]
theorem lex_tk {l : List UInt8} (p : Nat × Nat) {k v n : Nat} {t : List UInt8} (hl : l ≠ []) (h : step l = .tok k t v n) : lex 0 p l = (lex 0 (adv p (l.take n)) (l.drop n)).cons ⟨k, t, v, p.1, p.2⟩ := by
  have hn := step_n l hl (by rw [h]; simp)
  rw [h] at hn
  rw [lex_go p hl, h]; simp only []; rw [show n - 1 + 1 = n by have := hn.1; simp [Act1.n] at this; omega]
theorem lex_er {l : List UInt8} (p : Nat × Nat) {e : Nat} (hl : l ≠ []) (h : step l = .err e) : lex 0 p l = .no p.1 p.2 e := by rw [lex_go p hl, h]

theorem cons_ok {r : Res} {t : Tok} {ts : List Tok} (h : r.cons t = .ok ts) : ∃ us, r = .ok us ∧ ts = t :: us := by
  cases r with
  | ok us => simp [Res.cons] at h; exact ⟨us, rfl, h.symm⟩
  | no a b c => simp [Res.cons] at h
theorem cons_no {r : Res} {t : Tok} {a b c : Nat} (h : r.cons t = .no a b c) : r = .no a b c := by
  cases r with
  | ok us => simp [Res.cons] at h
  | no a b c => simpa [Res.cons] using h
theorem take_drop_add (l : List UInt8) (n k : Nat) : (l.drop n).take k = (l.take (n + k)).drop n := by rw [List.drop_take]; congr 1; omega
theorem adv_split (q : Nat × Nat) (l : List UInt8) (n k : Nat) : adv (adv q (l.take n)) ((l.drop n).take k) = adv q (l.take (n + k)) := by
  rw [← adv_append]; congr 1
  rw [take_drop_add]
  have h := List.take_append_drop n (l.take (n + k))
  rw [List.take_take, Nat.min_eq_left (by omega)] at h
  exact h

theorem take_ne {l : List UInt8} {m : Nat} (hm : 1 ≤ m) (hl : l ≠ []) : l.take m ≠ [] := by
  obtain ⟨c, r, rfl⟩ := List.exists_cons_of_ne_nil hl
  obtain ⟨j, rfl⟩ : ∃ j, m = j + 1 := ⟨m - 1, by omega⟩
  rw [List.take_succ_cons]; exact List.cons_ne_nil _ _
/-- Where the first error stands: what is before it has none. -/
theorem lex_err_at : ∀ (N : Nat) (l : List UInt8) (q : Nat × Nat) (a b e : Nat), l.length ≤ N → lex 0 q l = .no a b e →
    ∃ k, k < l.length ∧ adv q (l.take k) = (a, b) ∧ step (l.drop k) = .err e ∧ ∃ ts, lex 0 q (l.take k) = .ok ts := by
  intro N
  induction N with
  | zero =>
            intro l q a b e hl h
            have h0 : l = [] := List.eq_nil_of_length_eq_zero (by omega)
            rw [h0, lex_nil] at h; cases h
  | succ N ih =>
    intro l q a b e hl h
    by_cases hne : l = []
    · rw [hne, lex_nil] at h; cases h
    cases hs : step l with
    | err e' =>
      rw [lex_er q hne hs] at h
      injection h with h1 h2 h3
      subst h3
      refine ⟨0, List.length_pos_iff.2 hne, ?_, hs, [], ?_⟩
      · show q = (a, b); rw [← h1, ← h2]
      · rw [List.take_zero, lex_nil]
    | skip n =>
      have hn := step_n l hne (by rw [hs]; simp)
      rw [hs] at hn
      simp only [Act1.n] at hn
      rw [lex_sk q hne hs] at h
      obtain ⟨k, hk, hp, hst, ts, hts⟩ := ih (l.drop n) _ a b e (by rw [List.length_drop]; omega) h
      rw [List.length_drop] at hk
      refine ⟨n + k, by omega, by rw [← adv_split]; exact hp, by rw [← List.drop_drop]; exact hst, ts, ?_⟩
      have hs' : step (l.take (n + k)) = .skip n := by rw [step_take l (n + k) (by rw [hs]; simp) (by omega) (by rw [hs]; simp [Act1.n])]; exact hs
      rw [lex_sk q (take_ne (by omega) hne) hs', List.take_take, Nat.min_eq_left (by omega), ← take_drop_add]; exact hts
    | tok kd tx v n =>
      have hn := step_n l hne (by rw [hs]; simp)
      rw [hs] at hn
      simp only [Act1.n] at hn
      rw [lex_tk q hne hs] at h
      obtain ⟨k, hk, hp, hst, ts, hts⟩ := ih (l.drop n) _ a b e (by rw [List.length_drop]; omega) (cons_no h)
      rw [List.length_drop] at hk
      refine ⟨n + k, by omega, by rw [← adv_split]; exact hp, by rw [← List.drop_drop]; exact hst, ⟨kd, tx, v, q.1, q.2⟩ :: ts, ?_⟩
      have hs' : step (l.take (n + k)) = .tok kd tx v n := by rw [step_take l (n + k) (by rw [hs]; simp) (by omega) (by rw [hs]; simp [Act1.n])]; exact hs
      rw [lex_tk q (take_ne (by omega) hne) hs', List.take_take, Nat.min_eq_left (by omega), ← take_drop_add, hts]; rfl
end Go.Proofs.YtolkceibbefhfaaGreatDoor
