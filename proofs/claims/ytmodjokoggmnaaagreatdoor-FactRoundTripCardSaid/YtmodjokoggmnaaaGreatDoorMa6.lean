/-
  Plain facts on scanning a part of a text, a text and a further one behind a newline, and on positions.
  Conditions: none.
  Numerals: the decimal and the hexadecimal digits of a number, their value; the contracts of the reference's Decimal and of the kit's Place.
  Conditions: the number is less than 2^64.
  The contract of strconv.FormatUint at base 10: the number's decimal digits. And what the table of powers of ten gives.
  Conditions: the table internal/strconv.uint64pow10 lies as the program's text writes it.
-/
import Derived.Test.YtmodjokoggmnaaaGreatDoorMa4
import Derived.Test.YtmodjokoggmnaaaGreatDoorMa5
import Derived.Test.YtmodjokoggmnaaaGreatDoorMa3
import Derived.Lib.AppendIntMem
namespace Go.Proofs.YtmodjokoggmnaaaGreatDoor

section

variable {p : UInt8 → Bool}

theorem run_take_min (l : List UInt8) : ∀ m, run p (l.take m) = min m (run p l) := by
  induction l with
  | nil => intro m; simp [run]
  | cons c r ih =>
    intro m
    cases m with
    | zero => simp [run]
    | succ m =>
      rw [List.take_succ_cons]
      cases hc : p c with
      | true => rw [run_cons_pos hc, run_cons_pos hc, ih]; omega
      | false => rw [run_cons_neg hc, run_cons_neg hc]; simp
theorem run_app (l m : List UInt8) (g : UInt8) (h : p g = false) : run p (l ++ g :: m) = run p l := by
  induction l with
  | nil => rw [List.nil_append, run_cons_neg h]; rfl
  | cons c r ih =>
    rw [List.cons_append]
    cases hc : p c with
    | true => rw [run_cons_pos hc, run_cons_pos hc, ih]
    | false => rw [run_cons_neg hc, run_cons_neg hc]
end

/-- How many bytes a step takes. -/
def Act1.n : Act1 → Nat
  | .skip n => n
  | .tok _ _ _ n => n
  | .err _ => 0
theorem quoted_take (r : List UInt8) (m : Nat) (h : run isStr r + 2 ≤ m + 1) (hq : ∃ s, r.drop (run isStr r) = 34 :: s) : quoted (r.take m) = quoted r := by
  obtain ⟨s, hs⟩ := hq
  have e : run isStr (r.take m) = run isStr r := by rw [run_take_min]; omega
  unfold quoted
  rw [e, List.drop_take, hs, show m - run isStr r = (m - run isStr r - 1) + 1 by omega, List.take_succ_cons, List.take_take, Nat.min_eq_left (by omega)]
  rfl
theorem first_take (l : List UInt8) (m k v n : Nat) (t : List UInt8) (h : first l = .tok k t v n) (hm : n ≤ m) : first (l.take m) = .tok k t v n := by
  obtain ⟨hn1, hn2, _⟩ := first_len h
  cases l with
  | nil => simp [first] at h
  | cons c r =>
    obtain ⟨m, rfl⟩ : ∃ j, m = j + 1 := ⟨m - 1, by omega⟩
    rw [List.take_succ_cons]
    by_cases hd : isDig c = true
    · have e : run isWB (c :: r.take m) = min (m + 1) (run isWB (c :: r)) := by rw [← List.take_succ_cons, run_take_min]
      have e2 : (c :: r.take m).take (run isWB (c :: r)) = (c :: r).take (min (run isWB (c :: r)) (m + 1)) := by rw [← List.take_succ_cons, List.take_take]
      simp only [first, if_pos hd] at h ⊢
      have hn : run isWB (c :: r) ≤ m + 1 := by
        split at h
        · cases h
        · cases h
        · injection h with _ _ _ h4; omega
      rw [e, Nat.min_eq_right hn, e2, Nat.min_eq_left hn]; exact h
    · by_cases hw : isWB c = true
      · have e : run isWB (c :: r.take m) = min (m + 1) (run isWB (c :: r)) := by rw [← List.take_succ_cons, run_take_min]
        have e2 : (c :: r.take m).take (run isWB (c :: r)) = (c :: r).take (min (run isWB (c :: r)) (m + 1)) := by rw [← List.take_succ_cons, List.take_take]
        simp only [first, if_neg hd, if_pos hw] at h ⊢
        have hn : run isWB (c :: r) ≤ m + 1 := by injection h with _ _ _ h4; omega
        rw [e, Nat.min_eq_right hn, e2, Nat.min_eq_left hn]; exact h
      · by_cases hq : c = 34
        · simp only [first, if_neg hd, if_neg hw, if_pos hq] at h ⊢
          obtain ⟨_, _, hn, _, hs⟩ := quoted_tok h
          rw [quoted_take r m (by omega) hs]; exact h
        · simp only [first, if_neg hd, if_neg hw, if_neg hq] at h ⊢
          unfold marked at h ⊢
          rw [← List.take_succ_cons, List.take_take, List.take_take, List.length_take]
          by_cases h2 : 1 < (c :: r).length ∧ punct ((c :: r).take 2) = true
          · rw [if_pos h2] at h
            injection h with h1' h2' h3' h4'
            subst h4'
            rw [if_pos ⟨by have := h2.1; omega, by rw [Nat.min_eq_left (by omega)]; exact h2.2⟩, Nat.min_eq_left (by omega)]
            rw [h1', h2', h3']
          · rw [if_neg h2] at h
            by_cases h1 : punct ((c :: r).take 1) = true
            · rw [if_pos h1] at h
              rw [if_neg, Nat.min_eq_left (show 1 ≤ m + 1 by omega), if_pos h1]
              · exact h
              · rintro ⟨ha, hb⟩
                apply h2
                rw [Nat.min_eq_left (by omega)] at hb
                exact ⟨by omega, hb⟩
            · rw [if_neg h1] at h; cases h
theorem step_take (l : List UInt8) (m : Nat) (he : ∀ e, step l ≠ .err e) (h1 : 1 ≤ m) (hm : (step l).n ≤ m) : step (l.take m) = step l := by
  cases l with
  | nil => simp [step] at he
  | cons c r =>
    obtain ⟨m, rfl⟩ : ∃ j, m = j + 1 := ⟨m - 1, by omega⟩
    rw [List.take_succ_cons]
    by_cases hs : isSp c = true
    · simp [step, hs]
    · by_cases h35 : c = 35
      · simp only [step, if_neg hs, if_pos h35, Act1.n] at hm ⊢
        rw [← List.take_succ_cons, run_take_min, Nat.min_eq_right hm]
      · simp only [step, if_neg hs, if_neg h35] at hm he ⊢
        cases hf : first (c :: r) with
        | tok k t v n =>
          rw [hf] at hm
          have := first_take (c :: r) (m + 1) k v n t hf hm
          rw [List.take_succ_cons] at this; exact this
        | err e => exact absurd hf (he e)
        | skip n => exact absurd hf first_noskip
theorem quoted_app (r m : List UInt8) (g : UInt8) (hg : isStr g = false) (hg2 : g ≠ 34) : quoted (r ++ g :: m) = quoted r := by
  have hle := @run_le isStr r
  unfold quoted
  rw [run_app r m g hg, List.drop_append_of_le_length hle, List.take_append_of_le_length hle]
  cases hd : r.drop (run isStr r) with
  | nil =>
    rw [List.nil_append]
    split
    · rename_i heq; exact absurd (List.cons.inj heq).1 hg2
    · rfl
  | cons x s =>
    rw [List.cons_append]
    by_cases hx : x = 34
    · subst hx; rfl
    · split
      · rename_i heq; exact absurd (List.cons.inj heq).1 hx
      · split
        · rename_i heq; exact absurd (List.cons.inj heq).1 hx
        · rfl
theorem marked_app (l m : List UInt8) (g : UInt8) (hl : l ≠ []) (hg : g ≠ 61 ∧ g ≠ 46 ∧ g ≠ 62) : marked (l ++ g :: m) = marked l := by
  obtain ⟨c, r, rfl⟩ := List.exists_cons_of_ne_nil hl
  unfold marked
  cases r with
  | nil =>
    have hp : punct [c, g] = false := by
      cases h : punct [c, g] with
      | false => rfl
      | true =>
        unfold punct at h
        simp [marks2] at h
        rcases h with h | h | h | h | h <;> first | exact absurd h.2 hg.1 | exact absurd h.2 hg.2.1 | exact absurd h.2 hg.2.2
    have e2 : List.take 2 ([c] ++ g :: m) = [c, g] := rfl
    have e1 : List.take 1 ([c] ++ g :: m) = [c] := rfl
    have e3 : List.take 1 [c] = [c] := rfl
    rw [e2, hp, if_neg (by simp), e1, if_neg (show ¬ (1 < [c].length ∧ _) by simp), e3]
  | cons d s =>
    have e2 : List.take 2 ((c :: d :: s) ++ g :: m) = List.take 2 (c :: d :: s) := rfl
    have e1 : List.take 1 ((c :: d :: s) ++ g :: m) = List.take 1 (c :: d :: s) := rfl
    rw [e2, e1]
    by_cases h2 : punct (List.take 2 (c :: d :: s)) = true
    · rw [if_pos ⟨by simp, h2⟩, if_pos ⟨by simp, h2⟩]
    · simp
/-- A byte that ends every token. -/
structure Ends (g : UInt8) : Prop where
  wb : isWB g = false
  str : isStr g = false ∨ isSp g = true ∨ g = 35
  q : g ≠ 34
  m : g ≠ 61 ∧ g ≠ 46 ∧ g ≠ 62
theorem step_nl (l m : List UInt8) (hl : l ≠ []) : step (l ++ 10 :: m) = step l := by
  obtain ⟨c, r, rfl⟩ := List.exists_cons_of_ne_nil hl
  rw [List.cons_append]
  by_cases hs : isSp c = true
  · simp [step, hs]
  · by_cases h35 : c = 35
    · simp only [step, if_neg hs, if_pos h35]
      rw [← List.cons_append, run_app (c :: r) m 10 rfl]
    · simp only [step, if_neg hs, if_neg h35]
      have hr : run isWB (c :: (r ++ 10 :: m)) = run isWB (c :: r) := by rw [← List.cons_append, run_app (c :: r) m 10 rfl]
      have ht : (c :: (r ++ 10 :: m)).take (run isWB (c :: r)) = (c :: r).take (run isWB (c :: r)) := by
        rw [← List.cons_append, List.take_append_of_le_length run_le]
      simp only [first, hr, ht]
      rw [quoted_app r m 10 rfl (by decide), ← List.cons_append, marked_app (c :: r) m 10 (by simp) (by decide)]

theorem step_n (l : List UInt8) (hl : l ≠ []) (he : ∀ e, step l ≠ .err e) : 1 ≤ (step l).n ∧ (step l).n ≤ l.length := by
  obtain ⟨c, r, rfl⟩ := List.exists_cons_of_ne_nil hl
  by_cases hs : isSp c = true
  · simp [step, hs, Act1.n]
  · by_cases h35 : c = 35
    · simp only [step, if_neg hs, if_pos h35, Act1.n]
      refine ⟨?_, run_le⟩
      rw [run_cons_pos (by rw [h35]; rfl)]; omega
    · simp only [step, if_neg hs, if_neg h35] at he ⊢
      cases hf : first (c :: r) with
      | tok k t v n => obtain ⟨h1, h2, _⟩ := first_len hf; exact ⟨h1, h2⟩
      | err e => exact absurd hf (he e)
      | skip n => exact absurd hf first_noskip
theorem lex_sk {l : List UInt8} (p : Nat × Nat) {n : Nat} (hl : l ≠ []) (h : step l = .skip n) : lex 0 p l = lex 0 (adv p (l.take n)) (l.drop n) := by
  have hn := step_n l hl (by rw [h]; simp)
  rw [h] at hn
  rw [lex_go p hl, h]; simp only []; rw [show n - 1 + 1 = n by have := hn.1; simp [Act1.n] at this; omega]
theorem lex_tk {l : List UInt8} (p : Nat × Nat) {k v n : Nat} {t : List UInt8} (hl : l ≠ []) (h : step l = .tok k t v n) : lex 0 p l = (lex 0 (adv p (l.take n)) (l.drop n)).cons ⟨k, t, v, p.1, p.2⟩ := by
  have hn := step_n l hl (by rw [h]; simp)
  rw [h] at hn
  rw [lex_go p hl, h]; simp only []; rw [show n - 1 + 1 = n by have := hn.1; simp [Act1.n] at this; omega]
theorem lex_er {l : List UInt8} (p : Nat × Nat) {e : Nat} (hl : l ≠ []) (h : step l = .err e) : lex 0 p l = .no p.1 p.2 e := by rw [lex_go p hl, h]

theorem cons_ok {r : Res} {t : Tok} {ts : List Tok} (h : r.cons t = .ok ts) : ∃ us, r = .ok us ∧ ts = t :: us := by
  cases r with
  | ok us => simp [Res.cons] at h; exact ⟨us, rfl, h.symm⟩
  | no a b c => simp [Res.cons] at h
theorem cons_no {r : Res} {t : Tok} {a b c : Nat} (h : r.cons t = .no a b c) : r = .no a b c := by
  cases r with
  | ok us => simp [Res.cons] at h
  | no a b c => simpa [Res.cons] using h
theorem take_drop_add (l : List UInt8) (n k : Nat) : (l.drop n).take k = (l.take (n + k)).drop n := by rw [List.drop_take]; congr 1; omega
theorem adv_split (q : Nat × Nat) (l : List UInt8) (n k : Nat) : adv (adv q (l.take n)) ((l.drop n).take k) = adv q (l.take (n + k)) := by
  rw [← adv_append]; congr 1
  rw [take_drop_add]
  have h := List.take_append_drop n (l.take (n + k))
  rw [List.take_take, Nat.min_eq_left (by omega)] at h
  exact h

theorem take_ne {l : List UInt8} {m : Nat} (hm : 1 ≤ m) (hl : l ≠ []) : l.take m ≠ [] := by
  obtain ⟨c, r, rfl⟩ := List.exists_cons_of_ne_nil hl
  obtain ⟨j, rfl⟩ : ∃ j, m = j + 1 := ⟨m - 1, by omega⟩
  rw [List.take_succ_cons]; exact List.cons_ne_nil _ _
/-- Where the first error stands: what is before it has none. -/
theorem lex_err_at : ∀ (N : Nat) (l : List UInt8) (q : Nat × Nat) (a b e : Nat), l.length ≤ N → lex 0 q l = .no a b e →
    ∃ k, k < l.length ∧ adv q (l.take k) = (a, b) ∧ step (l.drop k) = .err e ∧ ∃ ts, lex 0 q (l.take k) = .ok ts := by
  intro N
  induction N with
  | zero =>
            intro l q a b e hl h
            have h0 : l = [] := List.eq_nil_of_length_eq_zero (by omega)
            rw [h0, lex_nil] at h; cases h
  | succ N ih =>
    intro l q a b e hl h
    by_cases hne : l = []
    · rw [hne, lex_nil] at h; cases h
    cases hs : step l with
    | err e' =>
      rw [lex_er q hne hs] at h
      injection h with h1 h2 h3
      subst h3
      refine ⟨0, List.length_pos_iff.2 hne, ?_, hs, [], ?_⟩
      · show q = (a, b); rw [← h1, ← h2]
      · rw [List.take_zero, lex_nil]
    | skip n =>
      have hn := step_n l hne (by rw [hs]; simp)
      rw [hs] at hn
      simp only [Act1.n] at hn
      rw [lex_sk q hne hs] at h
      obtain ⟨k, hk, hp, hst, ts, hts⟩ := ih (l.drop n) _ a b e (by rw [List.length_drop]; omega) h
      rw [List.length_drop] at hk
      refine ⟨n + k, by omega, by rw [← adv_split]; exact hp, by rw [← List.drop_drop]; exact hst, ts, ?_⟩
      have hs' : step (l.take (n + k)) = .skip n := by rw [step_take l (n + k) (by rw [hs]; simp) (by omega) (by rw [hs]; simp [Act1.n])]; exact hs
      rw [lex_sk q (take_ne (by omega) hne) hs', List.take_take, Nat.min_eq_left (by omega), ← take_drop_add]; exact hts
    | tok kd tx v n =>
      have hn := step_n l hne (by rw [hs]; simp)
      rw [hs] at hn
      simp only [Act1.n] at hn
      rw [lex_tk q hne hs] at h
      obtain ⟨k, hk, hp, hst, ts, hts⟩ := ih (l.drop n) _ a b e (by rw [List.length_drop]; omega) (cons_no h)
      rw [List.length_drop] at hk
      refine ⟨n + k, by omega, by rw [← adv_split]; exact hp, by rw [← List.drop_drop]; exact hst, ⟨kd, tx, v, q.1, q.2⟩ :: ts, ?_⟩
      have hs' : step (l.take (n + k)) = .tok kd tx v n := by rw [step_take l (n + k) (by rw [hs]; simp) (by omega) (by rw [hs]; simp [Act1.n])]; exact hs
      rw [lex_tk q (take_ne (by omega) hne) hs', List.take_take, Nat.min_eq_left (by omega), ← take_drop_add, hts]; rfl
end Go.Proofs.YtmodjokoggmnaaaGreatDoor


namespace Go.Proofs.YtmodjokoggmnaaaGreatDoor

open Go.RowKit Go.Shelf

/-- The byte of a decimal digit. -/
def dch (k : Nat) : UInt8 := (48 + k).toUInt8
def decF : Nat → Nat → List UInt8
  | 0, _ => []
  | f + 1, x => if x < 10 then [dch x] else decF f (x / 10) ++ [dch (x % 10)]
/-- The decimal digits. -/
def decL (x : Nat) : List UInt8 := decF (x + 1) x
theorem decF_fuel : ∀ (f x : Nat), x < f → ∀ g, f ≤ g → decF g x = decF f x := by
  intro f
  induction f with
  | zero => intro x h; omega
  | succ f ih =>
    intro x h g hg
    obtain ⟨g, rfl⟩ : ∃ j, g = j + 1 := ⟨g - 1, by omega⟩
    simp only [decF]
    by_cases hx : x < 10
    · rw [if_pos hx, if_pos hx]
    · rw [if_neg hx, if_neg hx, ih (x / 10) (by omega) g (by omega)]
theorem decL_lt {x : Nat} (h : x < 10) : decL x = [dch x] := by simp [decL, decF, h]
theorem decL_ge {x : Nat} (h : ¬ x < 10) : decL x = decL (x / 10) ++ [dch (x % 10)] := by
  unfold decL
  rw [decF, if_neg h, decF_fuel (x / 10 + 1) (x / 10) (by omega) x (by omega)]
theorem dig_toNat {k : Nat} (h : k < 10) : (dch k).toNat = 48 + k := by unfold dch; simp; omega
theorem dig_isDig {k : Nat} (h : k < 10) : isDig (dch k) = true := by
  simp only [isDig, digI, decide_eq_true_eq]
  rw [dig_toNat h]; omega
theorem dval_d {k : Nat} (h : k < 10) : dval (dch k) = k := by
  unfold dval
  rw [dig_toNat h, if_pos (by omega)]; omega
/-- What holds of a number's decimal digits. -/
structure IsDec (x : Nat) (l : List UInt8) : Prop where
  ne : l ≠ []
  all : l.all isDig = true
  val : value 10 l = x
  len : l.length ≤ 20
  lead : ∀ c r, l = 48 :: c :: r → False
theorem value_snoc (b : Nat) (l : List UInt8) (c : UInt8) : value b (l ++ [c]) = value b l * b + dval c := by simp [value]
theorem decL_is : ∀ (n x : Nat), x < 10 ^ (n + 1) → n ≤ 19 → (decL x ≠ [] ∧ (decL x).all isDig = true ∧ value 10 (decL x) = x ∧ (decL x).length ≤ n + 1 ∧ (0 < x → ∀ r, decL x ≠ 48 :: r)) := by
  intro n
  induction n with
  | zero =>
    intro x hx _
    have h : x < 10 := by simpa using hx
    rw [decL_lt h]
    refine ⟨by simp, by simp [dig_isDig h], by simp [value, dval_d h], by simp, fun h0 r hr => ?_⟩
    have := congrArg UInt8.toNat (List.cons.inj hr).1
    rw [dig_toNat h] at this
    simp at this; omega
  | succ n ih =>
    intro x hx hn
    by_cases h : x < 10
    · rw [decL_lt h]
      refine ⟨by simp, by simp [dig_isDig h], by simp [value, dval_d h], by simp, fun h0 r hr => ?_⟩
      have := congrArg UInt8.toNat (List.cons.inj hr).1
      rw [dig_toNat h] at this
      simp at this; omega
    · rw [decL_ge h]
      obtain ⟨h1, h2, h3, h4, h5⟩ := ih (x / 10) (by rw [Nat.pow_succ] at hx; omega) (by omega)
      have hm : x % 10 < 10 := Nat.mod_lt _ (by omega)
      refine ⟨by simp, by rw [List.all_append, h2]; simp [dig_isDig hm], by rw [value_snoc, h3, dval_d hm]; omega, by simp; omega, fun _ r hr => ?_⟩
      obtain ⟨c, s, hs⟩ := List.exists_cons_of_ne_nil h1
      rw [hs, List.cons_append] at hr
      exact h5 (by omega) s (by rw [hs, (List.cons.inj hr).1])
theorem isDec (x : Nat) (h : x < 18446744073709551616) : IsDec x (decL x) := by
  obtain ⟨h1, h2, h3, h4, h5⟩ := decL_is 19 x (by omega) (by omega)
  refine ⟨h1, h2, h3, h4, fun c r hr => ?_⟩
  rcases Nat.eq_zero_or_pos x with h0 | h0
  · subst h0
    rw [decL_lt (by omega)] at hr
    have := congrArg List.length hr
    simp at this
  · exact h5 h0 _ hr

theorem dig_run (k : Nat) (h : k < 10) (W : World) : (Instr.slice 9 (.string ⟨#[48, 49, 50, 51, 52, 53, 54, 55, 56, 57]⟩) (some (.int .u64 (k : Int))) (some (.int .u64 ((k : Int) + 1))) none).run Tryz.prog W = .ok (.string ⟨#[dch k]⟩) W := by
  have e : (⟨#[48, 49, 50, 51, 52, 53, 54, 55, 56, 57]⟩ : ByteArray).extract k (k + 1) = ⟨#[dch k]⟩ := by
    rw [show (⟨#[48, 49, 50, 51, 52, 53, 54, 55, 56, 57]⟩ : ByteArray) = ⟨([48, 49, 50, 51, 52, 53, 54, 55, 56, 57] : List UInt8).toArray⟩ from rfl, cut_eq]
    obtain h | h | h | h | h | h | h | h | h | h : k = 0 ∨ k = 1 ∨ k = 2 ∨ k = 3 ∨ k = 4 ∨ k = 5 ∨ k = 6 ∨ k = 7 ∨ k = 8 ∨ k = 9 := by omega
    all_goals (subst h; rfl)
  rw [run_slice_string W 9 _ .u64 .u64 (k : Int) ((k : Int) + 1) Tryz.underlying9 (by omega) (by omega) (by show ((k : Int) + 1) ≤ 10; omega), show ((k : Int) + 1).toNat = k + 1 by omega, Int.toNat_natCast, e]
theorem cons_cat (c : UInt8) (l : List UInt8) : (⟨#[c]⟩ ++ ⟨l.toArray⟩ : ByteArray) = ⟨(c :: l).toArray⟩ := by
  apply ByteArray.ext
  simp [ByteArray.data_append]

set_option maxRecDepth 50000 in
set_option maxHeartbeats 1000000 in
theorem decimal_any (x : Nat) (hx : x < 18446744073709551616) (w : World) :
    Calls Tryz.prog 70 #[.int .u64 x] w fun e w' => e = .returned (.string ⟨(decL x).toArray⟩) ∧ w = w' := by
  have hd := (isDec x hx).len
  obtain ⟨X, hX⟩ : ∃ X, X = decL x := ⟨_, rfl⟩
  rw [← hX] at hd ⊢
  have HX := Lib.hid hX
  obtain ⟨z, hz⟩ : ∃ z : Int, z = (x : Int) := ⟨_, rfl⟩
  rw [← hz]
  have HZ := Lib.hid hz
  have hx2 := Lib.hid hx
  clear hz hX hx
  go_enter Tryz.func70, Tryz.ntmps70
  go_wp2
  go_loop [0, 3] (fun vv vs => ∃ (y : Int) (l : List UInt8), vv = .int .u64 y ∧ vs = .string ⟨l.toArray⟩ ∧ Hid (∃ n : Nat, y = (n : Int) ∧ n < 18446744073709551616 ∧ decL n ++ l = X) ∧ l.length ≤ 20) (fun vv _ => (intOf vv).toNat)
  case atStart => exact ⟨z, [], rfl, rfl, Lib.hid ⟨x, HZ.out, hx2.out, by rw [List.append_nil, HX.out]⟩, by simp⟩
  case round =>
    obtain ⟨y, l, rfl, rfl, HI, hl⟩ := hrel
    obtain ⟨n, hn, hn2, hn3⟩ := HI.out
    by_cases h10 : 10 ≤ y
    · have hm : n % 10 < 10 := Nat.mod_lt _ (by omega)
      have hrun := dig_run (n % 10) hm
      have hy0 : 0 ≤ y := by omega
      have hq : ((n % 10 : Nat) : Int) = y % 10 := by omega
      rw [hq] at hrun
      have hlen : l.length + 1 ≤ 20 := by
        have := congrArg List.length hn3
        rw [decL_ge (x := n) (by omega), List.length_append, List.length_append] at this
        have hne := (isDec (n / 10) (by omega)).ne
        have := List.length_pos_iff.2 hne
        simp at *; omega
      have HN : Hid (∃ m : Nat, y / 10 = (m : Int) ∧ m < 18446744073709551616 ∧ decL m ++ (dch (n % 10) :: l) = X) := Lib.hid ⟨n / 10, by omega, by omega, by rw [← hn3, decL_ge (x := n) (by omega)]; simp⟩
      have hcat := cons_cat (dch (n % 10)) l
      generalize dch (n % 10) = c at *
      have hdv : y / 10 < y := by omega
      have hdv0 : 0 ≤ y / 10 := by omega
      have hyb : y < 18446744073709551616 := by omega
      have hwr : IntKind.u64.wrap (y.tdiv 10) = y / 10 := by rw [Int.tdiv_eq_ediv_of_nonneg hy0, IntKind.wrap_u64]; omega
      clear hn3 hm hq hn HI
      go_wp2
      go_round
      case rel => exact ⟨y / 10, c :: l, rfl, rfl, HN, by simpa using hlen⟩
      case measure => simp [intOf]; omega
    · have hrun := dig_run n (by omega)
      have HE : Hid (X = dch n :: l) := Lib.hid (by rw [← hn3, decL_lt (x := n) (by omega)]; rfl)
      have hcat := cons_cat (dch n) l
      rw [← hn] at hrun
      generalize dch n = c at *
      have hy0 : 0 ≤ y := by omega
      have h9 : y ≤ 9 := by omega
      clear hn3 hn HI
      go_wp2
      go_ret
      rw [HE.out]
      exact ⟨rfl, rfl⟩
end Go.Proofs.YtmodjokoggmnaaaGreatDoor


namespace Go.Proofs.YtmodjokoggmnaaaGreatDoor

open Go.RowKit Go.Shelf Go.Sort

theorem decDigits_decL (u : Nat) : Lib.decDigits u = decL u := by
  induction u using Nat.strongRecOn with
  | _ u ih =>
    rw [Lib.decDigits]
    by_cases h : u < 10
    · rw [dif_pos h, decL_lt h]; rfl
    · rw [dif_neg h, decL_ge h, ih (u / 10) (by omega)]; rfl

def Pow (w : World) : Prop := Lib.TabIs Tryz.prog w "internal/strconv.uint64pow10" .u64 Lib.pow10Tab
theorem gPow : Tryz.prog.globalNamed "internal/strconv.uint64pow10" = some 1 := by kernel_rfl
theorem Pow.next {w w' : World} (h : Pow w) (hb : Below w.heap.size w w') : Pow w' := by
  unfold Pow Lib.TabIs World.var? at h ⊢
  rw [gPow] at h ⊢
  simp only [Option.bind_some] at h ⊢
  have hlt : 1 < w.heap.size := by
    rcases Nat.lt_or_ge 1 w.heap.size with h' | h'
    · exact h'
    · rw [Array.getElem?_eq_none h'] at h; cases h
  rw [hb.block _ hlt]
  exact h

set_option maxRecDepth 100000 in
set_option maxHeartbeats 1000000 in
theorem ifu_any (u : Nat) (hu64 : u < 18446744073709551616) (w : World) (hP : Pow w) :
    Calls Tryz.prog 149 #[.int .u64 u, .int .i64 10] w fun e w' => e = .returned (.string ⟨(decL u).toArray⟩) ∧ Below w.heap.size w w' := by
  rcases Nat.lt_or_ge u 100 with h100 | h100
  · have HS := Lib.hid (Tryz.internal_strconv_small u h100)
    have HE := Lib.hid (decDigits_decL u)
    go_enter Tryz.func149, Tryz.ntmps149
    go_wp2_with fail
    refine (HS.out _).mono ?_
    rintro e w' ⟨rfl, rfl⟩
    go_wp2
    go_ret
    exact ⟨by rw [HE.out]; rfl, Below.refl _ _⟩
  · have hu1 : 1 ≤ u := by omega
    have hnd20 : Lib.nDigits u ≤ 20 := by have := Lib.numDigits_eq u hu1 hu64; split at this <;> omega
    have hal : Tryz.prog.arrayLen 142 = 24 := by kernel_rfl
    have hsl : ∀ W, (Instr.sliceAt 142 (.pointer (some ⟨w.heap.size, 0, none⟩)) none (some (.int .i64 (Lib.nDigits u : Int))) none).run Tryz.prog W = .ok (.slice (some ⟨w.heap.size, 0, none⟩) (Lib.nDigits u) 24) W := fun W => by
      rw [run_sliceAt_array_h W 142 ⟨w.heap.size, 0, none⟩ (by kernel_rfl) .i64 (Lib.nDigits u : Int) (by omega) (by rw [hal]; omega)]
      go_simp
      try rfl
    have hH0 := Lib.holds_zero0 w 142 (Lib.nDigits u) (by omega)
    have hfmt := Tryz.internal_strconv_formatBase10 w.heap.size 0 24 u (Array.replicate (Lib.nDigits u) 0) (w.alloc (.cells Lib.zeros24 142)) hH0 (by rw [Array.size_replicate]; exact Lib.lt_pow_nDigits u) hu64 (by rw [Array.size_replicate]; omega)
    rw [Array.size_replicate] at hfmt
    have HF := Lib.hid hfmt
    have HN := Lib.hid (Tryz.internal_strconv_numDigits u hu1 hu64 _ (Lib.tabIs_alloc hP (.cells Lib.zeros24 142)))
    have HH0 := Lib.hid hH0
    have HE := Lib.hid (decDigits_decL u)
    clear hH0 hal hfmt hP
    go_enter Tryz.func149, Tryz.ntmps149
    go_wp2_with fail
    refine HN.out.mono ?_
    rintro e w' ⟨rfl, rfl⟩
    go_wp2_with fail
    refine HF.out.mono ?_
    rintro e w' ⟨rfl, k, v', dk, rfl, hF⟩
    have hcv : (convert 67 9 (.slice (some ⟨w.heap.size, 0, none⟩) (Lib.nDigits u) 24)).run Tryz.prog ((putRow (fun (b : UInt8) => Value.int .u8 (b.toNat : Int)) (w.alloc (.cells Lib.zeros24 142)) w.heap.size 0 dk).drewN k) = .ok (.string ⟨(Lib.decDigits u).toArray⟩) ((putRow (fun (b : UInt8) => Value.int .u8 (b.toNat : Int)) (w.alloc (.cells Lib.zeros24 142)) w.heap.size 0 dk).drewN k) := by
      have h := run_convert_bytes_back (P := Tryz.prog) ((putRow (fun (b : UInt8) => Value.int .u8 (b.toNat : Int)) (w.alloc (.cells Lib.zeros24 142)) w.heap.size 0 dk).drewN k) 67 9 5 ⟨w.heap.size, 0, none⟩ 24 (Lib.decDigits u) Tryz.underlying67 Tryz.underlying5 Tryz.underlying9 (fun j hj => by
        rw [Lib.row_is_numeral hF j hj, Lib.add_plain, World.cell?_drewN]
        exact cell?_putRow (fun (b : UInt8) => Value.int .u8 (b.toNat : Int)) _ w.heap.size 0 _ dk HH0.out (by rw [hF.size, Array.size_replicate]) j (by rw [hF.size]; rw [Lib.decDigits_length] at hj; exact hj))
      rw [Lib.decDigits_length] at h
      exact h
    have HB : Hid (Below w.heap.size w ((putRow (fun (b : UInt8) => Value.int .u8 (b.toNat : Int)) (w.alloc (.cells Lib.zeros24 142)) w.heap.size 0 dk).drewN k)) := Lib.hid (by
      rw [alloc_eq_grow]
      obtain ⟨os', _, e⟩ := putRow_grow_new (fun (b : UInt8) => Value.int .u8 (b.toNat : Int)) w #[.cells Lib.zeros24 142] w.heap.size 0 dk (Nat.le_refl _)
      rw [e]
      exact Lib.below_grow _ w (Nat.le_refl _) k os')
    clear hF
    go_wp2
    go_ret
    exact ⟨by rw [← HE.out]; rfl, HB.out⟩
theorem formatUint_any (u : Nat) (hu64 : u < 18446744073709551616) (w : World) (hP : Pow w) :
    Calls Tryz.prog 133 #[.int .u64 u, .int .i64 10] w fun e w' => e = .returned (.string ⟨(decL u).toArray⟩) ∧ Below w.heap.size w w' := by
  have HC := Lib.hid (ifu_any u hu64 w hP)
  clear hP
  go_enter Tryz.func133, Tryz.ntmps133
  go_wp2_with fail
  refine HC.out.mono ?_
  rintro e w1 ⟨rfl, hb⟩
  go_wp2
  go_ret
  exact ⟨rfl, hb⟩
end Go.Proofs.YtmodjokoggmnaaaGreatDoor
