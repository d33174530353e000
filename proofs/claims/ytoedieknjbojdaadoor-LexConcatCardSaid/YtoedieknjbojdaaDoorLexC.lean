/-
  Plain facts on a text, a newline and a further text; on lines that are moved.
  Conditions: none.
-/
import Derived.Test.YtoedieknjbojdaaDoorLexQ
namespace Go.Proofs.YtoedieknjbojdaaDoor

def Tok.moved (d : Nat) (t : Tok) : Tok := ⟨t.kind, t.text, t.value, t.line + d, t.col⟩
def Res.moved (d : Nat) : Res → Res
  | .ok ts => .ok (ts.map (Tok.moved d))
  | .no a b e => .no (a + d) b e
theorem cons_moved (d : Nat) (t : Tok) (r : Res) : (r.cons t).moved d = (r.moved d).cons (t.moved d) := by cases r <;> rfl
theorem adv1_moved (d : Nat) (p : Nat × Nat) (c : UInt8) : adv1 (p.1 + d, p.2) c = ((adv1 p c).1 + d, (adv1 p c).2) := by
  unfold adv1; split <;> simp <;> omega
theorem lex_moved (d : Nat) (l : List UInt8) : ∀ (k : Nat) (p : Nat × Nat), lex k (p.1 + d, p.2) l = (lex k p l).moved d := by
  induction l with
  | nil => intro k p; rw [lex_nil, lex_nil]; rfl
  | cons c r ih =>
    intro k p
    cases k with
    | succ k => rw [lex, lex, adv1_moved, ih]
    | zero =>
      rw [lex, lex]
      cases step (c :: r) with
      | skip n => simp only []; rw [adv1_moved, ih]
      | tok kd tx v n => simp only []; rw [adv1_moved, ih, cons_moved]; rfl
      | err e => rfl
theorem app_cons' (ts : List Tok) (t : Tok) (r : Res) : r.app (t :: ts) = (r.app ts).cons t := by cases r <;> rfl
theorem lex_nl : ∀ (N : Nat) (a b : List UInt8) (q : Nat × Nat), a.length ≤ N →
    lex 0 q (a ++ 10 :: b) = match lex 0 q a with | .ok ts => (lex 0 (adv q (a ++ [10])) b).app ts | .no x y e => .no x y e := by
  intro N
  induction N with
  | zero =>
    intro a b q hl
    have h0 : a = [] := List.eq_nil_of_length_eq_zero (by omega)
    subst h0
    rw [lex_nil, List.nil_append, lex_sk q (by simp) (show step (10 :: b) = .skip 1 from rfl)]
    simp only []
    rw [app_nil]; rfl
  | succ N ih =>
    intro a b q hl
    by_cases hne : a = []
    · subst hne
      rw [lex_nil, List.nil_append, lex_sk q (by simp) (show step (10 :: b) = .skip 1 from rfl)]
      simp only []
      rw [app_nil]; rfl
    have hst := step_nl a b hne
    have hne2 : a ++ 10 :: b ≠ [] := by simp
    cases hs : step a with
    | err e =>
      rw [hs] at hst
      rw [lex_er q hne2 hst, lex_er q hne hs]
    | skip n =>
      have hn := step_n a hne (by rw [hs]; simp)
      rw [hs] at hn hst
      simp only [Act1.n] at hn
      rw [lex_sk q hne2 hst, lex_sk q hne hs, List.take_append_of_le_length hn.2, List.drop_append_of_le_length hn.2, ih (a.drop n) b _ (by rw [List.length_drop]; omega)]
      have e : adv (adv q (a.take n)) (a.drop n ++ [10]) = adv q (a ++ [10]) := by
        rw [← adv_append, ← List.append_assoc, List.take_append_drop]
      rw [e]
    | tok kd tx v n =>
      have hn := step_n a hne (by rw [hs]; simp)
      rw [hs] at hn hst
      simp only [Act1.n] at hn
      rw [lex_tk q hne2 hst, lex_tk q hne hs, List.take_append_of_le_length hn.2, List.drop_append_of_le_length hn.2, ih (a.drop n) b _ (by rw [List.length_drop]; omega)]
      have e : adv (adv q (a.take n)) (a.drop n ++ [10]) = adv q (a ++ [10]) := by
        rw [← adv_append, ← List.append_assoc, List.take_append_drop]
      rw [e]
      cases lex 0 (adv q (a.take n)) (a.drop n) with
      | ok ts => show (Res.app ts _).cons _ = Res.app (_ :: ts) _; rw [app_cons']
      | no x y z => rfl
/-- Both texts, joined: the second one's tokens with their lines moved. -/
theorem lex_concat (a b : List UInt8) : lex 0 (1, 1) (a ++ 10 :: b) = match lex 0 (1, 1) a with | .ok ts => ((lex 0 (1, 1) b).moved (adv (1, 1) a).1).app ts | .no x y e => .no x y e := by
  rw [lex_nl _ a b _ (Nat.le_refl _)]
  have e : adv (1, 1) (a ++ [10]) = (1 + (adv (1, 1) a).1, 1) := by
    rw [adv_append]; simp [adv, adv1]; omega
  rw [e, lex_moved (adv (1, 1) a).1 b 0 (1, 1)]
end Go.Proofs.YtoedieknjbojdaaDoor
