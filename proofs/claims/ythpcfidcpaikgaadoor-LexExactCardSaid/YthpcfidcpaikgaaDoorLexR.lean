/-
  Plain facts on the tokens of a text: where each stands, and that the text from one token to the next holds that token alone.
  Conditions: none.
-/
import Derived.Test.YthpcfidcpaikgaaDoorLexQ
namespace Go.Proofs.YthpcfidcpaikgaaDoor

/-- A text without tokens has none wherever it begins. -/
theorem lex_blank : ∀ (N : Nat) (l : List UInt8) (q : Nat × Nat), l.length ≤ N → lex 0 q l = .ok [] → ∀ r, lex 0 r l = .ok [] := by
  intro N
  induction N with
  | zero =>
    intro l q hl h r
    have h0 : l = [] := List.eq_nil_of_length_eq_zero (by omega)
    rw [h0, lex_nil]
  | succ N ih =>
    intro l q hl h r
    by_cases hne : l = []
    · rw [hne, lex_nil]
    cases hs : step l with
    | err e => rw [lex_er q hne hs] at h; cases h
    | skip n =>
      have hn := step_n l hne (by rw [hs]; simp)
      rw [hs] at hn
      simp only [Act1.n] at hn
      rw [lex_sk q hne hs] at h
      rw [lex_sk r hne hs]
      exact ih (l.drop n) _ (by rw [List.length_drop]; omega) h _
    | tok kd tx v n =>
      rw [lex_tk q hne hs] at h
      obtain ⟨us, _, h2⟩ := cons_ok h
      cases h2
/-- The first token of a text. -/
theorem lex_split : ∀ (N : Nat) (l : List UInt8) (q : Nat × Nat) (t : Tok) (ts : List Tok), l.length ≤ N → lex 0 q l = .ok (t :: ts) →
    ∃ a n, 1 ≤ n ∧ a + n ≤ l.length ∧ adv q (l.take a) = (t.line, t.col) ∧ step (l.drop a) = .tok t.kind t.text t.value n ∧ (∀ r, lex 0 r (l.take a) = .ok []) ∧ lex 0 (adv q (l.take (a + n))) (l.drop (a + n)) = .ok ts := by
  intro N
  induction N with
  | zero =>
    intro l q t ts hl h
    have h0 : l = [] := List.eq_nil_of_length_eq_zero (by omega)
    rw [h0, lex_nil] at h; cases h
  | succ N ih =>
    intro l q t ts hl h
    by_cases hne : l = []
    · rw [hne, lex_nil] at h; cases h
    cases hs : step l with
    | err e => rw [lex_er q hne hs] at h; cases h
    | skip n =>
      have hn := step_n l hne (by rw [hs]; simp)
      rw [hs] at hn
      simp only [Act1.n] at hn
      rw [lex_sk q hne hs] at h
      obtain ⟨a, m, hm, ham, hp, hst, hbl, hrest⟩ := ih (l.drop n) _ t ts (by rw [List.length_drop]; omega) h
      rw [List.length_drop] at ham
      refine ⟨n + a, m, hm, by omega, by rw [← adv_split]; exact hp, by rw [← List.drop_drop]; exact hst, fun r => ?_, ?_⟩
      · have hs' : step (l.take (n + a)) = .skip n := by rw [step_take l (n + a) (by rw [hs]; simp) (by omega) (by rw [hs]; simp [Act1.n])]; exact hs
        rw [lex_sk r (take_ne (by omega) hne) hs', ← take_drop_add]
        exact hbl _
      · rw [Nat.add_assoc, ← adv_split, ← List.drop_drop]; exact hrest
    | tok kd tx v n =>
      have hn := step_n l hne (by rw [hs]; simp)
      rw [hs] at hn
      simp only [Act1.n] at hn
      rw [lex_tk q hne hs] at h
      obtain ⟨us, h1, h2⟩ := cons_ok h
      injection h2 with h3 h4
      subst h3 h4
      exact ⟨0, n, hn.1, by omega, rfl, hs, fun r => by rw [List.take_zero, lex_nil], by rw [Nat.zero_add]; exact h1⟩
/-- A token and what has none behind it. -/
theorem lex_one {l : List UInt8} {kd v n m : Nat} {tx : List UInt8} (hs : step l = .tok kd tx v n) (hn : n ≤ m) (h1 : 1 ≤ n) (hl : l ≠ []) (hb : ∀ r, lex 0 r ((l.drop n).take (m - n)) = .ok []) (q : Nat × Nat) :
    lex 0 q (l.take m) = .ok [⟨kd, tx, v, q.1, q.2⟩] := by
  have hs' : step (l.take m) = .tok kd tx v n := by rw [step_take l m (by rw [hs]; simp) (by omega) (by rw [hs]; simpa [Act1.n] using hn)]; exact hs
  have e : (l.take m).drop n = (l.drop n).take (m - n) := by rw [List.drop_take]
  rw [lex_tk q (take_ne (by omega) hl) hs', e, hb]; rfl

/-- The offsets of a text's tokens: each stands at its position; the text up to the next (or the end) holds it alone. -/
def Stands (l : List UInt8) (off : Nat) : List Tok → List Nat → Prop
  | [], [] => ∀ r, lex 0 r (l.drop off) = .ok []
  | t :: ts, a :: as => off ≤ a ∧ a < l.length ∧ adv (1, 1) (l.take a) = (t.line, t.col) ∧ (∀ r, lex 0 r ((l.drop off).take (a - off)) = .ok []) ∧ True ∧
      (∃ n, 1 ≤ n ∧ a + n ≤ l.length ∧ step (l.drop a) = .tok t.kind t.text t.value n ∧ Stands l (a + n) ts as)
  | _, _ => False
theorem stands (l : List UInt8) : ∀ (ts : List Tok) (off : Nat), off ≤ l.length → lex 0 (adv (1, 1) (l.take off)) (l.drop off) = .ok ts → ∃ as, Stands l off ts as := by
  intro ts
  induction ts with
  | nil => intro off _ h; exact ⟨[], lex_blank _ _ _ (Nat.le_refl _) h⟩
  | cons t ts ih =>
    intro off ho h
    obtain ⟨a, n, hn, han, hp, hs, hb, hr⟩ := lex_split _ _ _ t ts (Nat.le_refl _) h
    rw [List.length_drop] at han
    rw [adv_split] at hp hr
    rw [List.drop_drop] at hs hr
    rw [← Nat.add_assoc] at hr
    obtain ⟨as, has⟩ := ih (off + a + n) (by omega) hr
    exact ⟨(off + a) :: as, by omega, by omega, hp, by rw [show off + a - off = a by omega]; exact hb, trivial, n, hn, by omega, hs, has⟩
/-- Where what follows the offsets begins. -/
def nextOf (l : List UInt8) (as : List Nat) : Nat := match as with | [] => l.length | a :: _ => a
theorem stands_len {l : List UInt8} : ∀ {ts : List Tok} {as : List Nat} {off : Nat}, Stands l off ts as → ts.length = as.length := by
  intro ts
  induction ts with
  | nil => intro as off h; cases as with | nil => rfl | cons a as => exact absurd h (by simp [Stands])
  | cons t ts ih =>
    intro as off h
    cases as with
    | nil => exact absurd h (by simp [Stands])
    | cons a as => obtain ⟨_, _, _, _, _, n, _, _, _, h2⟩ := h; rw [List.length_cons, List.length_cons, ih h2]
theorem stands_count {l : List UInt8} : ∀ {ts : List Tok} {as : List Nat} {off : Nat}, Stands l off ts as → ts.length + off ≤ l.length ∨ ts = [] := by
  intro ts
  induction ts with
  | nil => intro as off _; exact .inr rfl
  | cons t ts ih =>
    intro as off h
    cases as with
    | nil => exact absurd h (by simp [Stands])
    | cons a as =>
      obtain ⟨h1, h2, _, _, _, n, hn, han, _, hS⟩ := h
      left
      rcases ih hS with h3 | h3
      · rw [List.length_cons]; omega
      · subst h3; simp; omega
/-- The text before the first token holds none. -/
theorem stands_blank {l : List UInt8} {ts : List Tok} {as : List Nat} {off : Nat} (h : Stands l off ts as) (r : Nat × Nat) : lex 0 r ((l.drop off).take (nextOf l as - off)) = .ok [] := by
  cases ts with
  | nil =>
    cases as with
    | nil => rw [List.take_of_length_le (by simp [nextOf])]; exact h r
    | cons a as => exact absurd h (by simp [Stands])
  | cons t ts =>
    cases as with
    | nil => exact absurd h (by simp [Stands])
    | cons a as => exact h.2.2.2.1 r
theorem stands_next {l : List UInt8} {ts : List Tok} {as : List Nat} {off : Nat} (h : Stands l off ts as) (ho : off ≤ l.length) : off ≤ nextOf l as ∧ nextOf l as ≤ l.length := by
  cases ts with
  | nil =>
    cases as with
    | nil => exact ⟨ho, Nat.le_refl _⟩
    | cons a as => exact absurd h (by simp [Stands])
  | cons t ts =>
    cases as with
    | nil => exact absurd h (by simp [Stands])
    | cons a as => exact ⟨h.1, by have := h.2.1; simp [nextOf]; omega⟩
/-- Token i: its offset, its position, and what the text up to the next one holds. -/
theorem stands_at {l : List UInt8} : ∀ {ts : List Tok} {as : List Nat} {off : Nat}, Stands l off ts as → ∀ (i : Nat) (h1 : i < ts.length) (h2 : i < as.length),
    as[i] < nextOf l (as.drop (i + 1)) ∧ nextOf l (as.drop (i + 1)) ≤ l.length ∧ adv (1, 1) (l.take as[i]) = ((ts[i]).line, (ts[i]).col) ∧
      ∀ q, lex 0 q ((l.take (nextOf l (as.drop (i + 1)))).drop as[i]) = .ok [⟨(ts[i]).kind, (ts[i]).text, (ts[i]).value, q.1, q.2⟩] := by
  intro ts
  induction ts with
  | nil => intro as off _ i h1; simp at h1
  | cons t ts ih =>
    intro as off h i h1 h2
    cases as with
    | nil => simp at h2
    | cons a as =>
      obtain ⟨ho, ha, hp, hb, _, n, hn, han, hs, hS⟩ := h
      cases i with
      | zero =>
        have hnx := stands_next hS han
        refine ⟨by simp; omega, by simpa using hnx.2, hp, fun q => ?_⟩
        have hbl := stands_blank hS
        simp only [List.drop_succ_cons, List.drop_zero, List.getElem_cons_zero]
        rw [List.drop_take]
        refine lex_one hs (by omega) hn (drop_ne ha) (fun r => ?_) q
        rw [List.drop_drop, show nextOf l as - a - n = nextOf l as - (a + n) by omega]
        exact hbl r
      | succ i =>
        have := ih hS i (by simpa using h1) (by simpa using h2)
        simpa using this
end Go.Proofs.YthpcfidcpaikgaaDoor
