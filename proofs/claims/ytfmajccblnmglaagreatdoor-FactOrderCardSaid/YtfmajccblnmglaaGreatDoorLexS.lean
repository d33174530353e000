/-
  Plain facts on tokens: how long one is, that it holds no newline, and how the scanning of a text goes on behind it.
  Conditions: none.
-/
import Derived.Test.YtfmajccblnmglaaGreatDoorLex
namespace Go.Proofs.YtfmajccblnmglaaGreatDoor

theorem wb_nl (c : UInt8) (h : isWB c = true) : c ≠ 10 := by rintro rfl; revert h; decide
theorem str_nl (c : UInt8) (h : isStr c = true) : c ≠ 10 := by rintro rfl; revert h; decide
theorem punct_nl (l : List UInt8) (h : punct l = true) : ∀ c ∈ l, c ≠ 10 := by
  unfold punct at h
  rw [Bool.or_eq_true] at h
  rcases h with h | h
  · simp [marks2] at h
    rcases h with h | h | h | h | h <;> subst h <;> decide
  · split at h
    · rename_i c
      intro d hd
      rw [List.mem_singleton] at hd
      subst hd
      rintro rfl
      revert h; decide
    · simp at h
theorem adv_plain (l : List UInt8) (h : ∀ c ∈ l, c ≠ 10) : ∀ p : Nat × Nat, adv p l = (p.1, p.2 + l.length) := by
  induction l with
  | nil => intro p; rfl
  | cons c r ih =>
    intro p
    have hc : c ≠ 10 := h c List.mem_cons_self
    show adv (adv1 p c) r = _
    rw [ih (fun d hd => h d (List.mem_cons_of_mem _ hd))]
    simp [adv1, hc]; omega
theorem quoted_tok {r : List UInt8} {k v n : Nat} {t : List UInt8} (h : quoted r = .tok k t v n) : k = 3 ∧ v = 0 ∧ n = run isStr r + 2 ∧ t = r.take (run isStr r) ∧ ∃ s, r.drop (run isStr r) = 34 :: s := by
  unfold quoted at h
  split at h
  · rename_i s hs
    injection h with h1 h2 h3 h4
    exact ⟨h1.symm, h3.symm, h4.symm, h2.symm, s, hs⟩
  · cases h
theorem marked_tok {l : List UInt8} {k v n : Nat} {t : List UInt8} (h : marked l = .tok k t v n) : k = 4 ∧ v = 0 ∧ t = l.take n ∧ punct t = true ∧ ((n = 2 ∧ 1 < l.length) ∨ n = 1) := by
  unfold marked at h
  split at h
  · rename_i h2
    injection h with h1 h2' h3 h4
    subst h1 h2' h3 h4
    exact ⟨rfl, rfl, rfl, h2.2, .inl ⟨rfl, h2.1⟩⟩
  · split at h
    · rename_i h2
      injection h with h1 h2' h3 h4
      subst h1 h2' h3 h4
      exact ⟨rfl, rfl, rfl, h2, .inr rfl⟩
    · cases h
/-- A token has a byte at least, lies in the text and holds no newline. -/
theorem first_len {l : List UInt8} {k v n : Nat} {t : List UInt8} (h : first l = .tok k t v n) : 1 ≤ n ∧ n ≤ l.length ∧ ∀ c ∈ l.take n, c ≠ 10 := by
  unfold first at h
  split at h
  · cases h
  · rename_i c r
    split at h
    · rename_i hd
      have hw : isWB c = true := by simp [isWB, wbI]; exact .inr hd
      split at h
      · cases h
      · cases h
      · injection h with h1 h2 h3 h4
        subst h4
        refine ⟨?_, run_le, fun c hc => wb_nl c (run_all c hc)⟩
        rw [run_cons_pos hw]; omega
    · split at h
      · rename_i hw
        injection h with h1 h2 h3 h4
        subst h4
        refine ⟨?_, run_le, fun c hc => wb_nl c (run_all c hc)⟩
        rw [run_cons_pos hw]; omega
      · split at h
        · rename_i hq
          obtain ⟨_, _, rfl, rfl, s, hs⟩ := quoted_tok h
          have hl : run isStr r < r.length := by
            apply Nat.lt_of_not_le; intro hle
            rw [List.drop_of_length_le hle] at hs; cases hs
          refine ⟨by omega, by simp; omega, ?_⟩
          intro d hd
          rw [List.take_succ_cons, List.mem_cons] at hd
          rcases hd with rfl | hd
          · rw [hq]; decide
          · rw [List.take_succ_eq_append_getElem hl, List.mem_append] at hd
            rcases hd with hd | hd
            · exact str_nl d (run_all d hd)
            · rw [List.mem_singleton] at hd
              rw [List.drop_eq_getElem_cons hl] at hs
              rw [hd, (List.cons.inj hs).1]; decide
        · obtain ⟨_, _, rfl, hp, hn⟩ := marked_tok h
          refine ⟨by omega, by rcases hn with ⟨rfl, h1⟩ | rfl <;> simp at * <;> omega, punct_nl _ hp⟩
theorem first_noskip {l : List UInt8} {n : Nat} : first l ≠ .skip n := by
  unfold first
  split
  · simp
  · split
    · split <;> simp
    · split
      · simp
      · split
        · unfold quoted; split <;> simp
        · unfold marked; split
          · simp
          · split <;> simp

theorem first_noerr0 (l : List UInt8) : first l ≠ .err 0 := by
  unfold first
  split
  · simp
  · split
    · split <;> simp
    · split
      · simp
      · split
        · unfold quoted; split <;> simp
        · unfold marked; split
          · simp
          · split <;> simp

def Res.app (ts : List Tok) : Res → Res
  | .ok us => .ok (ts ++ us)
  | r => r
theorem app_cons (ts : List Tok) (t : Tok) (r : Res) : (r.cons t).app ts = r.app (ts ++ [t]) := by cases r <;> simp [Res.cons, Res.app]
theorem app_nil (r : Res) : r.app [] = r := by cases r <;> rfl

section

variable {l : List UInt8} {k : Nat}

theorem drop_cons (h : k < l.length) : l.drop k = l[k] :: l.drop (k + 1) := List.drop_eq_getElem_cons h
theorem drop_ne (h : k < l.length) : l.drop k ≠ [] := by rw [drop_cons h]; exact List.cons_ne_nil _ _
theorem adv_next (p : Nat × Nat) (n : Nat) : adv p (l.take (k + n)) = adv (adv p (l.take k)) ((l.drop k).take n) := by
  rw [← adv_append]; congr 1
  rw [← List.take_append_drop k (l.take (k + n))]
  rw [List.take_take, show min k (k + n) = k by omega, List.drop_take, show k + n - k = n by omega]
/-- One round over white space or a comment. -/
theorem lex_skipped (p : Nat × Nat) (n : Nat) (hk : k < l.length) (hn : 1 ≤ n) (h : step (l.drop k) = .skip n) : lex 0 p (l.drop k) = lex 0 (adv p ((l.drop k).take n)) (l.drop (k + n)) := by
  rw [lex_go p (drop_ne hk), h]
  simp only []
  rw [show n - 1 + 1 = n by omega, List.drop_drop]
theorem lex_token (p : Nat × Nat) (kd : Nat) (tx : List UInt8) (v n : Nat) (hk : k < l.length) (hn : 1 ≤ n) (h : step (l.drop k) = .tok kd tx v n) :
    lex 0 p (l.drop k) = (lex 0 (adv p ((l.drop k).take n)) (l.drop (k + n))).cons ⟨kd, tx, v, p.1, p.2⟩ := by
  rw [lex_go p (drop_ne hk), h]
  simp only []
  rw [show n - 1 + 1 = n by omega, List.drop_drop]
theorem lex_error (p : Nat × Nat) (e : Nat) (hk : k < l.length) (h : step (l.drop k) = .err e) : lex 0 p (l.drop k) = .no p.1 p.2 e := by
  rw [lex_go p (drop_ne hk), h]
theorem step_sp (hk : k < l.length) (h : isSp l[k] = true) : step (l.drop k) = .skip 1 := by
  rw [drop_cons hk]; simp [step, h]
theorem step_comment (hk : k < l.length) (h : l[k] = 35) : step (l.drop k) = .skip (run notNl (l.drop k)) := by
  rw [drop_cons hk, h]; rfl
theorem step_first (hk : k < l.length) (h : isSp l[k] = false) (h2 : l[k] ≠ 35) : step (l.drop k) = first (l.drop k) := by
  rw [drop_cons hk]; simp [step, h, h2]
end

end Go.Proofs.YtfmajccblnmglaaGreatDoor
