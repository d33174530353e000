/-
  Texts of tokens with white space and comments between them are scanned as these tokens. Plain mathematics.
  Conditions: a number's value is less than 2^64.
-/
import Derived.Test.YthpcfidcpaikgaaDoorTxt
namespace Go.Proofs.YthpcfidcpaikgaaDoor
open Go.RowKit Go.Shelf

def gapsL : List (List UInt8) := [[32], [10], [9, 13, 10], [32, 35, 32, 97, 32, 99, 111, 109, 109, 101, 110, 116, 32, 34, 32, 123, 32, 10], [35, 10, 35, 10], [32, 32, 9]]
def gapL (k : Nat) : List UInt8 := gapsL.getD k []
theorem lex_s (b : UInt8) (hb : isSp b = true) (m : List UInt8) (p : Nat × Nat) : lex 0 p (b :: m) = lex 0 (adv p [b]) m := by
  have h : step (b :: m) = .skip 1 := by simp [step, hb]
  rw [lex_sk p (by simp) h]; rfl
theorem lex_c (c : List UInt8) (hc : c.all notNl = true) (m : List UInt8) (p : Nat × Nat) : ∃ q, lex 0 p (35 :: (c ++ 10 :: m)) = lex 0 q m := by
  have hr : run notNl ((35 :: c) ++ 10 :: m) = (35 :: c).length := run_sep notNl (35 :: c) (10 :: m) (by rw [List.all_cons, hc]; rfl) (.inr ⟨10, m, rfl, by decide⟩)
  have h : step ((35 :: c) ++ 10 :: m) = .skip (run notNl ((35 :: c) ++ 10 :: m)) := rfl
  rw [hr] at h
  have e : lex 0 p ((35 :: c) ++ 10 :: m) = lex 0 (adv (adv p (((35 :: c) ++ 10 :: m).take (35 :: c).length)) [10]) m := by
    rw [lex_sk p (by simp) h, List.drop_left, lex_s 10 (by decide)]
  exact ⟨_, e⟩
theorem lex_end (p : Nat × Nat) : lex 0 p [35, 32, 116, 104, 101, 32, 101, 110, 100] = .ok [] := by
  have h : step [35, 32, 116, 104, 101, 32, 101, 110, 100] = .skip 9 := by decide
  rw [lex_sk p (by simp) h]; rfl
theorem lex_gap (k : Nat) (hk : k < 6) (m : List UInt8) (p : Nat × Nat) : ∃ q, lex 0 p (gapL k ++ m) = lex 0 q m := by
  obtain rfl | rfl | rfl | rfl | rfl | rfl : k = 0 ∨ k = 1 ∨ k = 2 ∨ k = 3 ∨ k = 4 ∨ k = 5 := by omega
  · exact ⟨_, lex_s 32 (by decide) m p⟩
  · exact ⟨_, lex_s 10 (by decide) m p⟩
  · exact ⟨_, (lex_s 9 (by decide) _ p).trans ((lex_s 13 (by decide) _ _).trans (lex_s 10 (by decide) m _))⟩
  · obtain ⟨q, hq⟩ := lex_c [32, 97, 32, 99, 111, 109, 109, 101, 110, 116, 32, 34, 32, 123, 32] (by decide) m (adv p [32])
    exact ⟨q, (lex_s 32 (by decide) _ p).trans hq⟩
  · obtain ⟨q, hq⟩ := lex_c [] rfl (35 :: ([] ++ 10 :: m)) p
    obtain ⟨q2, hq2⟩ := lex_c [] rfl m q
    exact ⟨q2, hq.trans hq2⟩
  · exact ⟨_, (lex_s 32 (by decide) _ p).trans ((lex_s 32 (by decide) _ _).trans (lex_s 9 (by decide) m _))⟩
theorem sep_gap (k : Nat) (hk : k < 6) (m : List UInt8) : Sep (gapL k ++ m) := by
  obtain rfl | rfl | rfl | rfl | rfl | rfl : k = 0 ∨ k = 1 ∨ k = 2 ∨ k = 3 ∨ k = 4 ∨ k = 5 := by omega
  all_goals exact .inr ⟨_, _, rfl, by decide, by decide, by decide, by decide⟩
theorem gap_len (k : Nat) (hk : k < 6) : (gapL k).length ≤ 18 := by
  obtain rfl | rfl | rfl | rfl | rfl | rfl : k = 0 ∨ k = 1 ∨ k = 2 ∨ k = 3 ∨ k = 4 ∨ k = 5 := by omega
  all_goals decide
/-- The text T is scanned as the tokens ts, whatever follows. -/
def SpInv (T : List UInt8) (ts : List GTok) : Prop := ∀ (m : List UInt8) (p : Nat × Nat), ∃ q us, lex 0 p (T ++ m) = (lex 0 q m).app us ∧ bareEq us ts
theorem SpInv.start (k : Nat) (hk : k < 6) : SpInv (gapL k) [] := fun m p => by
  obtain ⟨q, hq⟩ := lex_gap k hk m p
  exact ⟨q, [], by rw [hq, app_nil], rfl⟩
theorem SpInv.go {T : List UInt8} {ts : List GTok} (h : SpInv T ts) (t : GTok) (hw : wf t = true) (hv0 : 0 ≤ t.value) (hv : t.value < 18446744073709551616) (k : Nat) (hk : k < 6) : SpInv (T ++ txt t ++ gapL k) (ts ++ [t]) := fun m p => by
  obtain ⟨q, us, hl, hb⟩ := h (txt t ++ (gapL k ++ m)) p
  obtain ⟨q2, u, hu, hl2⟩ := lex_txt t hw hv0 hv (gapL k ++ m) (sep_gap k hk m) q
  obtain ⟨q3, hl3⟩ := lex_gap k hk m q2
  refine ⟨q3, us ++ [u], ?_, ?_⟩
  · rw [List.append_assoc, List.append_assoc, hl, hl2, hl3, app_cons]
  · unfold bareEq at hb ⊢
    rw [List.map_append, List.map_append, hb]
    simp [hu]
theorem SpInv.fin {T : List UInt8} {ts : List GTok} (h : SpInv T ts) (p : Nat × Nat) : ∃ us, lex 0 p (T ++ [35, 32, 116, 104, 101, 32, 101, 110, 100]) = .ok us ∧ bareEq us ts := by
  obtain ⟨q, us, hl, hb⟩ := h [35, 32, 116, 104, 101, 32, 101, 110, 100] p
  exact ⟨us, by rw [hl, lex_end]; simp [Res.app], hb⟩
end Go.Proofs.YthpcfidcpaikgaaDoor
