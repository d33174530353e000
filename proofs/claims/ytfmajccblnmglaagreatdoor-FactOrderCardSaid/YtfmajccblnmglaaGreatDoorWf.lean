/-
  The contracts of hwlex.wellFormed and of the reference's Plain and Text.
  Conditions: the token's text is one of the language's strings.
-/
import Derived.Test.YtfmajccblnmglaaGreatDoorTxt
import Derived.Test.YtfmajccblnmglaaGreatDoorRefMk
import Derived.Deep.QuietTactic
import Derived.BigQuiet
namespace Go.Proofs.YtfmajccblnmglaaGreatDoor

open Go.RowKit Go.Shelf

def GTok.val (t : GTok) : Value := .agg #[.int .i64 t.kind, .string ⟨t.text.toArray⟩, .int .u64 t.value, .int .i64 t.line, .int .i64 t.col]
theorem bel_q {w w1 : World} (h : Below w.heap.size w w1) (n : Nat) : Below w.heap.size w (w1.drewN n) := h.trans (bel_drewN _ _ _)
set_option maxRecDepth 50000 in
set_option maxHeartbeats 1000000 in
theorem wellFormed_any (t : GTok) (w : World) (hl : t.text.length ≤ maxLen) :
    Calls Tryz.prog 122 #[t.val] w fun e w' => e = .returned (.bool (wf t)) ∧ Below w.heap.size w w' := by
  obtain ⟨kd, tx, v, ln, cl⟩ := t
  have HW := Lib.hid fun W => isWord_any tx W hl
  have HS := Lib.hid fun W => stringLen_any tx W hl
  have HP := Lib.hid fun W => isPunct_any tx W
  have hl2 : tx.length ≤ maxLen := hl
  unfold maxLen at hl2
  have hsz : (⟨tx.toArray⟩ : ByteArray).size = tx.length := ba_size tx
  unfold GTok.val
  clear hl
  by_cases h1 : kd = 1
  · subst h1
    have HF : Hid (wf ⟨1, tx, v, ln, cl⟩ = (decide (v = 0) && wordB tx)) := Lib.hid rfl
    by_cases hv : v = 0
    · subst hv
      go_enter Tryz.func122, Tryz.ntmps122
      go_wp2_with (go_at_call 75; refine (HW.out _).mono ?_; rintro e w' ⟨rfl, rfl⟩)
      go_ret
      exact ⟨ret_bool (by rw [HF.out]; rfl), (Below.refl _ _).alloc (Nat.le_refl _) _⟩
    · have fv : (v == 0) = false := by simpa using hv
      go_enter Tryz.func122, Tryz.ntmps122
      go_wp2
      go_ret
      exact ⟨ret_bool (by rw [HF.out]; simp [hv]), (Below.refl _ _).alloc (Nat.le_refl _) _⟩
  by_cases h2 : kd = 2
  · subst h2
    have HF : Hid (wf ⟨2, tx, v, ln, cl⟩ = tx.isEmpty) := Lib.hid rfl
    cases tx with
    | nil =>
      go_enter Tryz.func122, Tryz.ntmps122
      go_wp2
      go_ret
      exact ⟨ret_bool (by rw [HF.out]; rfl), (Below.refl _ _).alloc (Nat.le_refl _) _⟩
    | cons c r =>
      go_enter Tryz.func122, Tryz.ntmps122
      go_wp2
      go_ret
      exact ⟨ret_bool (by rw [HF.out]; rfl), (Below.refl _ _).alloc (Nat.le_refl _) _⟩
  by_cases h3 : kd = 3
  · subst h3
    have HF : Hid (wf ⟨3, tx, v, ln, cl⟩ = (decide (v = 0) && tx.all isStr)) := Lib.hid rfl
    by_cases hv : v = 0
    · subst hv
      have hrl := @run_le isStr tx
      have HA : Hid (tx.all isStr = decide (run isStr tx = tx.length)) := Lib.hid (by rw [Bool.eq_iff_iff, decide_eq_true_eq, run_all_iff])
      generalize run isStr tx = m at *
      by_cases hm : m = tx.length
      · have fm : ((m : Int) == (tx.length : Int)) = true := by simp; omega
        go_enter Tryz.func122, Tryz.ntmps122
        go_wp2
        go_quiet ((go_at_call 92; exact (HS.out _).mono fun _ _ ⟨he, hw⟩ => ⟨he, _, hw.symm⟩))
        go_wp2
        go_ret
        exact ⟨ret_bool (by rw [HF.out, HA.out]; simp [hm]), bel_q ((Below.refl _ _).alloc (Nat.le_refl _) _) _⟩
      · have fm : ((m : Int) == (tx.length : Int)) = false := by simp; omega
        go_enter Tryz.func122, Tryz.ntmps122
        go_wp2
        go_quiet ((go_at_call 92; exact (HS.out _).mono fun _ _ ⟨he, hw⟩ => ⟨he, _, hw.symm⟩))
        go_wp2
        go_ret
        exact ⟨ret_bool (by rw [HF.out, HA.out]; simp [hm]), bel_q ((Below.refl _ _).alloc (Nat.le_refl _) _) _⟩
    · have fv : (v == 0) = false := by simpa using hv
      go_enter Tryz.func122, Tryz.ntmps122
      go_wp2
      go_quiet (fail)
      go_wp2
      go_ret
      exact ⟨ret_bool (by rw [HF.out]; simp [hv]), bel_q ((Below.refl _ _).alloc (Nat.le_refl _) _) _⟩
  by_cases h4 : kd = 4
  · subst h4
    have HF : Hid (wf ⟨4, tx, v, ln, cl⟩ = (decide (v = 0) && punct tx)) := Lib.hid rfl
    by_cases hv : v = 0
    · subst hv
      go_enter Tryz.func122, Tryz.ntmps122
      go_wp2_with (go_at_call 93; refine (HP.out _).mono ?_; rintro e w' ⟨rfl, rfl⟩)
      go_ret
      exact ⟨ret_bool (by rw [HF.out]; rfl), (Below.refl _ _).alloc (Nat.le_refl _) _⟩
    · have fv : (v == 0) = false := by simpa using hv
      go_enter Tryz.func122, Tryz.ntmps122
      go_wp2
      go_ret
      exact ⟨ret_bool (by rw [HF.out]; simp [hv]), (Below.refl _ _).alloc (Nat.le_refl _) _⟩
  · have HF : Hid (wf ⟨kd, tx, v, ln, cl⟩ = false) := Lib.hid (by simp [wf, h1, h2, h3, h4])
    have f1 : (kd == 1) = false := by simpa using h1
    have f2 : (kd == 2) = false := by simpa using h2
    have f3 : (kd == 3) = false := by simpa using h3
    have f4 : (kd == 4) = false := by simpa using h4
    go_enter Tryz.func122, Tryz.ntmps122
    go_wp2
    go_ret
    exact ⟨ret_bool (by rw [HF.out]), (Below.refl _ _).alloc (Nat.le_refl _) _⟩
end Go.Proofs.YtfmajccblnmglaaGreatDoor
