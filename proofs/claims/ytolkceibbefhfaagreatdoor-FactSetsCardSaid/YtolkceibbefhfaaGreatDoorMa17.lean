/-
  The contracts of the reference's marks, mark and end.
  Conditions: the text has at most 65536 bytes, the offset lies in it.
  The contracts of hwlex.wellFormed and of the reference's Plain and Text.
  Conditions: the token's text is one of the language's strings.
-/
import Derived.Test.YtolkceibbefhfaaGreatDoorMa16
import Derived.Test.YtolkceibbefhfaaGreatDoorMa8
import Derived.Test.YtolkceibbefhfaaGreatDoorMa12
import Derived.Deep.QuietTactic
import Derived.BigQuiet
namespace Go.Proofs.YtolkceibbefhfaaGreatDoor

open Go.RowKit Go.Shelf

def marksL : List (List UInt8) := marks2 ++ marks1.map fun c => [c]
/-- The mark at the beginning of a text. -/
def markOf (d : List UInt8) : List UInt8 := if 1 < d.length ∧ punct (d.take 2) = true then d.take 2 else if punct (d.take 1) = true then d.take 1 else []
def isMark (k : Nat) (d : List UInt8) : Bool := (marksL.getD k []).isPrefixOf d
theorem marksL_len : marksL.length = 24 := rfl
theorem mark_hit : ∀ k : Fin 24, (k.val < 5 → (marksL.getD k.val []).length = 2 ∧ punct (marksL.getD k.val []) = true) ∧ (5 ≤ k.val → (marksL.getD k.val []).length = 1 ∧ punct (marksL.getD k.val []) = true) := by decide
theorem pref_take {m d : List UInt8} (h : m.isPrefixOf d = true) : d.take m.length = m ∧ m.length ≤ d.length := by
  obtain ⟨t, ht⟩ := List.isPrefixOf_iff_prefix.1 h
  subst ht; simp
theorem take_pref {m d : List UInt8} (h : d.take m.length = m) : m.isPrefixOf d = true := List.isPrefixOf_iff_prefix.2 (by rw [← h]; exact List.take_prefix _ _)
theorem no_two (d : List UInt8) (h : ∀ k, k < 5 → isMark k d = false) : ¬ (1 < d.length ∧ punct (d.take 2) = true) := by
  rintro ⟨hl, hp⟩
  have hl2 : (d.take 2).length = 2 := by rw [List.length_take]; omega
  unfold punct at hp
  rw [Bool.or_eq_true] at hp
  rcases hp with hp | hp
  · have : ∃ k, k < 5 ∧ d.take 2 = marksL.getD k [] := by
      simp [marks2] at hp
      rcases hp with hp | hp | hp | hp | hp
      · exact ⟨0, by omega, hp⟩
      · exact ⟨1, by omega, hp⟩
      · exact ⟨2, by omega, hp⟩
      · exact ⟨3, by omega, hp⟩
      · exact ⟨4, by omega, hp⟩
    obtain ⟨k, hk, e⟩ := this
    have hk2 := (mark_hit ⟨k, by omega⟩).1 hk
    have : isMark k d = true := take_pref (by rw [hk2.1]; exact e)
    rw [h k hk] at this; cases this
  · split at hp
    · rename_i heq; rw [heq] at hl2; simp at hl2
    · cases hp
theorem markOf_hit (d : List UInt8) (k : Nat) (hk : k < 24) (hno : ∀ j, j < k → isMark j d = false) (h : isMark k d = true) : markOf d = marksL.getD k [] := by
  obtain ⟨h1, h2⟩ := pref_take h
  unfold markOf
  rcases Nat.lt_or_ge k 5 with h5 | h5
  · obtain ⟨e1, e2⟩ := (mark_hit ⟨k, hk⟩).1 h5
    simp only at e1 e2
    rw [e1] at h1 h2
    rw [if_pos ⟨by omega, by rw [h1]; exact e2⟩, h1]
  · obtain ⟨e1, e2⟩ := (mark_hit ⟨k, hk⟩).2 h5
    simp only at e1 e2
    rw [e1] at h1 h2
    rw [if_neg (no_two d fun j hj => hno j (by omega)), if_pos (by rw [h1]; exact e2), h1]
theorem markOf_none (d : List UInt8) (hno : ∀ j, j < 24 → isMark j d = false) : markOf d = [] := by
  unfold markOf
  rw [if_neg (no_two d fun j hj => hno j (by omega)), if_neg]
  intro hp
  unfold punct at hp
  rw [Bool.or_eq_true] at hp
  rcases hp with hp | hp
  · simp [marks2] at hp
    have hle : (d.take 1).length ≤ 1 := by rw [List.length_take]; omega
    rcases hp with hp | hp | hp | hp | hp <;> (rw [hp] at hle; simp at hle)
  · split at hp
    · rename_i c heq
      have : ∃ k, 5 ≤ k ∧ k < 24 ∧ [c] = marksL.getD k [] := by
        simp [marks1] at hp
        rcases hp with rfl | rfl | rfl | rfl | rfl | rfl | rfl | rfl | rfl | rfl | rfl | rfl | rfl | rfl | rfl | rfl | rfl | rfl | rfl
        · exact ⟨5, by omega, by omega, rfl⟩
        · exact ⟨6, by omega, by omega, rfl⟩
        · exact ⟨7, by omega, by omega, rfl⟩
        · exact ⟨8, by omega, by omega, rfl⟩
        · exact ⟨9, by omega, by omega, rfl⟩
        · exact ⟨10, by omega, by omega, rfl⟩
        · exact ⟨11, by omega, by omega, rfl⟩
        · exact ⟨12, by omega, by omega, rfl⟩
        · exact ⟨13, by omega, by omega, rfl⟩
        · exact ⟨14, by omega, by omega, rfl⟩
        · exact ⟨15, by omega, by omega, rfl⟩
        · exact ⟨16, by omega, by omega, rfl⟩
        · exact ⟨17, by omega, by omega, rfl⟩
        · exact ⟨18, by omega, by omega, rfl⟩
        · exact ⟨19, by omega, by omega, rfl⟩
        · exact ⟨20, by omega, by omega, rfl⟩
        · exact ⟨21, by omega, by omega, rfl⟩
        · exact ⟨22, by omega, by omega, rfl⟩
        · exact ⟨23, by omega, by omega, rfl⟩
      obtain ⟨k, h5, h24, e⟩ := this
      have hk2 := (mark_hit ⟨k, h24⟩).2 h5
      have : isMark k d = true := take_pref (by rw [hk2.1, heq]; exact e)
      rw [hno k h24] at this; cases this
    · cases hp

theorem bel_drewN (B : Nat) (w : World) (n : Nat) : Below B w (w.drewN n) := by
  induction n with
  | zero => exact Below.refl _ _
  | succ n ih => exact ih.drew
def marksC : Array Value := (marksL.map fun m => Value.string ⟨m.toArray⟩).toArray
theorem marks_cell (w : World) (k : Nat) (hk : k < 24) : (w.alloc (.cells marksC 9)).cell? ⟨w.heap.size, k, none⟩ = some (.string ⟨(marksL.getD k []).toArray⟩) := by
  have e : (w.alloc (.cells marksC 9)).cell? ⟨w.heap.size, k, none⟩ = marksC[k]? := by
    unfold World.cell?
    rw [show (w.alloc (.cells marksC 9)).heap[(⟨w.heap.size, k, none⟩ : Addr).block]? = some (.cells marksC 9 (0, 0)) from heap_alloc_new w _]
    rfl
  rw [e]
  have : ∀ k : Fin 24, marksC[k.val]? = some (.string ⟨(marksL.getD k.val []).toArray⟩) := by
    intro k
    unfold marksC
    rw [List.getElem?_toArray, List.getElem?_map, List.getD_eq_getElem?_getD]
    have : k.val < marksL.length := by rw [marksL_len]; exact k.isLt
    rw [List.getElem?_eq_getElem this]; rfl
  exact this ⟨k, hk⟩

end Go.Proofs.YtolkceibbefhfaaGreatDoor


namespace Go.Proofs.YtolkceibbefhfaaGreatDoor

open Go.RowKit Go.Shelf

def GTok.val (t : GTok) : Value := .agg #[.int .i64 t.kind, .string ⟨t.text.toArray⟩, .int .u64 t.value, .int .i64 t.line, .int .i64 t.col]
theorem bel_q {w w1 : World} (h : Below w.heap.size w w1) (n : Nat) : Below w.heap.size w (w1.drewN n) := h.trans (bel_drewN _ _ _)
set_option maxRecDepth 50000 in
set_option maxHeartbeats 1000000 in
theorem wellFormed_any (t : GTok) (w : World) (hl : t.text.length ≤ maxLen) :
    Calls Tryz.prog 122 #[t.val] w fun e w' => e = .returned (.bool (wf t)) ∧ Below w.heap.size w w' := by
  obtain ⟨kd, tx, v, ln, cl⟩ := t
  have HW := Lib.hid fun W => isWord_any tx W hl
  have HS := Lib.hid fun W => stringLen_any tx W hl
  have HP := Lib.hid fun W => isPunct_any tx W
  have hl2 : tx.length ≤ maxLen := hl
  unfold maxLen at hl2
  have hsz : (⟨tx.toArray⟩ : ByteArray).size = tx.length := ba_size tx
  unfold GTok.val
  clear hl
  by_cases h1 : kd = 1
  · subst h1
    have HF : Hid (wf ⟨1, tx, v, ln, cl⟩ = (decide (v = 0) && wordB tx)) := Lib.hid rfl
    by_cases hv : v = 0
    · subst hv
      go_enter Tryz.func122, Tryz.ntmps122
      go_wp2_with (go_at_call 75; refine (HW.out _).mono ?_; rintro e w' ⟨rfl, rfl⟩)
      go_ret
      exact ⟨ret_bool (by rw [HF.out]; rfl), (Below.refl _ _).alloc (Nat.le_refl _) _⟩
    · have fv : (v == 0) = false := by simpa using hv
      go_enter Tryz.func122, Tryz.ntmps122
      go_wp2
      go_ret
      exact ⟨ret_bool (by rw [HF.out]; simp [hv]), (Below.refl _ _).alloc (Nat.le_refl _) _⟩
  by_cases h2 : kd = 2
  · subst h2
    have HF : Hid (wf ⟨2, tx, v, ln, cl⟩ = tx.isEmpty) := Lib.hid rfl
    cases tx with
    | nil =>
      go_enter Tryz.func122, Tryz.ntmps122
      go_wp2
      go_ret
      exact ⟨ret_bool (by rw [HF.out]; rfl), (Below.refl _ _).alloc (Nat.le_refl _) _⟩
    | cons c r =>
      go_enter Tryz.func122, Tryz.ntmps122
      go_wp2
      go_ret
      exact ⟨ret_bool (by rw [HF.out]; rfl), (Below.refl _ _).alloc (Nat.le_refl _) _⟩
  by_cases h3 : kd = 3
  · subst h3
    have HF : Hid (wf ⟨3, tx, v, ln, cl⟩ = (decide (v = 0) && tx.all isStr)) := Lib.hid rfl
    by_cases hv : v = 0
    · subst hv
      have hrl := @run_le isStr tx
      have HA : Hid (tx.all isStr = decide (run isStr tx = tx.length)) := Lib.hid (by rw [Bool.eq_iff_iff, decide_eq_true_eq, run_all_iff])
      generalize run isStr tx = m at *
      by_cases hm : m = tx.length
      · have fm : ((m : Int) == (tx.length : Int)) = true := by simp; omega
        go_enter Tryz.func122, Tryz.ntmps122
        go_wp2
        go_quiet ((go_at_call 92; exact (HS.out _).mono fun _ _ ⟨he, hw⟩ => ⟨he, _, hw.symm⟩))
        go_wp2
        go_ret
        exact ⟨ret_bool (by rw [HF.out, HA.out]; simp [hm]), bel_q ((Below.refl _ _).alloc (Nat.le_refl _) _) _⟩
      · have fm : ((m : Int) == (tx.length : Int)) = false := by simp; omega
        go_enter Tryz.func122, Tryz.ntmps122
        go_wp2
        go_quiet ((go_at_call 92; exact (HS.out _).mono fun _ _ ⟨he, hw⟩ => ⟨he, _, hw.symm⟩))
        go_wp2
        go_ret
        exact ⟨ret_bool (by rw [HF.out, HA.out]; simp [hm]), bel_q ((Below.refl _ _).alloc (Nat.le_refl _) _) _⟩
    · have fv : (v == 0) = false := by simpa using hv
      go_enter Tryz.func122, Tryz.ntmps122
      go_wp2
      go_quiet (fail)
      go_wp2
      go_ret
      exact ⟨ret_bool (by rw [HF.out]; simp [hv]), bel_q ((Below.refl _ _).alloc (Nat.le_refl _) _) _⟩
  by_cases h4 : kd = 4
  · subst h4
    have HF : Hid (wf ⟨4, tx, v, ln, cl⟩ = (decide (v = 0) && punct tx)) := Lib.hid rfl
    by_cases hv : v = 0
    · subst hv
      go_enter Tryz.func122, Tryz.ntmps122
      go_wp2_with (go_at_call 93; refine (HP.out _).mono ?_; rintro e w' ⟨rfl, rfl⟩)
      go_ret
      exact ⟨ret_bool (by rw [HF.out]; rfl), (Below.refl _ _).alloc (Nat.le_refl _) _⟩
    · have fv : (v == 0) = false := by simpa using hv
      go_enter Tryz.func122, Tryz.ntmps122
      go_wp2
      go_ret
      exact ⟨ret_bool (by rw [HF.out]; simp [hv]), (Below.refl _ _).alloc (Nat.le_refl _) _⟩
  · have HF : Hid (wf ⟨kd, tx, v, ln, cl⟩ = false) := Lib.hid (by simp [wf, h1, h2, h3, h4])
    have f1 : (kd == 1) = false := by simpa using h1
    have f2 : (kd == 2) = false := by simpa using h2
    have f3 : (kd == 3) = false := by simpa using h3
    have f4 : (kd == 4) = false := by simpa using h4
    go_enter Tryz.func122, Tryz.ntmps122
    go_wp2
    go_ret
    exact ⟨ret_bool (by rw [HF.out]), (Below.refl _ _).alloc (Nat.le_refl _) _⟩
end Go.Proofs.YtolkceibbefhfaaGreatDoor
