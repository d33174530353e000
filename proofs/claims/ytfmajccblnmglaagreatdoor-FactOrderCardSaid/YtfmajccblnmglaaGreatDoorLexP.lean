/-
  Contracts of hwlex.isPunct, hwlex.commentLen, hwlex.isWord, hwlex.IsName and of the reference's IsName.
  Conditions: a text's length is at most 2^32.
-/
import Derived.Test.YtfmajccblnmglaaGreatDoorLexJ
namespace Go.Proofs.YtfmajccblnmglaaGreatDoor

open Go.RowKit Go.Shelf

theorem punct_cases (l : List UInt8) (h : punct l = true) : l = [123] ∨ l = [125] ∨ l = [40] ∨ l = [41] ∨ l = [91] ∨ l = [93] ∨ l = [44] ∨ l = [59] ∨ l = [58] ∨ l = [61] ∨ l = [60] ∨ l = [62] ∨ l = [33] ∨ l = [43] ∨ l = [45] ∨ l = [42] ∨ l = [63] ∨ l = [46] ∨ l = [47] ∨ l = [60, 61] ∨ l = [62, 61] ∨ l = [33, 61] ∨ l = [46, 46] ∨ l = [45, 62] := by
  unfold punct at h
  rw [Bool.or_eq_true] at h
  rcases h with h | h
  · simp [marks2] at h
    rcases h with h | h | h | h | h <;> subst h <;> decide
  · split at h
    · rename_i c
      simp [marks1] at h
      rcases h with h | h | h | h | h | h | h | h | h | h | h | h | h | h | h | h | h | h | h <;> subst h <;> decide
    · simp at h
theorem punct_no (l m : List UInt8) (hm : punct m = true) (h : punct l = false) : (l == m) = false := by
  rw [beq_eq_false_iff_ne]; rintro rfl; rw [hm] at h; cases h

set_option maxHeartbeats 1000000 in
theorem isPunct_any (l : List UInt8) (w : World) : Calls Tryz.prog 93 #[.string ⟨l.toArray⟩] w fun e w' => e = .returned (.bool (punct l)) ∧ w = w' := by
  cases hp : punct l
  · have f0 := punct_no l [123] rfl hp
    have f1 := punct_no l [125] rfl hp
    have f2 := punct_no l [40] rfl hp
    have f3 := punct_no l [41] rfl hp
    have f4 := punct_no l [91] rfl hp
    have f5 := punct_no l [93] rfl hp
    have f6 := punct_no l [44] rfl hp
    have f7 := punct_no l [59] rfl hp
    have f8 := punct_no l [58] rfl hp
    have f9 := punct_no l [61] rfl hp
    have f10 := punct_no l [60] rfl hp
    have f11 := punct_no l [62] rfl hp
    have f12 := punct_no l [33] rfl hp
    have f13 := punct_no l [43] rfl hp
    have f14 := punct_no l [45] rfl hp
    have f15 := punct_no l [42] rfl hp
    have f16 := punct_no l [63] rfl hp
    have f17 := punct_no l [46] rfl hp
    have f18 := punct_no l [47] rfl hp
    have f19 := punct_no l [60, 61] rfl hp
    have f20 := punct_no l [62, 61] rfl hp
    have f21 := punct_no l [33, 61] rfl hp
    have f22 := punct_no l [46, 46] rfl hp
    have f23 := punct_no l [45, 62] rfl hp
    clear hp
    go_enter Tryz.func93, Tryz.ntmps93
    go_wp2
    go_ret
    exact ⟨rfl, rfl⟩
  · have h := punct_cases l hp
    clear hp
    rcases h with h | h | h | h | h | h | h | h | h | h | h | h | h | h | h | h | h | h | h | h | h | h | h | h
    all_goals subst h
    all_goals go_enter Tryz.func93, Tryz.ntmps93
    all_goals go_wp2
    all_goals go_ret
    all_goals exact ⟨rfl, rfl⟩

theorem index_run (l : List UInt8) : Lib.indexByte l 10 = if run notNl l < l.length then (run notNl l : Int) else -1 := by
  induction l with
  | nil => rfl
  | cons c r ih =>
    rw [Lib.indexByte]
    by_cases h : c = 10
    · subst h
      rw [run_cons_neg (by rfl)]; simp
    · rw [if_neg (by simpa using h), run_cons_pos (by simpa [notNl] using h), ih]
      have := @run_le notNl r
      by_cases h2 : run notNl r < r.length
      · rw [if_pos h2, if_neg (by simp), if_pos (by simpa using h2)]; simp
      · rw [if_neg h2, if_pos (by rfl), if_neg (by simp; omega)]
theorem commentLen_any (l : List UInt8) (w : World) : Calls Tryz.prog 66 #[.string ⟨l.toArray⟩] w fun e w' => e = .returned (.int .i64 (run notNl l : Int)) ∧ w = w' := by
  have hi := Tryz.strings_IndexByte ⟨l.toArray⟩ 10 w
  have hx : Lib.indexByte (⟨l.toArray⟩ : ByteArray).data.toList (Int.toNat 10).toUInt8 = if run notNl l < l.length then (run notNl l : Int) else -1 := index_run l
  rw [hx] at hi
  have hr := @run_le notNl l
  by_cases h : run notNl l < l.length
  · rw [if_pos h] at hi
    generalize run notNl l = n at *
    have HI := Lib.hid hi
    clear hi hx
    go_enter Tryz.func66, Tryz.ntmps66
    go_wp2_with fail
    refine HI.out.mono ?_
    rintro e w' ⟨rfl, rfl⟩
    go_wp2
    go_ret
    exact ⟨rfl, rfl⟩
  · rw [if_neg h] at hi
    have HE : Hid (run notNl l = l.length) := Lib.hid (by omega)
    have HI := Lib.hid hi
    clear hi hx h hr
    go_enter Tryz.func66, Tryz.ntmps66
    go_wp2_with fail
    refine HI.out.mono ?_
    rintro e w' ⟨rfl, rfl⟩
    go_wp2
    go_ret
    exact ⟨ret_int (by rw [HE.out]), rfl⟩
end Go.Proofs.YtfmajccblnmglaaGreatDoor
