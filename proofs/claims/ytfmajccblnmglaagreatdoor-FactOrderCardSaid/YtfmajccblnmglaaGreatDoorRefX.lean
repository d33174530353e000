/-
  The contracts of the reference's Plain and Text.
  Conditions: the token's text is one of the language's strings; its value is one of a uint64.
-/
import Derived.Test.YtfmajccblnmglaaGreatDoorWf
import Derived.RegionTactic
import Derived.Deep.RegionHeld3
namespace Go.Proofs.YtfmajccblnmglaaGreatDoor

open Go.RowKit Go.Shelf

set_option maxHeartbeats 1000000 in
theorem rPlain_any (l : List UInt8) (w : World) (hl : l.length ≤ maxLen) : Calls Tryz.prog 64 #[.string ⟨l.toArray⟩] w fun e w' => e = .returned (.bool (l.all isStr)) ∧ w = w' := by
  unfold maxLen at hl
  have hsz : (⟨l.toArray⟩ : ByteArray).size = l.length := ba_size l
  go_enter Tryz.func64, Tryz.ntmps64
  go_wp2
  go_loop [3] (fun i => ∃ k : Nat, k ≤ l.length ∧ i = .int .i64 k ∧ Hid ((l.take k).all isStr = true)) (fun i => l.length - (intOf i).toNat)
  case atStart => exact ⟨0, Nat.zero_le _, rfl, Lib.hid rfl⟩
  case round =>
    obtain ⟨k, hk, rfl, HA⟩ := hrel
    rcases Nat.lt_or_ge k l.length with hlt | hge
    · have hb := byte_bd l[k]
      have hx : (⟨l.toArray⟩ : ByteArray)[k]'(by rw [hsz]; exact hlt) = l[k] := rfl
      have HT := Lib.hid (all_take isStr l k hlt)
      have HC := Lib.hid fun W => rplain_any _ W hb.1 hb.2
      cases hd : strI ((l[k].toNat : Int))
      · have HS := Lib.hid (all_stop isStr l k hlt hd)
        rw [hd] at HC
        clear hd
        go_wp2_with (go_at_call 84; refine (HC.out _).mono ?_; rintro e w' ⟨rfl, rfl⟩)
        go_ret
        exact ⟨ret_bool (by rw [HS.out]), rfl⟩
      · have HS : Hid ((l.take (k + 1)).all isStr = true) := Lib.hid (by rw [HT.out, HA.out]; exact hd)
        rw [hd] at HC
        clear hd
        go_wp2_with (go_at_call 84; refine (HC.out _).mono ?_; rintro e w' ⟨rfl, rfl⟩)
        go_round
        case rel => exact ⟨k + 1, by omega, by go_num, HS⟩
        case measure => simp [intOf]; omega
    · have HS : Hid (l.all isStr = true) := Lib.hid (by have := HA.out; rwa [List.take_of_length_le hge] at this)
      go_wp2
      go_ret
      exact ⟨ret_bool (by rw [HS.out]), rfl⟩

theorem mark_self (l : List UInt8) (hne : l ≠ []) : (markOf l == l) = punct l := by
  rw [Bool.eq_iff_iff, beq_iff_eq]
  constructor
  · intro h
    unfold markOf at h
    split at h
    · rename_i h2; rw [← h]; exact h2.2
    · split at h
      · rename_i h2; rw [← h]; exact h2
      · exact absurd h.symm hne
  · intro h
    have hm := punct_mem l h
    have hlen : l.length = 1 ∨ l.length = 2 := by
      have : ∀ x ∈ marks2 ++ marks1.map (fun c => [c]), x.length = 1 ∨ x.length = 2 := by decide
      exact this l hm
    unfold markOf
    rcases hlen with h1 | h1
    · rw [if_neg (by omega), List.take_of_length_le (by omega), if_pos h]
    · rw [List.take_of_length_le (by omega), if_pos ⟨by omega, h⟩]

def TextEnd (t : GTok) (w : World) (e : Ending) (w' : World) : Prop := ∃ x : List UInt8, e = .returned (.tuple #[.string ⟨x.toArray⟩, .bool (wf t)]) ∧ (wf t = true → x = txt t) ∧ Below w.heap.size w w'
theorem quot_eq (l : List UInt8) : (⟨#[34]⟩ ++ ⟨l.toArray⟩ ++ ⟨#[34]⟩ : ByteArray) = ⟨(34 :: (l ++ [34])).toArray⟩ := by
  apply ByteArray.ext
  simp [ByteArray.data_append]
end Go.Proofs.YtfmajccblnmglaaGreatDoor
