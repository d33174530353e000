/-
  The contracts of the reference's Plain and Text.
  Conditions: the token's text is one of the language's strings; its value is one of a uint64.
-/
import Derived.Test.YthpcfidcpaikgaaDoorWf
import Derived.RegionTactic
import Derived.Deep.RegionHeld3
namespace Go.Proofs.YthpcfidcpaikgaaDoor
open Go.RowKit Go.Shelf

set_option maxHeartbeats 1000000 in
theorem rPlain_any (l : List UInt8) (w : World) (hl : l.length ≤ maxLen) : Calls Tryd.prog 33 #[.string ⟨l.toArray⟩] w fun e w' => e = .returned (.bool (l.all isStr)) ∧ w = w' := by
  unfold maxLen at hl
  have hsz : (⟨l.toArray⟩ : ByteArray).size = l.length := ba_size l
  go_enter Tryd.func33, Tryd.ntmps33
  go_wp2
  go_loop [3] (fun i => ∃ k : Nat, k ≤ l.length ∧ i = .int .i64 k ∧ Hid ((l.take k).all isStr = true)) (fun i => l.length - (intOf i).toNat)
  case atStart => exact ⟨0, Nat.zero_le _, rfl, Lib.hid rfl⟩
  case round =>
    obtain ⟨k, hk, rfl, HA⟩ := hrel
    rcases Nat.lt_or_ge k l.length with hlt | hge
    · have hb := byte_bd l[k]
      have hx : (⟨l.toArray⟩ : ByteArray)[k]'(by rw [hsz]; exact hlt) = l[k] := rfl
      have HT := Lib.hid (all_take isStr l k hlt)
      have HC := Lib.hid fun W => rplain_any _ W hb.1 hb.2
      cases hd : strI ((l[k].toNat : Int))
      · have HS := Lib.hid (all_stop isStr l k hlt hd)
        rw [hd] at HC
        clear hd
        go_wp2_with (go_at_call 42; refine (HC.out _).mono ?_; rintro e w' ⟨rfl, rfl⟩)
        go_ret
        exact ⟨ret_bool (by rw [HS.out]), rfl⟩
      · have HS : Hid ((l.take (k + 1)).all isStr = true) := Lib.hid (by rw [HT.out, HA.out]; exact hd)
        rw [hd] at HC
        clear hd
        go_wp2_with (go_at_call 42; refine (HC.out _).mono ?_; rintro e w' ⟨rfl, rfl⟩)
        go_round
        case rel => exact ⟨k + 1, by omega, by go_num, HS⟩
        case measure => simp [intOf]; omega
    · have HS : Hid (l.all isStr = true) := Lib.hid (by have := HA.out; rwa [List.take_of_length_le hge] at this)
      go_wp2
      go_ret
      exact ⟨ret_bool (by rw [HS.out]), rfl⟩

theorem mark_self (l : List UInt8) (hne : l ≠ []) : (markOf l == l) = punct l := by
  rw [Bool.eq_iff_iff, beq_iff_eq]
  constructor
  · intro h
    unfold markOf at h
    split at h
    · rename_i h2; rw [← h]; exact h2.2
    · split at h
      · rename_i h2; rw [← h]; exact h2
      · exact absurd h.symm hne
  · intro h
    have hm := punct_mem l h
    have hlen : l.length = 1 ∨ l.length = 2 := by
      have : ∀ x ∈ marks2 ++ marks1.map (fun c => [c]), x.length = 1 ∨ x.length = 2 := by decide
      exact this l hm
    unfold markOf
    rcases hlen with h1 | h1
    · rw [if_neg (by omega), List.take_of_length_le (by omega), if_pos h]
    · rw [List.take_of_length_le (by omega), if_pos ⟨by omega, h⟩]

def TextEnd (t : GTok) (w : World) (e : Ending) (w' : World) : Prop := ∃ x : List UInt8, e = .returned (.tuple #[.string ⟨x.toArray⟩, .bool (wf t)]) ∧ (wf t = true → x = txt t) ∧ Below w.heap.size w w'
theorem quot_eq (l : List UInt8) : (⟨#[34]⟩ ++ ⟨l.toArray⟩ ++ ⟨#[34]⟩ : ByteArray) = ⟨(34 :: (l ++ [34])).toArray⟩ := by
  apply ByteArray.ext
  simp [ByteArray.data_append]
set_option maxRecDepth 50000 in
set_option maxHeartbeats 1000000 in
theorem text_any (t : GTok) (w : World) (hlm0 : t.text.length ≤ 140737488355328) (hv0 : 0 ≤ t.value) (hv1 : t.value < 18446744073709551616) :
    Calls Tryd.prog 17 #[t.val] w (TextEnd t w) := by
  obtain ⟨kd, tx, v, ln, cl⟩ := t
  have hl2 : tx.length ≤ 140737488355328 := hlm0
  have hlm : tx.length ≤ maxLen := by unfold maxLen; omega
  obtain ⟨x, rfl⟩ : ∃ x : Nat, v = (x : Int) := ⟨v.toNat, by simp at hv0; omega⟩
  have HW := Lib.hid fun W => rWord_any tx W hlm
  have HD := Lib.hid fun W => decimal_any x (by simp at hv1; omega) W
  have HP := Lib.hid fun W => rPlain_any tx W hlm
  have HM := Lib.hid fun W => mark_any tx 0 (Nat.zero_le _) (by omega) W
  have hsz : (⟨tx.toArray⟩ : ByteArray).size = tx.length := ba_size tx
  unfold GTok.val
  clear hlm0 hlm hv0 hv1
  have ha : Below w.heap.size w (w.alloc (.cells #[.int .i64 kd, .string ⟨tx.toArray⟩, .int .u64 x, .int .i64 ln, .int .i64 cl] 33)) := (Below.refl _ _).alloc (Nat.le_refl _) _
  have HA := Lib.hid ha
  clear ha
  by_cases h2 : kd = 2
  · subst h2
    have HF : Hid (wf ⟨2, tx, x, ln, cl⟩ = tx.isEmpty ∧ txt ⟨2, tx, x, ln, cl⟩ = decL x) := Lib.hid ⟨rfl, rfl⟩
    cases tx with
    | nil =>
      go_enter Tryd.func17, Tryd.ntmps17
      go_wp2
      go_quiet ((go_at_call 32; exact (HD.out _).mono fun _ _ ⟨he, hw⟩ => ⟨he, _, hw.symm⟩))
      go_wp2
      go_ret2
      exact ⟨decL x, ret_two rfl (by rw [HF.out.1]; rfl), fun _ => HF.out.2.symm, bel_q HA.out _⟩
    | cons c r =>
      go_enter Tryd.func17, Tryd.ntmps17
      go_wp2
      go_quiet ((go_at_call 32; exact (HD.out _).mono fun _ _ ⟨he, hw⟩ => ⟨he, _, hw.symm⟩))
      go_wp2
      go_ret2
      exact ⟨decL x, ret_two rfl (by rw [HF.out.1]; rfl), fun _ => HF.out.2.symm, bel_q HA.out _⟩
  have n2 : (kd != 2) = true := by simpa using h2
  have f2 : (kd == 2) = false := by simpa using h2
  by_cases hx : x = 0
  case neg =>
    have nx : ((x : Int) != 0) = true := by simp; omega
    have HF : Hid (wf ⟨kd, tx, x, ln, cl⟩ = false) := Lib.hid (by
      have : ¬ ((x : Int) = 0) := by omega
      unfold wf; (repeat' split) <;> simp_all)
    go_enter Tryd.func17, Tryd.ntmps17
    go_wp2
    go_ret2
    exact ⟨[], ret_two rfl (by rw [HF.out]; rfl), fun h => (by rw [HF.out] at h; cases h), HA.out⟩
  subst hx
  have nx : (((0 : Nat) : Int) != 0) = false := rfl
  by_cases h1 : kd = 1
  · subst h1
    have HF : Hid (wf ⟨1, tx, ((0 : Nat) : Int), ln, cl⟩ = wordB tx ∧ txt ⟨1, tx, ((0 : Nat) : Int), ln, cl⟩ = tx) := Lib.hid ⟨by simp [wf], rfl⟩
    go_enter Tryd.func17, Tryd.ntmps17
    go_wp2
    go_quiet ((go_at_call 25; exact (HW.out _).mono fun _ _ ⟨he, hw⟩ => ⟨he, _, hw.symm⟩))
    go_wp2
    go_ret2
    exact ⟨tx, ret_two rfl (by rw [HF.out.1]; rfl), fun _ => HF.out.2.symm, bel_q HA.out _⟩
  have f1 : (kd == 1) = false := by simpa using h1
  by_cases h3 : kd = 3
  · subst h3
    have HF : Hid (wf ⟨3, tx, ((0 : Nat) : Int), ln, cl⟩ = tx.all isStr ∧ txt ⟨3, tx, ((0 : Nat) : Int), ln, cl⟩ = 34 :: (tx ++ [34])) := Lib.hid ⟨by simp [wf], rfl⟩
    have HQ := Lib.hid (quot_eq tx)
    go_enter Tryd.func17, Tryd.ntmps17
    go_wp2
    go_quiet ((go_at_call 33; exact (HP.out _).mono fun _ _ ⟨he, hw⟩ => ⟨he, _, hw.symm⟩))
    go_wp2
    go_ret2
    exact ⟨34 :: (tx ++ [34]), ret_two (by rw [← HQ.out]; rfl) (by rw [HF.out.1]; rfl), fun _ => HF.out.2.symm, bel_q HA.out _⟩
  have f3 : (kd == 3) = false := by simpa using h3
  by_cases h4 : kd = 4
  · subst h4
    have HF : Hid (wf ⟨4, tx, ((0 : Nat) : Int), ln, cl⟩ = punct tx ∧ txt ⟨4, tx, ((0 : Nat) : Int), ln, cl⟩ = tx) := Lib.hid ⟨by simp [wf], rfl⟩
    cases tx with
    | nil =>
      go_enter Tryd.func17, Tryd.ntmps17
      go_wp2
      go_quiet (fail)
      go_wp2
      go_ret2
      exact ⟨[], ret_two rfl (by rw [HF.out.1]; rfl), fun _ => HF.out.2.symm, bel_q HA.out _⟩
    | cons c r =>
      have HMS := Lib.hid (mark_self (c :: r) (by simp))
      rw [List.drop_zero] at HM
      generalize markOf (c :: r) = mk at *
      go_enter Tryd.func17, Tryd.ntmps17
      go_wp2
      cases hmk : (mk == c :: r)
      all_goals
        have HMK := Lib.hid hmk
        have hc0 : (w.alloc (.cells #[.int .i64 4, .string ⟨(c :: r).toArray⟩, .int .u64 ((0 : Nat) : Int), .int .i64 ln, .int .i64 cl] 33)).cell? ⟨w.heap.size, 1, none⟩ = some (.string ⟨(c :: r).toArray⟩) := by simp
        go_region_held3 (fun W => W.cell? ⟨w.heap.size, 1, none⟩ = some (.string ⟨(c :: r).toArray⟩))
          (first | assumption | go_keep)
          (first | (go_at_call 34; refine (HM.out _).mono ?_; rintro e w1 ⟨rfl, hb1⟩; have hc1 : w1.cell? ⟨w.heap.size, 1, none⟩ = some (.string ⟨(c :: r).toArray⟩) := (hb1.cell (p := ⟨w.heap.size, 1, none⟩) (by simp)).trans (by simp)))
        go_wp2
        go_ret2
        exact ⟨c :: r, ret_two rfl (by rw [HF.out.1, ← HMS.out, HMK.out]; rfl), fun _ => HF.out.2.symm, by first | exact HA.out.drew.trans (hb1.mono (by simp)) | exact HA.out.trans (hb1.mono (by simp))⟩
  · have f4 : (kd == 4) = false := by simpa using h4
    have HF : Hid (wf ⟨kd, tx, ((0 : Nat) : Int), ln, cl⟩ = false) := Lib.hid (by simp [wf, h1, h2, h3, h4])
    go_enter Tryd.func17, Tryd.ntmps17
    go_wp2
    go_ret2
    exact ⟨[], ret_two rfl (by rw [HF.out]; rfl), fun h => (by rw [HF.out] at h; cases h), HA.out⟩
end Go.Proofs.YthpcfidcpaikgaaDoor
