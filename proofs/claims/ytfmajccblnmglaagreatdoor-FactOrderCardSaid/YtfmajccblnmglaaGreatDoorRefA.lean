/-
  Contracts of hwlex.isWord, hwlex.IsName, and of the reference's hex, Word and IsName.
  Conditions: a text's length is at most maxLen.
-/
import Derived.Test.YtfmajccblnmglaaGreatDoorLexP
namespace Go.Proofs.YtfmajccblnmglaaGreatDoor

open Go.RowKit Go.Shelf

def wordB (l : List UInt8) : Bool := match l with | [] => false | c :: r => isLet c && r.all isWB
def nameB (l : List UInt8) : Bool := decide (l.length ≤ 24) && wordB l
theorem let_dig (c : UInt8) (h : isDig c = true) : isLet c = false := by
  simp [isDig, digI] at h
  simp [isLet, ltrI]; omega
theorem wb_eq (c : UInt8) : isWB c = (isLet c || isDig c) := rfl
theorem run_all_iff (p : UInt8 → Bool) (l : List UInt8) : (run p l = l.length) ↔ l.all p = true := by
  induction l with
  | nil => simp [run]
  | cons c r ih =>
    cases hc : p c with
    | true => rw [run_cons_pos hc]; simp [hc, ← ih]
    | false => rw [run_cons_neg hc]; simp [hc]
theorem wordB_eq (c : UInt8) (r : List UInt8) : wordB (c :: r) = (!digI (c.toNat : Int) && decide (run isWB (c :: r) = (c :: r).length)) := by
  rw [Bool.eq_iff_iff]
  have hd : digI (c.toNat : Int) = isDig c := rfl
  rw [hd]
  simp only [wordB, Bool.and_eq_true, Bool.not_eq_true', decide_eq_true_eq, run_all_iff, List.all_cons, wb_eq c, Bool.or_eq_true]
  constructor
  · rintro ⟨h1, h2⟩
    refine ⟨?_, .inl h1, h2⟩
    cases hd : isDig c with
    | false => rfl
    | true => rw [let_dig c hd] at h1; cases h1
  · rintro ⟨h1, h2 | h2, h3⟩
    · exact ⟨h2, h3⟩
    · rw [h1] at h2; cases h2

theorem isWord_any (l : List UInt8) (w : World) (hl : l.length ≤ maxLen) : Calls Tryz.prog 75 #[.string ⟨l.toArray⟩] w fun e w' => e = .returned (.bool (wordB l)) ∧ w = w' := by
  cases l with
  | nil =>
    go_enter Tryz.func75, Tryz.ntmps75
    go_wp2
    go_ret
    exact ⟨rfl, rfl⟩
  | cons c r =>
    have HR := Lib.hid (runLen_any (c :: r) w hl)
    have hW := wordB_eq c r
    have hb := byte_bd c
    have hsz : 0 < (⟨(c :: r).toArray⟩ : ByteArray).size := by rw [ba_size]; simp
    have hx : (⟨(c :: r).toArray⟩ : ByteArray)[0]'hsz = c := rfl
    have hrl := @run_le isWB (c :: r)
    have hml : r.length + 1 ≤ 9223372036854775807 := by unfold maxLen at hl; simpa using hl
    generalize hn : run isWB (c :: r) = n at *
    cases hd : digI (c.toNat : Int)
    · by_cases he : n = (c :: r).length
      · have hnb : ((n : Int) == ((r.length : Int) + 1)) = true := by rw [he]; simp
        have HW : Hid (wordB (c :: r) = true) := Lib.hid (by rw [hW, hd]; simp [he])
        clear hW he hn
        go_enter Tryz.func75, Tryz.ntmps75
        go_wp2_with (first | (go_at_call 88; refine (isDigit_any _ _ hb.1 hb.2).mono ?_; rintro e w' ⟨rfl, rfl⟩) | (go_at_call 89; refine HR.out.mono ?_; rintro e w' ⟨rfl, rfl⟩))
        go_ret
        exact ⟨ret_bool HW.out.symm, rfl⟩
      · have hnb : ((n : Int) == ((r.length : Int) + 1)) = false := by simp at he ⊢; omega
        have HW : Hid (wordB (c :: r) = false) := Lib.hid (by rw [hW, hd]; simpa using he)
        clear hW he hn
        go_enter Tryz.func75, Tryz.ntmps75
        go_wp2_with (first | (go_at_call 88; refine (isDigit_any _ _ hb.1 hb.2).mono ?_; rintro e w' ⟨rfl, rfl⟩) | (go_at_call 89; refine HR.out.mono ?_; rintro e w' ⟨rfl, rfl⟩))
        go_ret
        exact ⟨ret_bool HW.out.symm, rfl⟩
    · have HW : Hid (wordB (c :: r) = false) := Lib.hid (by rw [hW, hd]; rfl)
      clear hW hn
      go_enter Tryz.func75, Tryz.ntmps75
      go_wp2_with (first | (go_at_call 88; refine (isDigit_any _ _ hb.1 hb.2).mono ?_; rintro e w' ⟨rfl, rfl⟩) | (go_at_call 89; refine HR.out.mono ?_; rintro e w' ⟨rfl, rfl⟩))
      go_ret
      exact ⟨ret_bool HW.out.symm, rfl⟩
theorem isName_any (l : List UInt8) (w : World) (hl : l.length ≤ maxLen) : Calls Tryz.prog 51 #[.string ⟨l.toArray⟩] w fun e w' => e = .returned (.bool (nameB l)) ∧ w = w' := by
  have H := Lib.hid (isWord_any l w hl)
  unfold maxLen at hl
  by_cases h : l.length ≤ 24
  · have HE : Hid (nameB l = wordB l) := Lib.hid (by simp [nameB, h])
    generalize wordB l = b at *
    go_enter Tryz.func51, Tryz.ntmps51
    go_wp2_with (go_at_call 75; refine H.out.mono ?_; rintro e w' ⟨rfl, rfl⟩)
    go_ret
    exact ⟨ret_bool HE.out.symm, rfl⟩
  · have HE : Hid (nameB l = false) := Lib.hid (by simp [nameB, h])
    go_enter Tryz.func51, Tryz.ntmps51
    go_wp2
    go_ret
    exact ⟨ret_bool HE.out.symm, rfl⟩

/-- The reference's hex. -/
def hxI (n : Int) : Int := if 48 ≤ n ∧ n ≤ 57 then n - 48 else if 97 ≤ n ∧ n ≤ 102 then n - 97 + 10 else if 65 ≤ n ∧ n ≤ 70 then n - 65 + 10 else -1
set_option maxHeartbeats 1000000 in
theorem rWord_any (l : List UInt8) (w : World) (hl : l.length ≤ maxLen) : Calls Tryz.prog 65 #[.string ⟨l.toArray⟩] w fun e w' => e = .returned (.bool (wordB l)) ∧ w = w' := by
  unfold maxLen at hl
  cases l with
  | nil =>
    go_enter Tryz.func65, Tryz.ntmps65
    go_wp2
    go_ret
    exact ⟨rfl, rfl⟩
  | cons c r =>
    have hb := byte_bd c
    have hsz : 0 < (⟨(c :: r).toArray⟩ : ByteArray).size := by rw [ba_size]; simp
    have hx : (⟨(c :: r).toArray⟩ : ByteArray)[0]'hsz = c := rfl
    have hml : r.length + 1 ≤ 9223372036854775807 := by simpa using hl
    cases hc : ltrI (c.toNat : Int)
    · have HE : Hid (wordB (c :: r) = false) := Lib.hid (by simp only [wordB, isLet, hc]; rfl)
      go_enter Tryz.func65, Tryz.ntmps65
      go_wp2_with (go_at_call 85; refine (rLetter_any _ _ hb.1 hb.2).mono ?_; rintro e w' ⟨rfl, rfl⟩)
      go_ret
      exact ⟨ret_bool HE.out.symm, rfl⟩
    · have HE : Hid (wordB (c :: r) = r.all isWB) := Lib.hid (by simp only [wordB, isLet, hc]; rfl)
      go_enter Tryz.func65, Tryz.ntmps65
      go_wp2_with (go_at_call 85; refine (rLetter_any _ _ hb.1 hb.2).mono ?_; rintro e w' ⟨rfl, rfl⟩)
      go_loop [3] (fun i => ∃ k : Nat, k ≤ r.length ∧ i = .int .i64 ((k : Int) + 1) ∧ Hid ((r.take k).all isWB = true)) (fun i => r.length + 1 - (intOf i).toNat)
      case atStart => exact ⟨0, Nat.zero_le _, rfl, Lib.hid rfl⟩
      case round =>
        obtain ⟨k, hk, rfl, HA⟩ := hrel
        rcases Nat.lt_or_ge k r.length with hlt | hge
        · have hbk := byte_bd r[k]
          have hsk : k + 1 < (⟨(c :: r).toArray⟩ : ByteArray).size := by rw [ba_size]; simp; omega
          have hxk : (⟨(c :: r).toArray⟩ : ByteArray)[k + 1]'hsk = r[k] := rfl
          have HT := Lib.hid (all_take isWB r k hlt)
          have HZ : Hid (isWB r[k] = false → r.all isWB = false) := Lib.hid (all_stop isWB r k hlt)
          have HO : Hid (isWB r[k] = (ltrI (r[k].toNat : Int) || digI (r[k].toNat : Int))) := Lib.hid rfl
          generalize r[k] = d at *
          cases h1 : ltrI (d.toNat : Int)
          · cases h2 : digI (d.toNat : Int)
            · have HQ : Hid (r.all isWB = false) := Lib.hid (HZ.out (by rw [HO.out, h1, h2]; rfl))
              go_wp2_with (first | (go_at_call 85; refine (rLetter_any _ _ hbk.1 hbk.2).mono ?_; rintro e w' ⟨rfl, rfl⟩) | (go_at_call 86; refine (rDigit_any _ _ hbk.1 hbk.2).mono ?_; rintro e w' ⟨rfl, rfl⟩))
              go_ret
              exact ⟨ret_bool (by rw [HE.out, HQ.out]), rfl⟩
            · have HQ : Hid (isWB d = true) := Lib.hid (by rw [HO.out, h1, h2]; rfl)
              go_wp2_with (first | (go_at_call 85; refine (rLetter_any _ _ hbk.1 hbk.2).mono ?_; rintro e w' ⟨rfl, rfl⟩) | (go_at_call 86; refine (rDigit_any _ _ hbk.1 hbk.2).mono ?_; rintro e w' ⟨rfl, rfl⟩))
              go_round
              case rel => exact ⟨k + 1, by omega, by go_num, Lib.hid (by rw [HT.out, HA.out, HQ.out]; rfl)⟩
              case measure => simp [intOf]; omega
          · have HQ : Hid (isWB d = true) := Lib.hid (by rw [HO.out, h1]; rfl)
            go_wp2_with (first | (go_at_call 85; refine (rLetter_any _ _ hbk.1 hbk.2).mono ?_; rintro e w' ⟨rfl, rfl⟩) | (go_at_call 86; refine (rDigit_any _ _ hbk.1 hbk.2).mono ?_; rintro e w' ⟨rfl, rfl⟩))
            go_round
            case rel => exact ⟨k + 1, by omega, by go_num, Lib.hid (by rw [HT.out, HA.out, HQ.out]; rfl)⟩
            case measure => simp [intOf]; omega
        · have HQ : Hid (r.all isWB = true) := Lib.hid (by have h := HA.out; rwa [List.take_of_length_le (by omega)] at h)
          go_wp2
          go_ret
          exact ⟨ret_bool (by rw [HE.out, HQ.out]), rfl⟩
theorem rIsName_any (l : List UInt8) (w : World) (hl : l.length ≤ maxLen) : Calls Tryz.prog 44 #[.string ⟨l.toArray⟩] w fun e w' => e = .returned (.bool (nameB l)) ∧ w = w' := by
  have H := Lib.hid (rWord_any l w hl)
  unfold maxLen at hl
  have HE : Hid (nameB l = (wordB l && decide (l.length ≤ 24))) := Lib.hid (by unfold nameB; rw [Bool.and_comm])
  cases hw : wordB l
  · rw [hw] at H HE
    go_enter Tryz.func44, Tryz.ntmps44
    go_wp2_with (go_at_call 65; refine H.out.mono ?_; rintro e w' ⟨rfl, rfl⟩)
    go_ret
    exact ⟨ret_bool (by rw [HE.out]; rfl), rfl⟩
  · rw [hw] at H HE
    by_cases h : l.length ≤ 24
    · go_enter Tryz.func44, Tryz.ntmps44
      go_wp2_with (go_at_call 65; refine H.out.mono ?_; rintro e w' ⟨rfl, rfl⟩)
      go_ret
      exact ⟨ret_bool (by rw [HE.out]; simp [h]; omega), rfl⟩
    · go_enter Tryz.func44, Tryz.ntmps44
      go_wp2_with (go_at_call 65; refine H.out.mono ?_; rintro e w' ⟨rfl, rfl⟩)
      go_ret
      exact ⟨ret_bool (by rw [HE.out]; simp [h]; omega), rfl⟩
end Go.Proofs.YtfmajccblnmglaaGreatDoor
