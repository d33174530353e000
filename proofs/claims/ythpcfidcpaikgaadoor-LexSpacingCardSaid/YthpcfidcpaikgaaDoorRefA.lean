/-
  Contracts of hwlex.isWord, hwlex.IsName, and of the reference's hex, Word and IsName.
  Conditions: a text's length is at most maxLen.
-/
import Derived.Test.YthpcfidcpaikgaaDoorLexP
namespace Go.Proofs.YthpcfidcpaikgaaDoor
open Go.RowKit Go.Shelf

def wordB (l : List UInt8) : Bool := match l with | [] => false | c :: r => isLet c && r.all isWB
def nameB (l : List UInt8) : Bool := decide (l.length ≤ 24) && wordB l
theorem let_dig (c : UInt8) (h : isDig c = true) : isLet c = false := by
  simp [isDig, digI] at h
  simp [isLet, ltrI]; omega
theorem wb_eq (c : UInt8) : isWB c = (isLet c || isDig c) := rfl
theorem run_all_iff (p : UInt8 → Bool) (l : List UInt8) : (run p l = l.length) ↔ l.all p = true := by
  induction l with
  | nil => simp [run]
  | cons c r ih =>
    cases hc : p c with
    | true => rw [run_cons_pos hc]; simp [hc, ← ih]
    | false => rw [run_cons_neg hc]; simp [hc]
theorem wordB_eq (c : UInt8) (r : List UInt8) : wordB (c :: r) = (!digI (c.toNat : Int) && decide (run isWB (c :: r) = (c :: r).length)) := by
  rw [Bool.eq_iff_iff]
  have hd : digI (c.toNat : Int) = isDig c := rfl
  rw [hd]
  simp only [wordB, Bool.and_eq_true, Bool.not_eq_true', decide_eq_true_eq, run_all_iff, List.all_cons, wb_eq c, Bool.or_eq_true]
  constructor
  · rintro ⟨h1, h2⟩
    refine ⟨?_, .inl h1, h2⟩
    cases hd : isDig c with
    | false => rfl
    | true => rw [let_dig c hd] at h1; cases h1
  · rintro ⟨h1, h2 | h2, h3⟩
    · exact ⟨h2, h3⟩
    · rw [h1] at h2; cases h2

theorem isWord_any (l : List UInt8) (w : World) (hl : l.length ≤ maxLen) : Calls Tryd.prog 24 #[.string ⟨l.toArray⟩] w fun e w' => e = .returned (.bool (wordB l)) ∧ w = w' := by
  cases l with
  | nil =>
    go_enter Tryd.func24, Tryd.ntmps24
    go_wp2
    go_ret
    exact ⟨rfl, rfl⟩
  | cons c r =>
    have HR := Lib.hid (runLen_any (c :: r) w hl)
    have hW := wordB_eq c r
    have hb := byte_bd c
    have hsz : 0 < (⟨(c :: r).toArray⟩ : ByteArray).size := by rw [ba_size]; simp
    have hx : (⟨(c :: r).toArray⟩ : ByteArray)[0]'hsz = c := rfl
    have hrl := @run_le isWB (c :: r)
    have hml : r.length + 1 ≤ 9223372036854775807 := by unfold maxLen at hl; simpa using hl
    generalize hn : run isWB (c :: r) = n at *
    cases hd : digI (c.toNat : Int)
    · by_cases he : n = (c :: r).length
      · have hnb : ((n : Int) == ((r.length : Int) + 1)) = true := by rw [he]; simp
        have HW : Hid (wordB (c :: r) = true) := Lib.hid (by rw [hW, hd]; simp [he])
        clear hW he hn
        go_enter Tryd.func24, Tryd.ntmps24
        go_wp2_with (first | (go_at_call 36; refine (isDigit_any _ _ hb.1 hb.2).mono ?_; rintro e w' ⟨rfl, rfl⟩) | (go_at_call 37; refine HR.out.mono ?_; rintro e w' ⟨rfl, rfl⟩))
        go_ret
        exact ⟨ret_bool HW.out.symm, rfl⟩
      · have hnb : ((n : Int) == ((r.length : Int) + 1)) = false := by simp at he ⊢; omega
        have HW : Hid (wordB (c :: r) = false) := Lib.hid (by rw [hW, hd]; simpa using he)
        clear hW he hn
        go_enter Tryd.func24, Tryd.ntmps24
        go_wp2_with (first | (go_at_call 36; refine (isDigit_any _ _ hb.1 hb.2).mono ?_; rintro e w' ⟨rfl, rfl⟩) | (go_at_call 37; refine HR.out.mono ?_; rintro e w' ⟨rfl, rfl⟩))
        go_ret
        exact ⟨ret_bool HW.out.symm, rfl⟩
    · have HW : Hid (wordB (c :: r) = false) := Lib.hid (by rw [hW, hd]; rfl)
      clear hW hn
      go_enter Tryd.func24, Tryd.ntmps24
      go_wp2_with (first | (go_at_call 36; refine (isDigit_any _ _ hb.1 hb.2).mono ?_; rintro e w' ⟨rfl, rfl⟩) | (go_at_call 37; refine HR.out.mono ?_; rintro e w' ⟨rfl, rfl⟩))
      go_ret
      exact ⟨ret_bool HW.out.symm, rfl⟩
theorem isName_any (l : List UInt8) (w : World) (hl : l.length ≤ maxLen) : Calls Tryd.prog 11 #[.string ⟨l.toArray⟩] w fun e w' => e = .returned (.bool (nameB l)) ∧ w = w' := by
  have H := Lib.hid (isWord_any l w hl)
  unfold maxLen at hl
  by_cases h : l.length ≤ 24
  · have HE : Hid (nameB l = wordB l) := Lib.hid (by simp [nameB, h])
    generalize wordB l = b at *
    go_enter Tryd.func11, Tryd.ntmps11
    go_wp2_with (go_at_call 24; refine H.out.mono ?_; rintro e w' ⟨rfl, rfl⟩)
    go_ret
    exact ⟨ret_bool HE.out.symm, rfl⟩
  · have HE : Hid (nameB l = false) := Lib.hid (by simp [nameB, h])
    go_enter Tryd.func11, Tryd.ntmps11
    go_wp2
    go_ret
    exact ⟨ret_bool HE.out.symm, rfl⟩

/-- The reference's hex. -/
def hxI (n : Int) : Int := if 48 ≤ n ∧ n ≤ 57 then n - 48 else if 97 ≤ n ∧ n ≤ 102 then n - 97 + 10 else if 65 ≤ n ∧ n ≤ 70 then n - 65 + 10 else -1
theorem rhex_any (n : Int) (w : World) (h0 : 0 ≤ n) (h1 : n ≤ 255) : Calls Tryd.prog 43 #[.int .u8 n] w fun e w' => e = .returned (.int .i64 (hxI n)) ∧ w = w' := by
  by_cases hd : 48 ≤ n ∧ n ≤ 57
  · have hg : digI n = true := by simp [digI, hd]
    have HE : Hid (hxI n = n - 48) := Lib.hid (by simp [hxI, hd])
    obtain ⟨d0, d1⟩ := hd
    go_enter Tryd.func43, Tryd.ntmps43
    go_wp2_with (go_at_call 22; refine (rDigit_any _ _ h0 h1).mono ?_; rintro e w' ⟨rfl, rfl⟩)
    go_ret
    exact ⟨ret_int HE.out.symm, rfl⟩
  · have hg : digI n = false := by simpa [digI] using hd
    by_cases ha : 97 ≤ n ∧ n ≤ 102
    · have HE : Hid (hxI n = n - 97 + 10) := Lib.hid (by unfold hxI; rw [if_neg hd, if_pos ha])
      obtain ⟨d0, d1⟩ := ha
      clear hd
      go_enter Tryd.func43, Tryd.ntmps43
      go_wp2_with (go_at_call 22; refine (rDigit_any _ _ h0 h1).mono ?_; rintro e w' ⟨rfl, rfl⟩)
      go_ret
      exact ⟨ret_int HE.out.symm, rfl⟩
    · by_cases hA : 65 ≤ n ∧ n ≤ 70
      · have HE : Hid (hxI n = n - 65 + 10) := Lib.hid (by unfold hxI; rw [if_neg hd, if_neg ha, if_pos hA])
        obtain ⟨d0, d1⟩ := hA
        clear hd ha
        go_enter Tryd.func43, Tryd.ntmps43
        go_wp2_with (go_at_call 22; refine (rDigit_any _ _ h0 h1).mono ?_; rintro e w' ⟨rfl, rfl⟩)
        go_ret
        exact ⟨ret_int HE.out.symm, rfl⟩
      · have HE : Hid (hxI n = -1) := Lib.hid (by unfold hxI; rw [if_neg hd, if_neg ha, if_neg hA])
        have ha' : 97 ≤ n → 102 < n := fun h => by omega
        have hA' : 65 ≤ n → 70 < n := fun h => by omega
        clear hd ha hA
        go_enter Tryd.func43, Tryd.ntmps43
        go_wp2_with (go_at_call 22; refine (rDigit_any _ _ h0 h1).mono ?_; rintro e w' ⟨rfl, rfl⟩)
        all_goals first | (exfalso; omega) | (go_ret; exact ⟨ret_int HE.out.symm, rfl⟩)

set_option maxHeartbeats 1000000 in
theorem rWord_any (l : List UInt8) (w : World) (hl : l.length ≤ maxLen) : Calls Tryd.prog 25 #[.string ⟨l.toArray⟩] w fun e w' => e = .returned (.bool (wordB l)) ∧ w = w' := by
  unfold maxLen at hl
  cases l with
  | nil =>
    go_enter Tryd.func25, Tryd.ntmps25
    go_wp2
    go_ret
    exact ⟨rfl, rfl⟩
  | cons c r =>
    have hb := byte_bd c
    have hsz : 0 < (⟨(c :: r).toArray⟩ : ByteArray).size := by rw [ba_size]; simp
    have hx : (⟨(c :: r).toArray⟩ : ByteArray)[0]'hsz = c := rfl
    have hml : r.length + 1 ≤ 9223372036854775807 := by simpa using hl
    cases hc : ltrI (c.toNat : Int)
    · have HE : Hid (wordB (c :: r) = false) := Lib.hid (by simp only [wordB, isLet, hc]; rfl)
      go_enter Tryd.func25, Tryd.ntmps25
      go_wp2_with (go_at_call 21; refine (rLetter_any _ _ hb.1 hb.2).mono ?_; rintro e w' ⟨rfl, rfl⟩)
      go_ret
      exact ⟨ret_bool HE.out.symm, rfl⟩
    · have HE : Hid (wordB (c :: r) = r.all isWB) := Lib.hid (by simp only [wordB, isLet, hc]; rfl)
      go_enter Tryd.func25, Tryd.ntmps25
      go_wp2_with (go_at_call 21; refine (rLetter_any _ _ hb.1 hb.2).mono ?_; rintro e w' ⟨rfl, rfl⟩)
      go_loop [3] (fun i => ∃ k : Nat, k ≤ r.length ∧ i = .int .i64 ((k : Int) + 1) ∧ Hid ((r.take k).all isWB = true)) (fun i => r.length + 1 - (intOf i).toNat)
      case atStart => exact ⟨0, Nat.zero_le _, rfl, Lib.hid rfl⟩
      case round =>
        obtain ⟨k, hk, rfl, HA⟩ := hrel
        rcases Nat.lt_or_ge k r.length with hlt | hge
        · have hbk := byte_bd r[k]
          have hsk : k + 1 < (⟨(c :: r).toArray⟩ : ByteArray).size := by rw [ba_size]; simp; omega
          have hxk : (⟨(c :: r).toArray⟩ : ByteArray)[k + 1]'hsk = r[k] := rfl
          have HT := Lib.hid (all_take isWB r k hlt)
          have HZ : Hid (isWB r[k] = false → r.all isWB = false) := Lib.hid (all_stop isWB r k hlt)
          have HO : Hid (isWB r[k] = (ltrI (r[k].toNat : Int) || digI (r[k].toNat : Int))) := Lib.hid rfl
          generalize r[k] = d at *
          cases h1 : ltrI (d.toNat : Int)
          · cases h2 : digI (d.toNat : Int)
            · have HQ : Hid (r.all isWB = false) := Lib.hid (HZ.out (by rw [HO.out, h1, h2]; rfl))
              go_wp2_with (first | (go_at_call 21; refine (rLetter_any _ _ hbk.1 hbk.2).mono ?_; rintro e w' ⟨rfl, rfl⟩) | (go_at_call 22; refine (rDigit_any _ _ hbk.1 hbk.2).mono ?_; rintro e w' ⟨rfl, rfl⟩))
              go_ret
              exact ⟨ret_bool (by rw [HE.out, HQ.out]), rfl⟩
            · have HQ : Hid (isWB d = true) := Lib.hid (by rw [HO.out, h1, h2]; rfl)
              go_wp2_with (first | (go_at_call 21; refine (rLetter_any _ _ hbk.1 hbk.2).mono ?_; rintro e w' ⟨rfl, rfl⟩) | (go_at_call 22; refine (rDigit_any _ _ hbk.1 hbk.2).mono ?_; rintro e w' ⟨rfl, rfl⟩))
              go_round
              case rel => exact ⟨k + 1, by omega, by go_num, Lib.hid (by rw [HT.out, HA.out, HQ.out]; rfl)⟩
              case measure => simp [intOf]; omega
          · have HQ : Hid (isWB d = true) := Lib.hid (by rw [HO.out, h1]; rfl)
            go_wp2_with (first | (go_at_call 21; refine (rLetter_any _ _ hbk.1 hbk.2).mono ?_; rintro e w' ⟨rfl, rfl⟩) | (go_at_call 22; refine (rDigit_any _ _ hbk.1 hbk.2).mono ?_; rintro e w' ⟨rfl, rfl⟩))
            go_round
            case rel => exact ⟨k + 1, by omega, by go_num, Lib.hid (by rw [HT.out, HA.out, HQ.out]; rfl)⟩
            case measure => simp [intOf]; omega
        · have HQ : Hid (r.all isWB = true) := Lib.hid (by have h := HA.out; rwa [List.take_of_length_le (by omega)] at h)
          go_wp2
          go_ret
          exact ⟨ret_bool (by rw [HE.out, HQ.out]), rfl⟩
theorem rIsName_any (l : List UInt8) (w : World) (hl : l.length ≤ maxLen) : Calls Tryd.prog 12 #[.string ⟨l.toArray⟩] w fun e w' => e = .returned (.bool (nameB l)) ∧ w = w' := by
  have H := Lib.hid (rWord_any l w hl)
  unfold maxLen at hl
  have HE : Hid (nameB l = (wordB l && decide (l.length ≤ 24))) := Lib.hid (by unfold nameB; rw [Bool.and_comm])
  cases hw : wordB l
  · rw [hw] at H HE
    go_enter Tryd.func12, Tryd.ntmps12
    go_wp2_with (go_at_call 25; refine H.out.mono ?_; rintro e w' ⟨rfl, rfl⟩)
    go_ret
    exact ⟨ret_bool (by rw [HE.out]; rfl), rfl⟩
  · rw [hw] at H HE
    by_cases h : l.length ≤ 24
    · go_enter Tryd.func12, Tryd.ntmps12
      go_wp2_with (go_at_call 25; refine H.out.mono ?_; rintro e w' ⟨rfl, rfl⟩)
      go_ret
      exact ⟨ret_bool (by rw [HE.out]; simp [h]; omega), rfl⟩
    · go_enter Tryd.func12, Tryd.ntmps12
      go_wp2_with (go_at_call 25; refine H.out.mono ?_; rintro e w' ⟨rfl, rfl⟩)
      go_ret
      exact ⟨ret_bool (by rw [HE.out]; simp [h]; omega), rfl⟩
end Go.Proofs.YthpcfidcpaikgaaDoor
