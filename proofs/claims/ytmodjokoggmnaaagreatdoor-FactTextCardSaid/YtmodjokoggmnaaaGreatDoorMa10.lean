/-
  Numerals with a suffix: what scanning them comes to.
  Conditions: the number is less than 2^64.
  Contracts of hwlex.isWord, hwlex.IsName, and of the reference's hex, Word and IsName.
  Conditions: a text's length is at most maxLen.
  Texts of tokens: what a well-formed token's text is, that it is scanned as that token, and what a text of tokens with gaps between them is scanned as. Plain mathematics.
  Conditions: a number's value is less than 2^64.
-/
import Derived.Test.YtmodjokoggmnaaaGreatDoorMa6
import Derived.Test.YtmodjokoggmnaaaGreatDoorMa4
import Derived.Test.YtmodjokoggmnaaaGreatDoorMa5
namespace Go.Proofs.YtmodjokoggmnaaaGreatDoor

open Go.RowKit Go.Shelf

/-- The byte of a hexadecimal digit, asx the law writes it. -/
def hch (k : Nat) : UInt8 := if k < 10 then (48 + k).toUInt8 else if k < 13 then (87 + k).toUInt8 else (55 + k).toUInt8
theorem hch_all : ∀ k : Fin 16, (okDig 16 (hch k.val) = true) ∧ dval (hch k.val) = k.val := by decide
def hexF : Nat → Nat → List UInt8
  | 0, _ => []
  | f + 1, x => if x < 16 then [hch x] else hexF f (x / 16) ++ [hch (x % 16)]
def hexL (x : Nat) : List UInt8 := hexF (x + 1) x
theorem hexF_fuel : ∀ (f x : Nat), x < f → ∀ g, f ≤ g → hexF g x = hexF f x := by
  intro f
  induction f with
  | zero => intro x h; omega
  | succ f ih =>
    intro x h g hg
    obtain ⟨g, rfl⟩ : ∃ j, g = j + 1 := ⟨g - 1, by omega⟩
    simp only [hexF]
    by_cases hx : x < 16
    · rw [if_pos hx, if_pos hx]
    · rw [if_neg hx, if_neg hx, ih (x / 16) (by omega) g (by omega)]
theorem hexL_lt {x : Nat} (h : x < 16) : hexL x = [hch x] := by simp [hexL, hexF, h]
theorem hexL_ge {x : Nat} (h : ¬ x < 16) : hexL x = hexL (x / 16) ++ [hch (x % 16)] := by
  unfold hexL
  rw [hexF, if_neg h, hexF_fuel (x / 16 + 1) (x / 16) (by omega) x (by omega)]
theorem hexL_is : ∀ (n x : Nat), x < 16 ^ (n + 1) → (hexL x ≠ [] ∧ (hexL x).all (okDig 16) = true ∧ value 16 (hexL x) = x ∧ (hexL x).length ≤ n + 1) := by
  intro n
  induction n with
  | zero =>
    intro x hx
    have h : x < 16 := by simpa using hx
    have hc := hch_all ⟨x, h⟩
    rw [hexL_lt h]
    exact ⟨by simp, by simpa using hc.1, by simpa [value] using hc.2, by simp⟩
  | succ n ih =>
    intro x hx
    by_cases h : x < 16
    · have hc := hch_all ⟨x, h⟩
      rw [hexL_lt h]
      exact ⟨by simp, by simpa using hc.1, by simpa [value] using hc.2, by simp⟩
    · rw [hexL_ge h]
      obtain ⟨h1, h2, h3, h4⟩ := ih (x / 16) (by rw [Nat.pow_succ] at hx; omega)
      have hc := hch_all ⟨x % 16, Nat.mod_lt _ (by omega)⟩
      exact ⟨by simp, by rw [List.all_append, h2]; simpa using hc.1, by rw [value_snoc, h3]; have := hc.2; simp only at this; rw [this]; omega, by simp; omega⟩
theorem isHexL (x : Nat) (h : x < 18446744073709551616) : hexL x ≠ [] ∧ (hexL x).all (okDig 16) = true ∧ value 16 (hexL x) = x ∧ (hexL x).length ≤ 16 := by
  have := hexL_is 15 x (by omega)
  simpa using this
def suf (k : Nat) : List UInt8 := if k = 1 then [75] else if k = 2 then [77] else if k = 3 then [71] else []
theorem shift_hex (c : UInt8) (h : okDig 16 c = true) : shiftOf c = 0 := by
  have h1 : c.toNat ≠ 75 ∧ c.toNat ≠ 77 ∧ c.toNat ≠ 71 := by
    simp [okDig, isHex, digI, hexI] at h; omega
  unfold shiftOf
  rw [if_neg (fun e => h1.1 (by rw [e]; rfl)), if_neg (fun e => h1.2.1 (by rw [e]; rfl)), if_neg (fun e => h1.2.2 (by rw [e]; rfl))]
theorem suffixed (s : List UInt8) (k : Nat) (hk : k < 4) (hs : s ≠ []) (hl : ∀ c ∈ s, shiftOf c = 0) : sfx (s ++ suf k) = 10 * k ∧ body (s ++ suf k) = s := by
  obtain ⟨r, c, rfl⟩ : ∃ r c, s = r ++ [c] := ⟨s.dropLast, s.getLast hs, (List.dropLast_concat_getLast hs).symm⟩
  obtain h | h | h | h : k = 0 ∨ k = 1 ∨ k = 2 ∨ k = 3 := by omega
  · subst h
    have hc := hl c (by simp)
    rw [show suf 0 = [] from rfl, List.append_nil, sfx_snoc, body_snoc, hc]; exact ⟨rfl, rfl⟩
  · subst h; rw [show suf 1 = [75] from rfl, sfx_snoc, body_snoc]; exact ⟨rfl, rfl⟩
  · subst h; rw [show suf 2 = [77] from rfl, sfx_snoc, body_snoc]; exact ⟨rfl, rfl⟩
  · subst h; rw [show suf 3 = [71] from rfl, sfx_snoc, body_snoc]; exact ⟨rfl, rfl⟩
def numRes (x sh : Nat) : Num := if x * 2 ^ sh < 18446744073709551616 then .val (x * 2 ^ sh) else .big
theorem dig_ok16 (c : UInt8) (h : isDig c = true) : okDig 16 c = true := by simp [okDig, isHex]; exact .inl h
theorem num_dec (x k : Nat) (hk : k < 4) (hx : x < 18446744073709551616) : num (decL x ++ suf k) = numRes x (10 * k) := by
  have D := isDec x hx
  obtain ⟨h1, h2⟩ := suffixed (decL x) k hk D.ne (fun c hc => shift_hex c (dig_ok16 c (List.all_eq_true.1 D.all c hc)))
  have hhx : hexed (decL x) = false := by
    have := D.all
    unfold hexed
    split
    · rename_i heq; rw [heq] at this; simp [isDig, digI] at this
    · rfl
  have hall : (decL x).all (okDig 10) = true := by
    have e : okDig 10 = isDig := by funext c; simp [okDig]
    rw [e]; exact D.all
  unfold num
  simp only [h1, h2, hhx, Bool.false_eq_true, if_false]
  split
  · rename_i heq; exact absurd heq (fun h => D.lead _ _ h)
  · unfold digits numRes
    rw [if_neg (by rintro (h | h); exact D.ne h; rw [hall] at h; cases h), D.val]
theorem num_hex (x k : Nat) (hk : k < 4) (hx : x < 18446744073709551616) : num (48 :: 120 :: hexL x ++ suf k) = numRes x (10 * k) := by
  obtain ⟨h1, h2, h3, h4⟩ := isHexL x hx
  obtain ⟨e1, e2⟩ := suffixed (48 :: 120 :: hexL x) k hk (by simp) (fun c hc => by
    rcases List.mem_cons.1 hc with rfl | hc
    · rfl
    · rcases List.mem_cons.1 hc with rfl | hc
      · rfl
      · exact shift_hex c (List.all_eq_true.1 h2 c hc))
  unfold num
  simp only [e1, e2]
  rw [if_pos (show hexed (48 :: 120 :: hexL x) = true from rfl)]
  unfold digits numRes
  rw [if_neg (by rintro (h | h); exact h1 h; rw [show List.drop 2 (48 :: 120 :: hexL x) = hexL x from rfl, h2] at h; cases h)]
  rw [show List.drop 2 (48 :: 120 :: hexL x) = hexL x from rfl, h3]
theorem run_whole (p : UInt8 → Bool) (t : List UInt8) (h : t.all p = true) : run p t = t.length := by
  induction t with
  | nil => rfl
  | cons c r ih =>
    rw [List.all_cons, Bool.and_eq_true] at h
    rw [run_cons_pos h.1, ih h.2]; rfl
theorem wb_hex (c : UInt8) (h : okDig 16 c = true) : isWB c = true := by
  simp [okDig, isHex, digI, hexI] at h
  simp [isWB, wbI, ltrI, digI]; omega
theorem suf_wb (k : Nat) : (suf k).all isWB = true := by unfold suf; (repeat' split) <;> rfl
theorem suf_len (k : Nat) : (suf k).length ≤ 1 := by unfold suf; (repeat' split) <;> simp
end Go.Proofs.YtmodjokoggmnaaaGreatDoor


namespace Go.Proofs.YtmodjokoggmnaaaGreatDoor

open Go.RowKit Go.Shelf

def wordB (l : List UInt8) : Bool := match l with | [] => false | c :: r => isLet c && r.all isWB
def nameB (l : List UInt8) : Bool := decide (l.length ≤ 24) && wordB l
theorem let_dig (c : UInt8) (h : isDig c = true) : isLet c = false := by
  simp [isDig, digI] at h
  simp [isLet, ltrI]; omega
theorem wb_eq (c : UInt8) : isWB c = (isLet c || isDig c) := rfl
theorem run_all_iff (p : UInt8 → Bool) (l : List UInt8) : (run p l = l.length) ↔ l.all p = true := by
  induction l with
  | nil => simp [run]
  | cons c r ih =>
    cases hc : p c with
    | true => rw [run_cons_pos hc]; simp [hc, ← ih]
    | false => rw [run_cons_neg hc]; simp [hc]
theorem wordB_eq (c : UInt8) (r : List UInt8) : wordB (c :: r) = (!digI (c.toNat : Int) && decide (run isWB (c :: r) = (c :: r).length)) := by
  rw [Bool.eq_iff_iff]
  have hd : digI (c.toNat : Int) = isDig c := rfl
  rw [hd]
  simp only [wordB, Bool.and_eq_true, Bool.not_eq_true', decide_eq_true_eq, run_all_iff, List.all_cons, wb_eq c, Bool.or_eq_true]
  constructor
  · rintro ⟨h1, h2⟩
    refine ⟨?_, .inl h1, h2⟩
    cases hd : isDig c with
    | false => rfl
    | true => rw [let_dig c hd] at h1; cases h1
  · rintro ⟨h1, h2 | h2, h3⟩
    · exact ⟨h2, h3⟩
    · rw [h1] at h2; cases h2

theorem isWord_any (l : List UInt8) (w : World) (hl : l.length ≤ maxLen) : Calls Tryz.prog 101 #[.string ⟨l.toArray⟩] w fun e w' => e = .returned (.bool (wordB l)) ∧ w = w' := by
  cases l with
  | nil =>
    go_enter Tryz.func101, Tryz.ntmps101
    go_wp2
    go_ret
    exact ⟨rfl, rfl⟩
  | cons c r =>
    have HR := Lib.hid (runLen_any (c :: r) w hl)
    have hW := wordB_eq c r
    have hb := byte_bd c
    have hsz : 0 < (⟨(c :: r).toArray⟩ : ByteArray).size := by rw [ba_size]; simp
    have hx : (⟨(c :: r).toArray⟩ : ByteArray)[0]'hsz = c := rfl
    have hrl := @run_le isWB (c :: r)
    have hml : r.length + 1 ≤ 9223372036854775807 := by unfold maxLen at hl; simpa using hl
    generalize hn : run isWB (c :: r) = n at *
    cases hd : digI (c.toNat : Int)
    · by_cases he : n = (c :: r).length
      · have hnb : ((n : Int) == ((r.length : Int) + 1)) = true := by rw [he]; simp
        have HW : Hid (wordB (c :: r) = true) := Lib.hid (by rw [hW, hd]; simp [he])
        clear hW he hn
        go_enter Tryz.func101, Tryz.ntmps101
        go_wp2_with (first | (go_at_call 79; refine (isDigit_any _ _ hb.1 hb.2).mono ?_; rintro e w' ⟨rfl, rfl⟩) | (go_at_call 80; refine HR.out.mono ?_; rintro e w' ⟨rfl, rfl⟩))
        go_ret
        exact ⟨ret_bool HW.out.symm, rfl⟩
      · have hnb : ((n : Int) == ((r.length : Int) + 1)) = false := by simp at he ⊢; omega
        have HW : Hid (wordB (c :: r) = false) := Lib.hid (by rw [hW, hd]; simpa using he)
        clear hW he hn
        go_enter Tryz.func101, Tryz.ntmps101
        go_wp2_with (first | (go_at_call 79; refine (isDigit_any _ _ hb.1 hb.2).mono ?_; rintro e w' ⟨rfl, rfl⟩) | (go_at_call 80; refine HR.out.mono ?_; rintro e w' ⟨rfl, rfl⟩))
        go_ret
        exact ⟨ret_bool HW.out.symm, rfl⟩
    · have HW : Hid (wordB (c :: r) = false) := Lib.hid (by rw [hW, hd]; rfl)
      clear hW hn
      go_enter Tryz.func101, Tryz.ntmps101
      go_wp2_with (first | (go_at_call 79; refine (isDigit_any _ _ hb.1 hb.2).mono ?_; rintro e w' ⟨rfl, rfl⟩) | (go_at_call 80; refine HR.out.mono ?_; rintro e w' ⟨rfl, rfl⟩))
      go_ret
      exact ⟨ret_bool HW.out.symm, rfl⟩
theorem isName_any (l : List UInt8) (w : World) (hl : l.length ≤ maxLen) : Calls Tryz.prog 63 #[.string ⟨l.toArray⟩] w fun e w' => e = .returned (.bool (nameB l)) ∧ w = w' := by
  have H := Lib.hid (isWord_any l w hl)
  unfold maxLen at hl
  by_cases h : l.length ≤ 24
  · have HE : Hid (nameB l = wordB l) := Lib.hid (by simp [nameB, h])
    generalize wordB l = b at *
    go_enter Tryz.func63, Tryz.ntmps63
    go_wp2_with (go_at_call 101; refine H.out.mono ?_; rintro e w' ⟨rfl, rfl⟩)
    go_ret
    exact ⟨ret_bool HE.out.symm, rfl⟩
  · have HE : Hid (nameB l = false) := Lib.hid (by simp [nameB, h])
    go_enter Tryz.func63, Tryz.ntmps63
    go_wp2
    go_ret
    exact ⟨ret_bool HE.out.symm, rfl⟩

/-- The reference's hex. -/
def hxI (n : Int) : Int := if 48 ≤ n ∧ n ≤ 57 then n - 48 else if 97 ≤ n ∧ n ≤ 102 then n - 97 + 10 else if 65 ≤ n ∧ n ≤ 70 then n - 65 + 10 else -1
theorem rhex_any (n : Int) (w : World) (h0 : 0 ≤ n) (h1 : n ≤ 255) : Calls Tryz.prog 126 #[.int .u8 n] w fun e w' => e = .returned (.int .i64 (hxI n)) ∧ w = w' := by
  by_cases hd : 48 ≤ n ∧ n ≤ 57
  · have hg : digI n = true := by simp [digI, hd]
    have HE : Hid (hxI n = n - 48) := Lib.hid (by simp [hxI, hd])
    obtain ⟨d0, d1⟩ := hd
    go_enter Tryz.func126, Tryz.ntmps126
    go_wp2_with (go_at_call 98; refine (rDigit_any _ _ h0 h1).mono ?_; rintro e w' ⟨rfl, rfl⟩)
    go_ret
    exact ⟨ret_int HE.out.symm, rfl⟩
  · have hg : digI n = false := by simpa [digI] using hd
    by_cases ha : 97 ≤ n ∧ n ≤ 102
    · have HE : Hid (hxI n = n - 97 + 10) := Lib.hid (by unfold hxI; rw [if_neg hd, if_pos ha])
      obtain ⟨d0, d1⟩ := ha
      clear hd
      go_enter Tryz.func126, Tryz.ntmps126
      go_wp2_with (go_at_call 98; refine (rDigit_any _ _ h0 h1).mono ?_; rintro e w' ⟨rfl, rfl⟩)
      go_ret
      exact ⟨ret_int HE.out.symm, rfl⟩
    · by_cases hA : 65 ≤ n ∧ n ≤ 70
      · have HE : Hid (hxI n = n - 65 + 10) := Lib.hid (by unfold hxI; rw [if_neg hd, if_neg ha, if_pos hA])
        obtain ⟨d0, d1⟩ := hA
        clear hd ha
        go_enter Tryz.func126, Tryz.ntmps126
        go_wp2_with (go_at_call 98; refine (rDigit_any _ _ h0 h1).mono ?_; rintro e w' ⟨rfl, rfl⟩)
        go_ret
        exact ⟨ret_int HE.out.symm, rfl⟩
      · have HE : Hid (hxI n = -1) := Lib.hid (by unfold hxI; rw [if_neg hd, if_neg ha, if_neg hA])
        have ha' : 97 ≤ n → 102 < n := fun h => by omega
        have hA' : 65 ≤ n → 70 < n := fun h => by omega
        clear hd ha hA
        go_enter Tryz.func126, Tryz.ntmps126
        go_wp2_with (go_at_call 98; refine (rDigit_any _ _ h0 h1).mono ?_; rintro e w' ⟨rfl, rfl⟩)
        all_goals first | (exfalso; omega) | (go_ret; exact ⟨ret_int HE.out.symm, rfl⟩)

set_option maxHeartbeats 1000000 in
theorem rWord_any (l : List UInt8) (w : World) (hl : l.length ≤ maxLen) : Calls Tryz.prog 71 #[.string ⟨l.toArray⟩] w fun e w' => e = .returned (.bool (wordB l)) ∧ w = w' := by
  unfold maxLen at hl
  cases l with
  | nil =>
    go_enter Tryz.func71, Tryz.ntmps71
    go_wp2
    go_ret
    exact ⟨rfl, rfl⟩
  | cons c r =>
    have hb := byte_bd c
    have hsz : 0 < (⟨(c :: r).toArray⟩ : ByteArray).size := by rw [ba_size]; simp
    have hx : (⟨(c :: r).toArray⟩ : ByteArray)[0]'hsz = c := rfl
    have hml : r.length + 1 ≤ 9223372036854775807 := by simpa using hl
    cases hc : ltrI (c.toNat : Int)
    · have HE : Hid (wordB (c :: r) = false) := Lib.hid (by simp only [wordB, isLet, hc]; rfl)
      go_enter Tryz.func71, Tryz.ntmps71
      go_wp2_with (go_at_call 97; refine (rLetter_any _ _ hb.1 hb.2).mono ?_; rintro e w' ⟨rfl, rfl⟩)
      go_ret
      exact ⟨ret_bool HE.out.symm, rfl⟩
    · have HE : Hid (wordB (c :: r) = r.all isWB) := Lib.hid (by simp only [wordB, isLet, hc]; rfl)
      go_enter Tryz.func71, Tryz.ntmps71
      go_wp2_with (go_at_call 97; refine (rLetter_any _ _ hb.1 hb.2).mono ?_; rintro e w' ⟨rfl, rfl⟩)
      go_loop [3] (fun i => ∃ k : Nat, k ≤ r.length ∧ i = .int .i64 ((k : Int) + 1) ∧ Hid ((r.take k).all isWB = true)) (fun i => r.length + 1 - (intOf i).toNat)
      case atStart => exact ⟨0, Nat.zero_le _, rfl, Lib.hid rfl⟩
      case round =>
        obtain ⟨k, hk, rfl, HA⟩ := hrel
        rcases Nat.lt_or_ge k r.length with hlt | hge
        · have hbk := byte_bd r[k]
          have hsk : k + 1 < (⟨(c :: r).toArray⟩ : ByteArray).size := by rw [ba_size]; simp; omega
          have hxk : (⟨(c :: r).toArray⟩ : ByteArray)[k + 1]'hsk = r[k] := rfl
          have HT := Lib.hid (all_take isWB r k hlt)
          have HZ : Hid (isWB r[k] = false → r.all isWB = false) := Lib.hid (all_stop isWB r k hlt)
          have HO : Hid (isWB r[k] = (ltrI (r[k].toNat : Int) || digI (r[k].toNat : Int))) := Lib.hid rfl
          generalize r[k] = d at *
          cases h1 : ltrI (d.toNat : Int)
          · cases h2 : digI (d.toNat : Int)
            · have HQ : Hid (r.all isWB = false) := Lib.hid (HZ.out (by rw [HO.out, h1, h2]; rfl))
              go_wp2_with (first | (go_at_call 97; refine (rLetter_any _ _ hbk.1 hbk.2).mono ?_; rintro e w' ⟨rfl, rfl⟩) | (go_at_call 98; refine (rDigit_any _ _ hbk.1 hbk.2).mono ?_; rintro e w' ⟨rfl, rfl⟩))
              go_ret
              exact ⟨ret_bool (by rw [HE.out, HQ.out]), rfl⟩
            · have HQ : Hid (isWB d = true) := Lib.hid (by rw [HO.out, h1, h2]; rfl)
              go_wp2_with (first | (go_at_call 97; refine (rLetter_any _ _ hbk.1 hbk.2).mono ?_; rintro e w' ⟨rfl, rfl⟩) | (go_at_call 98; refine (rDigit_any _ _ hbk.1 hbk.2).mono ?_; rintro e w' ⟨rfl, rfl⟩))
              go_round
              case rel => exact ⟨k + 1, by omega, by go_num, Lib.hid (by rw [HT.out, HA.out, HQ.out]; rfl)⟩
              case measure => simp [intOf]; omega
          · have HQ : Hid (isWB d = true) := Lib.hid (by rw [HO.out, h1]; rfl)
            go_wp2_with (first | (go_at_call 97; refine (rLetter_any _ _ hbk.1 hbk.2).mono ?_; rintro e w' ⟨rfl, rfl⟩) | (go_at_call 98; refine (rDigit_any _ _ hbk.1 hbk.2).mono ?_; rintro e w' ⟨rfl, rfl⟩))
            go_round
            case rel => exact ⟨k + 1, by omega, by go_num, Lib.hid (by rw [HT.out, HA.out, HQ.out]; rfl)⟩
            case measure => simp [intOf]; omega
        · have HQ : Hid (r.all isWB = true) := Lib.hid (by have h := HA.out; rwa [List.take_of_length_le (by omega)] at h)
          go_wp2
          go_ret
          exact ⟨ret_bool (by rw [HE.out, HQ.out]), rfl⟩
theorem rIsName_any (l : List UInt8) (w : World) (hl : l.length ≤ maxLen) : Calls Tryz.prog 40 #[.string ⟨l.toArray⟩] w fun e w' => e = .returned (.bool (nameB l)) ∧ w = w' := by
  have H := Lib.hid (rWord_any l w hl)
  unfold maxLen at hl
  have HE : Hid (nameB l = (wordB l && decide (l.length ≤ 24))) := Lib.hid (by unfold nameB; rw [Bool.and_comm])
  cases hw : wordB l
  · rw [hw] at H HE
    go_enter Tryz.func40, Tryz.ntmps40
    go_wp2_with (go_at_call 71; refine H.out.mono ?_; rintro e w' ⟨rfl, rfl⟩)
    go_ret
    exact ⟨ret_bool (by rw [HE.out]; rfl), rfl⟩
  · rw [hw] at H HE
    by_cases h : l.length ≤ 24
    · go_enter Tryz.func40, Tryz.ntmps40
      go_wp2_with (go_at_call 71; refine H.out.mono ?_; rintro e w' ⟨rfl, rfl⟩)
      go_ret
      exact ⟨ret_bool (by rw [HE.out]; simp [h]; omega), rfl⟩
    · go_enter Tryz.func40, Tryz.ntmps40
      go_wp2_with (go_at_call 71; refine H.out.mono ?_; rintro e w' ⟨rfl, rfl⟩)
      go_ret
      exact ⟨ret_bool (by rw [HE.out]; simp [h]; omega), rfl⟩
end Go.Proofs.YtmodjokoggmnaaaGreatDoor


namespace Go.Proofs.YtmodjokoggmnaaaGreatDoor

open Go.RowKit Go.Shelf

/-- Is a token well formed? -/
def wf (t : GTok) : Bool :=
  if t.kind = 1 then decide (t.value = 0) && wordB t.text
  else if t.kind = 2 then t.text.isEmpty
  else if t.kind = 3 then decide (t.value = 0) && t.text.all isStr
  else if t.kind = 4 then decide (t.value = 0) && punct t.text
  else false
/-- The text of a well-formed token. -/
def txt (t : GTok) : List UInt8 := if t.kind = 2 then decL t.value.toNat else if t.kind = 3 then 34 :: (t.text ++ [34]) else t.text
def tailT (ts : List GTok) : List UInt8 := ts.flatMap fun t => 32 :: txt t
/-- Texts, separated by single spaces. -/
def joinT : List GTok → List UInt8
  | [] => []
  | t :: r => txt t ++ tailT r
def fmtL (ts : List GTok) : List UInt8 := if ts.all wf then joinT ts else []
theorem joinT_snoc (a : List GTok) (t : GTok) : joinT (a ++ [t]) = if a = [] then txt t else joinT a ++ 32 :: txt t := by
  cases a with
  | nil => simp [joinT, tailT]
  | cons b r => simp [joinT, tailT]
theorem joinT_take {ts : List GTok} {k : Nat} (h : k < ts.length) : joinT (ts.take (k + 1)) = if k = 0 then txt ts[k] else joinT (ts.take k) ++ 32 :: txt ts[k] := by
  rw [List.take_succ_eq_append_getElem h, joinT_snoc]
  by_cases h0 : k = 0
  · subst h0; simp
  · rw [if_neg h0, if_neg]
    intro e
    have := congrArg List.length e
    rw [List.length_take, List.length_nil] at this
    omega

/-- What may follow a token: nothing, or a byte that cannot belong to it. -/
def Sep (m : List UInt8) : Prop := m = [] ∨ ∃ g r, m = g :: r ∧ isWB g = false ∧ g ≠ 61 ∧ g ≠ 46 ∧ g ≠ 62
theorem run_sep (p : UInt8 → Bool) (l m : List UInt8) (h : l.all p = true) (hm : m = [] ∨ ∃ g r, m = g :: r ∧ p g = false) : run p (l ++ m) = l.length := by
  rcases hm with rfl | ⟨g, r, rfl, hg⟩
  · rw [List.append_nil]; exact run_whole p l h
  · rw [run_app l r g hg]; exact run_whole p l h
theorem dig_wb (c : UInt8) (h : isDig c = true) : isWB c = true := by rw [wb_eq, h]; simp
theorem wb_sp (c : UInt8) (h : isWB c = true) : isSp c = false ∧ c ≠ 35 := by
  constructor
  · cases hs : isSp c with
    | false => rfl
    | true =>
      simp only [isSp, spI, decide_eq_true_eq] at hs
      simp only [isWB, wbI, ltrI, digI, Bool.or_eq_true, decide_eq_true_eq] at h
      omega
  · rintro rfl; revert h; decide
theorem num_decL (x : Nat) (hx : x < 18446744073709551616) : num (decL x) = .val x := by
  have h := num_dec x 0 (by omega) hx
  have e : suf 0 = [] := rfl
  rw [e, List.append_nil] at h
  rw [h, numRes]
  simp [hx]
theorem decL_wb (x : Nat) (hx : x < 18446744073709551616) : (decL x).all isWB = true := by
  have h := (isDec x hx).all
  rw [List.all_eq_true] at h ⊢
  exact fun c hc => dig_wb c (h c hc)
/-- The punctuation marks are scanned asx themselves. -/
theorem marks_ok : ∀ l ∈ marks2 ++ marks1.map (fun c => [c]), marked l = .tok 4 l 0 l.length ∧ (∃ c r, l = c :: r ∧ isSp c = false ∧ c ≠ 35 ∧ isDig c = false ∧ isWB c = false ∧ c ≠ 34) := by
  intro l hl
  simp only [marks2, marks1, List.map_cons, List.map_nil, List.cons_append, List.nil_append, List.mem_cons, List.not_mem_nil, or_false] at hl
  rcases hl with rfl | rfl | rfl | rfl | rfl | rfl | rfl | rfl | rfl | rfl | rfl | rfl | rfl | rfl | rfl | rfl | rfl | rfl | rfl | rfl | rfl | rfl | rfl | rfl
  all_goals exact ⟨by decide, _, _, rfl, by decide, by decide, by decide, by decide, by decide⟩
theorem punct_mem (l : List UInt8) (h : punct l = true) : l ∈ marks2 ++ marks1.map (fun c => [c]) := by
  unfold punct at h
  rw [Bool.or_eq_true] at h
  rw [List.mem_append]
  rcases h with h | h
  · exact .inl (by simpa using h)
  · right
    split at h
    · rename_i c; exact List.mem_map.2 ⟨c, by simpa using h, rfl⟩
    · cases h

theorem step_txt (t : GTok) (h : wf t = true) (hv0 : 0 ≤ t.value) (hv : t.value < 18446744073709551616) (m : List UInt8) (hm : Sep m) :
    step (txt t ++ m) = .tok t.kind.toNat t.text t.value.toNat (txt t).length ∧ txt t ≠ [] := by
  obtain ⟨kd, tx, v, ln, cl⟩ := t
  simp only [wf, txt] at *
  by_cases h1 : kd = 1
  · subst h1
    simp only [if_true, Bool.and_eq_true, decide_eq_true_eq, show ¬ (1 : Int) = 2 by omega, show ¬ (1 : Int) = 3 by omega, if_false] at *
    obtain ⟨rfl, hw⟩ := h
    cases tx with
    | nil => simp [wordB] at hw
    | cons c r =>
      simp only [wordB, Bool.and_eq_true] at hw
      have hwb : isWB c = true := by rw [wb_eq, hw.1]; rfl
      have hdg : isDig c = false := by
        cases hd : isDig c with
        | false => rfl
        | true => have := let_dig c hd; rw [hw.1] at this; cases this
      have hall : (c :: r).all isWB = true := by rw [List.all_cons, hwb, hw.2]; rfl
      have hrun := run_sep isWB (c :: r) m hall (by rcases hm with h | ⟨g, s, h, h2, _⟩; exact .inl h; exact .inr ⟨g, s, h, h2⟩)
      refine ⟨?_, by simp⟩
      have e : step ((c :: r) ++ m) = first ((c :: r) ++ m) := by
        rw [List.cons_append]; simp [step, (wb_sp c hwb).1, (wb_sp c hwb).2]
      rw [e]
      have e2 : first ((c :: r) ++ m) = .tok 1 (((c :: r) ++ m).take (run isWB ((c :: r) ++ m))) 0 (run isWB ((c :: r) ++ m)) := by
        rw [List.cons_append]; simp [first, hdg, hwb]
      rw [e2, hrun, List.take_left]; rfl
  by_cases h2 : kd = 2
  · subst h2
    simp only [show ¬ (2 : Int) = 1 by omega, if_true, if_false, List.isEmpty_iff] at *
    subst h
    obtain ⟨x, rfl⟩ : ∃ x : Nat, v = (x : Int) := ⟨v.toNat, by omega⟩
    have hx : x < 18446744073709551616 := by omega
    rw [Int.toNat_natCast]
    have hd := isDec x hx
    have hall := decL_wb x hx
    have hn := num_decL x hx
    have hda := hd.all
    obtain ⟨c, r, hc⟩ := List.exists_cons_of_ne_nil hd.ne
    rw [hc] at hall hn hda ⊢
    have hdg : isDig c = true := by rw [List.all_cons, Bool.and_eq_true] at hda; exact hda.1
    have hwb := dig_wb c hdg
    have hrun := run_sep isWB (c :: r) m hall (by rcases hm with h | ⟨g, s, h, h2, _⟩; exact .inl h; exact .inr ⟨g, s, h, h2⟩)
    refine ⟨?_, by simp⟩
    have e : step ((c :: r) ++ m) = first ((c :: r) ++ m) := by
      rw [List.cons_append]; simp [step, (wb_sp c hwb).1, (wb_sp c hwb).2]
    rw [e]
    have e2 : first ((c :: r) ++ m) = (match num (((c :: r) ++ m).take (run isWB ((c :: r) ++ m))) with | .bad => .err 50 | .big => .err 6 | .val v => .tok 2 [] v (run isWB ((c :: r) ++ m))) := by
      rw [List.cons_append]; simp only [first, hdg, if_true]; rfl
    rw [e2, hrun, List.take_left, hn]; rfl
  by_cases h3 : kd = 3
  · subst h3
    simp only [show ¬ (3 : Int) = 1 by omega, show ¬ (3 : Int) = 2 by omega, if_true, if_false, Bool.and_eq_true, decide_eq_true_eq] at *
    obtain ⟨rfl, hs⟩ := h
    refine ⟨?_, by simp⟩
    have e : step (34 :: (tx ++ [34]) ++ m) = quoted (tx ++ 34 :: m) := by
      rw [List.cons_append, List.append_assoc]; rfl
    rw [e]
    have hrun : run isStr (tx ++ 34 :: m) = tx.length := by rw [run_app tx m 34 (by decide)]; exact run_whole _ _ hs
    unfold quoted
    rw [hrun, List.drop_left, List.take_left]
    simp
  by_cases h4 : kd = 4
  · subst h4
    simp only [show ¬ (4 : Int) = 1 by omega, show ¬ (4 : Int) = 2 by omega, show ¬ (4 : Int) = 3 by omega, if_true, if_false, Bool.and_eq_true, decide_eq_true_eq] at *
    obtain ⟨rfl, hp⟩ := h
    obtain ⟨hk, c, r, rfl, hs, h35, hdg, hwb, h34⟩ := marks_ok tx (punct_mem tx hp)
    refine ⟨?_, by simp⟩
    have e : step ((c :: r) ++ m) = marked ((c :: r) ++ m) := by
      rw [List.cons_append]; simp [step, hs, h35, first, hdg, hwb, h34]
    rw [e]
    rcases hm with rfl | ⟨g, s, rfl, _, hg⟩
    · rw [List.append_nil, hk]; rfl
    · rw [marked_app (c :: r) s g (by simp) hg, hk]; rfl
  · simp [h1, h2, h3, h4] at h

/-- The same tokens, positions aside. -/
def GTok.bare (t : GTok) : Int × List UInt8 × Int := (t.kind, t.text, t.value)
def bareEq (us : List Tok) (ts : List GTok) : Prop := us.map (fun u => u.g.bare) = ts.map GTok.bare
def WfAll (ts : List GTok) : Prop := ∀ t ∈ ts, wf t = true ∧ 0 ≤ t.value ∧ t.value < 18446744073709551616
theorem wf_kind (t : GTok) (h : wf t = true) : 0 ≤ t.kind := by
  unfold wf at h
  (repeat' split at h) <;> first | omega | cases h
theorem lex_txt (t : GTok) (h : wf t = true) (hv0 : 0 ≤ t.value) (hv : t.value < 18446744073709551616) (m : List UInt8) (hm : Sep m) (p : Nat × Nat) :
    ∃ (q : Nat × Nat) (u : Tok), u.g.bare = t.bare ∧ lex 0 p (txt t ++ m) = (lex 0 q m).cons u := by
  obtain ⟨hs, hne⟩ := step_txt t h hv0 hv m hm
  refine ⟨adv p ((txt t ++ m).take (txt t).length), ⟨t.kind.toNat, t.text, t.value.toNat, p.1, p.2⟩, ?_, ?_⟩
  · have := wf_kind t h
    simp only [GTok.bare, Tok.g]
    rw [Int.toNat_of_nonneg this, Int.toNat_of_nonneg hv0]
  · rw [lex_tk p (by simp [hne]) hs, List.drop_left]
theorem sep_sp (m : List UInt8) : Sep (32 :: m) := .inr ⟨32, m, rfl, by decide, by decide, by decide, by decide⟩
theorem lex_tail : ∀ (ts : List GTok) (_ : WfAll ts) (p : Nat × Nat), ∃ us, lex 0 p (tailT ts) = .ok us ∧ bareEq us ts := by
  intro ts
  induction ts with
  | nil => intro _ p; exact ⟨[], by simp [tailT, lex_nil], rfl⟩
  | cons t r ih =>
    intro hw p
    have e : tailT (t :: r) = 32 :: (txt t ++ tailT r) := by simp [tailT]
    rw [e]
    have hsk : step (32 :: (txt t ++ tailT r)) = .skip 1 := by simp [step, isSp, spI]
    rw [lex_sk p (by simp) hsk]
    simp only [List.take_succ_cons, List.take_zero, List.drop_succ_cons, List.drop_zero]
    obtain ⟨h1, h2, h3⟩ := hw t List.mem_cons_self
    have hsep : Sep (tailT r) := by
      cases r with
      | nil => exact .inl rfl
      | cons a b =>
        have : tailT (a :: b) = 32 :: (txt a ++ tailT b) := by simp [tailT]
        rw [this]; exact sep_sp _
    obtain ⟨q, u, hu, hl⟩ := lex_txt t h1 h2 h3 (tailT r) hsep (adv p [32])
    obtain ⟨us, hus, hb⟩ := ih (fun x hx => hw x (List.mem_cons_of_mem _ hx)) q
    refine ⟨u :: us, ?_, ?_⟩
    · rw [hl, hus]; rfl
    · unfold bareEq at hb ⊢; simp only [List.map_cons, hu, hb]
theorem lex_join (ts : List GTok) (hw : WfAll ts) (p : Nat × Nat) : ∃ us, lex 0 p (joinT ts) = .ok us ∧ bareEq us ts := by
  cases ts with
  | nil => exact ⟨[], by simp [joinT, lex_nil], rfl⟩
  | cons t r =>
    obtain ⟨h1, h2, h3⟩ := hw t List.mem_cons_self
    have hsep : Sep (tailT r) := by
      cases r with
      | nil => exact .inl rfl
      | cons a b =>
        have : tailT (a :: b) = 32 :: (txt a ++ tailT b) := by simp [tailT]
        rw [this]; exact sep_sp _
    obtain ⟨q, u, hu, hl⟩ := lex_txt t h1 h2 h3 (tailT r) hsep p
    obtain ⟨us, hus, hb⟩ := lex_tail r (fun x hx => hw x (List.mem_cons_of_mem _ hx)) q
    refine ⟨u :: us, ?_, ?_⟩
    · show lex 0 p (txt t ++ tailT r) = _
      rw [hl, hus]; rfl
    · unfold bareEq at hb ⊢; simp only [List.map_cons, hu, hb]
/-- Well-formedness and text look at a token's bare parts alone. -/
theorem wf_bare {a b : GTok} (h : a.bare = b.bare) : wf a = wf b ∧ txt a = txt b := by
  obtain ⟨k, t, v, _, _⟩ := a
  obtain ⟨k', t', v', _, _⟩ := b
  simp only [GTok.bare, Prod.mk.injEq] at h
  obtain ⟨rfl, rfl, rfl⟩ := h
  exact ⟨rfl, rfl⟩
theorem fmtL_bare : ∀ (xs bs : List GTok), xs.map GTok.bare = bs.map GTok.bare → xs.all wf = bs.all wf ∧ xs.map txt = bs.map txt := by
  intro xs
  induction xs with
  | nil => intro bs h; cases bs with
    | nil => exact ⟨rfl, rfl⟩
    | cons b r => simp at h
  | cons a r ih =>
    intro bs h
    cases bs with
    | nil => simp at h
    | cons b s =>
      simp only [List.map_cons, List.cons.injEq] at h
      obtain ⟨h1, h2⟩ := ih s h.2
      obtain ⟨h3, h4⟩ := wf_bare h.1
      exact ⟨by simp only [List.all_cons, h3, h1], by simp only [List.map_cons, h4, h2]⟩
theorem joinT_map (xs bs : List GTok) (h : xs.map txt = bs.map txt) : joinT xs = joinT bs := by
  have ht : ∀ zs : List GTok, tailT zs = (zs.map txt).flatMap (fun t => 32 :: t) := by intro zs; simp [tailT, List.flatMap_map]
  cases xs with
  | nil => cases bs with
    | nil => rfl
    | cons b r => simp at h
  | cons a r => cases bs with
    | nil => simp at h
    | cons b s =>
      simp only [List.map_cons, List.cons.injEq] at h
      show txt a ++ tailT r = txt b ++ tailT s
      rw [ht, ht, h.1, h.2]
theorem fmtL_same (xs bs : List GTok) (h : xs.map GTok.bare = bs.map GTok.bare) : fmtL xs = fmtL bs := by
  obtain ⟨h1, h2⟩ := fmtL_bare xs bs h
  unfold fmtL
  rw [h1, joinT_map xs bs h2]
end Go.Proofs.YtmodjokoggmnaaaGreatDoor
