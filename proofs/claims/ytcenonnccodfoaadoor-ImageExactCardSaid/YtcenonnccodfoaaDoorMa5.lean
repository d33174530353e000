/-
  The plain mathematics of chapter 2: what a text's tokens are, as functions on lists of bytes. Nothing of the program.
  Conditions: none.
  Contracts of the small functions of hwlex and of the reference that look at one byte, and of the loops that count bytes.
  Conditions: a byte is a number from 0 to 255; a text's length is at most maxLen.
  Contracts of hwlex.isWord, hwlex.IsName, and of the reference's hex, Word and IsName.
  Conditions: a text's length is at most maxLen.
-/
import Derived.Test.YtcenonnccodfoaaDoorProg
import Derived.WalkKit
import Derived.Handy
import Derived.Below
import Derived.Lib.Hide
import Derived.Lib.Strings
namespace Go.Proofs.YtcenonnccodfoaaDoor

/-- Kinds of bytes, of a number (the walk meets bytes asx numbers). -/
def digI (n : Int) : Bool := decide (48 ≤ n ∧ n ≤ 57)
def ltrI (n : Int) : Bool := decide (n = 95 ∨ (97 ≤ n ∧ n ≤ 122) ∨ (65 ≤ n ∧ n ≤ 90))
def wbI (n : Int) : Bool := ltrI n || digI n
def strI (n : Int) : Bool := decide (32 ≤ n ∧ n ≤ 126 ∧ n ≠ 34 ∧ n ≠ 92)
def hexI (n : Int) : Bool := decide ((97 ≤ n ∧ n ≤ 102) ∨ (65 ≤ n ∧ n ≤ 70))
def spI (n : Int) : Bool := decide (n = 32 ∨ n = 9 ∨ n = 10 ∨ n = 13)

def isDig (c : UInt8) : Bool := digI c.toNat
def isLet (c : UInt8) : Bool := ltrI c.toNat
def isWB (c : UInt8) : Bool := wbI c.toNat
def isStr (c : UInt8) : Bool := strI c.toNat
def isHex (c : UInt8) : Bool := digI c.toNat || hexI c.toNat
def isSp (c : UInt8) : Bool := spI c.toNat
def notNl (c : UInt8) : Bool := c != 10

/-- The number of bytes at the beginning of l that p takes. -/
def run (p : UInt8 → Bool) (l : List UInt8) : Nat := (l.takeWhile p).length

/-- The punctuation marks. -/
def marks1 : List UInt8 := [123, 125, 40, 41, 91, 93, 44, 59, 58, 61, 60, 62, 33, 43, 45, 42, 63, 46, 47]
def marks2 : List (List UInt8) := [[60, 61], [62, 61], [33, 61], [46, 46], [45, 62]]
def punct (l : List UInt8) : Bool := marks2.contains l || (match l with | [c] => marks1.contains c | _ => false)

/-- What a numeral comes to. -/
inductive Num where
  | bad
  | big
  | val (v : Nat) deriving DecidableEq

/-- The value of a digit, decimal or hexadecimal. -/
def dval (c : UInt8) : Nat := if c.toNat ≤ 57 then c.toNat - 48 else if c.toNat ≤ 70 then c.toNat - 55 else c.toNat - 87
def value (base : Nat) (l : List UInt8) : Nat := l.foldl (fun a c => a * base + dval c) 0
def okDig (base : Nat) (c : UInt8) : Bool := if base = 10 then isDig c else isHex c

/-- The suffix: how far it shifts, and what stands before it. -/
def shiftOf (c : UInt8) : Nat := if c = 75 then 10 else if c = 77 then 20 else if c = 71 then 30 else 0
def sfx (l : List UInt8) : Nat := match l.getLast? with | some c => shiftOf c | none => 0
def body (l : List UInt8) : List UInt8 := if sfx l = 0 then l else l.dropLast
def hexed (l : List UInt8) : Bool := match l with | 48 :: 120 :: _ => true | _ => false
def digits (base : Nat) (sh : Nat) (l : List UInt8) : Num :=
  if l = [] ∨ l.all (okDig base) = false then .bad
  else if value base l * 2 ^ sh < 18446744073709551616 then .val (value base l * 2 ^ sh) else .big
def num (l : List UInt8) : Num :=
  let b := body l
  if hexed b then digits 16 (sfx l) (b.drop 2)
  else match b with
    | 48 :: _ :: _ => .bad
    | _ => digits 10 (sfx l) b

/-- What stands at the beginning of a text that is not empty. -/
inductive Act1 where
  | skip (n : Nat)
  | tok (kind : Nat) (text : List UInt8) (value : Nat) (n : Nat)
  | err (e : Nat) deriving DecidableEq

def quoted (r : List UInt8) : Act1 :=
  match r.drop (run isStr r) with
  | 34 :: _ => .tok 3 (r.take (run isStr r)) 0 (run isStr r + 2)
  | _ => .err 50
def marked (l : List UInt8) : Act1 :=
  if 1 < l.length ∧ punct (l.take 2) = true then .tok 4 (l.take 2) 0 2
  else if punct (l.take 1) = true then .tok 4 (l.take 1) 0 1
  else .err 50
def first (l : List UInt8) : Act1 :=
  match l with
  | [] => .err 50
  | c :: r =>
    if isDig c then
      match num (l.take (run isWB l)) with
      | .bad => .err 50
      | .big => .err 6
      | .val v => .tok 2 [] v (run isWB l)
    else if isWB c then .tok 1 (l.take (run isWB l)) 0 (run isWB l)
    else if c = 34 then quoted r
    else marked l
def step (l : List UInt8) : Act1 :=
  match l with
  | [] => .err 50
  | c :: _ => if isSp c then .skip 1 else if c = 35 then .skip (run notNl l) else first l

/-- A token with its position. -/
structure Tok where
  kind : Nat
  text : List UInt8
  value : Nat
  line : Nat
  col : Nat deriving DecidableEq

def adv1 (p : Nat × Nat) (c : UInt8) : Nat × Nat := if c = 10 then (p.1 + 1, 1) else (p.1, p.2 + 1)
def adv (p : Nat × Nat) (l : List UInt8) : Nat × Nat := l.foldl adv1 p

/-- What scanning comes to: the tokens, or the position and the number of the first error. -/
inductive Res where
  | ok (ts : List Tok)
  | no (line col e : Nat) deriving DecidableEq
def Res.cons (t : Tok) : Res → Res
  | .ok ts => .ok (t :: ts)
  | r => r
/-- k bytes of l belong to what has been taken. -/
def lex : Nat → Nat × Nat → List UInt8 → Res
  | _, _, [] => .ok []
  | k + 1, p, c :: r => lex k (adv1 p c) r
  | 0, p, c :: r =>
    match step (c :: r) with
    | .skip n => lex (n - 1) (adv1 p c) r
    | .tok kd tx v n => (lex (n - 1) (adv1 p c) r).cons ⟨kd, tx, v, p.1, p.2⟩
    | .err e => .no p.1 p.2 e
def scan (l : List UInt8) : Res := if 65536 < l.length then .no 0 0 15 else lex 0 (1, 1) l

theorem lex_skip (l : List UInt8) : ∀ (k : Nat) (p : Nat × Nat), lex k p l = lex 0 (adv p (l.take k)) (l.drop k) := by
  induction l with
  | nil => intro k p; cases k <;> simp [lex]
  | cons c r ih =>
    intro k p
    cases k with
    | zero => simp [adv]
    | succ k => simp only [lex, List.take_succ_cons, List.drop_succ_cons]; rw [ih]; rfl
theorem adv_append (p : Nat × Nat) (a b : List UInt8) : adv p (a ++ b) = adv (adv p a) b := by simp [adv]
theorem lex_nil (k : Nat) (p : Nat × Nat) : lex k p [] = .ok [] := by cases k <;> rfl
theorem lex_go {l : List UInt8} (p : Nat × Nat) (h : l ≠ []) : lex 0 p l =
    match step l with
    | .skip n => lex 0 (adv p (l.take (n - 1 + 1))) (l.drop (n - 1 + 1))
    | .tok kd tx v n => (lex 0 (adv p (l.take (n - 1 + 1))) (l.drop (n - 1 + 1))).cons ⟨kd, tx, v, p.1, p.2⟩
    | .err e => .no p.1 p.2 e := by
  obtain ⟨c, r, rfl⟩ := List.exists_cons_of_ne_nil h
  rw [lex]
  cases step (c :: r) with
  | skip n => simp only []; rw [lex_skip]; rfl
  | tok kd tx v n => simp only []; rw [lex_skip]; rfl
  | err e => rfl

section

variable {p : UInt8 → Bool} {l : List UInt8} {k : Nat}

theorem run_le : run p l ≤ l.length := (List.takeWhile_prefix p).length_le
theorem run_cons_pos {c : UInt8} (h : p c = true) : run p (c :: l) = run p l + 1 := by simp [run, h]
theorem run_cons_neg {c : UInt8} (h : p c = false) : run p (c :: l) = 0 := by simp [run, h]
theorem run_go (h : k < l.length) (hk : k ≤ run p l) (hp : p l[k] = true) : k + 1 ≤ run p l := by
  induction l generalizing k with
  | nil => simp at h
  | cons c r ih =>
    cases k with
    | zero => rw [run_cons_pos (by simpa using hp)]; omega
    | succ k =>
      cases hc : p c with
      | false => rw [run_cons_neg hc] at hk; omega
      | true =>
        rw [run_cons_pos hc] at hk ⊢
        have := ih (k := k) (by simpa using h) (by omega) (by simpa using hp)
        omega
theorem run_stop (h : k < l.length) (hk : k ≤ run p l) (hp : p l[k] = false) : k = run p l := by
  induction l generalizing k with
  | nil => simp at h
  | cons c r ih =>
    cases k with
    | zero => rw [run_cons_neg (by simpa using hp)]
    | succ k =>
      cases hc : p c with
      | false => rw [run_cons_neg hc] at hk; omega
      | true =>
        rw [run_cons_pos hc] at hk ⊢
        have := ih (k := k) (by simpa using h) (by omega) (by simpa using hp)
        omega
theorem run_end (h : l.length ≤ k) (hk : k ≤ run p l) : k = run p l := by have := @run_le p l; omega
theorem run_take : l.take (run p l) = l.takeWhile p := by
  induction l with
  | nil => rfl
  | cons c r ih =>
    cases hc : p c with
    | true => rw [run_cons_pos hc, List.take_succ_cons, ih, List.takeWhile_cons, if_pos hc]
    | false => rw [run_cons_neg hc, List.takeWhile_cons]; simp [hc]
theorem run_all (c : UInt8) (h : c ∈ l.take (run p l)) : p c = true := by
  rw [run_take] at h
  induction l with
  | nil => simp at h
  | cons d r ih =>
    rw [List.takeWhile_cons] at h
    split at h
    · rcases List.mem_cons.1 h with rfl | h'
      · assumption
      · exact ih h'
    · simp at h
end

end Go.Proofs.YtcenonnccodfoaaDoor


namespace Go.Proofs.YtcenonnccodfoaaDoor

open Go.RowKit

theorem ret_bool {a b : Bool} (h : a = b) : Ending.returned (.bool a) = .returned (.bool b) := by rw [h]
theorem ret_int {k : IntKind} {a b : Int} (h : a = b) : Ending.returned (.int k a) = .returned (.int k b) := by rw [h]
theorem byte_bd (c : UInt8) : (0 : Int) ≤ (c.toNat : Int) ∧ (c.toNat : Int) ≤ 255 := by have := c.toNat_lt; omega

theorem isDigit_any (n : Int) (w : World) (h0 : 0 ≤ n) (h1 : n ≤ 255) : Calls Tryd.prog 65 #[.int .u8 n] w fun e w' => e = .returned (.bool (digI n)) ∧ w = w' := by
  go_enter Tryd.func65, Tryd.ntmps65
  go_wp2
  all_goals go_ret
  all_goals refine ⟨ret_bool ?_, rfl⟩
  all_goals (rw [Bool.eq_iff_iff]; simp only [digI, decide_eq_true_eq, Bool.false_eq_true, false_iff]; omega)

theorem isWordByte_any (n : Int) (w : World) (h0 : 0 ≤ n) (h1 : n ≤ 255) : Calls Tryd.prog 72 #[.int .u8 n] w fun e w' => e = .returned (.bool (wbI n)) ∧ w = w' := by
  go_enter Tryd.func72, Tryd.ntmps72
  go_wp2_with (go_at_call 65; refine (isDigit_any _ _ h0 h1).mono ?_; rintro e w' ⟨rfl, rfl⟩)
  all_goals go_ret
  all_goals refine ⟨ret_bool ?_, rfl⟩
  all_goals (rw [Bool.eq_iff_iff]; simp only [wbI, ltrI, digI, decide_eq_true_eq, Bool.or_eq_true, beq_iff_eq, true_iff]; omega)

theorem rLetter_any (n : Int) (w : World) (h0 : 0 ≤ n) (h1 : n ≤ 255) : Calls Tryd.prog 58 #[.int .u8 n] w fun e w' => e = .returned (.bool (ltrI n)) ∧ w = w' := by
  go_enter Tryd.func58, Tryd.ntmps58
  go_wp2
  all_goals go_ret
  all_goals refine ⟨ret_bool ?_, rfl⟩
  all_goals (rw [Bool.eq_iff_iff]; simp only [ltrI, decide_eq_true_eq, Bool.or_eq_true, beq_iff_eq, true_iff]; omega)

theorem rDigit_any (n : Int) (w : World) (h0 : 0 ≤ n) (h1 : n ≤ 255) : Calls Tryd.prog 59 #[.int .u8 n] w fun e w' => e = .returned (.bool (digI n)) ∧ w = w' := by
  go_enter Tryd.func59, Tryd.ntmps59
  go_wp2
  all_goals go_ret
  all_goals refine ⟨ret_bool ?_, rfl⟩
  all_goals (rw [Bool.eq_iff_iff]; simp only [digI, decide_eq_true_eq, Bool.false_eq_true, false_iff]; omega)

theorem runLen_any (l : List UInt8) (w : World) (hl : l.length ≤ maxLen) : Calls Tryd.prog 66 #[.string ⟨l.toArray⟩] w fun e w' => e = .returned (.int .i64 (run isWB l : Int)) ∧ w = w' := by
  unfold maxLen at hl
  go_enter Tryd.func66, Tryd.ntmps66
  go_wp2
  go_loop [3] (fun i => ∃ k : Nat, k ≤ run isWB l ∧ i = .int .i64 k) (fun i => l.length - (intOf i).toNat)
  case atStart => exact ⟨0, Nat.zero_le _, rfl⟩
  case round =>
    obtain ⟨k, hk, rfl⟩ := hrel
    have hrl := @run_le isWB l
    by_cases hlt : k < l.length
    · have hb := byte_bd l[k]
      go_wp2_with fail
      refine (isWordByte_any _ _ hb.1 hb.2).mono ?_
      rintro e w' ⟨rfl, rfl⟩
      have hb2 : ({ data := l.toArray } : ByteArray)[k] = l[k] := rfl
      cases hd : wbI ((l[k].toNat : Int))
      · have HS : Hid (k = run isWB l) := run_stop hlt hk hd
        rw [hb2]
        clear hb2 hd
        go_wp2
        go_ret
        exact ⟨ret_int (by rw [← HS.out]), rfl⟩
      · have HG : Hid (k + 1 ≤ run isWB l) := run_go hlt hk hd
        rw [hb2]
        clear hb2 hd
        go_wp2
        go_round
        case rel => exact ⟨k + 1, HG.out, by go_num⟩
        case measure => simp [intOf]; omega
    · have HS : Hid (k = run isWB l) := run_end (by omega) hk
      go_wp2
      go_ret
      exact ⟨ret_int (by rw [← HS.out]), rfl⟩

end Go.Proofs.YtcenonnccodfoaaDoor


namespace Go.Proofs.YtcenonnccodfoaaDoor

open Go.RowKit

theorem ba_size (l : List UInt8) : (⟨l.toArray⟩ : ByteArray).size = l.length := by rw [Lib.size_eq]
theorem all_take (p : UInt8 → Bool) (l : List UInt8) (k : Nat) (h : k < l.length) : (l.take (k + 1)).all p = ((l.take k).all p && p l[k]) := by
  rw [List.take_succ_eq_append_getElem h, List.all_append]; simp
theorem all_stop (p : UInt8 → Bool) (l : List UInt8) (k : Nat) (h : k < l.length) (hp : p l[k] = false) : l.all p = false := by
  rw [List.all_eq_false]; exact ⟨l[k], List.getElem_mem h, by simp [hp]⟩

def wordB (l : List UInt8) : Bool := match l with | [] => false | c :: r => isLet c && r.all isWB
def nameB (l : List UInt8) : Bool := decide (l.length ≤ 24) && wordB l
theorem let_dig (c : UInt8) (h : isDig c = true) : isLet c = false := by
  simp [isDig, digI] at h
  simp [isLet, ltrI]; omega
theorem wb_eq (c : UInt8) : isWB c = (isLet c || isDig c) := rfl
theorem run_all_iff (p : UInt8 → Bool) (l : List UInt8) : (run p l = l.length) ↔ l.all p = true := by
  induction l with
  | nil => simp [run]
  | cons c r ih =>
    cases hc : p c with
    | true => rw [run_cons_pos hc]; simp [hc, ← ih]
    | false => rw [run_cons_neg hc]; simp [hc]
theorem wordB_eq (c : UInt8) (r : List UInt8) : wordB (c :: r) = (!digI (c.toNat : Int) && decide (run isWB (c :: r) = (c :: r).length)) := by
  rw [Bool.eq_iff_iff]
  have hd : digI (c.toNat : Int) = isDig c := rfl
  rw [hd]
  simp only [wordB, Bool.and_eq_true, Bool.not_eq_true', decide_eq_true_eq, run_all_iff, List.all_cons, wb_eq c, Bool.or_eq_true]
  constructor
  · rintro ⟨h1, h2⟩
    refine ⟨?_, .inl h1, h2⟩
    cases hd : isDig c with
    | false => rfl
    | true => rw [let_dig c hd] at h1; cases h1
  · rintro ⟨h1, h2 | h2, h3⟩
    · exact ⟨h2, h3⟩
    · rw [h1] at h2; cases h2

theorem isWord_any (l : List UInt8) (w : World) (hl : l.length ≤ maxLen) : Calls Tryd.prog 56 #[.string ⟨l.toArray⟩] w fun e w' => e = .returned (.bool (wordB l)) ∧ w = w' := by
  cases l with
  | nil =>
    go_enter Tryd.func56, Tryd.ntmps56
    go_wp2
    go_ret
    exact ⟨rfl, rfl⟩
  | cons c r =>
    have HR := Lib.hid (runLen_any (c :: r) w hl)
    have hW := wordB_eq c r
    have hb := byte_bd c
    have hsz : 0 < (⟨(c :: r).toArray⟩ : ByteArray).size := by rw [ba_size]; simp
    have hx : (⟨(c :: r).toArray⟩ : ByteArray)[0]'hsz = c := rfl
    have hrl := @run_le isWB (c :: r)
    have hml : r.length + 1 ≤ 9223372036854775807 := by unfold maxLen at hl; simpa using hl
    generalize hn : run isWB (c :: r) = n at *
    cases hd : digI (c.toNat : Int)
    · by_cases he : n = (c :: r).length
      · have hnb : ((n : Int) == ((r.length : Int) + 1)) = true := by rw [he]; simp
        have HW : Hid (wordB (c :: r) = true) := Lib.hid (by rw [hW, hd]; simp [he])
        clear hW he hn
        go_enter Tryd.func56, Tryd.ntmps56
        go_wp2_with (first | (go_at_call 65; refine (isDigit_any _ _ hb.1 hb.2).mono ?_; rintro e w' ⟨rfl, rfl⟩) | (go_at_call 66; refine HR.out.mono ?_; rintro e w' ⟨rfl, rfl⟩))
        go_ret
        exact ⟨ret_bool HW.out.symm, rfl⟩
      · have hnb : ((n : Int) == ((r.length : Int) + 1)) = false := by simp at he ⊢; omega
        have HW : Hid (wordB (c :: r) = false) := Lib.hid (by rw [hW, hd]; simpa using he)
        clear hW he hn
        go_enter Tryd.func56, Tryd.ntmps56
        go_wp2_with (first | (go_at_call 65; refine (isDigit_any _ _ hb.1 hb.2).mono ?_; rintro e w' ⟨rfl, rfl⟩) | (go_at_call 66; refine HR.out.mono ?_; rintro e w' ⟨rfl, rfl⟩))
        go_ret
        exact ⟨ret_bool HW.out.symm, rfl⟩
    · have HW : Hid (wordB (c :: r) = false) := Lib.hid (by rw [hW, hd]; rfl)
      clear hW hn
      go_enter Tryd.func56, Tryd.ntmps56
      go_wp2_with (first | (go_at_call 65; refine (isDigit_any _ _ hb.1 hb.2).mono ?_; rintro e w' ⟨rfl, rfl⟩) | (go_at_call 66; refine HR.out.mono ?_; rintro e w' ⟨rfl, rfl⟩))
      go_ret
      exact ⟨ret_bool HW.out.symm, rfl⟩
theorem isName_any (l : List UInt8) (w : World) (hl : l.length ≤ maxLen) : Calls Tryd.prog 50 #[.string ⟨l.toArray⟩] w fun e w' => e = .returned (.bool (nameB l)) ∧ w = w' := by
  have H := Lib.hid (isWord_any l w hl)
  unfold maxLen at hl
  by_cases h : l.length ≤ 24
  · have HE : Hid (nameB l = wordB l) := Lib.hid (by simp [nameB, h])
    generalize wordB l = b at *
    go_enter Tryd.func50, Tryd.ntmps50
    go_wp2_with (go_at_call 56; refine H.out.mono ?_; rintro e w' ⟨rfl, rfl⟩)
    go_ret
    exact ⟨ret_bool HE.out.symm, rfl⟩
  · have HE : Hid (nameB l = false) := Lib.hid (by simp [nameB, h])
    go_enter Tryd.func50, Tryd.ntmps50
    go_wp2
    go_ret
    exact ⟨ret_bool HE.out.symm, rfl⟩

/-- The reference's hex. -/
def hxI (n : Int) : Int := if 48 ≤ n ∧ n ≤ 57 then n - 48 else if 97 ≤ n ∧ n ≤ 102 then n - 97 + 10 else if 65 ≤ n ∧ n ≤ 70 then n - 65 + 10 else -1
set_option maxHeartbeats 1000000 in
theorem rWord_any (l : List UInt8) (w : World) (hl : l.length ≤ maxLen) : Calls Tryd.prog 53 #[.string ⟨l.toArray⟩] w fun e w' => e = .returned (.bool (wordB l)) ∧ w = w' := by
  unfold maxLen at hl
  cases l with
  | nil =>
    go_enter Tryd.func53, Tryd.ntmps53
    go_wp2
    go_ret
    exact ⟨rfl, rfl⟩
  | cons c r =>
    have hb := byte_bd c
    have hsz : 0 < (⟨(c :: r).toArray⟩ : ByteArray).size := by rw [ba_size]; simp
    have hx : (⟨(c :: r).toArray⟩ : ByteArray)[0]'hsz = c := rfl
    have hml : r.length + 1 ≤ 9223372036854775807 := by simpa using hl
    cases hc : ltrI (c.toNat : Int)
    · have HE : Hid (wordB (c :: r) = false) := Lib.hid (by simp only [wordB, isLet, hc]; rfl)
      go_enter Tryd.func53, Tryd.ntmps53
      go_wp2_with (go_at_call 58; refine (rLetter_any _ _ hb.1 hb.2).mono ?_; rintro e w' ⟨rfl, rfl⟩)
      go_ret
      exact ⟨ret_bool HE.out.symm, rfl⟩
    · have HE : Hid (wordB (c :: r) = r.all isWB) := Lib.hid (by simp only [wordB, isLet, hc]; rfl)
      go_enter Tryd.func53, Tryd.ntmps53
      go_wp2_with (go_at_call 58; refine (rLetter_any _ _ hb.1 hb.2).mono ?_; rintro e w' ⟨rfl, rfl⟩)
      go_loop [3] (fun i => ∃ k : Nat, k ≤ r.length ∧ i = .int .i64 ((k : Int) + 1) ∧ Hid ((r.take k).all isWB = true)) (fun i => r.length + 1 - (intOf i).toNat)
      case atStart => exact ⟨0, Nat.zero_le _, rfl, Lib.hid rfl⟩
      case round =>
        obtain ⟨k, hk, rfl, HA⟩ := hrel
        rcases Nat.lt_or_ge k r.length with hlt | hge
        · have hbk := byte_bd r[k]
          have hsk : k + 1 < (⟨(c :: r).toArray⟩ : ByteArray).size := by rw [ba_size]; simp; omega
          have hxk : (⟨(c :: r).toArray⟩ : ByteArray)[k + 1]'hsk = r[k] := rfl
          have HT := Lib.hid (all_take isWB r k hlt)
          have HZ : Hid (isWB r[k] = false → r.all isWB = false) := Lib.hid (all_stop isWB r k hlt)
          have HO : Hid (isWB r[k] = (ltrI (r[k].toNat : Int) || digI (r[k].toNat : Int))) := Lib.hid rfl
          generalize r[k] = d at *
          cases h1 : ltrI (d.toNat : Int)
          · cases h2 : digI (d.toNat : Int)
            · have HQ : Hid (r.all isWB = false) := Lib.hid (HZ.out (by rw [HO.out, h1, h2]; rfl))
              go_wp2_with (first | (go_at_call 58; refine (rLetter_any _ _ hbk.1 hbk.2).mono ?_; rintro e w' ⟨rfl, rfl⟩) | (go_at_call 59; refine (rDigit_any _ _ hbk.1 hbk.2).mono ?_; rintro e w' ⟨rfl, rfl⟩))
              go_ret
              exact ⟨ret_bool (by rw [HE.out, HQ.out]), rfl⟩
            · have HQ : Hid (isWB d = true) := Lib.hid (by rw [HO.out, h1, h2]; rfl)
              go_wp2_with (first | (go_at_call 58; refine (rLetter_any _ _ hbk.1 hbk.2).mono ?_; rintro e w' ⟨rfl, rfl⟩) | (go_at_call 59; refine (rDigit_any _ _ hbk.1 hbk.2).mono ?_; rintro e w' ⟨rfl, rfl⟩))
              go_round
              case rel => exact ⟨k + 1, by omega, by go_num, Lib.hid (by rw [HT.out, HA.out, HQ.out]; rfl)⟩
              case measure => simp [intOf]; omega
          · have HQ : Hid (isWB d = true) := Lib.hid (by rw [HO.out, h1]; rfl)
            go_wp2_with (first | (go_at_call 58; refine (rLetter_any _ _ hbk.1 hbk.2).mono ?_; rintro e w' ⟨rfl, rfl⟩) | (go_at_call 59; refine (rDigit_any _ _ hbk.1 hbk.2).mono ?_; rintro e w' ⟨rfl, rfl⟩))
            go_round
            case rel => exact ⟨k + 1, by omega, by go_num, Lib.hid (by rw [HT.out, HA.out, HQ.out]; rfl)⟩
            case measure => simp [intOf]; omega
        · have HQ : Hid (r.all isWB = true) := Lib.hid (by have h := HA.out; rwa [List.take_of_length_le (by omega)] at h)
          go_wp2
          go_ret
          exact ⟨ret_bool (by rw [HE.out, HQ.out]), rfl⟩
theorem rIsName_any (l : List UInt8) (w : World) (hl : l.length ≤ maxLen) : Calls Tryd.prog 46 #[.string ⟨l.toArray⟩] w fun e w' => e = .returned (.bool (nameB l)) ∧ w = w' := by
  have H := Lib.hid (rWord_any l w hl)
  unfold maxLen at hl
  have HE : Hid (nameB l = (wordB l && decide (l.length ≤ 24))) := Lib.hid (by unfold nameB; rw [Bool.and_comm])
  cases hw : wordB l
  · rw [hw] at H HE
    go_enter Tryd.func46, Tryd.ntmps46
    go_wp2_with (go_at_call 53; refine H.out.mono ?_; rintro e w' ⟨rfl, rfl⟩)
    go_ret
    exact ⟨ret_bool (by rw [HE.out]; rfl), rfl⟩
  · rw [hw] at H HE
    by_cases h : l.length ≤ 24
    · go_enter Tryd.func46, Tryd.ntmps46
      go_wp2_with (go_at_call 53; refine H.out.mono ?_; rintro e w' ⟨rfl, rfl⟩)
      go_ret
      exact ⟨ret_bool (by rw [HE.out]; simp [h]; omega), rfl⟩
    · go_enter Tryd.func46, Tryd.ntmps46
      go_wp2_with (go_at_call 53; refine H.out.mono ?_; rintro e w' ⟨rfl, rfl⟩)
      go_ret
      exact ⟨ret_bool (by rw [HE.out]; simp [h]; omega), rfl⟩
end Go.Proofs.YtcenonnccodfoaaDoor
