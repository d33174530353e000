/-
  The plain mathematics of chapter 2: what a text's tokens are, as functions on lists of bytes. Nothing of the program.
  Conditions: none.
  Contracts of the small functions of hwlex and of the reference that look at one byte, and of the loops that count bytes.
  Conditions: a byte is a number from 0 to 255; a text's length is at most maxLen.
  Contracts of Go's library, as the kit's shelf has them, laid at this program: each is the library's own theorem at this program's numbers.
  Conditions: as each says.
-/
import Derived.Test.YtahhmgoffdggpaaGreatDoorProg
import Derived.WalkKit
import Derived.Handy
import Derived.Below
import Derived.Lib.Hide
import Derived.Shelf.Strings.Builder1
import Derived.Shelf.Strings.Builder2
import Derived.Shelf.Strings.OnBuilder
import Derived.Shelf.Small.Strs
import Derived.Shelf.Small.Wraps
import Derived.Shelf.Utf8.RuneCount
import Derived.Shelf.Strconv.Itoa0
import Derived.Shelf.Strconv.Itoa1
import Derived.Shelf.LaysM
import Derived.Shelf.Strconv.Itoa2
import Derived.Shelf.Strconv.Itoa3
import Derived.Shelf.Strconv.Clone
import Derived.Shelf.Strconv.Lower
import Derived.Shelf.Strconv.RangeError
import Derived.Shelf.LaysC
import Derived.Shelf.Strconv.ToErrorRange
import Derived.Shelf.Strconv.ParseUint10b64
import Derived.Ground.MpProg
import Derived.Shelf.Pu.ParseUintPublic10
import Derived.Shelf.Pu.ErrVarParseUint
import Derived.Shelf.Strings.Search1
import Derived.Shelf.Strings.Search2
import Derived.Shelf.Strings.Search3
import Derived.Shelf.Strings.Count
import Derived.Shelf.Strings.Shaped
import Derived.Shelf.Strings.LastIndex
import Derived.Shelf.Strings.Prefix
import Derived.Shelf.Strings.Split
import Derived.Shelf.Strings.RuneCount
namespace Go.Proofs.YtahhmgoffdggpaaGreatDoor

/-- Kinds of bytes, of a number (the walk meets bytes asx numbers). -/
def digI (n : Int) : Bool := decide (48 ≤ n ∧ n ≤ 57)
def ltrI (n : Int) : Bool := decide (n = 95 ∨ (97 ≤ n ∧ n ≤ 122) ∨ (65 ≤ n ∧ n ≤ 90))
def wbI (n : Int) : Bool := ltrI n || digI n
def strI (n : Int) : Bool := decide (32 ≤ n ∧ n ≤ 126 ∧ n ≠ 34 ∧ n ≠ 92)
def hexI (n : Int) : Bool := decide ((97 ≤ n ∧ n ≤ 102) ∨ (65 ≤ n ∧ n ≤ 70))
def spI (n : Int) : Bool := decide (n = 32 ∨ n = 9 ∨ n = 10 ∨ n = 13)

def isDig (c : UInt8) : Bool := digI c.toNat
def isLet (c : UInt8) : Bool := ltrI c.toNat
def isWB (c : UInt8) : Bool := wbI c.toNat
def isStr (c : UInt8) : Bool := strI c.toNat
def isHex (c : UInt8) : Bool := digI c.toNat || hexI c.toNat
def isSp (c : UInt8) : Bool := spI c.toNat
def notNl (c : UInt8) : Bool := c != 10

/-- The number of bytes at the beginning of l that p takes. -/
def run (p : UInt8 → Bool) (l : List UInt8) : Nat := (l.takeWhile p).length

/-- The punctuation marks. -/
def marks1 : List UInt8 := [123, 125, 40, 41, 91, 93, 44, 59, 58, 61, 60, 62, 33, 43, 45, 42, 63, 46, 47]
def marks2 : List (List UInt8) := [[60, 61], [62, 61], [33, 61], [46, 46], [45, 62]]
def punct (l : List UInt8) : Bool := marks2.contains l || (match l with | [c] => marks1.contains c | _ => false)

/-- What a numeral comes to. -/
inductive Num where
  | bad
  | big
  | val (v : Nat) deriving DecidableEq

/-- The value of a digit, decimal or hexadecimal. -/
def dval (c : UInt8) : Nat := if c.toNat ≤ 57 then c.toNat - 48 else if c.toNat ≤ 70 then c.toNat - 55 else c.toNat - 87
def value (base : Nat) (l : List UInt8) : Nat := l.foldl (fun a c => a * base + dval c) 0
def okDig (base : Nat) (c : UInt8) : Bool := if base = 10 then isDig c else isHex c

/-- The suffix: how far it shifts, and what stands before it. -/
def shiftOf (c : UInt8) : Nat := if c = 75 then 10 else if c = 77 then 20 else if c = 71 then 30 else 0
def sfx (l : List UInt8) : Nat := match l.getLast? with | some c => shiftOf c | none => 0
def body (l : List UInt8) : List UInt8 := if sfx l = 0 then l else l.dropLast
def hexed (l : List UInt8) : Bool := match l with | 48 :: 120 :: _ => true | _ => false
def digits (base : Nat) (sh : Nat) (l : List UInt8) : Num :=
  if l = [] ∨ l.all (okDig base) = false then .bad
  else if value base l * 2 ^ sh < 18446744073709551616 then .val (value base l * 2 ^ sh) else .big
def num (l : List UInt8) : Num :=
  let b := body l
  if hexed b then digits 16 (sfx l) (b.drop 2)
  else match b with
    | 48 :: _ :: _ => .bad
    | _ => digits 10 (sfx l) b

/-- What stands at the beginning of a text that is not empty. -/
inductive Act1 where
  | skip (n : Nat)
  | tok (kind : Nat) (text : List UInt8) (value : Nat) (n : Nat)
  | err (e : Nat) deriving DecidableEq

def quoted (r : List UInt8) : Act1 :=
  match r.drop (run isStr r) with
  | 34 :: _ => .tok 3 (r.take (run isStr r)) 0 (run isStr r + 2)
  | _ => .err 50
def marked (l : List UInt8) : Act1 :=
  if 1 < l.length ∧ punct (l.take 2) = true then .tok 4 (l.take 2) 0 2
  else if punct (l.take 1) = true then .tok 4 (l.take 1) 0 1
  else .err 50
def first (l : List UInt8) : Act1 :=
  match l with
  | [] => .err 50
  | c :: r =>
    if isDig c then
      match num (l.take (run isWB l)) with
      | .bad => .err 50
      | .big => .err 6
      | .val v => .tok 2 [] v (run isWB l)
    else if isWB c then .tok 1 (l.take (run isWB l)) 0 (run isWB l)
    else if c = 34 then quoted r
    else marked l
def step (l : List UInt8) : Act1 :=
  match l with
  | [] => .err 50
  | c :: _ => if isSp c then .skip 1 else if c = 35 then .skip (run notNl l) else first l

/-- A token with its position. -/
structure Tok where
  kind : Nat
  text : List UInt8
  value : Nat
  line : Nat
  col : Nat deriving DecidableEq

def adv1 (p : Nat × Nat) (c : UInt8) : Nat × Nat := if c = 10 then (p.1 + 1, 1) else (p.1, p.2 + 1)
def adv (p : Nat × Nat) (l : List UInt8) : Nat × Nat := l.foldl adv1 p

/-- What scanning comes to: the tokens, or the position and the number of the first error. -/
inductive Res where
  | ok (ts : List Tok)
  | no (line col e : Nat) deriving DecidableEq
def Res.cons (t : Tok) : Res → Res
  | .ok ts => .ok (t :: ts)
  | r => r
/-- k bytes of l belong to what has been taken. -/
def lex : Nat → Nat × Nat → List UInt8 → Res
  | _, _, [] => .ok []
  | k + 1, p, c :: r => lex k (adv1 p c) r
  | 0, p, c :: r =>
    match step (c :: r) with
    | .skip n => lex (n - 1) (adv1 p c) r
    | .tok kd tx v n => (lex (n - 1) (adv1 p c) r).cons ⟨kd, tx, v, p.1, p.2⟩
    | .err e => .no p.1 p.2 e
def scan (l : List UInt8) : Res := if 65536 < l.length then .no 0 0 15 else lex 0 (1, 1) l

theorem lex_skip (l : List UInt8) : ∀ (k : Nat) (p : Nat × Nat), lex k p l = lex 0 (adv p (l.take k)) (l.drop k) := by
  induction l with
  | nil => intro k p; cases k <;> simp [lex]
  | cons c r ih =>
    intro k p
    cases k with
    | zero => simp [adv]
    | succ k => simp only [lex, List.take_succ_cons, List.drop_succ_cons]; rw [ih]; rfl
theorem adv_append (p : Nat × Nat) (a b : List UInt8) : adv p (a ++ b) = adv (adv p a) b := by simp [adv]
theorem lex_nil (k : Nat) (p : Nat × Nat) : lex k p [] = .ok [] := by cases k <;> rfl
theorem lex_go {l : List UInt8} (p : Nat × Nat) (h : l ≠ []) : lex 0 p l =
    match step l with
    | .skip n => lex 0 (adv p (l.take (n - 1 + 1))) (l.drop (n - 1 + 1))
    | .tok kd tx v n => (lex 0 (adv p (l.take (n - 1 + 1))) (l.drop (n - 1 + 1))).cons ⟨kd, tx, v, p.1, p.2⟩
    | .err e => .no p.1 p.2 e := by
  obtain ⟨c, r, rfl⟩ := List.exists_cons_of_ne_nil h
  rw [lex]
  cases step (c :: r) with
  | skip n => simp only []; rw [lex_skip]; rfl
  | tok kd tx v n => simp only []; rw [lex_skip]; rfl
  | err e => rfl

section

variable {p : UInt8 → Bool} {l : List UInt8} {k : Nat}

theorem run_le : run p l ≤ l.length := (List.takeWhile_prefix p).length_le
theorem run_cons_pos {c : UInt8} (h : p c = true) : run p (c :: l) = run p l + 1 := by simp [run, h]
theorem run_cons_neg {c : UInt8} (h : p c = false) : run p (c :: l) = 0 := by simp [run, h]
theorem run_go (h : k < l.length) (hk : k ≤ run p l) (hp : p l[k] = true) : k + 1 ≤ run p l := by
  induction l generalizing k with
  | nil => simp at h
  | cons c r ih =>
    cases k with
    | zero => rw [run_cons_pos (by simpa using hp)]; omega
    | succ k =>
      cases hc : p c with
      | false => rw [run_cons_neg hc] at hk; omega
      | true =>
        rw [run_cons_pos hc] at hk ⊢
        have := ih (k := k) (by simpa using h) (by omega) (by simpa using hp)
        omega
theorem run_stop (h : k < l.length) (hk : k ≤ run p l) (hp : p l[k] = false) : k = run p l := by
  induction l generalizing k with
  | nil => simp at h
  | cons c r ih =>
    cases k with
    | zero => rw [run_cons_neg (by simpa using hp)]
    | succ k =>
      cases hc : p c with
      | false => rw [run_cons_neg hc] at hk; omega
      | true =>
        rw [run_cons_pos hc] at hk ⊢
        have := ih (k := k) (by simpa using h) (by omega) (by simpa using hp)
        omega
theorem run_end (h : l.length ≤ k) (hk : k ≤ run p l) : k = run p l := by have := @run_le p l; omega
theorem run_take : l.take (run p l) = l.takeWhile p := by
  induction l with
  | nil => rfl
  | cons c r ih =>
    cases hc : p c with
    | true => rw [run_cons_pos hc, List.take_succ_cons, ih, List.takeWhile_cons, if_pos hc]
    | false => rw [run_cons_neg hc, List.takeWhile_cons]; simp [hc]
theorem run_all (c : UInt8) (h : c ∈ l.take (run p l)) : p c = true := by
  rw [run_take] at h
  induction l with
  | nil => simp at h
  | cons d r ih =>
    rw [List.takeWhile_cons] at h
    split at h
    · rcases List.mem_cons.1 h with rfl | h'
      · assumption
      · exact ih h'
    · simp at h
end

end Go.Proofs.YtahhmgoffdggpaaGreatDoor


namespace Go.Proofs.YtahhmgoffdggpaaGreatDoor

open Go.RowKit

theorem ret_bool {a b : Bool} (h : a = b) : Ending.returned (.bool a) = .returned (.bool b) := by rw [h]
theorem ret_int {k : IntKind} {a b : Int} (h : a = b) : Ending.returned (.int k a) = .returned (.int k b) := by rw [h]
theorem byte_bd (c : UInt8) : (0 : Int) ≤ (c.toNat : Int) ∧ (c.toNat : Int) ≤ 255 := by have := c.toNat_lt; omega

theorem isDigit_any (n : Int) (w : World) (h0 : 0 ≤ n) (h1 : n ≤ 255) : Calls Tryz.prog 71 #[.int .u8 n] w fun e w' => e = .returned (.bool (digI n)) ∧ w = w' := by
  go_enter Tryz.func71, Tryz.ntmps71
  go_wp2
  all_goals go_ret
  all_goals refine ⟨ret_bool ?_, rfl⟩
  all_goals (rw [Bool.eq_iff_iff]; simp only [digI, decide_eq_true_eq, Bool.false_eq_true, false_iff]; omega)

theorem isWordByte_any (n : Int) (w : World) (h0 : 0 ≤ n) (h1 : n ≤ 255) : Calls Tryz.prog 74 #[.int .u8 n] w fun e w' => e = .returned (.bool (wbI n)) ∧ w = w' := by
  go_enter Tryz.func74, Tryz.ntmps74
  go_wp2_with (go_at_call 71; refine (isDigit_any _ _ h0 h1).mono ?_; rintro e w' ⟨rfl, rfl⟩)
  all_goals go_ret
  all_goals refine ⟨ret_bool ?_, rfl⟩
  all_goals (rw [Bool.eq_iff_iff]; simp only [wbI, ltrI, digI, decide_eq_true_eq, Bool.or_eq_true, beq_iff_eq, true_iff]; omega)

theorem isStringByte_any (n : Int) (w : World) (h0 : 0 ≤ n) (h1 : n ≤ 255) : Calls Tryz.prog 99 #[.int .u8 n] w fun e w' => e = .returned (.bool (strI n)) ∧ w = w' := by
  go_enter Tryz.func99, Tryz.ntmps99
  go_wp2
  all_goals go_ret
  all_goals refine ⟨ret_bool ?_, rfl⟩
  all_goals (rw [Bool.eq_iff_iff]; simp only [strI, decide_eq_true_eq, Bool.false_eq_true, false_iff, Bool.and_eq_true, bne_iff_ne]; omega)

theorem isHexLetter_any (n : Int) (w : World) (h0 : 0 ≤ n) (h1 : n ≤ 255) : Calls Tryz.prog 117 #[.int .u8 n] w fun e w' => e = .returned (.bool (hexI n)) ∧ w = w' := by
  go_enter Tryz.func117, Tryz.ntmps117
  go_wp2
  all_goals go_ret
  all_goals refine ⟨ret_bool ?_, rfl⟩
  all_goals (rw [Bool.eq_iff_iff]; simp only [hexI, decide_eq_true_eq, Bool.or_eq_true, true_iff, Bool.false_eq_true, false_iff]; omega)

theorem rLetter_any (n : Int) (w : World) (h0 : 0 ≤ n) (h1 : n ≤ 255) : Calls Tryz.prog 86 #[.int .u8 n] w fun e w' => e = .returned (.bool (ltrI n)) ∧ w = w' := by
  go_enter Tryz.func86, Tryz.ntmps86
  go_wp2
  all_goals go_ret
  all_goals refine ⟨ret_bool ?_, rfl⟩
  all_goals (rw [Bool.eq_iff_iff]; simp only [ltrI, decide_eq_true_eq, Bool.or_eq_true, beq_iff_eq, true_iff]; omega)

theorem rDigit_any (n : Int) (w : World) (h0 : 0 ≤ n) (h1 : n ≤ 255) : Calls Tryz.prog 87 #[.int .u8 n] w fun e w' => e = .returned (.bool (digI n)) ∧ w = w' := by
  go_enter Tryz.func87, Tryz.ntmps87
  go_wp2
  all_goals go_ret
  all_goals refine ⟨ret_bool ?_, rfl⟩
  all_goals (rw [Bool.eq_iff_iff]; simp only [digI, decide_eq_true_eq, Bool.false_eq_true, false_iff]; omega)

theorem rplain_any (n : Int) (w : World) (h0 : 0 ≤ n) (h1 : n ≤ 255) : Calls Tryz.prog 107 #[.int .u8 n] w fun e w' => e = .returned (.bool (strI n)) ∧ w = w' := by
  go_enter Tryz.func107, Tryz.ntmps107
  go_wp2
  all_goals go_ret
  all_goals refine ⟨ret_bool ?_, rfl⟩
  all_goals (rw [Bool.eq_iff_iff]; simp only [strI, decide_eq_true_eq, Bool.false_eq_true, false_iff, Bool.and_eq_true, bne_iff_ne]; omega)

theorem runLen_any (l : List UInt8) (w : World) (hl : l.length ≤ maxLen) : Calls Tryz.prog 72 #[.string ⟨l.toArray⟩] w fun e w' => e = .returned (.int .i64 (run isWB l : Int)) ∧ w = w' := by
  unfold maxLen at hl
  go_enter Tryz.func72, Tryz.ntmps72
  go_wp2
  go_loop [3] (fun i => ∃ k : Nat, k ≤ run isWB l ∧ i = .int .i64 k) (fun i => l.length - (intOf i).toNat)
  case atStart => exact ⟨0, Nat.zero_le _, rfl⟩
  case round =>
    obtain ⟨k, hk, rfl⟩ := hrel
    have hrl := @run_le isWB l
    by_cases hlt : k < l.length
    · have hb := byte_bd l[k]
      go_wp2_with fail
      refine (isWordByte_any _ _ hb.1 hb.2).mono ?_
      rintro e w' ⟨rfl, rfl⟩
      have hb2 : ({ data := l.toArray } : ByteArray)[k] = l[k] := rfl
      cases hd : wbI ((l[k].toNat : Int))
      · have HS : Hid (k = run isWB l) := run_stop hlt hk hd
        rw [hb2]
        clear hb2 hd
        go_wp2
        go_ret
        exact ⟨ret_int (by rw [← HS.out]), rfl⟩
      · have HG : Hid (k + 1 ≤ run isWB l) := run_go hlt hk hd
        rw [hb2]
        clear hb2 hd
        go_wp2
        go_round
        case rel => exact ⟨k + 1, HG.out, by go_num⟩
        case measure => simp [intOf]; omega
    · have HS : Hid (k = run isWB l) := run_end (by omega) hk
      go_wp2
      go_ret
      exact ⟨ret_int (by rw [← HS.out]), rfl⟩

theorem stringLen_any (l : List UInt8) (w : World) (hl : l.length ≤ maxLen) : Calls Tryz.prog 75 #[.string ⟨l.toArray⟩] w fun e w' => e = .returned (.int .i64 (run isStr l : Int)) ∧ w = w' := by
  unfold maxLen at hl
  go_enter Tryz.func75, Tryz.ntmps75
  go_wp2
  go_loop [3] (fun i => ∃ k : Nat, k ≤ run isStr l ∧ i = .int .i64 k) (fun i => l.length - (intOf i).toNat)
  case atStart => exact ⟨0, Nat.zero_le _, rfl⟩
  case round =>
    obtain ⟨k, hk, rfl⟩ := hrel
    have hrl := @run_le isStr l
    by_cases hlt : k < l.length
    · have hb := byte_bd l[k]
      go_wp2_with fail
      refine (isStringByte_any _ _ hb.1 hb.2).mono ?_
      rintro e w' ⟨rfl, rfl⟩
      have hb2 : ({ data := l.toArray } : ByteArray)[k] = l[k] := rfl
      cases hd : strI ((l[k].toNat : Int))
      · have HS : Hid (k = run isStr l) := run_stop hlt hk hd
        rw [hb2]
        clear hb2 hd
        go_wp2
        go_ret
        exact ⟨ret_int (by rw [← HS.out]), rfl⟩
      · have HG : Hid (k + 1 ≤ run isStr l) := run_go hlt hk hd
        rw [hb2]
        clear hb2 hd
        go_wp2
        go_round
        case rel => exact ⟨k + 1, HG.out, by go_num⟩
        case measure => simp [intOf]; omega
    · have HS : Hid (k = run isStr l) := run_end (by omega) hk
      go_wp2
      go_ret
      exact ⟨ret_int (by rw [← HS.out]), rfl⟩

end Go.Proofs.YtahhmgoffdggpaaGreatDoor


namespace Go.Proofs
open Go.Shelf
def Tryz.lays137_ren : Go.Shelf.Ren := ⟨fun | 137 => 70 | 217 => 93 | 266 => 115 | n => n, fun | 9 => 9 | 5 => 5 | 3 => 3 | n => n, fun | n => n⟩
theorem Tryz.lays137 : Go.Proofs.Lays.n137 Tryz.prog Tryz.lays137_ren := {
  mixed := by kernel_rfl
  f137 := Tryz.func70.trans (congrArg some (by kernel_rfl))
  f217 := Tryz.func93.trans (congrArg some (by kernel_rfl))
  f266 := Tryz.func115.trans (congrArg some (by kernel_rfl))
  t3 := Tryz.underlying3
  a3 := Tryz.isAgg3
  z3 := Tryz.sizeOf3
  v3 := Tryz.zeroValue3
  t5 := Tryz.underlying5
  a5 := Tryz.isAgg5
  z5 := Tryz.sizeOf5
  v5 := Tryz.zeroValue5
  t9 := Tryz.underlying9
  a9 := Tryz.isAgg9
  z9 := Tryz.sizeOf9
  v9 := Tryz.zeroValue9 }
open Go.RowKit in
theorem Tryz.strings_IndexByte (s : ByteArray) (c : Int) (w : World) :
    Calls Tryz.prog 70 #[.string s, .int .u8 c] w fun e w' => e = .returned (.int .i64 (Lib.indexByte s.data.toList c.toNat.toUInt8)) ∧ w' = w := Any.strings_IndexByte Tryz.lays137 s c w
def Tryz.lays103_ren : Go.Shelf.Ren := ⟨fun | 103 => 95 | 210 => 116 | 206 => 133 | n => n, fun | 9 => 9 | 4 => 4 | 24 => 136 | 3 => 3 | n => n, fun | n => n⟩
theorem Tryz.lays103 : Go.Proofs.Lays.n103 Tryz.prog Tryz.lays103_ren := {
  mixed := by kernel_rfl
  f103 := Tryz.func95.trans (congrArg some (by kernel_rfl))
  f206 := Tryz.func133.trans (congrArg some (by kernel_rfl))
  f210 := Tryz.func116.trans (congrArg some (by kernel_rfl))
  t3 := Tryz.underlying3
  a3 := Tryz.isAgg3
  z3 := Tryz.sizeOf3
  v3 := Tryz.zeroValue3
  t4 := Tryz.underlying4
  a4 := Tryz.isAgg4
  z4 := Tryz.sizeOf4
  v4 := Tryz.zeroValue4
  t9 := Tryz.underlying9
  a9 := Tryz.isAgg9
  z9 := Tryz.sizeOf9
  v9 := Tryz.zeroValue9
  t24 := Tryz.underlying136
  a24 := Tryz.isAgg136
  z24 := Tryz.sizeOf136
  v24 := Tryz.zeroValue136 }
open Go.RowKit in
theorem Tryz.strings_CutPrefix (s p : ByteArray) (w : World) :
    Calls Tryz.prog 95 #[.string s, .string p] w fun e w' => e = .returned (.tuple #[.string ⟨(Lib.trimPrefix s.data.toList p.data.toList).toArray⟩, .bool (Lib.hasPrefix s.data.toList p.data.toList)]) ∧ w' = w := Any.strings_CutPrefix Tryz.lays103 s p w
def Tryz.lays129_ren : Go.Shelf.Ren := ⟨fun | 129 => 98 | n => n, fun | 53 => 46 | 3 => 3 | 4 => 4 | 46 => 43 | 5 => 5 | 9 => 9 | n => n, fun | n => n⟩
theorem Tryz.lays129 : Go.Proofs.Lays.n129 Tryz.prog Tryz.lays129_ren := {
  mixed := by kernel_rfl
  f129 := Tryz.func98.trans (congrArg some (by kernel_rfl))
  t3 := Tryz.underlying3
  a3 := Tryz.isAgg3
  z3 := Tryz.sizeOf3
  v3 := Tryz.zeroValue3
  t4 := Tryz.underlying4
  a4 := Tryz.isAgg4
  z4 := Tryz.sizeOf4
  v4 := Tryz.zeroValue4
  t5 := Tryz.underlying5
  a5 := Tryz.isAgg5
  z5 := Tryz.sizeOf5
  v5 := Tryz.zeroValue5
  t9 := Tryz.underlying9
  a9 := Tryz.isAgg9
  z9 := Tryz.sizeOf9
  v9 := Tryz.zeroValue9
  t46 := Tryz.underlying43
  a46 := Tryz.isAgg43
  z46 := Tryz.sizeOf43
  v46 := Tryz.zeroValue43
  t53 := Tryz.underlying46
  a53 := Tryz.isAgg46
  z53 := Tryz.sizeOf46
  v53 := Tryz.zeroValue46 }
theorem Tryz.bits_Len64 (x : Int) (w : World) (h0 : 0 ≤ x) (h1 : x ≤ 18446744073709551615) :
    Calls Tryz.prog 98 #[.int .u64 x] w fun e w' => e = .returned (.int .i64 (Lib.bitLen x.toNat)) ∧ w' = w := Any.bits_Len64 Tryz.lays129 x w h0 h1
def Tryz.lays321_ren : Go.Shelf.Ren := ⟨fun | 321 => 134 | n => n, fun | 5 => 5 | n => n, fun | n => n⟩
theorem Tryz.lays321 : Go.Proofs.Lays.n321 Tryz.prog Tryz.lays321_ren := {
  mixed := by kernel_rfl
  f321 := Tryz.func134.trans (congrArg some (by kernel_rfl))
  t5 := Tryz.underlying5
  a5 := Tryz.isAgg5
  z5 := Tryz.sizeOf5
  v5 := Tryz.zeroValue5 }
open Go.RowKit in
theorem Tryz.internal_strconv_lower (c : Int) (w : World) :
    Calls Tryz.prog 134 #[.int .u8 c] w fun e w' => e = .returned (.int .u8 (bits .or .u8 c 32)) ∧ w' = w := Any.internal_strconv_lower Tryz.lays321 c w
def Tryz.laysC245_ren : Go.Shelf.Ren := ⟨fun | 245 => 119 | 279 => 136 | 280 => 137 | 281 => 138 | 282 => 139 | 316 => 146 | 171 => 47 | 205 => 147 | 243 => 68 | 246 => 91 | 283 => 111 | 284 => 112 | 285 => 113 | 286 => 114 | 129 => 98 | 317 => 129 | 318 => 130 | 319 => 131 | 320 => 132 | 337 => 144 | 338 => 145 | n => n, fun | 9 => 9 | 3 => 3 | 75 => 59 | 167 => 161 | 4 => 4 | 168 => 163 | 210 => 173 | 37 => 23 | 0 => 0 | 127 => 99 | 145 => 179 | 143 => 177 | 2 => 2 | 171 => 148 | 53 => 46 | 5 => 5 | 173 => 150 | 212 => 157 | 51 => 42 | 20 => 20 | 213 => 158 | 46 => 43 | 232 => 175 | 233 => 176 | 80 => 69 | n => n, fun | 15 => 3 | 16 => 4 | 17 => 2 | 18 => 5 | 19 => 6 | n => n⟩
theorem Tryz.laysC245 : Go.Proofs.LaysC.n245 Tryz.prog Tryz.laysC245_ren := {
  mixed := by kernel_rfl
  f129 := Tryz.func98.trans (congrArg some (by kernel_rfl))
  f171 := Tryz.func47.trans (congrArg some (by kernel_rfl))
  f205 := Tryz.func147.trans (congrArg some (by kernel_rfl))
  f243 := Tryz.func68.trans (congrArg some (by kernel_rfl))
  f245 := Tryz.func119.trans (congrArg some (by kernel_rfl))
  f246 := Tryz.func91.trans (congrArg some (by kernel_rfl))
  f279 := Tryz.func136.trans (congrArg some (by kernel_rfl))
  f280 := Tryz.func137.trans (congrArg some (by kernel_rfl))
  f281 := Tryz.func138.trans (congrArg some (by kernel_rfl))
  f282 := Tryz.func139.trans (congrArg some (by kernel_rfl))
  f283 := Tryz.func111.trans (congrArg some (by kernel_rfl))
  f284 := Tryz.func112.trans (congrArg some (by kernel_rfl))
  f285 := Tryz.func113.trans (congrArg some (by kernel_rfl))
  f286 := Tryz.func114.trans (congrArg some (by kernel_rfl))
  f316 := Tryz.func146.trans (congrArg some (by kernel_rfl))
  f317 := Tryz.func129.trans (congrArg some (by kernel_rfl))
  f318 := Tryz.func130.trans (congrArg some (by kernel_rfl))
  f319 := Tryz.func131.trans (congrArg some (by kernel_rfl))
  f320 := Tryz.func132.trans (congrArg some (by kernel_rfl))
  f337 := Tryz.func144.trans (congrArg some (by kernel_rfl))
  f338 := Tryz.func145.trans (congrArg some (by kernel_rfl))
  t0 := Tryz.underlying0
  a0 := Tryz.isAgg0
  z0 := Tryz.sizeOf0
  v0 := Tryz.zeroValue0
  t2 := Tryz.underlying2
  a2 := Tryz.isAgg2
  z2 := Tryz.sizeOf2
  v2 := Tryz.zeroValue2
  t3 := Tryz.underlying3
  a3 := Tryz.isAgg3
  z3 := Tryz.sizeOf3
  v3 := Tryz.zeroValue3
  t4 := Tryz.underlying4
  a4 := Tryz.isAgg4
  z4 := Tryz.sizeOf4
  v4 := Tryz.zeroValue4
  t5 := Tryz.underlying5
  a5 := Tryz.isAgg5
  z5 := Tryz.sizeOf5
  v5 := Tryz.zeroValue5
  t9 := Tryz.underlying9
  a9 := Tryz.isAgg9
  z9 := Tryz.sizeOf9
  v9 := Tryz.zeroValue9
  t20 := Tryz.underlying20
  a20 := Tryz.isAgg20
  z20 := Tryz.sizeOf20
  v20 := Tryz.zeroValue20
  t37 := Tryz.underlying23
  a37 := Tryz.isAgg23
  z37 := Tryz.sizeOf23
  v37 := Tryz.zeroValue23
  t46 := Tryz.underlying43
  a46 := Tryz.isAgg43
  z46 := Tryz.sizeOf43
  v46 := Tryz.zeroValue43
  t51 := Tryz.underlying42
  a51 := Tryz.isAgg42
  z51 := Tryz.sizeOf42
  v51 := Tryz.zeroValue42
  t53 := Tryz.underlying46
  a53 := Tryz.isAgg46
  z53 := Tryz.sizeOf46
  v53 := Tryz.zeroValue46
  t75 := Tryz.underlying59
  a75 := Tryz.isAgg59
  z75 := Tryz.sizeOf59
  v75 := Tryz.zeroValue59
  t127 := Tryz.underlying99
  a127 := Tryz.isAgg99
  z127 := Tryz.sizeOf99
  v127 := Tryz.zeroValue99
  t143 := Tryz.underlying177
  a143 := Tryz.isAgg177
  z143 := Tryz.sizeOf177
  v143 := Tryz.zeroValue177
  t145 := Tryz.underlying179
  a145 := Tryz.isAgg179
  z145 := Tryz.sizeOf179
  v145 := Tryz.zeroValue179
  t167 := Tryz.underlying161
  a167 := Tryz.isAgg161
  z167 := Tryz.sizeOf161
  v167 := Tryz.zeroValue161
  t168 := Tryz.underlying163
  a168 := Tryz.isAgg163
  z168 := Tryz.sizeOf163
  v168 := Tryz.zeroValue163
  t171 := Tryz.underlying148
  a171 := Tryz.isAgg148
  z171 := Tryz.sizeOf148
  v171 := Tryz.zeroValue148
  t173 := Tryz.underlying150
  a173 := Tryz.isAgg150
  z173 := Tryz.sizeOf150
  v173 := Tryz.zeroValue150
  t210 := Tryz.underlying173
  a210 := Tryz.isAgg173
  z210 := Tryz.sizeOf173
  v210 := Tryz.zeroValue173
  t212 := Tryz.underlying157
  a212 := Tryz.isAgg157
  z212 := Tryz.sizeOf157
  v212 := Tryz.zeroValue157
  t213 := Tryz.underlying158
  a213 := Tryz.isAgg158
  z213 := Tryz.sizeOf158
  t232 := Tryz.underlying175
  a232 := Tryz.isAgg175
  z232 := Tryz.sizeOf175
  v232 := Tryz.zeroValue175
  t233 := Tryz.underlying176
  a233 := Tryz.isAgg176
  z233 := Tryz.sizeOf176
  v233 := Tryz.zeroValue176
  g15 := by kernel_rfl
  g16 := by kernel_rfl
  g17 := by kernel_rfl
  g18 := by kernel_rfl
  g19 := by kernel_rfl
  t80 := Tryz.underlying69
  a80 := Tryz.isAgg69
  z80 := Tryz.sizeOf69
  v80 := Tryz.zeroValue69
  i0 := by kernel_rfl
  i2 := by kernel_rfl
  i3 := by kernel_rfl
  i4 := by kernel_rfl
  i5 := by kernel_rfl
  i9 := by kernel_rfl
  i20 := by kernel_rfl
  i37 := by kernel_rfl
  i46 := by kernel_rfl
  i51 := by kernel_rfl
  i53 := by kernel_rfl
  i75 := by kernel_rfl
  i80 := by kernel_rfl
  i127 := by kernel_rfl
  i143 := by kernel_rfl
  i145 := by kernel_rfl
  i167 := by kernel_rfl
  i168 := by kernel_rfl
  i171 := by kernel_rfl
  i173 := by kernel_rfl
  i210 := by kernel_rfl
  i212 := by kernel_rfl
  i232 := by kernel_rfl
  i233 := by kernel_rfl
  m15 := by kernel_rfl
  m16 := by kernel_rfl
  m17 := by kernel_rfl
  m18 := by kernel_rfl
  m19 := by kernel_rfl
  c0 := by kernel_rfl
  c2 := by kernel_rfl
  c3 := by kernel_rfl
  c4 := by kernel_rfl
  c5 := by kernel_rfl
  c9 := by kernel_rfl
  c20 := by kernel_rfl
  c37 := by kernel_rfl
  c46 := by kernel_rfl
  c51 := by kernel_rfl
  c53 := by kernel_rfl
  c75 := by kernel_rfl
  c80 := by kernel_rfl
  c127 := by kernel_rfl
  c143 := by kernel_rfl
  c145 := by kernel_rfl
  c167 := by kernel_rfl
  c168 := by kernel_rfl
  c171 := by kernel_rfl
  c173 := by kernel_rfl
  c210 := by kernel_rfl
  c212 := by kernel_rfl
  c213 := by kernel_rfl
  c232 := by kernel_rfl
  c233 := by kernel_rfl }
open Go.RowKit in
theorem Tryz.strconv_toError_range (fn s : ByteArray) (base bits : Int) (ev : Value) (w : World) (hlim : s.size ≤ 281474976710656) (hv : w.cell? ⟨4, 0, none⟩ = some ev) (hev : ev = .nilIface ∨ ∃ te pe, ev = .iface te pe) :
    Calls Tryz.prog 119 #[.string fn, .string s, .int .i64 base, .int .i64 bits, .iface 161 (.int .i64 1)] w fun e w' => ∃ N, e = .returned (.iface 163 (.pointer (some ⟨N, 0, none⟩))) ∧ w.heap.size ≤ N ∧ w'.heap[N]? = some (.cells #[.string fn, .string s, ev] 173 (0, 0)) ∧ Below w.heap.size w w' := Any.strconv_toError_range Tryz.laysC245 fn s base bits ev w hlim hv hev
def Tryz.lays287_ren : Go.Shelf.Ren := ⟨fun | 287 => 118 | 321 => 134 | 322 => 135 | n => n, fun | 9 => 9 | 3 => 3 | 53 => 46 | 75 => 59 | 4 => 4 | 167 => 161 | 5 => 5 | 46 => 43 | 37 => 23 | 0 => 0 | 21 => 21 | 80 => 69 | n => n, fun | n => n⟩
theorem Tryz.lays287 : Go.Proofs.Lays.n287 Tryz.prog Tryz.lays287_ren := {
  mixed := by kernel_rfl
  f287 := Tryz.func118.trans (congrArg some (by kernel_rfl))
  f321 := Tryz.func134.trans (congrArg some (by kernel_rfl))
  f322 := Tryz.func135.trans (congrArg some (by kernel_rfl))
  t0 := Tryz.underlying0
  a0 := Tryz.isAgg0
  z0 := Tryz.sizeOf0
  v0 := Tryz.zeroValue0
  t3 := Tryz.underlying3
  a3 := Tryz.isAgg3
  z3 := Tryz.sizeOf3
  v3 := Tryz.zeroValue3
  t4 := Tryz.underlying4
  a4 := Tryz.isAgg4
  z4 := Tryz.sizeOf4
  v4 := Tryz.zeroValue4
  t5 := Tryz.underlying5
  a5 := Tryz.isAgg5
  z5 := Tryz.sizeOf5
  v5 := Tryz.zeroValue5
  t9 := Tryz.underlying9
  a9 := Tryz.isAgg9
  z9 := Tryz.sizeOf9
  v9 := Tryz.zeroValue9
  t21 := Tryz.underlying21
  a21 := Tryz.isAgg21
  z21 := Tryz.sizeOf21
  v21 := Tryz.zeroValue21
  t37 := Tryz.underlying23
  a37 := Tryz.isAgg23
  z37 := Tryz.sizeOf23
  v37 := Tryz.zeroValue23
  t46 := Tryz.underlying43
  a46 := Tryz.isAgg43
  z46 := Tryz.sizeOf43
  v46 := Tryz.zeroValue43
  t53 := Tryz.underlying46
  a53 := Tryz.isAgg46
  z53 := Tryz.sizeOf46
  v53 := Tryz.zeroValue46
  t75 := Tryz.underlying59
  a75 := Tryz.isAgg59
  z75 := Tryz.sizeOf59
  v75 := Tryz.zeroValue59
  t167 := Tryz.underlying161
  a167 := Tryz.isAgg161
  z167 := Tryz.sizeOf161
  v167 := Tryz.zeroValue161 }
open Go.RowKit in
theorem Tryz.internal_strconv_ParseUint_10_b64 (t : ByteArray) (hne : t.size ≠ 0) (hmax : t.size ≤ 9223372036854775806) (w : World) :
    Calls Tryz.prog 118 #[.string t, .int .i64 10, .int .i64 64] w fun e w' => e = .returned (Lib.uintTuple 161 (Lib.parseUint10 0 t.data.toList)) ∧ w' = Lib.bytesWorld w 5 t := Any.internal_strconv_ParseUint_10_b64 Tryz.lays287 t hne hmax w
end Go.Proofs
