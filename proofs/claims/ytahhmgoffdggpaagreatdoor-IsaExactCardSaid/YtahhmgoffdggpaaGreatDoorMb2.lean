/-
  Numbers written in digits: the plain mathematics of parsing them, and the contract of strconv.ParseUint at the bases 10 and 16 on texts of valid digits: the value, or an error where it is 2^64 or more.
  Conditions: the text is not empty, all its bytes are digits of the base, it has at most 2^32 bytes; the variable strconv.ErrRange lies as the program's start lays it.
  The contract of strconv.ParseUint at the bases 10 and 16 on texts of valid digits: the value, or an error where it is 2^64 or more; and of hwlex.number: the numeral's value or the error that the chapter names.
  Conditions: as each theorem says; the variable strconv.ErrRange lies as the program's start lays it.
  What the rows' listed variables give the walks, and that the program's own start meets the rows' condition on them.
  Conditions: none.
-/
import Derived.Test.YtahhmgoffdggpaaGreatDoorMb1
import Derived.Lib.Strings
import Derived.Lib.Walk
import Derived.Lib.ConvBytes
import Derived.Lib.AtoiAllMem
import Derived.Laws.Strings3
import Derived.Laws.Closers25
import Derived.Laws.Closers25b
import Derived.BigCall
import Derived.BigGuard
import Derived.Lib.ItoaNum
import Derived.Lib.AtoiErrMem
import Derived.Test.YtahhmgoffdggpaaGreatDoorRows
import Derived.ProofKit
import Derived.LaidMore
import Derived.LaidLaws
import Derived.OpenShut
import Derived.Stop.Joined
namespace Go.Proofs.YtahhmgoffdggpaaGreatDoor

open Go.RowKit Go.Shelf

/-! The value of a row of digits. -/
def valFrom (base : Nat) (a : Nat) (l : List UInt8) : Nat := l.foldl (fun a c => a * base + dval c) a
theorem value_eq (base : Nat) (l : List UInt8) : value base l = valFrom base 0 l := rfl
theorem valFrom_ge (base : Nat) (hb : 1 ≤ base) (l : List UInt8) : ∀ a, a ≤ valFrom base a l := by
  induction l with
  | nil => intro a; exact Nat.le_refl _
  | cons c r ih =>
    intro a
    have h1 := ih (a * base + dval c)
    have h2 : a ≤ a * base := Nat.le_mul_of_pos_right a hb
    exact Nat.le_trans (by omega) h1
/-- As the program goes: none where the value is too great. -/
def parse (base : Nat) (acc : Nat) : List UInt8 → Option Nat
  | [] => some acc
  | c :: r => if 18446744073709551616 ≤ acc * base + dval c then none else parse base (acc * base + dval c) r
theorem parse_eq (base : Nat) (hb : 1 ≤ base) (l : List UInt8) : ∀ a, a < 18446744073709551616 → parse base a l = if valFrom base a l < 18446744073709551616 then some (valFrom base a l) else none := by
  induction l with
  | nil => intro a ha; simp [parse, valFrom, ha]
  | cons c r ih =>
    intro a ha
    have hg := valFrom_ge base hb r (a * base + dval c)
    have e : valFrom base a (c :: r) = valFrom base (a * base + dval c) r := rfl
    rw [parse, e]
    by_cases h : 18446744073709551616 ≤ a * base + dval c
    · rw [if_pos h, if_neg (by omega)]
    · rw [if_neg h, ih _ (by omega)]
theorem dval_dig (c : UInt8) (h : isDig c = true) : dval c = c.toNat - 48 := by
  simp only [isDig, digI, decide_eq_true_eq] at h
  simp [dval, show c.toNat ≤ 57 by omega]
theorem parse_ten (l : List UInt8) (h : l.all (okDig 10) = true) : ∀ a, Lib.parseUint10 a l = match parse 10 a l with | some v => .ok v | none => .range := by
  induction l with
  | nil => intro a; rfl
  | cons c r ih =>
    intro a
    rw [List.all_cons, Bool.and_eq_true] at h
    have hd : isDig c = true := by simpa [okDig] using h.1
    have hv := dval_dig c hd
    simp only [isDig, digI, decide_eq_true_eq] at hd
    rw [Lib.parseUint10, parse, hv, if_pos ⟨by omega, by omega⟩]
    by_cases h1 : 1844674407370955162 ≤ a
    · rw [if_pos h1, if_pos (by omega)]
    · rw [if_neg h1]
      by_cases h2 : 18446744073709551616 ≤ a * 10 + (c.toNat - 48)
      · rw [if_pos h2, if_pos h2]
      · rw [if_neg h2, if_neg h2]; exact ih h.2 _

/-! strconv.lower at the letters of hexadecimal digits. -/
theorem or32_lc (c : Int) (h0 : 97 ≤ c) (h1 : c ≤ 102) : bits .or .u8 c 32 = c := by
  obtain h | h | h | h | h | h : c = 97 ∨ c = 98 ∨ c = 99 ∨ c = 100 ∨ c = 101 ∨ c = 102 := by omega
  all_goals (subst h; rfl)
theorem or32_uc (c : Int) (h0 : 65 ≤ c) (h1 : c ≤ 70) : bits .or .u8 c 32 = c + 32 := by
  obtain h | h | h | h | h | h : c = 65 ∨ c = 66 ∨ c = 67 ∨ c = 68 ∨ c = 69 ∨ c = 70 := by omega
  all_goals (subst h; rfl)
theorem lower_lc (c : Int) (w : World) (h0 : 97 ≤ c) (h1 : c ≤ 102) : Calls Tryz.prog 134 #[.int .u8 c] w fun e w' => e = .returned (.int .u8 c) ∧ w = w' :=
  (Tryz.internal_strconv_lower c w).mono fun _ _ ⟨he, hw⟩ => ⟨by rw [he, or32_lc c h0 h1], hw.symm⟩
theorem lower_uc (c : Int) (w : World) (h0 : 65 ≤ c) (h1 : c ≤ 70) : Calls Tryz.prog 134 #[.int .u8 c] w fun e w' => e = .returned (.int .u8 (c + 32)) ∧ w = w' :=
  (Tryz.internal_strconv_lower c w).mono fun _ _ ⟨he, hw⟩ => ⟨by rw [he, or32_uc c h0 h1], hw.symm⟩

/-- What the inner ParseUint returns. -/
def puV (T : TypeId) : Option Nat → Value
  | some n => .tuple #[.int .u64 n, .nilIface]
  | none => .tuple #[.int .u64 18446744073709551615, .iface T (.int .i64 1)]

set_option maxHeartbeats 4000000 in
set_option maxRecDepth 100000 in
theorem pu16 (bs : List UInt8) (hne : bs ≠ []) (hmax : bs.length ≤ 4294967296) (hall : bs.all (okDig 16) = true) (w : World) :
    Calls Tryz.prog 118 #[.string ⟨bs.toArray⟩, .int .i64 16, .int .i64 64] w fun e w' => e = .returned (puV 161 (parse 16 0 bs)) ∧ w' = Lib.bytesWorld w 5 ⟨bs.toArray⟩ := by
  obtain ⟨t, ht⟩ : ∃ t : ByteArray, t = ⟨bs.toArray⟩ := ⟨_, rfl⟩
  have htl : t.data.toList = bs := by rw [ht]
  have hts : t.size = bs.length := by rw [Lib.size_eq, htl]
  rw [← ht]
  have hemp : t.toList.isEmpty = false := by
    rw [← decide_eq_emptyBytes]
    exact decide_eq_false (fun h => hne (by rw [← htl, h]; rfl))
  have hcv := Lib.run_convert_string_bytes (P := Tryz.prog) w 9 23 5 t (u := .string) Tryz.underlying9 Tryz.underlying23 Tryz.underlying5
  have hB : ∀ j, j < bs.length → (Lib.bytesWorld w 5 t).cell? ⟨w.heap.size, j, none⟩ = some (.int .u8 (bs.getD j 0).toNat) := fun j hj => by
    have := Lib.bytesWorld_cell w 5 t j (by omega)
    rw [htl] at this; exact this
  obtain ⟨W1, hW1⟩ : ∃ W1, W1 = Lib.bytesWorld w 5 t := ⟨_, rfl⟩
  rw [← hW1] at hcv hB ⊢
  clear hW1 ht htl
  have hmv : IntKind.u64.wrap (IntKind.u64.wrap 18446744073709551616 - 1) = 18446744073709551615 := by
    rw [IntKind.wrap_u64, IntKind.wrap_u64]
    decide
  go_enter Tryz.func118, Tryz.ntmps118
  go_wp2
  go_loop [12, 13, 101] (fun vu vn vi => ∃ (k acc : Nat) (a : Int), vu = .bool false ∧ vn = .int .u64 a ∧ vi = .int .i64 k ∧ k ≤ bs.length ∧ Hid (a = (acc : Int) ∧ acc < 18446744073709551616 ∧ parse 16 0 bs = parse 16 acc (bs.drop k)))
    (fun _ _ vi => bs.length - (intOf vi).toNat)
  case atStart => exact ⟨0, 0, 0, rfl, rfl, rfl, by omega, rfl, by omega, rfl⟩
  case round =>
    obtain ⟨k, acc, a, rfl, rfl, rfl, hk, hh⟩ := hrel
    obtain ⟨ha, hacc, hdec⟩ := hh.out
    clear hh
    have a0 : 0 ≤ a := by omega
    have a1 : a < 18446744073709551616 := by omega
    by_cases hkn : k < bs.length
    · have hc := hB k hkn
      have hdrop : bs.drop k = bs[k]'hkn :: bs.drop (k + 1) := List.drop_eq_getElem_cons hkn
      have hget : bs.getD k 0 = bs[k]'hkn := by simp [List.getD, List.getElem?_eq_getElem hkn]
      have hok : okDig 16 (bs[k]'hkn) = true := List.all_eq_true.1 hall _ (List.getElem_mem hkn)
      rw [hdrop, parse] at hdec
      rw [hget] at hc
      generalize bs[k]'hkn = c at hc hdec hok
      have hc256 : c.toNat < 256 := c.toNat_lt
      clear hB hdrop hget hall
      simp only [okDig, isHex, digI, hexI, Bool.or_eq_true, decide_eq_true_eq, show ¬ (16 : Nat) = 10 by omega, if_false] at hok
      rcases hok with ⟨hd0, hd1⟩ | ⟨hd0, hd1⟩ | ⟨hd0, hd1⟩
      · have hdv : dval c = c.toNat - 48 := by simp only [dval]; (repeat' split) <;> omega
        rw [hdv] at hdec
        clear hdv
        by_cases hcut : 1152921504606846976 ≤ acc
        · rw [if_pos (by omega)] at hdec
          have icut : 1152921504606846976 ≤ a := by omega
          clear hcut hacc ha
          have HD := Lib.hid hdec
          clear hdec
          go_wp2
          go_ret2
          exact ⟨by rw [HD.out]; rfl, rfl⟩
        · have hcut2 : acc < 1152921504606846976 := by omega
          have iov : a * 16 + ((c.toNat : Int) - 48) < 18446744073709551616 := by omega
          rw [if_neg (by omega)] at hdec
          have icut : a < 1152921504606846976 := by omega
          have HN : Hid (a * 16 + ((c.toNat : Int) - 48) = ((acc * 16 + (c.toNat - 48) : Nat) : Int) ∧ acc * 16 + (c.toNat - 48) < 18446744073709551616 ∧ parse 16 0 bs = parse 16 (acc * 16 + (c.toNat - 48)) (bs.drop (k + 1))) := Lib.hid ⟨by omega, by omega, hdec⟩
          clear hcut hcut2 hacc hdec ha
          go_wp2
          refine ⟨⟨k + 1, acc * 16 + (c.toNat - 48), a * 16 + ((c.toNat : Int) - 48), rfl, (by first | rfl | (congr 1; omega)), (by first | rfl | (congr 1; omega)), by omega, HN⟩, by simp [intOf]; omega⟩
      · have hdv : dval c = c.toNat - 87 := by simp only [dval]; (repeat' split) <;> omega
        rw [hdv] at hdec
        clear hdv
        by_cases hcut : 1152921504606846976 ≤ acc
        · rw [if_pos (by omega)] at hdec
          have icut : 1152921504606846976 ≤ a := by omega
          clear hcut hacc ha
          have HD := Lib.hid hdec
          clear hdec
          go_wp2_with (go_at_call 134; refine (lower_lc _ _ (by omega) (by omega)).mono ?_; rintro e w' ⟨rfl, rfl⟩)
          go_ret2
          exact ⟨by rw [HD.out]; rfl, rfl⟩
        · have hcut2 : acc < 1152921504606846976 := by omega
          have iov : a * 16 + ((c.toNat : Int) - 97 + 10) < 18446744073709551616 := by omega
          rw [if_neg (by omega)] at hdec
          have icut : a < 1152921504606846976 := by omega
          have HN : Hid (a * 16 + ((c.toNat : Int) - 97 + 10) = ((acc * 16 + (c.toNat - 87) : Nat) : Int) ∧ acc * 16 + (c.toNat - 87) < 18446744073709551616 ∧ parse 16 0 bs = parse 16 (acc * 16 + (c.toNat - 87)) (bs.drop (k + 1))) := Lib.hid ⟨by omega, by omega, hdec⟩
          clear hcut hcut2 hacc hdec ha
          go_wp2_with (go_at_call 134; refine (lower_lc _ _ (by omega) (by omega)).mono ?_; rintro e w' ⟨rfl, rfl⟩)
          refine ⟨⟨k + 1, acc * 16 + (c.toNat - 87), a * 16 + ((c.toNat : Int) - 97 + 10), rfl, (by first | rfl | (congr 1; omega)), (by first | rfl | (congr 1; omega)), by omega, HN⟩, by simp [intOf]; omega⟩
      · have hdv : dval c = c.toNat - 55 := by simp only [dval]; (repeat' split) <;> omega
        rw [hdv] at hdec
        clear hdv
        by_cases hcut : 1152921504606846976 ≤ acc
        · rw [if_pos (by omega)] at hdec
          have icut : 1152921504606846976 ≤ a := by omega
          clear hcut hacc ha
          have HD := Lib.hid hdec
          clear hdec
          go_wp2_with (go_at_call 134; refine (lower_uc _ _ (by omega) (by omega)).mono ?_; rintro e w' ⟨rfl, rfl⟩)
          go_ret2
          exact ⟨by rw [HD.out]; rfl, rfl⟩
        · have hcut2 : acc < 1152921504606846976 := by omega
          have iov : a * 16 + ((c.toNat : Int) + 32 - 97 + 10) < 18446744073709551616 := by omega
          rw [if_neg (by omega)] at hdec
          have icut : a < 1152921504606846976 := by omega
          have HN : Hid (a * 16 + ((c.toNat : Int) + 32 - 97 + 10) = ((acc * 16 + (c.toNat - 55) : Nat) : Int) ∧ acc * 16 + (c.toNat - 55) < 18446744073709551616 ∧ parse 16 0 bs = parse 16 (acc * 16 + (c.toNat - 55)) (bs.drop (k + 1))) := Lib.hid ⟨by omega, by omega, hdec⟩
          clear hcut hcut2 hacc hdec ha
          go_wp2_with (go_at_call 134; refine (lower_uc _ _ (by omega) (by omega)).mono ?_; rintro e w' ⟨rfl, rfl⟩)
          refine ⟨⟨k + 1, acc * 16 + (c.toNat - 55), a * 16 + ((c.toNat : Int) + 32 - 97 + 10), rfl, (by first | rfl | (congr 1; omega)), (by first | rfl | (congr 1; omega)), by omega, HN⟩, by simp [intOf]; omega⟩
    · have hkk : k = bs.length := by omega
      subst hkk
      have hF : parse 16 acc (bs.drop bs.length) = some acc := by rw [List.drop_eq_nil_of_le (by omega)]; rfl
      rw [hF] at hdec
      subst ha
      have HD := Lib.hid hdec
      clear hacc hF a0 a1 hdec hB hall
      go_wp2
      go_ret2
      exact ⟨by rw [HD.out]; rfl, rfl⟩
end Go.Proofs.YtahhmgoffdggpaaGreatDoor


namespace Go.Proofs.YtahhmgoffdggpaaGreatDoor

open Go.RowKit Go.Shelf

/-- The package-level variables that the call reads lie asx the program's start lays them, below the heap's end. -/
def Glob (w : World) : Prop := 4 < w.heap.size ∧ ∃ ev, w.cell? ⟨4, 0, none⟩ = some ev ∧ (ev = .nilIface ∨ ∃ te pe, ev = .iface te pe)
theorem Glob.below {w w' : World} {B : Nat} (h : Glob w) (hB : 4 < B) (hb : Below B w w') : Glob w' := by
  obtain ⟨h1, ev, h2, h3⟩ := h
  refine ⟨?_, ev, ?_, h3⟩
  · have := hb.size; omega
  · exact (hb.cell (p := ⟨4, 0, none⟩) hB).trans h2
theorem Glob.lt {w : World} (h : Glob w) : 4 < w.heap.size := h.1
theorem Glob.next {w w' : World} (h : Glob w) (hb : Below w.heap.size w w') : Glob w' := h.below h.1 hb

theorem pu10 (bs : List UInt8) (hne : bs ≠ []) (hmax : bs.length ≤ 4294967296) (hall : bs.all (okDig 10) = true) (w : World) :
    Calls Tryz.prog 118 #[.string ⟨bs.toArray⟩, .int .i64 10, .int .i64 64] w fun e w' => e = .returned (puV 161 (parse 10 0 bs)) ∧ w' = Lib.bytesWorld w 5 ⟨bs.toArray⟩ :=
  (Tryz.internal_strconv_ParseUint_10_b64 ⟨bs.toArray⟩ (by
    rw [Lib.size_eq]; exact fun h => hne (List.eq_nil_of_length_eq_zero h)) (by rw [Lib.size_eq]; show bs.length ≤ _; omega) w).mono fun e w' ⟨he, hw⟩ => ⟨by
    rw [he]; show Ending.returned (Lib.uintTuple _ (Lib.parseUint10 0 bs)) = _
    rw [parse_ten bs hall]; cases parse 10 0 bs <;> rfl, hw⟩
theorem pu (base : Nat) (hb : base = 10 ∨ base = 16) (bs : List UInt8) (hne : bs ≠ []) (hmax : bs.length ≤ 4294967296) (hall : bs.all (okDig base) = true) (w : World) :
    Calls Tryz.prog 118 #[.string ⟨bs.toArray⟩, .int .i64 (base : Int), .int .i64 64] w fun e w' => e = .returned (puV 161 (parse base 0 bs)) ∧ w' = Lib.bytesWorld w 5 ⟨bs.toArray⟩ := by
  rcases hb with rfl | rfl
  · exact pu10 bs hne hmax hall w
  · exact pu16 bs hne hmax hall w

theorem parseUint_ok (base : Nat) (hb : base = 10 ∨ base = 16) (bs : List UInt8) (hne : bs ≠ []) (hmax : bs.length ≤ 4294967296) (hall : bs.all (okDig base) = true) (hv : value base bs < 18446744073709551616) (w : World) :
    Calls Tryz.prog 97 #[.string ⟨bs.toArray⟩, .int .i64 (base : Int), .int .i64 64] w fun e w' => e = .returned (.tuple #[.int .u64 (value base bs), .nilIface]) ∧ Below w.heap.size w w' := by
  have HP : Hid (parse base 0 bs = some (value base bs)) := Lib.hid (by rw [parse_eq base (by omega) bs 0 (by omega), ← value_eq, if_pos hv])
  have hc := pu base hb bs hne hmax hall w
  rw [HP.out] at hc
  have HB := Lib.hid (Lib.bytesWorld_below w 5 ⟨bs.toArray⟩)
  generalize value base bs = v at hc HP hv ⊢
  generalize Lib.bytesWorld w 5 ⟨bs.toArray⟩ = W1 at hc HB
  have HC := Lib.hid hc
  clear hc hv hall HP
  go_enter Tryz.func97, Tryz.ntmps97
  go_wp2_with fail
  refine HC.out.mono ?_
  rintro e w' ⟨rfl, rfl⟩
  simp only [puV]
  go_wp2
  go_ret2
  exact ⟨rfl, HB.out⟩
theorem parseUint_big (base : Nat) (hb : base = 10 ∨ base = 16) (bs : List UInt8) (hne : bs ≠ []) (hmax : bs.length ≤ 4294967296) (hall : bs.all (okDig base) = true) (hv : ¬ value base bs < 18446744073709551616) (w : World) (hG : Glob w) :
    Calls Tryz.prog 97 #[.string ⟨bs.toArray⟩, .int .i64 (base : Int), .int .i64 64] w fun e w' => ∃ N, e = .returned (.tuple #[.int .u64 18446744073709551615, .iface 163 (.pointer (some ⟨N, 0, none⟩))]) ∧ Below w.heap.size w w' := by
  have HP : Hid (parse base 0 bs = none) := Lib.hid (by rw [parse_eq base (by omega) bs 0 (by omega), ← value_eq, if_neg hv])
  have hc := pu base hb bs hne hmax hall w
  rw [HP.out] at hc
  have hbl := Lib.bytesWorld_below w 5 ⟨bs.toArray⟩
  obtain ⟨hlt, ev, hev, hee⟩ := hG.next hbl
  have HB := Lib.hid hbl
  generalize Lib.bytesWorld w 5 ⟨bs.toArray⟩ = W1 at hc HB hlt hev
  have HC := Lib.hid hc
  have HT : Hid (Calls Tryz.prog 119 #[.string ⟨#[80, 97, 114, 115, 101, 85, 105, 110, 116]⟩, .string ⟨bs.toArray⟩, .int .i64 (base : Int), .int .i64 64, .iface 161 (.int .i64 1)] W1 fun e w' => ∃ N, e = .returned (.iface 163 (.pointer (some ⟨N, 0, none⟩))) ∧ Below W1.heap.size W1 w') :=
    Lib.hid ((Tryz.strconv_toError_range ⟨#[80, 97, 114, 115, 101, 85, 105, 110, 116]⟩ ⟨bs.toArray⟩ base 64 ev W1 (by rw [Lib.size_eq]; show bs.length ≤ _; omega) hev hee).mono fun e w' ⟨N, he, _, _, hb'⟩ => ⟨N, he, hb'⟩)
  clear hc hv hall HP hev hee hlt hbl hG
  go_enter Tryz.func97, Tryz.ntmps97
  go_wp2_with fail
  refine HC.out.mono ?_
  rintro e w' ⟨rfl, rfl⟩
  simp only [puV]
  go_wp2_with fail
  refine HT.out.mono ?_
  rintro e w2 ⟨N, rfl, hb2⟩
  have HB2 := Lib.hid hb2
  clear hb2
  go_wp2
  go_ret2
  exact ⟨N, rfl, HB.out.trans (HB2.out.mono HB.out.size)⟩
end Go.Proofs.YtahhmgoffdggpaaGreatDoor


namespace Go.Proofs.YtahhmgoffdggpaaGreatDoor

open Go.ChangeShapes Go.WideShapes Go.ChangeAt Go.RowKit

theorem gRange : Tryz.prog.globalNamed "strconv.ErrRange" = some 4 := by kernel_rfl
theorem tRange : (Tryz.prog.globals[4]?).map (·.type) = some 59 := by kernel_rfl
theorem glob_of_laid {W : World} (h : laidMetH Tryz.prog Rows.isaExactRow.laid W) : Glob W := by
  rw [MakeChecks.laidMetH_plain _ _ _ (by kernel_rfl)] at h
  obtain ⟨ps, ⟨g0, t0, cs0, f0, p0, q0, hg0, ht0, hv0, hd0, ⟨g1, t1, cs1, f1, p1, q1, hg1, ht1, hv1, hd1, ⟨g2, t2, cs2, f2, p2, q2, hg2, ht2, hv2, hd2, ⟨g3, t3, cs3, f3, p3, q3, hg3, ht3, hv3, hd3, _⟩, _⟩, _⟩, _⟩, _, _⟩ := h
  obtain rfl := Option.some.inj (gRange.symm.trans hg3)
  obtain rfl := Option.some.inj (tRange.symm.trans ht3)
  obtain ⟨l3⟩ := cs3
  obtain ⟨f, u, v, hcs, hn, h1⟩ := iface_of_trod Tryz.underlying59 hd3
  have hcell : W.cell? ⟨4, 0, none⟩ = some (.iface u v) := by
    have h := World.var?_cell hg3 hv3 0
    have e : l3 = [.iface u v] := hcs
    subst e
    simpa using h
  exact ⟨World.block_lt_of_cell? W ⟨4, 0, none⟩ hcell, _, hcell, .inr ⟨u, v, rfl⟩⟩
theorem door_met (os : Os) (args : Array Value) : laidMetH Tryz.prog Rows.isaExactRow.laid ((World.doorLaid Tryz.prog 400 os).forCall (fun _ _ => 0) ⟨#[], args, []⟩).memory :=
  laidMetH_of_parts3 (fuel := 8) (laidMet_of_run' 8 (by kernel_rfl) (by kernel_rfl)) (by kernel_rfl) (by kernel_rfl)
end Go.Proofs.YtahhmgoffdggpaaGreatDoor
