/-
  The contract of hwlex.number: the numeral's value, or the error that the chapter names.
  Conditions: the text is not empty and has at most 65536 bytes; the variable strconv.ErrRange lies as the program's start lays it.
  The contract of hwlex.number: the numeral's value, or the error that the chapter names.
  Conditions: the text is not empty and has at most 65536 bytes; the variable strconv.ErrRange lies as the program's start lays it.
  Contracts of hwlex.isPunct, hwlex.commentLen, hwlex.isWord, hwlex.IsName and of the reference's IsName.
  Conditions: a text's length is at most 2^32.
-/
import Derived.Test.YtahhmgoffdggpaaGreatDoorMb2
namespace Go.Proofs.YtahhmgoffdggpaaGreatDoor

open Go.RowKit Go.Shelf

theorem sfx_snoc (r : List UInt8) (c : UInt8) : sfx (r ++ [c]) = shiftOf c := by simp [sfx]
theorem body_snoc (r : List UInt8) (c : UInt8) : body (r ++ [c]) = if shiftOf c = 0 then r ++ [c] else r := by simp [body, sfx_snoc]
/-- A cut of a text. -/
theorem cut_eq (l : List UInt8) (i j : Nat) : (⟨l.toArray⟩ : ByteArray).extract i j = ⟨((l.take j).drop i).toArray⟩ := by
  apply ByteArray.ext
  simp [ByteArray.data_extract, List.drop_take]
theorem cut_to' (l : List UInt8) (j : Nat) : (⟨l.toArray⟩ : ByteArray).extract 0 j = ⟨(l.take j).toArray⟩ := by rw [cut_eq]; rfl
theorem cut_from' (l : List UInt8) (i j : Nat) (h : l.length ≤ j) : (⟨l.toArray⟩ : ByteArray).extract i j = ⟨(l.drop i).toArray⟩ := by rw [cut_eq, List.take_of_length_le h]
theorem at_eq (l : List UInt8) (k : Nat) (h : k < (⟨l.toArray⟩ : ByteArray).size) (h' : k < l.length) : (⟨l.toArray⟩ : ByteArray)[k]'h = l[k]'h' := rfl
theorem ba_size (l : List UInt8) : (⟨l.toArray⟩ : ByteArray).size = l.length := by rw [Lib.size_eq]

theorem ret_two {a b a' b' : Value} (h : a = a') (h2 : b = b') : Ending.returned (.tuple #[a, b]) = .returned (.tuple #[a', b']) := by rw [h, h2]

theorem cutSuffix_any (l : List UInt8) (w : World) (hne : l ≠ []) (hl : l.length ≤ 65536) :
    Calls Tryz.prog 94 #[.string ⟨l.toArray⟩] w fun e w' => e = .returned (.tuple #[.string ⟨(body l).toArray⟩, .int .i64 (sfx l)]) ∧ w = w' := by
  obtain ⟨r, c, rfl⟩ : ∃ r c, l = r ++ [c] := ⟨l.dropLast, l.getLast hne, (List.dropLast_concat_getLast hne).symm⟩
  have HB := Lib.hid (body_snoc r c)
  have HS := Lib.hid (sfx_snoc r c)
  have hrl : r.length + 1 ≤ 65536 := by simpa using hl
  have hsz : r.length < (⟨(r ++ [c]).toArray⟩ : ByteArray).size := by rw [ba_size]; simp
  have hx : (⟨(r ++ [c]).toArray⟩ : ByteArray)[r.length]'hsz = c := by rw [at_eq _ _ _ (by simp)]; simp
  have hc : ∀ n : Int, (((((⟨(r ++ [c]).toArray⟩ : ByteArray)[r.length]'hsz).toNat : Int)) == n) = ((c.toNat : Int) == n) := fun n => by rw [hx]
  have hu : ∀ m : UInt8, c.toNat = m.toNat → c = m := fun m h => UInt8.toNat_inj.1 h
  clear hl hne
  by_cases h1 : c.toNat = 75
  · have f1 : (((((⟨(r ++ [c]).toArray⟩ : ByteArray)[r.length]'hsz).toNat : Int)) == 75) = true := by rw [hc]; simp; omega
    have HE : Hid (shiftOf c = 10) := by rw [hu 75 h1]; rfl
    clear hc hx hu
    go_enter Tryz.func94, Tryz.ntmps94
    go_wp2
    go_ret2
    exact ⟨ret_two (congrArg Value.string (by rw [HB.out, HE.out, if_neg (by omega), cut_to', List.take_left])) (by rw [HS.out, HE.out]; rfl), rfl⟩
  by_cases h2 : c.toNat = 77
  · have f1 : (((((⟨(r ++ [c]).toArray⟩ : ByteArray)[r.length]'hsz).toNat : Int)) == 75) = false := by rw [hc]; simp; omega
    have f2 : (((((⟨(r ++ [c]).toArray⟩ : ByteArray)[r.length]'hsz).toNat : Int)) == 77) = true := by rw [hc]; simp; omega
    have HE : Hid (shiftOf c = 20) := by rw [hu 77 h2]; rfl
    clear hc hx hu
    go_enter Tryz.func94, Tryz.ntmps94
    go_wp2
    go_ret2
    exact ⟨ret_two (congrArg Value.string (by rw [HB.out, HE.out, if_neg (by omega), cut_to', List.take_left])) (by rw [HS.out, HE.out]; rfl), rfl⟩
  by_cases h3 : c.toNat = 71
  · have f1 : (((((⟨(r ++ [c]).toArray⟩ : ByteArray)[r.length]'hsz).toNat : Int)) == 75) = false := by rw [hc]; simp; omega
    have f2 : (((((⟨(r ++ [c]).toArray⟩ : ByteArray)[r.length]'hsz).toNat : Int)) == 77) = false := by rw [hc]; simp; omega
    have f3 : (((((⟨(r ++ [c]).toArray⟩ : ByteArray)[r.length]'hsz).toNat : Int)) == 71) = true := by rw [hc]; simp; omega
    have HE : Hid (shiftOf c = 30) := by rw [hu 71 h3]; rfl
    clear hc hx hu
    go_enter Tryz.func94, Tryz.ntmps94
    go_wp2
    go_ret2
    exact ⟨ret_two (congrArg Value.string (by rw [HB.out, HE.out, if_neg (by omega), cut_to', List.take_left])) (by rw [HS.out, HE.out]; rfl), rfl⟩
  · have f1 : (((((⟨(r ++ [c]).toArray⟩ : ByteArray)[r.length]'hsz).toNat : Int)) == 75) = false := by rw [hc]; simp; omega
    have f2 : (((((⟨(r ++ [c]).toArray⟩ : ByteArray)[r.length]'hsz).toNat : Int)) == 77) = false := by rw [hc]; simp; omega
    have f3 : (((((⟨(r ++ [c]).toArray⟩ : ByteArray)[r.length]'hsz).toNat : Int)) == 71) = false := by rw [hc]; simp; omega
    have HE : Hid (shiftOf c = 0) := by
      unfold Hid shiftOf
      rw [if_neg (fun h => h1 (by rw [h]; rfl)), if_neg (fun h => h2 (by rw [h]; rfl)), if_neg (fun h => h3 (by rw [h]; rfl))]
    clear hc hx hu
    go_enter Tryz.func94, Tryz.ntmps94
    go_wp2
    go_ret2
    exact ⟨ret_two (congrArg Value.string (by rw [HB.out, HE.out, if_pos rfl])) (by rw [HS.out, HE.out]; rfl), rfl⟩
theorem all_take (p : UInt8 → Bool) (l : List UInt8) (k : Nat) (h : k < l.length) : (l.take (k + 1)).all p = ((l.take k).all p && p l[k]) := by
  rw [List.take_succ_eq_append_getElem h, List.all_append]; simp
theorem all_stop (p : UInt8 → Bool) (l : List UInt8) (k : Nat) (h : k < l.length) (hp : p l[k] = false) : l.all p = false := by
  rw [List.all_eq_false]; exact ⟨l[k], List.getElem_mem h, by simp [hp]⟩
theorem allDigits_any (l : List UInt8) (base : Nat) (hb : base = 10 ∨ base = 16) (w : World) (hl : l.length ≤ 65536) :
    Calls Tryz.prog 96 #[.string ⟨l.toArray⟩, .int .i64 base] w fun e w' => e = .returned (.bool (l.all (okDig base))) ∧ w = w' := by
  go_enter Tryz.func96, Tryz.ntmps96
  go_wp2
  go_loop [8] (fun i => ∃ k : Nat, k ≤ l.length ∧ i = .int .i64 k ∧ Hid ((l.take k).all (okDig base) = true)) (fun i => l.length - (intOf i).toNat)
  case atStart => exact ⟨0, Nat.zero_le _, rfl, rfl⟩
  case round =>
    obtain ⟨k, hk, rfl, HA⟩ := hrel
    by_cases hlt : k < l.length
    · have hbd := byte_bd l[k]
      have HT := Lib.hid (all_take (okDig base) l k hlt)
      have HZ : Hid (okDig base l[k] = false → l.all (okDig base) = false) := Lib.hid (all_stop (okDig base) l k hlt)
      have HO : Hid (okDig base l[k] = (digI (l[k].toNat : Int) || (!((base : Int) == 10) && hexI (l[k].toNat : Int)))) := by
        unfold Hid okDig isDig isHex
        rcases hb with rfl | rfl <;> simp
      have hx : ({ data := l.toArray } : ByteArray)[k] = l[k] := rfl
      cases h1 : digI (l[k].toNat : Int)
      · cases h3 : ((base : Int) == 10)
        · cases h2 : hexI (l[k].toNat : Int)
          · have HQ : Hid (l.all (okDig base) = false) := Lib.hid (HZ.out (by rw [HO.out, h1, h2]; simp))
            go_wp2_with (first | (go_at_call 71; refine (isDigit_any _ _ hbd.1 hbd.2).mono ?_; rintro e w' ⟨rfl, rfl⟩) | (go_at_call 117; refine (isHexLetter_any _ _ hbd.1 hbd.2).mono ?_; rintro e w' ⟨rfl, rfl⟩))
            go_ret
            exact ⟨ret_bool HQ.out.symm, rfl⟩
          · have HQ : Hid (okDig base l[k] = true) := Lib.hid (by rw [HO.out, h1, h2, h3]; rfl)
            go_wp2_with (first | (go_at_call 71; refine (isDigit_any _ _ hbd.1 hbd.2).mono ?_; rintro e w' ⟨rfl, rfl⟩) | (go_at_call 117; refine (isHexLetter_any _ _ hbd.1 hbd.2).mono ?_; rintro e w' ⟨rfl, rfl⟩))
            go_round
            case rel => exact ⟨k + 1, by omega, by go_num, Lib.hid (by rw [HT.out, HA.out, HQ.out]; rfl)⟩
            case measure => simp [intOf]; omega
        · have HQ : Hid (l.all (okDig base) = false) := Lib.hid (HZ.out (by rw [HO.out, h1, h3]; rfl))
          go_wp2_with (first | (go_at_call 71; refine (isDigit_any _ _ hbd.1 hbd.2).mono ?_; rintro e w' ⟨rfl, rfl⟩) | (go_at_call 117; refine (isHexLetter_any _ _ hbd.1 hbd.2).mono ?_; rintro e w' ⟨rfl, rfl⟩))
          go_ret
          exact ⟨ret_bool HQ.out.symm, rfl⟩
      · have HQ : Hid (okDig base l[k] = true) := Lib.hid (by rw [HO.out, h1]; rfl)
        go_wp2_with (first | (go_at_call 71; refine (isDigit_any _ _ hbd.1 hbd.2).mono ?_; rintro e w' ⟨rfl, rfl⟩) | (go_at_call 117; refine (isHexLetter_any _ _ hbd.1 hbd.2).mono ?_; rintro e w' ⟨rfl, rfl⟩))
        go_round
        case rel => exact ⟨k + 1, by omega, by go_num, Lib.hid (by rw [HT.out, HA.out, HQ.out]; rfl)⟩
        case measure => simp [intOf]; omega
    · have HE : Hid (l.all (okDig base) = true) := by
        have h := HA.out
        rw [List.take_of_length_le (by omega)] at h; exact h
      go_wp2
      go_ret
      exact ⟨ret_bool HE.out.symm, rfl⟩
end Go.Proofs.YtahhmgoffdggpaaGreatDoor


namespace Go.Proofs.YtahhmgoffdggpaaGreatDoor

open Go.RowKit Go.Shelf

def numV : Num → Nat
  | .val v => v
  | _ => 0
def numE : Num → Nat
  | .val _ => 0
  | .big => 6
  | .bad => 50
theorem bitLen_shl (v sh : Nat) (hv : v < 18446744073709551616) (hs : sh ≤ 30) : (64 < Lib.bitLen v + sh) ↔ ¬ v * 2 ^ sh < 18446744073709551616 := by
  have e64 : (18446744073709551616 : Nat) = 2 ^ (64 - sh) * 2 ^ sh := by rw [← Nat.pow_add, show 64 - sh + sh = 64 by omega]
  constructor
  · intro h hlt
    rw [e64] at hlt
    have h1 : v < 2 ^ (64 - sh) := Nat.lt_of_mul_lt_mul_right hlt
    have := Lib.bitLen_le v (64 - sh) (by omega) h1
    omega
  · intro h
    apply Nat.lt_of_not_le
    intro hle
    apply h
    have hv0 : v ≠ 0 := by
      intro h0; apply h; rw [h0]; omega
    obtain ⟨_, _, h3⟩ := Lib.bitLenAux_bounds 64 v (by omega) hv0
    have h3' : v < 2 ^ Lib.bitLen v := h3
    have h4 : 2 ^ Lib.bitLen v ≤ 2 ^ (64 - sh) := Nat.pow_le_pow_right (by omega) (by omega)
    rw [e64]
    exact Nat.mul_lt_mul_of_pos_right (by omega) (Nat.pow_pos (by omega))
theorem wrap_pow (v sh : Nat) (h : v * 2 ^ sh < 18446744073709551616) : IntKind.u64.wrap ((v : Int) * 2 ^ sh) = (numV (Num.val (v * 2 ^ sh)) : Int) := by
  have e : (v : Int) * 2 ^ sh = ((v * 2 ^ sh : Nat) : Int) := by simp [Int.natCast_mul, Int.natCast_pow]
  rw [e, IntKind.wrap_u64]
  show _ = ((v * 2 ^ sh : Nat) : Int)
  generalize v * 2 ^ sh = m at *
  omega
theorem sfx_cases (l : List UInt8) : sfx l = 0 ∨ sfx l = 10 ∨ sfx l = 20 ∨ sfx l = 30 := by
  unfold sfx
  split
  · unfold shiftOf; (repeat' split) <;> omega
  · omega
theorem body_len (l : List UInt8) : (body l).length ≤ l.length := by
  unfold body; split
  · exact Nat.le_refl _
  · simp
theorem hexed_eq (b : List UInt8) : Lib.hasPrefix b [48, 120] = hexed b := by
  unfold hexed Lib.hasPrefix
  split
  · rfl
  · rename_i h
    match b, h with
    | [], _ => rfl
    | [c], _ => simp [List.isPrefixOf]
    | c :: d :: r, h =>
      have : ¬ (c = 48 ∧ d = 120) := fun ⟨h1, h2⟩ => h r (by rw [h1, h2])
      simp only [List.isPrefixOf, Bool.and_true]
      rw [Bool.and_eq_false_iff]
      by_cases h1 : c = 48
      · exact .inr (by simp; exact fun h2 => this ⟨h1, h2.symm⟩)
      · exact .inl (by simp; exact fun h2 => h1 h2.symm)
theorem digits_bad1 (base sh : Nat) (d : List UInt8) (h : d = []) : digits base sh d = .bad := by rw [digits, if_pos (.inl h)]
theorem digits_bad2 (base sh : Nat) (d : List UInt8) (h : d.all (okDig base) = false) : digits base sh d = .bad := by rw [digits, if_pos (.inr h)]
theorem digits_val (base sh : Nat) (d : List UInt8) (h : ¬ d = []) (h2 : d.all (okDig base) = true) (h3 : value base d * 2 ^ sh < 18446744073709551616) : digits base sh d = .val (value base d * 2 ^ sh) := by
  rw [digits, if_neg (by simp [h, h2]), if_pos h3]
theorem digits_big (base sh : Nat) (d : List UInt8) (h : ¬ d = []) (h2 : d.all (okDig base) = true) (h3 : ¬ value base d * 2 ^ sh < 18446744073709551616) : digits base sh d = .big := by
  rw [digits, if_neg (by simp [h, h2]), if_neg h3]
theorem cutP (b : List UInt8) (w : World) : Calls Tryz.prog 95 #[.string ⟨b.toArray⟩, .string ⟨#[48, 120]⟩] w fun e w' => e = .returned (.tuple #[.string ⟨(if hexed b = true then b.drop 2 else b).toArray⟩, .bool (hexed b)]) ∧ w = w' :=
  (Tryz.strings_CutPrefix ⟨b.toArray⟩ ⟨#[48, 120]⟩ w).mono fun e w' ⟨he, hw⟩ => ⟨by
    rw [he, Lib.trimPrefix]
    show Ending.returned (.tuple #[.string ⟨(if Lib.hasPrefix b [48, 120] = true then b.drop 2 else b).toArray⟩, .bool (Lib.hasPrefix b [48, 120])]) = _
    rw [hexed_eq], hw.symm⟩

set_option maxHeartbeats 2000000 in
theorem number_any (l : List UInt8) (w : World) (hne : l ≠ []) (hl : l.length ≤ 65536) (hG : Glob w) :
    Calls Tryz.prog 73 #[.string ⟨l.toArray⟩] w fun e w' => e = .returned (.tuple #[.int .u64 (numV (num l)), .int .i64 (numE (num l))]) ∧ Below w.heap.size w w' := by
  have hcs := cutSuffix_any l w hne hl
  have hnum : num l = if hexed (body l) = true then digits 16 (sfx l) ((body l).drop 2) else match body l with | 48 :: _ :: _ => .bad | _ => digits 10 (sfx l) (body l) := rfl
  have hbl := body_len l
  have hsc := sfx_cases l
  generalize body l = b at *
  generalize sfx l = sh at *
  generalize num l = nn at *
  have HC := Lib.hid hcs
  have HP := Lib.hid (cutP b w)
  clear hcs hne
  by_cases hx : hexed b = true
  · rw [if_pos hx] at hnum HP
    rw [hx] at HP
    obtain ⟨d, hd⟩ : ∃ d, d = b.drop 2 := ⟨_, rfl⟩
    have hdl : d.length ≤ 65536 := by rw [hd]; simp; omega
    rw [← hd] at hnum HP
    clear hd hbl hl
    clear hx
    by_cases hd0 : d = []
    · have HN := Lib.hid (hnum.trans (digits_bad1 16 sh d hd0))
      subst hd0
      clear hnum
      go_enter Tryz.func73, Tryz.ntmps73
      go_wp2_with fail
      refine HC.out.mono ?_
      rintro e w' ⟨rfl, rfl⟩
      go_wp2_with fail
      refine HP.out.mono ?_
      rintro e w' ⟨rfl, rfl⟩
      go_wp2
      go_ret2
      exact ⟨by rw [HN.out]; rfl, Below.refl _ _⟩
    have hem : d.isEmpty = false := by cases d with | nil => exact absurd rfl hd0 | cons _ _ => rfl
    cases ha : d.all (okDig 16)
    · have HN := Lib.hid (hnum.trans (digits_bad2 16 sh d ha))
      have HA := allDigits_any d 16 (by omega) w hdl
      rw [ha] at HA
      replace HA := Lib.hid HA
      clear hnum ha
      go_enter Tryz.func73, Tryz.ntmps73
      go_wp2_with fail
      refine HC.out.mono ?_
      rintro e w' ⟨rfl, rfl⟩
      go_wp2_with fail
      refine HP.out.mono ?_
      rintro e w' ⟨rfl, rfl⟩
      go_wp2_with fail
      refine HA.out.mono ?_
      rintro e w' ⟨rfl, rfl⟩
      go_wp2
      go_ret2
      exact ⟨by rw [HN.out]; rfl, Below.refl _ _⟩
    have HA := allDigits_any d 16 (by omega) w hdl
    rw [ha] at HA
    replace HA := Lib.hid HA
    by_cases hv : value 16 d < 18446744073709551616
    · have HU := Lib.hid (parseUint_ok 16 (by omega) d hd0 (by omega) ha hv w)
      have hbs := bitLen_shl (value 16 d) sh hv (by omega)
      by_cases hs : value 16 d * 2 ^ sh < 18446744073709551616
      · have HN := Lib.hid (hnum.trans (digits_val 16 sh d hd0 ha hs))
        have hbl : Lib.bitLen (value 16 d) + sh ≤ 64 := Nat.le_of_not_lt fun h => hbs.1 h hs
        generalize value 16 d = v at *
        have hv1 : (v : Int) ≤ 18446744073709551615 := by omega
        have HL := Lib.hid fun W => Tryz.bits_Len64 v W (by omega) hv1
        have HS := Lib.hid hs
        clear hnum ha hv hs hbs hv1
        go_enter Tryz.func73, Tryz.ntmps73
        go_wp2_with fail
        refine HC.out.mono ?_
        rintro e w' ⟨rfl, rfl⟩
        go_wp2_with fail
        refine HP.out.mono ?_
        rintro e w' ⟨rfl, rfl⟩
        go_wp2_with fail
        refine HA.out.mono ?_
        rintro e w' ⟨rfl, rfl⟩
        go_wp2_with fail
        refine HU.out.mono ?_
        rintro e w1 ⟨rfl, hb1⟩
        have HB := Lib.hid hb1
        clear hb1
        go_wp2_with fail
        refine (HL.out _).mono ?_
        rintro e w2 ⟨rfl, rfl⟩
        rw [Int.toNat_natCast]
        generalize Lib.bitLen v = n at *
        go_wp2
        go_ret2
        refine ⟨ret_two (congrArg (Value.int .u64) ?_) (by rw [HN.out]; rfl), HB.out⟩
        rw [HN.out]
        exact wrap_pow v sh HS.out
      · have HN := Lib.hid (hnum.trans (digits_big 16 sh d hd0 ha hs))
        have hbl : 64 < Lib.bitLen (value 16 d) + sh := hbs.2 hs
        generalize value 16 d = v at *
        have hv1 : (v : Int) ≤ 18446744073709551615 := by omega
        have HL := Lib.hid fun W => Tryz.bits_Len64 v W (by omega) hv1
        have hn64 := Lib.bitLen_le v 64 (by omega) (by omega)
        clear hnum ha hv hs hbs hv1
        go_enter Tryz.func73, Tryz.ntmps73
        go_wp2_with fail
        refine HC.out.mono ?_
        rintro e w' ⟨rfl, rfl⟩
        go_wp2_with fail
        refine HP.out.mono ?_
        rintro e w' ⟨rfl, rfl⟩
        go_wp2_with fail
        refine HA.out.mono ?_
        rintro e w' ⟨rfl, rfl⟩
        go_wp2_with fail
        refine HU.out.mono ?_
        rintro e w1 ⟨rfl, hb1⟩
        have HB := Lib.hid hb1
        clear hb1
        go_wp2_with fail
        refine (HL.out _).mono ?_
        rintro e w2 ⟨rfl, rfl⟩
        rw [Int.toNat_natCast]
        generalize Lib.bitLen v = n at *
        go_wp2
        go_ret2
        exact ⟨by rw [HN.out]; rfl, HB.out⟩
    · have HU := Lib.hid (parseUint_big 16 (by omega) d hd0 (by omega) ha hv w hG)
      have HN := Lib.hid (hnum.trans (digits_big 16 sh d hd0 ha (fun h => hv (Nat.lt_of_le_of_lt (Nat.le_mul_of_pos_right _ (Nat.pow_pos (by omega))) h))))
      clear hnum ha hv
      go_enter Tryz.func73, Tryz.ntmps73
      go_wp2_with fail
      refine HC.out.mono ?_
      rintro e w' ⟨rfl, rfl⟩
      go_wp2_with fail
      refine HP.out.mono ?_
      rintro e w' ⟨rfl, rfl⟩
      go_wp2_with fail
      refine HA.out.mono ?_
      rintro e w' ⟨rfl, rfl⟩
      go_wp2_with fail
      refine HU.out.mono ?_
      rintro e w1 ⟨N, rfl, hb1⟩
      have HB := Lib.hid hb1
      clear hb1
      go_wp2
      go_ret2
      exact ⟨by rw [HN.out]; rfl, HB.out⟩
  · have hx' : hexed b = false := by simpa using hx
    rw [if_neg hx] at hnum HP
    rw [hx'] at HP
    clear hx hx'
    by_cases hz : ∃ c r, b = 48 :: c :: r
    · obtain ⟨c, r, rfl⟩ := hz
      have HN := Lib.hid hnum
      clear hnum
      have hbl2 : r.length + 2 ≤ 65536 := by simp at hbl; omega
      go_enter Tryz.func73, Tryz.ntmps73
      go_wp2_with fail
      refine HC.out.mono ?_
      rintro e w' ⟨rfl, rfl⟩
      go_wp2_with fail
      refine HP.out.mono ?_
      rintro e w' ⟨rfl, rfl⟩
      go_wp2
      all_goals (go_ret2; exact ⟨by rw [HN.out]; rfl, Below.refl _ _⟩)
    have hdl : b.length ≤ 65536 := by omega
    have hnum' : nn = digits 10 sh b := by
      rw [hnum]; split
      · exact absurd ⟨_, _, rfl⟩ hz
      · rfl
    clear hnum hbl hl
    have hnum := hnum'
    clear hnum'
    rcases Nat.lt_or_ge 1 b.length with hq1 | hq1
    · have hsz : 0 < (⟨b.toArray⟩ : ByteArray).size := by rw [ba_size]; omega
      have hq2 : ((((⟨b.toArray⟩ : ByteArray)[0]'hsz).toNat : Int) == 48) = false := by
        rw [at_eq b 0 hsz (by omega)]
        match b, hq1, hz with
        | c :: d :: r, _, hz =>
          have hc : c ≠ 48 := fun h => hz ⟨d, r, by rw [h]⟩
          have : c.toNat ≠ 48 := fun h => hc (UInt8.toNat_inj.1 h)
          simp; omega
      clear hz
      generalize b = d at *
      by_cases hd0 : d = []
      · have HN := Lib.hid (hnum.trans (digits_bad1 10 sh d hd0))
        subst hd0
        clear hnum
        go_enter Tryz.func73, Tryz.ntmps73
        go_wp2_with fail
        refine HC.out.mono ?_
        rintro e w' ⟨rfl, rfl⟩
        go_wp2_with fail
        refine HP.out.mono ?_
        rintro e w' ⟨rfl, rfl⟩
        go_wp2
        go_ret2
        exact ⟨by rw [HN.out]; rfl, Below.refl _ _⟩
      have hem : d.isEmpty = false := by cases d with | nil => exact absurd rfl hd0 | cons _ _ => rfl
      cases ha : d.all (okDig 10)
      · have HN := Lib.hid (hnum.trans (digits_bad2 10 sh d ha))
        have HA := allDigits_any d 10 (by omega) w hdl
        rw [ha] at HA
        replace HA := Lib.hid HA
        clear hnum ha
        go_enter Tryz.func73, Tryz.ntmps73
        go_wp2_with fail
        refine HC.out.mono ?_
        rintro e w' ⟨rfl, rfl⟩
        go_wp2_with fail
        refine HP.out.mono ?_
        rintro e w' ⟨rfl, rfl⟩
        go_wp2_with fail
        refine HA.out.mono ?_
        rintro e w' ⟨rfl, rfl⟩
        go_wp2
        go_ret2
        exact ⟨by rw [HN.out]; rfl, Below.refl _ _⟩
      have HA := allDigits_any d 10 (by omega) w hdl
      rw [ha] at HA
      replace HA := Lib.hid HA
      by_cases hv : value 10 d < 18446744073709551616
      · have HU := Lib.hid (parseUint_ok 10 (by omega) d hd0 (by omega) ha hv w)
        have hbs := bitLen_shl (value 10 d) sh hv (by omega)
        by_cases hs : value 10 d * 2 ^ sh < 18446744073709551616
        · have HN := Lib.hid (hnum.trans (digits_val 10 sh d hd0 ha hs))
          have hbl : Lib.bitLen (value 10 d) + sh ≤ 64 := Nat.le_of_not_lt fun h => hbs.1 h hs
          generalize value 10 d = v at *
          have hv1 : (v : Int) ≤ 18446744073709551615 := by omega
          have HL := Lib.hid fun W => Tryz.bits_Len64 v W (by omega) hv1
          have HS := Lib.hid hs
          clear hnum ha hv hs hbs hv1
          go_enter Tryz.func73, Tryz.ntmps73
          go_wp2_with fail
          refine HC.out.mono ?_
          rintro e w' ⟨rfl, rfl⟩
          go_wp2_with fail
          refine HP.out.mono ?_
          rintro e w' ⟨rfl, rfl⟩
          go_wp2_with fail
          refine HA.out.mono ?_
          rintro e w' ⟨rfl, rfl⟩
          go_wp2_with fail
          refine HU.out.mono ?_
          rintro e w1 ⟨rfl, hb1⟩
          have HB := Lib.hid hb1
          clear hb1
          go_wp2_with fail
          refine (HL.out _).mono ?_
          rintro e w2 ⟨rfl, rfl⟩
          rw [Int.toNat_natCast]
          generalize Lib.bitLen v = n at *
          go_wp2
          go_ret2
          refine ⟨ret_two (congrArg (Value.int .u64) ?_) (by rw [HN.out]; rfl), HB.out⟩
          rw [HN.out]
          exact wrap_pow v sh HS.out
        · have HN := Lib.hid (hnum.trans (digits_big 10 sh d hd0 ha hs))
          have hbl : 64 < Lib.bitLen (value 10 d) + sh := hbs.2 hs
          generalize value 10 d = v at *
          have hv1 : (v : Int) ≤ 18446744073709551615 := by omega
          have HL := Lib.hid fun W => Tryz.bits_Len64 v W (by omega) hv1
          have hn64 := Lib.bitLen_le v 64 (by omega) (by omega)
          clear hnum ha hv hs hbs hv1
          go_enter Tryz.func73, Tryz.ntmps73
          go_wp2_with fail
          refine HC.out.mono ?_
          rintro e w' ⟨rfl, rfl⟩
          go_wp2_with fail
          refine HP.out.mono ?_
          rintro e w' ⟨rfl, rfl⟩
          go_wp2_with fail
          refine HA.out.mono ?_
          rintro e w' ⟨rfl, rfl⟩
          go_wp2_with fail
          refine HU.out.mono ?_
          rintro e w1 ⟨rfl, hb1⟩
          have HB := Lib.hid hb1
          clear hb1
          go_wp2_with fail
          refine (HL.out _).mono ?_
          rintro e w2 ⟨rfl, rfl⟩
          rw [Int.toNat_natCast]
          generalize Lib.bitLen v = n at *
          go_wp2
          go_ret2
          exact ⟨by rw [HN.out]; rfl, HB.out⟩
      · have HU := Lib.hid (parseUint_big 10 (by omega) d hd0 (by omega) ha hv w hG)
        have HN := Lib.hid (hnum.trans (digits_big 10 sh d hd0 ha (fun h => hv (Nat.lt_of_le_of_lt (Nat.le_mul_of_pos_right _ (Nat.pow_pos (by omega))) h))))
        clear hnum ha hv
        go_enter Tryz.func73, Tryz.ntmps73
        go_wp2_with fail
        refine HC.out.mono ?_
        rintro e w' ⟨rfl, rfl⟩
        go_wp2_with fail
        refine HP.out.mono ?_
        rintro e w' ⟨rfl, rfl⟩
        go_wp2_with fail
        refine HA.out.mono ?_
        rintro e w' ⟨rfl, rfl⟩
        go_wp2_with fail
        refine HU.out.mono ?_
        rintro e w1 ⟨N, rfl, hb1⟩
        have HB := Lib.hid hb1
        clear hb1
        go_wp2
        go_ret2
        exact ⟨by rw [HN.out]; rfl, HB.out⟩
    · clear hz
      generalize b = d at *
      by_cases hd0 : d = []
      · have HN := Lib.hid (hnum.trans (digits_bad1 10 sh d hd0))
        subst hd0
        clear hnum
        go_enter Tryz.func73, Tryz.ntmps73
        go_wp2_with fail
        refine HC.out.mono ?_
        rintro e w' ⟨rfl, rfl⟩
        go_wp2_with fail
        refine HP.out.mono ?_
        rintro e w' ⟨rfl, rfl⟩
        go_wp2
        go_ret2
        exact ⟨by rw [HN.out]; rfl, Below.refl _ _⟩
      have hem : d.isEmpty = false := by cases d with | nil => exact absurd rfl hd0 | cons _ _ => rfl
      cases ha : d.all (okDig 10)
      · have HN := Lib.hid (hnum.trans (digits_bad2 10 sh d ha))
        have HA := allDigits_any d 10 (by omega) w hdl
        rw [ha] at HA
        replace HA := Lib.hid HA
        clear hnum ha
        go_enter Tryz.func73, Tryz.ntmps73
        go_wp2_with fail
        refine HC.out.mono ?_
        rintro e w' ⟨rfl, rfl⟩
        go_wp2_with fail
        refine HP.out.mono ?_
        rintro e w' ⟨rfl, rfl⟩
        go_wp2_with fail
        refine HA.out.mono ?_
        rintro e w' ⟨rfl, rfl⟩
        go_wp2
        go_ret2
        exact ⟨by rw [HN.out]; rfl, Below.refl _ _⟩
      have HA := allDigits_any d 10 (by omega) w hdl
      rw [ha] at HA
      replace HA := Lib.hid HA
      by_cases hv : value 10 d < 18446744073709551616
      · have HU := Lib.hid (parseUint_ok 10 (by omega) d hd0 (by omega) ha hv w)
        have hbs := bitLen_shl (value 10 d) sh hv (by omega)
        by_cases hs : value 10 d * 2 ^ sh < 18446744073709551616
        · have HN := Lib.hid (hnum.trans (digits_val 10 sh d hd0 ha hs))
          have hbl : Lib.bitLen (value 10 d) + sh ≤ 64 := Nat.le_of_not_lt fun h => hbs.1 h hs
          generalize value 10 d = v at *
          have hv1 : (v : Int) ≤ 18446744073709551615 := by omega
          have HL := Lib.hid fun W => Tryz.bits_Len64 v W (by omega) hv1
          have HS := Lib.hid hs
          clear hnum ha hv hs hbs hv1
          go_enter Tryz.func73, Tryz.ntmps73
          go_wp2_with fail
          refine HC.out.mono ?_
          rintro e w' ⟨rfl, rfl⟩
          go_wp2_with fail
          refine HP.out.mono ?_
          rintro e w' ⟨rfl, rfl⟩
          go_wp2_with fail
          refine HA.out.mono ?_
          rintro e w' ⟨rfl, rfl⟩
          go_wp2_with fail
          refine HU.out.mono ?_
          rintro e w1 ⟨rfl, hb1⟩
          have HB := Lib.hid hb1
          clear hb1
          go_wp2_with fail
          refine (HL.out _).mono ?_
          rintro e w2 ⟨rfl, rfl⟩
          rw [Int.toNat_natCast]
          generalize Lib.bitLen v = n at *
          go_wp2
          go_ret2
          refine ⟨ret_two (congrArg (Value.int .u64) ?_) (by rw [HN.out]; rfl), HB.out⟩
          rw [HN.out]
          exact wrap_pow v sh HS.out
        · have HN := Lib.hid (hnum.trans (digits_big 10 sh d hd0 ha hs))
          have hbl : 64 < Lib.bitLen (value 10 d) + sh := hbs.2 hs
          generalize value 10 d = v at *
          have hv1 : (v : Int) ≤ 18446744073709551615 := by omega
          have HL := Lib.hid fun W => Tryz.bits_Len64 v W (by omega) hv1
          have hn64 := Lib.bitLen_le v 64 (by omega) (by omega)
          clear hnum ha hv hs hbs hv1
          go_enter Tryz.func73, Tryz.ntmps73
          go_wp2_with fail
          refine HC.out.mono ?_
          rintro e w' ⟨rfl, rfl⟩
          go_wp2_with fail
          refine HP.out.mono ?_
          rintro e w' ⟨rfl, rfl⟩
          go_wp2_with fail
          refine HA.out.mono ?_
          rintro e w' ⟨rfl, rfl⟩
          go_wp2_with fail
          refine HU.out.mono ?_
          rintro e w1 ⟨rfl, hb1⟩
          have HB := Lib.hid hb1
          clear hb1
          go_wp2_with fail
          refine (HL.out _).mono ?_
          rintro e w2 ⟨rfl, rfl⟩
          rw [Int.toNat_natCast]
          generalize Lib.bitLen v = n at *
          go_wp2
          go_ret2
          exact ⟨by rw [HN.out]; rfl, HB.out⟩
      · have HU := Lib.hid (parseUint_big 10 (by omega) d hd0 (by omega) ha hv w hG)
        have HN := Lib.hid (hnum.trans (digits_big 10 sh d hd0 ha (fun h => hv (Nat.lt_of_le_of_lt (Nat.le_mul_of_pos_right _ (Nat.pow_pos (by omega))) h))))
        clear hnum ha hv
        go_enter Tryz.func73, Tryz.ntmps73
        go_wp2_with fail
        refine HC.out.mono ?_
        rintro e w' ⟨rfl, rfl⟩
        go_wp2_with fail
        refine HP.out.mono ?_
        rintro e w' ⟨rfl, rfl⟩
        go_wp2_with fail
        refine HA.out.mono ?_
        rintro e w' ⟨rfl, rfl⟩
        go_wp2_with fail
        refine HU.out.mono ?_
        rintro e w1 ⟨N, rfl, hb1⟩
        have HB := Lib.hid hb1
        clear hb1
        go_wp2
        go_ret2
        exact ⟨by rw [HN.out]; rfl, HB.out⟩
end Go.Proofs.YtahhmgoffdggpaaGreatDoor


namespace Go.Proofs.YtahhmgoffdggpaaGreatDoor

open Go.RowKit Go.Shelf

theorem punct_cases (l : List UInt8) (h : punct l = true) : l = [123] ∨ l = [125] ∨ l = [40] ∨ l = [41] ∨ l = [91] ∨ l = [93] ∨ l = [44] ∨ l = [59] ∨ l = [58] ∨ l = [61] ∨ l = [60] ∨ l = [62] ∨ l = [33] ∨ l = [43] ∨ l = [45] ∨ l = [42] ∨ l = [63] ∨ l = [46] ∨ l = [47] ∨ l = [60, 61] ∨ l = [62, 61] ∨ l = [33, 61] ∨ l = [46, 46] ∨ l = [45, 62] := by
  unfold punct at h
  rw [Bool.or_eq_true] at h
  rcases h with h | h
  · simp [marks2] at h
    rcases h with h | h | h | h | h <;> subst h <;> decide
  · split at h
    · rename_i c
      simp [marks1] at h
      rcases h with h | h | h | h | h | h | h | h | h | h | h | h | h | h | h | h | h | h | h <;> subst h <;> decide
    · simp at h
theorem punct_no (l m : List UInt8) (hm : punct m = true) (h : punct l = false) : (l == m) = false := by
  rw [beq_eq_false_iff_ne]; rintro rfl; rw [hm] at h; cases h

set_option maxHeartbeats 1000000 in
theorem isPunct_any (l : List UInt8) (w : World) : Calls Tryz.prog 76 #[.string ⟨l.toArray⟩] w fun e w' => e = .returned (.bool (punct l)) ∧ w = w' := by
  cases hp : punct l
  · have f0 := punct_no l [123] rfl hp
    have f1 := punct_no l [125] rfl hp
    have f2 := punct_no l [40] rfl hp
    have f3 := punct_no l [41] rfl hp
    have f4 := punct_no l [91] rfl hp
    have f5 := punct_no l [93] rfl hp
    have f6 := punct_no l [44] rfl hp
    have f7 := punct_no l [59] rfl hp
    have f8 := punct_no l [58] rfl hp
    have f9 := punct_no l [61] rfl hp
    have f10 := punct_no l [60] rfl hp
    have f11 := punct_no l [62] rfl hp
    have f12 := punct_no l [33] rfl hp
    have f13 := punct_no l [43] rfl hp
    have f14 := punct_no l [45] rfl hp
    have f15 := punct_no l [42] rfl hp
    have f16 := punct_no l [63] rfl hp
    have f17 := punct_no l [46] rfl hp
    have f18 := punct_no l [47] rfl hp
    have f19 := punct_no l [60, 61] rfl hp
    have f20 := punct_no l [62, 61] rfl hp
    have f21 := punct_no l [33, 61] rfl hp
    have f22 := punct_no l [46, 46] rfl hp
    have f23 := punct_no l [45, 62] rfl hp
    clear hp
    go_enter Tryz.func76, Tryz.ntmps76
    go_wp2
    go_ret
    exact ⟨rfl, rfl⟩
  · have h := punct_cases l hp
    clear hp
    rcases h with h | h | h | h | h | h | h | h | h | h | h | h | h | h | h | h | h | h | h | h | h | h | h | h
    all_goals subst h
    all_goals go_enter Tryz.func76, Tryz.ntmps76
    all_goals go_wp2
    all_goals go_ret
    all_goals exact ⟨rfl, rfl⟩

theorem index_run (l : List UInt8) : Lib.indexByte l 10 = if run notNl l < l.length then (run notNl l : Int) else -1 := by
  induction l with
  | nil => rfl
  | cons c r ih =>
    rw [Lib.indexByte]
    by_cases h : c = 10
    · subst h
      rw [run_cons_neg (by rfl)]; simp
    · rw [if_neg (by simpa using h), run_cons_pos (by simpa [notNl] using h), ih]
      have := @run_le notNl r
      by_cases h2 : run notNl r < r.length
      · rw [if_pos h2, if_neg (by simp), if_pos (by simpa using h2)]; simp
      · rw [if_neg h2, if_pos (by rfl), if_neg (by simp; omega)]
theorem commentLen_any (l : List UInt8) (w : World) : Calls Tryz.prog 50 #[.string ⟨l.toArray⟩] w fun e w' => e = .returned (.int .i64 (run notNl l : Int)) ∧ w = w' := by
  have hi := Tryz.strings_IndexByte ⟨l.toArray⟩ 10 w
  have hx : Lib.indexByte (⟨l.toArray⟩ : ByteArray).data.toList (Int.toNat 10).toUInt8 = if run notNl l < l.length then (run notNl l : Int) else -1 := index_run l
  rw [hx] at hi
  have hr := @run_le notNl l
  by_cases h : run notNl l < l.length
  · rw [if_pos h] at hi
    generalize run notNl l = n at *
    have HI := Lib.hid hi
    clear hi hx
    go_enter Tryz.func50, Tryz.ntmps50
    go_wp2_with fail
    refine HI.out.mono ?_
    rintro e w' ⟨rfl, rfl⟩
    go_wp2
    go_ret
    exact ⟨rfl, rfl⟩
  · rw [if_neg h] at hi
    have HE : Hid (run notNl l = l.length) := Lib.hid (by omega)
    have HI := Lib.hid hi
    clear hi hx h hr
    go_enter Tryz.func50, Tryz.ntmps50
    go_wp2_with fail
    refine HI.out.mono ?_
    rintro e w' ⟨rfl, rfl⟩
    go_wp2
    go_ret
    exact ⟨ret_int (by rw [HE.out]), rfl⟩
end Go.Proofs.YtahhmgoffdggpaaGreatDoor
