/-
  The contract of hwlex.number: the numeral's value, or the error that the chapter names.
  Conditions: the text is not empty and has at most 65536 bytes; the variable strconv.ErrRange lies as the program's start lays it.
-/
import Derived.Test.YtfmajccblnmglaaGreatDoorLexM
namespace Go.Proofs.YtfmajccblnmglaaGreatDoor

open Go.RowKit Go.Shelf

theorem sfx_snoc (r : List UInt8) (c : UInt8) : sfx (r ++ [c]) = shiftOf c := by simp [sfx]
theorem body_snoc (r : List UInt8) (c : UInt8) : body (r ++ [c]) = if shiftOf c = 0 then r ++ [c] else r := by simp [body, sfx_snoc]
/-- A cut of a text. -/
theorem cut_eq (l : List UInt8) (i j : Nat) : (⟨l.toArray⟩ : ByteArray).extract i j = ⟨((l.take j).drop i).toArray⟩ := by
  apply ByteArray.ext
  simp [ByteArray.data_extract, List.drop_take]
theorem cut_to' (l : List UInt8) (j : Nat) : (⟨l.toArray⟩ : ByteArray).extract 0 j = ⟨(l.take j).toArray⟩ := by rw [cut_eq]; rfl
theorem cut_from' (l : List UInt8) (i j : Nat) (h : l.length ≤ j) : (⟨l.toArray⟩ : ByteArray).extract i j = ⟨(l.drop i).toArray⟩ := by rw [cut_eq, List.take_of_length_le h]
theorem at_eq (l : List UInt8) (k : Nat) (h : k < (⟨l.toArray⟩ : ByteArray).size) (h' : k < l.length) : (⟨l.toArray⟩ : ByteArray)[k]'h = l[k]'h' := rfl
theorem ba_size (l : List UInt8) : (⟨l.toArray⟩ : ByteArray).size = l.length := by rw [Lib.size_eq]

theorem ret_two {a b a' b' : Value} (h : a = a') (h2 : b = b') : Ending.returned (.tuple #[a, b]) = .returned (.tuple #[a', b']) := by rw [h, h2]

theorem cutSuffix_any (l : List UInt8) (w : World) (hne : l ≠ []) (hl : l.length ≤ 65536) :
    Calls Tryz.prog 107 #[.string ⟨l.toArray⟩] w fun e w' => e = .returned (.tuple #[.string ⟨(body l).toArray⟩, .int .i64 (sfx l)]) ∧ w = w' := by
  obtain ⟨r, c, rfl⟩ : ∃ r c, l = r ++ [c] := ⟨l.dropLast, l.getLast hne, (List.dropLast_concat_getLast hne).symm⟩
  have HB := Lib.hid (body_snoc r c)
  have HS := Lib.hid (sfx_snoc r c)
  have hrl : r.length + 1 ≤ 65536 := by simpa using hl
  have hsz : r.length < (⟨(r ++ [c]).toArray⟩ : ByteArray).size := by rw [ba_size]; simp
  have hx : (⟨(r ++ [c]).toArray⟩ : ByteArray)[r.length]'hsz = c := by rw [at_eq _ _ _ (by simp)]; simp
  have hc : ∀ n : Int, (((((⟨(r ++ [c]).toArray⟩ : ByteArray)[r.length]'hsz).toNat : Int)) == n) = ((c.toNat : Int) == n) := fun n => by rw [hx]
  have hu : ∀ m : UInt8, c.toNat = m.toNat → c = m := fun m h => UInt8.toNat_inj.1 h
  clear hl hne
  by_cases h1 : c.toNat = 75
  · have f1 : (((((⟨(r ++ [c]).toArray⟩ : ByteArray)[r.length]'hsz).toNat : Int)) == 75) = true := by rw [hc]; simp; omega
    have HE : Hid (shiftOf c = 10) := by rw [hu 75 h1]; rfl
    clear hc hx hu
    go_enter Tryz.func107, Tryz.ntmps107
    go_wp2
    go_ret2
    exact ⟨ret_two (congrArg Value.string (by rw [HB.out, HE.out, if_neg (by omega), cut_to', List.take_left])) (by rw [HS.out, HE.out]; rfl), rfl⟩
  by_cases h2 : c.toNat = 77
  · have f1 : (((((⟨(r ++ [c]).toArray⟩ : ByteArray)[r.length]'hsz).toNat : Int)) == 75) = false := by rw [hc]; simp; omega
    have f2 : (((((⟨(r ++ [c]).toArray⟩ : ByteArray)[r.length]'hsz).toNat : Int)) == 77) = true := by rw [hc]; simp; omega
    have HE : Hid (shiftOf c = 20) := by rw [hu 77 h2]; rfl
    clear hc hx hu
    go_enter Tryz.func107, Tryz.ntmps107
    go_wp2
    go_ret2
    exact ⟨ret_two (congrArg Value.string (by rw [HB.out, HE.out, if_neg (by omega), cut_to', List.take_left])) (by rw [HS.out, HE.out]; rfl), rfl⟩
  by_cases h3 : c.toNat = 71
  · have f1 : (((((⟨(r ++ [c]).toArray⟩ : ByteArray)[r.length]'hsz).toNat : Int)) == 75) = false := by rw [hc]; simp; omega
    have f2 : (((((⟨(r ++ [c]).toArray⟩ : ByteArray)[r.length]'hsz).toNat : Int)) == 77) = false := by rw [hc]; simp; omega
    have f3 : (((((⟨(r ++ [c]).toArray⟩ : ByteArray)[r.length]'hsz).toNat : Int)) == 71) = true := by rw [hc]; simp; omega
    have HE : Hid (shiftOf c = 30) := by rw [hu 71 h3]; rfl
    clear hc hx hu
    go_enter Tryz.func107, Tryz.ntmps107
    go_wp2
    go_ret2
    exact ⟨ret_two (congrArg Value.string (by rw [HB.out, HE.out, if_neg (by omega), cut_to', List.take_left])) (by rw [HS.out, HE.out]; rfl), rfl⟩
  · have f1 : (((((⟨(r ++ [c]).toArray⟩ : ByteArray)[r.length]'hsz).toNat : Int)) == 75) = false := by rw [hc]; simp; omega
    have f2 : (((((⟨(r ++ [c]).toArray⟩ : ByteArray)[r.length]'hsz).toNat : Int)) == 77) = false := by rw [hc]; simp; omega
    have f3 : (((((⟨(r ++ [c]).toArray⟩ : ByteArray)[r.length]'hsz).toNat : Int)) == 71) = false := by rw [hc]; simp; omega
    have HE : Hid (shiftOf c = 0) := by
      unfold Hid shiftOf
      rw [if_neg (fun h => h1 (by rw [h]; rfl)), if_neg (fun h => h2 (by rw [h]; rfl)), if_neg (fun h => h3 (by rw [h]; rfl))]
    clear hc hx hu
    go_enter Tryz.func107, Tryz.ntmps107
    go_wp2
    go_ret2
    exact ⟨ret_two (congrArg Value.string (by rw [HB.out, HE.out, if_pos rfl])) (by rw [HS.out, HE.out]; rfl), rfl⟩
theorem all_take (p : UInt8 → Bool) (l : List UInt8) (k : Nat) (h : k < l.length) : (l.take (k + 1)).all p = ((l.take k).all p && p l[k]) := by
  rw [List.take_succ_eq_append_getElem h, List.all_append]; simp
theorem all_stop (p : UInt8 → Bool) (l : List UInt8) (k : Nat) (h : k < l.length) (hp : p l[k] = false) : l.all p = false := by
  rw [List.all_eq_false]; exact ⟨l[k], List.getElem_mem h, by simp [hp]⟩
theorem allDigits_any (l : List UInt8) (base : Nat) (hb : base = 10 ∨ base = 16) (w : World) (hl : l.length ≤ 65536) :
    Calls Tryz.prog 109 #[.string ⟨l.toArray⟩, .int .i64 base] w fun e w' => e = .returned (.bool (l.all (okDig base))) ∧ w = w' := by
  go_enter Tryz.func109, Tryz.ntmps109
  go_wp2
  go_loop [8] (fun i => ∃ k : Nat, k ≤ l.length ∧ i = .int .i64 k ∧ Hid ((l.take k).all (okDig base) = true)) (fun i => l.length - (intOf i).toNat)
  case atStart => exact ⟨0, Nat.zero_le _, rfl, rfl⟩
  case round =>
    obtain ⟨k, hk, rfl, HA⟩ := hrel
    by_cases hlt : k < l.length
    · have hbd := byte_bd l[k]
      have HT := Lib.hid (all_take (okDig base) l k hlt)
      have HZ : Hid (okDig base l[k] = false → l.all (okDig base) = false) := Lib.hid (all_stop (okDig base) l k hlt)
      have HO : Hid (okDig base l[k] = (digI (l[k].toNat : Int) || (!((base : Int) == 10) && hexI (l[k].toNat : Int)))) := by
        unfold Hid okDig isDig isHex
        rcases hb with rfl | rfl <;> simp
      have hx : ({ data := l.toArray } : ByteArray)[k] = l[k] := rfl
      cases h1 : digI (l[k].toNat : Int)
      · cases h3 : ((base : Int) == 10)
        · cases h2 : hexI (l[k].toNat : Int)
          · have HQ : Hid (l.all (okDig base) = false) := Lib.hid (HZ.out (by rw [HO.out, h1, h2]; simp))
            go_wp2_with (first | (go_at_call 88; refine (isDigit_any _ _ hbd.1 hbd.2).mono ?_; rintro e w' ⟨rfl, rfl⟩) | (go_at_call 136; refine (isHexLetter_any _ _ hbd.1 hbd.2).mono ?_; rintro e w' ⟨rfl, rfl⟩))
            go_ret
            exact ⟨ret_bool HQ.out.symm, rfl⟩
          · have HQ : Hid (okDig base l[k] = true) := Lib.hid (by rw [HO.out, h1, h2, h3]; rfl)
            go_wp2_with (first | (go_at_call 88; refine (isDigit_any _ _ hbd.1 hbd.2).mono ?_; rintro e w' ⟨rfl, rfl⟩) | (go_at_call 136; refine (isHexLetter_any _ _ hbd.1 hbd.2).mono ?_; rintro e w' ⟨rfl, rfl⟩))
            go_round
            case rel => exact ⟨k + 1, by omega, by go_num, Lib.hid (by rw [HT.out, HA.out, HQ.out]; rfl)⟩
            case measure => simp [intOf]; omega
        · have HQ : Hid (l.all (okDig base) = false) := Lib.hid (HZ.out (by rw [HO.out, h1, h3]; rfl))
          go_wp2_with (first | (go_at_call 88; refine (isDigit_any _ _ hbd.1 hbd.2).mono ?_; rintro e w' ⟨rfl, rfl⟩) | (go_at_call 136; refine (isHexLetter_any _ _ hbd.1 hbd.2).mono ?_; rintro e w' ⟨rfl, rfl⟩))
          go_ret
          exact ⟨ret_bool HQ.out.symm, rfl⟩
      · have HQ : Hid (okDig base l[k] = true) := Lib.hid (by rw [HO.out, h1]; rfl)
        go_wp2_with (first | (go_at_call 88; refine (isDigit_any _ _ hbd.1 hbd.2).mono ?_; rintro e w' ⟨rfl, rfl⟩) | (go_at_call 136; refine (isHexLetter_any _ _ hbd.1 hbd.2).mono ?_; rintro e w' ⟨rfl, rfl⟩))
        go_round
        case rel => exact ⟨k + 1, by omega, by go_num, Lib.hid (by rw [HT.out, HA.out, HQ.out]; rfl)⟩
        case measure => simp [intOf]; omega
    · have HE : Hid (l.all (okDig base) = true) := by
        have h := HA.out
        rw [List.take_of_length_le (by omega)] at h; exact h
      go_wp2
      go_ret
      exact ⟨ret_bool HE.out.symm, rfl⟩
end Go.Proofs.YtfmajccblnmglaaGreatDoor
