/-
  The reference's text of a value: TextValue without the wish for quotes.
  The two texts of a well-formed value agree.
  The contract of the reference's end: how far the token goes that begins at an offset.
  Conditions: the text has at most 65536 bytes, the offset lies in it.
-/
import Derived.Test.YtmodjokoggmnaaaGreatDoorMa6
import Derived.Test.YtmodjokoggmnaaaGreatDoorMa10
import Derived.Test.YtmodjokoggmnaaaGreatDoorMa26
import Derived.Test.YtmodjokoggmnaaaGreatDoorMa16
import Derived.Test.YtmodjokoggmnaaaGreatDoorMa11
namespace Go.Proofs.YtmodjokoggmnaaaGreatDoor
open Go.RowKit Go.Shelf

def rtextL (v : GVal) : List UInt8 := if v.kind = 1 then (if v.int < 0 then 45 :: decL ((-(v.int + 1)).toNat + 1) else decL v.int.toNat) else if wordB v.word then v.word else 34 :: (v.word ++ [34])
set_option maxRecDepth 50000 in
set_option maxHeartbeats 1000000 in
theorem rText_any (v : GVal) (w : World) (hl : v.word.length ≤ 65536) (h0 : -9223372036854775808 ≤ v.int) (h1 : v.int ≤ 9223372036854775807) :
    Calls Tryz.prog 38 #[v.val, .bool false] w fun e w' => e = .returned (.string ⟨(rtextL v).toArray⟩) ∧ Below w.heap.size w w' := by
  obtain ⟨kd, n, l⟩ := v
  simp only at hl h0 h1
  unfold GVal.val
  have HB := Lib.hid (bel_lit (Below.refl w.heap.size w) (.cells #[.int .i64 kd, .int .i64 n, .string ⟨l.toArray⟩] 40))
  have HT : Hid (rtextL ⟨kd, n, l⟩ = if kd = 1 then (if n < 0 then 45 :: decL ((-(n + 1)).toNat + 1) else decL n.toNat) else if wordB l then l else 34 :: (l ++ [34])) := Lib.hid rfl
  have hlm : l.length ≤ maxLen := by unfold maxLen; omega
  generalize rtextL ⟨kd, n, l⟩ = tx at *
  by_cases hk : kd = 1
  · subst hk
    have HT := HT.out
    rw [if_pos rfl] at HT
    by_cases hn : n < 0
    · rw [if_pos hn] at HT
      have f1 : decide (n < 0) = true := decide_eq_true hn
      have e1 : (-(n + 1) + 1 : Int) = (((-(n + 1)).toNat + 1 : Nat) : Int) := by omega
      have HD := Lib.hid fun W => decimal_any ((-(n + 1)).toNat + 1) (by omega) W
      rw [← e1] at HD
      have hdl := (isDec ((-(n + 1)).toNat + 1) (by omega)).len
      generalize decL ((-(n + 1)).toNat + 1) = ds at *
      have hqe : (⟨#[45]⟩ ++ ⟨ds.toArray⟩ : ByteArray) = ⟨tx.toArray⟩ := by rw [HT]; exact ByteArray.ext (by simp [ByteArray.data_append])
      have HQ := Lib.hid hqe
      clear hqe HT e1
      go_enter Tryz.func38, Tryz.ntmps38
      go_wp2_with fail
      refine (HD.out _).mono ?_
      rintro e w1 ⟨rfl, rfl⟩
      go_wp2
      go_ret
      exact ⟨by rw [HQ.out]; rfl, HB.out⟩
    · rw [if_neg hn] at HT
      have f1 : decide (n < 0) = false := decide_eq_false hn
      have e1 : (n : Int) = ((n.toNat : Nat) : Int) := by omega
      have HD := Lib.hid fun W => decimal_any n.toNat (by omega) W
      rw [← e1, ← HT] at HD
      clear HT e1
      go_enter Tryz.func38, Tryz.ntmps38
      go_wp2_with fail
      refine (HD.out _).mono ?_
      rintro e w1 ⟨rfl, rfl⟩
      go_wp2
      go_ret
      exact ⟨rfl, HB.out⟩
  · have HT := HT.out
    rw [if_neg hk] at HT
    have f0 : decide (kd = 1) = false := decide_eq_false hk
    have HW := Lib.hid fun W => rWord_any l W hlm
    cases hw : wordB l
    · rw [hw, if_neg (by simp)] at HT
      rw [hw] at HW
      have hqe : (⟨#[34]⟩ ++ ⟨l.toArray⟩ ++ ⟨#[34]⟩ : ByteArray) = ⟨tx.toArray⟩ := by rw [HT]; exact ByteArray.ext (by simp [ByteArray.data_append])
      have HQ := Lib.hid hqe
      clear hqe HT
      go_enter Tryz.func38, Tryz.ntmps38
      go_wp2_with fail
      refine (HW.out _).mono ?_
      rintro e w1 ⟨rfl, rfl⟩
      go_wp2
      go_ret
      exact ⟨by rw [HQ.out]; rfl, HB.out⟩
    · rw [hw, if_pos rfl] at HT
      rw [hw, ← HT] at HW
      subst HT
      go_enter Tryz.func38, Tryz.ntmps38
      go_wp2_with fail
      refine (HW.out _).mono ?_
      rintro e w1 ⟨rfl, rfl⟩
      go_wp2
      go_ret
      exact ⟨rfl, HB.out⟩
end Go.Proofs.YtmodjokoggmnaaaGreatDoor


namespace Go.Proofs.YtmodjokoggmnaaaGreatDoor
open Go.RowKit Go.Shelf

theorem dec_eq : ∀ (n x : Nat), x ≤ n → decL x = Lib.decDigits x
  | n, x, h => by
    by_cases hx : x < 10
    · rw [decL_lt hx, Lib.decDigits, dif_pos hx]
      rfl
    · cases n with
      | zero => omega
      | succ n =>
        rw [decL_ge hx, Lib.decDigits, dif_neg hx, dec_eq n (x / 10) (by omega)]
        rfl
theorem rtext_eq (v : GVal) (h : gwfV v = true) : rtextL v = vtextL v := by
  obtain ⟨k, n, l⟩ := v
  unfold gwfV at h
  unfold rtextL vtextL
  simp only at *
  by_cases hk : k = 1
  · rw [if_pos hk, if_pos hk]
    unfold Lib.itoa
    by_cases hn : n < 0
    · rw [if_pos hn, if_pos hn, dec_eq _ _ (Nat.le_refl _), show (-(n + 1)).toNat + 1 = n.natAbs by omega]
    · rw [if_neg hn, if_neg hn, dec_eq _ _ (Nat.le_refl _)]
  · rw [if_neg hk] at h ⊢
    rw [if_neg hk]
    by_cases h2 : k = 2
    · rw [if_pos h2] at h
      simp only [Bool.and_eq_true] at h
      obtain ⟨⟨_, hs⟩, ha⟩ := h
      have h24 : l.length ≤ 24 := by unfold sizedB at hs; simp at hs; omega
      have hnb : nameB l = wordB l := by simp [nameB, h24]
      rw [hnb]
      split
      · rfl
      · unfold quoteL; rw [if_pos ha]
    · rw [if_neg h2] at h; cases h
end Go.Proofs.YtmodjokoggmnaaaGreatDoor


namespace Go.Proofs.YtmodjokoggmnaaaGreatDoor

open Go.RowKit Go.Shelf

section

variable {p : UInt8 → Bool} {l : List UInt8} {i q : Nat}

theorem off_at (hi : i ≤ q) (hq : q < l.length) : (l.drop i)[q - i]'(by rw [List.length_drop]; omega) = l[q] := by
  rw [List.getElem_drop]; congr 1; omega
theorem off_go (hi : i ≤ q) (hq : q < l.length) (h : q - i ≤ run p (l.drop i)) (hp : p l[q] = true) : q + 1 - i ≤ run p (l.drop i) := by
  have := run_go (k := q - i) (l := l.drop i) (p := p) (by rw [List.length_drop]; omega) h (by rw [off_at hi hq]; exact hp)
  omega
theorem off_stop (hi : i ≤ q) (hq : q < l.length) (h : q - i ≤ run p (l.drop i)) (hp : p l[q] = false) : q = i + run p (l.drop i) := by
  have := run_stop (k := q - i) (l := l.drop i) (p := p) (by rw [List.length_drop]; omega) h (by rw [off_at hi hq]; exact hp)
  omega
theorem off_end (hi : i ≤ q) (hq : l.length ≤ q) (h : q - i ≤ run p (l.drop i)) : q = i + run p (l.drop i) := by
  have := @run_le p (l.drop i)
  rw [List.length_drop] at this
  omega
end

/-- How many bytes the reference takes for the token at the beginning of a text. -/
def endOf (d : List UInt8) : Nat :=
  match d with
  | [] => 0
  | c :: r => if isWB c then run isWB d else if c = 34 then (match r.drop (run isStr r) with | 34 :: _ => run isStr r + 2 | _ => 0) else (markOf d).length

theorem endOf_cons (d : List UInt8) (c : UInt8) (r : List UInt8) (h : d = c :: r) : endOf d = if isWB c then run isWB d else if c = 34 then (match r.drop (run isStr r) with | 34 :: _ => run isStr r + 2 | _ => 0) else (markOf d).length := by
  subst h; rfl

set_option maxRecDepth 50000 in
set_option maxHeartbeats 1000000 in
theorem end_any (l : List UInt8) (i : Nat) (hi : i < l.length) (hl : l.length ≤ 65536) (w : World) :
    Calls Tryz.prog 96 #[.string ⟨l.toArray⟩, .int .i64 i] w fun e w' => e = .returned (.int .i64 ((i : Int) + endOf (l.drop i))) ∧ Below w.heap.size w w' := by
  have hsz : (⟨l.toArray⟩ : ByteArray).size = l.length := ba_size l
  have hb := byte_bd l[i]
  have hx : (⟨l.toArray⟩ : ByteArray)[i]'(by rw [hsz]; exact hi) = l[i] := rfl
  have hE := endOf_cons (l.drop i) l[i] (l.drop (i + 1)) (drop_cons hi)
  have hwb : isWB l[i] = (ltrI (l[i].toNat : Int) || digI (l[i].toNat : Int)) := rfl
  by_cases hw : isWB l[i] = true
  · rw [if_pos hw] at hE
    have HE := Lib.hid hE
    clear hE
    have hor : ltrI (l[i].toNat : Int) = true ∨ (ltrI (l[i].toNat : Int) = false ∧ digI (l[i].toNat : Int) = true) := by
      rw [hwb, Bool.or_eq_true] at hw
      cases h1 : ltrI (l[i].toNat : Int)
      · rw [h1] at hw; exact .inr ⟨rfl, by simpa using hw⟩
      · exact .inl rfl
    clear hw hwb
    rcases hor with f1 | ⟨f1, f2⟩
    all_goals
      go_enter Tryz.func96, Tryz.ntmps96
      go_wp2_with (first | (go_at_call 97; refine (rLetter_any _ _ hb.1 hb.2).mono ?_; rintro e w' ⟨rfl, rfl⟩) | (go_at_call 98; refine (rDigit_any _ _ hb.1 hb.2).mono ?_; rintro e w' ⟨rfl, rfl⟩))
      go_loop [5] (fun vk => ∃ q : Nat, vk = .int .i64 q ∧ i ≤ q ∧ q ≤ l.length ∧ Hid (q - i ≤ run isWB (l.drop i))) (fun vk => l.length - (intOf vk).toNat)
      case atStart => exact ⟨i, rfl, Nat.le_refl _, by omega, Lib.hid (by omega)⟩
      case round =>
        obtain ⟨q, rfl, hiq, hql, HQ⟩ := hrel
        rcases Nat.lt_or_ge q l.length with hlt | hge
        · have hbq := byte_bd l[q]
          have hxq : (⟨l.toArray⟩ : ByteArray)[q]'(by rw [hsz]; exact hlt) = l[q] := rfl
          have HO : Hid (isWB l[q] = (ltrI (l[q].toNat : Int) || digI (l[q].toNat : Int))) := Lib.hid rfl
          have HG : Hid (isWB l[q] = true → q + 1 - i ≤ run isWB (l.drop i)) := Lib.hid (off_go hiq hlt HQ.out)
          have HS : Hid (isWB l[q] = false → q = i + run isWB (l.drop i)) := Lib.hid (off_stop hiq hlt HQ.out)
          generalize l[q] = d at *
          cases g1 : ltrI (d.toNat : Int)
          · cases g2 : digI (d.toNat : Int)
            · have HF := Lib.hid (HS.out (by rw [HO.out, g1, g2]; rfl))
              go_wp2_with (first | (go_at_call 97; refine (rLetter_any _ _ hbq.1 hbq.2).mono ?_; rintro e w' ⟨rfl, rfl⟩) | (go_at_call 98; refine (rDigit_any _ _ hbq.1 hbq.2).mono ?_; rintro e w' ⟨rfl, rfl⟩))
              go_ret
              exact ⟨ret_int (by rw [HE.out]; have := HF.out; omega), Below.refl _ _⟩
            · have HF := Lib.hid (HG.out (by rw [HO.out, g1, g2]; rfl))
              go_wp2_with (first | (go_at_call 97; refine (rLetter_any _ _ hbq.1 hbq.2).mono ?_; rintro e w' ⟨rfl, rfl⟩) | (go_at_call 98; refine (rDigit_any _ _ hbq.1 hbq.2).mono ?_; rintro e w' ⟨rfl, rfl⟩))
              go_round
              case rel => exact ⟨q + 1, by go_num, by omega, by omega, HF⟩
              case measure => simp [intOf]; omega
          · have HF := Lib.hid (HG.out (by rw [HO.out, g1]; rfl))
            go_wp2_with (first | (go_at_call 97; refine (rLetter_any _ _ hbq.1 hbq.2).mono ?_; rintro e w' ⟨rfl, rfl⟩) | (go_at_call 98; refine (rDigit_any _ _ hbq.1 hbq.2).mono ?_; rintro e w' ⟨rfl, rfl⟩))
            go_round
            case rel => exact ⟨q + 1, by go_num, by omega, by omega, HF⟩
            case measure => simp [intOf]; omega
        · have HF := Lib.hid (off_end hiq hge HQ.out)
          go_wp2
          go_ret
          exact ⟨ret_int (by rw [HE.out]; have := HF.out; omega), Below.refl _ _⟩
  · rw [if_neg hw] at hE
    have hw' : isWB l[i] = false := by simpa using hw
    have f1 : ltrI (l[i].toNat : Int) = false := by rw [hwb, Bool.or_eq_false_iff] at hw'; exact hw'.1
    have f2 : digI (l[i].toNat : Int) = false := by rw [hwb, Bool.or_eq_false_iff] at hw'; exact hw'.2
    clear hw hw' hwb
    by_cases h34 : l[i].toNat = 34
    · have hc34 : l[i] = 34 := UInt8.toNat_inj.1 h34
      have fq : ((l[i].toNat : Int) == 34) = true := by rw [h34]; rfl
      rw [if_pos hc34] at hE
      have HE := Lib.hid hE
      clear hE hc34 h34
      go_enter Tryz.func96, Tryz.ntmps96
      go_wp2_with (first | (go_at_call 97; refine (rLetter_any _ _ hb.1 hb.2).mono ?_; rintro e w' ⟨rfl, rfl⟩) | (go_at_call 98; refine (rDigit_any _ _ hb.1 hb.2).mono ?_; rintro e w' ⟨rfl, rfl⟩))
      go_loop [5] (fun vk => ∃ q : Nat, vk = .int .i64 q ∧ i + 1 ≤ q ∧ q ≤ l.length ∧ Hid (q - (i + 1) ≤ run isStr (l.drop (i + 1)))) (fun vk => l.length - (intOf vk).toNat)
      case atStart => exact ⟨i + 1, by go_num, Nat.le_refl _, by omega, Lib.hid (by omega)⟩
      case round =>
        obtain ⟨q, rfl, hiq, hql, HQ⟩ := hrel
        rcases Nat.lt_or_ge q l.length with hlt | hge
        · have hbq := byte_bd l[q]
          have hxq : (⟨l.toArray⟩ : ByteArray)[q]'(by rw [hsz]; exact hlt) = l[q] := rfl
          have HG : Hid (isStr l[q] = true → q + 1 - (i + 1) ≤ run isStr (l.drop (i + 1))) := Lib.hid (off_go hiq hlt HQ.out)
          have HS : Hid (isStr l[q] = false → q = (i + 1) + run isStr (l.drop (i + 1))) := Lib.hid (off_stop hiq hlt HQ.out)
          have HDR := Lib.hid (drop_cons hlt)
          generalize l[q] = d at *
          cases g1 : strI (d.toNat : Int)
          · have HF := Lib.hid (HS.out g1)
            have HDD : Hid ((l.drop (i + 1)).drop (run isStr (l.drop (i + 1))) = d :: l.drop (q + 1)) := Lib.hid (by
              rw [List.drop_drop, ← HF.out]; exact HDR.out)
            by_cases hd : d.toNat = 34
            · have hd34 : d = 34 := UInt8.toNat_inj.1 hd
              have fd : ((d.toNat : Int) == 34) = true := by rw [hd]; rfl
              have HR : Hid (endOf (l.drop i) = run isStr (l.drop (i + 1)) + 2) := Lib.hid (by rw [HE.out, HDD.out, hd34]; rfl)
              clear hd hd34
              go_wp2_with (go_at_call 106; refine (rplain_any _ _ hbq.1 hbq.2).mono ?_; rintro e w' ⟨rfl, rfl⟩)
              go_ret
              exact ⟨ret_int (by rw [HR.out]; have := HF.out; omega), Below.refl _ _⟩
            · have hd34 : d ≠ 34 := fun h => hd (by rw [h]; rfl)
              have fd : ((d.toNat : Int) == 34) = false := by simp; omega
              have HR : Hid (endOf (l.drop i) = 0) := Lib.hid (by
                rw [HE.out, HDD.out]; split
                · rename_i heq; exact absurd (List.cons.inj heq).1 hd34
                · rfl)
              clear hd hd34
              go_wp2_with (go_at_call 106; refine (rplain_any _ _ hbq.1 hbq.2).mono ?_; rintro e w' ⟨rfl, rfl⟩)
              go_ret
              exact ⟨ret_int (by rw [HR.out]; omega), Below.refl _ _⟩
          · have HF := Lib.hid (HG.out g1)
            go_wp2_with (go_at_call 106; refine (rplain_any _ _ hbq.1 hbq.2).mono ?_; rintro e w' ⟨rfl, rfl⟩)
            go_round
            case rel => exact ⟨q + 1, by go_num, by omega, by omega, HF⟩
            case measure => simp [intOf]; omega
        · have HF := Lib.hid (off_end hiq hge HQ.out)
          have HR : Hid (endOf (l.drop i) = 0) := Lib.hid (by
            rw [HE.out, List.drop_drop, ← HF.out, List.drop_of_length_le hge])
          go_wp2
          go_ret
          exact ⟨ret_int (by rw [HR.out]; omega), Below.refl _ _⟩
    · have fq : ((l[i].toNat : Int) == 34) = false := by simp; omega
      have hc34 : l[i] ≠ 34 := fun h => h34 (by rw [h]; rfl)
      rw [if_neg hc34] at hE
      have HE := Lib.hid hE
      have HM := Lib.hid fun W => mark_any l i (by omega) (by omega) W
      have hml : (markOf (l.drop i)).length ≤ 2 := by
        unfold markOf; split
        · rw [List.length_take]; omega
        · split
          · rw [List.length_take]; omega
          · simp
      generalize markOf (l.drop i) = m at *
      clear hE hc34 h34
      go_enter Tryz.func96, Tryz.ntmps96
      go_wp2_with (first | (go_at_call 97; refine (rLetter_any _ _ hb.1 hb.2).mono ?_; rintro e w' ⟨rfl, rfl⟩) | (go_at_call 98; refine (rDigit_any _ _ hb.1 hb.2).mono ?_; rintro e w' ⟨rfl, rfl⟩))
      refine (HM.out _).mono ?_
      rintro e w1 ⟨rfl, hb1⟩
      have HB := Lib.hid hb1
      clear hb1
      go_wp2
      go_ret
      exact ⟨ret_int (by rw [HE.out]), HB.out⟩
end Go.Proofs.YtmodjokoggmnaaaGreatDoor
