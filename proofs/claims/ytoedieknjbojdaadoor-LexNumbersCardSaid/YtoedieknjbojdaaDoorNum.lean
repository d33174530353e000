/-
  Numerals with a suffix: what scanning them comes to.
  Conditions: the number is less than 2^64.
-/
import Derived.Test.YtoedieknjbojdaaDoorDec
import Derived.Test.YtoedieknjbojdaaDoorPre
import Derived.Test.YtoedieknjbojdaaDoorSame
import Derived.Laws.Bits64b
namespace Go.Proofs.YtoedieknjbojdaaDoor
open Go.RowKit Go.Shelf

/-- The byte of a hexadecimal digit, as the law writes it. -/
def hch (k : Nat) : UInt8 := if k < 10 then (48 + k).toUInt8 else if k < 13 then (87 + k).toUInt8 else (55 + k).toUInt8
theorem hch_all : ∀ k : Fin 16, (okDig 16 (hch k.val) = true) ∧ dval (hch k.val) = k.val := by decide
def hexF : Nat → Nat → List UInt8
  | 0, _ => []
  | f + 1, x => if x < 16 then [hch x] else hexF f (x / 16) ++ [hch (x % 16)]
def hexL (x : Nat) : List UInt8 := hexF (x + 1) x
theorem hexF_fuel : ∀ (f x : Nat), x < f → ∀ g, f ≤ g → hexF g x = hexF f x := by
  intro f
  induction f with
  | zero => intro x h; omega
  | succ f ih =>
    intro x h g hg
    obtain ⟨g, rfl⟩ : ∃ j, g = j + 1 := ⟨g - 1, by omega⟩
    simp only [hexF]
    by_cases hx : x < 16
    · rw [if_pos hx, if_pos hx]
    · rw [if_neg hx, if_neg hx, ih (x / 16) (by omega) g (by omega)]
theorem hexL_lt {x : Nat} (h : x < 16) : hexL x = [hch x] := by simp [hexL, hexF, h]
theorem hexL_ge {x : Nat} (h : ¬ x < 16) : hexL x = hexL (x / 16) ++ [hch (x % 16)] := by
  unfold hexL
  rw [hexF, if_neg h, hexF_fuel (x / 16 + 1) (x / 16) (by omega) x (by omega)]
theorem hexL_is : ∀ (n x : Nat), x < 16 ^ (n + 1) → (hexL x ≠ [] ∧ (hexL x).all (okDig 16) = true ∧ value 16 (hexL x) = x ∧ (hexL x).length ≤ n + 1) := by
  intro n
  induction n with
  | zero =>
    intro x hx
    have h : x < 16 := by simpa using hx
    have hc := hch_all ⟨x, h⟩
    rw [hexL_lt h]
    exact ⟨by simp, by simpa using hc.1, by simpa [value] using hc.2, by simp⟩
  | succ n ih =>
    intro x hx
    by_cases h : x < 16
    · have hc := hch_all ⟨x, h⟩
      rw [hexL_lt h]
      exact ⟨by simp, by simpa using hc.1, by simpa [value] using hc.2, by simp⟩
    · rw [hexL_ge h]
      obtain ⟨h1, h2, h3, h4⟩ := ih (x / 16) (by rw [Nat.pow_succ] at hx; omega)
      have hc := hch_all ⟨x % 16, Nat.mod_lt _ (by omega)⟩
      exact ⟨by simp, by rw [List.all_append, h2]; simpa using hc.1, by rw [value_snoc, h3]; have := hc.2; simp only at this; rw [this]; omega, by simp; omega⟩
theorem isHexL (x : Nat) (h : x < 18446744073709551616) : hexL x ≠ [] ∧ (hexL x).all (okDig 16) = true ∧ value 16 (hexL x) = x ∧ (hexL x).length ≤ 16 := by
  have := hexL_is 15 x (by omega)
  simpa using this
def suf (k : Nat) : List UInt8 := if k = 1 then [75] else if k = 2 then [77] else if k = 3 then [71] else []
theorem shift_hex (c : UInt8) (h : okDig 16 c = true) : shiftOf c = 0 := by
  have h1 : c.toNat ≠ 75 ∧ c.toNat ≠ 77 ∧ c.toNat ≠ 71 := by
    simp [okDig, isHex, digI, hexI] at h; omega
  unfold shiftOf
  rw [if_neg (fun e => h1.1 (by rw [e]; rfl)), if_neg (fun e => h1.2.1 (by rw [e]; rfl)), if_neg (fun e => h1.2.2 (by rw [e]; rfl))]
theorem suffixed (s : List UInt8) (k : Nat) (hk : k < 4) (hs : s ≠ []) (hl : ∀ c ∈ s, shiftOf c = 0) : sfx (s ++ suf k) = 10 * k ∧ body (s ++ suf k) = s := by
  obtain ⟨r, c, rfl⟩ : ∃ r c, s = r ++ [c] := ⟨s.dropLast, s.getLast hs, (List.dropLast_concat_getLast hs).symm⟩
  obtain h | h | h | h : k = 0 ∨ k = 1 ∨ k = 2 ∨ k = 3 := by omega
  · subst h
    have hc := hl c (by simp)
    rw [show suf 0 = [] from rfl, List.append_nil, sfx_snoc, body_snoc, hc]; exact ⟨rfl, rfl⟩
  · subst h; rw [show suf 1 = [75] from rfl, sfx_snoc, body_snoc]; exact ⟨rfl, rfl⟩
  · subst h; rw [show suf 2 = [77] from rfl, sfx_snoc, body_snoc]; exact ⟨rfl, rfl⟩
  · subst h; rw [show suf 3 = [71] from rfl, sfx_snoc, body_snoc]; exact ⟨rfl, rfl⟩
def numRes (x sh : Nat) : Num := if x * 2 ^ sh < 18446744073709551616 then .val (x * 2 ^ sh) else .big
theorem dig_ok16 (c : UInt8) (h : isDig c = true) : okDig 16 c = true := by simp [okDig, isHex]; exact .inl h
theorem num_dec (x k : Nat) (hk : k < 4) (hx : x < 18446744073709551616) : num (decL x ++ suf k) = numRes x (10 * k) := by
  have D := isDec x hx
  obtain ⟨h1, h2⟩ := suffixed (decL x) k hk D.ne (fun c hc => shift_hex c (dig_ok16 c (List.all_eq_true.1 D.all c hc)))
  have hhx : hexed (decL x) = false := by
    have := D.all
    unfold hexed
    split
    · rename_i heq; rw [heq] at this; simp [isDig, digI] at this
    · rfl
  have hall : (decL x).all (okDig 10) = true := by
    have e : okDig 10 = isDig := by funext c; simp [okDig]
    rw [e]; exact D.all
  unfold num
  simp only [h1, h2, hhx, Bool.false_eq_true, if_false]
  split
  · rename_i heq; exact absurd heq (fun h => D.lead _ _ h)
  · unfold digits numRes
    rw [if_neg (by rintro (h | h); exact D.ne h; rw [hall] at h; cases h), D.val]
theorem num_hex (x k : Nat) (hk : k < 4) (hx : x < 18446744073709551616) : num (48 :: 120 :: hexL x ++ suf k) = numRes x (10 * k) := by
  obtain ⟨h1, h2, h3, h4⟩ := isHexL x hx
  obtain ⟨e1, e2⟩ := suffixed (48 :: 120 :: hexL x) k hk (by simp) (fun c hc => by
    rcases List.mem_cons.1 hc with rfl | hc
    · rfl
    · rcases List.mem_cons.1 hc with rfl | hc
      · rfl
      · exact shift_hex c (List.all_eq_true.1 h2 c hc))
  unfold num
  simp only [e1, e2]
  rw [if_pos (show hexed (48 :: 120 :: hexL x) = true from rfl)]
  unfold digits numRes
  rw [if_neg (by rintro (h | h); exact h1 h; rw [show List.drop 2 (48 :: 120 :: hexL x) = hexL x from rfl, h2] at h; cases h)]
  rw [show List.drop 2 (48 :: 120 :: hexL x) = hexL x from rfl, h3]
theorem run_whole (p : UInt8 → Bool) (t : List UInt8) (h : t.all p = true) : run p t = t.length := by
  induction t with
  | nil => rfl
  | cons c r ih =>
    rw [List.all_cons, Bool.and_eq_true] at h
    rw [run_cons_pos h.1, ih h.2]; rfl
theorem scan_num (c : UInt8) (r : List UInt8) (x sh : Nat) (hc : isDig c = true) (hw : (c :: r).all isWB = true) (hl : (c :: r).length ≤ 100) (hn : num (c :: r) = numRes x sh) :
    scan (32 :: 32 :: c :: r) = if x * 2 ^ sh < 18446744073709551616 then .ok [⟨2, [], x * 2 ^ sh, 1, 3⟩] else .no 1 3 6 := by
  rw [scan_small (by simp at hl ⊢; omega), lex_sk _ (by simp) (show step (32 :: 32 :: c :: r) = .skip 1 from rfl)]
  show lex 0 (1, 2) (32 :: c :: r) = _
  rw [lex_sk _ (by simp) (show step (32 :: c :: r) = .skip 1 from rfl)]
  show lex 0 (1, 3) (c :: r) = _
  have hd : digI (c.toNat : Int) = true := hc
  simp only [digI, decide_eq_true_eq] at hd
  have hsp : isSp c = false := by simp [isSp, spI]; omega
  have h35 : c ≠ 35 := by rintro rfl; simp at hd
  have hr := run_whole isWB (c :: r) hw
  have hs : step (c :: r) = first (c :: r) := by simp [step, hsp, h35]
  have hf : first (c :: r) = match num (c :: r) with | .bad => .err 50 | .big => .err 6 | .val v => .tok 2 [] v (c :: r).length := by
    simp only [first, if_pos hc, hr, List.take_length]
    rfl
  rw [hn] at hf
  unfold numRes at hf
  by_cases h : x * 2 ^ sh < 18446744073709551616
  · rw [if_pos h] at hf ⊢
    rw [lex_tk _ (by simp) (hs.trans hf), List.drop_length, lex_nil]; rfl
  · rw [if_neg h] at hf ⊢
    rw [lex_er _ (by simp) (hs.trans hf)]

theorem wb_hex (c : UInt8) (h : okDig 16 c = true) : isWB c = true := by
  simp [okDig, isHex, digI, hexI] at h
  simp [isWB, wbI, ltrI, digI]; omega
theorem suf_wb (k : Nat) : (suf k).all isWB = true := by unfold suf; (repeat' split) <;> rfl
theorem suf_len (k : Nat) : (suf k).length ≤ 1 := by unfold suf; (repeat' split) <;> simp
theorem scan_dec (x k : Nat) (hk : k < 4) (hx : x < 18446744073709551616) : scan (32 :: 32 :: (decL x ++ suf k)) = if x * 2 ^ (10 * k) < 18446744073709551616 then .ok [⟨2, [], x * 2 ^ (10 * k), 1, 3⟩] else .no 1 3 6 := by
  have D := isDec x hx
  have hn := num_dec x k hk hx
  obtain ⟨c, r, hcr⟩ := List.exists_cons_of_ne_nil D.ne
  have hall := D.all
  have hlen := D.len
  have hw : (decL x).all isWB = true := List.all_eq_true.2 fun c hc => wb_hex c (dig_ok16 c (List.all_eq_true.1 hall c hc))
  rw [hcr] at hall hn hlen hw ⊢
  rw [List.all_cons, Bool.and_eq_true] at hall
  rw [List.cons_append] at hn ⊢
  refine scan_num c (r ++ suf k) x (10 * k) hall.1 ?_ ?_ hn
  · rw [← List.cons_append, List.all_append, hw, suf_wb]; rfl
  · have := suf_len k; simp at hlen ⊢; omega
theorem scan_hexn (x k : Nat) (hk : k < 4) (hx : x < 18446744073709551616) : scan (32 :: 32 :: (48 :: 120 :: hexL x ++ suf k)) = if x * 2 ^ (10 * k) < 18446744073709551616 then .ok [⟨2, [], x * 2 ^ (10 * k), 1, 3⟩] else .no 1 3 6 := by
  obtain ⟨h1, h2, h3, h4⟩ := isHexL x hx
  have hn := num_hex x k hk hx
  have hw : (hexL x).all isWB = true := List.all_eq_true.2 fun c hc => wb_hex c (List.all_eq_true.1 h2 c hc)
  rw [List.cons_append] at hn ⊢
  refine scan_num 48 (120 :: hexL x ++ suf k) x (10 * k) rfl ?_ ?_ hn
  · rw [List.all_cons, List.cons_append, List.all_cons, List.all_append, hw, suf_wb]; rfl
  · have := suf_len k; simp at h4 ⊢; omega

theorem and15 (n : Nat) (h : n < 18446744073709551616) : bits .and .u64 (n : Int) 15 = ((n % 16 : Nat) : Int) := by
  have := bits_and_u64_nat n 15 h (by omega)
  rw [show ((15 : Nat) : Int) = 15 from rfl] at this
  rw [this, show (15 : Nat) = 2 ^ 4 - 1 from rfl, Nat.and_two_pow_sub_one_eq_mod]
def sE (v : Value) : Nat := match v with | .string b => if b.size = 0 then 1 else 0 | _ => 0
theorem sE_cons (c : UInt8) (l : List UInt8) : sE (.string ⟨(c :: l).toArray⟩) = 0 := by
  simp only [sE]; rw [if_neg (by rw [ba_size]; simp)]
theorem sE_nil : sE (.string ⟨([] : List UInt8).toArray⟩) = 1 := rfl
/-- The digits that the law's loop has written so far. -/
def HexInv (x n : Nat) (l : List UInt8) : Prop := (0 < n ∧ hexL n ++ l = hexL x) ∨ (n = 0 ∧ l = hexL x) ∨ (n = 0 ∧ l = [] ∧ x = 0)
theorem hch_run (k : Nat) (h : k < 16) (W : World) : (Instr.slice 9 (.string ⟨#[48, 49, 50, 51, 52, 53, 54, 55, 56, 57, 97, 98, 99, 68, 69, 70]⟩) (some (.int .u64 (k : Int))) (some (.int .u64 ((k : Int) + 1))) none).run Tryd.prog W = .ok (.string ⟨#[hch k]⟩) W := by
  have e : (⟨#[48, 49, 50, 51, 52, 53, 54, 55, 56, 57, 97, 98, 99, 68, 69, 70]⟩ : ByteArray).extract k (k + 1) = ⟨#[hch k]⟩ := by
    rw [show (⟨#[48, 49, 50, 51, 52, 53, 54, 55, 56, 57, 97, 98, 99, 68, 69, 70]⟩ : ByteArray) = ⟨([48, 49, 50, 51, 52, 53, 54, 55, 56, 57, 97, 98, 99, 68, 69, 70] : List UInt8).toArray⟩ from rfl, cut_eq]
    obtain h | h | h | h | h | h | h | h | h | h | h | h | h | h | h | h : k = 0 ∨ k = 1 ∨ k = 2 ∨ k = 3 ∨ k = 4 ∨ k = 5 ∨ k = 6 ∨ k = 7 ∨ k = 8 ∨ k = 9 ∨ k = 10 ∨ k = 11 ∨ k = 12 ∨ k = 13 ∨ k = 14 ∨ k = 15 := by omega
    all_goals (subst h; rfl)
  rw [run_slice_string W 9 _ .u64 .u64 (k : Int) ((k : Int) + 1) Tryd.underlying9 (by omega) (by omega) (by show ((k : Int) + 1) ≤ 16; omega), show ((k : Int) + 1).toNat = k + 1 by omega, Int.toNat_natCast, e]

set_option maxRecDepth 50000 in
set_option maxHeartbeats 1000000 in
theorem numbers_walk (v : Nat) (hv : v < 18446744073709551616) (b s : Int) (hex : Bool) (w : World) (hG : Glob w) :
    Calls Tryd.prog 10 #[.int .u64 v, .int .i64 b, .int .i64 s, .bool hex] w fun e w' => e = .returned (.bool true) ∧ Below w.heap.size w w' := by
  have HG := Lib.hid hG
  have HAW := Lib.hid awake_any
  have HP1 := Lib.hid fun W => place_any b 64 (by omega) W
  have HP2 := Lib.hid fun W => place_any s 4 (by omega) W
  obtain ⟨z, hz⟩ : ∃ z : Int, z = (v : Int) := ⟨_, rfl⟩
  rw [← hz]
  have hz0 : 0 ≤ z := by omega
  have hz1 : z < 18446744073709551616 := by omega
  clear hz hv hG
  go_enter Tryd.func10, Tryd.ntmps10
  go_wp2_with fail
  refine (HP1.out _).mono ?_
  rintro e w1 ⟨p, hp, rfl, rfl⟩
  go_wp2_with fail
  refine (HP2.out _).mono ?_
  rintro e w1 ⟨k, hk, rfl, rfl⟩
  have hq0 : 0 ≤ z / 2 ^ p := Int.ediv_nonneg hz0 (Int.le_of_lt (Int.pow_pos (by omega)))
  have hq1 : z / 2 ^ p ≤ z := Int.ediv_le_self _ hz0
  go_wp2_with fail
  generalize z / 2 ^ p = y at *
  obtain ⟨x, hx⟩ : ∃ x : Nat, y = (x : Int) := ⟨y.toNat, by omega⟩
  have hx1 : x < 18446744073709551616 := by omega
  have hyb : y < 18446744073709551616 := by omega
  have HD := decimal_any x hx1 w
  rw [← hx] at HD
  have HDD := Lib.hid HD
  have HX := Lib.hid hx
  have D := isDec x hx1
  have hdl := D.len
  refine HDD.out.mono ?_
  rintro e w1 ⟨rfl, rfl⟩
  have HH := Lib.hid hx1
  cases hex
  · have HSD := Lib.hid (scan_dec x k (by omega) hx1)
    have hSl : (decL x).length ≤ 20 := D.len
    generalize decL x = S at *
    clear HD D hx hdl
    obtain rfl | rfl | rfl | rfl : k = 0 ∨ k = 1 ∨ k = 2 ∨ k = 3 := by omega
    all_goals have HSC := HSD
    · have hcat : (⟨#[32, 32]⟩ ++ ⟨S.toArray⟩ ++ ⟨#[]⟩ : ByteArray) = ⟨(32 :: 32 :: (S ++ suf 0)).toArray⟩ := by
        apply ByteArray.ext
        simp [ByteArray.data_append, suf]
      have hsl : (32 :: 32 :: (S ++ suf 0)).length ≤ maxLen := by have := suf_len 0; unfold maxLen; simp; omega
      have hov : x * 2 ^ 0 < 18446744073709551616 := by omega
      · have hsc := HSC.out
        rw [if_pos hov] at hsc
        have HS := Lib.hid fun W hW => scan_ok _ _ hsc W hW hsl
        have hyl : y ≤ 18446744073709551615 := by have := HX.out; omega
        have HVV : Hid (((x * 2 ^ 0 : Nat) : Int) = y * 1) := Lib.hid (by have := HX.out; omega)
        clear hsc hov
        go_wp2_with fail
        refine (HS.out _ (HG.out.next ((Below.refl _ _).alloc (Nat.le_refl _) _))).mono ?_
        rintro e w2 ⟨A, cap, rfl, hcap, hr, hb2⟩
        obtain ⟨b1, o1, rfl, hb1, x0, x1, x2, x3, x4⟩ := hr.cells5 (i := 0) (by simp)
        simp only [List.map_cons, List.map_nil, List.getElem_cons_zero, Tok.g, Nat.zero_mul, Nat.add_zero] at x0 x1 x2
        rw [HVV.out] at x2
        have HB2 := Lib.hid (bel_alloc (Below.refl _ _) hb2)
        have hcap1 : 1 ≤ cap := by simpa using hcap
        clear hr hb2 x3 x4 hcap
        go_wp2_with fail
        refine (HAW.out _ (HG.out.next (bel_lit HB2.out _))).mono ?_
        rintro e w3 ⟨rfl, hb3⟩
        have HB3 := Lib.hid (bel_alloc HB2.out hb3)
        clear hb3
        go_wp2
        go_ret
        exact ⟨rfl, HB3.out⟩
    · have hcat : (⟨#[32, 32]⟩ ++ ⟨S.toArray⟩ ++ ⟨#[75]⟩ : ByteArray) = ⟨(32 :: 32 :: (S ++ suf 1)).toArray⟩ := by
        apply ByteArray.ext
        simp [ByteArray.data_append, suf]
      have hsl : (32 :: 32 :: (S ++ suf 1)).length ≤ maxLen := by have := suf_len 1; unfold maxLen; simp; omega
      by_cases hov : x * 2 ^ 10 < 18446744073709551616
      · have hsc := HSC.out
        rw [if_pos hov] at hsc
        have HS := Lib.hid fun W hW => scan_ok _ _ hsc W hW hsl
        have hyl : y ≤ 18014398509481983 := by have := HX.out; omega
        have HVV : Hid (((x * 2 ^ 10 : Nat) : Int) = y * 1024) := Lib.hid (by have := HX.out; omega)
        clear hsc hov
        go_wp2_with fail
        refine (HS.out _ (HG.out.next ((Below.refl _ _).alloc (Nat.le_refl _) _))).mono ?_
        rintro e w2 ⟨A, cap, rfl, hcap, hr, hb2⟩
        obtain ⟨b1, o1, rfl, hb1, x0, x1, x2, x3, x4⟩ := hr.cells5 (i := 0) (by simp)
        simp only [List.map_cons, List.map_nil, List.getElem_cons_zero, Tok.g, Nat.zero_mul, Nat.add_zero] at x0 x1 x2
        rw [HVV.out] at x2
        have HB2 := Lib.hid (bel_alloc (Below.refl _ _) hb2)
        have hcap1 : 1 ≤ cap := by simpa using hcap
        clear hr hb2 x3 x4 hcap
        go_wp2_with fail
        refine (HAW.out _ (HG.out.next (bel_lit HB2.out _))).mono ?_
        rintro e w3 ⟨rfl, hb3⟩
        have HB3 := Lib.hid (bel_alloc HB2.out hb3)
        clear hb3
        go_wp2
        go_ret
        exact ⟨rfl, HB3.out⟩
      · have hsc := HSC.out
        rw [if_neg hov] at hsc
        have HS := Lib.hid fun W hW => scan_no _ _ _ _ hsc W hW hsl
        have hyl : 18014398509481983 < y := by have := HX.out; omega
        clear hsc hov
        go_wp2_with fail
        refine (HS.out _ (HG.out.next ((Below.refl _ _).alloc (Nat.le_refl _) _))).mono ?_
        rintro e w2 ⟨rfl, hb2⟩
        have HB2 := Lib.hid (bel_alloc (Below.refl _ _) hb2)
        clear hb2
        go_wp2_with fail
        refine (HAW.out _ (HG.out.next (bel_lit HB2.out _))).mono ?_
        rintro e w3 ⟨rfl, hb3⟩
        have HB3 := Lib.hid (bel_alloc HB2.out hb3)
        clear hb3
        go_wp2
        go_ret
        exact ⟨rfl, HB3.out⟩
    · have hcat : (⟨#[32, 32]⟩ ++ ⟨S.toArray⟩ ++ ⟨#[77]⟩ : ByteArray) = ⟨(32 :: 32 :: (S ++ suf 2)).toArray⟩ := by
        apply ByteArray.ext
        simp [ByteArray.data_append, suf]
      have hsl : (32 :: 32 :: (S ++ suf 2)).length ≤ maxLen := by have := suf_len 2; unfold maxLen; simp; omega
      by_cases hov : x * 2 ^ 20 < 18446744073709551616
      · have hsc := HSC.out
        rw [if_pos hov] at hsc
        have HS := Lib.hid fun W hW => scan_ok _ _ hsc W hW hsl
        have hyl : y ≤ 17592186044415 := by have := HX.out; omega
        have HVV : Hid (((x * 2 ^ 20 : Nat) : Int) = y * 1048576) := Lib.hid (by have := HX.out; omega)
        clear hsc hov
        go_wp2_with fail
        refine (HS.out _ (HG.out.next ((Below.refl _ _).alloc (Nat.le_refl _) _))).mono ?_
        rintro e w2 ⟨A, cap, rfl, hcap, hr, hb2⟩
        obtain ⟨b1, o1, rfl, hb1, x0, x1, x2, x3, x4⟩ := hr.cells5 (i := 0) (by simp)
        simp only [List.map_cons, List.map_nil, List.getElem_cons_zero, Tok.g, Nat.zero_mul, Nat.add_zero] at x0 x1 x2
        rw [HVV.out] at x2
        have HB2 := Lib.hid (bel_alloc (Below.refl _ _) hb2)
        have hcap1 : 1 ≤ cap := by simpa using hcap
        clear hr hb2 x3 x4 hcap
        go_wp2_with fail
        refine (HAW.out _ (HG.out.next (bel_lit HB2.out _))).mono ?_
        rintro e w3 ⟨rfl, hb3⟩
        have HB3 := Lib.hid (bel_alloc HB2.out hb3)
        clear hb3
        go_wp2
        go_ret
        exact ⟨rfl, HB3.out⟩
      · have hsc := HSC.out
        rw [if_neg hov] at hsc
        have HS := Lib.hid fun W hW => scan_no _ _ _ _ hsc W hW hsl
        have hyl : 17592186044415 < y := by have := HX.out; omega
        clear hsc hov
        go_wp2_with fail
        refine (HS.out _ (HG.out.next ((Below.refl _ _).alloc (Nat.le_refl _) _))).mono ?_
        rintro e w2 ⟨rfl, hb2⟩
        have HB2 := Lib.hid (bel_alloc (Below.refl _ _) hb2)
        clear hb2
        go_wp2_with fail
        refine (HAW.out _ (HG.out.next (bel_lit HB2.out _))).mono ?_
        rintro e w3 ⟨rfl, hb3⟩
        have HB3 := Lib.hid (bel_alloc HB2.out hb3)
        clear hb3
        go_wp2
        go_ret
        exact ⟨rfl, HB3.out⟩
    · have hcat : (⟨#[32, 32]⟩ ++ ⟨S.toArray⟩ ++ ⟨#[71]⟩ : ByteArray) = ⟨(32 :: 32 :: (S ++ suf 3)).toArray⟩ := by
        apply ByteArray.ext
        simp [ByteArray.data_append, suf]
      have hsl : (32 :: 32 :: (S ++ suf 3)).length ≤ maxLen := by have := suf_len 3; unfold maxLen; simp; omega
      by_cases hov : x * 2 ^ 30 < 18446744073709551616
      · have hsc := HSC.out
        rw [if_pos hov] at hsc
        have HS := Lib.hid fun W hW => scan_ok _ _ hsc W hW hsl
        have hyl : y ≤ 17179869183 := by have := HX.out; omega
        have HVV : Hid (((x * 2 ^ 30 : Nat) : Int) = y * 1073741824) := Lib.hid (by have := HX.out; omega)
        clear hsc hov
        go_wp2_with fail
        refine (HS.out _ (HG.out.next ((Below.refl _ _).alloc (Nat.le_refl _) _))).mono ?_
        rintro e w2 ⟨A, cap, rfl, hcap, hr, hb2⟩
        obtain ⟨b1, o1, rfl, hb1, x0, x1, x2, x3, x4⟩ := hr.cells5 (i := 0) (by simp)
        simp only [List.map_cons, List.map_nil, List.getElem_cons_zero, Tok.g, Nat.zero_mul, Nat.add_zero] at x0 x1 x2
        rw [HVV.out] at x2
        have HB2 := Lib.hid (bel_alloc (Below.refl _ _) hb2)
        have hcap1 : 1 ≤ cap := by simpa using hcap
        clear hr hb2 x3 x4 hcap
        go_wp2_with fail
        refine (HAW.out _ (HG.out.next (bel_lit HB2.out _))).mono ?_
        rintro e w3 ⟨rfl, hb3⟩
        have HB3 := Lib.hid (bel_alloc HB2.out hb3)
        clear hb3
        go_wp2
        go_ret
        exact ⟨rfl, HB3.out⟩
      · have hsc := HSC.out
        rw [if_neg hov] at hsc
        have HS := Lib.hid fun W hW => scan_no _ _ _ _ hsc W hW hsl
        have hyl : 17179869183 < y := by have := HX.out; omega
        clear hsc hov
        go_wp2_with fail
        refine (HS.out _ (HG.out.next ((Below.refl _ _).alloc (Nat.le_refl _) _))).mono ?_
        rintro e w2 ⟨rfl, hb2⟩
        have HB2 := Lib.hid (bel_alloc (Below.refl _ _) hb2)
        clear hb2
        go_wp2_with fail
        refine (HAW.out _ (HG.out.next (bel_lit HB2.out _))).mono ?_
        rintro e w3 ⟨rfl, hb3⟩
        have HB3 := Lib.hid (bel_alloc HB2.out hb3)
        clear hb3
        go_wp2
        go_ret
        exact ⟨rfl, HB3.out⟩
  · have HSD := Lib.hid (scan_hexn x k (by omega) hx1)
    have HLN := Lib.hid (isHexL x hx1).2.2.2
    have HNE := Lib.hid (isHexL x hx1).1
    clear HD D hx hdl
    go_wp2
    go_loop [11, 12] (fun vs vy => ∃ (l : List UInt8) (u : Int), vs = .string ⟨l.toArray⟩ ∧ vy = .int .u64 u ∧ l.length ≤ 16 ∧ Hid (∃ n : Nat, u = (n : Int) ∧ n < 18446744073709551616 ∧ HexInv x n l)) (fun vs vy => (intOf vy).toNat + sE vs)
    case atStart => exact ⟨[], y, rfl, rfl, by simp, Lib.hid ⟨x, HX.out, HH.out, by
      rcases Nat.eq_zero_or_pos x with h0 | h0
      · exact .inr (.inr ⟨h0, rfl, h0⟩)
      · exact .inl ⟨h0, by rw [List.append_nil]⟩⟩⟩
    case round =>
      obtain ⟨l, u, rfl, rfl, hll, HI⟩ := hrel
      obtain ⟨n, hn, hn1, hinv⟩ := HI.out
      by_cases hu : 0 < u
      · have hm : n % 16 < 16 := Nat.mod_lt _ (by omega)
        have hrun := hch_run (n % 16) hm
        have hub : u < 18446744073709551616 := by omega
        have hcat := cons_cat (hch (n % 16)) l
        have hand : bits .and .u64 u 15 = ((n % 16 : Nat) : Int) := by rw [hn]; exact and15 n hn1
        have hq : ((n % 16 : Nat) : Int) = u % 16 := by omega
        rw [hq] at hand hrun
        have hu0 : 0 ≤ u := by omega
        have hmb : u % 16 < 16 := by omega
        have hmb0 : 0 ≤ u % 16 := by omega
        have hwrap : IntKind.u64.wrap (u % 16 + 1) = u % 16 + 1 := by rw [IntKind.wrap_u64]; omega
        have h16 : u / 16 < u := by omega
        have hlen : l.length + 1 ≤ 16 := by
          have hle := HLN.out
          rcases hinv with ⟨h0, h1⟩ | ⟨h0, _⟩ | ⟨h0, _⟩
          · have := congrArg List.length h1
            have hp := List.length_pos_iff.2 (isHexL n hn1).1
            rw [List.length_append] at this; omega
          · omega
          · omega
        have HN : Hid (∃ m : Nat, u / 16 = (m : Int) ∧ m < 18446744073709551616 ∧ HexInv x m (hch (n % 16) :: l)) := Lib.hid ⟨n / 16, by omega, by omega, by
          rcases hinv with ⟨h0, h1⟩ | ⟨h0, _⟩ | ⟨h0, _⟩
          · by_cases h16 : n < 16
            · right; left
              refine ⟨by omega, ?_⟩
              rw [← h1, hexL_lt h16, show n % 16 = n by omega]; rfl
            · left
              refine ⟨by omega, ?_⟩
              rw [← h1, hexL_ge h16]; simp
          · omega
          · omega⟩
        generalize hch (n % 16) = c at *
        clear hn hinv HI hq hm
        go_wp2
        go_round
        case rel => exact ⟨c :: l, u / 16, rfl, rfl, by simpa using hlen, HN⟩
        case measure => rw [sE_cons]; simp [intOf]; omega
      · have hu0 : u = 0 := by omega
        subst hu0
        have hn0 : n = 0 := by omega
        subst hn0
        by_cases hl0 : l = []
        · subst hl0
          have hext : (⟨#[48, 49, 50, 51, 52, 53, 54, 55, 56, 57, 97, 98, 99, 68, 69, 70]⟩ : ByteArray).extract 0 1 ++ ⟨#[]⟩ = ⟨([48] : List UInt8).toArray⟩ := by
            apply ByteArray.ext
            rfl
          have hx0 : x = 0 := by
            rcases hinv with ⟨h0, _⟩ | ⟨_, h0⟩ | ⟨_, _, h0⟩
            · omega
            · exact absurd h0.symm HNE.out
            · exact h0
          have HN : Hid (∃ m : Nat, (0 : Int) = (m : Int) ∧ m < 18446744073709551616 ∧ HexInv x m [48]) := Lib.hid ⟨0, rfl, by omega, .inr (.inl ⟨rfl, by rw [hx0, hexL_lt (by omega)]; rfl⟩)⟩
          clear hn hinv HI hx0
          have hand : bits .and .u64 0 15 = 0 := by have := and15 0 (by omega); simpa using this
          go_wp2
          go_round
          case rel => exact ⟨[48], 0, rfl, rfl, by simp, HN⟩
          case measure => rw [sE_cons 48 [], sE_nil]; simp [intOf]
        · have hex' : l = hexL x := by
            rcases hinv with ⟨h0, _⟩ | ⟨_, h0⟩ | ⟨_, h0, _⟩
            · omega
            · exact h0
            · exact absurd h0 hl0
          have hemp : l.isEmpty = false := by cases l with | nil => exact absurd rfl hl0 | cons _ _ => rfl
          have hcat2 : (⟨#[48, 120]⟩ ++ ⟨l.toArray⟩ : ByteArray) = ⟨(48 :: 120 :: l).toArray⟩ := by
            apply ByteArray.ext
            simp [ByteArray.data_append]
          rw [← hex'] at HSD
          obtain ⟨S, hS⟩ : ∃ S, S = 48 :: 120 :: l := ⟨_, rfl⟩
          have hSl : S.length ≤ 20 := by rw [hS]; simp; omega
          have hSl2 : l.length ≤ 16 := hll
          rw [← hS] at hcat2 HSD
          clear hn hinv HI hex' hS HLN HNE
          obtain rfl | rfl | rfl | rfl : k = 0 ∨ k = 1 ∨ k = 2 ∨ k = 3 := by omega
          all_goals have HSC := HSD
          · have hcat : (⟨#[32, 32]⟩ ++ ⟨S.toArray⟩ ++ ⟨#[]⟩ : ByteArray) = ⟨(32 :: 32 :: (S ++ suf 0)).toArray⟩ := by
              apply ByteArray.ext
              simp [ByteArray.data_append, suf]
            have hsl : (32 :: 32 :: (S ++ suf 0)).length ≤ maxLen := by have := suf_len 0; unfold maxLen; simp; omega
            have hov : x * 2 ^ 0 < 18446744073709551616 := by omega
            · have hsc := HSC.out
              rw [if_pos hov] at hsc
              have HS := Lib.hid fun W hW => scan_ok _ _ hsc W hW hsl
              have hyl : y ≤ 18446744073709551615 := by have := HX.out; omega
              have HVV : Hid (((x * 2 ^ 0 : Nat) : Int) = y * 1) := Lib.hid (by have := HX.out; omega)
              clear hsc hov
              go_wp2_with fail
              refine (HS.out _ (HG.out.next ((Below.refl _ _).alloc (Nat.le_refl _) _))).mono ?_
              rintro e w2 ⟨A, cap, rfl, hcap, hr, hb2⟩
              obtain ⟨b1, o1, rfl, hb1, x0, x1, x2, x3, x4⟩ := hr.cells5 (i := 0) (by simp)
              simp only [List.map_cons, List.map_nil, List.getElem_cons_zero, Tok.g, Nat.zero_mul, Nat.add_zero] at x0 x1 x2
              rw [HVV.out] at x2
              have HB2 := Lib.hid (bel_alloc (Below.refl _ _) hb2)
              have hcap1 : 1 ≤ cap := by simpa using hcap
              clear hr hb2 x3 x4 hcap
              go_wp2_with fail
              refine (HAW.out _ (HG.out.next (bel_lit HB2.out _))).mono ?_
              rintro e w3 ⟨rfl, hb3⟩
              have HB3 := Lib.hid (bel_alloc HB2.out hb3)
              clear hb3
              go_wp2
              go_ret
              exact ⟨rfl, HB3.out⟩
          · have hcat : (⟨#[32, 32]⟩ ++ ⟨S.toArray⟩ ++ ⟨#[75]⟩ : ByteArray) = ⟨(32 :: 32 :: (S ++ suf 1)).toArray⟩ := by
              apply ByteArray.ext
              simp [ByteArray.data_append, suf]
            have hsl : (32 :: 32 :: (S ++ suf 1)).length ≤ maxLen := by have := suf_len 1; unfold maxLen; simp; omega
            by_cases hov : x * 2 ^ 10 < 18446744073709551616
            · have hsc := HSC.out
              rw [if_pos hov] at hsc
              have HS := Lib.hid fun W hW => scan_ok _ _ hsc W hW hsl
              have hyl : y ≤ 18014398509481983 := by have := HX.out; omega
              have HVV : Hid (((x * 2 ^ 10 : Nat) : Int) = y * 1024) := Lib.hid (by have := HX.out; omega)
              clear hsc hov
              go_wp2_with fail
              refine (HS.out _ (HG.out.next ((Below.refl _ _).alloc (Nat.le_refl _) _))).mono ?_
              rintro e w2 ⟨A, cap, rfl, hcap, hr, hb2⟩
              obtain ⟨b1, o1, rfl, hb1, x0, x1, x2, x3, x4⟩ := hr.cells5 (i := 0) (by simp)
              simp only [List.map_cons, List.map_nil, List.getElem_cons_zero, Tok.g, Nat.zero_mul, Nat.add_zero] at x0 x1 x2
              rw [HVV.out] at x2
              have HB2 := Lib.hid (bel_alloc (Below.refl _ _) hb2)
              have hcap1 : 1 ≤ cap := by simpa using hcap
              clear hr hb2 x3 x4 hcap
              go_wp2_with fail
              refine (HAW.out _ (HG.out.next (bel_lit HB2.out _))).mono ?_
              rintro e w3 ⟨rfl, hb3⟩
              have HB3 := Lib.hid (bel_alloc HB2.out hb3)
              clear hb3
              go_wp2
              go_ret
              exact ⟨rfl, HB3.out⟩
            · have hsc := HSC.out
              rw [if_neg hov] at hsc
              have HS := Lib.hid fun W hW => scan_no _ _ _ _ hsc W hW hsl
              have hyl : 18014398509481983 < y := by have := HX.out; omega
              clear hsc hov
              go_wp2_with fail
              refine (HS.out _ (HG.out.next ((Below.refl _ _).alloc (Nat.le_refl _) _))).mono ?_
              rintro e w2 ⟨rfl, hb2⟩
              have HB2 := Lib.hid (bel_alloc (Below.refl _ _) hb2)
              clear hb2
              go_wp2_with fail
              refine (HAW.out _ (HG.out.next (bel_lit HB2.out _))).mono ?_
              rintro e w3 ⟨rfl, hb3⟩
              have HB3 := Lib.hid (bel_alloc HB2.out hb3)
              clear hb3
              go_wp2
              go_ret
              exact ⟨rfl, HB3.out⟩
          · have hcat : (⟨#[32, 32]⟩ ++ ⟨S.toArray⟩ ++ ⟨#[77]⟩ : ByteArray) = ⟨(32 :: 32 :: (S ++ suf 2)).toArray⟩ := by
              apply ByteArray.ext
              simp [ByteArray.data_append, suf]
            have hsl : (32 :: 32 :: (S ++ suf 2)).length ≤ maxLen := by have := suf_len 2; unfold maxLen; simp; omega
            by_cases hov : x * 2 ^ 20 < 18446744073709551616
            · have hsc := HSC.out
              rw [if_pos hov] at hsc
              have HS := Lib.hid fun W hW => scan_ok _ _ hsc W hW hsl
              have hyl : y ≤ 17592186044415 := by have := HX.out; omega
              have HVV : Hid (((x * 2 ^ 20 : Nat) : Int) = y * 1048576) := Lib.hid (by have := HX.out; omega)
              clear hsc hov
              go_wp2_with fail
              refine (HS.out _ (HG.out.next ((Below.refl _ _).alloc (Nat.le_refl _) _))).mono ?_
              rintro e w2 ⟨A, cap, rfl, hcap, hr, hb2⟩
              obtain ⟨b1, o1, rfl, hb1, x0, x1, x2, x3, x4⟩ := hr.cells5 (i := 0) (by simp)
              simp only [List.map_cons, List.map_nil, List.getElem_cons_zero, Tok.g, Nat.zero_mul, Nat.add_zero] at x0 x1 x2
              rw [HVV.out] at x2
              have HB2 := Lib.hid (bel_alloc (Below.refl _ _) hb2)
              have hcap1 : 1 ≤ cap := by simpa using hcap
              clear hr hb2 x3 x4 hcap
              go_wp2_with fail
              refine (HAW.out _ (HG.out.next (bel_lit HB2.out _))).mono ?_
              rintro e w3 ⟨rfl, hb3⟩
              have HB3 := Lib.hid (bel_alloc HB2.out hb3)
              clear hb3
              go_wp2
              go_ret
              exact ⟨rfl, HB3.out⟩
            · have hsc := HSC.out
              rw [if_neg hov] at hsc
              have HS := Lib.hid fun W hW => scan_no _ _ _ _ hsc W hW hsl
              have hyl : 17592186044415 < y := by have := HX.out; omega
              clear hsc hov
              go_wp2_with fail
              refine (HS.out _ (HG.out.next ((Below.refl _ _).alloc (Nat.le_refl _) _))).mono ?_
              rintro e w2 ⟨rfl, hb2⟩
              have HB2 := Lib.hid (bel_alloc (Below.refl _ _) hb2)
              clear hb2
              go_wp2_with fail
              refine (HAW.out _ (HG.out.next (bel_lit HB2.out _))).mono ?_
              rintro e w3 ⟨rfl, hb3⟩
              have HB3 := Lib.hid (bel_alloc HB2.out hb3)
              clear hb3
              go_wp2
              go_ret
              exact ⟨rfl, HB3.out⟩
          · have hcat : (⟨#[32, 32]⟩ ++ ⟨S.toArray⟩ ++ ⟨#[71]⟩ : ByteArray) = ⟨(32 :: 32 :: (S ++ suf 3)).toArray⟩ := by
              apply ByteArray.ext
              simp [ByteArray.data_append, suf]
            have hsl : (32 :: 32 :: (S ++ suf 3)).length ≤ maxLen := by have := suf_len 3; unfold maxLen; simp; omega
            by_cases hov : x * 2 ^ 30 < 18446744073709551616
            · have hsc := HSC.out
              rw [if_pos hov] at hsc
              have HS := Lib.hid fun W hW => scan_ok _ _ hsc W hW hsl
              have hyl : y ≤ 17179869183 := by have := HX.out; omega
              have HVV : Hid (((x * 2 ^ 30 : Nat) : Int) = y * 1073741824) := Lib.hid (by have := HX.out; omega)
              clear hsc hov
              go_wp2_with fail
              refine (HS.out _ (HG.out.next ((Below.refl _ _).alloc (Nat.le_refl _) _))).mono ?_
              rintro e w2 ⟨A, cap, rfl, hcap, hr, hb2⟩
              obtain ⟨b1, o1, rfl, hb1, x0, x1, x2, x3, x4⟩ := hr.cells5 (i := 0) (by simp)
              simp only [List.map_cons, List.map_nil, List.getElem_cons_zero, Tok.g, Nat.zero_mul, Nat.add_zero] at x0 x1 x2
              rw [HVV.out] at x2
              have HB2 := Lib.hid (bel_alloc (Below.refl _ _) hb2)
              have hcap1 : 1 ≤ cap := by simpa using hcap
              clear hr hb2 x3 x4 hcap
              go_wp2_with fail
              refine (HAW.out _ (HG.out.next (bel_lit HB2.out _))).mono ?_
              rintro e w3 ⟨rfl, hb3⟩
              have HB3 := Lib.hid (bel_alloc HB2.out hb3)
              clear hb3
              go_wp2
              go_ret
              exact ⟨rfl, HB3.out⟩
            · have hsc := HSC.out
              rw [if_neg hov] at hsc
              have HS := Lib.hid fun W hW => scan_no _ _ _ _ hsc W hW hsl
              have hyl : 17179869183 < y := by have := HX.out; omega
              clear hsc hov
              go_wp2_with fail
              refine (HS.out _ (HG.out.next ((Below.refl _ _).alloc (Nat.le_refl _) _))).mono ?_
              rintro e w2 ⟨rfl, hb2⟩
              have HB2 := Lib.hid (bel_alloc (Below.refl _ _) hb2)
              clear hb2
              go_wp2_with fail
              refine (HAW.out _ (HG.out.next (bel_lit HB2.out _))).mono ?_
              rintro e w3 ⟨rfl, hb3⟩
              have HB3 := Lib.hid (bel_alloc HB2.out hb3)
              clear hb3
              go_wp2
              go_ret
              exact ⟨rfl, HB3.out⟩
end Go.Proofs.YtoedieknjbojdaaDoor
