/-
  Numerals: the decimal and the hexadecimal digits of a number, their value; the contracts of the reference's Decimal and of the kit's Place.
  Conditions: the number is less than 2^64.
  Numerals with a suffix: what scanning them comes to.
  Conditions: the number is less than 2^64.
  The numerals that the law on immediates writes: decimal and hexadecimal.
  Conditions: the number is less than 2^64.
-/
import Derived.Test.YtahhmgoffdggpaaGreatDoorMb6
import Derived.Test.YtahhmgoffdggpaaGreatDoorMb14
import Derived.Laws.Bits64b
namespace Go.Proofs.YtahhmgoffdggpaaGreatDoor

open Go.RowKit Go.Shelf

/-- The byte of a decimal digit. -/
def dch (k : Nat) : UInt8 := (48 + k).toUInt8
def decF : Nat → Nat → List UInt8
  | 0, _ => []
  | f + 1, x => if x < 10 then [dch x] else decF f (x / 10) ++ [dch (x % 10)]
/-- The decimal digits. -/
def decL (x : Nat) : List UInt8 := decF (x + 1) x
theorem decF_fuel : ∀ (f x : Nat), x < f → ∀ g, f ≤ g → decF g x = decF f x := by
  intro f
  induction f with
  | zero => intro x h; omega
  | succ f ih =>
    intro x h g hg
    obtain ⟨g, rfl⟩ : ∃ j, g = j + 1 := ⟨g - 1, by omega⟩
    simp only [decF]
    by_cases hx : x < 10
    · rw [if_pos hx, if_pos hx]
    · rw [if_neg hx, if_neg hx, ih (x / 10) (by omega) g (by omega)]
theorem decL_lt {x : Nat} (h : x < 10) : decL x = [dch x] := by simp [decL, decF, h]
theorem decL_ge {x : Nat} (h : ¬ x < 10) : decL x = decL (x / 10) ++ [dch (x % 10)] := by
  unfold decL
  rw [decF, if_neg h, decF_fuel (x / 10 + 1) (x / 10) (by omega) x (by omega)]
theorem dig_toNat {k : Nat} (h : k < 10) : (dch k).toNat = 48 + k := by unfold dch; simp; omega
theorem dig_isDig {k : Nat} (h : k < 10) : isDig (dch k) = true := by
  simp only [isDig, digI, decide_eq_true_eq]
  rw [dig_toNat h]; omega
theorem dval_d {k : Nat} (h : k < 10) : dval (dch k) = k := by
  unfold dval
  rw [dig_toNat h, if_pos (by omega)]; omega
/-- What holds of a number's decimal digits. -/
structure IsDec (x : Nat) (l : List UInt8) : Prop where
  ne : l ≠ []
  all : l.all isDig = true
  val : value 10 l = x
  len : l.length ≤ 20
  lead : ∀ c r, l = 48 :: c :: r → False
theorem value_snoc (b : Nat) (l : List UInt8) (c : UInt8) : value b (l ++ [c]) = value b l * b + dval c := by simp [value]
theorem decL_is : ∀ (n x : Nat), x < 10 ^ (n + 1) → n ≤ 19 → (decL x ≠ [] ∧ (decL x).all isDig = true ∧ value 10 (decL x) = x ∧ (decL x).length ≤ n + 1 ∧ (0 < x → ∀ r, decL x ≠ 48 :: r)) := by
  intro n
  induction n with
  | zero =>
    intro x hx _
    have h : x < 10 := by simpa using hx
    rw [decL_lt h]
    refine ⟨by simp, by simp [dig_isDig h], by simp [value, dval_d h], by simp, fun h0 r hr => ?_⟩
    have := congrArg UInt8.toNat (List.cons.inj hr).1
    rw [dig_toNat h] at this
    simp at this; omega
  | succ n ih =>
    intro x hx hn
    by_cases h : x < 10
    · rw [decL_lt h]
      refine ⟨by simp, by simp [dig_isDig h], by simp [value, dval_d h], by simp, fun h0 r hr => ?_⟩
      have := congrArg UInt8.toNat (List.cons.inj hr).1
      rw [dig_toNat h] at this
      simp at this; omega
    · rw [decL_ge h]
      obtain ⟨h1, h2, h3, h4, h5⟩ := ih (x / 10) (by rw [Nat.pow_succ] at hx; omega) (by omega)
      have hm : x % 10 < 10 := Nat.mod_lt _ (by omega)
      refine ⟨by simp, by rw [List.all_append, h2]; simp [dig_isDig hm], by rw [value_snoc, h3, dval_d hm]; omega, by simp; omega, fun _ r hr => ?_⟩
      obtain ⟨c, s, hs⟩ := List.exists_cons_of_ne_nil h1
      rw [hs, List.cons_append] at hr
      exact h5 (by omega) s (by rw [hs, (List.cons.inj hr).1])
theorem isDec (x : Nat) (h : x < 18446744073709551616) : IsDec x (decL x) := by
  obtain ⟨h1, h2, h3, h4, h5⟩ := decL_is 19 x (by omega) (by omega)
  refine ⟨h1, h2, h3, h4, fun c r hr => ?_⟩
  rcases Nat.eq_zero_or_pos x with h0 | h0
  · subst h0
    rw [decL_lt (by omega)] at hr
    have := congrArg List.length hr
    simp at this
  · exact h5 h0 _ hr

theorem dig_run (k : Nat) (h : k < 10) (W : World) : (Instr.slice 9 (.string ⟨#[48, 49, 50, 51, 52, 53, 54, 55, 56, 57]⟩) (some (.int .u64 (k : Int))) (some (.int .u64 ((k : Int) + 1))) none).run Tryz.prog W = .ok (.string ⟨#[dch k]⟩) W := by
  have e : (⟨#[48, 49, 50, 51, 52, 53, 54, 55, 56, 57]⟩ : ByteArray).extract k (k + 1) = ⟨#[dch k]⟩ := by
    rw [show (⟨#[48, 49, 50, 51, 52, 53, 54, 55, 56, 57]⟩ : ByteArray) = ⟨([48, 49, 50, 51, 52, 53, 54, 55, 56, 57] : List UInt8).toArray⟩ from rfl, cut_eq]
    obtain h | h | h | h | h | h | h | h | h | h : k = 0 ∨ k = 1 ∨ k = 2 ∨ k = 3 ∨ k = 4 ∨ k = 5 ∨ k = 6 ∨ k = 7 ∨ k = 8 ∨ k = 9 := by omega
    all_goals (subst h; rfl)
  rw [run_slice_string W 9 _ .u64 .u64 (k : Int) ((k : Int) + 1) Tryz.underlying9 (by omega) (by omega) (by show ((k : Int) + 1) ≤ 10; omega), show ((k : Int) + 1).toNat = k + 1 by omega, Int.toNat_natCast, e]
theorem cons_cat (c : UInt8) (l : List UInt8) : (⟨#[c]⟩ ++ ⟨l.toArray⟩ : ByteArray) = ⟨(c :: l).toArray⟩ := by
  apply ByteArray.ext
  simp [ByteArray.data_append]

set_option maxRecDepth 50000 in
set_option maxHeartbeats 1000000 in
theorem decimal_any (x : Nat) (hx : x < 18446744073709551616) (w : World) :
    Calls Tryz.prog 30 #[.int .u64 x] w fun e w' => e = .returned (.string ⟨(decL x).toArray⟩) ∧ w = w' := by
  have hd := (isDec x hx).len
  obtain ⟨X, hX⟩ : ∃ X, X = decL x := ⟨_, rfl⟩
  rw [← hX] at hd ⊢
  have HX := Lib.hid hX
  obtain ⟨z, hz⟩ : ∃ z : Int, z = (x : Int) := ⟨_, rfl⟩
  rw [← hz]
  have HZ := Lib.hid hz
  have hx2 := Lib.hid hx
  clear hz hX hx
  go_enter Tryz.func30, Tryz.ntmps30
  go_wp2
  go_loop [0, 3] (fun vv vs => ∃ (y : Int) (l : List UInt8), vv = .int .u64 y ∧ vs = .string ⟨l.toArray⟩ ∧ Hid (∃ n : Nat, y = (n : Int) ∧ n < 18446744073709551616 ∧ decL n ++ l = X) ∧ l.length ≤ 20) (fun vv _ => (intOf vv).toNat)
  case atStart => exact ⟨z, [], rfl, rfl, Lib.hid ⟨x, HZ.out, hx2.out, by rw [List.append_nil, HX.out]⟩, by simp⟩
  case round =>
    obtain ⟨y, l, rfl, rfl, HI, hl⟩ := hrel
    obtain ⟨n, hn, hn2, hn3⟩ := HI.out
    by_cases h10 : 10 ≤ y
    · have hm : n % 10 < 10 := Nat.mod_lt _ (by omega)
      have hrun := dig_run (n % 10) hm
      have hy0 : 0 ≤ y := by omega
      have hq : ((n % 10 : Nat) : Int) = y % 10 := by omega
      rw [hq] at hrun
      have hlen : l.length + 1 ≤ 20 := by
        have := congrArg List.length hn3
        rw [decL_ge (x := n) (by omega), List.length_append, List.length_append] at this
        have hne := (isDec (n / 10) (by omega)).ne
        have := List.length_pos_iff.2 hne
        simp at *; omega
      have HN : Hid (∃ m : Nat, y / 10 = (m : Int) ∧ m < 18446744073709551616 ∧ decL m ++ (dch (n % 10) :: l) = X) := Lib.hid ⟨n / 10, by omega, by omega, by rw [← hn3, decL_ge (x := n) (by omega)]; simp⟩
      have hcat := cons_cat (dch (n % 10)) l
      generalize dch (n % 10) = c at *
      have hdv : y / 10 < y := by omega
      have hdv0 : 0 ≤ y / 10 := by omega
      have hyb : y < 18446744073709551616 := by omega
      have hwr : IntKind.u64.wrap (y.tdiv 10) = y / 10 := by rw [Int.tdiv_eq_ediv_of_nonneg hy0, IntKind.wrap_u64]; omega
      clear hn3 hm hq hn HI
      go_wp2
      go_round
      case rel => exact ⟨y / 10, c :: l, rfl, rfl, HN, by simpa using hlen⟩
      case measure => simp [intOf]; omega
    · have hrun := dig_run n (by omega)
      have HE : Hid (X = dch n :: l) := Lib.hid (by rw [← hn3, decL_lt (x := n) (by omega)]; rfl)
      have hcat := cons_cat (dch n) l
      rw [← hn] at hrun
      generalize dch n = c at *
      have hy0 : 0 ≤ y := by omega
      have h9 : y ≤ 9 := by omega
      clear hn3 hn HI
      go_wp2
      go_ret
      rw [HE.out]
      exact ⟨rfl, rfl⟩
end Go.Proofs.YtahhmgoffdggpaaGreatDoor


namespace Go.Proofs.YtahhmgoffdggpaaGreatDoor

open Go.RowKit Go.Shelf

/-- The byte of a hexadecimal digit, asx the law writes it. -/
def hch (k : Nat) : UInt8 := if k < 10 then (48 + k).toUInt8 else if k < 13 then (87 + k).toUInt8 else (55 + k).toUInt8
theorem hch_all : ∀ k : Fin 16, (okDig 16 (hch k.val) = true) ∧ dval (hch k.val) = k.val := by decide
def hexF : Nat → Nat → List UInt8
  | 0, _ => []
  | f + 1, x => if x < 16 then [hch x] else hexF f (x / 16) ++ [hch (x % 16)]
def hexL (x : Nat) : List UInt8 := hexF (x + 1) x
theorem hexF_fuel : ∀ (f x : Nat), x < f → ∀ g, f ≤ g → hexF g x = hexF f x := by
  intro f
  induction f with
  | zero => intro x h; omega
  | succ f ih =>
    intro x h g hg
    obtain ⟨g, rfl⟩ : ∃ j, g = j + 1 := ⟨g - 1, by omega⟩
    simp only [hexF]
    by_cases hx : x < 16
    · rw [if_pos hx, if_pos hx]
    · rw [if_neg hx, if_neg hx, ih (x / 16) (by omega) g (by omega)]
theorem hexL_lt {x : Nat} (h : x < 16) : hexL x = [hch x] := by simp [hexL, hexF, h]
theorem hexL_ge {x : Nat} (h : ¬ x < 16) : hexL x = hexL (x / 16) ++ [hch (x % 16)] := by
  unfold hexL
  rw [hexF, if_neg h, hexF_fuel (x / 16 + 1) (x / 16) (by omega) x (by omega)]
theorem hexL_is : ∀ (n x : Nat), x < 16 ^ (n + 1) → (hexL x ≠ [] ∧ (hexL x).all (okDig 16) = true ∧ value 16 (hexL x) = x ∧ (hexL x).length ≤ n + 1) := by
  intro n
  induction n with
  | zero =>
    intro x hx
    have h : x < 16 := by simpa using hx
    have hc := hch_all ⟨x, h⟩
    rw [hexL_lt h]
    exact ⟨by simp, by simpa using hc.1, by simpa [value] using hc.2, by simp⟩
  | succ n ih =>
    intro x hx
    by_cases h : x < 16
    · have hc := hch_all ⟨x, h⟩
      rw [hexL_lt h]
      exact ⟨by simp, by simpa using hc.1, by simpa [value] using hc.2, by simp⟩
    · rw [hexL_ge h]
      obtain ⟨h1, h2, h3, h4⟩ := ih (x / 16) (by rw [Nat.pow_succ] at hx; omega)
      have hc := hch_all ⟨x % 16, Nat.mod_lt _ (by omega)⟩
      exact ⟨by simp, by rw [List.all_append, h2]; simpa using hc.1, by rw [value_snoc, h3]; have := hc.2; simp only at this; rw [this]; omega, by simp; omega⟩
theorem isHexL (x : Nat) (h : x < 18446744073709551616) : hexL x ≠ [] ∧ (hexL x).all (okDig 16) = true ∧ value 16 (hexL x) = x ∧ (hexL x).length ≤ 16 := by
  have := hexL_is 15 x (by omega)
  simpa using this
def suf (k : Nat) : List UInt8 := if k = 1 then [75] else if k = 2 then [77] else if k = 3 then [71] else []
theorem shift_hex (c : UInt8) (h : okDig 16 c = true) : shiftOf c = 0 := by
  have h1 : c.toNat ≠ 75 ∧ c.toNat ≠ 77 ∧ c.toNat ≠ 71 := by
    simp [okDig, isHex, digI, hexI] at h; omega
  unfold shiftOf
  rw [if_neg (fun e => h1.1 (by rw [e]; rfl)), if_neg (fun e => h1.2.1 (by rw [e]; rfl)), if_neg (fun e => h1.2.2 (by rw [e]; rfl))]
theorem suffixed (s : List UInt8) (k : Nat) (hk : k < 4) (hs : s ≠ []) (hl : ∀ c ∈ s, shiftOf c = 0) : sfx (s ++ suf k) = 10 * k ∧ body (s ++ suf k) = s := by
  obtain ⟨r, c, rfl⟩ : ∃ r c, s = r ++ [c] := ⟨s.dropLast, s.getLast hs, (List.dropLast_concat_getLast hs).symm⟩
  obtain h | h | h | h : k = 0 ∨ k = 1 ∨ k = 2 ∨ k = 3 := by omega
  · subst h
    have hc := hl c (by simp)
    rw [show suf 0 = [] from rfl, List.append_nil, sfx_snoc, body_snoc, hc]; exact ⟨rfl, rfl⟩
  · subst h; rw [show suf 1 = [75] from rfl, sfx_snoc, body_snoc]; exact ⟨rfl, rfl⟩
  · subst h; rw [show suf 2 = [77] from rfl, sfx_snoc, body_snoc]; exact ⟨rfl, rfl⟩
  · subst h; rw [show suf 3 = [71] from rfl, sfx_snoc, body_snoc]; exact ⟨rfl, rfl⟩
def numRes (x sh : Nat) : Num := if x * 2 ^ sh < 18446744073709551616 then .val (x * 2 ^ sh) else .big
theorem dig_ok16 (c : UInt8) (h : isDig c = true) : okDig 16 c = true := by simp [okDig, isHex]; exact .inl h
theorem num_dec (x k : Nat) (hk : k < 4) (hx : x < 18446744073709551616) : num (decL x ++ suf k) = numRes x (10 * k) := by
  have D := isDec x hx
  obtain ⟨h1, h2⟩ := suffixed (decL x) k hk D.ne (fun c hc => shift_hex c (dig_ok16 c (List.all_eq_true.1 D.all c hc)))
  have hhx : hexed (decL x) = false := by
    have := D.all
    unfold hexed
    split
    · rename_i heq; rw [heq] at this; simp [isDig, digI] at this
    · rfl
  have hall : (decL x).all (okDig 10) = true := by
    have e : okDig 10 = isDig := by funext c; simp [okDig]
    rw [e]; exact D.all
  unfold num
  simp only [h1, h2, hhx, Bool.false_eq_true, if_false]
  split
  · rename_i heq; exact absurd heq (fun h => D.lead _ _ h)
  · unfold digits numRes
    rw [if_neg (by rintro (h | h); exact D.ne h; rw [hall] at h; cases h), D.val]
theorem num_hex (x k : Nat) (hk : k < 4) (hx : x < 18446744073709551616) : num (48 :: 120 :: hexL x ++ suf k) = numRes x (10 * k) := by
  obtain ⟨h1, h2, h3, h4⟩ := isHexL x hx
  obtain ⟨e1, e2⟩ := suffixed (48 :: 120 :: hexL x) k hk (by simp) (fun c hc => by
    rcases List.mem_cons.1 hc with rfl | hc
    · rfl
    · rcases List.mem_cons.1 hc with rfl | hc
      · rfl
      · exact shift_hex c (List.all_eq_true.1 h2 c hc))
  unfold num
  simp only [e1, e2]
  rw [if_pos (show hexed (48 :: 120 :: hexL x) = true from rfl)]
  unfold digits numRes
  rw [if_neg (by rintro (h | h); exact h1 h; rw [show List.drop 2 (48 :: 120 :: hexL x) = hexL x from rfl, h2] at h; cases h)]
  rw [show List.drop 2 (48 :: 120 :: hexL x) = hexL x from rfl, h3]
theorem run_whole (p : UInt8 → Bool) (t : List UInt8) (h : t.all p = true) : run p t = t.length := by
  induction t with
  | nil => rfl
  | cons c r ih =>
    rw [List.all_cons, Bool.and_eq_true] at h
    rw [run_cons_pos h.1, ih h.2]; rfl
theorem wb_hex (c : UInt8) (h : okDig 16 c = true) : isWB c = true := by
  simp [okDig, isHex, digI, hexI] at h
  simp [isWB, wbI, ltrI, digI]; omega
theorem suf_wb (k : Nat) : (suf k).all isWB = true := by unfold suf; (repeat' split) <;> rfl
theorem suf_len (k : Nat) : (suf k).length ≤ 1 := by unfold suf; (repeat' split) <;> simp
end Go.Proofs.YtahhmgoffdggpaaGreatDoor


namespace Go.Proofs.YtahhmgoffdggpaaGreatDoor

open Go.RowKit Go.Shelf

/-- The byte of a hexadecimal digit, asx the law writes it. -/
def hcz (k : Nat) : UInt8 := if k < 10 then (48 + k).toUInt8 else (87 + k).toUInt8
theorem hcz_all : ∀ k : Fin 16, (okDig 16 (hcz k.val) = true) ∧ dval (hcz k.val) = k.val := by decide
def hezF : Nat → Nat → List UInt8
  | 0, _ => []
  | f + 1, x => if x < 16 then [hcz x] else hezF f (x / 16) ++ [hcz (x % 16)]
def hezL (x : Nat) : List UInt8 := hezF (x + 1) x
theorem hezF_fuel : ∀ (f x : Nat), x < f → ∀ g, f ≤ g → hezF g x = hezF f x := by
  intro f
  induction f with
  | zero => intro x h; omega
  | succ f ih =>
    intro x h g hg
    obtain ⟨g, rfl⟩ : ∃ j, g = j + 1 := ⟨g - 1, by omega⟩
    simp only [hezF]
    by_cases hx : x < 16
    · rw [if_pos hx, if_pos hx]
    · rw [if_neg hx, if_neg hx, ih (x / 16) (by omega) g (by omega)]
theorem hezL_lt {x : Nat} (h : x < 16) : hezL x = [hcz x] := by simp [hezL, hezF, h]
theorem hezL_ge {x : Nat} (h : ¬ x < 16) : hezL x = hezL (x / 16) ++ [hcz (x % 16)] := by
  unfold hezL
  rw [hezF, if_neg h, hezF_fuel (x / 16 + 1) (x / 16) (by omega) x (by omega)]
theorem hezL_is : ∀ (n x : Nat), x < 16 ^ (n + 1) → (hezL x ≠ [] ∧ (hezL x).all (okDig 16) = true ∧ value 16 (hezL x) = x ∧ (hezL x).length ≤ n + 1) := by
  intro n
  induction n with
  | zero =>
    intro x hx
    have h : x < 16 := by simpa using hx
    have hc := hcz_all ⟨x, h⟩
    rw [hezL_lt h]
    exact ⟨by simp, by simpa using hc.1, by simpa [value] using hc.2, by simp⟩
  | succ n ih =>
    intro x hx
    by_cases h : x < 16
    · have hc := hcz_all ⟨x, h⟩
      rw [hezL_lt h]
      exact ⟨by simp, by simpa using hc.1, by simpa [value] using hc.2, by simp⟩
    · rw [hezL_ge h]
      obtain ⟨h1, h2, h3, h4⟩ := ih (x / 16) (by rw [Nat.pow_succ] at hx; omega)
      have hc := hcz_all ⟨x % 16, Nat.mod_lt _ (by omega)⟩
      exact ⟨by simp, by rw [List.all_append, h2]; simpa using hc.1, by rw [value_snoc, h3]; have := hc.2; simp only at this; rw [this]; omega, by simp; omega⟩
theorem isHezL (x : Nat) (h : x < 18446744073709551616) : hezL x ≠ [] ∧ (hezL x).all (okDig 16) = true ∧ value 16 (hezL x) = x ∧ (hezL x).length ≤ 16 := by
  have := hezL_is 15 x (by omega)
  simpa using this
theorem numl_dec (x : Nat) (hx : x < 18446744073709551616) : Numl (decL x) x := by
  have D := isDec x hx
  have hall := D.all
  refine ⟨by have := D.len; omega, List.all_eq_true.2 fun c hc => wb_hex c (dig_ok16 c (List.all_eq_true.1 hall c hc)), ?_, ?_⟩
  · obtain ⟨c, r, hcr⟩ := List.exists_cons_of_ne_nil D.ne
    rw [hcr, List.all_cons, Bool.and_eq_true] at hall
    exact ⟨c, r, hcr, hall.1⟩
  · have h := num_dec x 0 (by omega) hx
    rw [show suf 0 = [] from rfl, List.append_nil] at h
    rw [h]; unfold numRes
    rw [if_pos (by simpa using hx)]; simp
theorem numl_hex (x : Nat) (hx : x < 18446744073709551616) : Numl (48 :: 120 :: hezL x) x := by
  obtain ⟨h1, h2, h3, h4⟩ := isHezL x hx
  have hw : (hezL x).all isWB = true := List.all_eq_true.2 fun c hc => wb_hex c (List.all_eq_true.1 h2 c hc)
  refine ⟨by simp; omega, by rw [List.all_cons, List.all_cons, hw]; rfl, ⟨48, _, rfl, rfl⟩, ?_⟩
  obtain ⟨e1, e2⟩ := suffixed (48 :: 120 :: hezL x) 0 (by omega) (by simp) (fun c hc => by
    rcases List.mem_cons.1 hc with rfl | hc
    · rfl
    · rcases List.mem_cons.1 hc with rfl | hc
      · rfl
      · exact shift_hex c (List.all_eq_true.1 h2 c hc))
  rw [show suf 0 = [] from rfl, List.append_nil] at e1 e2
  unfold num
  simp only [e1, e2]
  rw [if_pos (show hexed (48 :: 120 :: hezL x) = true from rfl)]
  unfold digits
  rw [if_neg (by rintro (h | h); exact h1 h; rw [show List.drop 2 (48 :: 120 :: hezL x) = hezL x from rfl, h2] at h; cases h)]
  rw [show List.drop 2 (48 :: 120 :: hezL x) = hezL x from rfl, h3, if_pos (by simpa using hx)]; simp
theorem and15z (n : Nat) (h : n < 18446744073709551616) : bits .and .u64 (n : Int) 15 = ((n % 16 : Nat) : Int) := by
  have := bits_and_u64_nat n 15 h (by omega)
  rw [show ((15 : Nat) : Int) = 15 from rfl] at this
  rw [this, show (15 : Nat) = 2 ^ 4 - 1 from rfl, Nat.and_two_pow_sub_one_eq_mod]
/-- The digits that the law's loop has written so far. -/
def HezInv (x n : Nat) (l : List UInt8) : Prop := (0 < n ∧ hezL n ++ l = hezL x) ∨ (n = 0 ∧ l = hezL x) ∨ (n = 0 ∧ l = [] ∧ x = 0)
def sEz (v : Value) : Nat := match v with | .string b => if b.size = 0 then 1 else 0 | _ => 0
theorem sEz_cons (c : UInt8) (l : List UInt8) : sEz (.string ⟨(c :: l).toArray⟩) = 0 := by
  simp only [sEz]; rw [if_neg (by rw [ba_size]; simp)]
theorem sEz_nil : sEz (.string ⟨([] : List UInt8).toArray⟩) = 1 := rfl
theorem hcz_run (k : Nat) (h : k < 16) (W : World) : (Instr.slice 9 (.string ⟨#[48, 49, 50, 51, 52, 53, 54, 55, 56, 57, 97, 98, 99, 100, 101, 102]⟩) (some (.int .u64 (k : Int))) (some (.int .u64 ((k : Int) + 1))) none).run Tryz.prog W = .ok (.string ⟨#[hcz k]⟩) W := by
  have e : (⟨#[48, 49, 50, 51, 52, 53, 54, 55, 56, 57, 97, 98, 99, 100, 101, 102]⟩ : ByteArray).extract k (k + 1) = ⟨#[hcz k]⟩ := by
    rw [show (⟨#[48, 49, 50, 51, 52, 53, 54, 55, 56, 57, 97, 98, 99, 100, 101, 102]⟩ : ByteArray) = ⟨([48, 49, 50, 51, 52, 53, 54, 55, 56, 57, 97, 98, 99, 100, 101, 102] : List UInt8).toArray⟩ from rfl, cut_eq]
    obtain h | h | h | h | h | h | h | h | h | h | h | h | h | h | h | h : k = 0 ∨ k = 1 ∨ k = 2 ∨ k = 3 ∨ k = 4 ∨ k = 5 ∨ k = 6 ∨ k = 7 ∨ k = 8 ∨ k = 9 ∨ k = 10 ∨ k = 11 ∨ k = 12 ∨ k = 13 ∨ k = 14 ∨ k = 15 := by omega
    all_goals (subst h; rfl)
  rw [run_slice_string W 9 _ .u64 .u64 (k : Int) ((k : Int) + 1) Tryz.underlying9 (by omega) (by omega) (by show ((k : Int) + 1) ≤ 16; omega), show ((k : Int) + 1).toNat = k + 1 by omega, Int.toNat_natCast, e]
end Go.Proofs.YtahhmgoffdggpaaGreatDoor
