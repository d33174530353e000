/-
  Numerals: the decimal and the hexadecimal digits of a number, their value; the contracts of the reference's Decimal and of the kit's Place.
  Conditions: the number is less than 2^64.
-/
import Derived.Test.YthpcfidcpaikgaaDoorAwk
import Derived.Test.YthpcfidcpaikgaaDoorLexQ
namespace Go.Proofs.YthpcfidcpaikgaaDoor
open Go.RowKit Go.Shelf

/-- The byte of a decimal digit. -/
def dch (k : Nat) : UInt8 := (48 + k).toUInt8
def decF : Nat → Nat → List UInt8
  | 0, _ => []
  | f + 1, x => if x < 10 then [dch x] else decF f (x / 10) ++ [dch (x % 10)]
/-- The decimal digits. -/
def decL (x : Nat) : List UInt8 := decF (x + 1) x
theorem decF_fuel : ∀ (f x : Nat), x < f → ∀ g, f ≤ g → decF g x = decF f x := by
  intro f
  induction f with
  | zero => intro x h; omega
  | succ f ih =>
    intro x h g hg
    obtain ⟨g, rfl⟩ : ∃ j, g = j + 1 := ⟨g - 1, by omega⟩
    simp only [decF]
    by_cases hx : x < 10
    · rw [if_pos hx, if_pos hx]
    · rw [if_neg hx, if_neg hx, ih (x / 10) (by omega) g (by omega)]
theorem decL_lt {x : Nat} (h : x < 10) : decL x = [dch x] := by simp [decL, decF, h]
theorem decL_ge {x : Nat} (h : ¬ x < 10) : decL x = decL (x / 10) ++ [dch (x % 10)] := by
  unfold decL
  rw [decF, if_neg h, decF_fuel (x / 10 + 1) (x / 10) (by omega) x (by omega)]
theorem dig_toNat {k : Nat} (h : k < 10) : (dch k).toNat = 48 + k := by unfold dch; simp; omega
theorem dig_isDig {k : Nat} (h : k < 10) : isDig (dch k) = true := by
  simp only [isDig, digI, decide_eq_true_eq]
  rw [dig_toNat h]; omega
theorem dval_d {k : Nat} (h : k < 10) : dval (dch k) = k := by
  unfold dval
  rw [dig_toNat h, if_pos (by omega)]; omega
/-- What holds of a number's decimal digits. -/
structure IsDec (x : Nat) (l : List UInt8) : Prop where
  ne : l ≠ []
  all : l.all isDig = true
  val : value 10 l = x
  len : l.length ≤ 20
  lead : ∀ c r, l = 48 :: c :: r → False
theorem value_snoc (b : Nat) (l : List UInt8) (c : UInt8) : value b (l ++ [c]) = value b l * b + dval c := by simp [value]
theorem decL_is : ∀ (n x : Nat), x < 10 ^ (n + 1) → n ≤ 19 → (decL x ≠ [] ∧ (decL x).all isDig = true ∧ value 10 (decL x) = x ∧ (decL x).length ≤ n + 1 ∧ (0 < x → ∀ r, decL x ≠ 48 :: r)) := by
  intro n
  induction n with
  | zero =>
    intro x hx _
    have h : x < 10 := by simpa using hx
    rw [decL_lt h]
    refine ⟨by simp, by simp [dig_isDig h], by simp [value, dval_d h], by simp, fun h0 r hr => ?_⟩
    have := congrArg UInt8.toNat (List.cons.inj hr).1
    rw [dig_toNat h] at this
    simp at this; omega
  | succ n ih =>
    intro x hx hn
    by_cases h : x < 10
    · rw [decL_lt h]
      refine ⟨by simp, by simp [dig_isDig h], by simp [value, dval_d h], by simp, fun h0 r hr => ?_⟩
      have := congrArg UInt8.toNat (List.cons.inj hr).1
      rw [dig_toNat h] at this
      simp at this; omega
    · rw [decL_ge h]
      obtain ⟨h1, h2, h3, h4, h5⟩ := ih (x / 10) (by rw [Nat.pow_succ] at hx; omega) (by omega)
      have hm : x % 10 < 10 := Nat.mod_lt _ (by omega)
      refine ⟨by simp, by rw [List.all_append, h2]; simp [dig_isDig hm], by rw [value_snoc, h3, dval_d hm]; omega, by simp; omega, fun _ r hr => ?_⟩
      obtain ⟨c, s, hs⟩ := List.exists_cons_of_ne_nil h1
      rw [hs, List.cons_append] at hr
      exact h5 (by omega) s (by rw [hs, (List.cons.inj hr).1])
theorem isDec (x : Nat) (h : x < 18446744073709551616) : IsDec x (decL x) := by
  obtain ⟨h1, h2, h3, h4, h5⟩ := decL_is 19 x (by omega) (by omega)
  refine ⟨h1, h2, h3, h4, fun c r hr => ?_⟩
  rcases Nat.eq_zero_or_pos x with h0 | h0
  · subst h0
    rw [decL_lt (by omega)] at hr
    have := congrArg List.length hr
    simp at this
  · exact h5 h0 _ hr

theorem place_any (v n : Int) (hn : n = 64 ∨ n = 4 ∨ n = 6) (w : World) :
    Calls Tryd.prog 31 #[.int .i64 v, .int .i64 n] w fun e w' => ∃ k : Nat, (k : Int) < n ∧ e = .returned (.int .i64 k) ∧ w = w' := by
  have hb : v.tmod n < n ∧ -n < v.tmod n := by
    rcases hn with rfl | rfl | rfl
    · exact ⟨Int.tmod_lt_of_pos v (by omega), by have := Int.lt_tmod_of_pos v (show (0 : Int) < 64 by omega); omega⟩
    · exact ⟨Int.tmod_lt_of_pos v (by omega), by have := Int.lt_tmod_of_pos v (show (0 : Int) < 4 by omega); omega⟩
    · exact ⟨Int.tmod_lt_of_pos v (by omega), by have := Int.lt_tmod_of_pos v (show (0 : Int) < 6 by omega); omega⟩
  have hn0 : ¬ n = 0 := by omega
  go_enter Tryd.func31, Tryd.ntmps31
  go_wp2
  all_goals go_ret
  · exact ⟨(v.tmod n + n).toNat, by omega, ret_int (by omega), rfl⟩
  · exact ⟨(v.tmod n).toNat, by omega, ret_int (by omega), rfl⟩

theorem dig_run (k : Nat) (h : k < 10) (W : World) : (Instr.slice 9 (.string ⟨#[48, 49, 50, 51, 52, 53, 54, 55, 56, 57]⟩) (some (.int .u64 (k : Int))) (some (.int .u64 ((k : Int) + 1))) none).run Tryd.prog W = .ok (.string ⟨#[dch k]⟩) W := by
  have e : (⟨#[48, 49, 50, 51, 52, 53, 54, 55, 56, 57]⟩ : ByteArray).extract k (k + 1) = ⟨#[dch k]⟩ := by
    rw [show (⟨#[48, 49, 50, 51, 52, 53, 54, 55, 56, 57]⟩ : ByteArray) = ⟨([48, 49, 50, 51, 52, 53, 54, 55, 56, 57] : List UInt8).toArray⟩ from rfl, cut_eq]
    obtain h | h | h | h | h | h | h | h | h | h : k = 0 ∨ k = 1 ∨ k = 2 ∨ k = 3 ∨ k = 4 ∨ k = 5 ∨ k = 6 ∨ k = 7 ∨ k = 8 ∨ k = 9 := by omega
    all_goals (subst h; rfl)
  rw [run_slice_string W 9 _ .u64 .u64 (k : Int) ((k : Int) + 1) Tryd.underlying9 (by omega) (by omega) (by show ((k : Int) + 1) ≤ 10; omega), show ((k : Int) + 1).toNat = k + 1 by omega, Int.toNat_natCast, e]
theorem cons_cat (c : UInt8) (l : List UInt8) : (⟨#[c]⟩ ++ ⟨l.toArray⟩ : ByteArray) = ⟨(c :: l).toArray⟩ := by
  apply ByteArray.ext
  simp [ByteArray.data_append]

set_option maxRecDepth 50000 in
set_option maxHeartbeats 1000000 in
theorem decimal_any (x : Nat) (hx : x < 18446744073709551616) (w : World) :
    Calls Tryd.prog 32 #[.int .u64 x] w fun e w' => e = .returned (.string ⟨(decL x).toArray⟩) ∧ w = w' := by
  have hd := (isDec x hx).len
  obtain ⟨X, hX⟩ : ∃ X, X = decL x := ⟨_, rfl⟩
  rw [← hX] at hd ⊢
  have HX := Lib.hid hX
  obtain ⟨z, hz⟩ : ∃ z : Int, z = (x : Int) := ⟨_, rfl⟩
  rw [← hz]
  have HZ := Lib.hid hz
  have hx2 := Lib.hid hx
  clear hz hX hx
  go_enter Tryd.func32, Tryd.ntmps32
  go_wp2
  go_loop [0, 3] (fun vv vs => ∃ (y : Int) (l : List UInt8), vv = .int .u64 y ∧ vs = .string ⟨l.toArray⟩ ∧ Hid (∃ n : Nat, y = (n : Int) ∧ n < 18446744073709551616 ∧ decL n ++ l = X) ∧ l.length ≤ 20) (fun vv _ => (intOf vv).toNat)
  case atStart => exact ⟨z, [], rfl, rfl, Lib.hid ⟨x, HZ.out, hx2.out, by rw [List.append_nil, HX.out]⟩, by simp⟩
  case round =>
    obtain ⟨y, l, rfl, rfl, HI, hl⟩ := hrel
    obtain ⟨n, hn, hn2, hn3⟩ := HI.out
    by_cases h10 : 10 ≤ y
    · have hm : n % 10 < 10 := Nat.mod_lt _ (by omega)
      have hrun := dig_run (n % 10) hm
      have hy0 : 0 ≤ y := by omega
      have hq : ((n % 10 : Nat) : Int) = y % 10 := by omega
      rw [hq] at hrun
      have hlen : l.length + 1 ≤ 20 := by
        have := congrArg List.length hn3
        rw [decL_ge (x := n) (by omega), List.length_append, List.length_append] at this
        have hne := (isDec (n / 10) (by omega)).ne
        have := List.length_pos_iff.2 hne
        simp at *; omega
      have HN : Hid (∃ m : Nat, y / 10 = (m : Int) ∧ m < 18446744073709551616 ∧ decL m ++ (dch (n % 10) :: l) = X) := Lib.hid ⟨n / 10, by omega, by omega, by rw [← hn3, decL_ge (x := n) (by omega)]; simp⟩
      have hcat := cons_cat (dch (n % 10)) l
      generalize dch (n % 10) = c at *
      have hdv : y / 10 < y := by omega
      have hdv0 : 0 ≤ y / 10 := by omega
      have hyb : y < 18446744073709551616 := by omega
      have hwr : IntKind.u64.wrap (y.tdiv 10) = y / 10 := by rw [Int.tdiv_eq_ediv_of_nonneg hy0, IntKind.wrap_u64]; omega
      clear hn3 hm hq hn HI
      go_wp2
      go_round
      case rel => exact ⟨y / 10, c :: l, rfl, rfl, HN, by simpa using hlen⟩
      case measure => simp [intOf]; omega
    · have hrun := dig_run n (by omega)
      have HE : Hid (X = dch n :: l) := Lib.hid (by rw [← hn3, decL_lt (x := n) (by omega)]; rfl)
      have hcat := cons_cat (dch n) l
      rw [← hn] at hrun
      generalize dch n = c at *
      have hy0 : 0 ≤ y := by omega
      have h9 : y ≤ 9 := by omega
      clear hn3 hn HI
      go_wp2
      go_ret
      rw [HE.out]
      exact ⟨rfl, rfl⟩
end Go.Proofs.YthpcfidcpaikgaaDoor
