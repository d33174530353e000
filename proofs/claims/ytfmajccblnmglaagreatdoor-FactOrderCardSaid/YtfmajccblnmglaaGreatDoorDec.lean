/-
  Numerals: the decimal and the hexadecimal digits of a number, their value; the contracts of the reference's Decimal and of the kit's Place.
  Conditions: the number is less than 2^64.
-/
import Derived.Test.YtfmajccblnmglaaGreatDoorAwk
import Derived.Test.YtfmajccblnmglaaGreatDoorLexQ
namespace Go.Proofs.YtfmajccblnmglaaGreatDoor

open Go.RowKit Go.Shelf

/-- The byte of a decimal digit. -/
def dch (k : Nat) : UInt8 := (48 + k).toUInt8
def decF : Nat → Nat → List UInt8
  | 0, _ => []
  | f + 1, x => if x < 10 then [dch x] else decF f (x / 10) ++ [dch (x % 10)]
/-- The decimal digits. -/
def decL (x : Nat) : List UInt8 := decF (x + 1) x
theorem decF_fuel : ∀ (f x : Nat), x < f → ∀ g, f ≤ g → decF g x = decF f x := by
  intro f
  induction f with
  | zero => intro x h; omega
  | succ f ih =>
    intro x h g hg
    obtain ⟨g, rfl⟩ : ∃ j, g = j + 1 := ⟨g - 1, by omega⟩
    simp only [decF]
    by_cases hx : x < 10
    · rw [if_pos hx, if_pos hx]
    · rw [if_neg hx, if_neg hx, ih (x / 10) (by omega) g (by omega)]
theorem decL_lt {x : Nat} (h : x < 10) : decL x = [dch x] := by simp [decL, decF, h]
theorem decL_ge {x : Nat} (h : ¬ x < 10) : decL x = decL (x / 10) ++ [dch (x % 10)] := by
  unfold decL
  rw [decF, if_neg h, decF_fuel (x / 10 + 1) (x / 10) (by omega) x (by omega)]
theorem dig_toNat {k : Nat} (h : k < 10) : (dch k).toNat = 48 + k := by unfold dch; simp; omega
theorem dig_isDig {k : Nat} (h : k < 10) : isDig (dch k) = true := by
  simp only [isDig, digI, decide_eq_true_eq]
  rw [dig_toNat h]; omega
theorem dval_d {k : Nat} (h : k < 10) : dval (dch k) = k := by
  unfold dval
  rw [dig_toNat h, if_pos (by omega)]; omega
/-- What holds of a number's decimal digits. -/
structure IsDec (x : Nat) (l : List UInt8) : Prop where
  ne : l ≠ []
  all : l.all isDig = true
  val : value 10 l = x
  len : l.length ≤ 20
  lead : ∀ c r, l = 48 :: c :: r → False
theorem value_snoc (b : Nat) (l : List UInt8) (c : UInt8) : value b (l ++ [c]) = value b l * b + dval c := by simp [value]
theorem decL_is : ∀ (n x : Nat), x < 10 ^ (n + 1) → n ≤ 19 → (decL x ≠ [] ∧ (decL x).all isDig = true ∧ value 10 (decL x) = x ∧ (decL x).length ≤ n + 1 ∧ (0 < x → ∀ r, decL x ≠ 48 :: r)) := by
  intro n
  induction n with
  | zero =>
    intro x hx _
    have h : x < 10 := by simpa using hx
    rw [decL_lt h]
    refine ⟨by simp, by simp [dig_isDig h], by simp [value, dval_d h], by simp, fun h0 r hr => ?_⟩
    have := congrArg UInt8.toNat (List.cons.inj hr).1
    rw [dig_toNat h] at this
    simp at this; omega
  | succ n ih =>
    intro x hx hn
    by_cases h : x < 10
    · rw [decL_lt h]
      refine ⟨by simp, by simp [dig_isDig h], by simp [value, dval_d h], by simp, fun h0 r hr => ?_⟩
      have := congrArg UInt8.toNat (List.cons.inj hr).1
      rw [dig_toNat h] at this
      simp at this; omega
    · rw [decL_ge h]
      obtain ⟨h1, h2, h3, h4, h5⟩ := ih (x / 10) (by rw [Nat.pow_succ] at hx; omega) (by omega)
      have hm : x % 10 < 10 := Nat.mod_lt _ (by omega)
      refine ⟨by simp, by rw [List.all_append, h2]; simp [dig_isDig hm], by rw [value_snoc, h3, dval_d hm]; omega, by simp; omega, fun _ r hr => ?_⟩
      obtain ⟨c, s, hs⟩ := List.exists_cons_of_ne_nil h1
      rw [hs, List.cons_append] at hr
      exact h5 (by omega) s (by rw [hs, (List.cons.inj hr).1])
theorem isDec (x : Nat) (h : x < 18446744073709551616) : IsDec x (decL x) := by
  obtain ⟨h1, h2, h3, h4, h5⟩ := decL_is 19 x (by omega) (by omega)
  refine ⟨h1, h2, h3, h4, fun c r hr => ?_⟩
  rcases Nat.eq_zero_or_pos x with h0 | h0
  · subst h0
    rw [decL_lt (by omega)] at hr
    have := congrArg List.length hr
    simp at this
  · exact h5 h0 _ hr

theorem dig_run (k : Nat) (h : k < 10) (W : World) : (Instr.slice 9 (.string ⟨#[48, 49, 50, 51, 52, 53, 54, 55, 56, 57]⟩) (some (.int .u64 (k : Int))) (some (.int .u64 ((k : Int) + 1))) none).run Tryz.prog W = .ok (.string ⟨#[dch k]⟩) W := by
  have e : (⟨#[48, 49, 50, 51, 52, 53, 54, 55, 56, 57]⟩ : ByteArray).extract k (k + 1) = ⟨#[dch k]⟩ := by
    rw [show (⟨#[48, 49, 50, 51, 52, 53, 54, 55, 56, 57]⟩ : ByteArray) = ⟨([48, 49, 50, 51, 52, 53, 54, 55, 56, 57] : List UInt8).toArray⟩ from rfl, cut_eq]
    obtain h | h | h | h | h | h | h | h | h | h : k = 0 ∨ k = 1 ∨ k = 2 ∨ k = 3 ∨ k = 4 ∨ k = 5 ∨ k = 6 ∨ k = 7 ∨ k = 8 ∨ k = 9 := by omega
    all_goals (subst h; rfl)
  rw [run_slice_string W 9 _ .u64 .u64 (k : Int) ((k : Int) + 1) Tryz.underlying9 (by omega) (by omega) (by show ((k : Int) + 1) ≤ 10; omega), show ((k : Int) + 1).toNat = k + 1 by omega, Int.toNat_natCast, e]
theorem cons_cat (c : UInt8) (l : List UInt8) : (⟨#[c]⟩ ++ ⟨l.toArray⟩ : ByteArray) = ⟨(c :: l).toArray⟩ := by
  apply ByteArray.ext
  simp [ByteArray.data_append]

end Go.Proofs.YtfmajccblnmglaaGreatDoor
