/-
  Numerals: the decimal and the hexadecimal digits of a number, their value; the contracts of the reference's Decimal and of the kit's Place.
  Conditions: the number is less than 2^64.
  The contract of strconv.FormatUint at base 10: the number's decimal digits. And what the table of powers of ten gives.
  Conditions: the table internal/strconv.uint64pow10 lies as the program's text writes it.
-/
import Derived.Test.YtolkceibbefhfaaGreatDoorMa8
import Derived.Test.YtolkceibbefhfaaGreatDoorMa4
import Derived.Lib.AppendIntMem
namespace Go.Proofs.YtolkceibbefhfaaGreatDoor

open Go.RowKit Go.Shelf

/-- The byte of a decimal digit. -/
def dch (k : Nat) : UInt8 := (48 + k).toUInt8
def decF : Nat → Nat → List UInt8
  | 0, _ => []
  | f + 1, x => if x < 10 then [dch x] else decF f (x / 10) ++ [dch (x % 10)]
/-- The decimal digits. -/
def decL (x : Nat) : List UInt8 := decF (x + 1) x
theorem decF_fuel : ∀ (f x : Nat), x < f → ∀ g, f ≤ g → decF g x = decF f x := by
  intro f
  induction f with
  | zero => intro x h; omega
  | succ f ih =>
    intro x h g hg
    obtain ⟨g, rfl⟩ : ∃ j, g = j + 1 := ⟨g - 1, by omega⟩
    simp only [decF]
    by_cases hx : x < 10
    · rw [if_pos hx, if_pos hx]
    · rw [if_neg hx, if_neg hx, ih (x / 10) (by omega) g (by omega)]
theorem decL_lt {x : Nat} (h : x < 10) : decL x = [dch x] := by simp [decL, decF, h]
theorem decL_ge {x : Nat} (h : ¬ x < 10) : decL x = decL (x / 10) ++ [dch (x % 10)] := by
  unfold decL
  rw [decF, if_neg h, decF_fuel (x / 10 + 1) (x / 10) (by omega) x (by omega)]
theorem dig_toNat {k : Nat} (h : k < 10) : (dch k).toNat = 48 + k := by unfold dch; simp; omega
theorem dig_isDig {k : Nat} (h : k < 10) : isDig (dch k) = true := by
  simp only [isDig, digI, decide_eq_true_eq]
  rw [dig_toNat h]; omega
theorem dval_d {k : Nat} (h : k < 10) : dval (dch k) = k := by
  unfold dval
  rw [dig_toNat h, if_pos (by omega)]; omega
/-- What holds of a number's decimal digits. -/
structure IsDec (x : Nat) (l : List UInt8) : Prop where
  ne : l ≠ []
  all : l.all isDig = true
  val : value 10 l = x
  len : l.length ≤ 20
  lead : ∀ c r, l = 48 :: c :: r → False
theorem value_snoc (b : Nat) (l : List UInt8) (c : UInt8) : value b (l ++ [c]) = value b l * b + dval c := by simp [value]
theorem decL_is : ∀ (n x : Nat), x < 10 ^ (n + 1) → n ≤ 19 → (decL x ≠ [] ∧ (decL x).all isDig = true ∧ value 10 (decL x) = x ∧ (decL x).length ≤ n + 1 ∧ (0 < x → ∀ r, decL x ≠ 48 :: r)) := by
  intro n
  induction n with
  | zero =>
    intro x hx _
    have h : x < 10 := by simpa using hx
    rw [decL_lt h]
    refine ⟨by simp, by simp [dig_isDig h], by simp [value, dval_d h], by simp, fun h0 r hr => ?_⟩
    have := congrArg UInt8.toNat (List.cons.inj hr).1
    rw [dig_toNat h] at this
    simp at this; omega
  | succ n ih =>
    intro x hx hn
    by_cases h : x < 10
    · rw [decL_lt h]
      refine ⟨by simp, by simp [dig_isDig h], by simp [value, dval_d h], by simp, fun h0 r hr => ?_⟩
      have := congrArg UInt8.toNat (List.cons.inj hr).1
      rw [dig_toNat h] at this
      simp at this; omega
    · rw [decL_ge h]
      obtain ⟨h1, h2, h3, h4, h5⟩ := ih (x / 10) (by rw [Nat.pow_succ] at hx; omega) (by omega)
      have hm : x % 10 < 10 := Nat.mod_lt _ (by omega)
      refine ⟨by simp, by rw [List.all_append, h2]; simp [dig_isDig hm], by rw [value_snoc, h3, dval_d hm]; omega, by simp; omega, fun _ r hr => ?_⟩
      obtain ⟨c, s, hs⟩ := List.exists_cons_of_ne_nil h1
      rw [hs, List.cons_append] at hr
      exact h5 (by omega) s (by rw [hs, (List.cons.inj hr).1])
theorem isDec (x : Nat) (h : x < 18446744073709551616) : IsDec x (decL x) := by
  obtain ⟨h1, h2, h3, h4, h5⟩ := decL_is 19 x (by omega) (by omega)
  refine ⟨h1, h2, h3, h4, fun c r hr => ?_⟩
  rcases Nat.eq_zero_or_pos x with h0 | h0
  · subst h0
    rw [decL_lt (by omega)] at hr
    have := congrArg List.length hr
    simp at this
  · exact h5 h0 _ hr

theorem dig_run (k : Nat) (h : k < 10) (W : World) : (Instr.slice 9 (.string ⟨#[48, 49, 50, 51, 52, 53, 54, 55, 56, 57]⟩) (some (.int .u64 (k : Int))) (some (.int .u64 ((k : Int) + 1))) none).run Tryz.prog W = .ok (.string ⟨#[dch k]⟩) W := by
  have e : (⟨#[48, 49, 50, 51, 52, 53, 54, 55, 56, 57]⟩ : ByteArray).extract k (k + 1) = ⟨#[dch k]⟩ := by
    rw [show (⟨#[48, 49, 50, 51, 52, 53, 54, 55, 56, 57]⟩ : ByteArray) = ⟨([48, 49, 50, 51, 52, 53, 54, 55, 56, 57] : List UInt8).toArray⟩ from rfl, cut_eq]
    obtain h | h | h | h | h | h | h | h | h | h : k = 0 ∨ k = 1 ∨ k = 2 ∨ k = 3 ∨ k = 4 ∨ k = 5 ∨ k = 6 ∨ k = 7 ∨ k = 8 ∨ k = 9 := by omega
    all_goals (subst h; rfl)
  rw [run_slice_string W 9 _ .u64 .u64 (k : Int) ((k : Int) + 1) Tryz.underlying9 (by omega) (by omega) (by show ((k : Int) + 1) ≤ 10; omega), show ((k : Int) + 1).toNat = k + 1 by omega, Int.toNat_natCast, e]
theorem cons_cat (c : UInt8) (l : List UInt8) : (⟨#[c]⟩ ++ ⟨l.toArray⟩ : ByteArray) = ⟨(c :: l).toArray⟩ := by
  apply ByteArray.ext
  simp [ByteArray.data_append]

end Go.Proofs.YtolkceibbefhfaaGreatDoor


namespace Go.Proofs.YtolkceibbefhfaaGreatDoor

open Go.RowKit Go.Shelf Go.Sort

theorem decDigits_decL (u : Nat) : Lib.decDigits u = decL u := by
  induction u using Nat.strongRecOn with
  | _ u ih =>
    rw [Lib.decDigits]
    by_cases h : u < 10
    · rw [dif_pos h, decL_lt h]; rfl
    · rw [dif_neg h, decL_ge h, ih (u / 10) (by omega)]; rfl

def Pow (w : World) : Prop := Lib.TabIs Tryz.prog w "internal/strconv.uint64pow10" .u64 Lib.pow10Tab
theorem gPow : Tryz.prog.globalNamed "internal/strconv.uint64pow10" = some 1 := by kernel_rfl
theorem Pow.next {w w' : World} (h : Pow w) (hb : Below w.heap.size w w') : Pow w' := by
  unfold Pow Lib.TabIs World.var? at h ⊢
  rw [gPow] at h ⊢
  simp only [Option.bind_some] at h ⊢
  have hlt : 1 < w.heap.size := by
    rcases Nat.lt_or_ge 1 w.heap.size with h' | h'
    · exact h'
    · rw [Array.getElem?_eq_none h'] at h; cases h
  rw [hb.block _ hlt]
  exact h

set_option maxRecDepth 100000 in
set_option maxHeartbeats 1000000 in
theorem ifu_any (u : Nat) (hu64 : u < 18446744073709551616) (w : World) (hP : Pow w) :
    Calls Tryz.prog 146 #[.int .u64 u, .int .i64 10] w fun e w' => e = .returned (.string ⟨(decL u).toArray⟩) ∧ Below w.heap.size w w' := by
  rcases Nat.lt_or_ge u 100 with h100 | h100
  · have HS := Lib.hid (Tryz.internal_strconv_small u h100)
    have HE := Lib.hid (decDigits_decL u)
    go_enter Tryz.func146, Tryz.ntmps146
    go_wp2_with fail
    refine (HS.out _).mono ?_
    rintro e w' ⟨rfl, rfl⟩
    go_wp2
    go_ret
    exact ⟨by rw [HE.out]; rfl, Below.refl _ _⟩
  · have hu1 : 1 ≤ u := by omega
    have hnd20 : Lib.nDigits u ≤ 20 := by have := Lib.numDigits_eq u hu1 hu64; split at this <;> omega
    have hal : Tryz.prog.arrayLen 134 = 24 := by kernel_rfl
    have hsl : ∀ W, (Instr.sliceAt 134 (.pointer (some ⟨w.heap.size, 0, none⟩)) none (some (.int .i64 (Lib.nDigits u : Int))) none).run Tryz.prog W = .ok (.slice (some ⟨w.heap.size, 0, none⟩) (Lib.nDigits u) 24) W := fun W => by
      rw [run_sliceAt_array_h W 134 ⟨w.heap.size, 0, none⟩ (by kernel_rfl) .i64 (Lib.nDigits u : Int) (by omega) (by rw [hal]; omega)]
      go_simp
      try rfl
    have hH0 := Lib.holds_zero0 w 134 (Lib.nDigits u) (by omega)
    have hfmt := Tryz.internal_strconv_formatBase10 w.heap.size 0 24 u (Array.replicate (Lib.nDigits u) 0) (w.alloc (.cells Lib.zeros24 134)) hH0 (by rw [Array.size_replicate]; exact Lib.lt_pow_nDigits u) hu64 (by rw [Array.size_replicate]; omega)
    rw [Array.size_replicate] at hfmt
    have HF := Lib.hid hfmt
    have HN := Lib.hid (Tryz.internal_strconv_numDigits u hu1 hu64 _ (Lib.tabIs_alloc hP (.cells Lib.zeros24 134)))
    have HH0 := Lib.hid hH0
    have HE := Lib.hid (decDigits_decL u)
    clear hH0 hal hfmt hP
    go_enter Tryz.func146, Tryz.ntmps146
    go_wp2_with fail
    refine HN.out.mono ?_
    rintro e w' ⟨rfl, rfl⟩
    go_wp2_with fail
    refine HF.out.mono ?_
    rintro e w' ⟨rfl, k, v', dk, rfl, hF⟩
    have hcv : (convert 75 9 (.slice (some ⟨w.heap.size, 0, none⟩) (Lib.nDigits u) 24)).run Tryz.prog ((putRow (fun (b : UInt8) => Value.int .u8 (b.toNat : Int)) (w.alloc (.cells Lib.zeros24 134)) w.heap.size 0 dk).drewN k) = .ok (.string ⟨(Lib.decDigits u).toArray⟩) ((putRow (fun (b : UInt8) => Value.int .u8 (b.toNat : Int)) (w.alloc (.cells Lib.zeros24 134)) w.heap.size 0 dk).drewN k) := by
      have h := run_convert_bytes_back (P := Tryz.prog) ((putRow (fun (b : UInt8) => Value.int .u8 (b.toNat : Int)) (w.alloc (.cells Lib.zeros24 134)) w.heap.size 0 dk).drewN k) 75 9 5 ⟨w.heap.size, 0, none⟩ 24 (Lib.decDigits u) Tryz.underlying75 Tryz.underlying5 Tryz.underlying9 (fun j hj => by
        rw [Lib.row_is_numeral hF j hj, Lib.add_plain, World.cell?_drewN]
        exact cell?_putRow (fun (b : UInt8) => Value.int .u8 (b.toNat : Int)) _ w.heap.size 0 _ dk HH0.out (by rw [hF.size, Array.size_replicate]) j (by rw [hF.size]; rw [Lib.decDigits_length] at hj; exact hj))
      rw [Lib.decDigits_length] at h
      exact h
    have HB : Hid (Below w.heap.size w ((putRow (fun (b : UInt8) => Value.int .u8 (b.toNat : Int)) (w.alloc (.cells Lib.zeros24 134)) w.heap.size 0 dk).drewN k)) := Lib.hid (by
      rw [alloc_eq_grow]
      obtain ⟨os', _, e⟩ := putRow_grow_new (fun (b : UInt8) => Value.int .u8 (b.toNat : Int)) w #[.cells Lib.zeros24 134] w.heap.size 0 dk (Nat.le_refl _)
      rw [e]
      exact Lib.below_grow _ w (Nat.le_refl _) k os')
    clear hF
    go_wp2
    go_ret
    exact ⟨by rw [← HE.out]; rfl, HB.out⟩
theorem formatUint_any (u : Nat) (hu64 : u < 18446744073709551616) (w : World) (hP : Pow w) :
    Calls Tryz.prog 124 #[.int .u64 u, .int .i64 10] w fun e w' => e = .returned (.string ⟨(decL u).toArray⟩) ∧ Below w.heap.size w w' := by
  have HC := Lib.hid (ifu_any u hu64 w hP)
  clear hP
  go_enter Tryz.func124, Tryz.ntmps124
  go_wp2_with fail
  refine HC.out.mono ?_
  rintro e w1 ⟨rfl, hb⟩
  go_wp2
  go_ret
  exact ⟨rfl, hb⟩
end Go.Proofs.YtolkceibbefhfaaGreatDoor
