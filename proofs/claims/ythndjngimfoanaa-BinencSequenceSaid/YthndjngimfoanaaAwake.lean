/-
  The contract of awake: it returns true and turns nothing that was there. And how a slice of bytes is made into a string.
  Conditions: none.
-/
import Derived.Test.YthndjngimfoanaaBase
import Derived.Test.YthndjngimfoanaaJoin
import Derived.Test.YthndjngimfoanaaPlain
import Derived.Test.YthndjngimfoanaaUvar
import Derived.Test.YthndjngimfoanaaCrc
import Derived.Test.YthndjngimfoanaaSum
import Derived.Laws.IdiomStrings
import Derived.Lib.SmallJoins
namespace Go.Proofs.Ythndjngimfoanaa
open Go.RowKit

/-- A string with these bytes. -/
def bs (l : List UInt8) : ByteArray := ⟨l.toArray⟩
theorem Byt.str {w : World} {B n : Nat} {A : Option Addr} {l : List UInt8} (h : Byt w B A n l) (c : Nat) :
    (convert 22 9 (.slice A n c)).run Try.prog w = .ok (.string (bs l)) w := by
  by_cases h0 : n = 0
  · subst h0
    obtain rfl : l = [] := List.eq_nil_of_length_eq_zero h.1
    rw [run_convert_bytes_string w _ _ 5 A 0 c Try.underlying22 Try.underlying5 Try.underlying9]
    cases A with
    | none => simp [Conv.bytesToString]; rfl
    | some a =>
      rw [run_bytesToString (P := Try.prog) w a 0 c [] (by simpa using run_loadCells_list (P := Try.prog) w a [] (by simp))]
      rfl
  · obtain ⟨b, off, rfl, _, hc⟩ := h.at_ (by omega)
    have := run_convert_bytes_back (P := Try.prog) w 22 9 5 ⟨b, off, none⟩ c l Try.underlying22 Try.underlying5 Try.underlying9 (fun j hj => by
      have h1 := hc j (by rw [← h.1]; exact hj)
      have e : (⟨b, off, none⟩ : Addr).add j = ⟨b, off + j, none⟩ := by unfold Addr.add; split <;> simp_all
      rw [e, h1]; unfold bt; rw [List.getD_eq_getElem?_getD, List.getElem?_eq_getElem hj]; rfl)
    rw [h.1] at this
    exact this

theorem bs_list (l : List UInt8) : (bs l).toList = l := by rw [ByteArray.toList_eq]; rfl
/-- A new row of bytes, marked or not, reads as its list. -/
theorem Byt.lit (w : World) (fr : Nat × Nat) (l : List UInt8) (C : Array Value) (n : Nat) (hC : C = (vals l).toArray) (hn : l.length = n) : Byt (w.alloc (.cells C 5 fr)) (w.heap.size + 1) (some ⟨w.heap.size, 0, none⟩) n l := by
  subst hC
  refine ⟨hn, fun _ => ⟨w.heap.size, 0, rfl, by omega, fun j hj => ?_⟩⟩
  rw [World.cell?_alloc_mark, List.getElem?_toArray, Nat.zero_add]
  unfold byV vals bt
  rw [List.getElem?_map, List.getElem?_eq_getElem (by omega), List.getD_eq_getElem?_getD, List.getElem?_eq_getElem (by omega)]; rfl
theorem Byt.litAt (w : World) (fr : Nat × Nat) (l : List UInt8) (C : Array Value) (n g : Nat) (hg : w.heap.size = g) (hC : C = (vals l).toArray) (hn : l.length = n) : Byt (w.alloc (.cells C 5 fr)) (g + 1) (some ⟨g, 0, none⟩) n l := by
  subst hg; exact Byt.lit w fr l C n hC hn
theorem uvar300 : uvar 300 = [172, 2] := by decide
theorem uvar1 : uvar (zz (-1)) = [1] := by decide
theorem crc9 : crcOf [49, 50, 51, 52, 53, 54, 55, 56, 57] = 3421780262 := by decide +kernel
theorem sum8 : sumOf [0, 1, 242, 3, 244, 245, 246, 247] = 8717 := by decide +kernel

set_option maxRecDepth 20000 in
set_option maxHeartbeats 800000 in
theorem awake_any (w : World) : Calls Try.prog 13 #[] w fun e w' => e = .returned (.bool true) ∧ Below w.heap.size w w' := by
  have hc1 := appU_any none 0 0 0 300 [] w Byt.nil (Nat.zero_le _) (by omega) (by omega)
  rw [uvar300] at hc1
  have HC1 := Lib.hid hc1
  clear hc1
  go_enter Try.func13, Try.ntmps13
  go_wp2_with fail
  refine HC1.out.mono ?_
  rintro e w1 ⟨g1, rfl, hg1, hr1, hb1⟩
  have hs1 := (hr1.byt' hr1.lt (m := 2) rfl).str 2
  have hl1 := bs_list [172, 2]
  have HB1 := Lib.hid hb1
  have hc2 := appV_any none 0 0 0 (-1) [] w1 Byt.nil (Nat.zero_le _) (by omega) (by omega) (by omega)
  rw [uvar1] at hc2
  have HC2 := Lib.hid hc2
  clear hr1 hb1 hc2
  go_wp2_with fail
  refine HC2.out.mono ?_
  rintro e w2 ⟨g2, rfl, hg2, hr2, hb2⟩
  have hs2 := (hr2.byt' hr2.lt (m := 1) rfl).str 1
  have hl2 := bs_list [1]
  have hkc := fun (C : Array Value) (n c : Nat) => Lib.run_convert_bytes_const (P := Try.prog) w2 22 5 C n c Try.underlying22 Try.underlying5
  have HB2 := Lib.hid (HB1.out.trans (hb2.mono (HB1.out.size)))
  clear hr2 hb2 HC2 HC1 HB1 hl1 hs1
  go_wp2_with fail
  refine (crc_any _ 9 9 _ [49, 50, 51, 52, 53, 54, 55, 56, 57] _ (Byt.lit w2 _ _ _ 9 (by simp [vals]) rfl) (by unfold maxLen; omega)).mono ?_
  rintro e w3 ⟨rfl, rfl⟩
  rw [crc9]
  clear hs2 hl2 hkc
  go_wp2_with fail
  refine (sum_any _ 8 8 _ [0, 1, 242, 3, 244, 245, 246, 247] _ (Byt.litAt _ _ _ _ 8 _ (by simp) (by simp [vals]) rfl) (by omega)).mono ?_
  rintro e w3 ⟨rfl, rfl⟩
  rw [sum8]
  go_wp2
  go_ret
  exact ⟨rfl, (HB2.out.alloc HB2.out.size _).alloc (by have := HB2.out.size; simp; omega) _⟩

end Go.Proofs.Ythndjngimfoanaa
