/-
  The contract of awake: it returns true and turns nothing that was there. And how a slice of bytes is made into a string.
  Conditions: none.
-/
import Derived.Test.YtndppbfdcceflaaBase
import Derived.Test.YtndppbfdcceflaaJoin
import Derived.Test.YtndppbfdcceflaaPlain
import Derived.Test.YtndppbfdcceflaaUvar
import Derived.Test.YtndppbfdcceflaaCrc
import Derived.Test.YtndppbfdcceflaaSum
import Derived.Laws.IdiomStrings
import Derived.Lib.SmallJoins
namespace Go.Proofs.Ytndppbfdcceflaa

open Go.RowKit

/-- A string with these bytes. -/
def bs (l : List UInt8) : ByteArray := ⟨l.toArray⟩
theorem Byt.str {w : World} {B n : Nat} {A : Option Addr} {l : List UInt8} (h : Byt w B A n l) (c : Nat) :
    (convert 39 9 (.slice A n c)).run Try.prog w = .ok (.string (bs l)) w := by
  by_cases h0 : n = 0
  · subst h0
    obtain rfl : l = [] := List.eq_nil_of_length_eq_zero h.1
    rw [run_convert_bytes_string w _ _ 5 A 0 c Try.underlying39 Try.underlying5 Try.underlying9]
    cases A with
    | none => simp [Conv.bytesToString]; rfl
    | some a =>
      rw [run_bytesToString (P := Try.prog) w a 0 c [] (by simpa using run_loadCells_list (P := Try.prog) w a [] (by simp))]
      rfl
  · obtain ⟨b, off, rfl, _, hc⟩ := h.at_ (by omega)
    have := run_convert_bytes_back (P := Try.prog) w 39 9 5 ⟨b, off, none⟩ c l Try.underlying39 Try.underlying5 Try.underlying9 (fun j hj => by
      have h1 := hc j (by rw [← h.1]; exact hj)
      have e : (⟨b, off, none⟩ : Addr).add j = ⟨b, off + j, none⟩ := by unfold Addr.add; split <;> simp_all
      rw [e, h1]; unfold bt; rw [List.getD_eq_getElem?_getD, List.getElem?_eq_getElem hj]; rfl)
    rw [h.1] at this
    exact this

theorem bs_list (l : List UInt8) : (bs l).toList = l := by rw [ByteArray.toList_eq]; rfl
/-- A new row of bytes, marked or not, reads as its list. -/
theorem Byt.lit (w : World) (fr : Nat × Nat) (l : List UInt8) (C : Array Value) (n : Nat) (hC : C = (vals l).toArray) (hn : l.length = n) : Byt (w.alloc (.cells C 5 fr)) (w.heap.size + 1) (some ⟨w.heap.size, 0, none⟩) n l := by
  subst hC
  refine ⟨hn, fun _ => ⟨w.heap.size, 0, rfl, by omega, fun j hj => ?_⟩⟩
  rw [World.cell?_alloc_mark, List.getElem?_toArray, Nat.zero_add]
  unfold byV vals bt
  rw [List.getElem?_map, List.getElem?_eq_getElem (by omega), List.getD_eq_getElem?_getD, List.getElem?_eq_getElem (by omega)]; rfl
theorem Byt.litAt (w : World) (fr : Nat × Nat) (l : List UInt8) (C : Array Value) (n g : Nat) (hg : w.heap.size = g) (hC : C = (vals l).toArray) (hn : l.length = n) : Byt (w.alloc (.cells C 5 fr)) (g + 1) (some ⟨g, 0, none⟩) n l := by
  subst hg; exact Byt.lit w fr l C n hC hn
theorem uvar300 : uvar 300 = [172, 2] := by decide
theorem uvar1 : uvar (zz (-1)) = [1] := by decide
theorem crc9 : crcOf [49, 50, 51, 52, 53, 54, 55, 56, 57] = 3421780262 := by decide +kernel
theorem sum8 : sumOf [0, 1, 242, 3, 244, 245, 246, 247] = 8717 := by decide +kernel

end Go.Proofs.Ytndppbfdcceflaa
