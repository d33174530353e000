/-
  Scan's contract in the two forms that its callers take, and the contract of the law's sanity check: it returns true.
  Conditions: the variable strconv.ErrRange lies as the program's start lays it.
-/
import Derived.Test.YtfmajccblnmglaaGreatDoorScan
namespace Go.Proofs.YtfmajccblnmglaaGreatDoor

open Go.RowKit Go.Shelf

theorem scan_ok (l : List UInt8) (ts : List Tok) (h : scan l = .ok ts) (w : World) (hG : Glob w) (hl : l.length ≤ maxLen) :
    Calls Tryz.prog 45 #[.string ⟨l.toArray⟩] w fun e w' => ∃ A cap, e = .returned (.tuple #[.slice A ts.length cap, .agg #[.int .i64 0, .int .i64 0], .int .i64 0]) ∧ ts.length ≤ cap ∧ TRow w' w'.heap.size A (ts.map Tok.g) ∧ Below w.heap.size w w' :=
  (scan_any l w hG hl).mono fun e w' hh => by
    rw [h] at hh
    obtain ⟨v, he, hown, hb⟩ := hh
    obtain ⟨A, cap, hv, hc, hr⟩ := hown.row
    rw [List.length_map] at hv hc
    exact ⟨A, cap, by rw [he, hv], hc, hr, hb⟩
theorem scan_no (l : List UInt8) (line col er : Nat) (h : scan l = .no line col er) (w : World) (hG : Glob w) (hl : l.length ≤ maxLen) :
    Calls Tryz.prog 45 #[.string ⟨l.toArray⟩] w fun e w' => e = .returned (.tuple #[.slice none 0 0, .agg #[.int .i64 line, .int .i64 col], .int .i64 er]) ∧ Below w.heap.size w w' :=
  (scan_any l w hG hl).mono fun e w' hh => by rw [h] at hh; exact hh

def awk1 : List Tok := [⟨1, [99, 111, 114, 101], 0, 1, 1⟩, ⟨2, [], 16384, 1, 6⟩, ⟨4, [59], 0, 1, 11⟩]
theorem awk1_eq : scan [99, 111, 114, 101, 32, 48, 120, 49, 48, 75, 59] = .ok awk1 := by decide +kernel
theorem awk2_eq : scan [49, 50, 97] = .no 1 1 50 := by decide +kernel

end Go.Proofs.YtfmajccblnmglaaGreatDoor
