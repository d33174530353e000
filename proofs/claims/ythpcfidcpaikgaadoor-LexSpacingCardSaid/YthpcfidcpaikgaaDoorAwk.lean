/-
  Scan's contract in the two forms that its callers take, and the contract of the law's sanity check: it returns true.
  Conditions: the variable strconv.ErrRange lies as the program's start lays it.
-/
import Derived.Test.YthpcfidcpaikgaaDoorScan
namespace Go.Proofs.YthpcfidcpaikgaaDoor
open Go.RowKit Go.Shelf

theorem scan_ok (l : List UInt8) (ts : List Tok) (h : scan l = .ok ts) (w : World) (hG : Glob w) (hl : l.length ≤ maxLen) :
    Calls Tryd.prog 8 #[.string ⟨l.toArray⟩] w fun e w' => ∃ A cap, e = .returned (.tuple #[.slice A ts.length cap, .agg #[.int .i64 0, .int .i64 0], .int .i64 0]) ∧ ts.length ≤ cap ∧ TRow w' w'.heap.size A (ts.map Tok.g) ∧ Below w.heap.size w w' :=
  (scan_any l w hG hl).mono fun e w' hh => by
    rw [h] at hh
    obtain ⟨v, he, hown, hb⟩ := hh
    obtain ⟨A, cap, hv, hc, hr⟩ := hown.row
    rw [List.length_map] at hv hc
    exact ⟨A, cap, by rw [he, hv], hc, hr, hb⟩
theorem scan_no (l : List UInt8) (line col er : Nat) (h : scan l = .no line col er) (w : World) (hG : Glob w) (hl : l.length ≤ maxLen) :
    Calls Tryd.prog 8 #[.string ⟨l.toArray⟩] w fun e w' => e = .returned (.tuple #[.slice none 0 0, .agg #[.int .i64 line, .int .i64 col], .int .i64 er]) ∧ Below w.heap.size w w' :=
  (scan_any l w hG hl).mono fun e w' hh => by rw [h] at hh; exact hh

def awk1 : List Tok := [⟨1, [99, 111, 114, 101], 0, 1, 1⟩, ⟨2, [], 16384, 1, 6⟩, ⟨4, [59], 0, 1, 11⟩]
theorem awk1_eq : scan [99, 111, 114, 101, 32, 48, 120, 49, 48, 75, 59] = .ok awk1 := by decide +kernel
theorem awk2_eq : scan [49, 50, 97] = .no 1 1 50 := by decide +kernel

set_option maxHeartbeats 1000000 in
theorem awake_any (w : World) (hG : Glob w) : Calls Tryd.prog 7 #[] w fun e w' => e = .returned (.bool true) ∧ Below w.heap.size w w' := by
  have H1 := Lib.hid (scan_ok _ _ awk1_eq w hG (by unfold maxLen; decide))
  have H2 := Lib.hid fun W hW => scan_no _ _ _ _ awk2_eq W hW (by unfold maxLen; decide)
  have HG := Lib.hid hG
  clear hG
  go_enter Tryd.func7, Tryd.ntmps7
  go_wp2_with fail
  refine H1.out.mono ?_
  rintro e w1 ⟨A, cap, rfl, hcap, hr, hb1⟩
  obtain ⟨b, off, rfl, hlt, hc⟩ := hr (by decide)
  have v1 := hc 1 (by decide) 2 _ rfl
  have v2 := hc 2 (by decide) 3 _ rfl
  have v3 := hc 2 (by decide) 4 _ rfl
  simp [awk1, Tok.g] at v1 v2 v3
  have HB1 := Lib.hid hb1
  have HG1 := Lib.hid (HG.out.next hb1)
  have hcap3 : 3 ≤ cap := hcap
  clear hr hc hb1 hcap
  have el : awk1.length = 3 := rfl
  go_wp2_with fail
  have hbw : Below w1.heap.size w1 (w1.alloc (.cells #[.int .i64 0, .int .i64 0] 25)) := (Below.refl _ _).alloc (Nat.le_refl _) _
  refine (H2.out _ (HG1.out.next hbw)).mono ?_
  rintro e w2 ⟨rfl, hb2⟩
  have hb3 : Below w1.heap.size w1 w2 := hbw.trans (hb2.mono (by simp))
  have u1 := (hb3.cell (p := ⟨b, off + 7, none⟩) hlt).trans v1
  have u2 := (hb3.cell (p := ⟨b, off + 13, none⟩) hlt).trans v2
  have u3 := (hb3.cell (p := ⟨b, off + 14, none⟩) hlt).trans v3
  have hlt2 : b < w2.heap.size := by have := hb3.size; omega
  have HB3 := Lib.hid hb3
  clear v1 v2 v3 hb2 hb3 hbw
  go_wp2
  go_ret
  exact ⟨rfl, (HB1.out.trans (HB3.out.mono HB1.out.size)).alloc (by have := HB1.out.size; have := HB3.out.size; omega) _⟩
end Go.Proofs.YthpcfidcpaikgaaDoor
