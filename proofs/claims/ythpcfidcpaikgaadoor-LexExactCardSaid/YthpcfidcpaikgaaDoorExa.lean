/-
  The walk of the law LexExact: Scan and IsName equal the reference.
  Conditions: the variable strconv.ErrRange lies as the program's start lays it.
-/
import Derived.Test.YthpcfidcpaikgaaDoorRefW
import Derived.Test.YthpcfidcpaikgaaDoorSame
import Derived.Test.YthpcfidcpaikgaaDoorLexR
namespace Go.Proofs.YthpcfidcpaikgaaDoor
open Go.RowKit Go.Shelf

set_option maxHeartbeats 1000000 in
theorem rscan_big (l : List UInt8) (w : World) (hb : 65536 < l.length) (hl : l.length ≤ maxLen) :
    Calls Tryd.prog 9 #[.string ⟨l.toArray⟩] w fun e w' => e = .returned (.tuple #[.slice none 0 0, .agg #[.int .i64 0, .int .i64 0], .int .i64 15]) ∧ Below w.heap.size w w' := by
  unfold maxLen at hl
  have hsz : (⟨l.toArray⟩ : ByteArray).size = l.length := ba_size l
  go_enter Tryd.func9, Tryd.ntmps9
  go_wp2
  refine bodyPost_ret (v := .tuple #[.slice none 0 0, .agg #[.int .i64 0, .int .i64 0], .int .i64 15]) (by simp [results, Tryd.results9, go_sem]) rfl ?_
  exact ⟨rfl, (Below.refl _ _).alloc (Nat.le_refl _) _⟩
theorem rscan_ok (l : List UInt8) (ts : List Tok) (h : scan l = .ok ts) (w : World) :
    Calls Tryd.prog 9 #[.string ⟨l.toArray⟩] w fun e w' => ∃ A cap, e = .returned (.tuple #[.slice A ts.length cap, .agg #[.int .i64 0, .int .i64 0], .int .i64 0]) ∧ ts.length ≤ cap ∧ TRow w' w'.heap.size A (ts.map Tok.g) ∧ Below w.heap.size w w' := by
  have hl : l.length ≤ 65536 := by
    rcases Nat.lt_or_ge 65536 l.length with h1 | h1
    · rw [scan, if_pos h1] at h; cases h
    · exact h1
  rw [scan, if_neg (by omega)] at h
  refine (rscan_any l w hl).mono fun e w' hh => ?_
  rw [h] at hh
  obtain ⟨v, he, hown, hb⟩ := hh
  obtain ⟨A, cap, hv, hc, hr⟩ := hown.row
  rw [List.length_map] at hv hc
  exact ⟨A, cap, by rw [he, hv], hc, hr, hb⟩
theorem rscan_no (l : List UInt8) (x y er : Nat) (h : scan l = .no x y er) (w : World) (hl : l.length ≤ maxLen) :
    Calls Tryd.prog 9 #[.string ⟨l.toArray⟩] w fun e w' => e = .returned (.tuple #[.slice none 0 0, .agg #[.int .i64 x, .int .i64 y], .int .i64 er]) ∧ Below w.heap.size w w' := by
  rcases Nat.lt_or_ge 65536 l.length with h1 | h1
  · rw [scan, if_pos h1] at h
    injection h with h2 h3 h4
    subst h2 h3 h4
    exact rscan_big l w h1 hl
  · rw [scan, if_neg (by omega)] at h
    refine (rscan_any l w h1).mono fun e w' hh => ?_
    rw [h] at hh
    exact hh
theorem scan_len {l : List UInt8} {ts : List Tok} (h : scan l = .ok ts) : ts.length ≤ 65536 := by
  have hl : l.length ≤ 65536 := by
    rcases Nat.lt_or_ge 65536 l.length with h1 | h1
    · rw [scan, if_pos h1] at h; cases h
    · exact h1
  rw [scan, if_neg (by omega)] at h
  obtain ⟨os, hs⟩ := stands l ts 0 (Nat.zero_le _) (by simpa [adv] using h)
  rcases stands_count hs with h2 | h2
  · omega
  · rw [h2]; simp

set_option maxRecDepth 50000 in
set_option maxHeartbeats 1000000 in
theorem exact_far (l : List UInt8) (w : World) (h1 : 3000 < l.length) (h2 : l.length ≤ 65536) (hG : Glob w) :
    Calls Tryd.prog 3 #[.string ⟨l.toArray⟩] w fun e w' => e = .returned (.bool true) ∧ Below w.heap.size w w' := by
  have hsz : (⟨l.toArray⟩ : ByteArray).size = l.length := ba_size l
  have HC := Lib.hid (awake_any w hG)
  clear hG
  go_enter Tryd.func3, Tryd.ntmps3
  go_wp2_with fail
  refine HC.out.mono ?_
  rintro e w1 ⟨rfl, hb⟩
  go_wp2
  go_ret
  exact ⟨rfl, hb⟩
set_option maxRecDepth 50000 in
set_option maxHeartbeats 1000000 in
theorem exact_near (l : List UInt8) (w : World) (h1 : l.length ≤ 3000 ∨ 65536 < l.length) (hl : l.length ≤ maxLen) (hG : Glob w) (ts : List GTok) (ev : Int) (x y : Int) (hts : ts.length ≤ 65536)
    (H1 : ∀ W, Glob W → Calls Tryd.prog 8 #[.string ⟨l.toArray⟩] W fun e w' => ∃ A cap, e = .returned (.tuple #[.slice A ts.length cap, .agg #[.int .i64 x, .int .i64 y], .int .i64 ev]) ∧ TRow w' w'.heap.size A ts ∧ Below W.heap.size W w')
    (H2 : ∀ W, Calls Tryd.prog 9 #[.string ⟨l.toArray⟩] W fun e w' => ∃ A cap, e = .returned (.tuple #[.slice A ts.length cap, .agg #[.int .i64 x, .int .i64 y], .int .i64 ev]) ∧ TRow w' w'.heap.size A ts ∧ Below W.heap.size W w') :
    Calls Tryd.prog 3 #[.string ⟨l.toArray⟩] w fun e w' => e = .returned (.bool true) ∧ Below w.heap.size w w' := by
  have hsz : (⟨l.toArray⟩ : ByteArray).size = l.length := ba_size l
  have HS := Lib.hid (H1 w hG)
  have HR := Lib.hid H2
  have HN1 := Lib.hid fun W => isName_any l W hl
  have HN2 := Lib.hid fun W => rIsName_any l W hl
  have HG := Lib.hid hG
  have hl2 := hl
  unfold maxLen at hl2
  clear H1 H2 hG hl
  generalize nameB l = nb at *
  rcases h1 with h1 | h1
  all_goals
    go_enter Tryd.func3, Tryd.ntmps3
    go_wp2_with fail
    refine HS.out.mono ?_
    rintro e w1 ⟨A, ca, rfl, hr1, hb1⟩
    have HB1 := Lib.hid hb1
    have HT1 := Lib.hid hr1
    clear hb1 hr1
    go_wp2_with fail
    refine (HR.out _).mono ?_
    rintro e w2 ⟨B, cb, rfl, hr2, hb2⟩
    have hz2 : w1.heap.size < w2.heap.size := by have := hb2.size; simp at this; omega
    have p0 : w2.cell? ⟨w1.heap.size, 0, none⟩ = some (.int .i64 x) := (hb2.cell (p := ⟨w1.heap.size, 0, none⟩) (by simp)).trans (by simp)
    have p1 : w2.cell? ⟨w1.heap.size, 1, none⟩ = some (.int .i64 y) := (hb2.cell (p := ⟨w1.heap.size, 1, none⟩) (by simp)).trans (by simp)
    have HT1b := Lib.hid ((HT1.out.below (Nat.le_refl _) ((Below.refl _ _).alloc (Nat.le_refl _) (.cells #[.int .i64 x, .int .i64 y] 25))).below (by simp) hb2)
    have HB2 := Lib.hid (bel_alloc HB1.out hb2)
    have HT2 := Lib.hid hr2
    clear hr2 hb2
    go_wp2_with fail
    have HT1c := Lib.hid (HT1b.out.below (Nat.le_of_lt hz2) ((Below.refl _ _).alloc (Nat.le_refl _) (.cells #[.int .i64 x, .int .i64 y] 25)))
    have HT2c := Lib.hid (HT2.out.below (Nat.le_refl _) ((Below.refl _ _).alloc (Nat.le_refl _) (.cells #[.int .i64 x, .int .i64 y] 25)))
    refine (same_eq ts A B ca cb _ (HT1c.out.wide (by simp; omega)) (HT2c.out.wide (by simp)) hts).mono ?_
    rintro e w3 ⟨rfl, hb3⟩
    have q0 : w3.cell? ⟨w2.heap.size, 0, none⟩ = some (.int .i64 x) := (hb3.cell (p := ⟨w2.heap.size, 0, none⟩) (by simp)).trans (by simp)
    have q1 : w3.cell? ⟨w2.heap.size, 1, none⟩ = some (.int .i64 y) := (hb3.cell (p := ⟨w2.heap.size, 1, none⟩) (by simp)).trans (by simp)
    have r0 : w3.cell? ⟨w1.heap.size, 0, none⟩ = some (.int .i64 x) := (hb3.cell (p := ⟨w1.heap.size, 0, none⟩) (by simp; omega)).trans ((((Below.refl w2.heap.size w2).alloc (Nat.le_refl _) _).cell (p := ⟨w1.heap.size, 0, none⟩) hz2).trans p0)
    have r1 : w3.cell? ⟨w1.heap.size, 1, none⟩ = some (.int .i64 y) := (hb3.cell (p := ⟨w1.heap.size, 1, none⟩) (by simp; omega)).trans ((((Below.refl w2.heap.size w2).alloc (Nat.le_refl _) _).cell (p := ⟨w1.heap.size, 1, none⟩) hz2).trans p1)
    have HB3 := Lib.hid (bel_alloc HB2.out hb3)
    have HG3 := Lib.hid (HG.out.next HB3.out)
    have HA := Lib.hid (awake_any w3 HG3.out)
    have fx : (x == x) = true := by simp
    have fy : (y == y) = true := by simp
    have fe : (ev == ev) = true := by simp
    have fnb : (nb == nb) = true := by simp
    clear hb3 p0 p1
    go_wp2_with (first | (go_at_call 11; refine (HN1.out _).mono ?_; rintro e w4 ⟨rfl, rfl⟩) | (go_at_call 12; refine (HN2.out _).mono ?_; rintro e w4 ⟨rfl, rfl⟩))
    refine HA.out.mono ?_
    rintro e w5 ⟨rfl, hb5⟩
    go_wp2
    go_ret
    exact ⟨rfl, bel_next HB3.out hb5⟩
theorem exact_walk (l : List UInt8) (w : World) (hl : l.length ≤ maxLen) (hG : Glob w) :
    Calls Tryd.prog 3 #[.string ⟨l.toArray⟩] w fun e w' => e = .returned (.bool true) ∧ Below w.heap.size w w' := by
  by_cases h : 3000 < l.length ∧ l.length ≤ 65536
  · exact exact_far l w h.1 h.2 hG
  · have h1 : l.length ≤ 3000 ∨ 65536 < l.length := by omega
    cases hs : scan l with
    | ok ts =>
      refine exact_near l w h1 hl hG (ts.map Tok.g) 0 0 0 (by rw [List.length_map]; exact scan_len hs) (fun W hW => ?_) (fun W => ?_)
      · refine (scan_ok l ts hs W hW hl).mono fun e w' ⟨A, cap, he, hc, hr, hb⟩ => ⟨A, cap, by rw [he, List.length_map], hr, hb⟩
      · refine (rscan_ok l ts hs W).mono fun e w' ⟨A, cap, he, hc, hr, hb⟩ => ⟨A, cap, by rw [he, List.length_map], hr, hb⟩
    | no a b er =>
      refine exact_near l w h1 hl hG [] er a b (by simp) (fun W hW => ?_) (fun W => ?_)
      · exact (scan_no l a b er hs W hW hl).mono fun e w' ⟨he, hb⟩ => ⟨none, 0, he, TRow.nil, hb⟩
      · exact (rscan_no l a b er hs W hl).mono fun e w' ⟨he, hb⟩ => ⟨none, 0, he, TRow.nil, hb⟩
end Go.Proofs.YthpcfidcpaikgaaDoor
