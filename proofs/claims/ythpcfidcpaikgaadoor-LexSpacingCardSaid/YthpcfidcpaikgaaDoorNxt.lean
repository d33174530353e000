/-
  The contract of the kit's Next: a number from 0 to n - 1; the counter goes up by one.
  Conditions: n is from 1 to 2^30; the counter is at most 100000.
-/
import Derived.Test.YthpcfidcpaikgaaDoorTok
import Derived.Test.YthpcfidcpaikgaaDoorOffM
import Derived.RegionTactic
import Derived.Deep.QuietTactic
import Derived.BigQuiet
namespace Go.Proofs.YthpcfidcpaikgaaDoor
open Go.RowKit Go.Shelf

/-- A slice of ints that is read. -/
structure IRow (w : World) (B : Nat) (A : Option Addr) (len cap : Nat) (zs : List Int) : Prop where
  count : zs.length = len
  le : len ≤ cap
  max : cap ≤ 9223372036854775807
  row : 0 < len → ∃ b off, A = some ⟨b, off, none⟩ ∧ b < B ∧ ∀ i, i < len → w.cell? ⟨b, off + i, none⟩ = some (.int .i64 (zs.getD i 0))
  wf : ∀ z ∈ zs, (Lit.int .i64 z).wf = true
theorem IRow.below {w w' : World} {B B' : Nat} {A : Option Addr} {len cap : Nat} {zs : List Int} (h : IRow w B A len cap zs) (hB : B ≤ B') (hb : Below B' w w') : IRow w' B A len cap zs :=
  ⟨h.count, h.le, h.max, fun hn => by
    obtain ⟨b, off, e, hlt, hc⟩ := h.row hn
    exact ⟨b, off, e, hlt, fun i hi => (hb.cell (p := ⟨b, off + i, none⟩) (by show b < B'; omega)).trans (hc i hi)⟩, h.wf⟩

def placeI (v n : Int) : Int := if v.tmod n < 0 then v.tmod n + n else v.tmod n
theorem placeI_bd (v n : Int) (h : 0 < n) : 0 ≤ placeI v n ∧ placeI v n < n := by
  have hb1 : v.tmod n < n := Int.tmod_lt_of_pos v h
  have hb2 : -n < v.tmod n := Int.lt_tmod_of_pos v h
  unfold placeI; split <;> omega
theorem place_eq (v n : Int) (hn0 : 0 < n) (hn1 : n ≤ 1073741824) (w : World) :
    Calls Tryd.prog 31 #[.int .i64 v, .int .i64 n] w fun e w' => e = .returned (.int .i64 (placeI v n)) ∧ w = w' := by
  have hb1 : v.tmod n < n := Int.tmod_lt_of_pos v hn0
  have hb2 : -n < v.tmod n := Int.lt_tmod_of_pos v hn0
  have hnz : ¬ n = 0 := by omega
  have HE : Hid (placeI v n = if v.tmod n < 0 then v.tmod n + n else v.tmod n) := Lib.hid rfl
  go_enter Tryd.func31, Tryd.ntmps31
  go_wp2
  all_goals go_ret
  · exact ⟨ret_int (by rw [HE.out, if_pos (by assumption)]), rfl⟩
  · exact ⟨ret_int (by rw [HE.out, if_neg (by omega)]), rfl⟩
def NextEnd (b k n : Nat) (w : World) (e : Ending) (w' : World) : Prop := ∃ r : Nat, r < n ∧ e = .returned (.int .i64 r) ∧ ∃ m, w' = (w.drewN m).setCell ⟨b, 1, none⟩ (.int .i64 ((k : Int) + 1))
set_option maxRecDepth 50000 in
set_option maxHeartbeats 1000000 in
theorem next_some (b B : Nat) (A : Option Addr) (len cap : Nat) (zs : List Int) (k n : Nat) (w : World) (hb : w.heap[b]? = some (.cells #[.slice A len cap, .int .i64 k] 39 (0, 0))) (hr : IRow w B A len cap zs) (hk : k ≤ 100000) (hn : 1 ≤ n) (hn2 : n ≤ 1073741824) (hl : 0 < len) :
    Calls Tryd.prog 16 #[.pointer (some ⟨b, 0, none⟩), .int .i64 n] w (NextEnd b k n w) := by
  obtain ⟨ab, off, rfl, _, hc⟩ := hr.row hl
  have hml : k % len < len := Nat.mod_lt _ hl
  have cz := hc (k % len) hml
  have c0 : w.cell? ⟨b, 0, none⟩ = some (.slice (some ⟨ab, off, none⟩) len cap) := by simp [World.cell?, hb]
  have c1 : w.cell? ⟨b, 1, none⟩ = some (.int .i64 k) := by simp [World.cell?, hb]
  have z0 : ∀ j, w.frozen? ⟨b, j, none⟩ = false := fun j => by simp [World.frozen?, hb]
  have hmax := hr.max
  have hle := hr.le
  generalize zs.getD (k % len) 0 = zv at *
  have HPL := Lib.hid (place_eq zv 1073741824 (by omega) (by omega))
  have hpb := placeI_bd zv 1073741824 (by omega)
  generalize placeI zv 1073741824 = pv at *
  obtain ⟨hp0, hp1⟩ := hpb
  have ht : (k : Int).tmod (len : Int) = ((k % len : Nat) : Int) := rfl
  have ht2 : (k : Int) % (len : Int) = ((k % len : Nat) : Int) := by omega
  have hm0 : (0 : Int) ≤ ((k % len : Nat) : Int) := by omega
  have hm1 : ((k % len : Nat) : Int) < (len : Int) := by omega
  have hm2 : (((k % len : Nat) : Int)).toNat = k % len := by omega
  have hlz : ¬ ((len : Int) = 0) := by omega
  generalize hkl : k % len = kl at *
  clear hkl hc
  go_enter Tryd.func16, Tryd.ntmps16
  go_wp2
  go_quiet ((go_at_call 31; exact (HPL.out _).mono fun _ _ ⟨he, hw⟩ => ⟨he, _, hw.symm⟩))
  have hq : (k : Int).tdiv (len : Int) = ((k / len : Nat) : Int) := rfl
  have hq2 : (k : Int) / (len : Int) = ((k / len : Nat) : Int) := by omega
  have hql : k / len ≤ k := Nat.div_le_self _ _
  generalize k / len = q at *
  have hl1 : ¬ ((len : Int) < 1) := by omega
  have hl2 : ¬ (len < 1) := by omega
  have hw1 : IntKind.i64.wrap (7 * (q : Int)) = 7 * (q : Int) := by rw [IntKind.wrap_i64]; omega
  have hw2 : IntKind.i64.wrap (pv + 7 * (q : Int)) = pv + 7 * (q : Int) := by rw [IntKind.wrap_i64]; omega
  go_wp2
  go_region
  have hmx : max (len : Int) 1 = (len : Int) := by omega
  have hE : wrap64 (pv + wrap64 (7 * wrap64 ((k : Int) / max (len : Int) 1))) = pv + 7 * (q : Int) := by
    rw [hmx, hq2, IntWalk.wrap64_in (q : Int) (by omega), IntWalk.wrap64_in (7 * (q : Int)) (by omega), IntWalk.wrap64_in (pv + 7 * (q : Int)) (by omega)]
  rw [hE]
  obtain ⟨sv, hsv⟩ : ∃ s : Nat, pv + 7 * (q : Int) = (s : Int) := ⟨(pv + 7 * (q : Int)).toNat, by omega⟩
  rw [hsv]
  have hsb : sv ≤ 1100000000 := by omega
  have hrb : sv % n < n := Nat.mod_lt _ hn
  have hrt : (sv : Int).tmod (n : Int) = ((sv % n : Nat) : Int) := rfl
  have hrt2 : (sv : Int) % (n : Int) = ((sv % n : Nat) : Int) := by omega
  have hnz : ¬ ((n : Int) = 0) := by omega
  generalize sv % n = rr at *
  clear hE hmx hsv hw1 hw2 hq hq2 ht ht2 hn2 hp0 hp1 hsb hql
  go_wp2
  go_ret
  exact ⟨rr, hrb, rfl, _, rfl⟩
set_option maxRecDepth 50000 in
set_option maxHeartbeats 1000000 in
theorem next_none (b : Nat) (A : Option Addr) (cap : Nat) (k n : Nat) (w : World) (hb : w.heap[b]? = some (.cells #[.slice A 0 cap, .int .i64 k] 39 (0, 0))) (hk : k ≤ 100000) (hn : 1 ≤ n) :
    Calls Tryd.prog 16 #[.pointer (some ⟨b, 0, none⟩), .int .i64 n] w (NextEnd b k n w) := by
  have c0 : w.cell? ⟨b, 0, none⟩ = some (.slice A 0 cap) := by simp [World.cell?, hb]
  have c1 : w.cell? ⟨b, 1, none⟩ = some (.int .i64 k) := by simp [World.cell?, hb]
  have z0 : ∀ j, w.frozen? ⟨b, j, none⟩ = false := fun j => by simp [World.frozen?, hb]
  have HB := Lib.hid hb
  clear hb
  go_enter Tryd.func16, Tryd.ntmps16
  go_wp2
  go_region
  have hE : wrap64 (wrap64 (7 * wrap64 ((k : Int) / max 0 1))) = ((7 * k : Nat) : Int) := by
    rw [show (k : Int) / max 0 1 = (k : Int) by rw [show (max 0 1 : Int) = 1 by decide]; omega, IntWalk.wrap64_in (k : Int) (by omega), IntWalk.wrap64_in (7 * (k : Int)) (by omega), IntWalk.wrap64_in (7 * (k : Int)) (by omega)]
    omega
  rw [hE]
  clear hE
  obtain ⟨sv, hsv⟩ : ∃ s : Nat, 7 * k = s := ⟨_, rfl⟩
  rw [hsv]
  have hrb : sv % n < n := Nat.mod_lt _ hn
  have hrt : (sv : Int).tmod (n : Int) = ((sv % n : Nat) : Int) := rfl
  have hrt2 : (sv : Int) % (n : Int) = ((sv % n : Nat) : Int) := by omega
  have hnz : ¬ ((n : Int) = 0) := by omega
  generalize sv % n = rr at *
  clear hsv
  go_wp2
  go_ret
  exact ⟨rr, hrb, rfl, 1, rfl⟩
theorem next_any (b B : Nat) (A : Option Addr) (len cap : Nat) (zs : List Int) (k n : Nat) (w : World) (hb : w.heap[b]? = some (.cells #[.slice A len cap, .int .i64 k] 39 (0, 0))) (hr : IRow w B A len cap zs) (hk : k ≤ 100000) (hn : 1 ≤ n) (hn2 : n ≤ 1073741824) :
    Calls Tryd.prog 16 #[.pointer (some ⟨b, 0, none⟩), .int .i64 n] w (NextEnd b k n w) := by
  rcases Nat.eq_zero_or_pos len with h0 | h0
  · subst h0
    exact next_none b A cap k n w hb hk hn
  · exact next_some b B A len cap zs k n w hb hr hk hn hn2 h0
end Go.Proofs.YthpcfidcpaikgaaDoor
