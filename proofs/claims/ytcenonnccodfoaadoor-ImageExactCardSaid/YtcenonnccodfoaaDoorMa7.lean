/-
  The contract of the kit's Next: a number from 0 to n - 1; the counter goes up by one.
  Conditions: n is from 1 to 2^30; the counter is at most 100000.
  A slice of ints that comes in as an argument, as the library opens it, reads as a list.
  Conditions: none beyond the frame's.
  The reference's Find and Same of layer 8.
  Conditions: at most a million modules.
-/
import Derived.Test.YtcenonnccodfoaaDoorMa6
import Derived.RegionTactic
import Derived.Deep.QuietTactic
import Derived.BigQuiet
import Derived.OpenShut
import Derived.ChangeSlices
namespace Go.Proofs.YtcenonnccodfoaaDoor

open Go.RowKit

/-- A slice of ints that is read. -/
structure IRow (w : World) (B : Nat) (A : Option Addr) (len cap : Nat) (zs : List Int) : Prop where
  count : zs.length = len
  le : len ≤ cap
  max : cap ≤ 9223372036854775807
  row : 0 < len → ∃ b off, A = some ⟨b, off, none⟩ ∧ b < B ∧ ∀ i, i < len → w.cell? ⟨b, off + i, none⟩ = some (.int .i64 (zs.getD i 0))
  wf : ∀ z ∈ zs, (Lit.int .i64 z).wf = true
theorem IRow.below {w w' : World} {B B' : Nat} {A : Option Addr} {len cap : Nat} {zs : List Int} (h : IRow w B A len cap zs) (hB : B ≤ B') (hb : Below B' w w') : IRow w' B A len cap zs :=
  ⟨h.count, h.le, h.max, fun hn => by
    obtain ⟨b, off, e, hlt, hc⟩ := h.row hn
    exact ⟨b, off, e, hlt, fun i hi => (hb.cell (p := ⟨b, off + i, none⟩) (by show b < B'; omega)).trans (hc i hi)⟩, h.wf⟩

def placeI (v n : Int) : Int := if v.tmod n < 0 then v.tmod n + n else v.tmod n
theorem placeI_bd (v n : Int) (h : 0 < n) : 0 ≤ placeI v n ∧ placeI v n < n := by
  have hb1 : v.tmod n < n := Int.tmod_lt_of_pos v h
  have hb2 : -n < v.tmod n := Int.lt_tmod_of_pos v h
  unfold placeI; split <;> omega
theorem place_eq (v n : Int) (hn0 : 0 < n) (hn1 : n ≤ 1073741824) (w : World) :
    Calls Tryd.prog 23 #[.int .i64 v, .int .i64 n] w fun e w' => e = .returned (.int .i64 (placeI v n)) ∧ w = w' := by
  have hb1 : v.tmod n < n := Int.tmod_lt_of_pos v hn0
  have hb2 : -n < v.tmod n := Int.lt_tmod_of_pos v hn0
  have hnz : ¬ n = 0 := by omega
  have HE : Hid (placeI v n = if v.tmod n < 0 then v.tmod n + n else v.tmod n) := Lib.hid rfl
  go_enter Tryd.func23, Tryd.ntmps23
  go_wp2
  all_goals go_ret
  · exact ⟨ret_int (by rw [HE.out, if_pos (by assumption)]), rfl⟩
  · exact ⟨ret_int (by rw [HE.out, if_neg (by omega)]), rfl⟩
def NextEnd (b k n : Nat) (w : World) (e : Ending) (w' : World) : Prop := ∃ r : Nat, r < n ∧ e = .returned (.int .i64 r) ∧ ∃ m, w' = (w.drewN m).setCell ⟨b, 1, none⟩ (.int .i64 ((k : Int) + 1))
set_option maxRecDepth 50000 in
set_option maxHeartbeats 1000000 in
theorem next_some (b B : Nat) (A : Option Addr) (len cap : Nat) (zs : List Int) (k n : Nat) (w : World) (hb : w.heap[b]? = some (.cells #[.slice A len cap, .int .i64 k] 70 (0, 0))) (hr : IRow w B A len cap zs) (hk : k ≤ 100000) (hn : 1 ≤ n) (hn2 : n ≤ 1073741824) (hl : 0 < len) :
    Calls Tryd.prog 39 #[.pointer (some ⟨b, 0, none⟩), .int .i64 n] w (NextEnd b k n w) := by
  obtain ⟨ab, off, rfl, _, hc⟩ := hr.row hl
  have hml : k % len < len := Nat.mod_lt _ hl
  have cz := hc (k % len) hml
  have c0 : w.cell? ⟨b, 0, none⟩ = some (.slice (some ⟨ab, off, none⟩) len cap) := by simp [World.cell?, hb]
  have c1 : w.cell? ⟨b, 1, none⟩ = some (.int .i64 k) := by simp [World.cell?, hb]
  have z0 : ∀ j, w.frozen? ⟨b, j, none⟩ = false := fun j => by simp [World.frozen?, hb]
  have hmax := hr.max
  have hle := hr.le
  generalize zs.getD (k % len) 0 = zv at *
  have HPL := Lib.hid (place_eq zv 1073741824 (by omega) (by omega))
  have hpb := placeI_bd zv 1073741824 (by omega)
  generalize placeI zv 1073741824 = pv at *
  obtain ⟨hp0, hp1⟩ := hpb
  have ht : (k : Int).tmod (len : Int) = ((k % len : Nat) : Int) := rfl
  have ht2 : (k : Int) % (len : Int) = ((k % len : Nat) : Int) := by omega
  have hm0 : (0 : Int) ≤ ((k % len : Nat) : Int) := by omega
  have hm1 : ((k % len : Nat) : Int) < (len : Int) := by omega
  have hm2 : (((k % len : Nat) : Int)).toNat = k % len := by omega
  have hlz : ¬ ((len : Int) = 0) := by omega
  generalize hkl : k % len = kl at *
  clear hkl hc
  go_enter Tryd.func39, Tryd.ntmps39
  go_wp2
  go_quiet ((go_at_call 23; exact (HPL.out _).mono fun _ _ ⟨he, hw⟩ => ⟨he, _, hw.symm⟩))
  have hq : (k : Int).tdiv (len : Int) = ((k / len : Nat) : Int) := rfl
  have hq2 : (k : Int) / (len : Int) = ((k / len : Nat) : Int) := by omega
  have hql : k / len ≤ k := Nat.div_le_self _ _
  generalize k / len = q at *
  have hl1 : ¬ ((len : Int) < 1) := by omega
  have hl2 : ¬ (len < 1) := by omega
  have hw1 : IntKind.i64.wrap (7 * (q : Int)) = 7 * (q : Int) := by rw [IntKind.wrap_i64]; omega
  have hw2 : IntKind.i64.wrap (pv + 7 * (q : Int)) = pv + 7 * (q : Int) := by rw [IntKind.wrap_i64]; omega
  go_wp2
  go_region
  have hmx : max (len : Int) 1 = (len : Int) := by omega
  have hE : wrap64 (pv + wrap64 (7 * wrap64 ((k : Int) / max (len : Int) 1))) = pv + 7 * (q : Int) := by
    rw [hmx, hq2, IntWalk.wrap64_in (q : Int) (by omega), IntWalk.wrap64_in (7 * (q : Int)) (by omega), IntWalk.wrap64_in (pv + 7 * (q : Int)) (by omega)]
  try rw [hE]
  obtain ⟨sv, hsv⟩ : ∃ s : Nat, pv + 7 * (q : Int) = (s : Int) := ⟨(pv + 7 * (q : Int)).toNat, by omega⟩
  rw [hsv]
  have hsb : sv ≤ 1100000000 := by omega
  have hrb : sv % n < n := Nat.mod_lt _ hn
  have hrt : (sv : Int).tmod (n : Int) = ((sv % n : Nat) : Int) := rfl
  have hrt2 : (sv : Int) % (n : Int) = ((sv % n : Nat) : Int) := by omega
  have hnz : ¬ ((n : Int) = 0) := by omega
  generalize sv % n = rr at *
  clear hE hmx hsv hw1 hw2 hq hq2 ht ht2 hn2 hp0 hp1 hsb hql
  go_wp2
  go_ret
  exact ⟨rr, hrb, rfl, _, rfl⟩
set_option maxRecDepth 50000 in
set_option maxHeartbeats 1000000 in
theorem next_none (b : Nat) (A : Option Addr) (cap : Nat) (k n : Nat) (w : World) (hb : w.heap[b]? = some (.cells #[.slice A 0 cap, .int .i64 k] 70 (0, 0))) (hk : k ≤ 100000) (hn : 1 ≤ n) :
    Calls Tryd.prog 39 #[.pointer (some ⟨b, 0, none⟩), .int .i64 n] w (NextEnd b k n w) := by
  have c0 : w.cell? ⟨b, 0, none⟩ = some (.slice A 0 cap) := by simp [World.cell?, hb]
  have c1 : w.cell? ⟨b, 1, none⟩ = some (.int .i64 k) := by simp [World.cell?, hb]
  have z0 : ∀ j, w.frozen? ⟨b, j, none⟩ = false := fun j => by simp [World.frozen?, hb]
  have HB := Lib.hid hb
  clear hb
  go_enter Tryd.func39, Tryd.ntmps39
  go_wp2
  go_region
  have hE : wrap64 (wrap64 (7 * wrap64 ((k : Int) / max 0 1))) = ((7 * k : Nat) : Int) := by
    rw [show (k : Int) / max 0 1 = (k : Int) by rw [show (max 0 1 : Int) = 1 by decide]; omega, IntWalk.wrap64_in (k : Int) (by omega), IntWalk.wrap64_in (7 * (k : Int)) (by omega), IntWalk.wrap64_in (7 * (k : Int)) (by omega)]
    omega
  try rw [hE]
  clear hE
  obtain ⟨sv, hsv⟩ : ∃ s : Nat, 7 * k = s := ⟨_, rfl⟩
  have hsv2 : (7 : Int) * (k : Int) = (sv : Int) := by omega
  first | rw [hsv] | rw [hsv2]
  have hrb : sv % n < n := Nat.mod_lt _ hn
  have hrt : (sv : Int).tmod (n : Int) = ((sv % n : Nat) : Int) := rfl
  have hrt2 : (sv : Int) % (n : Int) = ((sv % n : Nat) : Int) := by omega
  have hnz : ¬ ((n : Int) = 0) := by omega
  generalize sv % n = rr at *
  clear hsv
  go_wp2
  go_ret
  exact ⟨rr, hrb, rfl, 1, rfl⟩
theorem next_any (b B : Nat) (A : Option Addr) (len cap : Nat) (zs : List Int) (k n : Nat) (w : World) (hb : w.heap[b]? = some (.cells #[.slice A len cap, .int .i64 k] 70 (0, 0))) (hr : IRow w B A len cap zs) (hk : k ≤ 100000) (hn : 1 ≤ n) (hn2 : n ≤ 1073741824) :
    Calls Tryd.prog 39 #[.pointer (some ⟨b, 0, none⟩), .int .i64 n] w (NextEnd b k n w) := by
  rcases Nat.eq_zero_or_pos len with h0 | h0
  · subst h0
    exact next_none b A cap k n w hb hk hn
  · exact next_some b B A len cap zs k n w hb hr hk hn hn2 h0
end Go.Proofs.YtcenonnccodfoaaDoor


namespace Go.Proofs.YtcenonnccodfoaaDoor

open Go.ChangeShapes Go.WideShapes Go.RowKit

def IsInts (w : World) (a : Option Addr) (len cap : Nat) (zs : List Int) : Prop := IRow w w.heap.size a len cap zs
section

variable {H : Type} {enc : TypeId × Value → H} {W : World} {base : Nat} {held : Bool}

theorem IsInts_open {a : Option Addr} {len cap : Nat} {d : DataW H} {p : List MemPlace} (h : DataW.Trod enc Tryd.prog W base (fun _ => true) held 37 (.slice a len cap) d p) (_ : ∀ n ∈ d.weights Tryd.prog 37, n ≤ reachBytes) : ∃ zs, IsInts W a len cap zs := by
  obtain ⟨fuel, hf⟩ := h
  rcases open_ints Tryd.underlying37 Tryd.underlying3 (by kernel_rfl) hf with ⟨hcs, _⟩ | ⟨x, l, c, zs, hcs, _, hl, hm, hz, _, hc, hw⟩
  · simp [Value.cells] at hcs
    obtain ⟨rfl, rfl, rfl⟩ := hcs
    exact ⟨[], rfl, Nat.le_refl _, Nat.zero_le _, fun h => absurd h (by omega), fun z hz => (by cases hz)⟩
  · simp [Value.cells] at hcs
    obtain ⟨rfl, rfl, rfl⟩ := hcs
    have hzl : len ≤ zs.length := by rw [hz]; simp; omega
    refine ⟨zs.take len, by simp; omega, hl, by unfold maxLen at hm; omega, fun h0 => ?_, fun z hz => hw z (List.mem_of_mem_take hz)⟩
    obtain ⟨b, off, rfl, hat⟩ := ints_at hc (by omega)
    refine ⟨b, off, rfl, ?_, fun i hi => ?_⟩
    · have := World.block_lt_of_cell? W _ (hat 0 (by omega))
      simpa using this
    · rw [hat i (by omega), List.getD_eq_getElem?_getD, List.getD_eq_getElem?_getD, List.getElem?_take, if_pos hi]
end

end Go.Proofs.YtcenonnccodfoaaDoor


namespace Go.Proofs.YtcenonnccodfoaaDoor

open Go.RowKit

def keyIs (nm : List UInt8) (wd : Int) (m : GMod) : Bool := decide (m.name = nm) && decide (m.width = wd)
/-- i and ok are what Find yields. -/
def FindR (ms : List GMod) (nm : List UInt8) (wd : Int) (i : Int) (ok : Bool) : Prop :=
  (ok = true ∧ ∃ k : Nat, i = k ∧ ∃ h : k < ms.length, keyIs nm wd ms[k] = true ∧ (ms.take k).any (keyIs nm wd) = false) ∨ (ok = false ∧ i = 0 ∧ ms.any (keyIs nm wd) = false)
theorem take_any_lt {ms : List GMod} {p : GMod → Bool} {k j : Nat} (h : (ms.take k).any p = false) (hj : j < k) (hl : j < ms.length) : p ms[j] = false := by
  rw [List.any_eq_false] at h
  have := h ms[j] (List.mem_take_iff_getElem.2 ⟨j, by omega, rfl⟩)
  simpa using this
theorem FindR.same {ms : List GMod} {nm : List UInt8} {wd i j : Int} {a b : Bool} (h1 : FindR ms nm wd i a) (h2 : FindR ms nm wd j b) : i = j ∧ a = b := by
  rcases h1 with ⟨rfl, k, rfl, hk, p1, q1⟩ | ⟨rfl, rfl, q1⟩ <;> rcases h2 with ⟨rfl, l, rfl, hl, p2, q2⟩ | ⟨rfl, rfl, q2⟩
  · rcases Nat.lt_trichotomy k l with h | h | h
    · rw [take_any_lt q2 h hk] at p1; cases p1
    · exact ⟨by rw [h], rfl⟩
    · rw [take_any_lt q1 h hl] at p2; cases p2
  · rw [List.any_eq_false] at q2
    exact absurd p1 (q2 _ (List.getElem_mem hk))
  · rw [List.any_eq_false] at q1
    exact absurd p2 (q1 _ (List.getElem_mem hl))
  · exact ⟨rfl, rfl⟩
def FindEnd (ms : List GMod) (nm : List UInt8) (wd : Int) (w : World) (e : Ending) (w' : World) : Prop := (∃ i ok, e = .returned (.tuple #[.int .i64 i, .bool ok]) ∧ FindR ms nm wd i ok) ∧ w = w'
set_option maxRecDepth 50000 in
set_option maxHeartbeats 1000000 in
theorem rFind_any (nm : List UInt8) (wd : Int) (ms : List GMod) (ss : List SMod) (A : Option Addr) (c : Nat) (w : World) (hb : MRow w w.heap.size A ss ms) (hn : ms.length ≤ 1000000) :
    Calls Tryd.prog 18 #[.slice A ms.length c, .string ⟨nm.toArray⟩, .int .i64 wd] w (FindEnd ms nm wd w) := by
  have HB := Lib.hid hb
  have hlen := hb.len
  clear hb
  go_enter Tryd.func18, Tryd.ntmps18
  go_wp2
  go_loop [8] (fun vi => ∃ k : Nat, vi = .int .i64 k ∧ k ≤ ms.length ∧ Hid ((ms.take k).any (keyIs nm wd) = false)) (fun vi => ms.length - (intOf vi).toNat)
  case atStart => exact ⟨0, rfl, Nat.zero_le _, Lib.hid rfl⟩
  case round =>
    obtain ⟨k, rfl, hk, HT⟩ := hrel
    rcases Nat.lt_or_ge k ms.length with hlt | hge
    · have hls : k < ss.length := by omega
      obtain ⟨b1, o1, rfl, hb1, z0, z1, z2, z3, z4⟩ := HB.out.row.mod5 hls
      have hold := HB.out.each k hls hlt
      have HSN := Lib.hid fun h => any_snoc (p := keyIs nm wd) hlt HT.out h
      have HFD : Hid (keyIs nm wd ms[k] = true → FindR ms nm wd k true) := Lib.hid fun h => .inl ⟨rfl, k, rfl, hlt, h, HT.out⟩
      have hn1 := hold.name
      have hw1 := hold.width
      rw [hn1] at z0
      rw [hw1] at z2
      generalize ms[k] = y at *
      clear hold hn1 hw1 z1 z3 z4
      by_cases hq : y.name = nm
      · have f1 : (y.name == nm) = true := by simp [hq]
        by_cases hv : y.width = wd
        · have f2 : (y.width == wd) = true := by simp [hv]
          have HR := Lib.hid (HFD.out (by simp [keyIs, hq, hv]))
          clear hq hv
          go_wp2
          go_ret2
          exact ⟨⟨_, _, rfl, HR.out⟩, rfl⟩
        · have f2 : (y.width == wd) = false := by simp [hv]
          have HS2 := Lib.hid (HSN.out (by simp [keyIs, hv]))
          clear hq hv
          go_wp2
          go_round
          case rel => exact ⟨k + 1, by go_num, by omega, HS2⟩
          case measure => simp [intOf]; omega
      · have f1 : (y.name == nm) = false := by simp [hq]
        have HS2 := Lib.hid (HSN.out (by simp [keyIs, hq]))
        clear hq
        go_wp2
        go_round
        case rel => exact ⟨k + 1, by go_num, by omega, HS2⟩
        case measure => simp [intOf]; omega
    · have HR : Hid (FindR ms nm wd 0 false) := Lib.hid (.inr ⟨rfl, rfl, by have h := HT.out; rwa [List.take_of_length_le hge] at h⟩)
      go_wp2
      go_ret2
      exact ⟨⟨_, _, rfl, HR.out⟩, rfl⟩

/-- Are two modules alike? -/
def sameM (a b : GMod) : Bool := decide (a.name = b.name) && decide (a.kind = b.kind) && decide (a.width = b.width) && decide (a.entry = b.entry) && decide (a.data = b.data)
theorem sameM_eq {a b : GMod} : sameM a b = true ↔ a = b := by
  obtain ⟨a1, a2, a3, a4, a5⟩ := a
  obtain ⟨b1, b2, b3, b4, b5⟩ := b
  simp [sameM, and_assoc]
theorem mods_snoc {xs ys : List GMod} {k : Nat} (h : xs.take k = ys.take k) (h1 : k < xs.length) (h2 : k < ys.length) (hc : xs[k] = ys[k]) : xs.take (k + 1) = ys.take (k + 1) := by
  rw [List.take_succ_eq_append_getElem h1, List.take_succ_eq_append_getElem h2, h, hc]
/-- The block N is a variable that holds the module s. -/
def ModAt (W : World) (N : Nat) (s : SMod) : Prop := W.heap[N]? = some (.cells #[.string ⟨s.name.toArray⟩, .int .i64 s.kind, .int .i64 s.width, .int .i64 s.entry, .slice s.A s.n s.c] 41 (0, 0))
theorem ModAt.cells {W : World} {N : Nat} {s : SMod} (h : ModAt W N s) : W.cell? ⟨N, 0, none⟩ = some (.string ⟨s.name.toArray⟩) ∧ W.cell? ⟨N, 1, none⟩ = some (.int .i64 s.kind) ∧ W.cell? ⟨N, 2, none⟩ = some (.int .i64 s.width) ∧ W.cell? ⟨N, 3, none⟩ = some (.int .i64 s.entry) ∧ W.cell? ⟨N, 4, none⟩ = some (.slice s.A s.n s.c) := by
  unfold ModAt at h
  exact ⟨by rw [Lib.cell_of_heap h]; rfl, by rw [Lib.cell_of_heap h]; rfl, by rw [Lib.cell_of_heap h]; rfl, by rw [Lib.cell_of_heap h]; rfl, by rw [Lib.cell_of_heap h]; rfl⟩
def objM (s : SMod) : Obj := .cells #[.string ⟨s.name.toArray⟩, .int .i64 s.kind, .int .i64 s.width, .int .i64 s.entry, .slice s.A s.n s.c] 41
theorem modAt_two (w : World) (s t : SMod) : ModAt (((w.alloc (objM s)).alloc (objM t)).drew) w.heap.size s ∧ ModAt (((w.alloc (objM s)).alloc (objM t)).drew) (w.heap.size + 1) t ∧ Below w.heap.size w (((w.alloc (objM s)).alloc (objM t)).drew) := by
  refine ⟨?_, ?_, (bel_lit8 (bel_lit8 (Below.refl _ w) _) _).drew⟩
  · exact (Below.heap_alloc _ _ _ (by simp)).trans (heap_alloc_new w _)
  · have h := heap_alloc_new (w.alloc (objM s)) (objM t)
    have e : (w.alloc (objM s)).heap.size = w.heap.size + 1 := by simp
    rw [e] at h
    exact h
def SameEnd8 (xs ys : List GMod) (w : World) (e : Ending) (w' : World) : Prop := (∃ b, e = .returned (.bool b) ∧ (b = true ↔ xs = ys)) ∧ Below w.heap.size w w'
set_option maxRecDepth 50000 in
set_option maxHeartbeats 1000000 in
theorem rSame8_any (xs ys : List GMod) (sx sy : List SMod) (A B : Option Addr) (ca cb : Nat) (w : World) (ha : MRow w w.heap.size A sx xs) (hb : MRow w w.heap.size B sy ys) (hn : xs.length ≤ 1000000) :
    Calls Tryd.prog 19 #[.slice A xs.length ca, .slice B ys.length cb] w (SameEnd8 xs ys w) := by
  have HA := Lib.hid ha
  have HB := Lib.hid hb
  have hla := ha.len
  have hlb := hb.len
  clear ha hb
  by_cases hl : xs.length = ys.length
  case neg =>
    have f0 : ((xs.length : Int) != (ys.length : Int)) = true := by simp; omega
    have HR : Hid (∀ W, Below w.heap.size w W → SameEnd8 xs ys w (.returned (.bool false)) W) := Lib.hid fun W hW => ⟨⟨false, rfl, ⟨fun h => (by cases h), fun h => absurd (by rw [h]) hl⟩⟩, hW⟩
    clear hl
    go_enter Tryd.func19, Tryd.ntmps19
    go_wp2
    go_ret
    exact HR.out _ (Below.refl _ _)
  have f0 : ((xs.length : Int) != (ys.length : Int)) = false := by simp [hl]
  have HL := Lib.hid hl
  clear hl
  go_enter Tryd.func19, Tryd.ntmps19
  go_wp2
  go_loopw [5] (fun vi wr => ∃ k : Nat, vi = .int .i64 k ∧ k ≤ xs.length ∧ Hid (xs.take k = ys.take k) ∧ Hid (Below w.heap.size w wr)) (fun vi _ => xs.length - (intOf vi).toNat)
  case atStart => exact ⟨0, rfl, Nat.zero_le _, Lib.hid rfl, Lib.hid (Below.refl _ _)⟩
  case round =>
    obtain ⟨k, rfl, hk, HT, HW⟩ := hrel
    rcases Nat.lt_or_ge k xs.length with hlt | hge
    · have hlsx : k < sx.length := by omega
      have hlt2 : k < ys.length := by have := HL.out; omega
      have hlsy : k < sy.length := by omega
      obtain ⟨b1, o1, rfl, hb1, z0, z1, z2, z3, z4⟩ := (HA.out.next HW.out).row.mod5 hlsx
      obtain ⟨b2, o2, rfl, hb2, y0, y1, y2, y3, y4⟩ := (HB.out.next HW.out).row.mod5 hlsy
      have hx := (HA.out.next HW.out).each k hlsx hlt
      have hy := (HB.out.next HW.out).each k hlsy hlt2
      have HSN := Lib.hid fun h => mods_snoc HT.out hlt hlt2 h
      have HNO : Hid (xs[k] ≠ ys[k] → xs ≠ ys) := Lib.hid fun h e => h (by subst e; rfl)
      generalize xs[k] = x at *
      generalize ys[k] = y at *
      generalize sx[k] = tx at *
      generalize sy[k] = ty at *
      have HX := Lib.hid hx
      have HY := Lib.hid hy
      clear hx hy
      go_upto_region 6 with fail
      go_cut [6, 7] (fun v6 v7 wx => ∃ p q : Nat, v6 = .pointer (some ⟨p, 0, none⟩) ∧ v7 = .pointer (some ⟨q, 0, none⟩) ∧ Hid (ModAt wx p tx) ∧ Hid (ModAt wx q ty) ∧ Hid (Below wr.heap.size wr wx))
      case first =>
        obtain ⟨n1, k1, w1, e1, A1, l1, c1⟩ := tx
        obtain ⟨n2, k2, w2, e2, A2, l2, c2⟩ := ty
        simp only at z0 z1 z2 z3 z4 y0 y1 y2 y3 y4
        go_region
        · have h2 := modAt_two wr ⟨n1, k1, w1, e1, A1, l1, c1⟩ ⟨n2, k2, w2, e2, A2, l2, c2⟩
          go_wp2
          go_meet
          exact ⟨_, _, rfl, rfl, Lib.hid h2.1, Lib.hid h2.2.1, Lib.hid h2.2.2⟩
        · have h2 := modAt_two wr ⟨n2, k2, w2, e2, A2, l2, c2⟩ ⟨n1, k1, w1, e1, A1, l1, c1⟩
          go_wp2
          go_meet
          exact ⟨_, _, rfl, rfl, Lib.hid h2.2.1, Lib.hid h2.1, Lib.hid h2.2.2⟩
      case rest =>
        obtain ⟨p, q, rfl, rfl, HP, HQ, HBW⟩ := hcut
        obtain ⟨x0, x1, x2, x3, x4⟩ := HP.out.cells
        obtain ⟨q0, q1, q2, q3, q4⟩ := HQ.out.cells
        have HX2 := Lib.hid (HX.out.next HBW.out)
        have HY2 := Lib.hid (HY.out.next HBW.out)
        have cx := HX2.out.row.str tx.c
        have cy := HY2.out.row.str ty.c
        have HWX := Lib.hid (bel_next8 HW.out HBW.out)
        have hx1 := HX2.out.name
        have hx2 := HX2.out.kind
        have hx3 := HX2.out.width
        have hx4 := HX2.out.entry
        have hy1 := HY2.out.name
        have hy2 := HY2.out.kind
        have hy3 := HY2.out.width
        have hy4 := HY2.out.entry
        obtain ⟨n1, k1, w1, e1, A1, l1, c1⟩ := tx
        obtain ⟨n2, k2, w2, e2, A2, l2, c2⟩ := ty
        obtain ⟨xn, xk, xw, xe, xd⟩ := x
        obtain ⟨yn, yk, yw, ye, yd⟩ := y
        simp only at *
        subst hx1 hx2 hx3 hx4 hy1 hy2 hy3 hy4
        unfold bs at cx cy
        clear z0 z1 z2 z3 z4 y0 y1 y2 y3 y4
        have HFL : Hid (∀ W, Below w.heap.size w W → (⟨n1, k1, w1, e1, xd⟩ : GMod) ≠ ⟨n2, k2, w2, e2, yd⟩ → SameEnd8 xs ys w (.returned (.bool false)) W) := Lib.hid fun W hW h => ⟨⟨false, rfl, ⟨fun h => (by cases h), fun h2 => absurd h2 (HNO.out h)⟩⟩, hW⟩
        by_cases h1 : n1 = n2
        case neg =>
          have f1 : (n1 != n2) = true := by simp [h1]
          have g1 : (n1 == n2) = false := by simp [h1]
          have HE := Lib.hid (HFL.out _ HWX.out (by simp [h1]))
          clear h1
          go_wp2
          go_ret
          exact HE.out
        have f1 : (n1 != n2) = false := by simp [h1]
        have g1 : (n1 == n2) = true := by simp [h1]
        by_cases h2 : k1 = k2
        case neg =>
          have f2 : (k1 != k2) = true := by simp [h2]
          have g2 : (k1 == k2) = false := by simp [h2]
          have HE := Lib.hid (HFL.out _ HWX.out (by simp [h2]))
          clear h1 h2
          go_wp2
          go_ret
          exact HE.out
        have f2 : (k1 != k2) = false := by simp [h2]
        have g2 : (k1 == k2) = true := by simp [h2]
        by_cases h3 : w1 = w2
        case neg =>
          have f3 : (w1 != w2) = true := by simp [h3]
          have g3 : (w1 == w2) = false := by simp [h3]
          have HE := Lib.hid (HFL.out _ HWX.out (by simp [h3]))
          clear h1 h2 h3
          go_wp2
          go_ret
          exact HE.out
        have f3 : (w1 != w2) = false := by simp [h3]
        have g3 : (w1 == w2) = true := by simp [h3]
        by_cases h4 : e1 = e2
        case neg =>
          have f4 : (e1 != e2) = true := by simp [h4]
          have g4 : (e1 == e2) = false := by simp [h4]
          have HE := Lib.hid (HFL.out _ HWX.out (by simp [h4]))
          clear h1 h2 h3 h4
          go_wp2
          go_ret
          exact HE.out
        have f4 : (e1 != e2) = false := by simp [h4]
        have g4 : (e1 == e2) = true := by simp [h4]
        by_cases h5 : xd = yd
        case neg =>
          have f5 : (xd != yd) = true := by simp [h5]
          have g5 : (xd == yd) = false := by simp [h5]
          have HE := Lib.hid (HFL.out _ HWX.out (by simp [h5]))
          clear h1 h2 h3 h4 h5
          go_wp2
          go_ret
          exact HE.out
        have f5 : (xd != yd) = false := by simp [h5]
        have g5 : (xd == yd) = true := by simp [h5]
        have HS2 := Lib.hid (HSN.out (by rw [h1, h2, h3, h4, h5]))
        clear h1 h2 h3 h4 h5
        go_wp2
        go_roundw
        case rel => exact ⟨k + 1, by go_num, by omega, HS2, HWX⟩
        case measure => simp [intOf]; omega
    · have HR : Hid (xs = ys) := Lib.hid (by
        have h := HT.out
        have := HL.out
        rwa [List.take_of_length_le hge, List.take_of_length_le (by omega)] at h)
      go_wp2
      go_ret
      exact ⟨⟨true, rfl, ⟨fun _ => HR.out, fun _ => rfl⟩⟩, HW.out⟩
end Go.Proofs.YtcenonnccodfoaaDoor
