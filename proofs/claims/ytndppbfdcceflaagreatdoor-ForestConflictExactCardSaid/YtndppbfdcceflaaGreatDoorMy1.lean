/-
  The closures by which entries are looked for, the library's IndexFunc at them, and the program's Find and At.
  Conditions: none.
  A path stored into an entry of the call's own; the library's Clone at Ids; withOwnPaths; the closures of without, and without at each of them.
  Conditions: at most 100000 entries.
  The closures of without.
  Conditions: at most 100000 entries.
-/
import Derived.Test.YtndppbfdcceflaaGreatDoorZac
import Derived.Test.YtndppbfdcceflaaGreatDoorNpb
import Derived.Lib.SliceRun
namespace Go.Proofs.YtndppbfdcceflaaGreatDoor
open Go.RowKit

set_option maxRecDepth 20000 in
set_option maxHeartbeats 1000000 in
theorem cFind_any (x : GV) (g : Nat) (i : GId) (w : World) (hg : IB w g i) :
    Calls Tryz.prog 59 #[x.val, .pointer (some ⟨g, 0, none⟩)] w fun e w' => e = .returned (.bool (pid i x.e)) ∧ Below w.heap.size w w' := by
  have HQ : Hid (pid i x.e = eqI x.e.node.id i) := Lib.hid rfl
  have HEQ := Lib.hid fun W => id_eql x.e.node.id i W
  have HG := Lib.hid fun W (hW : Below w.heap.size w W) => hg.next hW
  generalize pid i x.e = q at *
  obtain ⟨⟨xc, xs, ⟨⟨i0, i1, i2⟩, xp, ⟨a0, a1, a2, a3, a4, a5, a6⟩⟩⟩, xA, xcp⟩ := x
  obtain ⟨j0, j1, j2⟩ := i
  simp only [GV.val, GId.val] at *
  generalize eqI ⟨i0, i1, i2⟩ ⟨j0, j1, j2⟩ = b at *
  have heq := fun W => HEQ.out W
  obtain ⟨g0, g1, g2⟩ := (HG.out _ (belt (Below.refl _ w) (.cells #[.int .i64 xc, .int .i64 xs, .int .i64 i0, .int .i64 i1, .int .i64 i2, .slice xA xp.length xcp, .int .i64 a0, .int .i64 a1, .int .i64 a2, .int .i64 a3, .int .i64 a4, .int .i64 a5, .bool a6] 32))).cells
  simp only at g0 g1 g2
  clear hg
  go_enter Tryz.func59, Tryz.ntmps59
  go_wp2
  go_ret
  exact ⟨congrArg (fun b => Ending.returned (Value.bool b)) HQ.out.symm, belt (Below.refl _ w) _⟩
/-- A block of the call's own that holds an int. -/
def NBx (W : World) (N : Nat) (n : Int) : Prop := W.heap[N]? = some (.cells #[.int .i64 n] 3 (0, 0))
theorem NBx.lt {W : World} {N : Nat} {n : Int} (h : NBx W N n) : N < W.heap.size := by
  rcases Nat.lt_or_ge N W.heap.size with h1 | h1
  · exact h1
  · unfold NBx at h; rw [Array.getElem?_eq_none h1] at h; cases h
theorem NBx.next {W W' : World} {N : Nat} {n : Int} (h : NBx W N n) (hb : Below W.heap.size W W') : NBx W' N n := (hb.block N h.lt).trans h
theorem NBx.new (w : World) (n : Int) : NBx (w.alloc (.cells #[.int .i64 n] 3)) w.heap.size n := heap_alloc_new w _
theorem NBx.cell {W : World} {N : Nat} {n : Int} (h : NBx W N n) : W.cell? ⟨N, 0, none⟩ = some (.int .i64 n) := by unfold NBx at h; rw [Lib.cell_of_heap h]; rfl
set_option maxRecDepth 20000 in
set_option maxHeartbeats 1000000 in
theorem cAt_any (x : GV) (g1 g2 : Nat) (p s : Int) (w : World) (hg1 : NBx w g1 p) (hg2 : NBx w g2 s) :
    Calls Tryz.prog 60 #[x.val, .pointer (some ⟨g1, 0, none⟩), .pointer (some ⟨g2, 0, none⟩)] w fun e w' => e = .returned (.bool (pat p s x.e)) ∧ Below w.heap.size w w' := by
  have HQ : Hid (pat p s x.e = (x.e.core == p && x.e.slot == s)) := Lib.hid rfl
  have HG1 := Lib.hid fun W (hW : Below w.heap.size w W) => hg1.next hW
  have HG2 := Lib.hid fun W (hW : Below w.heap.size w W) => hg2.next hW
  generalize pat p s x.e = q at *
  obtain ⟨⟨xc, xs, ⟨⟨i0, i1, i2⟩, xp, ⟨a0, a1, a2, a3, a4, a5, a6⟩⟩⟩, xA, xcp⟩ := x
  simp only [GV.val] at *
  have y0 := (HG1.out _ (belt (Below.refl _ w) (.cells #[.int .i64 xc, .int .i64 xs, .int .i64 i0, .int .i64 i1, .int .i64 i2, .slice xA xp.length xcp, .int .i64 a0, .int .i64 a1, .int .i64 a2, .int .i64 a3, .int .i64 a4, .int .i64 a5, .bool a6] 32))).cell
  have y1 := (HG2.out _ (belt (Below.refl _ w) (.cells #[.int .i64 xc, .int .i64 xs, .int .i64 i0, .int .i64 i1, .int .i64 i2, .slice xA xp.length xcp, .int .i64 a0, .int .i64 a1, .int .i64 a2, .int .i64 a3, .int .i64 a4, .int .i64 a5, .bool a6] 32))).cell
  clear hg1 hg2
  by_cases h5 : xc = p
  · have f5 : (p == p) = true := by simp
    subst h5
    go_enter Tryz.func60, Tryz.ntmps60
    go_wp2
    go_ret
    exact ⟨congrArg (fun b => Ending.returned (Value.bool b)) (by rw [HQ.out]; simp), belt (Below.refl _ w) _⟩
  · have f5 : (xc == p) = false := by simpa using h5
    clear h5
    go_enter Tryz.func60, Tryz.ntmps60
    go_wp2
    go_ret
    exact ⟨congrArg (fun b => Ending.returned (Value.bool b)) (by rw [HQ.out, f5]; rfl), belt (Below.refl _ w) _⟩
set_option maxRecDepth 20000 in
set_option maxHeartbeats 1000000 in
theorem cIns_any (x : GV) (g : Nat) (y : GV) (w : World) (hg : EB w g y) :
    Calls Tryz.prog 65 #[x.val, .pointer (some ⟨g, 0, none⟩)] w fun e w' => e = .returned (.bool (plt y.e.node.id x.e)) ∧ Below w.heap.size w w' := by
  have HQ : Hid (plt y.e.node.id x.e = ltI y.e.node.id x.e.node.id) := Lib.hid rfl
  have HL := Lib.hid fun W => pLess_any y.e.node.id x.e.node.id W
  have HG := Lib.hid fun W (hW : Below w.heap.size w W) => hg.next hW
  generalize plt y.e.node.id x.e = q at *
  generalize ltI y.e.node.id x.e.node.id = b at *
  obtain ⟨⟨xc, xs, ⟨⟨i0, i1, i2⟩, xp, ⟨a0, a1, a2, a3, a4, a5, a6⟩⟩⟩, xA, xcp⟩ := x
  simp only [GV.val, GId.val] at *
  have HB0 := Lib.hid (belt (Below.refl _ w) (.cells #[.int .i64 xc, .int .i64 xs, .int .i64 i0, .int .i64 i1, .int .i64 i2, .slice xA xp.length xcp, .int .i64 a0, .int .i64 a1, .int .i64 a2, .int .i64 a3, .int .i64 a4, .int .i64 a5, .bool a6] 32))
  obtain ⟨_, _, g2, g3, g4, _, _, _, _, _, _, _, _⟩ := (HG.out _ HB0.out).cells
  simp only [Nat.zero_add] at g2 g3 g4
  clear hg
  go_enter Tryz.func65, Tryz.ntmps65
  go_wp2_with fail
  go_fit (HL.out _)
  rintro e w1 ⟨rfl, hb1⟩
  have HB1 := Lib.hid (beln HB0.out hb1)
  clear hb1 g2 g3 g4
  go_wp2
  go_ret
  exact ⟨congrArg (fun b => Ending.returned (Value.bool b)) HQ.out.symm, HB1.out⟩
set_option maxRecDepth 20000 in
set_option maxHeartbeats 1000000 in
theorem idxFind_any (p : GE → Bool) (c1 : Value) (xs : List GV) (A : Option Addr) (c : Nat) (w : World) (h1 : GRow GV.cells 13 w w.heap.size A xs) (hl : xs.length ≤ 17179869184)
    (hF : ∀ W, Below w.heap.size w W → ∀ k (hk : k < xs.length), Calls Tryz.prog 59 #[xs[k].val, c1] W fun e W' => e = .returned (.bool (p xs[k].e)) ∧ Below W.heap.size W W') :
    Calls Tryz.prog 58 #[.slice A xs.length c, .func (.func 59) #[] #[c1]] w fun e w' => e = .returned (.int .i64 (fidx p (xs.map GV.e))) ∧ Below w.heap.size w w' := by
  have H1 := Lib.hid h1
  rw [fidx_map]
  have HQ1 : Hid (∀ k (hk : k < xs.length), (∀ j (hj : j < xs.length), j < k → p xs[j].e = false) → p xs[k].e = true → fidx (fun y => p y.e) xs = k) := Lib.hid fun k hk h0 h1 => fidx_found hk h0 h1
  have HQ2 : Hid ((∀ j (hj : j < xs.length), p xs[j].e = false) → fidx (fun y => p y.e) xs = -1) := Lib.hid fun h => fidx_none h
  have HF := Lib.hid hF
  generalize fidx (fun y => p y.e) xs = q at *
  clear h1 hF
  go_enter Tryz.func58, Tryz.ntmps58
  go_wp2
  go_loopw [8] (fun vi wr => ∃ k : Nat, vi = .int .i64 k ∧ k ≤ xs.length ∧ Hid (∀ j (hj : j < xs.length), j < k → p xs[j].e = false) ∧ Hid (Below w.heap.size w wr)) (fun vi _ => xs.length - (intOf vi).toNat)
  case atStart => exact ⟨0, rfl, Nat.zero_le _, Lib.hid fun j _ hj => absurd hj (by omega), Lib.hid (Below.refl _ _)⟩
  case round =>
    obtain ⟨k, rfl, hk, HT, HB⟩ := hrel
    rcases Nat.lt_or_ge k xs.length with hlt | hge
    · obtain ⟨b1, o1, rfl, hb1, ⟨x0, x1, x2, x3, x4, x5, x6, x7, x8, x9, x10, x11, x12⟩⟩ := (H1.out.next HB.out).gev hlt
      have HFK := Lib.hid (HF.out wr HB.out k hlt)
      have HPK : Hid (∀ b, p xs[k].e = b → (b = true → q = k) ∧ (b = false → ∀ j (hj : j < xs.length), j < k + 1 → p xs[j].e = false)) := Lib.hid fun b hb => ⟨fun e => HQ1.out k hlt (fun j hj hjk => HT.out j hj hjk) (by rw [hb, e]), fun e j hj hjk => by
        rcases Nat.lt_or_ge j k with h | h
        · exact HT.out j hj h
        · obtain rfl : j = k := by omega
          rw [hb, e]⟩
      unfold GV.val at HFK
      generalize p xs[k].e = b at *
      generalize xs[k] = x at *
      obtain ⟨⟨xc, xs', ⟨⟨i0, i1, i2⟩, xp, ⟨a0, a1, a2, a3, a4, a5, a6⟩⟩⟩, xA, xcp⟩ := x
      simp only at x0 x1 x2 x3 x4 x5 x6 x7 x8 x9 x10 x11 x12 HFK
      clear HT
      go_wp2_with fail
      go_fit HFK.out
      rintro e w2 ⟨rfl, hb2⟩
      have HB2 := Lib.hid (beln HB.out hb2)
      clear hb2 x0 x1 x2 x3 x4 x5 x6 x7 x8 x9 x10 x11 x12 HFK
      obtain ⟨h1, h2⟩ := HPK.out b rfl
      rcases b with _ | _
      · have HT2 := Lib.hid (h2 rfl)
        clear h1 h2 HPK
        go_wp2
        go_roundw
        case rel => exact ⟨k + 1, by go_num, by omega, HT2, HB2⟩
        case measure => simp [intOf]; omega
      · have HF2 := Lib.hid (h1 rfl)
        clear h1 h2 HPK
        go_wp2
        go_ret
        exact ⟨congrArg (fun b => Ending.returned (Value.int .i64 b)) HF2.out.symm, HB2.out⟩
    · have HF2 : Hid (q = -1) := Lib.hid (HQ2.out fun j hj => HT.out j hj (by omega))
      go_wp2
      go_ret
      exact ⟨congrArg (fun b => Ending.returned (Value.int .i64 b)) HF2.out.symm, HB.out⟩
set_option maxRecDepth 20000 in
set_option maxHeartbeats 1000000 in
theorem idxAt_any (p : GE → Bool) (c1 c2 : Value) (xs : List GV) (A : Option Addr) (c : Nat) (w : World) (h1 : GRow GV.cells 13 w w.heap.size A xs) (hl : xs.length ≤ 17179869184)
    (hF : ∀ W, Below w.heap.size w W → ∀ k (hk : k < xs.length), Calls Tryz.prog 60 #[xs[k].val, c1, c2] W fun e W' => e = .returned (.bool (p xs[k].e)) ∧ Below W.heap.size W W') :
    Calls Tryz.prog 58 #[.slice A xs.length c, .func (.func 60) #[] #[c1, c2]] w fun e w' => e = .returned (.int .i64 (fidx p (xs.map GV.e))) ∧ Below w.heap.size w w' := by
  have H1 := Lib.hid h1
  rw [fidx_map]
  have HQ1 : Hid (∀ k (hk : k < xs.length), (∀ j (hj : j < xs.length), j < k → p xs[j].e = false) → p xs[k].e = true → fidx (fun y => p y.e) xs = k) := Lib.hid fun k hk h0 h1 => fidx_found hk h0 h1
  have HQ2 : Hid ((∀ j (hj : j < xs.length), p xs[j].e = false) → fidx (fun y => p y.e) xs = -1) := Lib.hid fun h => fidx_none h
  have HF := Lib.hid hF
  generalize fidx (fun y => p y.e) xs = q at *
  clear h1 hF
  go_enter Tryz.func58, Tryz.ntmps58
  go_wp2
  go_loopw [8] (fun vi wr => ∃ k : Nat, vi = .int .i64 k ∧ k ≤ xs.length ∧ Hid (∀ j (hj : j < xs.length), j < k → p xs[j].e = false) ∧ Hid (Below w.heap.size w wr)) (fun vi _ => xs.length - (intOf vi).toNat)
  case atStart => exact ⟨0, rfl, Nat.zero_le _, Lib.hid fun j _ hj => absurd hj (by omega), Lib.hid (Below.refl _ _)⟩
  case round =>
    obtain ⟨k, rfl, hk, HT, HB⟩ := hrel
    rcases Nat.lt_or_ge k xs.length with hlt | hge
    · obtain ⟨b1, o1, rfl, hb1, ⟨x0, x1, x2, x3, x4, x5, x6, x7, x8, x9, x10, x11, x12⟩⟩ := (H1.out.next HB.out).gev hlt
      have HFK := Lib.hid (HF.out wr HB.out k hlt)
      have HPK : Hid (∀ b, p xs[k].e = b → (b = true → q = k) ∧ (b = false → ∀ j (hj : j < xs.length), j < k + 1 → p xs[j].e = false)) := Lib.hid fun b hb => ⟨fun e => HQ1.out k hlt (fun j hj hjk => HT.out j hj hjk) (by rw [hb, e]), fun e j hj hjk => by
        rcases Nat.lt_or_ge j k with h | h
        · exact HT.out j hj h
        · obtain rfl : j = k := by omega
          rw [hb, e]⟩
      unfold GV.val at HFK
      generalize p xs[k].e = b at *
      generalize xs[k] = x at *
      obtain ⟨⟨xc, xs', ⟨⟨i0, i1, i2⟩, xp, ⟨a0, a1, a2, a3, a4, a5, a6⟩⟩⟩, xA, xcp⟩ := x
      simp only at x0 x1 x2 x3 x4 x5 x6 x7 x8 x9 x10 x11 x12 HFK
      clear HT
      go_wp2_with fail
      go_fit HFK.out
      rintro e w2 ⟨rfl, hb2⟩
      have HB2 := Lib.hid (beln HB.out hb2)
      clear hb2 x0 x1 x2 x3 x4 x5 x6 x7 x8 x9 x10 x11 x12 HFK
      obtain ⟨h1, h2⟩ := HPK.out b rfl
      rcases b with _ | _
      · have HT2 := Lib.hid (h2 rfl)
        clear h1 h2 HPK
        go_wp2
        go_roundw
        case rel => exact ⟨k + 1, by go_num, by omega, HT2, HB2⟩
        case measure => simp [intOf]; omega
      · have HF2 := Lib.hid (h1 rfl)
        clear h1 h2 HPK
        go_wp2
        go_ret
        exact ⟨congrArg (fun b => Ending.returned (Value.int .i64 b)) HF2.out.symm, HB2.out⟩
    · have HF2 : Hid (q = -1) := Lib.hid (HQ2.out fun j hj => HT.out j hj (by omega))
      go_wp2
      go_ret
      exact ⟨congrArg (fun b => Ending.returned (Value.int .i64 b)) HF2.out.symm, HB.out⟩
set_option maxRecDepth 20000 in
set_option maxHeartbeats 1000000 in
theorem idxIns_any (p : GE → Bool) (c1 : Value) (xs : List GV) (A : Option Addr) (c : Nat) (w : World) (h1 : GRow GV.cells 13 w w.heap.size A xs) (hl : xs.length ≤ 17179869184)
    (hF : ∀ W, Below w.heap.size w W → ∀ k (hk : k < xs.length), Calls Tryz.prog 65 #[xs[k].val, c1] W fun e W' => e = .returned (.bool (p xs[k].e)) ∧ Below W.heap.size W W') :
    Calls Tryz.prog 58 #[.slice A xs.length c, .func (.func 65) #[] #[c1]] w fun e w' => e = .returned (.int .i64 (fidx p (xs.map GV.e))) ∧ Below w.heap.size w w' := by
  have H1 := Lib.hid h1
  rw [fidx_map]
  have HQ1 : Hid (∀ k (hk : k < xs.length), (∀ j (hj : j < xs.length), j < k → p xs[j].e = false) → p xs[k].e = true → fidx (fun y => p y.e) xs = k) := Lib.hid fun k hk h0 h1 => fidx_found hk h0 h1
  have HQ2 : Hid ((∀ j (hj : j < xs.length), p xs[j].e = false) → fidx (fun y => p y.e) xs = -1) := Lib.hid fun h => fidx_none h
  have HF := Lib.hid hF
  generalize fidx (fun y => p y.e) xs = q at *
  clear h1 hF
  go_enter Tryz.func58, Tryz.ntmps58
  go_wp2
  go_loopw [8] (fun vi wr => ∃ k : Nat, vi = .int .i64 k ∧ k ≤ xs.length ∧ Hid (∀ j (hj : j < xs.length), j < k → p xs[j].e = false) ∧ Hid (Below w.heap.size w wr)) (fun vi _ => xs.length - (intOf vi).toNat)
  case atStart => exact ⟨0, rfl, Nat.zero_le _, Lib.hid fun j _ hj => absurd hj (by omega), Lib.hid (Below.refl _ _)⟩
  case round =>
    obtain ⟨k, rfl, hk, HT, HB⟩ := hrel
    rcases Nat.lt_or_ge k xs.length with hlt | hge
    · obtain ⟨b1, o1, rfl, hb1, ⟨x0, x1, x2, x3, x4, x5, x6, x7, x8, x9, x10, x11, x12⟩⟩ := (H1.out.next HB.out).gev hlt
      have HFK := Lib.hid (HF.out wr HB.out k hlt)
      have HPK : Hid (∀ b, p xs[k].e = b → (b = true → q = k) ∧ (b = false → ∀ j (hj : j < xs.length), j < k + 1 → p xs[j].e = false)) := Lib.hid fun b hb => ⟨fun e => HQ1.out k hlt (fun j hj hjk => HT.out j hj hjk) (by rw [hb, e]), fun e j hj hjk => by
        rcases Nat.lt_or_ge j k with h | h
        · exact HT.out j hj h
        · obtain rfl : j = k := by omega
          rw [hb, e]⟩
      unfold GV.val at HFK
      generalize p xs[k].e = b at *
      generalize xs[k] = x at *
      obtain ⟨⟨xc, xs', ⟨⟨i0, i1, i2⟩, xp, ⟨a0, a1, a2, a3, a4, a5, a6⟩⟩⟩, xA, xcp⟩ := x
      simp only at x0 x1 x2 x3 x4 x5 x6 x7 x8 x9 x10 x11 x12 HFK
      clear HT
      go_wp2_with fail
      go_fit HFK.out
      rintro e w2 ⟨rfl, hb2⟩
      have HB2 := Lib.hid (beln HB.out hb2)
      clear hb2 x0 x1 x2 x3 x4 x5 x6 x7 x8 x9 x10 x11 x12 HFK
      obtain ⟨h1, h2⟩ := HPK.out b rfl
      rcases b with _ | _
      · have HT2 := Lib.hid (h2 rfl)
        clear h1 h2 HPK
        go_wp2
        go_roundw
        case rel => exact ⟨k + 1, by go_num, by omega, HT2, HB2⟩
        case measure => simp [intOf]; omega
      · have HF2 := Lib.hid (h1 rfl)
        clear h1 h2 HPK
        go_wp2
        go_ret
        exact ⟨congrArg (fun b => Ending.returned (Value.int .i64 b)) HF2.out.symm, HB2.out⟩
    · have HF2 : Hid (q = -1) := Lib.hid (HQ2.out fun j hj => HT.out j hj (by omega))
      go_wp2
      go_ret
      exact ⟨congrArg (fun b => Ending.returned (Value.int .i64 b)) HF2.out.symm, HB.out⟩

theorem pFound_any (r : Int) (w : World) : Calls Tryz.prog 57 #[.int .i64 r] w fun e w' => e = .returned (.tuple #[.int .i64 (max r 0), .bool (decide (0 ≤ r))]) ∧ w' = w := by
  rcases Int.lt_or_le r 0 with h | h
  · have hm : max r 0 = 0 := by omega
    have hd : decide (0 ≤ r) = false := by simp; omega
    rw [hm]
    go_enter Tryz.func57, Tryz.ntmps57
    go_wp2
    refine bodyPost_ret (v := .tuple #[.int .i64 0, .bool false]) (by simp [results, Tryz.results57, go_sem]) rfl ?_
    exact ⟨by first | rw [hd] | rfl, rfl⟩
  · have hm : max r 0 = r := by omega
    have hd : decide (0 ≤ r) = true := by simp; omega
    rw [hm]
    go_enter Tryz.func57, Tryz.ntmps57
    go_wp2
    refine bodyPost_ret (v := .tuple #[.int .i64 r, .bool true]) (by simp [results, Tryz.results57, go_sem]) rfl ?_
    exact ⟨by first | rw [hd] | rfl, rfl⟩
def findV (r : Int) : Value := .tuple #[.int .i64 (max r 0), .bool (decide (0 ≤ r))]
set_option maxRecDepth 20000 in
set_option maxHeartbeats 1000000 in
theorem pFindE_any (xs : List GV) (A : Option Addr) (c : Nat) (i : GId) (w : World) (h1 : GRow GV.cells 13 w w.heap.size A xs) (hl : xs.length ≤ 17179869184) :
    Calls Tryz.prog 20 #[.slice A xs.length c, i.val] w fun e w' => e = .returned (findV (fidx (pid i) (xs.map GV.e))) ∧ Below w.heap.size w w' := by
  have HI := Lib.hid fun W (hW : Below w.heap.size w W) (hg : IB W w.heap.size i) => idxFind_any (pid i) (.pointer (some ⟨w.heap.size, 0, none⟩)) xs A c W (h1.next hW) hl fun W' hW' k hk => cFind_any xs[k] _ i W' (hg.next hW')
  have HN := Lib.hid (IB.new w i)
  have HB0 := Lib.hid (belt (Below.refl _ w) (.cells #[.int .i64 i.core, .int .i64 i.op, .int .i64 i.part] 25))
  have HFD := Lib.hid fun r W => pFound_any r W
  unfold findV
  generalize fidx (pid i) (xs.map GV.e) = q at *
  clear h1
  obtain ⟨j0, j1, j2⟩ := i
  simp only [GId.val] at *
  go_enter Tryz.func20, Tryz.ntmps20
  go_wp2_with fail
  go_fit (HI.out _ HB0.out HN.out)
  rintro e w1 ⟨rfl, hb1⟩
  have HB1 := Lib.hid (beln HB0.out hb1)
  clear hb1 HI HN HB0
  go_wp2_with fail
  go_fit (HFD.out _ _)
  rintro e w2 ⟨rfl, rfl⟩
  go_wp2
  refine bodyPost_ret (v := .tuple #[.int .i64 (max q 0), .bool (decide (0 ≤ q))]) (by simp [results, Tryz.results20, go_sem]) rfl ?_
  exact ⟨rfl, HB1.out⟩
set_option maxRecDepth 20000 in
set_option maxHeartbeats 1000000 in
theorem pAtE_any (xs : List GV) (A : Option Addr) (c : Nat) (p s : Int) (w : World) (h1 : GRow GV.cells 13 w w.heap.size A xs) (hl : xs.length ≤ 17179869184) :
    Calls Tryz.prog 21 #[.slice A xs.length c, .int .i64 p, .int .i64 s] w fun e w' => e = .returned (findV (fidx (pat p s) (xs.map GV.e))) ∧ Below w.heap.size w w' := by
  have HI := Lib.hid fun W (hW : Below w.heap.size w W) (hg1 : NBx W w.heap.size p) (hg2 : NBx W (w.heap.size + 1) s) => idxAt_any (pat p s) (.pointer (some ⟨w.heap.size, 0, none⟩)) (.pointer (some ⟨w.heap.size + 1, 0, none⟩)) xs A c W (h1.next hW) hl fun W' hW' k hk => cAt_any xs[k] _ _ p s W' (hg1.next hW') (hg2.next hW')
  have HN1 := Lib.hid ((NBx.new w p).next (belt (Below.refl _ _) (.cells #[.int .i64 s] 3)))
  have HN2 := Lib.hid (NBx.new (w.alloc (.cells #[.int .i64 p] 3)) s)
  simp only [World.size_alloc] at HN2
  have HB0 := Lib.hid (belt (belt (Below.refl _ w) (.cells #[.int .i64 p] 3)) (.cells #[.int .i64 s] 3))
  have HFD := Lib.hid fun r W => pFound_any r W
  unfold findV
  generalize fidx (pat p s) (xs.map GV.e) = q at *
  clear h1
  go_enter Tryz.func21, Tryz.ntmps21
  go_wp2_with fail
  go_fit (HI.out _ HB0.out HN1.out HN2.out)
  rintro e w1 ⟨rfl, hb1⟩
  have HB1 := Lib.hid (beln HB0.out hb1)
  clear hb1 HI HN1 HN2 HB0
  go_wp2_with fail
  go_fit (HFD.out _ _)
  rintro e w2 ⟨rfl, rfl⟩
  go_wp2
  refine bodyPost_ret (v := .tuple #[.int .i64 (max q 0), .bool (decide (0 ≤ q))]) (by simp [results, Tryz.results21, go_sem]) rfl ?_
  exact ⟨rfl, HB1.out⟩
end Go.Proofs.YtndppbfdcceflaaGreatDoor


namespace Go.Proofs.YtndppbfdcceflaaGreatDoor
open Go.RowKit

section
variable {α : Type} {enc : α → List Value} {m : Nat} {T : TypeId}
theorem gcells_set1 (hk : ∀ x, (enc x).length = m) : ∀ (l : List α) (i : Nat) (hi : i < l.length) (x : α) (j : Nat) (u : Value), j < m → enc x = (enc l[i]).set j u → (gcells enc l).set (i * m + j) u = gcells enc (l.set i x)
  | [], i, hi, _, _, _, _, _ => absurd hi (by simp)
  | y :: r, 0, _, x, j, u, hj, he => by
    show (enc y ++ gcells enc r).set (0 * m + j) u = enc x ++ gcells enc r
    rw [List.set_append, if_pos (by rw [hk]; omega)]
    congr 1
    rw [he]
    simp
  | y :: r, i + 1, hi, x, j, u, hj, he => by
    show (enc y ++ gcells enc r).set ((i + 1) * m + j) u = enc y ++ gcells enc (r.set i x)
    have e1 : (i + 1) * m = i * m + m := Nat.succ_mul i m
    rw [List.set_append, if_neg (by rw [hk]; omega)]
    congr 1
    rw [hk, show (i + 1) * m + j - m = i * m + j by omega]
    exact gcells_set1 hk r i (by simpa using hi) x j u hj (by simpa using he)
theorem take_setZ (l : List Value) (n t : Nat) (v : Value) : (l.set t v).take n = (l.take n).set t v := by
  refine List.ext_getElem? fun j => ?_
  rw [List.getElem?_set, List.getElem?_take, List.getElem?_take, List.getElem?_set, List.length_take]
  by_cases hj : j < n
  · simp only [hj, if_true]
    by_cases ht : t = j
    · subst ht
      by_cases hl : t < l.length
      · simp [hl]; omega
      · simp [hl]; omega
    · simp [ht]
  · simp only [hj, if_false]
    by_cases ht : t = j
    · subst ht; simp; omega
    · simp [ht]
theorem set_heapZ {w : World} {g t : Nat} {v : Value} {cur : Array Value} (hh : w.heap[g]? = some (.cells cur T (0, 0))) : (w.setCell ⟨g, t, none⟩ v).heap[g]? = some (.cells (cur.set! t v) T (0, 0)) := by
  simp [World.setCell, Array.getElem?_modify, hh]
/-- One cell of an element is stored anew. -/
theorem OwnG.set1 (hk : ∀ x, (enc x).length = m) {w : World} {base g cap n : Nat} {l : List α} (h : OwnG enc T m w base (.slice (some ⟨g, 0, none⟩) n cap) l) {i : Nat} (hi : i < l.length) (x : α) {j : Nat} (hj : j < m) (u : Value) (he : enc x = (enc l[i]).set j u) :
    OwnG enc T m (w.setCell ⟨g, i * m + j, none⟩ u) base (.slice (some ⟨g, 0, none⟩) n cap) (l.set i x) := by
  refine ⟨gcells_len hk _, ?_⟩
  rcases h.2 with ⟨hh, _⟩ | ⟨g', cap', cur, e, hb, hh, hn', hm, hs, ht⟩
  · cases hh
  · cases e
    refine .inr ⟨g, cap, _, by rw [List.length_set], hb, set_heapZ hh, by rw [List.length_set]; exact hn', hm, by simp [hs], ?_⟩
    rw [List.length_set, ← gcells_set1 hk l i hi x j u hj he, ← ht]
    simp [take_setZ]
end
theorem PW.setCell {w : World} {x : GV} (h : PW w w.heap.size x) {g n c : Nat} (ha : Apart (.slice (some ⟨g, 0, none⟩) n c) x) (j : Nat) (u : Value) : PW (w.setCell ⟨g, j, none⟩ u) (w.setCell ⟨g, j, none⟩ u).heap.size x := by
  refine ⟨fun h0 => ?_, h.2⟩
  obtain ⟨b, o, e, hb, hc⟩ := h.1 h0
  have hne := ha h0 g b o rfl e
  refine ⟨b, o, e, by simpa using hb, fun i hi j' u' hu => ?_⟩
  rw [World.cell?_of_block (a := ⟨b, o + (i * 3 + j'), none⟩) (Below.heap_setCell w ⟨g, j, none⟩ u b hne)]
  exact hc i hi j' u' hu
/-- A path is stored into an entry of the call's own. -/
theorem EOwn.setPath {w : World} {base g cap n : Nat} {xs : List GV} (h : EOwn w base (.slice (some ⟨g, 0, none⟩) n cap) xs) {i : Nat} (hi : i < xs.length) {A' : Option Addr} {c' : Nat} (hp : PW w w.heap.size ⟨xs[i].e, A', c'⟩) (ha : Apart (.slice (some ⟨g, 0, none⟩) n cap) ⟨xs[i].e, A', c'⟩) :
    EOwn (w.setCell ⟨g, i * 13 + 5, none⟩ (.slice A' xs[i].e.node.path.length c')) base (.slice (some ⟨g, 0, none⟩) n cap) (xs.set i ⟨xs[i].e, A', c'⟩) := by
  have hall : ∀ y ∈ xs.set i ⟨xs[i].e, A', c'⟩, PW w w.heap.size y ∧ Apart (.slice (some ⟨g, 0, none⟩) n cap) y := fun y hy => by
    rcases List.mem_or_eq_of_mem_set hy with h1 | rfl
    · exact ⟨h.pth y h1, h.apt y h1⟩
    · exact ⟨hp, ha⟩
  exact ⟨OwnG.set1 GV.len h.own hi ⟨xs[i].e, A', c'⟩ (j := 5) (by decide) _ rfl, fun y hy => (hall y hy).1.setCell (hall y hy).2 _ _, fun y hy => (hall y hy).2⟩
theorem map_setPath (xs : List GV) {i : Nat} (hi : i < xs.length) (A' : Option Addr) (c' : Nat) : (xs.set i ⟨xs[i].e, A', c'⟩).map GV.e = xs.map GV.e := by
  rw [List.map_set]
  refine List.ext_getElem (by simp) fun j h1 h2 => ?_
  rw [List.getElem_set]
  split
  · subst_vars; simp
  · rfl
theorem nil_noZ (T : TypeId) (ad : Addr) (n c : Nat) (e : TypeId) (hT : Tryz.prog.underlying T = some (.slice e)) (W : World) : (binOp .eql T (.slice (some ad) n c) (.slice none 0 0)).run Tryz.prog W = .ok (.bool false) W := by
  rw [Lib.run_eql_slice_nil W T e _ _ _ _ _ hT]; rfl
theorem nil_yesZ (T : TypeId) (n c : Nat) (e : TypeId) (hT : Tryz.prog.underlying T = some (.slice e)) (W : World) : (binOp .eql T (.slice none n c) (.slice none 0 0)).run Tryz.prog W = .ok (.bool true) W := by
  rw [Lib.run_eql_slice_nil W T e _ _ _ _ _ hT]; rfl
def ClnEnd (xs : List GId) (w : World) (e : Ending) (w' : World) : Prop := ∃ A' c', e = .returned (.slice A' xs.length c') ∧ xs.length ≤ c' ∧ OwnG GId.cells 25 3 w' w.heap.size (.slice A' xs.length c') xs ∧ Below w.heap.size w w'
set_option maxRecDepth 20000 in
set_option maxHeartbeats 1000000 in
theorem pCln_any (xs : List GId) (A : Option Addr) (c : Nat) (w : World) (h1 : PRow w w.heap.size A xs) (hl : xs.length ≤ 17179869184) :
    Calls Tryz.prog 107 #[.slice A xs.length c] w (ClnEnd xs w) := by
  rcases A with _ | ad
  · have h0 : xs = [] := by
      cases xs with
      | nil => rfl
      | cons x r => obtain ⟨b, off, hA, _⟩ := h1 (by simp); cases hA
    subst h0
    have HEND : Hid (∀ W, Below w.heap.size w W → ClnEnd [] w (.returned (.slice none 0 0)) W) := Lib.hid fun W hW => ⟨none, 0, rfl, Nat.le_refl _, OwnG.nil _ _, hW⟩
    generalize ClnEnd [] w = EE at *
    clear h1 hl
    have hq := nil_yesZ 26 0 c _ Tryz.underlying26
    simp only [List.length_nil]
    go_enter Tryz.func107, Tryz.ntmps107
    go_wp2
    exact HEND.out _ (Below.refl _ _)
  · have hlit := OwnG.lit GId.len w w.heap.size (T := 25) [] #[] rfl (Nat.le_refl _) (by unfold maxLen; simp)
    obtain ⟨v', w', hrun, hown, hg, _⟩ := OwnG.app elt_id GId.len GId.one hlit c (h1.next (belt (Below.refl _ w) (.cells #[] 25))) (by simp) (by unfold maxLen; simp; omega) (by simp; omega)
    rw [List.nil_append] at hown
    obtain ⟨A', c', rfl, hc', _, _⟩ := hown.row GId.len
    have HRUN := Lib.hid hrun
    have HEND : Hid (ClnEnd xs w (.returned (.slice A' xs.length c')) w') := Lib.hid ⟨A', c', rfl, hc', hown, (belt (Below.refl _ w) _).grown hg (by simp) (fun g e => (hlit.lt g e).1)⟩
    generalize ClnEnd xs w = EE at *
    clear hlit hrun hown hg h1 hc'
    simp only [List.length_nil] at HRUN
    generalize xs.length = n at *
    have hq := nil_noZ 26 ad n c _ Tryz.underlying26
    go_enter Tryz.func107, Tryz.ntmps107
    go_wp2_with (at_builtin; refine wpList_gapp HRUN.out rfl rfl rfl rfl rfl ?_)
    exact HEND.out
theorem EOwn.some {w : World} {base c : Nat} {A : Option Addr} {n : Nat} {xs : List GV} (h : EOwn w base (.slice A n c) xs) (h0 : 0 < xs.length) : ∃ g cur, A = some ⟨g, 0, none⟩ ∧ base ≤ g ∧ w.heap[g]? = some (.cells cur 32 (0, 0)) := by
  rcases h.own.2 with ⟨hv, hn⟩ | ⟨g, cap, cur, hv, hb, hh, _⟩
  · omega
  · cases hv
    exact ⟨g, cur, rfl, hb, hh⟩
set_option maxRecDepth 20000 in
set_option maxHeartbeats 1000000 in
theorem pOwn_any (xs : List GV) (A : Option Addr) (c base : Nat) (w : World) (h : EOwn w base (.slice A xs.length c) xs) (hb : base ≤ w.heap.size) (hl : xs.length ≤ 900000) (hp : ∀ x ∈ xs, x.e.node.path.length ≤ 17179869184) :
    Calls Tryz.prog 67 #[.slice A xs.length c] w fun e w' => e = .returned (.slice A xs.length c) ∧ ∃ ys, EOwn w' base (.slice A xs.length c) ys ∧ ys.map GV.e = xs.map GV.e ∧ Below base w w' := by
  have HO0 := Lib.hid h
  have HBS := Lib.hid hb
  have HPL : Hid (∀ e ∈ xs.map GV.e, e.node.path.length ≤ 17179869184) := Lib.hid fun e he => by
    obtain ⟨x, hx, rfl⟩ := List.mem_map.1 he
    exact hp x hx
  clear h hp hb
  generalize hm : xs.map GV.e = es at *
  have HM : Hid (es.length = xs.length) := Lib.hid (by rw [← hm]; simp)
  have HM0 := Lib.hid hm
  clear hm
  generalize hn : xs.length = n at *
  clear hn
  go_enter Tryz.func67, Tryz.ntmps67
  go_wp2
  go_loopw [6] (fun vi wr => ∃ (k : Nat) (ys : List GV), vi = .int .i64 k ∧ k ≤ n ∧ Hid (ys.map GV.e = es) ∧ Hid (EOwn wr base (.slice A n c) ys) ∧ Hid (Below base w wr)) (fun vi _ => n - (intOf vi).toNat)
  case atStart => exact ⟨0, xs, rfl, Nat.zero_le _, HM0, HO0, Lib.hid (Below.refl _ _)⟩
  case round =>
    obtain ⟨k, ys, rfl, hk, HT, HO, HB⟩ := hrel
    have HYL : Hid (ys.length = n) := Lib.hid (by have := congrArg List.length HT.out; have := HM.out; simp at *; omega)
    rcases Nat.lt_or_ge k n with hlt | hge
    · have hk2 : k < ys.length := by have := HYL.out; omega
      obtain ⟨g, cur, rfl, hgb, hgc⟩ := HO.out.some (by omega)
      have hgl : g < wr.heap.size := by
        rcases Nat.lt_or_ge g wr.heap.size with h1 | h1
        · exact h1
        · rw [Array.getElem?_eq_none h1] at hgc; cases hgc
      obtain ⟨b1, o1, e1, hb1, ⟨x0, x1, x2, x3, x4, x5, x6, x7, x8, x9, x10, x11, x12⟩⟩ := (HO.out.own.rowAt GV.len).2.gev hk2
      cases e1
      simp only [Nat.zero_add] at x5
      have HPX := Lib.hid (HO.out.pth _ (List.getElem_mem hk2))
      have HLX : Hid (ys[k].e.node.path.length ≤ 17179869184) := Lib.hid (HPL.out _ (by rw [← HT.out]; exact List.mem_map_of_mem (List.getElem_mem hk2)))
      have HCL := Lib.hid (pCln_any ys[k].e.node.path ys[k].A ys[k].c wr HPX.out.1 HLX.out)
      have HSP : Hid (∀ W A' c', Below wr.heap.size wr W → ys[k].e.node.path.length ≤ c' → OwnG GId.cells 25 3 W wr.heap.size (.slice A' ys[k].e.node.path.length c') ys[k].e.node.path → EOwn (W.setCell ⟨g, k * 13 + 5, none⟩ (.slice A' ys[k].e.node.path.length c')) base (.slice (some ⟨g, 0, none⟩) n c) (ys.set k ⟨ys[k].e, A', c'⟩)) := Lib.hid fun W A' c' hW hc' hown => EOwn.setPath (HO.out.next hW) hk2 (PW.own hown hc') (Apart.fresh HO.out.own hown)
      have HMS : Hid (∀ A' c', (ys.set k ⟨ys[k].e, A', c'⟩).map GV.e = es) := Lib.hid fun A' c' => by rw [map_setPath ys hk2, HT.out]
      have HBW : Hid (∀ W u, Below wr.heap.size wr W → Below base w (W.setCell ⟨g, k * 13 + 5, none⟩ u)) := Lib.hid fun W u hW => (HB.out.trans (hW.mono (Nat.le_trans HBS.out HB.out.size))).setCell (p := ⟨g, k * 13 + 5, none⟩) hgb u
      have HCE : Hid (∀ W, Below wr.heap.size wr W → (W.cell? ⟨g, k * 13 + 5, none⟩ = some (.slice ys[k].A ys[k].e.node.path.length ys[k].c)) ∧ W.frozen? ⟨g, k * 13 + 5, none⟩ = false) := Lib.hid fun W hW => ⟨(hW.cell (p := ⟨g, k * 13 + 5, none⟩) hgl).trans x5, Lib.frozen_of_heap ((hW.block g hgl).trans hgc) _⟩
      unfold ClnEnd at HCL
      generalize ys[k].e.node.path = xp at *
      generalize ys[k].A = xA at *
      generalize ys[k].c = xcp at *
      clear x0 x1 x2 x3 x4 x6 x7 x8 x9 x10 x11 x12 hgc HPX
      go_wp2_with fail
      go_fit HCL.out
      rintro e w2 ⟨A2, c2, rfl, hc2, ho2, hb2⟩
      have HB2 := Lib.hid hb2
      obtain ⟨y5, yf⟩ := HCE.out _ hb2
      have HSO := Lib.hid (HSP.out _ _ _ hb2 hc2 ho2)
      have HBO := Lib.hid (HBW.out _ (.slice A2 xp.length c2) hb2)
      clear hc2 ho2 hb2 x5 HCL HSP
      go_wp2
      generalize w2.setCell ⟨g, k * 13 + 5, none⟩ (.slice A2 xp.length c2) = w3 at *
      go_roundw
      case rel => exact ⟨k + 1, _, by go_num, by omega, Lib.hid (HMS.out _ _), HSO, HBO⟩
      case measure => simp [intOf]; omega
    · have HF : Hid (∃ ys, EOwn wr base (.slice A n c) ys ∧ ys.map GV.e = es ∧ Below base w wr) := Lib.hid ⟨ys, HO.out, HT.out, HB.out⟩
      go_wp2
      go_ret
      exact ⟨rfl, HF.out⟩
/-- What is left of a list when elements are dropped by their index. -/
def keepN (p : Nat → Bool) (es : List GE) : Nat → List GE
  | 0 => []
  | k + 1 => keepN p es k ++ if p k then [] else (es[k]?).toList
theorem keepN_succ (p : Nat → Bool) (xs : List GV) {k : Nat} (hk : k < xs.length) : keepN p (xs.map GV.e) (k + 1) = keepN p (xs.map GV.e) k ++ if p k then [] else [xs[k].e] := by
  rw [keepN, List.getElem?_eq_getElem (by simpa using hk)]
  simp
theorem keepN_len (p : Nat → Bool) (es : List GE) : ∀ k, (keepN p es k).length ≤ k
  | 0 => by simp [keepN]
  | k + 1 => by
    have := keepN_len p es k
    rw [keepN, List.length_append]
    split
    · simp; omega
    · cases es[k]? <;> simp <;> omega
theorem keepN_mem (p : Nat → Bool) (es : List GE) : ∀ k, ∀ e ∈ keepN p es k, e ∈ es
  | 0, e, he => by simp [keepN] at he
  | k + 1, e, he => by
    rw [keepN, List.mem_append] at he
    rcases he with he | he
    · exact keepN_mem p es k e he
    · split at he
      · cases he
      · cases h : es[k]? with
        | none => rw [h] at he; cases he
        | some z =>
          rw [h] at he
          simp at he
          subst he
          exact List.mem_of_getElem? h
theorem keepN_filter (q : GE → Bool) (es : List GE) (p : Nat → Bool) (hp : ∀ k (hk : k < es.length), p k = q es[k]) : ∀ k, k ≤ es.length → keepN p es k = (es.take k).filter fun e => !q e
  | 0, _ => by simp [keepN]
  | k + 1, hk => by
    have h1 := hp k (by omega)
    rw [keepN, keepN_filter q es p hp k (by omega), List.take_succ_eq_append_getElem (by omega), List.filter_append, List.getElem?_eq_getElem (by omega)]
    rw [h1]
    cases h2 : q (es[k]'(by omega)) <;> simp [h2]
theorem keepN_one (es : List GE) (i : Nat) (p : Nat → Bool) (hp : ∀ k, k < es.length → p k = decide (k = i)) : ∀ k, k ≤ es.length → keepN p es k = if k ≤ i then es.take k else es.take i ++ (es.take k).drop (i + 1)
  | 0, _ => by simp [keepN]
  | k + 1, hk => by
    have h1 := hp k (by omega)
    rw [keepN, keepN_one es i p hp k (by omega), List.take_succ_eq_append_getElem (by omega : k < es.length), List.getElem?_eq_getElem (by omega : k < es.length)]
    rcases Nat.lt_trichotomy k i with h | h | h
    · rw [if_pos (show k ≤ i by omega), if_pos (show k + 1 ≤ i by omega)]
      have : decide (k = i) = false := by simp; omega
      rw [h1, this]; simp
    · subst h
      rw [if_pos (Nat.le_refl _), if_neg (show ¬ k + 1 ≤ k by omega), h1]
      simp
    · rw [if_neg (show ¬ k ≤ i by omega), if_neg (show ¬ k + 1 ≤ i by omega)]
      have : decide (k = i) = false := by simp; omega
      rw [h1, this, List.drop_append_of_le_length (by rw [List.length_take]; omega)]
      simp
set_option maxRecDepth 20000 in
set_option maxHeartbeats 1000000 in
theorem wthRem_any (p : Nat → Bool) (c1 : Value) (xs : List GV) (A : Option Addr) (c : Nat) (w : World) (h1 : ERow w w.heap.size A xs) (hl : xs.length ≤ 100000) (hp : ∀ x ∈ xs, x.e.node.path.length ≤ 17179869184)
    (hF : ∀ W, Below w.heap.size w W → ∀ k, k < xs.length → Calls Tryz.prog 70 #[.int .i64 k, c1] W fun e W' => e = .returned (.bool (p k)) ∧ Below W.heap.size W W') :
    Calls Tryz.prog 69 #[.slice A xs.length c, .func (.func 70) #[] #[c1]] w (EsEnd (keepN p (xs.map GV.e) xs.length) w) := by
  have H1 := Lib.hid h1
  have HF := Lib.hid hF
  have HSTEP : Hid (∀ k (hk : k < xs.length), keepN p (xs.map GV.e) (k + 1) = keepN p (xs.map GV.e) k ++ if p k then [] else [xs[k].e]) := Lib.hid fun k hk => keepN_succ p xs hk
  have HKL : Hid (∀ k, (keepN p (xs.map GV.e) k).length ≤ k) := Lib.hid fun k => keepN_len p _ k
  have HMEM : Hid (∀ k, ∀ e ∈ keepN p (xs.map GV.e) k, e.node.path.length ≤ 17179869184) := Lib.hid fun k e he => by
    obtain ⟨x, hx, rfl⟩ := List.mem_map.1 (keepN_mem p _ k e he)
    exact hp x hx
  have HEND : Hid (∀ v ys W, EOwn W w.heap.size v ys → ys.map GV.e = keepN p (xs.map GV.e) xs.length → Below w.heap.size w W → EsEnd (keepN p (xs.map GV.e) xs.length) w (.returned v) W) := Lib.hid fun v ys W h1 h2 h3 => ⟨v, ys, rfl, h1, h2, h3⟩
  generalize EsEnd (keepN p (xs.map GV.e) xs.length) w = EE at *
  clear h1 hF hp
  go_enter Tryz.func69, Tryz.ntmps69
  go_wp2
  go_loopw [5, 10] (fun v5 vi wr => ∃ (k : Nat) (ys : List GV), vi = .int .i64 k ∧ k ≤ xs.length ∧ Hid (ys.map GV.e = keepN p (xs.map GV.e) k) ∧ Hid (EOwn wr w.heap.size v5 ys) ∧ Hid (Below w.heap.size w wr)) (fun _ vi _ => xs.length - (intOf vi).toNat)
  case atStart => exact ⟨0, [], rfl, Nat.zero_le _, Lib.hid rfl, Lib.hid (EOwn.nil _ _), Lib.hid (Below.refl _ _)⟩
  case round =>
    obtain ⟨k, ys, rfl, hk, HT, HO, HB⟩ := hrel
    have HYL : Hid (ys.length ≤ k) := Lib.hid (by have := congrArg List.length HT.out; have := HKL.out k; simp at *; omega)
    rcases Nat.lt_or_ge k xs.length with hlt | hge
    · obtain ⟨An, cn, rfl, hcn, hmn, hrn⟩ := HO.out.erow
      clear hcn hmn hrn
      obtain ⟨b1, o1, rfl, hb1, ⟨x0, x1, x2, x3, x4, x5, x6, x7, x8, x9, x10, x11, x12⟩⟩ := (H1.out.next HB.out).row.gev hlt
      have HST := Lib.hid (HSTEP.out k hlt)
      have HPX := Lib.hid (H1.out.pth _ (List.getElem_mem hlt))
      have HFK := Lib.hid fun W hW => HF.out W hW k hlt
      generalize p k = b at *
      generalize xs[k] = x at *
      obtain ⟨⟨xc, xs', ⟨⟨i0, i1, i2⟩, xp, ⟨a0, a1, a2, a3, a4, a5, a6⟩⟩⟩, xA, xcp⟩ := x
      simp only at x0 x1 x2 x3 x4 x5 x6 x7 x8 x9 x10 x11 x12
      have HBX := Lib.hid (belt HB.out (.cells #[.int .i64 xc, .int .i64 xs', .int .i64 i0, .int .i64 i1, .int .i64 i2, .slice xA xp.length xcp, .int .i64 a0, .int .i64 a1, .int .i64 a2, .int .i64 a3, .int .i64 a4, .int .i64 a5, .bool a6] 32))
      have HEB := Lib.hid (EB.new wr ⟨⟨xc, xs', ⟨⟨i0, i1, i2⟩, xp, ⟨a0, a1, a2, a3, a4, a5, a6⟩⟩⟩, xA, xcp⟩)
      have HO1 := Lib.hid (HO.out.alloc (.cells #[.int .i64 xc, .int .i64 xs', .int .i64 i0, .int .i64 i1, .int .i64 i2, .slice xA xp.length xcp, .int .i64 a0, .int .i64 a1, .int .i64 a2, .int .i64 a3, .int .i64 a4, .int .i64 a5, .bool a6] 32))
      simp only at HEB
      go_wp2_with fail
      go_fit (HFK.out _ HBX.out)
      rintro e w2 ⟨rfl, hb2⟩
      have HB2 := Lib.hid (beln HBX.out hb2)
      have HE2 := Lib.hid (HEB.out.next hb2)
      have HO2 := Lib.hid (HO1.out.next hb2)
      clear hb2 x0 x1 x2 x3 x4 x5 x6 x7 x8 x9 x10 x11 x12 HFK HEB HO1 HBX
      rcases b with _ | _
      · have hpw : PW w w.heap.size ⟨⟨xc, xs', ⟨⟨i0, i1, i2⟩, xp, ⟨a0, a1, a2, a3, a4, a5, a6⟩⟩⟩, xA, xcp⟩ := HPX.out
        have hap : Apart (.slice An ys.length cn) ⟨⟨xc, xs', ⟨⟨i0, i1, i2⟩, xp, ⟨a0, a1, a2, a3, a4, a5, a6⟩⟩⟩, xA, xcp⟩ := Apart.below HO2.out.own hpw
        have hp2 : PW w2 w2.heap.size ⟨⟨xc, xs', ⟨⟨i0, i1, i2⟩, xp, ⟨a0, a1, a2, a3, a4, a5, a6⟩⟩⟩, xA, xcp⟩ := hpw.next HB2.out
        obtain ⟨v9, w9, hrun9, hown9, hb9⟩ := EOwn.snoc HO2.out HB2.out _ hp2 hap (by have := HYL.out; omega)
        simp only at hrun9
        have HRUN := Lib.hid hrun9
        have HB9 := Lib.hid hb9
        have HO9 := Lib.hid hown9
        have HT9 : Hid ((ys ++ [(⟨⟨xc, xs', ⟨⟨i0, i1, i2⟩, xp, ⟨a0, a1, a2, a3, a4, a5, a6⟩⟩⟩, xA, xcp⟩ : GV)]).map GV.e = keepN p (xs.map GV.e) (k + 1)) := Lib.hid (by rw [HST.out, List.map_append, HT.out]; rfl)
        obtain ⟨z0, z1, z2, z3, z4, z5, z6, z7, z8, z9, z10, z11, z12⟩ := HE2.out.cells
        simp only [Nat.zero_add] at z0 z1 z2 z3 z4 z5 z6 z7 z8 z9 z10 z11 z12
        clear hrun9 hown9 hb9 hap hpw hp2 HPX
        go_wp2_with (at_builtin; refine wpList_gapp HRUN.out rfl rfl rfl rfl rfl ?_)
        go_roundw
        case rel => exact ⟨k + 1, _, by go_num, by omega, HT9, HO9, HB9⟩
        case measure => simp [intOf]; omega
      · have HT9 : Hid (ys.map GV.e = keepN p (xs.map GV.e) (k + 1)) := Lib.hid (by rw [HST.out, HT.out]; simp)
        clear HPX
        go_wp2
        go_roundw
        case rel => exact ⟨k + 1, _, by go_num, by omega, HT9, HO2, HB2⟩
        case measure => simp [intOf]; omega
    · obtain rfl : k = xs.length := by omega
      obtain ⟨An, cn, rfl, hcn, hmn, hrn⟩ := HO.out.erow
      have HPY : Hid (∀ y ∈ ys, y.e.node.path.length ≤ 17179869184) := Lib.hid fun y hy => HMEM.out _ _ (by rw [← HT.out]; exact List.mem_map_of_mem hy)
      have HOW := Lib.hid (pOwn_any ys An cn w.heap.size wr HO.out HB.out.size (by have := HYL.out; omega) HPY.out)
      clear hcn hmn hrn hk hge
      go_wp2_with fail
      go_fit HOW.out
      rintro e w2 ⟨rfl, zs, ho2, hm2, hb2⟩
      have HO2 := Lib.hid ho2
      have HM2 := Lib.hid hm2
      have HB2 := Lib.hid (HB.out.trans hb2)
      clear ho2 hm2 hb2 HOW
      go_wp2
      exact HEND.out _ _ _ HO2.out (by rw [HM2.out, HT.out]) HB2.out
set_option maxRecDepth 20000 in
set_option maxHeartbeats 1000000 in
theorem wthPrn_any (p : Nat → Bool) (c1 c2 : Value) (xs : List GV) (A : Option Addr) (c : Nat) (w : World) (h1 : ERow w w.heap.size A xs) (hl : xs.length ≤ 100000) (hp : ∀ x ∈ xs, x.e.node.path.length ≤ 17179869184)
    (hF : ∀ W, Below w.heap.size w W → ∀ k, k < xs.length → Calls Tryz.prog 72 #[.int .i64 k, c1, c2] W fun e W' => e = .returned (.bool (p k)) ∧ Below W.heap.size W W') :
    Calls Tryz.prog 69 #[.slice A xs.length c, .func (.func 72) #[] #[c1, c2]] w (EsEnd (keepN p (xs.map GV.e) xs.length) w) := by
  have H1 := Lib.hid h1
  have HF := Lib.hid hF
  have HSTEP : Hid (∀ k (hk : k < xs.length), keepN p (xs.map GV.e) (k + 1) = keepN p (xs.map GV.e) k ++ if p k then [] else [xs[k].e]) := Lib.hid fun k hk => keepN_succ p xs hk
  have HKL : Hid (∀ k, (keepN p (xs.map GV.e) k).length ≤ k) := Lib.hid fun k => keepN_len p _ k
  have HMEM : Hid (∀ k, ∀ e ∈ keepN p (xs.map GV.e) k, e.node.path.length ≤ 17179869184) := Lib.hid fun k e he => by
    obtain ⟨x, hx, rfl⟩ := List.mem_map.1 (keepN_mem p _ k e he)
    exact hp x hx
  have HEND : Hid (∀ v ys W, EOwn W w.heap.size v ys → ys.map GV.e = keepN p (xs.map GV.e) xs.length → Below w.heap.size w W → EsEnd (keepN p (xs.map GV.e) xs.length) w (.returned v) W) := Lib.hid fun v ys W h1 h2 h3 => ⟨v, ys, rfl, h1, h2, h3⟩
  generalize EsEnd (keepN p (xs.map GV.e) xs.length) w = EE at *
  clear h1 hF hp
  go_enter Tryz.func69, Tryz.ntmps69
  go_wp2
  go_loopw [5, 10] (fun v5 vi wr => ∃ (k : Nat) (ys : List GV), vi = .int .i64 k ∧ k ≤ xs.length ∧ Hid (ys.map GV.e = keepN p (xs.map GV.e) k) ∧ Hid (EOwn wr w.heap.size v5 ys) ∧ Hid (Below w.heap.size w wr)) (fun _ vi _ => xs.length - (intOf vi).toNat)
  case atStart => exact ⟨0, [], rfl, Nat.zero_le _, Lib.hid rfl, Lib.hid (EOwn.nil _ _), Lib.hid (Below.refl _ _)⟩
  case round =>
    obtain ⟨k, ys, rfl, hk, HT, HO, HB⟩ := hrel
    have HYL : Hid (ys.length ≤ k) := Lib.hid (by have := congrArg List.length HT.out; have := HKL.out k; simp at *; omega)
    rcases Nat.lt_or_ge k xs.length with hlt | hge
    · obtain ⟨An, cn, rfl, hcn, hmn, hrn⟩ := HO.out.erow
      clear hcn hmn hrn
      obtain ⟨b1, o1, rfl, hb1, ⟨x0, x1, x2, x3, x4, x5, x6, x7, x8, x9, x10, x11, x12⟩⟩ := (H1.out.next HB.out).row.gev hlt
      have HST := Lib.hid (HSTEP.out k hlt)
      have HPX := Lib.hid (H1.out.pth _ (List.getElem_mem hlt))
      have HFK := Lib.hid fun W hW => HF.out W hW k hlt
      generalize p k = b at *
      generalize xs[k] = x at *
      obtain ⟨⟨xc, xs', ⟨⟨i0, i1, i2⟩, xp, ⟨a0, a1, a2, a3, a4, a5, a6⟩⟩⟩, xA, xcp⟩ := x
      simp only at x0 x1 x2 x3 x4 x5 x6 x7 x8 x9 x10 x11 x12
      have HBX := Lib.hid (belt HB.out (.cells #[.int .i64 xc, .int .i64 xs', .int .i64 i0, .int .i64 i1, .int .i64 i2, .slice xA xp.length xcp, .int .i64 a0, .int .i64 a1, .int .i64 a2, .int .i64 a3, .int .i64 a4, .int .i64 a5, .bool a6] 32))
      have HEB := Lib.hid (EB.new wr ⟨⟨xc, xs', ⟨⟨i0, i1, i2⟩, xp, ⟨a0, a1, a2, a3, a4, a5, a6⟩⟩⟩, xA, xcp⟩)
      have HO1 := Lib.hid (HO.out.alloc (.cells #[.int .i64 xc, .int .i64 xs', .int .i64 i0, .int .i64 i1, .int .i64 i2, .slice xA xp.length xcp, .int .i64 a0, .int .i64 a1, .int .i64 a2, .int .i64 a3, .int .i64 a4, .int .i64 a5, .bool a6] 32))
      simp only at HEB
      go_wp2_with fail
      go_fit (HFK.out _ HBX.out)
      rintro e w2 ⟨rfl, hb2⟩
      have HB2 := Lib.hid (beln HBX.out hb2)
      have HE2 := Lib.hid (HEB.out.next hb2)
      have HO2 := Lib.hid (HO1.out.next hb2)
      clear hb2 x0 x1 x2 x3 x4 x5 x6 x7 x8 x9 x10 x11 x12 HFK HEB HO1 HBX
      rcases b with _ | _
      · have hpw : PW w w.heap.size ⟨⟨xc, xs', ⟨⟨i0, i1, i2⟩, xp, ⟨a0, a1, a2, a3, a4, a5, a6⟩⟩⟩, xA, xcp⟩ := HPX.out
        have hap : Apart (.slice An ys.length cn) ⟨⟨xc, xs', ⟨⟨i0, i1, i2⟩, xp, ⟨a0, a1, a2, a3, a4, a5, a6⟩⟩⟩, xA, xcp⟩ := Apart.below HO2.out.own hpw
        have hp2 : PW w2 w2.heap.size ⟨⟨xc, xs', ⟨⟨i0, i1, i2⟩, xp, ⟨a0, a1, a2, a3, a4, a5, a6⟩⟩⟩, xA, xcp⟩ := hpw.next HB2.out
        obtain ⟨v9, w9, hrun9, hown9, hb9⟩ := EOwn.snoc HO2.out HB2.out _ hp2 hap (by have := HYL.out; omega)
        simp only at hrun9
        have HRUN := Lib.hid hrun9
        have HB9 := Lib.hid hb9
        have HO9 := Lib.hid hown9
        have HT9 : Hid ((ys ++ [(⟨⟨xc, xs', ⟨⟨i0, i1, i2⟩, xp, ⟨a0, a1, a2, a3, a4, a5, a6⟩⟩⟩, xA, xcp⟩ : GV)]).map GV.e = keepN p (xs.map GV.e) (k + 1)) := Lib.hid (by rw [HST.out, List.map_append, HT.out]; rfl)
        obtain ⟨z0, z1, z2, z3, z4, z5, z6, z7, z8, z9, z10, z11, z12⟩ := HE2.out.cells
        simp only [Nat.zero_add] at z0 z1 z2 z3 z4 z5 z6 z7 z8 z9 z10 z11 z12
        clear hrun9 hown9 hb9 hap hpw hp2 HPX
        go_wp2_with (at_builtin; refine wpList_gapp HRUN.out rfl rfl rfl rfl rfl ?_)
        go_roundw
        case rel => exact ⟨k + 1, _, by go_num, by omega, HT9, HO9, HB9⟩
        case measure => simp [intOf]; omega
      · have HT9 : Hid (ys.map GV.e = keepN p (xs.map GV.e) (k + 1)) := Lib.hid (by rw [HST.out, HT.out]; simp)
        clear HPX
        go_wp2
        go_roundw
        case rel => exact ⟨k + 1, _, by go_num, by omega, HT9, HO2, HB2⟩
        case measure => simp [intOf]; omega
    · obtain rfl : k = xs.length := by omega
      obtain ⟨An, cn, rfl, hcn, hmn, hrn⟩ := HO.out.erow
      have HPY : Hid (∀ y ∈ ys, y.e.node.path.length ≤ 17179869184) := Lib.hid fun y hy => HMEM.out _ _ (by rw [← HT.out]; exact List.mem_map_of_mem hy)
      have HOW := Lib.hid (pOwn_any ys An cn w.heap.size wr HO.out HB.out.size (by have := HYL.out; omega) HPY.out)
      clear hcn hmn hrn hk hge
      go_wp2_with fail
      go_fit HOW.out
      rintro e w2 ⟨rfl, zs, ho2, hm2, hb2⟩
      have HO2 := Lib.hid ho2
      have HM2 := Lib.hid hm2
      have HB2 := Lib.hid (HB.out.trans hb2)
      clear ho2 hm2 hb2 HOW
      go_wp2
      exact HEND.out _ _ _ HO2.out (by rw [HM2.out, HT.out]) HB2.out
set_option maxRecDepth 20000 in
set_option maxHeartbeats 1000000 in
theorem wthEvc_any (p : Nat → Bool) (c1 c2 : Value) (xs : List GV) (A : Option Addr) (c : Nat) (w : World) (h1 : ERow w w.heap.size A xs) (hl : xs.length ≤ 100000) (hp : ∀ x ∈ xs, x.e.node.path.length ≤ 17179869184)
    (hF : ∀ W, Below w.heap.size w W → ∀ k, k < xs.length → Calls Tryz.prog 73 #[.int .i64 k, c1, c2] W fun e W' => e = .returned (.bool (p k)) ∧ Below W.heap.size W W') :
    Calls Tryz.prog 69 #[.slice A xs.length c, .func (.func 73) #[] #[c1, c2]] w (EsEnd (keepN p (xs.map GV.e) xs.length) w) := by
  have H1 := Lib.hid h1
  have HF := Lib.hid hF
  have HSTEP : Hid (∀ k (hk : k < xs.length), keepN p (xs.map GV.e) (k + 1) = keepN p (xs.map GV.e) k ++ if p k then [] else [xs[k].e]) := Lib.hid fun k hk => keepN_succ p xs hk
  have HKL : Hid (∀ k, (keepN p (xs.map GV.e) k).length ≤ k) := Lib.hid fun k => keepN_len p _ k
  have HMEM : Hid (∀ k, ∀ e ∈ keepN p (xs.map GV.e) k, e.node.path.length ≤ 17179869184) := Lib.hid fun k e he => by
    obtain ⟨x, hx, rfl⟩ := List.mem_map.1 (keepN_mem p _ k e he)
    exact hp x hx
  have HEND : Hid (∀ v ys W, EOwn W w.heap.size v ys → ys.map GV.e = keepN p (xs.map GV.e) xs.length → Below w.heap.size w W → EsEnd (keepN p (xs.map GV.e) xs.length) w (.returned v) W) := Lib.hid fun v ys W h1 h2 h3 => ⟨v, ys, rfl, h1, h2, h3⟩
  generalize EsEnd (keepN p (xs.map GV.e) xs.length) w = EE at *
  clear h1 hF hp
  go_enter Tryz.func69, Tryz.ntmps69
  go_wp2
  go_loopw [5, 10] (fun v5 vi wr => ∃ (k : Nat) (ys : List GV), vi = .int .i64 k ∧ k ≤ xs.length ∧ Hid (ys.map GV.e = keepN p (xs.map GV.e) k) ∧ Hid (EOwn wr w.heap.size v5 ys) ∧ Hid (Below w.heap.size w wr)) (fun _ vi _ => xs.length - (intOf vi).toNat)
  case atStart => exact ⟨0, [], rfl, Nat.zero_le _, Lib.hid rfl, Lib.hid (EOwn.nil _ _), Lib.hid (Below.refl _ _)⟩
  case round =>
    obtain ⟨k, ys, rfl, hk, HT, HO, HB⟩ := hrel
    have HYL : Hid (ys.length ≤ k) := Lib.hid (by have := congrArg List.length HT.out; have := HKL.out k; simp at *; omega)
    rcases Nat.lt_or_ge k xs.length with hlt | hge
    · obtain ⟨An, cn, rfl, hcn, hmn, hrn⟩ := HO.out.erow
      clear hcn hmn hrn
      obtain ⟨b1, o1, rfl, hb1, ⟨x0, x1, x2, x3, x4, x5, x6, x7, x8, x9, x10, x11, x12⟩⟩ := (H1.out.next HB.out).row.gev hlt
      have HST := Lib.hid (HSTEP.out k hlt)
      have HPX := Lib.hid (H1.out.pth _ (List.getElem_mem hlt))
      have HFK := Lib.hid fun W hW => HF.out W hW k hlt
      generalize p k = b at *
      generalize xs[k] = x at *
      obtain ⟨⟨xc, xs', ⟨⟨i0, i1, i2⟩, xp, ⟨a0, a1, a2, a3, a4, a5, a6⟩⟩⟩, xA, xcp⟩ := x
      simp only at x0 x1 x2 x3 x4 x5 x6 x7 x8 x9 x10 x11 x12
      have HBX := Lib.hid (belt HB.out (.cells #[.int .i64 xc, .int .i64 xs', .int .i64 i0, .int .i64 i1, .int .i64 i2, .slice xA xp.length xcp, .int .i64 a0, .int .i64 a1, .int .i64 a2, .int .i64 a3, .int .i64 a4, .int .i64 a5, .bool a6] 32))
      have HEB := Lib.hid (EB.new wr ⟨⟨xc, xs', ⟨⟨i0, i1, i2⟩, xp, ⟨a0, a1, a2, a3, a4, a5, a6⟩⟩⟩, xA, xcp⟩)
      have HO1 := Lib.hid (HO.out.alloc (.cells #[.int .i64 xc, .int .i64 xs', .int .i64 i0, .int .i64 i1, .int .i64 i2, .slice xA xp.length xcp, .int .i64 a0, .int .i64 a1, .int .i64 a2, .int .i64 a3, .int .i64 a4, .int .i64 a5, .bool a6] 32))
      simp only at HEB
      go_wp2_with fail
      go_fit (HFK.out _ HBX.out)
      rintro e w2 ⟨rfl, hb2⟩
      have HB2 := Lib.hid (beln HBX.out hb2)
      have HE2 := Lib.hid (HEB.out.next hb2)
      have HO2 := Lib.hid (HO1.out.next hb2)
      clear hb2 x0 x1 x2 x3 x4 x5 x6 x7 x8 x9 x10 x11 x12 HFK HEB HO1 HBX
      rcases b with _ | _
      · have hpw : PW w w.heap.size ⟨⟨xc, xs', ⟨⟨i0, i1, i2⟩, xp, ⟨a0, a1, a2, a3, a4, a5, a6⟩⟩⟩, xA, xcp⟩ := HPX.out
        have hap : Apart (.slice An ys.length cn) ⟨⟨xc, xs', ⟨⟨i0, i1, i2⟩, xp, ⟨a0, a1, a2, a3, a4, a5, a6⟩⟩⟩, xA, xcp⟩ := Apart.below HO2.out.own hpw
        have hp2 : PW w2 w2.heap.size ⟨⟨xc, xs', ⟨⟨i0, i1, i2⟩, xp, ⟨a0, a1, a2, a3, a4, a5, a6⟩⟩⟩, xA, xcp⟩ := hpw.next HB2.out
        obtain ⟨v9, w9, hrun9, hown9, hb9⟩ := EOwn.snoc HO2.out HB2.out _ hp2 hap (by have := HYL.out; omega)
        simp only at hrun9
        have HRUN := Lib.hid hrun9
        have HB9 := Lib.hid hb9
        have HO9 := Lib.hid hown9
        have HT9 : Hid ((ys ++ [(⟨⟨xc, xs', ⟨⟨i0, i1, i2⟩, xp, ⟨a0, a1, a2, a3, a4, a5, a6⟩⟩⟩, xA, xcp⟩ : GV)]).map GV.e = keepN p (xs.map GV.e) (k + 1)) := Lib.hid (by rw [HST.out, List.map_append, HT.out]; rfl)
        obtain ⟨z0, z1, z2, z3, z4, z5, z6, z7, z8, z9, z10, z11, z12⟩ := HE2.out.cells
        simp only [Nat.zero_add] at z0 z1 z2 z3 z4 z5 z6 z7 z8 z9 z10 z11 z12
        clear hrun9 hown9 hb9 hap hpw hp2 HPX
        go_wp2_with (at_builtin; refine wpList_gapp HRUN.out rfl rfl rfl rfl rfl ?_)
        go_roundw
        case rel => exact ⟨k + 1, _, by go_num, by omega, HT9, HO9, HB9⟩
        case measure => simp [intOf]; omega
      · have HT9 : Hid (ys.map GV.e = keepN p (xs.map GV.e) (k + 1)) := Lib.hid (by rw [HST.out, HT.out]; simp)
        clear HPX
        go_wp2
        go_roundw
        case rel => exact ⟨k + 1, _, by go_num, by omega, HT9, HO2, HB2⟩
        case measure => simp [intOf]; omega
    · obtain rfl : k = xs.length := by omega
      obtain ⟨An, cn, rfl, hcn, hmn, hrn⟩ := HO.out.erow
      have HPY : Hid (∀ y ∈ ys, y.e.node.path.length ≤ 17179869184) := Lib.hid fun y hy => HMEM.out _ _ (by rw [← HT.out]; exact List.mem_map_of_mem hy)
      have HOW := Lib.hid (pOwn_any ys An cn w.heap.size wr HO.out HB.out.size (by have := HYL.out; omega) HPY.out)
      clear hcn hmn hrn hk hge
      go_wp2_with fail
      go_fit HOW.out
      rintro e w2 ⟨rfl, zs, ho2, hm2, hb2⟩
      have HO2 := Lib.hid ho2
      have HM2 := Lib.hid hm2
      have HB2 := Lib.hid (HB.out.trans hb2)
      clear ho2 hm2 hb2 HOW
      go_wp2
      exact HEND.out _ _ _ HO2.out (by rw [HM2.out, HT.out]) HB2.out
end Go.Proofs.YtndppbfdcceflaaGreatDoor


namespace Go.Proofs.YtndppbfdcceflaaGreatDoor
open Go.RowKit

set_option maxRecDepth 20000 in
theorem cRem_any (k : Int) (g : Nat) (i : Int) (w : World) (hg : NBx w g i) :
    Calls Tryz.prog 70 #[.int .i64 k, .pointer (some ⟨g, 0, none⟩)] w fun e w' => e = .returned (.bool (k == i)) ∧ Below w.heap.size w w' := by
  have y0 := hg.cell
  generalize hq : (k == i) = q at *
  clear hg
  go_enter Tryz.func70, Tryz.ntmps70
  go_wp2
  go_ret
  exact ⟨congrArg (fun b => Ending.returned (Value.bool b)) (by first | exact hq | rfl | trivial), Below.refl _ _⟩
/-- A block of the call's own that holds a slice of entries. -/
def SBx (W : World) (N : Nat) (A : Option Addr) (n c : Nat) : Prop := W.heap[N]? = some (.cells #[.slice A n c] 22 (0, 0))
theorem SBx.lt {W : World} {N : Nat} {A : Option Addr} {n c : Nat} (h : SBx W N A n c) : N < W.heap.size := by
  rcases Nat.lt_or_ge N W.heap.size with h1 | h1
  · exact h1
  · unfold SBx at h; rw [Array.getElem?_eq_none h1] at h; cases h
theorem SBx.next {W W' : World} {N : Nat} {A : Option Addr} {n c : Nat} (h : SBx W N A n c) (hb : Below W.heap.size W W') : SBx W' N A n c := (hb.block N h.lt).trans h
theorem SBx.new (w : World) (A : Option Addr) (n c : Nat) : SBx (w.alloc (.cells #[.slice A n c] 22)) w.heap.size A n c := heap_alloc_new w _
theorem SBx.cell {W : World} {N : Nat} {A : Option Addr} {n c : Nat} (h : SBx W N A n c) : W.cell? ⟨N, 0, none⟩ = some (.slice A n c) := by unfold SBx at h; rw [Lib.cell_of_heap h]; rfl
set_option maxRecDepth 20000 in
set_option maxHeartbeats 1000000 in
theorem cPrn_any (xs : List GV) (A : Option Addr) (c : Nat) (i : GId) (g1 g2 : Nat) (k : Nat) (hk : k < xs.length) (w : World) (h1 : ERow w w.heap.size A xs) (hp : ∀ x ∈ xs, x.e.node.path.length ≤ 17179869184) (hg1 : SBx w g1 A xs.length c) (hg2 : IB w g2 i) (_ : xs.length ≤ 100000) :
    Calls Tryz.prog 72 #[.int .i64 k, .pointer (some ⟨g1, 0, none⟩), .pointer (some ⟨g2, 0, none⟩)] w fun e w' => e = .returned (.bool (hasI xs[k].e.node.path i)) ∧ Below w.heap.size w w' := by
  obtain ⟨b1, o1, rfl, hb1, ⟨x0, x1, x2, x3, x4, x5, x6, x7, x8, x9, x10, x11, x12⟩⟩ := h1.row.gev hk
  have HPX := Lib.hid (h1.pth _ (List.getElem_mem hk))
  have HBL := Lib.hid fun W (hW : Below w.heap.size w W) => pBel_any xs[k].e.node xs[k].A xs[k].c i W (HPX.out.1.next hW) (hp _ (List.getElem_mem hk)) HPX.out.2
  have y0 := hg1.cell
  obtain ⟨z0, z1, z2⟩ := hg2.cells
  have hgl1 := hg1.lt
  have hgl2 := hg2.lt
  clear hg1 hg2
  generalize hasI xs[k].e.node.path i = q at *
  unfold GN.val at HBL
  generalize xs[k] = x at *
  obtain ⟨⟨xc, xs', ⟨⟨i0, i1, i2⟩, xp, ⟨a0, a1, a2, a3, a4, a5, a6⟩⟩⟩, xA, xcp⟩ := x
  obtain ⟨j0, j1, j2⟩ := i
  simp only [GId.val] at x0 x1 x2 x3 x4 x5 x6 x7 x8 x9 x10 x11 x12 HBL z0 z1 z2
  have hS := (Below.refl w.heap.size w).drew
  have hk0 : 0 ≤ (k : Int) := by omega
  have hk1 : (k : Int) < (xs.length : Int) := by omega
  have hk2 : (k : Int).toNat = k := by omega
  clear h1 hp x0 x1
  go_enter Tryz.func72, Tryz.ntmps72
  go_upto_region 1 with fail
  refine wp_region_growS (S := fun W => Below w.heap.size w W) [(0, true), (1, true), (2, true), (3, true), (4, true), (5, true), (6, false), (7, true)] (by kernel_rfl) (by kernel_rfl) (by kernel_rfl) (by kernel_rfl) (by intro c a d v w h; cases d <;> exact h) hS ?_
  iterate 6
    (first
      | (refine wpGrowS_float (v := ?_) (by simp only [List.getElem?_toArray, List.getElem?_cons_succ, List.getElem?_cons_zero]; rfl) (by rfl) ?_ ?_
         rotate_left
         · (intro W hW; have t2 := (hW.cell (p := ⟨b1, o1 + k * 13 + 2, none⟩) hb1).trans x2; have t3 := (hW.cell (p := ⟨b1, o1 + k * 13 + 3, none⟩) hb1).trans x3; have t4 := (hW.cell (p := ⟨b1, o1 + k * 13 + 4, none⟩) hb1).trans x4; have t5 := (hW.cell (p := ⟨b1, o1 + k * 13 + 5, none⟩) hb1).trans x5; have t6 := (hW.cell (p := ⟨b1, o1 + k * 13 + 6, none⟩) hb1).trans x6; have t7 := (hW.cell (p := ⟨b1, o1 + k * 13 + 7, none⟩) hb1).trans x7; have t8 := (hW.cell (p := ⟨b1, o1 + k * 13 + 8, none⟩) hb1).trans x8; have t9 := (hW.cell (p := ⟨b1, o1 + k * 13 + 9, none⟩) hb1).trans x9; have t10 := (hW.cell (p := ⟨b1, o1 + k * 13 + 10, none⟩) hb1).trans x10; have t11 := (hW.cell (p := ⟨b1, o1 + k * 13 + 11, none⟩) hb1).trans x11; have t12 := (hW.cell (p := ⟨b1, o1 + k * 13 + 12, none⟩) hb1).trans x12; have s0 := (hW.cell (p := ⟨g1, 0, none⟩) hgl1).trans y0; have u0 := (hW.cell (p := ⟨g2, 0, none⟩) hgl2).trans z0; have u1 := (hW.cell (p := ⟨g2, 1, none⟩) hgl2).trans z1; have u2 := (hW.cell (p := ⟨g2, 2, none⟩) hgl2).trans z2; (try simp only at *); go_simp; try with_reducible rfl)
         simp only [Act.put, List.setIfInBounds_toArray, List.set_cons_zero, List.set_cons_succ])
      | (refine wpGrowS_skip (by simp only [List.getElem?_toArray, List.getElem?_cons_succ, List.getElem?_cons_zero]; rfl) (by rfl) ?_
         simp only [Act.put, List.setIfInBounds_toArray, List.set_cons_zero, List.set_cons_succ]))
  refine wpGrowS_call (by simp only [List.getElem?_toArray, List.getElem?_cons_succ, List.getElem?_cons_zero]; rfl) (by rfl) fun K hK => ?_
  go_simp
  go_fit (HBL.out _ hS)
  rintro e wn ⟨rfl, hbn⟩
  have hSp := hS
  have hS : Below w.heap.size w wn := beln hS hbn
  go_simp
  refine hK _ _ hS ?_
  clear hK K
  try simp only [Act.put, List.setIfInBounds_toArray, List.set_cons_zero, List.set_cons_succ]
  iterate 1
    (first
      | (refine wpGrowS_float (v := ?_) (by simp only [List.getElem?_toArray, List.getElem?_cons_succ, List.getElem?_cons_zero]; rfl) (by rfl) ?_ ?_
         rotate_left
         · (intro W hW; have t2 := (hW.cell (p := ⟨b1, o1 + k * 13 + 2, none⟩) hb1).trans x2; have t3 := (hW.cell (p := ⟨b1, o1 + k * 13 + 3, none⟩) hb1).trans x3; have t4 := (hW.cell (p := ⟨b1, o1 + k * 13 + 4, none⟩) hb1).trans x4; have t5 := (hW.cell (p := ⟨b1, o1 + k * 13 + 5, none⟩) hb1).trans x5; have t6 := (hW.cell (p := ⟨b1, o1 + k * 13 + 6, none⟩) hb1).trans x6; have t7 := (hW.cell (p := ⟨b1, o1 + k * 13 + 7, none⟩) hb1).trans x7; have t8 := (hW.cell (p := ⟨b1, o1 + k * 13 + 8, none⟩) hb1).trans x8; have t9 := (hW.cell (p := ⟨b1, o1 + k * 13 + 9, none⟩) hb1).trans x9; have t10 := (hW.cell (p := ⟨b1, o1 + k * 13 + 10, none⟩) hb1).trans x10; have t11 := (hW.cell (p := ⟨b1, o1 + k * 13 + 11, none⟩) hb1).trans x11; have t12 := (hW.cell (p := ⟨b1, o1 + k * 13 + 12, none⟩) hb1).trans x12; have s0 := (hW.cell (p := ⟨g1, 0, none⟩) hgl1).trans y0; have u0 := (hW.cell (p := ⟨g2, 0, none⟩) hgl2).trans z0; have u1 := (hW.cell (p := ⟨g2, 1, none⟩) hgl2).trans z1; have u2 := (hW.cell (p := ⟨g2, 2, none⟩) hgl2).trans z2; (try simp only at *); go_simp; try with_reducible rfl)
         simp only [Act.put, List.setIfInBounds_toArray, List.set_cons_zero, List.set_cons_succ])
      | (refine wpGrowS_skip (by simp only [List.getElem?_toArray, List.getElem?_cons_succ, List.getElem?_cons_zero]; rfl) (by rfl) ?_
         simp only [Act.put, List.setIfInBounds_toArray, List.set_cons_zero, List.set_cons_succ]))
  refine wpGrowS_nil ?_
  have HF := Lib.hid hS
  clear hS
  go_wp2
  go_ret
  exact ⟨rfl, HF.out⟩
set_option maxRecDepth 20000 in
set_option maxHeartbeats 1000000 in
theorem cEvc_any (xs : List GV) (A : Option Addr) (c : Nat) (i : Int) (g1 g2 : Nat) (k : Nat) (hk : k < xs.length) (w : World) (h1 : ERow w w.heap.size A xs) (hg1 : SBx w g1 A xs.length c) (hg2 : NBx w g2 i) (_ : xs.length ≤ 100000) :
    Calls Tryz.prog 73 #[.int .i64 k, .pointer (some ⟨g1, 0, none⟩), .pointer (some ⟨g2, 0, none⟩)] w fun e w' => e = .returned (.bool (xs[k].e.core == i)) ∧ Below w.heap.size w w' := by
  obtain ⟨b1, o1, rfl, hb1, ⟨x0, x1, x2, x3, x4, x5, x6, x7, x8, x9, x10, x11, x12⟩⟩ := h1.row.gev hk
  have y0 := hg1.cell
  have z0 := hg2.cell
  generalize xs[k].e.core = xc at *
  clear h1 x1 x2 x3 x4 x5 x6 x7 x8 x9 x10 x11 x12 hg1 hg2
  have HB := Lib.hid (Below.refl w.heap.size w).drew
  have hk0 : 0 ≤ (k : Int) := by omega
  have hk1 : (k : Int) < (xs.length : Int) := by omega
  generalize hq : (xc == i) = q at *
  have HQ := Lib.hid hq
  go_enter Tryz.func73, Tryz.ntmps73
  go_upto_region 1 with fail
  go_region
  clear x0 y0 z0
  go_wp2
  go_ret
  exact ⟨rfl, HB.out⟩
end Go.Proofs.YtndppbfdcceflaaGreatDoor
