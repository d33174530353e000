/-
  The reference's Halves and SameRanges.
  Conditions: none.
-/
import Derived.Test.YtndppbfdcceflaaGreatDoorRge
namespace Go.Proofs.YtndppbfdcceflaaGreatDoor

open Go.RowKit

def zR : GR := ⟨0, 0⟩
def hasH (r : GR) : Bool := vR r && decide (r.bits ≠ 6)
def halvesV (r : GR) : Value := if hasH r = true then .tuple #[(lowR r).val, (highR r).val, .bool true] else .tuple #[zR.val, zR.val, .bool false]
/-- A block of the call's own that holds a range. -/
def RB (W : World) (N : Nat) (r : GR) : Prop := W.heap[N]? = some (.cells #[.int .i64 r.base, .int .i64 r.bits] 58 (0, 0))
theorem RB.lt {W : World} {N : Nat} {r : GR} (h : RB W N r) : N < W.heap.size := by
  rcases Nat.lt_or_ge N W.heap.size with h1 | h1
  · exact h1
  · unfold RB at h; rw [Array.getElem?_eq_none h1] at h; cases h
theorem RB.next {W W' : World} {N : Nat} {r : GR} (h : RB W N r) (hb : Below W.heap.size W W') : RB W' N r := (hb.block N h.lt).trans h
theorem RB.facts {W : World} {N : Nat} {r : GR} (h : RB W N r) : W.cell? ⟨N, 0, none⟩ = some (.int .i64 r.base) ∧ W.cell? ⟨N, 1, none⟩ = some (.int .i64 r.bits) ∧ W.frozen? ⟨N, 0, none⟩ = false ∧ W.frozen? ⟨N, 1, none⟩ = false := by
  unfold RB at h
  exact ⟨by rw [Lib.cell_of_heap h]; rfl, by rw [Lib.cell_of_heap h]; rfl, Lib.frozen_of_heap h 0, Lib.frozen_of_heap h 1⟩
theorem RB.new (w : World) (r : GR) : RB (w.alloc (.cells #[.int .i64 r.base, .int .i64 r.bits] 58)) w.heap.size r := heap_alloc_new w _
theorem RB.at {w w' : World} {N : Nat} {r : GR} (hN : w.heap.size = N) (hb : Below (w.alloc (.cells #[.int .i64 r.base, .int .i64 r.bits] 58)).heap.size (w.alloc (.cells #[.int .i64 r.base, .int .i64 r.bits] 58)) w') : RB w' N r := by
  subst hN; exact (RB.new w r).next hb
set_option maxRecDepth 20000 in
theorem rHalves_any (r : GR) (w : World) : Calls Tryz.prog 115 #[r.val] w fun e w' => e = .returned (halvesV r) ∧ Below w.heap.size w w' := by
  have HV := Lib.hid fun W => rValid_any r W
  have HA1 : Hid (RB (((w.alloc (.cells #[.int .i64 r.base, .int .i64 r.bits] 58)).alloc (.cells #[.int .i64 0, .int .i64 0] 58)).alloc (.cells #[.int .i64 0, .int .i64 0] 58)) w.heap.size r) := Lib.hid (((RB.new w r).next ((Below.refl _ _).alloc (Nat.le_refl _) _)).next ((Below.refl _ _).alloc (Nat.le_refl _) _))
  have HA2 : Hid (RB (((w.alloc (.cells #[.int .i64 r.base, .int .i64 r.bits] 58)).alloc (.cells #[.int .i64 0, .int .i64 0] 58)).alloc (.cells #[.int .i64 0, .int .i64 0] 58)) (w.heap.size + 1) zR) := Lib.hid (by
    have h : RB _ _ zR := (RB.new (w.alloc (.cells #[.int .i64 r.base, .int .i64 r.bits] 58)) zR).next ((Below.refl _ _).alloc (Nat.le_refl _) (.cells #[.int .i64 0, .int .i64 0] 58))
    simpa [zR] using h)
  have HA3 : Hid (RB (((w.alloc (.cells #[.int .i64 r.base, .int .i64 r.bits] 58)).alloc (.cells #[.int .i64 0, .int .i64 0] 58)).alloc (.cells #[.int .i64 0, .int .i64 0] 58)) (w.heap.size + 1 + 1) zR) := Lib.hid (by
    have h := RB.new ((w.alloc (.cells #[.int .i64 r.base, .int .i64 r.bits] 58)).alloc (.cells #[.int .i64 0, .int .i64 0] 58)) zR
    simpa [zR] using h)
  have HS2 : ∀ (W : World) (p : Value) (k : Nat), w.heap.size ≤ k → Below w.heap.size w W → ∀ j, Below w.heap.size w (W.setCell ⟨k, j, none⟩ p) := fun W p k hk hb j => hb.setCell (p := ⟨k, j, none⟩) hk p
  have HS := Lib.hid HS2
  clear HS2
  by_cases h : VR r
  case neg =>
    have HR : Hid (halvesV r = .tuple #[zR.val, zR.val, .bool false]) := Lib.hid (by unfold halvesV hasH; rw [vR_not.2 h]; rfl)
    rw [vR_not.2 h] at HV
    generalize halvesV r = q at *
    obtain ⟨b, n⟩ := r
    simp only [GR.val, zR] at *
    clear h
    go_enter Tryz.func115, Tryz.ntmps115
    go_wp2_with fail
    go_fit (HV.out _)
    rintro e w1 ⟨rfl, hb1⟩
    have HB1 := Lib.hid (bela (belt (belt (Below.refl _ w) _) _) hb1)
    obtain ⟨a0, a1, za0, za1⟩ := (HA1.out.next hb1).facts
    obtain ⟨b0, b1, zb0, zb1⟩ := (HA2.out.next hb1).facts
    obtain ⟨c0, c1, zc0, zc1⟩ := (HA3.out.next hb1).facts
    have hsz := (HA3.out.next hb1).lt
    clear hb1 HV HA1 HA2 HA3
    go_wp2
    refine bodyPost_ret (v := q) (by rw [HR.out]; simp [results, Tryz.results115, go_sem, b0, b1, c0, c1]) rfl ?_
    refine ⟨rfl, ?_⟩
    repeat (refine HS.out _ _ _ (by omega) ?_ _)
    exact HB1.out
  rw [vR_iff.2 h] at HV
  by_cases h6 : r.bits = 6
  · have HR : Hid (halvesV r = .tuple #[zR.val, zR.val, .bool false]) := Lib.hid (by unfold halvesV hasH; rw [vR_iff.2 h, h6]; rfl)
    generalize halvesV r = q at *
    obtain ⟨b, n⟩ := r
    simp only [GR.val, zR] at *
    subst h6
    clear h
    go_enter Tryz.func115, Tryz.ntmps115
    go_wp2_with fail
    go_fit (HV.out _)
    rintro e w1 ⟨rfl, hb1⟩
    have HB1 := Lib.hid (bela (belt (belt (Below.refl _ w) _) _) hb1)
    obtain ⟨a0, a1, za0, za1⟩ := (HA1.out.next hb1).facts
    obtain ⟨b0, b1, zb0, zb1⟩ := (HA2.out.next hb1).facts
    obtain ⟨c0, c1, zc0, zc1⟩ := (HA3.out.next hb1).facts
    have hsz := (HA3.out.next hb1).lt
    clear hb1 HV HA1 HA2 HA3
    go_wp2
    refine bodyPost_ret (v := q) (by rw [HR.out]; simp [results, Tryz.results115, go_sem, b0, b1, c0, c1]) rfl ?_
    refine ⟨rfl, ?_⟩
    repeat (refine HS.out _ _ _ (by omega) ?_ _)
    exact HB1.out
  · have HR : Hid (halvesV r = .tuple #[(lowR r).val, (highR r).val, .bool true]) := Lib.hid (by unfold halvesV hasH; rw [vR_iff.2 h, decide_eq_true h6]; rfl)
    have h1 := h.lo
    have h2 := h.hi
    have h3 := h.b0
    have h4 := h.top
    have h5 : pw (r.bits - 1) ≤ r.sz := pw_le (by omega) (by omega)
    have h7 := pw_pos (r.bits - 1)
    have hsh : wrap64 (2 ^ (r.bits - 1).toNat) = pw (r.bits - 1) := shl_one64 (by omega) (by omega)
    have hw1 : IntKind.i64.wrap (r.bits - 1) = r.bits - 1 := IntWalk.i64_in _ (by omega)
    have hcu : IntKind.u64.wrap (r.bits - 1) = r.bits - 1 := by rw [IntKind.wrap_u64]; omega
    generalize halvesV r = q at *
    simp only [lowR, highR] at HR
    generalize r.sz = z at *
    generalize pw (r.bits - 1) = y at *
    obtain ⟨b, n⟩ := r
    simp only [GR.val, zR] at *
    have hw2 : wrap64 (b + y) = b + y := IntWalk.wrap64_in _ (by omega)
    have hsh2 : wrap64 (2 ^ (n.toNat - 1)) = y := by rw [show (n - 1).toNat = n.toNat - 1 by omega] at hsh; exact hsh
    clear hsh
    clear h
    go_enter Tryz.func115, Tryz.ntmps115
    go_wp2_with fail
    go_fit (HV.out _)
    rintro e w1 ⟨rfl, hb1⟩
    have HB1 := Lib.hid (bela (belt (belt (Below.refl _ w) _) _) hb1)
    obtain ⟨a0, a1, za0, za1⟩ := (HA1.out.next hb1).facts
    obtain ⟨b0, b1, zb0, zb1⟩ := (HA2.out.next hb1).facts
    obtain ⟨c0, c1, zc0, zc1⟩ := (HA3.out.next hb1).facts
    have hsz := (HA3.out.next hb1).lt
    clear hb1 HV HA1 HA2 HA3
    go_upto_region 4 with fail
    go_region
    go_wp2
    refine bodyPost_ret (v := q) (by rw [HR.out]; simp [results, Tryz.results115, go_sem, b0, b1, c0, c1]) rfl ?_
    refine ⟨rfl, Below.drew ?_⟩
    repeat (refine HS.out _ _ _ (by omega) ?_ _)
    exact HB1.out
/-- A row of ranges in memory, as a walk reads it. -/
theorem GRow.rng {w : World} {B : Nat} {A : Option Addr} {xs : List GR} (h : GRow GR.cells 2 w B A xs) {k : Nat} (hk : k < xs.length) : ∃ b off, A = some ⟨b, off, none⟩ ∧ b < B ∧ w.cell? ⟨b, off + k * 2, none⟩ = some (.int .i64 xs[k].base) ∧ w.cell? ⟨b, off + k * 2 + 1, none⟩ = some (.int .i64 xs[k].bits) := by
  obtain ⟨b, off, rfl, hb, hc⟩ := h (by omega)
  exact ⟨b, off, rfl, hb, hc k hk 0 _ rfl, hc k hk 1 _ rfl⟩
set_option maxRecDepth 20000 in
set_option maxHeartbeats 1000000 in
theorem rSame_any (xs ys : List GR) (A B : Option Addr) (c d : Nat) (w : World) (h1 : GRow GR.cells 2 w w.heap.size A xs) (h2 : GRow GR.cells 2 w w.heap.size B ys) (hl : xs.length ≤ 17179869184) (hl2 : ys.length ≤ 17179869184) :
    Calls Tryz.prog 40 #[.slice A xs.length c, .slice B ys.length d] w fun e w' => e = .returned (.bool (decide (xs = ys))) ∧ Below w.heap.size w w' := by
  have H1 := Lib.hid h1
  have H2 := Lib.hid h2
  have HD : Hid (decide (xs = ys) = decide (xs = ys)) := Lib.hid rfl
  generalize hq : decide (xs = ys) = q at *
  clear h1 h2 HD
  by_cases hn : xs.length = ys.length
  case neg =>
    have HQ : Hid (q = false) := Lib.hid (by rw [← hq, decide_eq_false_iff_not]; exact fun e => hn (by rw [e]))
    have f1 : ((xs.length : Int) != (ys.length : Int)) = true := by simp; omega
    clear hq hn
    generalize xs.length = n at *
    generalize ys.length = m at *
    go_enter Tryz.func40, Tryz.ntmps40
    go_wp2
    go_ret
    exact ⟨congrArg (fun b => Ending.returned (Value.bool b)) HQ.out.symm, Below.refl _ _⟩
  have HN := Lib.hid hn
  have f1 : ((xs.length : Int) != (ys.length : Int)) = false := by simp; omega
  have HQ := Lib.hid hq
  clear hq hn
  go_enter Tryz.func40, Tryz.ntmps40
  go_wp2
  clear f1
  go_loopw [5] (fun vi wr => ∃ k : Nat, vi = .int .i64 k ∧ k ≤ xs.length ∧ Hid (xs.take k = ys.take k) ∧ Hid (Below w.heap.size w wr)) (fun vi _ => xs.length - (intOf vi).toNat)
  case atStart => exact ⟨0, rfl, Nat.zero_le _, Lib.hid (by simp), Lib.hid (Below.refl _ _)⟩
  case round =>
    obtain ⟨k, rfl, hk, HT, HB⟩ := hrel
    rcases Nat.lt_or_ge k xs.length with hlt | hge
    · have hlt2 : k < ys.length := by have := HN.out; omega
      obtain ⟨b1, o1, rfl, hb1, x0, x1⟩ := (H1.out.next HB.out).rng hlt
      obtain ⟨b2, o2, rfl, hb2, y0, y1⟩ := (H2.out.next HB.out).rng hlt2
      have HBD := Lib.hid HB.out.drew
      by_cases he : xs[k] = ys[k]
      · have HT2 : Hid (xs.take (k + 1) = ys.take (k + 1)) := Lib.hid (by rw [List.take_succ_eq_append_getElem hlt, List.take_succ_eq_append_getElem hlt2, HT.out, he])
        rw [← he] at y0 y1
        generalize xs[k] = x at *
        obtain ⟨xb, xn⟩ := x
        clear he
        go_upto_region 6 with fail
        go_region
        go_wp2
        go_roundw
        case rel => exact ⟨k + 1, by go_num, by omega, HT2, HBD⟩
        case measure => simp [intOf]; omega
      · have HF : Hid (q = false) := Lib.hid (by
          rw [← HQ.out, decide_eq_false_iff_not]
          rintro rfl
          exact he rfl)
        have hne : ¬ (xs[k].base = ys[k].base ∧ xs[k].bits = ys[k].bits) := fun ⟨e1, e2⟩ => he (by
          cases h9 : xs[k]; cases h8 : ys[k]; rw [h9, h8] at e1 e2; simp only at e1 e2; rw [e1, e2])
        generalize xs[k] = x at *
        generalize ys[k] = y at *
        obtain ⟨xb, xn⟩ := x
        obtain ⟨yb, yn⟩ := y
        simp only at hne x0 x1 y0 y1
        clear he
        by_cases he : xb = yb
        · subst he
          have hne2 : ¬ xn = yn := fun e => hne ⟨rfl, e⟩
          clear hne
          go_upto_region 6 with fail
          go_region
          go_wp2
          go_ret
          exact ⟨congrArg (fun b => Ending.returned (Value.bool b)) HF.out.symm, HBD.out⟩
        · clear hne
          go_upto_region 6 with fail
          go_region
          go_wp2
          go_ret
          exact ⟨congrArg (fun b => Ending.returned (Value.bool b)) HF.out.symm, HBD.out⟩
    · have HF : Hid (q = true) := Lib.hid (by
        rw [← HQ.out, decide_eq_true_eq]
        have h9 := HT.out
        have h8 := HN.out
        rwa [List.take_of_length_le hge, List.take_of_length_le (by omega)] at h9)
      go_wp2
      go_ret
      exact ⟨congrArg (fun b => Ending.returned (Value.bool b)) HF.out.symm, HB.out⟩
end Go.Proofs.YtndppbfdcceflaaGreatDoor
