/-
  The contract of the law's same: of two slices that hold the same tokens (with bare: the same but for their positions) it returns true.
  Conditions: the slices have at most 65536 elements.
-/
import Derived.Test.YthpcfidcpaikgaaDoorOffM
namespace Go.Proofs.YthpcfidcpaikgaaDoor
open Go.RowKit Go.Shelf

/-- The same token, positions aside. -/
def GTok.like (a b : GTok) : Prop := a.kind = b.kind ∧ a.text = b.text ∧ a.value = b.value
theorem TRow.cells5 {w : World} {B : Nat} {A : Option Addr} {ts : List GTok} (h : TRow w B A ts) {i : Nat} (hi : i < ts.length) : ∃ b off, A = some ⟨b, off, none⟩ ∧ b < B ∧
    w.cell? ⟨b, off + i * 5, none⟩ = some (.int .i64 ts[i].kind) ∧ w.cell? ⟨b, off + i * 5 + 1, none⟩ = some (.string ⟨ts[i].text.toArray⟩) ∧ w.cell? ⟨b, off + i * 5 + 2, none⟩ = some (.int .u64 ts[i].value) ∧
    w.cell? ⟨b, off + i * 5 + 3, none⟩ = some (.int .i64 ts[i].line) ∧ w.cell? ⟨b, off + i * 5 + 4, none⟩ = some (.int .i64 ts[i].col) := by
  obtain ⟨b, off, e, hb, hc⟩ := h (by omega)
  exact ⟨b, off, e, hb, by have := hc i hi 0 _ rfl; simpa [Nat.add_assoc] using this, by have := hc i hi 1 _ rfl; simpa [Nat.add_assoc] using this, by have := hc i hi 2 _ rfl; simpa [Nat.add_assoc] using this,
    by have := hc i hi 3 _ rfl; simpa [Nat.add_assoc] using this, by have := hc i hi 4 _ rfl; simpa [Nat.add_assoc] using this⟩

set_option maxRecDepth 50000 in
set_option maxHeartbeats 2000000 in
theorem same_eq (xs : List GTok) (A B : Option Addr) (ca cb : Nat) (w : World) (hA : TRow w w.heap.size A xs) (hB : TRow w w.heap.size B xs) (hn : xs.length ≤ 65536) :
    Calls Tryd.prog 10 #[.slice A xs.length ca, .slice B xs.length cb, .bool false] w fun e w' => e = .returned (.bool true) ∧ Below w.heap.size w w' := by
  have HA := Lib.hid hA
  have HB := Lib.hid hB
  clear hA hB
  go_enter Tryd.func10, Tryd.ntmps10
  go_wp2
  go_loopw [7] (fun vi wr => ∃ j : Nat, vi = .int .i64 j ∧ j ≤ xs.length ∧ Hid (Below w.heap.size w wr)) (fun vi _ => xs.length - (intOf vi).toNat)
  case atStart => exact ⟨0, rfl, Nat.zero_le _, Lib.hid (Below.refl _ _)⟩
  case round =>
    obtain ⟨j, rfl, hj, HW⟩ := hrel
    rcases Nat.lt_or_ge j xs.length with hlt | hge
    · obtain ⟨b1, o1, rfl, hb1, x0, x1, x2, x3, x4⟩ := (HA.out.below (Nat.le_refl _) HW.out).cells5 hlt
      obtain ⟨b2, o2, rfl, hb2, y0, y1, y2, y3, y4⟩ := (HB.out.below (Nat.le_refl _) HW.out).cells5 hlt
      generalize xs[j] = t at *
      obtain ⟨tk, tt, tv, tl, tc⟩ := t
      simp only at x0 x1 x2 x3 x4 y0 y1 y2 y3 y4
      have hsz := HW.out.size
      have hz1 : b1 < wr.heap.size := by omega
      have hz2 : b2 < wr.heap.size := by omega
      go_wp2
      go_region
      all_goals go_wp2
      all_goals go_roundw
      case rel => exact ⟨j + 1, by go_num, by omega, Lib.hid (bel_lit (bel_lit HW.out _) _).drew⟩
      case measure => simp [intOf]; omega
      case rel => exact ⟨j + 1, by go_num, by omega, Lib.hid (bel_lit (bel_lit HW.out _) _).drew⟩
      case measure => simp [intOf]; omega
    · go_wp2
      go_ret
      exact ⟨rfl, HW.out⟩
set_option maxRecDepth 50000 in
set_option maxHeartbeats 2000000 in
theorem same_like (xs ys : List GTok) (A B : Option Addr) (ca cb : Nat) (w : World) (hA : TRow w w.heap.size A xs) (hB : TRow w w.heap.size B ys) (hn : xs.length ≤ 65536) (hyl : xs.length = ys.length) (hlk : ∀ i (h1 : i < xs.length) (h2 : i < ys.length), (xs[i]).like ys[i]) :
    Calls Tryd.prog 10 #[.slice A xs.length ca, .slice B ys.length cb, .bool true] w fun e w' => e = .returned (.bool true) ∧ Below w.heap.size w w' := by
  have HA := Lib.hid hA
  have HB := Lib.hid hB
  have HL := Lib.hid hlk
  obtain ⟨n, hnx⟩ : ∃ n, n = xs.length := ⟨_, rfl⟩
  have hny : n = ys.length := hnx.trans hyl
  rw [← hnx, ← hny]
  rw [← hnx] at hn
  have HNX := Lib.hid hnx
  have HNY := Lib.hid hny
  clear hA hB hlk hyl hnx hny
  go_enter Tryd.func10, Tryd.ntmps10
  go_wp2
  go_loopw [7] (fun vi wr => ∃ j : Nat, vi = .int .i64 j ∧ j ≤ n ∧ Hid (Below w.heap.size w wr)) (fun vi _ => n - (intOf vi).toNat)
  case atStart => exact ⟨0, rfl, Nat.zero_le _, Lib.hid (Below.refl _ _)⟩
  case round =>
    obtain ⟨j, rfl, hj, HW⟩ := hrel
    rcases Nat.lt_or_ge j n with hlt | hge
    · have hlx : j < xs.length := by rw [← HNX.out]; exact hlt
      have hly : j < ys.length := by rw [← HNY.out]; exact hlt
      obtain ⟨b1, o1, rfl, hb1, x0, x1, x2, x3, x4⟩ := (HA.out.below (Nat.le_refl _) HW.out).cells5 hlx
      obtain ⟨b2, o2, rfl, hb2, y0, y1, y2, y3, y4⟩ := (HB.out.below (Nat.le_refl _) HW.out).cells5 hly
      have hlk := HL.out j hlx hly
      generalize xs[j] = t at *
      generalize ys[j] = s at *
      obtain ⟨tk, tt, tv, tl, tc⟩ := t
      obtain ⟨sk, st, sv, sl, sc⟩ := s
      obtain ⟨rfl, rfl, rfl⟩ : tk = sk ∧ tt = st ∧ tv = sv := hlk
      simp only at x0 x1 x2 x3 x4 y0 y1 y2 y3 y4
      clear hlx hly
      have hsz := HW.out.size
      have hz1 : b1 < wr.heap.size := by omega
      have hz2 : b2 < wr.heap.size := by omega
      go_wp2
      go_region
      all_goals go_wp2
      all_goals go_roundw
      case rel => exact ⟨j + 1, by go_num, by omega, Lib.hid (bel_lit (bel_lit HW.out _) _).drew⟩
      case measure => simp [intOf]; omega
      case rel => exact ⟨j + 1, by go_num, by omega, Lib.hid (bel_lit (bel_lit HW.out _) _).drew⟩
      case measure => simp [intOf]; omega
    · go_wp2
      go_ret
      exact ⟨rfl, HW.out⟩
end Go.Proofs.YthpcfidcpaikgaaDoor
