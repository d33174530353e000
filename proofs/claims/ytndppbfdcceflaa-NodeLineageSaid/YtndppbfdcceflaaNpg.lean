/-
  The library's Grow of no slice, and its Concat of two rows of Ids.
  Conditions: as each says.
-/
import Derived.Test.YtndppbfdcceflaaGrowShelf
import Derived.Test.YtndppbfdcceflaaNpe
namespace Go.Proofs.Ytndppbfdcceflaa

open Go.RowKit

theorem inf_id : ∃ i z, Try.prog.info? 24 = some i ∧ i.zero = some z ∧ i.size = 3 ∧ i.bytes = 24 ∧ z.cells.size = 3 := elt_id.inf
theorem growI_any (n : Nat) (h0 : 1 ≤ n) (hn : n ≤ 1000) (w : World) : Calls Try.prog 30 #[.slice none 0 0, .int .i64 n] w fun e w' => ∃ v, e = .returned v ∧ OwnG GId.cells 24 3 w' w.heap.size v [] ∧ Below w.heap.size w w' := by
  obtain ⟨i0, z, hi, hz, hs, hb, hc⟩ := inf_id
  refine Calls.mono (Any8.slices_Grow_grow Try.growI i0 z hi hz (by omega) none 0 0 n [] w (Nat.le_refl _) (by omega) (by rw [hb]; omega) (by omega) (by simp) (fun _ => rfl) (fun a h => by cases h)) ?_
  rintro e w' ⟨rfl, rfl⟩
  refine ⟨_, rfl, ⟨rfl, .inr ⟨w.heap.size, _, _, rfl, Nat.le_refl _, heap_alloc_new _ _, by simp, ?_, ?_, by simp [gcells]⟩⟩, ((Below.refl _ w).drew).alloc (by simp) _⟩
  · exact grownCap_le_maxLen _ _ _ _ (by unfold maxLen; omega)
  · have hg := grownCap_ge w (0 + n) 0 (Try.growI_ren.t 25)
    rw [Nat.zero_add] at hg
    simp [size_zeroCells, hc]
    omega
def sz3 (n m k : Nat) : Nat := if k = 0 then 0 else if k = 1 then n else n + m
def pt3 {α : Type} (xs ys : List α) (k : Nat) : List α := if k = 0 then [] else if k = 1 then xs else xs ++ ys
set_option maxRecDepth 20000 in
set_option maxHeartbeats 1000000 in
theorem catI_any (xs ys : List GId) (A B : Option Addr) (c1 c2 g d : Nat) (w : World) (hg0 : w.cell? ⟨g, 0, none⟩ = some (.slice A xs.length c1)) (hg1 : w.cell? ⟨g, 1, none⟩ = some (.slice B ys.length c2)) (hgl : g < w.heap.size) (h1 : GRow GId.cells 3 w w.heap.size A xs) (h2 : GRow GId.cells 3 w w.heap.size B ys) (hp : 1 ≤ xs.length + ys.length) (hq : xs.length + ys.length ≤ 1000) :
    Calls Try.prog 16 #[.slice (some ⟨g, 0, none⟩) 2 d] w fun e w' => ∃ v, e = .returned v ∧ OwnG GId.cells 24 3 w' w.heap.size v (xs ++ ys) ∧ Below w.heap.size w w' := by
  have HG := Lib.hid fun W => growI_any (xs.length + ys.length) hp hq W
  have HR1 := Lib.hid fun W (hW : Below w.heap.size w W) => h1.next hW
  have HR2 := Lib.hid fun W (hW : Below w.heap.size w W) => h2.next hW
  have HC0 : Hid (∀ W, Below w.heap.size w W → W.cell? ⟨g, 0, none⟩ = some (.slice A xs.length c1)) := Lib.hid fun W hW => (hW.cell (p := ⟨g, 0, none⟩) hgl).trans hg0
  have HC1 : Hid (∀ W, Below w.heap.size w W → W.cell? ⟨g, 1, none⟩ = some (.slice B ys.length c2)) := Lib.hid fun W hW => (hW.cell (p := ⟨g, 1, none⟩) hgl).trans hg1
  have HEND : Hid (∀ v W, OwnG GId.cells 24 3 W w.heap.size v (xs ++ ys) → Below w.heap.size w W → ∃ v', Ending.returned v = .returned v' ∧ OwnG GId.cells 24 3 W w.heap.size v' (xs ++ ys) ∧ Below w.heap.size w W) := Lib.hid fun v W ho hb => ⟨v, rfl, ho, hb⟩
  clear h1 h2 hg0 hg1
  go_enter Try.func16, Try.ntmps16
  go_wp2
  go_loopw [3, 11] (fun v3 v11 wr => ∃ (k : Nat) (z : Int), v11 = .int .i64 k ∧ k ≤ 2 ∧ v3 = .int .i64 z ∧ z = (sz3 xs.length ys.length k : Nat) ∧ Hid (w = wr)) (fun _ vi _ => 2 - (intOf vi).toNat)
  case atStart => exact ⟨0, 0, rfl, Nat.zero_le _, rfl, rfl, Lib.hid rfl⟩
  case round =>
    obtain ⟨k, z, rfl, hk, rfl, hz, HB⟩ := hrel
    obtain rfl := HB.out
    obtain rfl | rfl | rfl : k = 0 ∨ k = 1 ∨ k = 2 := by omega
    · have x0 := HC0.out _ (Below.refl _ _)
      obtain rfl : z = 0 := hz
      have f1 : decide ((xs.length : Int) < 0) = false := by simp
      go_wp2
      go_roundw
      case rel => exact ⟨1, _, rfl, by omega, rfl, by simp [sz3], Lib.hid (by trivial)⟩
      case measure => simp [intOf]
    · have x0 := HC1.out _ (Below.refl _ _)
      obtain rfl : z = (xs.length : Int) := hz
      have f1 : decide ((xs.length : Int) + (ys.length : Int) < 0) = false := by simp; omega
      go_wp2
      go_roundw
      case rel => exact ⟨2, _, rfl, by omega, rfl, by simp [sz3], Lib.hid (by trivial)⟩
      case measure => simp [intOf]
    · obtain rfl : z = ((xs.length + ys.length : Nat) : Int) := hz
      go_wp2_with fail
      go_fit (HG.out _)
      rintro e w1 ⟨v, rfl, ho, hb⟩
      have HO0 := Lib.hid ho
      have HB0 := Lib.hid hb
      clear ho hb HG
      go_wp2
      go_loopw [6, 27] (fun v6 v27 wr => ∃ k : Nat, v27 = .int .i64 k ∧ k ≤ 2 ∧ Hid (OwnG GId.cells 24 3 wr w.heap.size v6 (pt3 xs ys k)) ∧ Hid (Below w.heap.size w wr)) (fun _ vi _ => 2 - (intOf vi).toNat)
      case atStart => exact ⟨0, rfl, Nat.zero_le _, HO0, HB0⟩
      case round =>
        obtain ⟨k, rfl, hk, HO, HB⟩ := hrel
        obtain rfl | rfl | rfl : k = 0 ∨ k = 1 ∨ k = 2 := by omega
        · have x0 := HC0.out _ HB.out
          obtain ⟨v', w', hrun, hown, hg, _⟩ := OwnG.app elt_id GId.len GId.one HO.out c1 (HR1.out _ HB.out) HB.out.size (by unfold maxLen; simp [pt3]; omega) (by simp [pt3]; omega)
          have HRUN := Lib.hid hrun
          have HO2 : Hid (OwnG GId.cells 24 3 w' w.heap.size v' (pt3 xs ys 1)) := Lib.hid (by simpa [pt3] using hown)
          have HB2 : Hid (Below w.heap.size w w') := Lib.hid (HB.out.grown hg HB.out.size fun g e => (HO.out.lt g e).1)
          clear hrun hown hg
          go_wp2_with (at_builtin; refine wpList_gapp HRUN.out rfl rfl rfl rfl rfl ?_)
          go_roundw
          case rel => exact ⟨1, rfl, by omega, HO2, HB2⟩
          case measure => simp [intOf]
        · have x0 := HC1.out _ HB.out
          obtain ⟨v', w', hrun, hown, hg, _⟩ := OwnG.app elt_id GId.len GId.one HO.out c2 (HR2.out _ HB.out) HB.out.size (by unfold maxLen; simp [pt3]; omega) (by simp [pt3]; omega)
          have HRUN := Lib.hid hrun
          have HO2 : Hid (OwnG GId.cells 24 3 w' w.heap.size v' (pt3 xs ys 2)) := Lib.hid (by simpa [pt3] using hown)
          have HB2 : Hid (Below w.heap.size w w') := Lib.hid (HB.out.grown hg HB.out.size fun g e => (HO.out.lt g e).1)
          clear hrun hown hg
          go_wp2_with (at_builtin; refine wpList_gapp HRUN.out rfl rfl rfl rfl rfl ?_)
          go_roundw
          case rel => exact ⟨2, rfl, by omega, HO2, HB2⟩
          case measure => simp [intOf]
        · go_wp2
          go_ret
          exact HEND.out _ _ HO.out HB.out
end Go.Proofs.Ytndppbfdcceflaa
