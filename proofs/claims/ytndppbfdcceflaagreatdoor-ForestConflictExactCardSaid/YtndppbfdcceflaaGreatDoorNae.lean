/-
  The reference's ParentOf.
  Conditions: none.
-/
import Derived.Test.YtndppbfdcceflaaGreatDoorNad
namespace Go.Proofs.YtndppbfdcceflaaGreatDoor

open Go.RowKit

/-- The last of xs that is among ls. -/
def parO (xs ls : List GId) : Option GId := xs.reverse.find? fun x => hasI ls x
def parB (xs ls : List GId) : Bool := (parO xs ls).isSome
def parI (xs ls : List GId) : GId := (parO xs ls).getD ⟨0, 0, 0⟩
theorem parO_succ (xs ls : List GId) (k : Nat) (hk : k < xs.length) : parO (xs.take (k + 1)) ls = if hasI ls xs[k] = true then some xs[k] else parO (xs.take k) ls := by
  unfold parO
  rw [List.take_succ_eq_append_getElem hk, List.reverse_append, List.reverse_singleton, List.singleton_append, List.find?_cons]
  cases hasI ls xs[k] <;> rfl
theorem par_some {xs ls : List GId} {x : GId} (h : parO xs ls = some x) : parI xs ls = x ∧ parB xs ls = true := by unfold parI parB; rw [h]; exact ⟨rfl, rfl⟩
theorem par_none {xs ls : List GId} (h : parO xs ls = none) : parI xs ls = ⟨0, 0, 0⟩ ∧ parB xs ls = false := by unfold parI parB; rw [h]; exact ⟨rfl, rfl⟩
set_option maxRecDepth 20000 in
set_option maxHeartbeats 1000000 in
theorem rPar_any (x : GN) (A : Option Addr) (c : Nat) (ls : List GId) (L : Option Addr) (d : Nat) (w : World) (h1 : PRow w w.heap.size A x.path) (h2 : PRow w w.heap.size L ls) (hl : x.path.length ≤ 17179869184) (hl2 : ls.length ≤ 17179869184) :
    Calls Tryz.prog 62 #[x.val A c, .slice L ls.length d] w fun e w' => e = .returned (.tuple #[(parI x.path ls).val, .bool (parB x.path ls)]) ∧ Below w.heap.size w w' := by
  have HROW := Lib.hid fun W (hW : Below w.heap.size w W) => h1.next hW
  have HH := Lib.hid fun (y : GId) W (hW : Below w.heap.size w W) => rHas_any ls L d y W (h2.next hW) hl2
  have HN0 := Lib.hid (NB.new w x.id A x.path.length c x.cap)
  have HPS := Lib.hid fun q (h : parO x.path ls = some q) => par_some h
  have HPN := Lib.hid (par_none (xs := x.path) (ls := ls))
  have HSU := Lib.hid (parO_succ x.path ls)
  have HPO : Hid (parO x.path ls = parO (x.path.take x.path.length) ls) := Lib.hid (by rw [List.take_length])
  have HP0 : Hid (parO (x.path.take 0) ls = none) := Lib.hid rfl
  generalize parI x.path ls = pi at *
  generalize parB x.path ls = pb at *
  generalize parO x.path ls = po at *
  unfold GN.val
  generalize x.id = xi at *
  generalize x.cap = xc at *
  obtain ⟨i0, i1, i2⟩ := xi
  obtain ⟨a0, a1, a2, a3, a4, a5, a6⟩ := xc
  generalize x.path = xs at *
  clear h1 h2
  simp only [GId.val] at *
  have HBW := Lib.hid (belt (belt (Below.refl _ w) (.cells #[.int .i64 i0, .int .i64 i1, .int .i64 i2, .slice A xs.length c, .int .i64 a0, .int .i64 a1, .int .i64 a2, .int .i64 a3, .int .i64 a4, .int .i64 a5, .bool a6] 30)) (.cells #[.int .i64 0, .int .i64 0, .int .i64 0] 25))
  have HN1 := Lib.hid (HN0.out.next (belt (Below.refl _ (w.alloc (.cells #[.int .i64 i0, .int .i64 i1, .int .i64 i2, .slice A xs.length c, .int .i64 a0, .int .i64 a1, .int .i64 a2, .int .i64 a3, .int .i64 a4, .int .i64 a5, .bool a6] 30))) (.cells #[.int .i64 0, .int .i64 0, .int .i64 0] 25)))
  have HI1 : Hid (IB ((w.alloc (.cells #[.int .i64 i0, .int .i64 i1, .int .i64 i2, .slice A xs.length c, .int .i64 a0, .int .i64 a1, .int .i64 a2, .int .i64 a3, .int .i64 a4, .int .i64 a5, .bool a6] 30)).alloc (.cells #[.int .i64 0, .int .i64 0, .int .i64 0] 25)) (w.heap.size + 1) ⟨0, 0, 0⟩) := Lib.hid (by
    have h := IB.new (w.alloc (.cells #[.int .i64 i0, .int .i64 i1, .int .i64 i2, .slice A xs.length c, .int .i64 a0, .int .i64 a1, .int .i64 a2, .int .i64 a3, .int .i64 a4, .int .i64 a5, .bool a6] 30)) ⟨0, 0, 0⟩
    simpa using h)
  have HSC : Hid (∀ (W : World) (p : Value) (k : Nat), w.heap.size ≤ k → Below w.heap.size w W → ∀ j, Below w.heap.size w (W.setCell ⟨k, j, none⟩ p)) := Lib.hid fun W p k hk hb j => hb.setCell (p := ⟨k, j, none⟩) hk p
  clear HN0
  obtain ⟨d0, d1, d2, d3, d4, d5, d6, d7, d8, d9, d10⟩ := HN1.out.cells
  try simp only at d3
  clear d0 d1 d2 d4 d5 d6 d7 d8 d9 d10
  go_enter Tryz.func62, Tryz.ntmps62
  go_wp2
  generalize (w.alloc (.cells #[.int .i64 i0, .int .i64 i1, .int .i64 i2, .slice A xs.length c, .int .i64 a0, .int .i64 a1, .int .i64 a2, .int .i64 a3, .int .i64 a4, .int .i64 a5, .bool a6] 30)).alloc (.cells #[.int .i64 0, .int .i64 0, .int .i64 0] 25) = w1 at *
  clear d3
  go_loopw [6] (fun vi wr => ∃ (k : Nat) (vz : Int), vi = .int .i64 vz ∧ vz = (k : Int) - 1 ∧ k ≤ xs.length ∧ Hid (po = parO (xs.take k) ls) ∧ Hid (Below w1.heap.size w1 wr)) (fun vi _ => (intOf vi + 1).toNat)
  case atStart => exact ⟨xs.length, _, rfl, rfl, Nat.le_refl _, HPO, Lib.hid (Below.refl _ _)⟩
  case round =>
    obtain ⟨k, vz, rfl, hz, hk, HT, HB⟩ := hrel
    obtain ⟨d0, d1, d2, d3, d4, d5, d6, d7, d8, d9, d10⟩ := (HN1.out.next HB.out).cells
    try simp only at d3
    clear d0 d1 d2 d4 d5 d6 d7 d8 d9 d10
    obtain ⟨z0, z1, z2⟩ := (HI1.out.next HB.out).cells
    have zf := (HI1.out.next HB.out).frz
    have zl := (HI1.out.next HB.out).lt
    try simp only at z0 z1 z2
    have HB2 := Lib.hid (beln HBW.out HB.out)
    rcases k with _ | k
    · obtain rfl : vz = -1 := by omega
      obtain ⟨e1, e2⟩ := HPN.out (HT.out.trans HP0.out)
      clear hz HT HPN HPS
      subst e1 e2
      go_wp2
      refine bodyPost_ret (v := .tuple #[.agg #[.int .i64 0, .int .i64 0, .int .i64 0], .bool false]) (by simp [results, Tryz.results62, go_sem, z0, z1, z2]) rfl ?_
      refine ⟨rfl, ?_⟩
      repeat (refine HSC.out _ _ _ (by omega) ?_ _)
      exact HB2.out
    · obtain rfl : vz = (k : Int) := by omega
      have hlt : k < xs.length := by omega
      obtain ⟨b1, o1, rfl, hb1, x0, x1, x2⟩ := (HROW.out _ HB2.out).gid hlt
      have HHK := Lib.hid (HH.out xs[k])
      have HSK := Lib.hid (HT.out.trans (HSU.out k hlt))
      clear HT HH HSU hz
      generalize hasI ls xs[k] = hk1 at *
      generalize xs[k] = y at *
      obtain ⟨yc, yo, yp⟩ := y
      simp only at HHK x0 x1 x2
      have f1 : decide ((k : Int) < (xs.length : Int)) = true := by simp; omega
      have f0 : 0 ≤ (k : Int) := by omega
      go_wp2_with fail
      go_fit (HHK.out _ (HB2.out))
      rintro e w2 ⟨rfl, hb2⟩
      have t3 := (hb2.cell (p := ⟨w.heap.size, 3, none⟩) (by simp; omega)).trans d3
      have y0 := (hb2.cell (p := ⟨b1, o1 + k * 3, none⟩) hb1).trans x0
      have y1 := (hb2.cell (p := ⟨b1, o1 + k * 3 + 1, none⟩) hb1).trans x1
      have y2 := (hb2.cell (p := ⟨b1, o1 + k * 3 + 2, none⟩) hb1).trans x2
      have s0 := (hb2.cell (p := ⟨w.heap.size + 1, 0, none⟩) zl).trans z0
      have s1 := (hb2.cell (p := ⟨w.heap.size + 1, 1, none⟩) zl).trans z1
      have s2 := (hb2.cell (p := ⟨w.heap.size + 1, 2, none⟩) zl).trans z2
      have sf := (HI1.out.next (beln HB.out hb2)).frz
      have HB3 := Lib.hid (beln HB2.out hb2)
      have HB4 := Lib.hid (beln HB.out hb2)
      clear hb2 HHK x0 x1 x2 d3 z0 z1 z2 zf HN1 HI1 HROW
      rcases hk1 with _ | _
      · have HT2 : Hid (po = parO (xs.take k) ls) := Lib.hid (by rw [HSK.out]; rfl)
        clear HSK
        go_wp2
        go_roundw
        case rel => exact ⟨k, (k : Int) - 1, by go_num, rfl, by omega, HT2, HB4⟩
        case measure => simp [intOf]
      · obtain ⟨e1, e2⟩ := HPS.out _ (HSK.out.trans rfl)
        subst e1 e2
        clear HSK HPS HPN
        go_wp2
        refine bodyPost_ret (v := .tuple #[.agg #[.int .i64 yc, .int .i64 yo, .int .i64 yp], .bool true]) (by simp [results, Tryz.results62, go_sem, s0, s1, s2]) rfl ?_
        refine ⟨rfl, ?_⟩
        repeat (refine HSC.out _ _ _ (by omega) ?_ _)
        exact HB3.out
end Go.Proofs.YtndppbfdcceflaaGreatDoor
