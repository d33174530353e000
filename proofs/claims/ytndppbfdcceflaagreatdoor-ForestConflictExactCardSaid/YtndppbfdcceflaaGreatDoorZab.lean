/-
  The reference's Find, At and copies of entries.
  Conditions: none.
-/
import Derived.Test.YtndppbfdcceflaaGreatDoorZfp
import Derived.Test.YtndppbfdcceflaaGreatDoorNad
namespace Go.Proofs.YtndppbfdcceflaaGreatDoor
open Go.RowKit

set_option maxRecDepth 20000 in
set_option maxHeartbeats 1000000 in
theorem rFindE_any (xs : List GV) (A : Option Addr) (c : Nat) (x : GId) (w : World) (h1 : GRow GV.cells 13 w w.heap.size A xs) (hl : xs.length ≤ 17179869184) :
    Calls Tryz.prog 24 #[.slice A xs.length c, x.val] w fun e w' => e = .returned (.int .i64 (fidx (pid x) (xs.map GV.e))) ∧ Below w.heap.size w w' := by
  have hb0 := belt (Below.refl _ w) (.cells #[.int .i64 x.core, .int .i64 x.op, .int .i64 x.part] 25)
  have H1 := Lib.hid (h1.next hb0)
  have HX := Lib.hid (IB.new w x)
  have HB0 := Lib.hid hb0
  rw [fidx_map]
  have HQ1 : Hid (∀ k (hk : k < xs.length), (∀ j (hj : j < xs.length), j < k → pid x xs[j].e = false) → pid x xs[k].e = true → fidx (fun y => pid x y.e) xs = k) := Lib.hid fun k hk h0 h1 => fidx_found hk h0 h1
  have HQ2 : Hid ((∀ j (hj : j < xs.length), pid x xs[j].e = false) → fidx (fun y => pid x y.e) xs = -1) := Lib.hid fun h => fidx_none h
  have HEQ := Lib.hid fun k (hk : k < xs.length) W => id_eql xs[k].e.node.id x W
  have HES : Hid (∀ k (hk : k < xs.length), pid x xs[k].e = eqI xs[k].e.node.id x) := Lib.hid fun k hk => rfl
  generalize fidx (fun y => pid x y.e) xs = q at *
  clear h1 hb0
  obtain ⟨xc, xo, xp⟩ := x
  simp only [GId.val] at *
  go_enter Tryz.func24, Tryz.ntmps24
  go_wp2
  generalize w.alloc (.cells #[.int .i64 xc, .int .i64 xo, .int .i64 xp] 25) = w1 at *
  go_loopw [5] (fun vi wr => ∃ k : Nat, vi = .int .i64 k ∧ k ≤ xs.length ∧ Hid (∀ j (hj : j < xs.length), j < k → pid ⟨xc, xo, xp⟩ xs[j].e = false) ∧ Hid (Below w1.heap.size w1 wr)) (fun vi _ => xs.length - (intOf vi).toNat)
  case atStart => exact ⟨0, rfl, Nat.zero_le _, Lib.hid fun j _ hj => absurd hj (by omega), Lib.hid (Below.refl _ _)⟩
  case round =>
    obtain ⟨k, rfl, hk, HT, HB⟩ := hrel
    rcases Nat.lt_or_ge k xs.length with hlt | hge
    · obtain ⟨b1, o1, rfl, hb1, ⟨_, _, x0, x1, x2, _, _, _, _, _, _, _, _⟩⟩ := (H1.out.next HB.out).gev hlt
      obtain ⟨y0, y1, y2⟩ := (HX.out.next HB.out).cells
      simp only at y0 y1 y2
      have HBD := Lib.hid HB.out.drew
      have HE := Lib.hid fun W => HEQ.out k hlt W
      have hes := HES.out k hlt
      rcases he : eqI xs[k].e.node.id ⟨xc, xo, xp⟩ with _ | _
      · have HT2 : Hid (∀ j (hj : j < xs.length), j < k + 1 → pid ⟨xc, xo, xp⟩ xs[j].e = false) := Lib.hid fun j hj hjk => by
          rcases Nat.lt_or_ge j k with h | h
          · exact HT.out j hj h
          · obtain rfl : j = k := by omega
            rw [hes, he]
        rw [he] at HE
        have heq := fun W => HE.out W
        clear he hes HE HT
        generalize xs[k].e.node.id = y at *
        obtain ⟨yc, yo, yp⟩ := y
        simp only at heq x0 x1 x2
        go_upto_region 4 with fail
        go_region
        clear heq x0 x1 x2 y0 y1 y2
        go_wp2
        go_roundw
        case rel => exact ⟨k + 1, by go_num, by omega, HT2, HBD⟩
        case measure => simp [intOf]; omega
      · have HF : Hid (q = k) := Lib.hid (HQ1.out k hlt (fun j hj hjk => HT.out j hj hjk) (by rw [hes, he]))
        rw [he] at HE
        have heq := fun W => HE.out W
        clear he hes HE HT
        generalize xs[k].e.node.id = y at *
        obtain ⟨yc, yo, yp⟩ := y
        simp only at heq x0 x1 x2
        have HBE := Lib.hid (HB0.out.trans (Below.mono HBD.out HB0.out.size))
        go_upto_region 4 with fail
        go_region
        clear heq x0 x1 x2 y0 y1 y2
        go_wp2
        go_ret
        exact ⟨congrArg (fun b => Ending.returned (Value.int .i64 b)) HF.out.symm, HBE.out⟩
    · have HF : Hid (q = -1) := Lib.hid (HQ2.out fun j hj => HT.out j hj (by omega))
      have HBE := Lib.hid (HB0.out.trans (Below.mono HB.out HB0.out.size))
      go_wp2
      go_ret
      exact ⟨congrArg (fun b => Ending.returned (Value.int .i64 b)) HF.out.symm, HBE.out⟩
set_option maxRecDepth 20000 in
set_option maxHeartbeats 1000000 in
theorem rAtE_any (xs : List GV) (A : Option Addr) (c : Nat) (p s : Int) (w : World) (h1 : GRow GV.cells 13 w w.heap.size A xs) (hl : xs.length ≤ 17179869184) :
    Calls Tryz.prog 25 #[.slice A xs.length c, .int .i64 p, .int .i64 s] w fun e w' => e = .returned (.int .i64 (fidx (pat p s) (xs.map GV.e))) ∧ Below w.heap.size w w' := by
  have H1 := Lib.hid h1
  rw [fidx_map]
  have HQ1 : Hid (∀ k (hk : k < xs.length), (∀ j (hj : j < xs.length), j < k → pat p s xs[j].e = false) → pat p s xs[k].e = true → fidx (fun y => pat p s y.e) xs = k) := Lib.hid fun k hk h0 h1 => fidx_found hk h0 h1
  have HQ2 : Hid ((∀ j (hj : j < xs.length), pat p s xs[j].e = false) → fidx (fun y => pat p s y.e) xs = -1) := Lib.hid fun h => fidx_none h
  have HES : Hid (∀ k (hk : k < xs.length), pat p s xs[k].e = (xs[k].e.core == p && xs[k].e.slot == s)) := Lib.hid fun k hk => rfl
  generalize fidx (fun y => pat p s y.e) xs = q at *
  clear h1
  go_enter Tryz.func25, Tryz.ntmps25
  go_wp2
  go_loopw [7] (fun vi wr => ∃ k : Nat, vi = .int .i64 k ∧ k ≤ xs.length ∧ Hid (∀ j (hj : j < xs.length), j < k → pat p s xs[j].e = false) ∧ Hid (Below w.heap.size w wr)) (fun vi _ => xs.length - (intOf vi).toNat)
  case atStart => exact ⟨0, rfl, Nat.zero_le _, Lib.hid fun j _ hj => absurd hj (by omega), Lib.hid (Below.refl _ _)⟩
  case round =>
    obtain ⟨k, rfl, hk, HT, HB⟩ := hrel
    rcases Nat.lt_or_ge k xs.length with hlt | hge
    · obtain ⟨b1, o1, rfl, hb1, ⟨x0, x1, _, _, _, _, _, _, _, _, _, _, _⟩⟩ := (H1.out.next HB.out).gev hlt
      have hes := HES.out k hlt
      by_cases h5 : xs[k].e.core = p
      · by_cases h6 : xs[k].e.slot = s
        · have HF : Hid (q = k) := Lib.hid (HQ1.out k hlt (fun j hj hjk => HT.out j hj hjk) (by rw [hes, h5, h6]; simp))
          rw [h5] at x0
          rw [h6] at x1
          clear h5 h6 hes HT
          go_wp2
          go_ret
          exact ⟨congrArg (fun b => Ending.returned (Value.int .i64 b)) HF.out.symm, HB.out⟩
        · have HT2 : Hid (∀ j (hj : j < xs.length), j < k + 1 → pat p s xs[j].e = false) := Lib.hid fun j hj hjk => by
            rcases Nat.lt_or_ge j k with h | h
            · exact HT.out j hj h
            · obtain rfl : j = k := by omega
              rw [hes, h5]; simp [h6]
          have f6 : (xs[k].e.slot == s) = false := by simpa using h6
          rw [h5] at x0
          clear h5 h6 hes HT
          generalize xs[k].e.slot = y at *
          go_wp2
          go_roundw
          case rel => exact ⟨k + 1, by go_num, by omega, HT2, HB⟩
          case measure => simp [intOf]; omega
      · have HT2 : Hid (∀ j (hj : j < xs.length), j < k + 1 → pat p s xs[j].e = false) := Lib.hid fun j hj hjk => by
          rcases Nat.lt_or_ge j k with h | h
          · exact HT.out j hj h
          · obtain rfl : j = k := by omega
            rw [hes]; simp [h5]
        have f5 : (xs[k].e.core == p) = false := by simpa using h5
        clear h5 hes HT
        generalize xs[k].e.core = y at *
        go_wp2
        go_roundw
        case rel => exact ⟨k + 1, by go_num, by omega, HT2, HB⟩
        case measure => simp [intOf]; omega
    · have HF : Hid (q = -1) := Lib.hid (HQ2.out fun j hj => HT.out j hj (by omega))
      go_wp2
      go_ret
      exact ⟨congrArg (fun b => Ending.returned (Value.int .i64 b)) HF.out.symm, HB.out⟩
/-- A copy: the same node, its path a slice of the call's own. -/
def CpyOwn (x : GN) (w : World) (e : Ending) (w' : World) : Prop := ∃ A c, e = .returned (x.val A c) ∧ x.path.length ≤ c ∧ OwnG GId.cells 25 3 w' w.heap.size (.slice A x.path.length c) x.path ∧ Below w.heap.size w w'
set_option maxRecDepth 20000 in
theorem rCpnO_any (x : GN) (A : Option Addr) (c : Nat) (w : World) (h1 : PRow w w.heap.size A x.path) (hl : x.path.length ≤ 17179869184) :
    Calls Tryz.prog 52 #[x.val A c] w (CpyOwn x w) := by
  have HC := Lib.hid fun W (hW : Below w.heap.size w W) => rCopy_any x.path A c W (h1.next hW) hl
  have HX := Lib.hid (NB.new w x.id A x.path.length c x.cap)
  have HEND : Hid (∀ A' c' (W : World), x.path.length ≤ c' → OwnG GId.cells 25 3 W w.heap.size (.slice A' x.path.length c') x.path → Below w.heap.size w W → CpyOwn x w (.returned (.agg #[.int .i64 x.id.core, .int .i64 x.id.op, .int .i64 x.id.part, .slice A' x.path.length c', .int .i64 x.cap.kind, .int .i64 x.cap.base, .int .i64 x.cap.bits, .int .i64 x.cap.rights, .int .i64 x.cap.width, .int .i64 x.cap.level, .bool x.cap.device])) W) := Lib.hid fun A' c' W hcc hr hb => ⟨A', c', rfl, hcc, hr, hb⟩
  generalize CpyOwn x w = EE at *
  unfold GN.val
  generalize hn : x.path.length = n at *
  generalize hi : x.id = xi at *
  generalize hc : x.cap = xc at *
  obtain ⟨i0, i1, i2⟩ := xi
  obtain ⟨a0, a1, a2, a3, a4, a5, a6⟩ := xc
  clear h1 hl hi hc
  simp only at HX HEND ⊢
  go_enter Tryz.func52, Tryz.ntmps52
  have HB0 := Lib.hid (belt (belt (Below.refl _ w) (.cells #[.int .i64 i0, .int .i64 i1, .int .i64 i2, .slice A n c, .int .i64 a0, .int .i64 a1, .int .i64 a2, .int .i64 a3, .int .i64 a4, .int .i64 a5, .bool a6] 30)) (.cells #[.int .i64 0, .int .i64 0, .int .i64 0, .slice none 0 0, .int .i64 0, .int .i64 0, .int .i64 0, .int .i64 0, .int .i64 0, .int .i64 0, .bool false] 30))
  have HX0 := Lib.hid (HX.out.next (belt (Below.refl _ (w.alloc (.cells #[.int .i64 i0, .int .i64 i1, .int .i64 i2, .slice A n c, .int .i64 a0, .int .i64 a1, .int .i64 a2, .int .i64 a3, .int .i64 a4, .int .i64 a5, .bool a6] 30))) (.cells #[.int .i64 0, .int .i64 0, .int .i64 0, .slice none 0 0, .int .i64 0, .int .i64 0, .int .i64 0, .int .i64 0, .int .i64 0, .int .i64 0, .bool false] 30)))
  have HZ0 : Hid (NB ((w.alloc (.cells #[.int .i64 i0, .int .i64 i1, .int .i64 i2, .slice A n c, .int .i64 a0, .int .i64 a1, .int .i64 a2, .int .i64 a3, .int .i64 a4, .int .i64 a5, .bool a6] 30)).alloc (.cells #[.int .i64 0, .int .i64 0, .int .i64 0, .slice none 0 0, .int .i64 0, .int .i64 0, .int .i64 0, .int .i64 0, .int .i64 0, .int .i64 0, .bool false] 30)) (w.heap.size + 1) ⟨0, 0, 0⟩ none 0 0 ⟨0, 0, 0, 0, 0, 0, false⟩) := Lib.hid (by
    have h := NB.new (w.alloc (.cells #[.int .i64 i0, .int .i64 i1, .int .i64 i2, .slice A n c, .int .i64 a0, .int .i64 a1, .int .i64 a2, .int .i64 a3, .int .i64 a4, .int .i64 a5, .bool a6] 30)) ⟨0, 0, 0⟩ none 0 0 ⟨0, 0, 0, 0, 0, 0, false⟩
    simpa using h)
  have HS : ∀ (W : World) (p : Value) (k : Nat), w.heap.size ≤ k → Below w.heap.size w W → ∀ j, Below w.heap.size w (W.setCell ⟨k, j, none⟩ p) := fun W p k hk hb j => hb.setCell (p := ⟨k, j, none⟩) hk p
  have HSC := Lib.hid HS
  clear HS HX
  go_wp2_with fail
  go_fit (HC.out _ HB0.out)
  rintro e w1 ⟨v, rfl, ho, hb1⟩
  obtain ⟨A', c', rfl, hcc, _, hr⟩ := ho.row GId.len
  rw [hn] at hcc ⊢
  have HX1 := Lib.hid (HX0.out.next hb1)
  have HZ1 := Lib.hid (HZ0.out.next hb1)
  have HB1 := Lib.hid (beln HB0.out hb1)
  have HE1 := Lib.hid fun W => HEND.out A' c' W hcc
  have HO1 := Lib.hid ho
  have HSO : Hid (∀ (W : World) (g j : Nat) (u : Value), g < w.heap.size + 2 → OwnG GId.cells 25 3 W (w.heap.size + 2) (.slice A' x.path.length c') x.path → OwnG GId.cells 25 3 (W.setCell ⟨g, j, none⟩ u) (w.heap.size + 2) (.slice A' x.path.length c') x.path) := Lib.hid fun W g j u hg h => h.setOther hg j u
  rw [hn] at HO1 HSO
  have HFIN : Hid (∀ W : World, OwnG GId.cells 25 3 W (w.heap.size + 2) (.slice A' n c') x.path → Below w.heap.size w W → EE (.returned (.agg #[.int .i64 i0, .int .i64 i1, .int .i64 i2, .slice A' n c', .int .i64 a0, .int .i64 a1, .int .i64 a2, .int .i64 a3, .int .i64 a4, .int .i64 a5, .bool a6])) W) := Lib.hid fun W hO hB => HE1.out W (hO.low (by omega)) hB
  have HO2 : Hid (OwnG GId.cells 25 3 w1 (w.heap.size + 2) (.slice A' n c') x.path) := Lib.hid (by
    simpa using HO1.out)
  clear ho hb1 hr HC HO1 HE1 HEND HX0 HZ0 HB0
  obtain ⟨c0, c1, c2, c3, c4, c5, c6, c7, c8, c9, c10⟩ := HX1.out.cells
  obtain ⟨z0, z1, z2, z3, z4, z5, z6, z7, z8, z9, z10⟩ := HZ1.out.cells
  have cf := HX1.out.frz
  have zf := HZ1.out.frz
  have cl := HX1.out.lt
  have zl := HZ1.out.lt
  simp only at c0 c1 c2 c3 c4 c5 c6 c7 c8 c9 c10 z0 z1 z2 z3 z4 z5 z6 z7 z8 z9 z10
  go_wp2
  refine bodyPost_ret (v := .agg #[.int .i64 i0, .int .i64 i1, .int .i64 i2, .slice A' n c', .int .i64 a0, .int .i64 a1, .int .i64 a2, .int .i64 a3, .int .i64 a4, .int .i64 a5, .bool a6]) (by simp [results, Tryz.results52, go_sem, z0, z1, z2, z3, z4, z5, z6, z7, z8, z9, z10]) rfl ?_
  refine HFIN.out _ ?_ ?_
  · repeat (refine HSO.out _ _ _ _ (by omega) ?_)
    exact HO2.out
  · repeat (refine HSC.out _ _ _ (by omega) ?_ _)
    exact HB1.out
end Go.Proofs.YtndppbfdcceflaaGreatDoor
