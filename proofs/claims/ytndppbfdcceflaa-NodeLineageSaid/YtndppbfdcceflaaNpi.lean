/-
  The program's appendId, and the library's Concat of two rows of bytes.
  Conditions: as each says.
-/
import Derived.Test.YtndppbfdcceflaaNph
import Derived.Test.YtndppbfdcceflaaNah
import Derived.Test.YtndppbfdcceflaaMcf
namespace Go.Proofs.Ytndppbfdcceflaa

open Go.RowKit

theorem rowAt_own {w : World} {g base : Nat} {l : List UInt8} (h : RowAt w g (vals l)) (hb : base ≤ g) (hl : l.length ≤ 1000000) : Own w base (.slice (some ⟨g, 0, none⟩) l.length l.length) l := by
  refine ⟨by simp [length_vals], .inr ⟨g, _, _, rfl, hb, h, Nat.le_refl _, by unfold maxLen; omega, by simp [length_vals], ?_⟩⟩
  rw [show l.length * 1 = (vals l).length by rw [length_vals, Nat.mul_one]]
  simp
/-- A new slice of bytes, in memory of the call's own. -/
def NewEnd (l : List UInt8) (w : World) (e : Ending) (w' : World) : Prop := ∃ v, e = .returned v ∧ Own w' w.heap.size v l ∧ Below w.heap.size w w'
theorem appU_own (A : Option Addr) (n c v : Nat) (l : List UInt8) (w : World) (h : Byt w w.heap.size A n l) (hn : n ≤ 100000) (hv : v < 18446744073709551616) :
    Calls Try.prog 19 #[.slice A n c, .int .u64 (v : Int)] w (NewEnd (l ++ uvar v) w) := by
  refine Calls.mono (appU_any A n c w.heap.size v l w h (Nat.le_refl _) (by omega) hv) ?_
  rintro e w' ⟨g, rfl, hg, hr, hb⟩
  have hl := uvar_len v
  have e : (l ++ uvar v).length = n + (uvar v).length := by rw [List.length_append, h.1]
  have ho := rowAt_own hr hg (by omega)
  rw [e] at ho
  exact ⟨_, rfl, ho, hb⟩
theorem tri_index0 (a b c : Value) (W : World) : (Instr.index 66 (.agg #[a, b, c]) (.int .i64 0)).run Try.prog W = .ok a W := by kernel_rfl
theorem tri_index1 (a b c : Value) (W : World) : (Instr.index 66 (.agg #[a, b, c]) (.int .i64 1)).run Try.prog W = .ok b W := by kernel_rfl
theorem tri_index2 (a b c : Value) (W : World) : (Instr.index 66 (.agg #[a, b, c]) (.int .i64 2)).run Try.prog W = .ok c W := by kernel_rfl
def idPt (l : List UInt8) (x : GId) (k : Nat) : List UInt8 := if k = 0 then l else if k = 1 then l ++ uvar x.core.toNat else if k = 2 then l ++ uvar x.core.toNat ++ uvar x.op.toNat else l ++ uvar x.core.toNat ++ uvar x.op.toNat ++ uvar x.part.toNat
theorem idPt_len (l : List UInt8) (x : GId) (k : Nat) : (idPt l x k).length ≤ l.length + 30 := by
  have h1 := uvar_len x.core.toNat; have h2 := uvar_len x.op.toNat; have h3 := uvar_len x.part.toNat
  unfold idPt
  (repeat' split) <;> (try simp only [List.length_append]) <;> omega
set_option maxRecDepth 20000 in
set_option maxHeartbeats 2000000 in
theorem pAppI_any (x : GId) (A : Option Addr) (n c : Nat) (l : List UInt8) (w : World) (h : Byt w w.heap.size A n l) (hn : n ≤ 90000) (hx : vI x = true) :
    Calls Try.prog 20 #[.slice A n c, x.val] w (NewEnd (l ++ idL x) w) := by
  obtain ⟨c0, c1, o0, o1, p0, p1⟩ := vI_iff.1 hx
  have HEND : Hid (∀ v' W, Own W w.heap.size v' (idPt l x 3) → Below w.heap.size w W → NewEnd (l ++ idL x) w (.returned v') W) := Lib.hid fun v' W h1 h2 => ⟨v', rfl, by
    have e : idPt l x 3 = l ++ idL x := by simp [idPt, idL]
    rwa [← e], h2⟩
  have hb0 := belt (Below.refl _ w) (.cells #[.int .i64 x.core, .int .i64 x.op, .int .i64 x.part] 24)
  have HB0 := Lib.hid hb0
  have HBY : Hid (∀ W, Below w.heap.size w W → Byt W W.heap.size A n l) := Lib.hid fun W hW => (h.below hW).wide hW.size
  have HLE := Lib.hid (idPt_len l x)
  have HLN := Lib.hid h.1
  have HU : Hid (∀ k A' n' c' W, Byt W W.heap.size A' n' (idPt l x k) → ∀ v : Nat, v < 18446744073709551616 → Calls Try.prog 19 #[.slice A' n' c', .int .u64 (v : Int)] W (NewEnd (idPt l x k ++ uvar v) W)) := Lib.hid fun k A' n' c' W hW v hv => appU_own A' n' c' v _ W hW (by have h1 := idPt_len l x k; have h2 := h.1; have h3 := hW.1; omega) hv
  have HP0 : Hid (idPt l x 0 = l) := Lib.hid rfl
  have HP1 : Hid (idPt l x 0 ++ uvar x.core.toNat = idPt l x 1) := Lib.hid rfl
  have HP2 : Hid (idPt l x 1 ++ uvar x.op.toNat = idPt l x 2) := Lib.hid rfl
  have HP3 : Hid (idPt l x 2 ++ uvar x.part.toNat = idPt l x 3) := Lib.hid rfl
  generalize idPt l x = pt at *
  generalize NewEnd (l ++ idL x) w = EE at *
  clear h hx hb0 HLE HLN
  unfold NewEnd at HU
  obtain ⟨xc, xo, xp⟩ := x
  simp only [GId.val] at *
  obtain ⟨xc, rfl⟩ := Int.eq_ofNat_of_zero_le c0
  obtain ⟨xo, rfl⟩ := Int.eq_ofNat_of_zero_le (show 0 ≤ xo by omega)
  obtain ⟨xp, rfl⟩ := Int.eq_ofNat_of_zero_le p0
  simp only [Int.toNat_natCast] at HP1 HP2 HP3
  have w0 : IntKind.u64.wrap (xc : Int) = xc := by rw [IntKind.wrap_u64]; omega
  have w1 : IntKind.u64.wrap (xo : Int) = xo := by rw [IntKind.wrap_u64]; omega
  have w2 : IntKind.u64.wrap (xp : Int) = xp := by rw [IntKind.wrap_u64]; omega
  have HL0 : Hid (xc < 18446744073709551616 ∧ xo < 18446744073709551616 ∧ xp < 18446744073709551616) := Lib.hid (by omega)
  clear c0 c1 o0 o1 p0 p1
  have i0 := tri_index0 (.int .i64 xc) (.int .i64 xo) (.int .i64 xp)
  have i1 := tri_index1 (.int .i64 xc) (.int .i64 xo) (.int .i64 xp)
  have i2 := tri_index2 (.int .i64 xc) (.int .i64 xo) (.int .i64 xp)
  go_enter Try.func20, Try.ntmps20
  go_wp2
  go_loopw [0, 14] (fun v0 vi wr => ∃ (k : Nat) (A' : Option Addr) (n' c' : Nat), v0 = .slice A' n' c' ∧ vi = .int .i64 k ∧ k ≤ 3 ∧ Hid (Byt wr wr.heap.size A' n' (pt k)) ∧ Hid (k = 0 ∨ Own wr w.heap.size v0 (pt k)) ∧ Hid (Below w.heap.size w wr)) (fun _ vi _ => 3 - (intOf vi).toNat)
  case atStart => exact ⟨0, A, n, c, rfl, rfl, Nat.zero_le _, Lib.hid (by rw [HP0.out]; exact HBY.out _ HB0.out), Lib.hid (.inl rfl), HB0⟩
  case round =>
    obtain ⟨k, A', n', c', rfl, rfl, hk, HT, HO, HB⟩ := hrel
    obtain rfl | rfl | rfl | rfl : k = 0 ∨ k = 1 ∨ k = 2 ∨ k = 3 := by omega
    · go_wp2_with fail
      go_fit (HU.out _ _ _ _ _ HT.out _ HL0.out.1)
      rintro e w9 ⟨v, rfl, ho, hb⟩
      rw [HP1.out] at ho
      obtain ⟨A9, c9, rfl, _, _, hby⟩ := ho.form
      have HO9 := Lib.hid (Own.low (b' := w.heap.size) ho HB.out.size)
      have HT9 := Lib.hid hby
      have HB9 := Lib.hid (beln HB.out hb)
      clear ho hb hby HT HO HB
      go_wp2
      go_roundw
      case rel => exact ⟨1, _, _, _, rfl, rfl, by omega, HT9, Lib.hid (.inr HO9.out), HB9⟩
      case measure => simp [intOf]
    · go_wp2_with fail
      go_fit (HU.out _ _ _ _ _ HT.out _ HL0.out.2.1)
      rintro e w9 ⟨v, rfl, ho, hb⟩
      rw [HP2.out] at ho
      obtain ⟨A9, c9, rfl, _, _, hby⟩ := ho.form
      have HO9 := Lib.hid (Own.low (b' := w.heap.size) ho HB.out.size)
      have HT9 := Lib.hid hby
      have HB9 := Lib.hid (beln HB.out hb)
      clear ho hb hby HT HO HB
      go_wp2
      go_roundw
      case rel => exact ⟨2, _, _, _, rfl, rfl, by omega, HT9, Lib.hid (.inr HO9.out), HB9⟩
      case measure => simp [intOf]
    · go_wp2_with fail
      go_fit (HU.out _ _ _ _ _ HT.out _ HL0.out.2.2)
      rintro e w9 ⟨v, rfl, ho, hb⟩
      rw [HP3.out] at ho
      obtain ⟨A9, c9, rfl, _, _, hby⟩ := ho.form
      have HO9 := Lib.hid (Own.low (b' := w.heap.size) ho HB.out.size)
      have HT9 := Lib.hid hby
      have HB9 := Lib.hid (beln HB.out hb)
      clear ho hb hby HT HO HB
      go_wp2
      go_roundw
      case rel => exact ⟨3, _, _, _, rfl, rfl, by omega, HT9, Lib.hid (.inr HO9.out), HB9⟩
      case measure => simp [intOf]
    · go_wp2
      exact HEND.out _ _ (HO.out.resolve_left (by omega)) HB.out
theorem inf_b : ∃ i z, Try.prog.info? 5 = some i ∧ i.zero = some z ∧ i.size = 1 ∧ i.bytes = 1 ∧ z.cells.size = 1 := elt_b12.inf
theorem growB_any (n : Nat) (h0 : 1 ≤ n) (hn : n ≤ 1000) (w : World) : Calls Try.prog 33 #[.slice none 0 0, .int .i64 n] w fun e w' => ∃ v, e = .returned v ∧ OwnG b12E 5 1 w' w.heap.size v [] ∧ Below w.heap.size w w' := by
  obtain ⟨i0, z, hi, hz, hs, hb, hc⟩ := inf_b
  refine Calls.mono (Any8.slices_Grow_grow Try.growB i0 z hi hz (by omega) none 0 0 n [] w (Nat.le_refl _) (by omega) (by rw [hb]; omega) (by omega) (by simp) (fun _ => rfl) (fun a h => by cases h)) ?_
  rintro e w' ⟨rfl, rfl⟩
  refine ⟨_, rfl, ⟨rfl, .inr ⟨w.heap.size, _, _, rfl, Nat.le_refl _, heap_alloc_new _ _, by simp, ?_, ?_, by simp [gcells]⟩⟩, ((Below.refl _ w).drew).alloc (by simp) _⟩
  · exact grownCap_le_maxLen _ _ _ _ (by unfold maxLen; omega)
  · have hg := grownCap_ge w (0 + n) 0 (Try.growB_ren.t 25)
    rw [Nat.zero_add] at hg
    simp [size_zeroCells, hc]
    omega
set_option maxRecDepth 20000 in
set_option maxHeartbeats 1000000 in
theorem catB_any (xs ys : List UInt8) (A B : Option Addr) (c1 c2 g d : Nat) (w : World) (hg0 : w.cell? ⟨g, 0, none⟩ = some (.slice A xs.length c1)) (hg1 : w.cell? ⟨g, 1, none⟩ = some (.slice B ys.length c2)) (hgl : g < w.heap.size) (h1 : GRow b12E 1 w w.heap.size A xs) (h2 : GRow b12E 1 w w.heap.size B ys) (hp : 1 ≤ xs.length + ys.length) (hq : xs.length + ys.length ≤ 1000) :
    Calls Try.prog 22 #[.slice (some ⟨g, 0, none⟩) 2 d] w fun e w' => ∃ v, e = .returned v ∧ OwnG b12E 5 1 w' w.heap.size v (xs ++ ys) ∧ Below w.heap.size w w' := by
  have HG := Lib.hid fun W => growB_any (xs.length + ys.length) hp hq W
  have HR1 := Lib.hid fun W (hW : Below w.heap.size w W) => h1.next hW
  have HR2 := Lib.hid fun W (hW : Below w.heap.size w W) => h2.next hW
  have HC0 : Hid (∀ W, Below w.heap.size w W → W.cell? ⟨g, 0, none⟩ = some (.slice A xs.length c1)) := Lib.hid fun W hW => (hW.cell (p := ⟨g, 0, none⟩) hgl).trans hg0
  have HC1 : Hid (∀ W, Below w.heap.size w W → W.cell? ⟨g, 1, none⟩ = some (.slice B ys.length c2)) := Lib.hid fun W hW => (hW.cell (p := ⟨g, 1, none⟩) hgl).trans hg1
  have HEND : Hid (∀ v W, OwnG b12E 5 1 W w.heap.size v (xs ++ ys) → Below w.heap.size w W → ∃ v', Ending.returned v = .returned v' ∧ OwnG b12E 5 1 W w.heap.size v' (xs ++ ys) ∧ Below w.heap.size w W) := Lib.hid fun v W ho hb => ⟨v, rfl, ho, hb⟩
  clear h1 h2 hg0 hg1
  go_enter Try.func22, Try.ntmps22
  go_wp2
  go_loopw [3, 11] (fun v3 v11 wr => ∃ (k : Nat) (z : Int), v11 = .int .i64 k ∧ k ≤ 2 ∧ v3 = .int .i64 z ∧ z = (sz3 xs.length ys.length k : Nat) ∧ Hid (w = wr)) (fun _ vi _ => 2 - (intOf vi).toNat)
  case atStart => exact ⟨0, 0, rfl, Nat.zero_le _, rfl, rfl, Lib.hid rfl⟩
  case round =>
    obtain ⟨k, z, rfl, hk, rfl, hz, HB⟩ := hrel
    obtain rfl := HB.out
    obtain rfl | rfl | rfl : k = 0 ∨ k = 1 ∨ k = 2 := by omega
    · have x0 := HC0.out _ (Below.refl _ _)
      obtain rfl : z = 0 := hz
      have f1 : decide ((xs.length : Int) < 0) = false := by simp
      go_wp2
      go_roundw
      case rel => exact ⟨1, _, rfl, by omega, rfl, by simp [sz3], Lib.hid (by trivial)⟩
      case measure => simp [intOf]
    · have x0 := HC1.out _ (Below.refl _ _)
      obtain rfl : z = (xs.length : Int) := hz
      have f1 : decide ((xs.length : Int) + (ys.length : Int) < 0) = false := by simp; omega
      go_wp2
      go_roundw
      case rel => exact ⟨2, _, rfl, by omega, rfl, by simp [sz3], Lib.hid (by trivial)⟩
      case measure => simp [intOf]
    · obtain rfl : z = ((xs.length + ys.length : Nat) : Int) := hz
      go_wp2_with fail
      go_fit (HG.out _)
      rintro e w1 ⟨v, rfl, ho, hb⟩
      have HO0 := Lib.hid ho
      have HB0 := Lib.hid hb
      clear ho hb HG
      go_wp2
      go_loopw [6, 27] (fun v6 v27 wr => ∃ k : Nat, v27 = .int .i64 k ∧ k ≤ 2 ∧ Hid (OwnG b12E 5 1 wr w.heap.size v6 (pt3 xs ys k)) ∧ Hid (Below w.heap.size w wr)) (fun _ vi _ => 2 - (intOf vi).toNat)
      case atStart => exact ⟨0, rfl, Nat.zero_le _, HO0, HB0⟩
      case round =>
        obtain ⟨k, rfl, hk, HO, HB⟩ := hrel
        obtain rfl | rfl | rfl : k = 0 ∨ k = 1 ∨ k = 2 := by omega
        · have x0 := HC0.out _ HB.out
          obtain ⟨v', w', hrun, hown, hg, _⟩ := OwnG.app elt_b12 b12E_len b12E_one HO.out c1 (HR1.out _ HB.out) HB.out.size (by unfold maxLen; simp [pt3]; omega) (by simp [pt3]; omega)
          have HRUN := Lib.hid hrun
          have HO2 : Hid (OwnG b12E 5 1 w' w.heap.size v' (pt3 xs ys 1)) := Lib.hid (by simpa [pt3] using hown)
          have HB2 : Hid (Below w.heap.size w w') := Lib.hid (HB.out.grown hg HB.out.size fun g e => (HO.out.lt g e).1)
          clear hrun hown hg
          go_wp2_with (at_builtin; refine wpList_gapp HRUN.out rfl rfl rfl rfl rfl ?_)
          go_roundw
          case rel => exact ⟨1, rfl, by omega, HO2, HB2⟩
          case measure => simp [intOf]
        · have x0 := HC1.out _ HB.out
          obtain ⟨v', w', hrun, hown, hg, _⟩ := OwnG.app elt_b12 b12E_len b12E_one HO.out c2 (HR2.out _ HB.out) HB.out.size (by unfold maxLen; simp [pt3]; omega) (by simp [pt3]; omega)
          have HRUN := Lib.hid hrun
          have HO2 : Hid (OwnG b12E 5 1 w' w.heap.size v' (pt3 xs ys 2)) := Lib.hid (by simpa [pt3] using hown)
          have HB2 : Hid (Below w.heap.size w w') := Lib.hid (HB.out.grown hg HB.out.size fun g e => (HO.out.lt g e).1)
          clear hrun hown hg
          go_wp2_with (at_builtin; refine wpList_gapp HRUN.out rfl rfl rfl rfl rfl ?_)
          go_roundw
          case rel => exact ⟨2, rfl, by omega, HO2, HB2⟩
          case measure => simp [intOf]
        · go_wp2
          go_ret
          exact HEND.out _ _ HO.out HB.out
theorem cat_own (xs ys : List UInt8) (A B : Option Addr) (c1 c2 g d : Nat) (w : World) (hg0 : w.cell? ⟨g, 0, none⟩ = some (.slice A xs.length c1)) (hg1 : w.cell? ⟨g, 1, none⟩ = some (.slice B ys.length c2)) (hgl : g < w.heap.size) (h1 : Byt w w.heap.size A xs.length xs) (h2 : Byt w w.heap.size B ys.length ys) (hp : 1 ≤ xs.length + ys.length) (hq : xs.length + ys.length ≤ 1000) :
    Calls Try.prog 22 #[.slice (some ⟨g, 0, none⟩) 2 d] w (NewEnd (xs ++ ys) w) := by
  refine Calls.mono (catB_any xs ys A B c1 c2 g d w hg0 hg1 hgl h1.g12 h2.g12 hp hq) ?_
  rintro e w' ⟨v, rfl, ho, hb⟩
  exact ⟨v, rfl, Own.g12.2 ho, hb⟩
end Go.Proofs.Ytndppbfdcceflaa
