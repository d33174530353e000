/-
  The program's appendId, and the library's Concat of two rows of bytes.
  Conditions: as each says.
  The program's Encode.
  Conditions: none.
-/
import Derived.Test.YtnoegjfokceghaaMc23
import Derived.Test.YtnoegjfokceghaaMc16
namespace Go.Proofs.Ytnoegjfokceghaa
open Go.RowKit

theorem rowAt_own {w : World} {g base : Nat} {l : List UInt8} (h : RowAt w g (vals l)) (hb : base ≤ g) (hl : l.length ≤ 1000000) : Own w base (.slice (some ⟨g, 0, none⟩) l.length l.length) l := by
  refine ⟨by simp [length_vals], .inr ⟨g, _, _, rfl, hb, h, Nat.le_refl _, by unfold maxLen; omega, by simp [length_vals], ?_⟩⟩
  rw [show l.length * 1 = (vals l).length by rw [length_vals, Nat.mul_one]]
  simp
/-- A new slice of bytes, in memory of the call's own. -/
def NewEnd (l : List UInt8) (w : World) (e : Ending) (w' : World) : Prop := ∃ v, e = .returned v ∧ Own w' w.heap.size v l ∧ Below w.heap.size w w'
theorem appU_own (A : Option Addr) (n c v : Nat) (l : List UInt8) (w : World) (h : Byt w w.heap.size A n l) (hn : n ≤ 100000) (hv : v < 18446744073709551616) :
    Calls Try.prog 48 #[.slice A n c, .int .u64 (v : Int)] w (NewEnd (l ++ uvar v) w) := by
  refine Calls.mono (appU_any A n c w.heap.size v l w h (Nat.le_refl _) (by omega) hv) ?_
  rintro e w' ⟨g, rfl, hg, hr, hb⟩
  have hl := uvar_len v
  have e : (l ++ uvar v).length = n + (uvar v).length := by rw [List.length_append, h.1]
  have ho := rowAt_own hr hg (by omega)
  rw [e] at ho
  exact ⟨_, rfl, ho, hb⟩
theorem tri_index0 (a b c : Value) (W : World) : (Instr.index 96 (.agg #[a, b, c]) (.int .i64 0)).run Try.prog W = .ok a W := by kernel_rfl
theorem tri_index1 (a b c : Value) (W : World) : (Instr.index 96 (.agg #[a, b, c]) (.int .i64 1)).run Try.prog W = .ok b W := by kernel_rfl
theorem tri_index2 (a b c : Value) (W : World) : (Instr.index 96 (.agg #[a, b, c]) (.int .i64 2)).run Try.prog W = .ok c W := by kernel_rfl
def idPt (l : List UInt8) (x : GId) (k : Nat) : List UInt8 := if k = 0 then l else if k = 1 then l ++ uvar x.core.toNat else if k = 2 then l ++ uvar x.core.toNat ++ uvar x.op.toNat else l ++ uvar x.core.toNat ++ uvar x.op.toNat ++ uvar x.part.toNat
theorem idPt_len (l : List UInt8) (x : GId) (k : Nat) : (idPt l x k).length ≤ l.length + 30 := by
  have h1 := uvar_len x.core.toNat; have h2 := uvar_len x.op.toNat; have h3 := uvar_len x.part.toNat
  unfold idPt
  (repeat' split) <;> (try simp only [List.length_append]) <;> omega
set_option maxRecDepth 20000 in
set_option maxHeartbeats 2000000 in
theorem pAppI_any (x : GId) (A : Option Addr) (n c : Nat) (l : List UInt8) (w : World) (h : Byt w w.heap.size A n l) (hn : n ≤ 90000) (hx : vI x = true) :
    Calls Try.prog 49 #[.slice A n c, x.val] w (NewEnd (l ++ idL x) w) := by
  obtain ⟨c0, c1, o0, o1, p0, p1⟩ := vI_iff.1 hx
  have HEND : Hid (∀ v' W, Own W w.heap.size v' (idPt l x 3) → Below w.heap.size w W → NewEnd (l ++ idL x) w (.returned v') W) := Lib.hid fun v' W h1 h2 => ⟨v', rfl, by
    have e : idPt l x 3 = l ++ idL x := by simp [idPt, idL]
    rwa [← e], h2⟩
  have hb0 := belt (Below.refl _ w) (.cells #[.int .i64 x.core, .int .i64 x.op, .int .i64 x.part] 23)
  have HB0 := Lib.hid hb0
  have HBY : Hid (∀ W, Below w.heap.size w W → Byt W W.heap.size A n l) := Lib.hid fun W hW => (h.below hW).wide hW.size
  have HLE := Lib.hid (idPt_len l x)
  have HLN := Lib.hid h.1
  have HU : Hid (∀ k A' n' c' W, Byt W W.heap.size A' n' (idPt l x k) → ∀ v : Nat, v < 18446744073709551616 → Calls Try.prog 48 #[.slice A' n' c', .int .u64 (v : Int)] W (NewEnd (idPt l x k ++ uvar v) W)) := Lib.hid fun k A' n' c' W hW v hv => appU_own A' n' c' v _ W hW (by have h1 := idPt_len l x k; have h2 := h.1; have h3 := hW.1; omega) hv
  have HP0 : Hid (idPt l x 0 = l) := Lib.hid rfl
  have HP1 : Hid (idPt l x 0 ++ uvar x.core.toNat = idPt l x 1) := Lib.hid rfl
  have HP2 : Hid (idPt l x 1 ++ uvar x.op.toNat = idPt l x 2) := Lib.hid rfl
  have HP3 : Hid (idPt l x 2 ++ uvar x.part.toNat = idPt l x 3) := Lib.hid rfl
  generalize idPt l x = pt at *
  generalize NewEnd (l ++ idL x) w = EE at *
  clear h hx hb0 HLE HLN
  unfold NewEnd at HU
  obtain ⟨xc, xo, xp⟩ := x
  simp only [GId.val] at *
  obtain ⟨xc, rfl⟩ := Int.eq_ofNat_of_zero_le c0
  obtain ⟨xo, rfl⟩ := Int.eq_ofNat_of_zero_le (show 0 ≤ xo by omega)
  obtain ⟨xp, rfl⟩ := Int.eq_ofNat_of_zero_le p0
  simp only [Int.toNat_natCast] at HP1 HP2 HP3
  have w0 : IntKind.u64.wrap (xc : Int) = xc := by rw [IntKind.wrap_u64]; omega
  have w1 : IntKind.u64.wrap (xo : Int) = xo := by rw [IntKind.wrap_u64]; omega
  have w2 : IntKind.u64.wrap (xp : Int) = xp := by rw [IntKind.wrap_u64]; omega
  have HL0 : Hid (xc < 18446744073709551616 ∧ xo < 18446744073709551616 ∧ xp < 18446744073709551616) := Lib.hid (by omega)
  clear c0 c1 o0 o1 p0 p1
  have i0 := tri_index0 (.int .i64 xc) (.int .i64 xo) (.int .i64 xp)
  have i1 := tri_index1 (.int .i64 xc) (.int .i64 xo) (.int .i64 xp)
  have i2 := tri_index2 (.int .i64 xc) (.int .i64 xo) (.int .i64 xp)
  go_enter Try.func49, Try.ntmps49
  go_wp2
  go_loopw [0, 14] (fun v0 vi wr => ∃ (k : Nat) (A' : Option Addr) (n' c' : Nat), v0 = .slice A' n' c' ∧ vi = .int .i64 k ∧ k ≤ 3 ∧ Hid (Byt wr wr.heap.size A' n' (pt k)) ∧ Hid (k = 0 ∨ Own wr w.heap.size v0 (pt k)) ∧ Hid (Below w.heap.size w wr)) (fun _ vi _ => 3 - (intOf vi).toNat)
  case atStart => exact ⟨0, A, n, c, rfl, rfl, Nat.zero_le _, Lib.hid (by rw [HP0.out]; exact HBY.out _ HB0.out), Lib.hid (.inl rfl), HB0⟩
  case round =>
    obtain ⟨k, A', n', c', rfl, rfl, hk, HT, HO, HB⟩ := hrel
    obtain rfl | rfl | rfl | rfl : k = 0 ∨ k = 1 ∨ k = 2 ∨ k = 3 := by omega
    · go_wp2_with fail
      go_fit (HU.out _ _ _ _ _ HT.out _ HL0.out.1)
      rintro e w9 ⟨v, rfl, ho, hb⟩
      rw [HP1.out] at ho
      obtain ⟨A9, c9, rfl, _, _, hby⟩ := ho.form
      have HO9 := Lib.hid (Own.low (b' := w.heap.size) ho HB.out.size)
      have HT9 := Lib.hid hby
      have HB9 := Lib.hid (beln HB.out hb)
      clear ho hb hby HT HO HB
      go_wp2
      go_roundw
      case rel => exact ⟨1, _, _, _, rfl, rfl, by omega, HT9, Lib.hid (.inr HO9.out), HB9⟩
      case measure => simp [intOf]
    · go_wp2_with fail
      go_fit (HU.out _ _ _ _ _ HT.out _ HL0.out.2.1)
      rintro e w9 ⟨v, rfl, ho, hb⟩
      rw [HP2.out] at ho
      obtain ⟨A9, c9, rfl, _, _, hby⟩ := ho.form
      have HO9 := Lib.hid (Own.low (b' := w.heap.size) ho HB.out.size)
      have HT9 := Lib.hid hby
      have HB9 := Lib.hid (beln HB.out hb)
      clear ho hb hby HT HO HB
      go_wp2
      go_roundw
      case rel => exact ⟨2, _, _, _, rfl, rfl, by omega, HT9, Lib.hid (.inr HO9.out), HB9⟩
      case measure => simp [intOf]
    · go_wp2_with fail
      go_fit (HU.out _ _ _ _ _ HT.out _ HL0.out.2.2)
      rintro e w9 ⟨v, rfl, ho, hb⟩
      rw [HP3.out] at ho
      obtain ⟨A9, c9, rfl, _, _, hby⟩ := ho.form
      have HO9 := Lib.hid (Own.low (b' := w.heap.size) ho HB.out.size)
      have HT9 := Lib.hid hby
      have HB9 := Lib.hid (beln HB.out hb)
      clear ho hb hby HT HO HB
      go_wp2
      go_roundw
      case rel => exact ⟨3, _, _, _, rfl, rfl, by omega, HT9, Lib.hid (.inr HO9.out), HB9⟩
      case measure => simp [intOf]
    · go_wp2
      exact HEND.out _ _ (HO.out.resolve_left (by omega)) HB.out
theorem inf_b : ∃ i z, Try.prog.info? 5 = some i ∧ i.zero = some z ∧ i.size = 1 ∧ i.bytes = 1 ∧ z.cells.size = 1 := elt_b12.inf
theorem growB_any (n : Nat) (h0 : 1 ≤ n) (hn : n ≤ 1000) (w : World) : Calls Try.prog 77 #[.slice none 0 0, .int .i64 n] w fun e w' => ∃ v, e = .returned v ∧ OwnG b12E 5 1 w' w.heap.size v [] ∧ Below w.heap.size w w' := by
  obtain ⟨i0, z, hi, hz, hs, hb, hc⟩ := inf_b
  refine Calls.mono (Any8.slices_Grow_grow Try.growB i0 z hi hz (by omega) none 0 0 n [] w (Nat.le_refl _) (by omega) (by rw [hb]; omega) (by omega) (by simp) (fun _ => rfl) (fun a h => by cases h)) ?_
  rintro e w' ⟨rfl, rfl⟩
  refine ⟨_, rfl, ⟨rfl, .inr ⟨w.heap.size, _, _, rfl, Nat.le_refl _, heap_alloc_new _ _, by simp, ?_, ?_, by simp [gcells]⟩⟩, ((Below.refl _ w).drew).alloc (by simp) _⟩
  · exact grownCap_le_maxLen _ _ _ _ (by unfold maxLen; omega)
  · have hg := grownCap_ge w (0 + n) 0 (Try.growB_ren.t 25)
    rw [Nat.zero_add] at hg
    simp [size_zeroCells, hc]
    omega
set_option maxRecDepth 20000 in
set_option maxHeartbeats 1000000 in
theorem catB_any (xs ys : List UInt8) (A B : Option Addr) (c1 c2 g d : Nat) (w : World) (hg0 : w.cell? ⟨g, 0, none⟩ = some (.slice A xs.length c1)) (hg1 : w.cell? ⟨g, 1, none⟩ = some (.slice B ys.length c2)) (hgl : g < w.heap.size) (h1 : GRow b12E 1 w w.heap.size A xs) (h2 : GRow b12E 1 w w.heap.size B ys) (hp : 1 ≤ xs.length + ys.length) (hq : xs.length + ys.length ≤ 1000) :
    Calls Try.prog 51 #[.slice (some ⟨g, 0, none⟩) 2 d] w fun e w' => ∃ v, e = .returned v ∧ OwnG b12E 5 1 w' w.heap.size v (xs ++ ys) ∧ Below w.heap.size w w' := by
  have HG := Lib.hid fun W => growB_any (xs.length + ys.length) hp hq W
  have HR1 := Lib.hid fun W (hW : Below w.heap.size w W) => h1.next hW
  have HR2 := Lib.hid fun W (hW : Below w.heap.size w W) => h2.next hW
  have HC0 : Hid (∀ W, Below w.heap.size w W → W.cell? ⟨g, 0, none⟩ = some (.slice A xs.length c1)) := Lib.hid fun W hW => (hW.cell (p := ⟨g, 0, none⟩) hgl).trans hg0
  have HC1 : Hid (∀ W, Below w.heap.size w W → W.cell? ⟨g, 1, none⟩ = some (.slice B ys.length c2)) := Lib.hid fun W hW => (hW.cell (p := ⟨g, 1, none⟩) hgl).trans hg1
  have HEND : Hid (∀ v W, OwnG b12E 5 1 W w.heap.size v (xs ++ ys) → Below w.heap.size w W → ∃ v', Ending.returned v = .returned v' ∧ OwnG b12E 5 1 W w.heap.size v' (xs ++ ys) ∧ Below w.heap.size w W) := Lib.hid fun v W ho hb => ⟨v, rfl, ho, hb⟩
  clear h1 h2 hg0 hg1
  go_enter Try.func51, Try.ntmps51
  go_wp2
  go_loopw [3, 11] (fun v3 v11 wr => ∃ (k : Nat) (z : Int), v11 = .int .i64 k ∧ k ≤ 2 ∧ v3 = .int .i64 z ∧ z = (sz3 xs.length ys.length k : Nat) ∧ Hid (w = wr)) (fun _ vi _ => 2 - (intOf vi).toNat)
  case atStart => exact ⟨0, 0, rfl, Nat.zero_le _, rfl, rfl, Lib.hid rfl⟩
  case round =>
    obtain ⟨k, z, rfl, hk, rfl, hz, HB⟩ := hrel
    obtain rfl := HB.out
    obtain rfl | rfl | rfl : k = 0 ∨ k = 1 ∨ k = 2 := by omega
    · have x0 := HC0.out _ (Below.refl _ _)
      obtain rfl : z = 0 := hz
      have f1 : decide ((xs.length : Int) < 0) = false := by simp
      go_wp2
      go_roundw
      case rel => exact ⟨1, _, rfl, by omega, rfl, by simp [sz3], Lib.hid (by trivial)⟩
      case measure => simp [intOf]
    · have x0 := HC1.out _ (Below.refl _ _)
      obtain rfl : z = (xs.length : Int) := hz
      have f1 : decide ((xs.length : Int) + (ys.length : Int) < 0) = false := by simp; omega
      go_wp2
      go_roundw
      case rel => exact ⟨2, _, rfl, by omega, rfl, by simp [sz3], Lib.hid (by trivial)⟩
      case measure => simp [intOf]
    · obtain rfl : z = ((xs.length + ys.length : Nat) : Int) := hz
      go_wp2_with fail
      go_fit (HG.out _)
      rintro e w1 ⟨v, rfl, ho, hb⟩
      have HO0 := Lib.hid ho
      have HB0 := Lib.hid hb
      clear ho hb HG
      go_wp2
      go_loopw [6, 27] (fun v6 v27 wr => ∃ k : Nat, v27 = .int .i64 k ∧ k ≤ 2 ∧ Hid (OwnG b12E 5 1 wr w.heap.size v6 (pt3 xs ys k)) ∧ Hid (Below w.heap.size w wr)) (fun _ vi _ => 2 - (intOf vi).toNat)
      case atStart => exact ⟨0, rfl, Nat.zero_le _, HO0, HB0⟩
      case round =>
        obtain ⟨k, rfl, hk, HO, HB⟩ := hrel
        obtain rfl | rfl | rfl : k = 0 ∨ k = 1 ∨ k = 2 := by omega
        · have x0 := HC0.out _ HB.out
          obtain ⟨v', w', hrun, hown, hg, _⟩ := OwnG.app elt_b12 b12E_len b12E_one HO.out c1 (HR1.out _ HB.out) HB.out.size (by unfold maxLen; simp [pt3]; omega) (by simp [pt3]; omega)
          have HRUN := Lib.hid hrun
          have HO2 : Hid (OwnG b12E 5 1 w' w.heap.size v' (pt3 xs ys 1)) := Lib.hid (by simpa [pt3] using hown)
          have HB2 : Hid (Below w.heap.size w w') := Lib.hid (HB.out.grown hg HB.out.size fun g e => (HO.out.lt g e).1)
          clear hrun hown hg
          go_wp2_with (at_builtin; refine wpList_gapp HRUN.out rfl rfl rfl rfl rfl ?_)
          go_roundw
          case rel => exact ⟨1, rfl, by omega, HO2, HB2⟩
          case measure => simp [intOf]
        · have x0 := HC1.out _ HB.out
          obtain ⟨v', w', hrun, hown, hg, _⟩ := OwnG.app elt_b12 b12E_len b12E_one HO.out c2 (HR2.out _ HB.out) HB.out.size (by unfold maxLen; simp [pt3]; omega) (by simp [pt3]; omega)
          have HRUN := Lib.hid hrun
          have HO2 : Hid (OwnG b12E 5 1 w' w.heap.size v' (pt3 xs ys 2)) := Lib.hid (by simpa [pt3] using hown)
          have HB2 : Hid (Below w.heap.size w w') := Lib.hid (HB.out.grown hg HB.out.size fun g e => (HO.out.lt g e).1)
          clear hrun hown hg
          go_wp2_with (at_builtin; refine wpList_gapp HRUN.out rfl rfl rfl rfl rfl ?_)
          go_roundw
          case rel => exact ⟨2, rfl, by omega, HO2, HB2⟩
          case measure => simp [intOf]
        · go_wp2
          go_ret
          exact HEND.out _ _ HO.out HB.out
theorem cat_own (xs ys : List UInt8) (A B : Option Addr) (c1 c2 g d : Nat) (w : World) (hg0 : w.cell? ⟨g, 0, none⟩ = some (.slice A xs.length c1)) (hg1 : w.cell? ⟨g, 1, none⟩ = some (.slice B ys.length c2)) (hgl : g < w.heap.size) (h1 : Byt w w.heap.size A xs.length xs) (h2 : Byt w w.heap.size B ys.length ys) (hp : 1 ≤ xs.length + ys.length) (hq : xs.length + ys.length ≤ 1000) :
    Calls Try.prog 51 #[.slice (some ⟨g, 0, none⟩) 2 d] w (NewEnd (xs ++ ys) w) := by
  refine Calls.mono (catB_any xs ys A B c1 c2 g d w hg0 hg1 hgl h1.g12 h2.g12 hp hq) ?_
  rintro e w' ⟨v, rfl, ho, hb⟩
  exact ⟨v, rfl, Own.g12.2 ho, hb⟩
end Go.Proofs.Ytnoegjfokceghaa


namespace Go.Proofs.Ytnoegjfokceghaa
open Go.RowKit

set_option maxRecDepth 20000 in
set_option maxHeartbeats 4000000 in
theorem pEncN_any (x : GN) (A : Option Addr) (c : Nat) (w : World) (h1 : PRow w w.heap.size A x.path) (hl : x.path.length ≤ 17179869184) (hc : x.path.length ≤ c) :
    Calls Try.prog 28 #[x.val A c] w (EncEnd (if vN x = true then 0 else 1) (if vN x = true then encN x else []) w) := by
  have HV := Lib.hid fun W (hW : Below w.heap.size w W) => pVN_any x A c W (h1.next hW) hl hc
  have HVF := Lib.hid (vN_facts (x := x))
  have HEC : Hid (encN x = hdN x ++ x.path.flatMap idL ++ encC x.cap) := Lib.hid rfl
  have HHC : Hid (hdN x = [] ++ idL x.id ++ uvar x.path.length) := Lib.hid rfl
  have HCP := Lib.hid fun W => pEnc_any x.cap W
  obtain ⟨q, hq⟩ : ∃ q : Int, q = if vN x = true then 0 else 1 := ⟨_, rfl⟩
  obtain ⟨lx, hlx⟩ : ∃ lx, lx = if vN x = true then encN x else [] := ⟨_, rfl⟩
  have HQ1 : Hid (vN x = true → q = 0 ∧ lx = encN x) := Lib.hid fun h => by rw [hq, hlx, if_pos h, if_pos h]; exact ⟨rfl, rfl⟩
  have HQ0 : Hid (vN x = false → q = 1 ∧ lx = []) := Lib.hid fun h => by rw [hq, hlx, h]; exact ⟨rfl, rfl⟩
  rw [← hq, ← hlx]
  clear hq hlx
  have HN0 := Lib.hid (NB.new w x.id A x.path.length c x.cap)
  have HROW := Lib.hid fun W (hW : Below w.heap.size w W) => h1.next hW
  have HCL : Hid ((encC x.cap).length = 10) := Lib.hid rfl
  generalize encN x = ec at *
  generalize hdN x = hd at *
  generalize vN x = vv at *
  unfold GN.val at *
  generalize x.id = xi at *
  generalize x.cap = xc at *
  obtain ⟨i0, i1, i2⟩ := xi
  obtain ⟨a0, a1, a2, a3, a4, a5, a6⟩ := xc
  generalize x.path = xs at *
  clear h1
  simp only [GC.val] at *
  have HB0 := Lib.hid (belt (Below.refl _ w) (.cells #[.int .i64 i0, .int .i64 i1, .int .i64 i2, .slice A xs.length c, .int .i64 a0, .int .i64 a1, .int .i64 a2, .int .i64 a3, .int .i64 a4, .int .i64 a5, .bool a6] 28))
  go_enter Try.func28, Try.ntmps28
  go_wp2_with fail
  go_fit (HV.out _ HB0.out)
  rintro e w1 ⟨rfl, hb1⟩
  have HN1 := Lib.hid (HN0.out.next hb1)
  have HB1 := Lib.hid (beln HB0.out hb1)
  clear hb1 HN0 HB0 HV
  rcases vv with _ | _
  · obtain ⟨e1, e2⟩ := HQ0.out rfl
    have HE : Hid (EncEnd q lx w (.returned (.tuple #[.slice none 0 0, .int .i64 1])) w1) := Lib.hid (by rw [e1, e2]; exact ⟨_, rfl, Own.nil _ _, HB1.out⟩)
    clear e1 e2
    go_wp2
    refine bodyPost_ret (v := .tuple #[.slice none 0 0, .int .i64 1]) (by simp [results, Try.results28]) rfl ?_
    exact HE.out
  obtain ⟨e1, e2⟩ := HQ1.out rfl
  have HE1 : Hid (∀ v W, Own W w.heap.size v (hd ++ xs.flatMap idL ++ encC ⟨a0, a1, a2, a3, a4, a5, a6⟩) → Below w.heap.size w W → EncEnd q lx w (.returned (.tuple #[v, .int .i64 0])) W) := Lib.hid fun v W hO hB => by rw [e1, e2, HEC.out]; exact ⟨_, rfl, hO, hB⟩
  clear e1 e2 HQ0 HQ1 HEC
  generalize EncEnd q lx w = EE at *
  have HV0 := Lib.hid (HVF.out rfl)
  clear HVF
  have hS : Below w.heap.size w w1.drew ∧ NB w1.drew w.heap.size ⟨i0, i1, i2⟩ A xs.length c ⟨a0, a1, a2, a3, a4, a5, a6⟩ := ⟨HB1.out.drew, HN1.out.next (Below.refl _ w1).drew⟩
  have hwl : IntKind.u64.wrap (xs.length : Int) = (xs.length : Int) := by rw [IntKind.wrap_u64]; omega
  go_upto_region 3 with fail
  refine wp_region_growS (S := fun W => Below w.heap.size w W ∧ NB W w.heap.size ⟨i0, i1, i2⟩ A xs.length c ⟨a0, a1, a2, a3, a4, a5, a6⟩) [(0, true), (1, true), (3, true), (4, true), (5, true), (6, true), (2, false), (7, false), (8, true)] (by kernel_rfl) (by kernel_rfl) (by kernel_rfl) (by kernel_rfl) (by intro c a d v w h; cases d <;> exact h) hS ?_
  iterate 6
    (first
      | (refine wpGrowS_float (v := ?_) (by simp only [List.getElem?_toArray, List.getElem?_cons_succ, List.getElem?_cons_zero]; rfl) (by rfl) ?_ ?_
         rotate_left
         · (intro W hW; obtain ⟨c0, c1, c2, c3, c4, c5, c6, c7, c8, c9, c10⟩ := NB.cells (hW.2); (try simp only at *); go_simp; try with_reducible rfl)
         simp only [Act.put, List.setIfInBounds_toArray, List.set_cons_zero, List.set_cons_succ])
      | (refine wpGrowS_skip (by simp only [List.getElem?_toArray, List.getElem?_cons_succ, List.getElem?_cons_zero]; rfl) (by rfl) ?_
         simp only [Act.put, List.setIfInBounds_toArray, List.set_cons_zero, List.set_cons_succ]))
  refine wpGrowS_call (by simp only [List.getElem?_toArray, List.getElem?_cons_succ, List.getElem?_cons_zero]; rfl) (by rfl) fun K hK => ?_
  go_simp
  go_fit (pAppI_any ⟨i0, i1, i2⟩ none 0 0 [] _ Byt.nil (by omega) HV0.out.1)
  rintro e wn ⟨v3, rfl, ho3, hbn⟩
  have hSP := hS
  have hS : Below w.heap.size w wn ∧ NB wn w.heap.size ⟨i0, i1, i2⟩ A xs.length c ⟨a0, a1, a2, a3, a4, a5, a6⟩ := ⟨beln (hS.1) hbn, NB.next (hS.2) hbn⟩
  obtain ⟨A3, c3', rfl, _, _, hy3⟩ := ho3.form
  clear ho3
  go_simp
  refine hK _ _ hS ?_
  clear hK K
  try simp only [Act.put, List.setIfInBounds_toArray, List.set_cons_zero, List.set_cons_succ]
  refine wpGrowS_call (by simp only [List.getElem?_toArray, List.getElem?_cons_succ, List.getElem?_cons_zero]; rfl) (by rfl) fun K hK => ?_
  go_simp
  go_fit (appU_own A3 _ c3' xs.length _ _ hy3 (by have := idL_len ⟨i0, i1, i2⟩; simp; omega) (by omega))
  rintro e wn ⟨v4, rfl, ho4, hbn⟩
  have hSP := hS
  have hS : Below w.heap.size w wn ∧ NB wn w.heap.size ⟨i0, i1, i2⟩ A xs.length c ⟨a0, a1, a2, a3, a4, a5, a6⟩ := ⟨beln (hS.1) hbn, NB.next (hS.2) hbn⟩
  rw [← HHC.out] at ho4
  have HO4 := Lib.hid (Own.low (b' := w.heap.size) ho4 (by have := hSP.1.size; omega))
  clear ho4
  go_simp
  refine hK _ _ hS ?_
  clear hK K
  try simp only [Act.put, List.setIfInBounds_toArray, List.set_cons_zero, List.set_cons_succ]
  iterate 1
    (first
      | (refine wpGrowS_float (v := ?_) (by simp only [List.getElem?_toArray, List.getElem?_cons_succ, List.getElem?_cons_zero]; rfl) (by rfl) ?_ ?_
         rotate_left
         · (intro W hW; obtain ⟨c0, c1, c2, c3, c4, c5, c6, c7, c8, c9, c10⟩ := NB.cells (hW.2); (try simp only at *); go_simp; try with_reducible rfl)
         simp only [Act.put, List.setIfInBounds_toArray, List.set_cons_zero, List.set_cons_succ])
      | (refine wpGrowS_skip (by simp only [List.getElem?_toArray, List.getElem?_cons_succ, List.getElem?_cons_zero]; rfl) (by rfl) ?_
         simp only [Act.put, List.setIfInBounds_toArray, List.set_cons_zero, List.set_cons_succ]))
  refine wpGrowS_nil ?_
  clear hSP hy3 hwl
  have HHL : Hid (hd.length ≤ 100) := Lib.hid (by have h1 := idL_len ⟨i0, i1, i2⟩; have h2 := uvar_len xs.length; rw [HHC.out]; simp only [List.length_append, List.length_nil]; omega)
  clear HHC HB1 HN1
  obtain ⟨HB3, HN3⟩ : Hid (Below w.heap.size w wn) ∧ Hid (NB wn w.heap.size ⟨i0, i1, i2⟩ A xs.length c ⟨a0, a1, a2, a3, a4, a5, a6⟩) := ⟨Lib.hid hS.1, Lib.hid hS.2⟩
  clear hS
  have HOC2 : Hid (Own wn w.heap.size v4 (hd ++ (xs.take 0).flatMap idL)) := Lib.hid (by simpa using HO4.out)
  clear HO4
  obtain ⟨c0, c1, c2, c3, c4, c5, c6, c7, c8, c9, c10⟩ := HN3.out.cells
  try simp only at c0 c1 c2 c3 c4 c5 c6 c7 c8 c9 c10
  go_wp2
  clear c0 c1 c2 c3 c4 c5 c6 c7 c8 c9 c10
  go_loopw [4, 23] (fun v4 vi wr => ∃ k : Nat, vi = .int .i64 k ∧ k ≤ xs.length ∧ Hid (Own wr w.heap.size v4 (hd ++ (xs.take k).flatMap idL)) ∧ Hid (Below wn.heap.size wn wr)) (fun _ vi _ => xs.length - (intOf vi).toNat)
  case atStart => exact ⟨0, rfl, by omega, HOC2, Lib.hid (Below.refl _ _)⟩
  case round =>
    obtain ⟨k, rfl, hk, HO, HB⟩ := hrel
    have HBW := Lib.hid (beln HB3.out HB.out)
    obtain ⟨A4, cp4, rfl, hq1, hq2, hq3⟩ := HO.out.form
    have HY4 := Lib.hid hq3
    clear hq1 hq2 hq3
    have HLK : Hid ((hd ++ (xs.take k).flatMap idL).length ≤ 400) := Lib.hid (by have h5 := HHL.out; have h6 := flat_len (xs.take k); have h7 : xs.length ≤ 8 := HV0.out.2.2.1; have h8 : (xs.take k).length ≤ k := (by rw [List.length_take]; exact Nat.min_le_left _ _); rw [List.length_append]; omega)
    generalize hn4 : (hd ++ (xs.take k).flatMap idL).length = n4 at *
    have HN4 := Lib.hid hn4
    clear hn4
    rcases Nat.lt_or_ge k xs.length with hlt | hge
    · obtain ⟨b1, o1, rfl, hb1, x0, x1, x2⟩ := (HROW.out _ HBW.out).gid hlt
      have HI1 := Lib.hid (IB.new wr xs[k])
      have HI2 := Lib.hid (belt (Below.refl _ wr) (.cells #[.int .i64 xs[k].core, .int .i64 xs[k].op, .int .i64 xs[k].part] 23))
      have HP := Lib.hid fun W (hW : Below wr.heap.size wr W) => pAppI_any xs[k] A4 n4 cp4 _ W ((HY4.out.below hW).wide hW.size) (by have := HLK.out; omega) (HV0.out.2.2.2.1 k hlt)
      rw [List.append_assoc, ← flat_succ xs hlt] at HP
      generalize xs[k] = y at *
      obtain ⟨yc, yo, yp⟩ := y
      simp only [GId.val] at HP x0 x1 x2 HI1 HI2
      have hkl : decide ((k : Int) < (xs.length : Int)) = true := by simp; omega
      go_wp2_with fail
      go_fit (HP.out _ HI2.out)
      rintro e w5 ⟨v5, rfl, ho5, hb5⟩
      have HO5 := Lib.hid (Own.low (b' := w.heap.size) ho5 (by have := HBW.out.size; simp; omega))
      have HB5 := Lib.hid (beln (beln HB.out HI2.out) hb5)
      clear ho5 hb5 HP x0 x1 x2
      go_wp2
      go_roundw
      case rel => exact ⟨k + 1, by go_num, by omega, HO5, HB5⟩
      case measure => simp [intOf]; omega
    · obtain rfl : k = xs.length := by omega
      have HOF : Hid (Own wr w.heap.size (.slice A4 n4 cp4) (hd ++ xs.flatMap idL)) := Lib.hid (by have h := HO.out; rw [List.take_length] at h; exact h)
      rw [List.take_length] at HY4 HN4
      have HCP2 : Hid (∀ W, Calls Try.prog 50 #[.agg #[.int .i64 a0, .int .i64 a1, .int .i64 a2, .int .i64 a3, .int .i64 a4, .int .i64 a5, .bool a6]] W (EncEnd 0 (encC ⟨a0, a1, a2, a3, a4, a5, a6⟩) W)) := Lib.hid fun W => by
        have h := HCP.out W
        rw [HV0.out.2.1, if_pos rfl, if_pos rfl] at h
        exact h
      obtain ⟨c0, c1, c2, c3, c4, c5, c6, c7, c8, c9, c10⟩ := (HN3.out.next HB.out).cells
      try simp only at c0 c1 c2 c3 c4 c5 c6 c7 c8 c9 c10
      go_wp2_with fail
      go_fit (HCP2.out _)
      rintro e w5 ⟨v5, rfl, ho5, hb5⟩
      obtain ⟨A5, cp5, rfl, hq1, hq2, hby⟩ := ho5.form
      have HBW5 := Lib.hid (beln HBW.out hb5)
      have hcell := Lib.cell_of_heap (heap_alloc_new w5 (.cells #[.slice A4 n4 cp4, .slice A5 (encC ⟨a0, a1, a2, a3, a4, a5, a6⟩).length cp5] 45))
      have HCAT := Lib.hid (cat_own (hd ++ xs.flatMap idL) (encC ⟨a0, a1, a2, a3, a4, a5, a6⟩) A4 A5 cp4 cp5 w5.heap.size 2 (w5.alloc (.cells #[.slice A4 n4 cp4, .slice A5 (encC ⟨a0, a1, a2, a3, a4, a5, a6⟩).length cp5] 45)) (by rw [hcell, HN4.out]; rfl) (by rw [hcell]; rfl) (by simp)
        (by rw [HN4.out]; exact ((HY4.out.below hb5).wide (by have := hb5.size; simp; omega)).below (belt (Below.refl _ _) _) |>.wide (by simp)) ((hby.below (belt (Below.refl _ _) _)).wide (by simp)) (by rw [HCL.out]; omega) (by rw [HN4.out, HCL.out]; have := HLK.out; omega))
      clear hcell ho5 hb5 hby hq1 hq2 c0 c1 c2 c3 c4 c5 c6 c7 c8 c9 c10
      generalize (encC ⟨a0, a1, a2, a3, a4, a5, a6⟩).length = n5 at *
      go_wp2_with fail
      go_fit HCAT.out
      rintro e w6 ⟨v6, rfl, ho6, hb6⟩
      have HE := Lib.hid (HE1.out _ _ (Own.low (b' := w.heap.size) ho6 (by have := HBW5.out.size; simp; omega)) (beln (belt HBW5.out _) hb6))
      clear ho6 hb6
      go_wp2
      exact HE.out
end Go.Proofs.Ytnoegjfokceghaa
