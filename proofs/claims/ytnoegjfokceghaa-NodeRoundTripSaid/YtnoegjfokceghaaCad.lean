/-
  The bytes of a capability, and the reference's EncodeCap.
  Conditions: none.
-/
import Derived.Test.YtnoegjfokceghaaCaa
import Derived.Test.YtnoegjfokceghaaOwn
import Derived.Laws.Bits64b
namespace Go.Proofs.Ytnoegjfokceghaa

open Go.RowKit

/-- A number's lowest byte. -/
def u8 (n : Int) : UInt8 := UInt8.ofNat (n % 256).toNat
theorem u8_val (n : Int) : ((u8 n).toNat : Int) = n % 256 := by
  unfold u8
  have h0 := Int.emod_nonneg n (show (256 : Int) ≠ 0 by decide)
  have h1 := Int.emod_lt_of_pos n (show (0 : Int) < 256 by decide)
  rw [UInt8.toNat_ofNat']
  omega
theorem u8_back (b : UInt8) : u8 (b.toNat : Int) = b := by
  apply UInt8.toNat_inj.1
  have h := u8_val (b.toNat : Int)
  have := b.toNat_lt
  omega
/-- The number of a bit string. -/
def mN (m : Int) : Nat := (BitVec.ofInt 64 m).toNat
theorem mN_nat {a : Nat} (h : a < 18446744073709551616) : mN (a : Int) = a := by
  unfold mN; rw [BitVec.ofInt_natCast, BitVec.toNat_ofNat]; exact Nat.mod_eq_of_lt (by omega)
theorem and_eq (a b : Int) : bits .and .i64 a b = IntKind.i64.wrap ((mN a &&& mN b : Nat) : Int) := by
  show IntKind.i64.wrap ((BitVec.ofInt 64 a &&& BitVec.ofInt 64 b).toNat : Int) = _
  rw [BitVec.toNat_and]; rfl
theorem and_small {a : Nat} (h : a < 9223372036854775808) (m : Int) : bits .and .i64 (a : Int) m = ((a &&& mN m : Nat) : Int) := by
  rw [and_eq, mN_nat (by omega)]
  have := Nat.and_le_left (n := a) (m := mN m)
  exact IntWalk.i64_in _ (by omega)
theorem mN_and (a b : Int) : mN (bits .and .i64 a b) = mN a &&& mN b := by
  have h : bits .and .i64 a b = IntKind.i64.wrap ((BitVec.ofInt 64 a &&& BitVec.ofInt 64 b).toNat : Int) := rfl
  have hb : (BitVec.ofInt 64 a &&& BitVec.ofInt 64 b).toNat < 18446744073709551616 := (BitVec.ofInt 64 a &&& BitVec.ofInt 64 b).isLt
  unfold mN
  rw [h, ← BitVec.toNat_and]
  generalize BitVec.ofInt 64 a &&& BitVec.ofInt 64 b = x at *
  have e : IntKind.i64.wrap (x.toNat : Int) = (x.toNat : Int) ∨ IntKind.i64.wrap (x.toNat : Int) = (x.toNat : Int) - 18446744073709551616 := by
    rw [IntKind.wrap_i64]
    omega
  rcases e with e | e <;> rw [e]
  · rw [BitVec.ofInt_natCast, BitVec.toNat_ofNat]; exact Nat.mod_eq_of_lt hb
  · rw [BitVec.toNat_ofInt]
    omega
theorem and255 {x : Int} (h0 : 0 ≤ x) (h1 : x < 9223372036854775808) : bits .and .i64 x 255 = x % 256 := by
  obtain ⟨n, rfl⟩ : ∃ n : Nat, x = n := ⟨x.toNat, by omega⟩
  rw [and_small (by omega), show mN 255 = 255 from mN_nat (a := 255) (by decide), show (255 : Nat) = 2 ^ 8 - 1 by decide, Nat.and_two_pow_sub_one_eq_mod]
  omega
/-- The ten bytes of a capability. -/
def headC (c : GC) : List UInt8 := [u8 c.kind, u8 c.bits, u8 (if c.device = true then c.rights + 8 else c.rights), u8 c.width, u8 c.level]
def baseC (b : Int) : List UInt8 := [u8 b, u8 (b / 256), u8 (b / 65536), u8 (b / 16777216), u8 (b / 4294967296)]
def encC (c : GC) : List UInt8 := headC c ++ baseC c.base
theorem gc_vals : ∀ l : List UInt8, gcells (fun b : UInt8 => [Value.int .u8 (b.toNat : Int)]) l = vals l
  | [] => rfl
  | b :: l => by
    have := gc_vals l
    unfold gcells vals at *
    rw [List.flatMap_cons, this]; rfl
theorem own_lit (w : World) (base : Nat) (l : List UInt8) (hb : base ≤ w.heap.size) (hl : l.length ≤ 100) : Own (w.alloc (.cells (vals l).toArray 5)) base (.slice (some ⟨w.heap.size, 0, none⟩) l.length l.length) l := by
  have h := OwnG.lit (enc := fun b : UInt8 => [Value.int .u8 (b.toNat : Int)]) (k := 1) (fun _ => rfl) w base (T := 5) l (vals l).toArray (by rw [gc_vals]) hb (by unfold maxLen; omega)
  unfold Own
  unfold OwnG at h
  rw [gc_vals] at h
  exact h
/-- A byte is appended to bytes of the call's own. -/
theorem own_put {wA w0 : World} {base : Nat} {v : Value} {l : List UInt8} (h : Own wA base v l) (hb : Below base w0 wA) (hbase : base ≤ wA.heap.size) (x : Int) (hl : l.length ≤ 1000) (h0 : 0 ≤ x) (h1 : x < 9223372036854775808) :
    ∃ v' w', (Builtin.append_ #[45, 45] 45 #[v, .slice (some ⟨wA.heap.size, 0, none⟩) 1 1]).run Try.prog (wA.alloc (.cells #[.int .u8 (bits .and .i64 x 255 % 256)] 5)) = .ok v' w' ∧ Own w' base v' (l ++ [u8 x]) ∧ Below base w0 w' := by
  have ev : bits .and .i64 x 255 % 256 = ((u8 x).toNat : Int) := by rw [and255 h0 h1, u8_val]; omega
  rw [ev]
  have ho := own_lit wA wA.heap.size [u8 x] (Nat.le_refl _) (by simp)
  obtain ⟨A, cp, e, _, _, hby⟩ := ho.form
  injection e with e1 e2 e3
  subst e1
  obtain ⟨v', w', hr, hown, hb', _⟩ := (h.alloc (.cells (vals [u8 x]).toArray 5)).app (w0 := w0) 1 hby (hb.alloc hbase _) (by simp; omega) (by simp; omega)
  exact ⟨v', w', hr, hown, hb'⟩
theorem Own.low {w : World} {b b' : Nat} {v : Value} {l : List UInt8} (h : Own w b v l) (hb : b' ≤ b) : Own w b' v l := by
  refine ⟨h.1, ?_⟩
  rcases h.2 with hh | ⟨g, c, cur, e1, hbs, rest⟩
  · exact .inl hh
  · exact .inr ⟨g, c, cur, e1, by omega, rest⟩
def EncEnd (q : Int) (l : List UInt8) (w : World) (e : Ending) (w' : World) : Prop := ∃ v, e = .returned (.tuple #[v, .int .i64 q]) ∧ Own w' w.heap.size v l ∧ Below w.heap.size w w'
theorem vC_facts {c : GC} (h : vC c = true) : VR c.rng ∧ 6 ≤ c.bits ∧ c.bits ≤ 40 ∧ 1 ≤ c.kind ∧ c.kind ≤ 6 ∧ 0 ≤ c.rights ∧ c.rights ≤ 7 ∧ 0 ≤ c.width ∧ c.width ≤ 39 ∧ 0 ≤ c.level ∧ c.level ≤ 2 := by
  unfold vC at h
  simp only [Bool.and_eq_true, decide_eq_true_eq] at h
  obtain ⟨⟨⟨⟨⟨h1, h2⟩, h3⟩, h4⟩, h5⟩, _⟩ := h
  have hv := vR_iff.1 h2
  have hl := hv.lo
  have hh := hv.hi
  refine ⟨hv, hl, hh, ?_, ?_, h3, h4, ?_⟩
  · unfold sizB at h1
    split at h1
    · omega
    · split at h1
      · omega
      · simp at h1; omega
  · unfold sizB at h1
    split at h1
    · omega
    · split at h1
      · omega
      · simp at h1; omega
  · unfold tabB levB at h5
    split at h5
    · simp at h5; omega
    · simp at h5; omega
set_option maxRecDepth 20000 in
set_option maxHeartbeats 4000000 in
theorem rEnc_any (c : GC) (w : World) : Calls Try.prog 54 #[c.val] w (EncEnd (if vC c = true then 0 else 1) (if vC c = true then encC c else []) w) := by
  have HV := Lib.hid fun W => rVC_any c W
  have HX := Lib.hid (CB.new w c)
  have HVF := Lib.hid (vC_facts (c := c))
  have HEC : Hid (encC c = headC c ++ baseC c.base) := Lib.hid rfl
  have HHC : Hid (headC c = [u8 c.kind, u8 c.bits, u8 (if c.device = true then c.rights + 8 else c.rights), u8 c.width, u8 c.level]) := Lib.hid rfl
  obtain ⟨q, hq⟩ : ∃ q : Int, q = if vC c = true then 0 else 1 := ⟨_, rfl⟩
  obtain ⟨lx, hlx⟩ : ∃ lx, lx = if vC c = true then encC c else [] := ⟨_, rfl⟩
  have HQ1 : Hid (vC c = true → q = 0 ∧ lx = encC c) := Lib.hid fun h => by rw [hq, hlx, if_pos h, if_pos h]; exact ⟨rfl, rfl⟩
  have HQ0 : Hid (vC c = false → q = 1 ∧ lx = []) := Lib.hid fun h => by rw [hq, hlx, h]; exact ⟨rfl, rfl⟩
  rw [← hq, ← hlx]
  clear hq hlx
  generalize encC c = ec at *
  generalize headC c = hd at *
  generalize vC c = v at *
  have HB0 := Lib.hid (belt (Below.refl _ w) (.cells #[.int .i64 c.kind, .int .i64 c.base, .int .i64 c.bits, .int .i64 c.rights, .int .i64 c.width, .int .i64 c.level, .bool c.device] 26))
  obtain ⟨k, b, n, r, wd, l, d⟩ := c
  simp only [GC.val, GC.rng] at *
  go_enter Try.func54, Try.ntmps54
  go_wp2_with fail
  go_fit (HV.out _)
  rintro e w1 ⟨rfl, hb1⟩
  have HX1 := Lib.hid (HX.out.next hb1)
  have HB1 := Lib.hid (beln HB0.out hb1)
  clear hb1 HV HX HB0
  obtain ⟨y0, y1, y2, y3, y4, y5, y6⟩ := HX1.out.cells
  simp only at y0 y1 y2 y3 y4 y5 y6
  rcases v with _ | _
  · obtain ⟨e1, e2⟩ := HQ0.out rfl
    have HE : Hid (EncEnd q lx w (.returned (.tuple #[.slice none 0 0, .int .i64 1])) w1) := Lib.hid (by rw [e1, e2]; exact ⟨_, rfl, Own.nil _ _, HB1.out⟩)
    clear e1 e2
    go_wp2
    refine bodyPost_ret (v := .tuple #[.slice none 0 0, .int .i64 1]) (by simp [results, Try.results54]) rfl ?_
    exact HE.out
  obtain ⟨e1, e2⟩ := HQ1.out rfl
  have HE1 : Hid (∀ v W, Own W w1.heap.size v (hd ++ baseC b) → Below w1.heap.size w1 W → EncEnd q lx w (.returned (.tuple #[v, .int .i64 0])) W) := Lib.hid fun v W hO hB => by rw [e1, e2, HEC.out]; exact ⟨_, rfl, hO.low HB1.out.size, beln HB1.out hB⟩
  clear e1 e2 HQ0 HQ1
  obtain ⟨hv, n0, n1, k0, k1, r0, r1, d0, d1, l0, l1⟩ := HVF.out rfl
  have hb0 := hv.b0
  have htp := hv.top
  have hsp := sz_pos ⟨b, n⟩
  simp only at hb0 htp
  have hbt : b ≤ 1099511627776 := by omega
  clear hv htp hsp HVF HEC
  rcases d with _ | _
  · simp only [Bool.false_eq_true, if_false] at HHC
    have hvl : vals hd = [.int .u8 k, .int .u8 n, .int .u8 r, .int .u8 wd, .int .u8 l] := by
      rw [HHC.out]
      simp only [vals, List.map_cons, List.map_nil, u8_val]
      rw [Int.emod_eq_of_lt (by omega) (by omega), Int.emod_eq_of_lt (by omega) (by omega), Int.emod_eq_of_lt (by omega) (by omega), Int.emod_eq_of_lt (by omega) (by omega), Int.emod_eq_of_lt (by omega) (by omega)]
    have hol := own_lit w1 w1.heap.size hd (Nat.le_refl _) (by rw [HHC.out]; simp)
    rw [hvl, show hd.length = 5 by rw [HHC.out]; rfl] at hol
    have HOL := Lib.hid hol
    have HBL := Lib.hid (belt (Below.refl _ w1) (.cells #[.int .u8 k, .int .u8 n, .int .u8 r, .int .u8 wd, .int .u8 l] 5))
    have HDL : Hid (hd.length = 5) := Lib.hid (by rw [HHC.out]; rfl)
    clear hvl hol
    go_wp2
    go_loopw [5, 6] (fun v5 v6 wr => ∃ j : Nat, v6 = .int .i64 j ∧ j ≤ 5 ∧ Hid (Own wr w1.heap.size v5 (hd ++ (baseC b).take j)) ∧ Hid (Below w1.heap.size w1 wr)) (fun _ v6 _ => 5 - (intOf v6).toNat)
    case atStart => exact ⟨0, rfl, by omega, Lib.hid (by simpa using HOL.out), HBL⟩
    case round =>
      obtain ⟨j, rfl, hj, HO, HB⟩ := hrel
      obtain ⟨A, cp, rfl, hl1, hl2, hby⟩ := HO.out.form
      clear hl1 hl2 hby
      generalize wr = wA at *
      obtain ⟨y0, y1, y2, y3, y4, y5, y6⟩ := (HX1.out.next HB.out).cells
      simp only at y0 y1 y2 y3 y4 y5 y6
      have hlt := (HX1.out.next HB.out).lt
      rcases (show j = 0 ∨ j = 1 ∨ j = 2 ∨ j = 3 ∨ j = 4 ∨ j = 5 by omega) with rfl | rfl | rfl | rfl | rfl | rfl
      · obtain ⟨v9, w9, hrun, hown9, hb9⟩ := own_put HO.out HB.out HB.out.size b (by rw [List.length_append, HDL.out]; simp [baseC]) (by omega) (by omega)
        have HRUN := Lib.hid hrun
        have HO9 : Hid (Own w9 w1.heap.size v9 (hd ++ (baseC b).take 1)) := Lib.hid (by
          have e : hd ++ (baseC b).take 1 = (hd ++ (baseC b).take 0) ++ [u8 b] := by rw [List.append_assoc]; rfl
          rw [e]; exact hown9)
        have HB9 := Lib.hid hb9
        clear hrun hown9 hb9 HO HB hj
        generalize (hd ++ (baseC b).take 0).length = nl at *
        go_wp2_with (at_builtin; refine wpList_app_run HRUN.out rfl rfl rfl rfl rfl ?_)
        go_roundw
        case rel => exact ⟨1, by go_num, by omega, HO9, HB9⟩
        case measure => simp [intOf]
      · obtain ⟨v9, w9, hrun, hown9, hb9⟩ := own_put HO.out HB.out HB.out.size (b / 256) (by rw [List.length_append, HDL.out]; simp [baseC]) (by omega) (by omega)
        have HRUN := Lib.hid hrun
        have HO9 : Hid (Own w9 w1.heap.size v9 (hd ++ (baseC b).take 2)) := Lib.hid (by
          have e : hd ++ (baseC b).take 2 = (hd ++ (baseC b).take 1) ++ [u8 (b / 256)] := by rw [List.append_assoc]; rfl
          rw [e]; exact hown9)
        have HB9 := Lib.hid hb9
        clear hrun hown9 hb9 HO HB hj
        generalize (hd ++ (baseC b).take 1).length = nl at *
        go_wp2_with (at_builtin; refine wpList_app_run HRUN.out rfl rfl rfl rfl rfl ?_)
        go_roundw
        case rel => exact ⟨2, by go_num, by omega, HO9, HB9⟩
        case measure => simp [intOf]
      · obtain ⟨v9, w9, hrun, hown9, hb9⟩ := own_put HO.out HB.out HB.out.size (b / 65536) (by rw [List.length_append, HDL.out]; simp [baseC]) (by omega) (by omega)
        have HRUN := Lib.hid hrun
        have HO9 : Hid (Own w9 w1.heap.size v9 (hd ++ (baseC b).take 3)) := Lib.hid (by
          have e : hd ++ (baseC b).take 3 = (hd ++ (baseC b).take 2) ++ [u8 (b / 65536)] := by rw [List.append_assoc]; rfl
          rw [e]; exact hown9)
        have HB9 := Lib.hid hb9
        clear hrun hown9 hb9 HO HB hj
        generalize (hd ++ (baseC b).take 2).length = nl at *
        go_wp2_with (at_builtin; refine wpList_app_run HRUN.out rfl rfl rfl rfl rfl ?_)
        go_roundw
        case rel => exact ⟨3, by go_num, by omega, HO9, HB9⟩
        case measure => simp [intOf]
      · obtain ⟨v9, w9, hrun, hown9, hb9⟩ := own_put HO.out HB.out HB.out.size (b / 16777216) (by rw [List.length_append, HDL.out]; simp [baseC]) (by omega) (by omega)
        have HRUN := Lib.hid hrun
        have HO9 : Hid (Own w9 w1.heap.size v9 (hd ++ (baseC b).take 4)) := Lib.hid (by
          have e : hd ++ (baseC b).take 4 = (hd ++ (baseC b).take 3) ++ [u8 (b / 16777216)] := by rw [List.append_assoc]; rfl
          rw [e]; exact hown9)
        have HB9 := Lib.hid hb9
        clear hrun hown9 hb9 HO HB hj
        generalize (hd ++ (baseC b).take 3).length = nl at *
        go_wp2_with (at_builtin; refine wpList_app_run HRUN.out rfl rfl rfl rfl rfl ?_)
        go_roundw
        case rel => exact ⟨4, by go_num, by omega, HO9, HB9⟩
        case measure => simp [intOf]
      · obtain ⟨v9, w9, hrun, hown9, hb9⟩ := own_put HO.out HB.out HB.out.size (b / 4294967296) (by rw [List.length_append, HDL.out]; simp [baseC]) (by omega) (by omega)
        have HRUN := Lib.hid hrun
        have HO9 : Hid (Own w9 w1.heap.size v9 (hd ++ (baseC b).take 5)) := Lib.hid (by
          have e : hd ++ (baseC b).take 5 = (hd ++ (baseC b).take 4) ++ [u8 (b / 4294967296)] := by rw [List.append_assoc]; rfl
          rw [e]; exact hown9)
        have HB9 := Lib.hid hb9
        clear hrun hown9 hb9 HO HB hj
        generalize (hd ++ (baseC b).take 4).length = nl at *
        go_wp2_with (at_builtin; refine wpList_app_run HRUN.out rfl rfl rfl rfl rfl ?_)
        go_roundw
        case rel => exact ⟨5, by go_num, by omega, HO9, HB9⟩
        case measure => simp [intOf]
      · have HE := Lib.hid (HE1.out _ _ HO.out HB.out)
        generalize (hd ++ (baseC b).take 5).length = nl at *
        clear HO HB hj
        go_wp2
        refine bodyPost_ret (v := .tuple #[.slice A nl cp, .int .i64 0]) (by simp [results, Try.results54]) rfl ?_
        exact HE.out
  · simp only [if_true] at HHC
    have hw8 : IntKind.i64.wrap (r + 8) = r + 8 := IntWalk.i64_in _ (by omega)
    have hvl : vals hd = [.int .u8 k, .int .u8 n, .int .u8 (r + 8), .int .u8 wd, .int .u8 l] := by
      rw [HHC.out]
      simp only [vals, List.map_cons, List.map_nil, u8_val]
      rw [Int.emod_eq_of_lt (by omega) (by omega), Int.emod_eq_of_lt (by omega) (by omega), Int.emod_eq_of_lt (by omega) (by omega), Int.emod_eq_of_lt (by omega) (by omega), Int.emod_eq_of_lt (by omega) (by omega)]
    have hol := own_lit w1 w1.heap.size hd (Nat.le_refl _) (by rw [HHC.out]; simp)
    rw [hvl, show hd.length = 5 by rw [HHC.out]; rfl] at hol
    have HOL := Lib.hid hol
    have HBL := Lib.hid (belt (Below.refl _ w1) (.cells #[.int .u8 k, .int .u8 n, .int .u8 (r + 8), .int .u8 wd, .int .u8 l] 5))
    have HDL : Hid (hd.length = 5) := Lib.hid (by rw [HHC.out]; rfl)
    clear hvl hol
    go_wp2
    go_loopw [5, 6] (fun v5 v6 wr => ∃ j : Nat, v6 = .int .i64 j ∧ j ≤ 5 ∧ Hid (Own wr w1.heap.size v5 (hd ++ (baseC b).take j)) ∧ Hid (Below w1.heap.size w1 wr)) (fun _ v6 _ => 5 - (intOf v6).toNat)
    case atStart => exact ⟨0, rfl, by omega, Lib.hid (by simpa using HOL.out), HBL⟩
    case round =>
      obtain ⟨j, rfl, hj, HO, HB⟩ := hrel
      obtain ⟨A, cp, rfl, hl1, hl2, hby⟩ := HO.out.form
      clear hl1 hl2 hby
      generalize wr = wA at *
      obtain ⟨y0, y1, y2, y3, y4, y5, y6⟩ := (HX1.out.next HB.out).cells
      simp only at y0 y1 y2 y3 y4 y5 y6
      have hlt := (HX1.out.next HB.out).lt
      rcases (show j = 0 ∨ j = 1 ∨ j = 2 ∨ j = 3 ∨ j = 4 ∨ j = 5 by omega) with rfl | rfl | rfl | rfl | rfl | rfl
      · obtain ⟨v9, w9, hrun, hown9, hb9⟩ := own_put HO.out HB.out HB.out.size b (by rw [List.length_append, HDL.out]; simp [baseC]) (by omega) (by omega)
        have HRUN := Lib.hid hrun
        have HO9 : Hid (Own w9 w1.heap.size v9 (hd ++ (baseC b).take 1)) := Lib.hid (by
          have e : hd ++ (baseC b).take 1 = (hd ++ (baseC b).take 0) ++ [u8 b] := by rw [List.append_assoc]; rfl
          rw [e]; exact hown9)
        have HB9 := Lib.hid hb9
        clear hrun hown9 hb9 HO HB hj
        generalize (hd ++ (baseC b).take 0).length = nl at *
        go_wp2_with (at_builtin; refine wpList_app_run HRUN.out rfl rfl rfl rfl rfl ?_)
        go_roundw
        case rel => exact ⟨1, by go_num, by omega, HO9, HB9⟩
        case measure => simp [intOf]
      · obtain ⟨v9, w9, hrun, hown9, hb9⟩ := own_put HO.out HB.out HB.out.size (b / 256) (by rw [List.length_append, HDL.out]; simp [baseC]) (by omega) (by omega)
        have HRUN := Lib.hid hrun
        have HO9 : Hid (Own w9 w1.heap.size v9 (hd ++ (baseC b).take 2)) := Lib.hid (by
          have e : hd ++ (baseC b).take 2 = (hd ++ (baseC b).take 1) ++ [u8 (b / 256)] := by rw [List.append_assoc]; rfl
          rw [e]; exact hown9)
        have HB9 := Lib.hid hb9
        clear hrun hown9 hb9 HO HB hj
        generalize (hd ++ (baseC b).take 1).length = nl at *
        go_wp2_with (at_builtin; refine wpList_app_run HRUN.out rfl rfl rfl rfl rfl ?_)
        go_roundw
        case rel => exact ⟨2, by go_num, by omega, HO9, HB9⟩
        case measure => simp [intOf]
      · obtain ⟨v9, w9, hrun, hown9, hb9⟩ := own_put HO.out HB.out HB.out.size (b / 65536) (by rw [List.length_append, HDL.out]; simp [baseC]) (by omega) (by omega)
        have HRUN := Lib.hid hrun
        have HO9 : Hid (Own w9 w1.heap.size v9 (hd ++ (baseC b).take 3)) := Lib.hid (by
          have e : hd ++ (baseC b).take 3 = (hd ++ (baseC b).take 2) ++ [u8 (b / 65536)] := by rw [List.append_assoc]; rfl
          rw [e]; exact hown9)
        have HB9 := Lib.hid hb9
        clear hrun hown9 hb9 HO HB hj
        generalize (hd ++ (baseC b).take 2).length = nl at *
        go_wp2_with (at_builtin; refine wpList_app_run HRUN.out rfl rfl rfl rfl rfl ?_)
        go_roundw
        case rel => exact ⟨3, by go_num, by omega, HO9, HB9⟩
        case measure => simp [intOf]
      · obtain ⟨v9, w9, hrun, hown9, hb9⟩ := own_put HO.out HB.out HB.out.size (b / 16777216) (by rw [List.length_append, HDL.out]; simp [baseC]) (by omega) (by omega)
        have HRUN := Lib.hid hrun
        have HO9 : Hid (Own w9 w1.heap.size v9 (hd ++ (baseC b).take 4)) := Lib.hid (by
          have e : hd ++ (baseC b).take 4 = (hd ++ (baseC b).take 3) ++ [u8 (b / 16777216)] := by rw [List.append_assoc]; rfl
          rw [e]; exact hown9)
        have HB9 := Lib.hid hb9
        clear hrun hown9 hb9 HO HB hj
        generalize (hd ++ (baseC b).take 3).length = nl at *
        go_wp2_with (at_builtin; refine wpList_app_run HRUN.out rfl rfl rfl rfl rfl ?_)
        go_roundw
        case rel => exact ⟨4, by go_num, by omega, HO9, HB9⟩
        case measure => simp [intOf]
      · obtain ⟨v9, w9, hrun, hown9, hb9⟩ := own_put HO.out HB.out HB.out.size (b / 4294967296) (by rw [List.length_append, HDL.out]; simp [baseC]) (by omega) (by omega)
        have HRUN := Lib.hid hrun
        have HO9 : Hid (Own w9 w1.heap.size v9 (hd ++ (baseC b).take 5)) := Lib.hid (by
          have e : hd ++ (baseC b).take 5 = (hd ++ (baseC b).take 4) ++ [u8 (b / 4294967296)] := by rw [List.append_assoc]; rfl
          rw [e]; exact hown9)
        have HB9 := Lib.hid hb9
        clear hrun hown9 hb9 HO HB hj
        generalize (hd ++ (baseC b).take 4).length = nl at *
        go_wp2_with (at_builtin; refine wpList_app_run HRUN.out rfl rfl rfl rfl rfl ?_)
        go_roundw
        case rel => exact ⟨5, by go_num, by omega, HO9, HB9⟩
        case measure => simp [intOf]
      · have HE := Lib.hid (HE1.out _ _ HO.out HB.out)
        generalize (hd ++ (baseC b).take 5).length = nl at *
        clear HO HB hj
        go_wp2
        refine bodyPost_ret (v := .tuple #[.slice A nl cp, .int .i64 0]) (by simp [results, Try.results54]) rfl ?_
        exact HE.out
end Go.Proofs.Ytnoegjfokceghaa
