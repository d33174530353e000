/-
  The program's Encode.
  Conditions: none.
-/
import Derived.Test.YtndppbfdcceflaaMca
import Derived.Test.YtndppbfdcceflaaCad
import Derived.Deep.CutBlock
import Derived.Deep.DeepCutAuto
namespace Go.Proofs.Ytndppbfdcceflaa

open Go.RowKit

/-- An address without its j lowest bytes. -/
def shB (b : Int) : Nat → Int
  | 0 => b
  | j + 1 => shB b j / 256
theorem shB_range {b : Int} (h0 : 0 ≤ b) (h1 : b ≤ 1099511627776) : ∀ j, 0 ≤ shB b j ∧ shB b j ≤ 1099511627776
  | 0 => ⟨h0, h1⟩
  | j + 1 => by have := shB_range h0 h1 j; show 0 ≤ shB b j / 256 ∧ shB b j / 256 ≤ _; omega
/-- Its j lowest bytes. -/
def upB (b : Int) (j : Nat) : List UInt8 := (List.range j).map fun i => u8 (shB b i)
theorem upB_succ (b : Int) (j : Nat) : upB b (j + 1) = upB b j ++ [u8 (shB b j)] := by
  unfold upB; rw [List.range_succ, List.map_append]; rfl
theorem upB_len (b : Int) (j : Nat) : (upB b j).length = j := by simp [upB]
theorem upB_five (b : Int) : upB b 5 = baseC b := by
  have e : upB b 5 = [u8 b, u8 (b / 256), u8 (b / 256 / 256), u8 (b / 256 / 256 / 256), u8 (b / 256 / 256 / 256 / 256)] := rfl
  rw [e, show b / 256 / 256 = b / 65536 by omega, show b / 65536 / 256 = b / 16777216 by omega, show b / 16777216 / 256 = b / 4294967296 by omega]
  rfl
/-- A byte is appended to bytes of the call's own. -/
theorem own_byte {wA w0 : World} {base : Nat} {v : Value} {l : List UInt8} (h : Own wA base v l) (hb : Below base w0 wA) (hbase : base ≤ wA.heap.size) (x : Int) (hl : l.length ≤ 1000) :
    ∃ v' w', (Builtin.append_ #[39, 39] 39 #[v, .slice (some ⟨wA.heap.size, 0, none⟩) 1 1]).run Try.prog (wA.alloc (.cells #[.int .u8 (x % 256)] 5)) = .ok v' w' ∧ Own w' base v' (l ++ [u8 x]) ∧ Below base w0 w' := by
  rw [← u8_val x]
  have ho := own_lit wA wA.heap.size [u8 x] (Nat.le_refl _) (by simp)
  obtain ⟨A, cp, e, _, _, hby⟩ := ho.form
  injection e with e1 e2 e3
  subst e1
  obtain ⟨v', w', hr, hown, hb', _⟩ := (h.alloc (.cells (vals [u8 x]).toArray 5)).app (w0 := w0) 1 hby (hb.alloc hbase _) (by simp; omega) (by simp; omega)
  exact ⟨v', w', hr, hown, hb'⟩
set_option maxRecDepth 20000 in
set_option maxHeartbeats 2000000 in
theorem pEnc_any (c : GC) (w : World) : Calls Try.prog 21 #[c.val] w (EncEnd (if vC c = true then 0 else 1) (if vC c = true then encC c else []) w) := by
  have HV := Lib.hid fun W => pVC_any c W
  have HX := Lib.hid (CB.new w c)
  have HVF := Lib.hid (vC_facts (c := c))
  have HEC : Hid (encC c = headC c ++ baseC c.base) := Lib.hid rfl
  have HHC : Hid (headC c = [u8 c.kind, u8 c.bits, u8 (if c.device = true then c.rights + 8 else c.rights), u8 c.width, u8 c.level]) := Lib.hid rfl
  obtain ⟨q, hq⟩ : ∃ q : Int, q = if vC c = true then 0 else 1 := ⟨_, rfl⟩
  obtain ⟨lx, hlx⟩ : ∃ lx, lx = if vC c = true then encC c else [] := ⟨_, rfl⟩
  have HQ1 : Hid (vC c = true → q = 0 ∧ lx = encC c) := Lib.hid fun h => by rw [hq, hlx, if_pos h, if_pos h]; exact ⟨rfl, rfl⟩
  have HQ0 : Hid (vC c = false → q = 1 ∧ lx = []) := Lib.hid fun h => by rw [hq, hlx, h]; exact ⟨rfl, rfl⟩
  rw [← hq, ← hlx]
  clear hq hlx
  generalize encC c = ec at *
  generalize headC c = hd at *
  generalize vC c = v at *
  have HB0 := Lib.hid (belt (Below.refl _ w) (.cells #[.int .i64 c.kind, .int .i64 c.base, .int .i64 c.bits, .int .i64 c.rights, .int .i64 c.width, .int .i64 c.level, .bool c.device] 28))
  obtain ⟨k, b, n, r, wd, l, d⟩ := c
  simp only [GC.val, GC.rng] at *
  go_enter Try.func21, Try.ntmps21
  go_wp2_with fail
  go_fit (HV.out _)
  rintro e w1 ⟨rfl, hb1⟩
  have HX1 := Lib.hid (HX.out.next hb1)
  have HB1 := Lib.hid (beln HB0.out hb1)
  clear hb1 HV HX HB0
  obtain ⟨y0, y1, y2, y3, y4, y5, y6⟩ := HX1.out.cells
  simp only at y0 y1 y2 y3 y4 y5 y6
  rcases v with _ | _
  · obtain ⟨e1, e2⟩ := HQ0.out rfl
    have HE : Hid (EncEnd q lx w (.returned (.tuple #[.slice none 0 0, .int .i64 1])) w1) := Lib.hid (by rw [e1, e2]; exact ⟨_, rfl, Own.nil _ _, HB1.out⟩)
    clear e1 e2
    go_wp2
    refine bodyPost_ret (v := .tuple #[.slice none 0 0, .int .i64 1]) (by simp [results, Try.results21]) rfl ?_
    exact HE.out
  obtain ⟨e1, e2⟩ := HQ1.out rfl
  have HE1 : Hid (∀ v W, Own W w1.heap.size v (hd ++ upB b 5) → Below w1.heap.size w1 W → EncEnd q lx w (.returned (.tuple #[v, .int .i64 0])) W) := Lib.hid fun v W hO hB => by
    rw [upB_five] at hO
    rw [e1, e2, HEC.out]; exact ⟨_, rfl, hO.low HB1.out.size, beln HB1.out hB⟩
  clear e1 e2 HQ0 HQ1
  obtain ⟨hv, n0, n1, k0, k1, r0, r1, d0, d1, l0, l1⟩ := HVF.out rfl
  have hb0 := hv.b0
  have htp := hv.top
  have hsp := sz_pos ⟨b, n⟩
  simp only at hb0 htp
  have HSR := Lib.hid (shB_range hb0 (show b ≤ 1099511627776 by omega))
  clear hv htp hsp HVF HEC hb0
  obtain ⟨rt, hrt⟩ : ∃ rt : Int, (if d = true then r + 8 else r) = rt := ⟨_, rfl⟩
  rw [hrt] at HHC
  have rt0 : 0 ≤ rt ∧ rt ≤ 15 := by rw [← hrt]; split <;> omega
  go_upto_if 13 with fail
  go_cut [4] (fun v4 wx => v4 = .int .i64 rt ∧ wx = w1)
  case first =>
    rcases d with _ | _
    · have e : r = rt := hrt
      subst e
      go_wp2_with fail
      go_meet
      exact ⟨rfl, rfl⟩
    · have e : r + 8 = rt := hrt
      subst e
      have hw : IntKind.i64.wrap (r + 8) = r + 8 := IntWalk.i64_in _ (by omega)
      go_wp2_with fail
      go_meet
      exact ⟨rfl, rfl⟩
  case rest =>
    obtain ⟨rfl, rfl⟩ := hcut
    clear hrt
    have hvl : vals hd = [.int .u8 k, .int .u8 n, .int .u8 rt, .int .u8 wd, .int .u8 l] := by
      rw [HHC.out]
      simp only [vals, List.map_cons, List.map_nil, u8_val]
      rw [Int.emod_eq_of_lt (by omega) (by omega), Int.emod_eq_of_lt (by omega) (by omega), Int.emod_eq_of_lt (by omega) (by omega), Int.emod_eq_of_lt (by omega) (by omega), Int.emod_eq_of_lt (by omega) (by omega)]
    have hol := own_lit wc wc.heap.size hd (Nat.le_refl _) (by rw [HHC.out]; simp)
    rw [hvl, show hd.length = 5 by rw [HHC.out]; rfl] at hol
    have HOL := Lib.hid hol
    have HBL := Lib.hid (belt (Below.refl _ wc) (.cells #[.int .u8 k, .int .u8 n, .int .u8 rt, .int .u8 wd, .int .u8 l] 5))
    have HDL : Hid (hd.length = 5) := Lib.hid (by rw [HHC.out]; rfl)
    clear hvl hol
    have hxl := HX1.out.lt
    go_wp2
    clear hxl y0 y1 y2 y3 y4 y5 y6
    go_loopw [5, 6] (fun v5 v6 wr => ∃ j : Nat, v6 = .int .i64 (shB b j) ∧ j ≤ 5 ∧ Hid (Own wr wc.heap.size v5 (hd ++ upB b j)) ∧ Hid (Below wc.heap.size wc wr)) (fun v5 _ _ => 10 - (match v5 with | .slice _ n _ => n | _ => 0))
    case atStart => exact ⟨0, rfl, by omega, Lib.hid (by simpa [upB] using HOL.out), HBL⟩
    case round =>
      obtain ⟨j, rfl, hj, HO, HB⟩ := hrel
      obtain ⟨A, cp, rfl, hl1, hl2, hby⟩ := HO.out.form
      clear hl1 hl2 hby
      generalize wr = wA at *
      have HLL : Hid ((hd ++ upB b j).length = 5 + j) := Lib.hid (by rw [List.length_append, HDL.out, upB_len])
      by_cases h5 : j < 5
      · have hl := HLL.out
        rw [hl]
        have fj : decide (((5 + j : Nat) : Int) < 10) = true := by simp; omega
        obtain ⟨s0, s1⟩ := HSR.out j
        obtain ⟨v9, w9, hrun, hown9, hb9⟩ := own_byte HO.out HB.out HB.out.size (shB b j) (by rw [hl]; omega)
        rw [hl] at hrun
        rw [List.append_assoc, ← upB_succ] at hown9
        have HRUN := Lib.hid hrun
        have HO9 := Lib.hid hown9
        have HB9 := Lib.hid hb9
        have HS1 : Hid (shB b (j + 1) = shB b j / 256) := Lib.hid rfl
        obtain ⟨A9, cp9, rfl, _, _, _⟩ := hown9.form
        have HL9 : Hid ((hd ++ upB b (j + 1)).length = 5 + (j + 1)) := Lib.hid (by rw [List.length_append, HDL.out, upB_len])
        rw [HL9.out] at HRUN HO9
        clear hrun hown9 hb9 HO HB hl HLL
        generalize shB b j = s at *
        go_wp2_with (at_builtin; refine wpList_app_run HRUN.out rfl rfl rfl rfl rfl ?_)
        go_roundw
        case rel => exact ⟨j + 1, by rw [HS1.out], by omega, HO9, HB9⟩
        case measure => show 10 - (5 + (j + 1)) < 10 - (5 + j); omega
      · obtain rfl : j = 5 := by omega
        have hl := HLL.out
        rw [hl]
        have HE := Lib.hid (HE1.out (.slice A (hd ++ upB b 5).length cp) wA HO.out HB.out)
        rw [hl] at HE
        clear HO HB hl HLL h5 hj
        go_wp2
        refine bodyPost_ret (v := .tuple #[.slice A 10 cp, .int .i64 0]) (by simp [results, Try.results21]) rfl ?_
        exact HE.out
end Go.Proofs.Ytndppbfdcceflaa
