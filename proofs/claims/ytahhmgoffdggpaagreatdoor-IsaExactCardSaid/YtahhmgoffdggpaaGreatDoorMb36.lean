/-
  An instruction's text, operand by operand. Plain mathematics.
  Conditions: as each theorem says.
  The reference's Disassemble is the text of a valid program.
  Conditions: as the theorem says.
  The law IsaExact returns true.
  Conditions: the listed variables lie as the program's start lays them.
-/
import Derived.Test.YtahhmgoffdggpaaGreatDoorMb35
import Derived.Deep.CutBlock
import Derived.Deep.CutRange
import Derived.Test.YtahhmgoffdggpaaGreatDoorMb32
import Derived.Test.YtahhmgoffdggpaaGreatDoorMb25
namespace Go.Proofs.YtahhmgoffdggpaaGreatDoor
open Go.RowKit Go.Shelf

/-- The word of one operand. -/
def wdL (x : GIns) (c : UInt8) : List UInt8 :=
  if c = 97 then 114 :: decL x.a.toNat else if c = 98 then 114 :: decL x.b.toNat else if c = 99 then 114 :: decL x.c.toNat
  else if c = 105 then (if x.imm < 0 then 45 :: decL (-x.imm).toNat else decL x.imm.toNat) else 76 :: decL x.imm.toNat
/-- The text of some operands. -/
def parW (ws : List (List UInt8)) : List UInt8 := if ws = [] then [] else 32 :: joinW ws
theorem joinW_snoc (u : List UInt8) : ∀ (us : List (List UInt8)), us ≠ [] → joinW (us ++ [u]) = joinW us ++ ([44, 32] ++ u)
  | [], h => absurd rfl h
  | [x], _ => by
    show joinW (x :: [u]) = _
    rw [joinW_cons]
    simp [joinW, Lib.join]
  | x :: y :: r, _ => by
    show joinW (x :: y :: (r ++ [u])) = _
    rw [joinW_cons, joinW_cons x y r]
    have := joinW_snoc u (y :: r) (by simp)
    rw [List.cons_append] at this
    rw [this]
    simp
theorem parW_snoc (us : List (List UInt8)) (u : List UInt8) : parW (us ++ [u]) = parW us ++ ((if 0 < us.length then [44] else []) ++ 32 :: u) := by
  unfold parW
  cases us with
  | nil => simp [joinW, Lib.join]
  | cons a r =>
    rw [if_neg (by simp), if_neg (by simp), joinW_snoc u (a :: r) (by simp), if_pos (by simp)]
    simp
theorem regW_dec {n : Nat} (h : n < 16) : regW n = 114 :: decL n := by
  have : ∀ n : Fin 16, regW n.val = 114 :: decL n.val := by decide +kernel
  exact this ⟨n, h⟩
theorem itoa_dec {n : Int} : Lib.itoa n = if n < 0 then 45 :: decL (-n).toNat else decL n.toNat := by
  unfold Lib.itoa
  by_cases h : n < 0
  · rw [if_pos h, if_pos h, decDigits_decL, show n.natAbs = (-n).toNat by omega]
  · rw [if_neg h, if_neg h, decDigits_decL]
theorem opW_map {k : Nat} (hk : k < 28) {x : GIns} (hx : x.op = k) (ha : x.a.toNat < 16) (hb : x.b.toNat < 16) (hc : x.c.toNat < 16) (hi : (fmtN k).2.2 = 2 → 0 ≤ x.imm) : opW x = (opsL k).map (wdL x) := by
  have e : x.op.toNat = k := by omega
  have h97 : wdL x 97 = regW x.a.toNat := by rw [regW_dec ha]; rfl
  have h98 : wdL x 98 = regW x.b.toNat := by rw [regW_dec hb]; rfl
  have h99 : wdL x 99 = regW x.c.toNat := by rw [regW_dec hc]; rfl
  have h105 : wdL x 105 = Lib.itoa x.imm := by rw [itoa_dec]; rfl
  unfold opW opsL regsW immW
  rw [e, List.map_append, List.map_take]
  congr 1
  · simp only [List.map_cons, List.map_nil, h97, h98, h99]
  · rcases fmt_imm k with h | h | h
    · rw [h]; rfl
    · rw [h]; simp only [if_true, List.map_cons, List.map_nil, h105]
    · rw [h]
      have h116 : wdL x 116 = labW x.imm := by
        unfold labW
        rw [itoa_dec, if_neg (by have := hi h; omega)]; rfl
      rw [if_neg (by decide), if_pos rfl, if_neg (by decide), if_pos rfl]
      simp only [List.map_cons, List.map_nil, h116]
theorem insD_par {k : Nat} (hk : k < 28) {x : GIns} (hx : x.op = k) (ha : x.a.toNat < 16) (hb : x.b.toNat < 16) (hc : x.c.toNat < 16) (hi : (fmtN k).2.2 = 2 → 0 ≤ x.imm) : insD x = (fmtN k).1 ++ (parW ((opsL k).map (wdL x)) ++ [59, 10]) := by
  have e : x.op.toNat = k := by omega
  unfold insD parW
  rw [e, opW_map hk hx ha hb hc hi]
  congr 2
  cases opsL k with
  | nil => rfl
  | cons a r => simp
theorem preD_dec (ps : List GIns) (k : Nat) : preD ps k = if tgt ps k = true then 76 :: (decL k ++ [58, 32]) else [] := by
  have e : Lib.itoa ((k : Nat) : Int) = decL k := by
    rw [itoa_dec, if_neg (by omega), Int.toNat_natCast]
  unfold preD labW
  rw [e]
  rfl
theorem wdL_short {x : GIns} (ha : x.a.toNat < 16) (hb : x.b.toNat < 16) (hc : x.c.toNat < 16) (hi : ImmOk x) (c : UInt8) : (wdL x c).length ≤ 22 := by
  have hd : ∀ n : Nat, n < 18446744073709551616 → (decL n).length ≤ 20 := fun n hn => (isDec n hn).len
  unfold ImmOk at hi
  have d1 := hd x.a.toNat (by omega)
  have d2 := hd x.b.toNat (by omega)
  have d3 := hd x.c.toNat (by omega)
  have d4 := hd x.imm.toNat (by omega)
  have d5 := hd (-x.imm).toNat (by omega)
  unfold wdL
  repeat' split
  all_goals first | (simp only [List.length_cons]; omega) | omega
end Go.Proofs.YtahhmgoffdggpaaGreatDoor


namespace Go.Proofs.YtahhmgoffdggpaaGreatDoor
open Go.RowKit Go.Shelf

theorem ba_cat9 (a b : List UInt8) : (⟨a.toArray⟩ : ByteArray) ++ ⟨b.toArray⟩ = ⟨(a ++ b).toArray⟩ := ba_app9 a b
theorem cat_w (a d : List UInt8) (p : UInt8) : (((⟨a.toArray⟩ : ByteArray) ++ ⟨#[32]⟩) ++ ⟨#[p]⟩) ++ ⟨d.toArray⟩ = ⟨(a ++ (32 :: p :: d)).toArray⟩ := by
  rw [show (⟨#[32]⟩ : ByteArray) = ⟨[32].toArray⟩ from rfl, show (⟨#[p]⟩ : ByteArray) = ⟨[p].toArray⟩ from rfl, ba_cat9, ba_cat9, ba_cat9]
  simp
theorem cat_w0 (a d : List UInt8) : ((⟨a.toArray⟩ : ByteArray) ++ ⟨#[32]⟩) ++ ⟨d.toArray⟩ = ⟨(a ++ (32 :: d)).toArray⟩ := by
  rw [show (⟨#[32]⟩ : ByteArray) = ⟨[32].toArray⟩ from rfl, ba_cat9, ba_cat9]
  simp
theorem pair_index0 (a b : Value) (W : World) : (Instr.index 71 (.agg #[a, b]) (.int .i64 0)).run Tryz.prog W = .ok a W := by kernel_rfl
theorem rDis9_bad (ps : List GIns) (A : Option Addr) (c : Nat) (w : World) (h : GRow GIns.cells 5 w w.heap.size A ps) (hi : ∀ x ∈ ps, ImmOk x) (hv : valP ps ≠ 0) :
    Calls Tryz.prog 14 #[.slice A ps.length c] w fun e w' => e = .returned (.string ⟨#[]⟩) ∧ Below w.heap.size w w' := by
  have HV := Lib.hid (rVal9_any ps A c w h hi)
  generalize valP ps = ev at *
  have f1 : (ev != 0) = true := by simp [hv]
  clear h hi
  go_enter Tryz.func14, Tryz.ntmps14
  go_wp2_with fail
  go_fit HV.out
  rintro e w1 ⟨rfl, hb1⟩
  have HB1 := Lib.hid hb1
  clear hb1
  go_wp2
  go_ret
  exact ⟨rfl, HB1.out⟩
set_option maxRecDepth 50000 in
set_option maxHeartbeats 8000000 in
theorem rDis9_any (ps : List GIns) (A : Option Addr) (c : Nat) (w : World) (h : GRow GIns.cells 5 w w.heap.size A ps) (hi : ∀ x ∈ ps, ImmOk x) (hv : valP ps = 0) :
    Calls Tryz.prog 14 #[.slice A ps.length c] w fun e w' => e = .returned (.string ⟨(disF ps ps.length).toArray⟩) ∧ Below w.heap.size w w' := by
  have HVA := Lib.hid (rVal9_any ps A c w h hi)
  rw [hv] at HVA
  obtain ⟨hn1, hn0, hvl⟩ : ps.length ≤ 4096 ∧ 1 ≤ ps.length ∧ valL ps.length ps = 0 := by
    unfold valP at hv
    by_cases h0 : ps.length = 0 ∨ 4096 < ps.length
    · rw [if_pos h0] at hv; omega
    · rw [if_neg h0] at hv; exact ⟨by omega, by omega, hv⟩
  have HZ := Lib.hid (valL_zero hvl)
  have HROW := Lib.hid fun W (hW : Below w.heap.size w W) => h.next hW
  have HI := Lib.hid hi
  have HDL := Lib.hid (disF_len ps hi hn1)
  clear h hi hv hvl
  go_enter Tryz.func14, Tryz.ntmps14
  go_wp2_with fail
  go_fit HVA.out
  rintro e w1 ⟨rfl, hb1⟩
  have HB1 := Lib.hid hb1
  clear hb1 HVA
  obtain ⟨cur0, ⟨hc0, hc1⟩, hmk⟩ := make_bools ps.length (by omega) w1
  have HTB0 : Hid (TB (ps.take 0) ps.length w1.heap.size (w1.alloc (.cells cur0 4))) := Lib.hid ⟨cur0, heap_alloc_new w1 _, hc0, by simpa using hc1⟩
  have HBA : Hid (Below w1.heap.size w1 (w1.alloc (.cells cur0 4))) := Lib.hid (belt (Below.refl _ w1) _)
  go_wp2
  clear hmk hc0 hc1
  generalize w1.alloc (.cells cur0 4) = w2 at *
  go_loopw [4] (fun vi wr => ∃ k : Nat, vi = .int .i64 k ∧ k ≤ ps.length ∧ Hid (TB (ps.take k) ps.length w1.heap.size wr) ∧ Hid (Below w1.heap.size w1 wr)) (fun vi _ => ps.length - (intOf vi).toNat)
  case atStart => exact ⟨0, rfl, Nat.zero_le _, HTB0, HBA⟩
  case round =>
    obtain ⟨k, rfl, hk, HTB, HBL⟩ := hrel
    clear HTB0 HBA
    generalize wr = wA at *
    have HTL : Hid (w1.heap.size < wA.heap.size) := Lib.hid (by
      obtain ⟨cur, c1, _, _⟩ := HTB.out
      rcases Nat.lt_or_ge w1.heap.size wA.heap.size with h | h
      · exact h
      · rw [Array.getElem?_eq_none h] at c1; cases c1)
    rcases Nat.lt_or_ge k ps.length with hlt | hge
    · have f0 : decide ((k : Int) < (ps.length : Int)) = true := by simp; omega
      obtain ⟨b, off, rfl, hb, x0, x1, x2, x3, x4⟩ := (HROW.out _ (beln HB1.out HBL.out)).ins hlt
      have HR3 := Lib.hid fun W (hW : Below wA.heap.size wA W) => HROW.out W (beln (beln HB1.out HBL.out) hW)
      have HTK : Hid (ps.take (k + 1) = ps.take k ++ [ps[k]]) := Lib.hid (List.take_succ_eq_append_getElem hlt)
      have HVX := Lib.hid (ins_valid (HZ.out _ (List.getElem_mem hlt)))
      have HCL : Hid (∀ W, Below wA.heap.size wA W → W.cell? ⟨b, off + k * 5 + 4, none⟩ = some (.int .i32 ps[k].imm) ∧ b < W.heap.size) := Lib.hid fun W hW => by
        obtain ⟨b', off', he, hb', _, _, _, _, y4⟩ := (HR3.out W hW).ins hlt
        injection he with he
        injection he with e1 e2
        subst e1 e2
        exact ⟨y4, hb'⟩
      obtain ⟨hop1, hop2⟩ := HVX.out.op
      generalize ps[k] = x at *
      obtain ⟨xo, xa, xb, xc, xi⟩ := x
      simp only at x0 x1 x2 x3 x4 hop1 hop2 HCL
      obtain ⟨q, rfl⟩ : ∃ q : Nat, xo = q := ⟨xo.toNat, by omega⟩
      have hq28 : q < 28 := by omega
      have HJ := Lib.hid fun W => jumps_any ⟨(q : Int), xa, xb, xc, xi⟩ q hq28 rfl W
      simp only [GIns.val, Int.toNat_natCast] at HJ
      have HKE : Hid (∀ W, Below wA.heap.size wA W → TB (ps.take k) ps.length w1.heap.size W) := Lib.hid fun W hW => HTB.out.keep (hW.block _ HTL.out)
      by_cases h2 : (fmtN q).2.2 = 2
      · obtain ⟨hx0, hx1⟩ := HVX.out.target (by simpa using h2)
        simp only at hx0 hx1
        obtain ⟨j, rfl⟩ : ∃ j : Nat, xi = j := ⟨xi.toNat, by omega⟩
        have hjl : j < ps.length := by omega
        rw [decide_eq_true h2] at HJ
        go_wp2_with fail
        go_fit (HJ.out _)
        rintro e w3 ⟨rfl, hb3⟩
        obtain ⟨y4, hbw⟩ := HCL.out w3 hb3
        have HT3 := Lib.hid (HKE.out w3 hb3)
        have HB3 := Lib.hid (beln HBL.out hb3)
        obtain ⟨cur, c1, c2, _⟩ := HT3.out
        have hgl : w1.heap.size < w3.heap.size := Nat.lt_of_lt_of_le HTL.out hb3.size
        have z0 := Lib.frozen_of_heap c1 j
        obtain ⟨u0, v0⟩ : ∃ u, w3.cell? ⟨w1.heap.size, j, none⟩ = some u := ⟨_, by rw [Lib.cell_of_heap c1]; exact Array.getElem?_eq_getElem (by omega)⟩
        have HTB1 : Hid (TB (ps.take (k + 1)) ps.length w1.heap.size (w3.setCell ⟨w1.heap.size, j, none⟩ (.bool true))) := Lib.hid (by rw [HTK.out]; exact HT3.out.put (by simpa using h2) rfl)
        have HBL1 : Hid (Below w1.heap.size w1 (w3.setCell ⟨w1.heap.size, j, none⟩ (.bool true))) := Lib.hid (HB3.out.setCell (p := ⟨w1.heap.size, j, none⟩) (Nat.le_refl _) _)
        clear h2 HTK HTB HVX c1 c2 hb3 x0 x1 x2 x3 x4 HCL HKE HT3 HB3 HBL HR3
        have hjd : decide ((j : Int) < (ps.length : Int)) = true := by simp; omega
        go_wp2
        go_roundw
        case rel => exact ⟨k + 1, by go_num, by omega, HTB1, HBL1⟩
        case measure => simp [intOf]; omega
      · rw [decide_eq_false h2] at HJ
        go_wp2_with fail
        go_fit (HJ.out _)
        rintro e w3 ⟨rfl, hb3⟩
        have HTB1 : Hid (TB (ps.take (k + 1)) ps.length w1.heap.size w3) := Lib.hid (by rw [HTK.out]; exact (HKE.out w3 hb3).same (by simpa using h2))
        have HB3 := Lib.hid (beln HBL.out hb3)
        clear h2 HTK HTB HVX hb3 x0 x1 x2 x3 x4 HCL HKE HBL HR3
        go_wp2
        go_roundw
        case rel => exact ⟨k + 1, by go_num, by omega, HTB1, HB3⟩
        case measure => simp [intOf]; omega
    · obtain rfl : k = ps.length := by omega
      have htb := HTB.out
      rw [List.take_length] at htb
      have HTB := Lib.hid htb
      have HBW := Lib.hid (beln HB1.out HBL.out)
      clear htb HBL hge hk
      have f0 : decide (((ps.length : Nat) : Int) < (ps.length : Int)) = false := by simp
      have HD0 : Hid (disF ps 0 = []) := Lib.hid rfl
      go_wp2
      clear f0
      go_loopw [5, 6] (fun v5 v6 wr2 => ∃ k : Nat, v6 = .int .i64 k ∧ k ≤ ps.length ∧ v5 = .string ⟨(disF ps k).toArray⟩ ∧ Hid (Below wA.heap.size wA wr2)) (fun _ v6 _ => ps.length - (intOf v6).toNat)
      case atStart => exact ⟨0, rfl, Nat.zero_le _, by rw [HD0.out], Lib.hid (Below.refl _ _)⟩
      case round =>
        obtain ⟨k, rfl, hk, rfl, HBL⟩ := hrel
        generalize wr = wR at *
        rcases Nat.lt_or_ge k ps.length with hlt | hge
        rotate_left
        · obtain rfl : k = ps.length := by omega
          have f0 : decide (((ps.length : Nat) : Int) < (ps.length : Int)) = false := by simp
          have HE := Lib.hid (beln HBW.out HBL.out)
          go_wp2
          go_ret
          exact ⟨rfl, HE.out⟩
        have f0 : decide ((k : Int) < (ps.length : Int)) = true := by simp; omega
        obtain ⟨b, off, rfl, hb, x0, x1, x2, x3, x4⟩ := (HROW.out _ (beln HBW.out HBL.out)).ins hlt
        have HTX : Hid (wR.cell? ⟨w1.heap.size, k, none⟩ = some (.bool (tgt ps k))) := Lib.hid (by
          obtain ⟨cur, c1, c2, c3⟩ := HTB.out
          rw [Lib.cell_of_heap ((HBL.out.block _ HTL.out).trans c1)]; exact c3 k hlt)
        have HSX := Lib.hid (disF_succ ps k hlt)
        have HIX0 := Lib.hid (HI.out _ (List.getElem_mem hlt))
        have HRX := Lib.hid (ins_regs (HZ.out _ (List.getElem_mem hlt)))
        have HVX := Lib.hid (ins_valid (HZ.out _ (List.getElem_mem hlt)))
        have HDK := Lib.hid (HDL.out k (by omega))
        have HPD := Lib.hid (preD_dec ps k)
        generalize ps[k] = x at *
        generalize tgt ps k = tk at *
        generalize preD ps k = pk at *
        generalize hdk : disF ps k = dk at *
        obtain ⟨xo, xa, xb, xc, xi⟩ := x
        simp only at x0 x1 x2 x3 x4
        obtain ⟨hop1, hop2⟩ := HVX.out.op
        obtain ⟨ha0, ha1, hb0, hb1, hc0, hc1⟩ := HRX.out.regs
        obtain ⟨him0, him1⟩ := HIX0.out
        simp only at hop1 hop2 ha0 ha1 hb0 hb1 hc0 hc1 him0 him1
        obtain ⟨q, rfl⟩ : ∃ q : Nat, xo = q := ⟨xo.toNat, by omega⟩
        obtain ⟨xan, rfl⟩ : ∃ n : Nat, xa = (n : Int) := ⟨xa.toNat, by omega⟩
        obtain ⟨xbn, rfl⟩ : ∃ n : Nat, xb = (n : Int) := ⟨xb.toNat, by omega⟩
        obtain ⟨xcn, rfl⟩ : ∃ n : Nat, xc = (n : Int) := ⟨xc.toNat, by omega⟩
        have hq : q < 28 := by omega
        have HXI : Hid ((fmtN q).2.2 = 2 → 0 ≤ xi) := Lib.hid fun h => (HVX.out.target (by simpa using h)).1
        have HIP := Lib.hid (insD_par hq (x := ⟨(q : Int), (xan : Int), (xbn : Int), (xcn : Int), xi⟩) rfl (by show ((xan : Int)).toNat < 16; omega) (by show ((xbn : Int)).toNat < 16; omega) (by show ((xcn : Int)).toNat < 16; omega) HXI.out)
        have HWS := Lib.hid (wdL_short (x := ⟨(q : Int), (xan : Int), (xbn : Int), (xcn : Int), xi⟩) (by show ((xan : Int)).toNat < 16; omega) (by show ((xbn : Int)).toNat < 16; omega) (by show ((xcn : Int)).toNat < 16; omega) HIX0.out)
        have HFS := Lib.hid (fmt_short q)
        have HOL := Lib.hid (opsL_len hq)
        have HOA := Lib.hid fun i (hi : i < (opsL q).length) => opsL_at hq hi
        have HTI := Lib.hid fun W => tab_index q hq W
        have HPI := Lib.hid fun W => pair_index0 (.string ⟨(fmtN q).1.toArray⟩) (.string ⟨(opsL q).toArray⟩) W
        have HTA := Lib.hid fun W => table_any W
        have HOR := Lib.hid fun W => operands_ref q hq W
        have HPL : Hid (pk.length ≤ 24) := Lib.hid (by
          rw [HPD.out]
          split
          · have := (isDec k (by omega)).len
            simp; omega
          · simp)
        have hdk9 : dk.length ≤ 600000 := by have := HDK.out; omega
        have hsk : (⟨dk.toArray⟩ : ByteArray).size = dk.length := ba_size dk
        have y0 := HTX.out
        have hw1R : w1.heap.size < wR.heap.size := Nat.lt_of_lt_of_le HTL.out HBL.out.size
        have HXB := Lib.hid (XB.new wR ⟨(q : Int), (xan : Int), (xbn : Int), (xcn : Int), xi⟩)
        have HBX := Lib.hid (belt HBL.out (.cells #[.int .i64 (q : Int), .int .i64 (xan : Int), .int .i64 (xbn : Int), .int .i64 (xcn : Int), .int .i32 xi] 40))
        clear hdk HTX HDK HIX0 HRX HVX hop1 hop2 HBL
        go_upto_region 14 with fail
        generalize hNB : wR.alloc (.cells #[.int .i64 (q : Int), .int .i64 (xan : Int), .int .i64 (xbn : Int), .int .i64 (xcn : Int), .int .i32 xi] 40) = wB at *
        have y1 : wB.cell? ⟨w1.heap.size, k, none⟩ = some (.bool tk) := by rw [← hNB]; exact ((belt (Below.refl _ wR) _).cell (p := ⟨w1.heap.size, k, none⟩) hw1R).trans y0
        have hw1B : w1.heap.size < wB.heap.size := by rw [← hNB]; simp; omega
        clear y0 hNB x0 x1 x2 x3 x4
        generalize wR.heap.size = M at *
        go_upto_if 47 with fail
        go_cut [5] from 34 to 135 (fun v5 wx => v5 = .string ⟨(dk ++ pk).toArray⟩ ∧ wx = wB)
        case first =>
          rcases tk with _ | _
          · have e : pk = [] := HPD.out
            subst e
            go_wp2_with fail
            go_meet
            exact ⟨by rw [List.append_nil], rfl⟩
          · have e : pk = 76 :: (decL k ++ [58, 32]) := HPD.out
            have HD := Lib.hid fun W => decimal_any k (by omega) W
            have hdl := (isDec k (by omega)).len
            have hu : IntKind.u64.wrap ((k : Nat) : Int) = k := by rw [IntKind.wrap_u64]; omega
            generalize decL k = dd at *
            have hsd : (⟨dd.toArray⟩ : ByteArray).size = dd.length := ba_size dd
            have HE5 : Hid ((((⟨dk.toArray⟩ : ByteArray) ++ ⟨#[76]⟩) ++ ⟨dd.toArray⟩) ++ ⟨#[58, 32]⟩ = ⟨(dk ++ pk).toArray⟩) := Lib.hid (by
              rw [e, show (⟨#[76]⟩ : ByteArray) = ⟨[76].toArray⟩ from rfl, show (⟨#[58, 32]⟩ : ByteArray) = ⟨[58, 32].toArray⟩ from rfl, ba_cat9, ba_cat9, ba_cat9]
              simp)
            clear e
            go_wp2_with fail
            go_fit (HD.out _)
            rintro e wd ⟨rfl, hww⟩
            obtain rfl : wB = wd := hww
            go_wp2_with fail
            go_meet
            exact ⟨congrArg Value.string HE5.out, rfl⟩
        case rest =>
          obtain ⟨rfl, rfl⟩ := hcut
          have hsp : (⟨(dk ++ pk).toArray⟩ : ByteArray).size = (dk ++ pk).length := ba_size (dk ++ pk)
          have hlp : (dk ++ pk).length ≤ 600100 := by rw [List.length_append]; have := HPL.out; omega
          have HXS := Lib.hid hsp
          clear y1 hsk hdk9
          generalize hdp : dk ++ pk = dp at *
          have HDP := Lib.hid hdp
          clear hdp HPD
          have HMN : Hid ((⟨dp.toArray⟩ : ByteArray) ++ ⟨(fmtN q).1.toArray⟩ = ⟨(dp ++ (fmtN q).1).toArray⟩) := Lib.hid (ba_cat9 _ _)
          have hfs := HFS.out
          have hsm : (⟨(fmtN q).1.toArray⟩ : ByteArray).size = (fmtN q).1.length := ba_size _
          have hno : ¬ (9223372036854775807 < dp.length + (fmtN q).1.length) := by omega
          go_upto_region 16 with fail
          have hS : Below wc.heap.size wc wc.drew ∧ XB wc.drew M ⟨(q : Int), (xan : Int), (xbn : Int), (xcn : Int), xi⟩ := ⟨(Below.refl _ wc).drew, HXB.out.next (Below.refl _ wc).drew⟩
          refine wp_region_growS (S := fun W => Below wc.heap.size wc W ∧ XB W M ⟨(q : Int), (xan : Int), (xbn : Int), (xcn : Int), xi⟩) [(0, true), (2, true), (3, true), (1, false), (4, true), (5, true), (6, true), (7, true)] (by kernel_rfl) (by kernel_rfl) (by kernel_rfl) (by kernel_rfl) (by intro c a d v w h; cases d <;> exact h) hS ?_
          iterate 3
            (first
              | (refine wpGrowS_float (v := ?_) (by simp only [List.getElem?_toArray, List.getElem?_cons_succ, List.getElem?_cons_zero]; rfl) (by rfl) ?_ ?_
                 rotate_left
                 · (intro W hW; obtain ⟨p0, p1, p2, p3, p4⟩ := XB.cells (hW.2); have hti := fun W => HTI.out W; have hpi := fun W => HPI.out W; (try simp only at *); go_simp; try with_reducible rfl)
                 simp only [Act.put, List.setIfInBounds_toArray, List.set_cons_zero, List.set_cons_succ])
              | (refine wpGrowS_skip (by simp only [List.getElem?_toArray, List.getElem?_cons_succ, List.getElem?_cons_zero]; rfl) (by rfl) ?_
                 simp only [Act.put, List.setIfInBounds_toArray, List.set_cons_zero, List.set_cons_succ]))
          refine wpGrowS_call (by simp only [List.getElem?_toArray, List.getElem?_cons_succ, List.getElem?_cons_zero]; rfl) (by rfl) fun K hK => ?_
          go_simp
          go_fit (HTA.out _)
          rintro e wn ⟨rfl, hbn⟩
          have hSp := hS
          have hS : Below wc.heap.size wc wn ∧ XB wn M ⟨(q : Int), (xan : Int), (xbn : Int), (xcn : Int), xi⟩ := ⟨beln (hS.1) hbn, XB.next (hS.2) hbn⟩
          go_simp
          refine hK _ _ hS ?_
          clear hK K
          try simp only [Act.put, List.setIfInBounds_toArray, List.set_cons_zero, List.set_cons_succ]
          iterate 4
            (first
              | (refine wpGrowS_float (v := ?_) (by simp only [List.getElem?_toArray, List.getElem?_cons_succ, List.getElem?_cons_zero]; rfl) (by rfl) ?_ ?_
                 rotate_left
                 · (intro W hW; obtain ⟨p0, p1, p2, p3, p4⟩ := XB.cells (hW.2); have hti := fun W => HTI.out W; have hpi := fun W => HPI.out W; (try simp only at *); go_simp; try with_reducible rfl)
                 simp only [Act.put, List.setIfInBounds_toArray, List.set_cons_zero, List.set_cons_succ])
              | (refine wpGrowS_skip (by simp only [List.getElem?_toArray, List.getElem?_cons_succ, List.getElem?_cons_zero]; rfl) (by rfl) ?_
                 simp only [Act.put, List.setIfInBounds_toArray, List.set_cons_zero, List.set_cons_succ]))
          refine wpGrowS_nil ?_
          have HB5 := Lib.hid hS.1
          have HX5 := Lib.hid hS.2
          clear hS hSp hbn hsp hsm HFS hno
          generalize wn = w5 at *
          obtain ⟨x0, x1, x2, x3, x4⟩ := HX5.out.cells
          simp only at x0 x1 x2 x3 x4
          go_wp2_with fail
          go_fit (HOR.out _)
          rintro e w6 ⟨rfl, hb6⟩
          have HX6 := Lib.hid (HX5.out.next hb6)
          have HB6 := Lib.hid (beln HBX.out (beln HB5.out hb6))
          clear hb6 HX5 HB5 HBX HOR HTI HPI HTA x0 x1 x2 x3 x4
          rw [HMN.out]
          have hlb : (dp ++ (fmtN q).1).length ≤ 600200 := by rw [List.length_append]; omega
          generalize hbs : dp ++ (fmtN q).1 = bs at *
          have HBS := Lib.hid hbs
          clear hbs HMN hlp
          have hol := HOL.out
          have HIP2 := Lib.hid HIP.out
          have hszo : (⟨(opsL q).toArray⟩ : ByteArray).size = (opsL q).length := ba_size _
          obtain ⟨x0, x1, x2, x3, x4⟩ := HX6.out.cells
          simp only at x0 x1 x2 x3 x4
          have hxl := HX6.out.lt
          obtain ⟨ws, hws⟩ : ∃ ws, (opsL q).map (wdL ⟨(q : Int), (xan : Int), (xbn : Int), (xcn : Int), xi⟩) = ws := ⟨_, rfl⟩
          have HWL : Hid (ws.length = (opsL q).length) := Lib.hid (by rw [← hws]; simp)
          have HWG : Hid (∀ j (hj : j < (opsL q).length) (hj2 : j < ws.length), ws[j] = wdL ⟨(q : Int), (xan : Int), (xbn : Int), (xcn : Int), xi⟩ (opsL q)[j]) := Lib.hid fun j hj hj2 => by subst hws; simp
          have HPS : Hid (∀ j, j ≤ (opsL q).length → (parW (ws.take j)).length ≤ 24 * j) := Lib.hid (by
            intro j
            induction j with
            | zero => intro _; simp [parW]
            | succ j ih =>
              intro hj
              have hjw : j < ws.length := by rw [HWL.out]; omega
              have h1 := ih (by omega)
              have h2 := HWS.out (opsL q)[j]
              rw [List.take_succ_eq_append_getElem hjw, parW_snoc, List.length_append, HWG.out j (by omega) hjw]
              rw [List.length_append, List.length_cons]
              have h3 : (if 0 < (ws.take j).length then [44] else ([] : List UInt8)).length ≤ 1 := by split <;> simp
              omega)
          rw [hws] at HIP2
          clear HIP hws HWS
          go_wp2
          go_loopw [5, 9] (fun v5 v9 wr3 => ∃ j : Nat, v9 = .int .i64 j ∧ j ≤ (opsL q).length ∧ v5 = .string ⟨(bs ++ parW (ws.take j)).toArray⟩ ∧ wr3 = w6) (fun _ v9 _ => (opsL q).length - (intOf v9).toNat)
          case atStart => exact ⟨0, rfl, Nat.zero_le _, by simp [parW], rfl⟩
          case round =>
            obtain ⟨j, rfl, hjl, rfl, hwr6⟩ := hrel
            obtain rfl : w6 = wr := hwr6.symm
            rcases Nat.lt_or_ge j (opsL q).length with hjlt | hjge
            rotate_left
            · obtain rfl : j = (opsL q).length := by omega
              have hjf : decide ((((opsL q).length : Nat) : Int) < ((opsL q).length : Int)) = false := by simp
              have hend : (⟨(bs ++ parW (ws.take (opsL q).length)).toArray⟩ : ByteArray) ++ ⟨#[59, 10]⟩ = ⟨(disF ps (k + 1)).toArray⟩ := by
                rw [← HWL.out, List.take_length, HSX.out, HIP2.out, ← HBS.out, ← HDP.out, show (⟨#[59, 10]⟩ : ByteArray) = ⟨[59, 10].toArray⟩ from rfl, ba_cat9]
                simp
              have hpl := HPS.out (opsL q).length (Nat.le_refl _)
              have hcl : (bs ++ parW (ws.take (opsL q).length)).length ≤ 600400 := by rw [List.length_append]; omega
              have hsc : (⟨(bs ++ parW (ws.take (opsL q).length)).toArray⟩ : ByteArray).size = (bs ++ parW (ws.take (opsL q).length)).length := ba_size _
              have HEND := Lib.hid hend
              clear hend hpl
              generalize bs ++ parW (ws.take (opsL q).length) = cu at *
              go_wp2
              go_roundw
              case rel => exact ⟨k + 1, by go_num, by omega, congrArg Value.string HEND.out, HB6⟩
              case measure => simp [intOf]; omega
            have hjt : decide ((j : Int) < ((opsL q).length : Int)) = true := by simp; omega
            have hjw : j < ws.length := by rw [HWL.out]; exact hjlt
            have hst : bs ++ parW (ws.take (j + 1)) = (bs ++ parW (ws.take j) ++ (if 0 < j then [44] else [])) ++ (32 :: wdL ⟨(q : Int), (xan : Int), (xbn : Int), (xcn : Int), xi⟩ (opsL q)[j]) := by
              rw [List.take_succ_eq_append_getElem hjw, parW_snoc, HWG.out j hjlt hjw, List.length_take, Nat.min_eq_left (Nat.le_of_lt hjw)]
              simp
            have hpl := HPS.out j (Nat.le_of_lt hjlt)
            have hcl : (bs ++ parW (ws.take j)).length ≤ 600400 := by rw [List.length_append]; omega
            have hsc : (⟨(bs ++ parW (ws.take j)).toArray⟩ : ByteArray).size = (bs ++ parW (ws.take j)).length := ba_size _
            have HIX := Lib.hid fun W => str_index (opsL q) j hjlt W
            have HCA := Lib.hid (HOA.out j hjlt)
            have HST0 := Lib.hid hst
            clear hst hpl
            generalize bs ++ parW (ws.take j) = cv at *
            obtain ⟨bj, hbj⟩ : ∃ bj, decide (0 < j) = bj := ⟨_, rfl⟩
            have hbj2 : decide ((0 : Int) < (j : Int)) = bj := by rw [← hbj]; simp
            have HBJ := Lib.hid hbj
            go_upto_if 72 with fail
            clear hbj hbj2
            go_cut [5] from 65 to 133 (fun v5 wx => v5 = .string ⟨(cv ++ (if 0 < j then [44] else [])).toArray⟩ ∧ wx = w6)
            case first =>
              rcases bj with _ | _
              · have HE5 : Hid (cv ++ (if 0 < j then [44] else []) = cv) := Lib.hid (by rw [if_neg (of_decide_eq_false HBJ.out), List.append_nil])
                go_wp2_with fail
                go_meet
                exact ⟨by rw [HE5.out], rfl⟩
              · have HE5 : Hid ((⟨cv.toArray⟩ : ByteArray) ++ ⟨#[44]⟩ = ⟨(cv ++ (if 0 < j then [44] else [])).toArray⟩) := Lib.hid (by rw [if_pos (of_decide_eq_true HBJ.out)]; exact ba_cat9 cv [44])
                go_wp2_with fail
                go_meet
                exact ⟨congrArg Value.string HE5.out, rfl⟩
            case rest =>
              obtain ⟨rfl, hwx⟩ := hcut
              obtain rfl : w6 = wc := hwx.symm
              have hcl2 : (cv ++ (if 0 < j then [44] else [])).length ≤ 600401 := by
                rw [List.length_append]
                have : (if 0 < j then [44] else ([] : List UInt8)).length ≤ 1 := by split <;> simp
                omega
              clear hsc
              have hsc : (⟨(cv ++ (if 0 < j then [44] else [])).toArray⟩ : ByteArray).size = (cv ++ (if 0 < j then [44] else [])).length := ba_size _
              have HST := HST0
              clear HST0 hcl
              generalize cv ++ (if 0 < j then [44] else []) = cu at *
              rcases HCA.out with ⟨hc, hfi⟩ | ⟨hc, hfi⟩ | ⟨hc, hfi⟩ | ⟨hc, hfi⟩ | ⟨hc, hfi⟩
              rotate_left
              rotate_left
              rotate_left
              rotate_left
              · have hcv : ((((opsL q)[j].toNat : Nat)) : Int) = 105 := by rw [hc]; rfl
                rw [hcv] at HIX
                rw [hc] at HST
                have hix := fun W => HIX.out W
                have g97 : ((105 : Int) == 97) = false := by decide
                have g98 : ((105 : Int) == 98) = false := by decide
                have g99 : ((105 : Int) == 99) = false := by decide
                have g105 : ((105 : Int) == 105) = true := by decide
                by_cases hneg : xi < 0
                · have f1 : decide (xi < 0) = true := decide_eq_true hneg
                  obtain ⟨xin, hxin⟩ : ∃ n : Nat, -xi = (n : Int) := ⟨(-xi).toNat, by omega⟩
                  have HW : Hid (wdL ⟨(q : Int), (xan : Int), (xbn : Int), (xcn : Int), xi⟩ 105 = 45 :: decL xin) := Lib.hid (by show (if xi < 0 then 45 :: decL (-xi).toNat else _) = _; rw [if_pos hneg, hxin, Int.toNat_natCast])
                  have hc2 : IntKind.i64.wrap xi = xi := IntWalk.i64_in _ (by omega)
                  have hn2 : IntKind.i64.wrap ((xin : Nat) : Int) = xin := IntWalk.i64_in _ (by omega)
                  have hu : IntKind.u64.wrap ((xin : Nat) : Int) = xin := by rw [IntKind.wrap_u64]; omega
                  have HD := Lib.hid fun W => decimal_any xin (by omega) W
                  have hdl := (isDec xin (by omega)).len
                  generalize decL xin = dd at *
                  have hsd : (⟨dd.toArray⟩ : ByteArray).size = dd.length := ba_size dd
                  have HEQ : Hid (((((⟨cu.toArray⟩ : ByteArray) ++ ⟨#[32]⟩) ++ ⟨#[45]⟩) ++ ⟨dd.toArray⟩) = ⟨(bs ++ parW (ws.take (j + 1))).toArray⟩) := Lib.hid (by rw [cat_w cu dd 45, HST.out, HW.out])
                  clear HST HW HIX hcv hc
                  go_wp2_with fail
                  go_fit (HD.out _)
                  rintro e wd ⟨rfl, hww⟩
                  obtain rfl : w6 = wd := hww
                  go_wp2
                  go_roundw
                  case rel => exact ⟨j + 1, by go_num, by omega, congrArg Value.string HEQ.out, by first | rfl | trivial⟩
                  case measure => simp [intOf]; omega
                · have f1 : decide (xi < 0) = false := decide_eq_false hneg
                  obtain ⟨xin, rfl⟩ : ∃ n : Nat, xi = (n : Int) := ⟨xi.toNat, by omega⟩
                  have HW : Hid (wdL ⟨(q : Int), (xan : Int), (xbn : Int), (xcn : Int), (xin : Int)⟩ 105 = decL xin) := Lib.hid (by show (if ((xin : Nat) : Int) < 0 then 45 :: decL (-((xin : Nat) : Int)).toNat else decL (((xin : Nat) : Int)).toNat) = _; rw [if_neg hneg, Int.toNat_natCast])
                  have hu : IntKind.u64.wrap ((xin : Nat) : Int) = xin := by rw [IntKind.wrap_u64]; omega
                  have HD := Lib.hid fun W => decimal_any xin (by omega) W
                  have hdl := (isDec xin (by omega)).len
                  generalize decL xin = dd at *
                  have hsd : (⟨dd.toArray⟩ : ByteArray).size = dd.length := ba_size dd
                  have HEQ : Hid ((((⟨cu.toArray⟩ : ByteArray) ++ ⟨#[32]⟩) ++ ⟨dd.toArray⟩) = ⟨(bs ++ parW (ws.take (j + 1))).toArray⟩) := Lib.hid (by rw [cat_w0 cu dd, HST.out, HW.out])
                  clear HST HW HIX hcv hc
                  go_wp2_with fail
                  go_fit (HD.out _)
                  rintro e wd ⟨rfl, hww⟩
                  obtain rfl : w6 = wd := hww
                  go_wp2
                  go_roundw
                  case rel => exact ⟨j + 1, by go_num, by omega, congrArg Value.string HEQ.out, by first | rfl | trivial⟩
                  case measure => simp [intOf]; omega
              · have hcv : ((((opsL q)[j].toNat : Nat)) : Int) = 97 := by rw [hc]; rfl
                rw [hcv] at HIX
                rw [hc] at HST
                have hix := fun W => HIX.out W
                have g97 : ((97 : Int) == 97) = true := by decide
                have g98 : ((97 : Int) == 98) = false := by decide
                have g99 : ((97 : Int) == 99) = false := by decide
                have g105 : ((97 : Int) == 105) = false := by decide
                have hu : IntKind.u64.wrap ((xan : Nat) : Int) = xan := by rw [IntKind.wrap_u64]; omega
                have HD := Lib.hid fun W => decimal_any xan (by omega) W
                have hdl := (isDec xan (by omega)).len
                have HW : Hid (wdL ⟨(q : Int), (xan : Int), (xbn : Int), (xcn : Int), xi⟩ 97 = 114 :: decL xan) := Lib.hid (by show 114 :: decL (((xan : Nat) : Int)).toNat = _; rw [Int.toNat_natCast])
                generalize decL xan = dd at *
                have hsd : (⟨dd.toArray⟩ : ByteArray).size = dd.length := ba_size dd
                have HEQ : Hid (((((⟨cu.toArray⟩ : ByteArray) ++ ⟨#[32]⟩) ++ ⟨#[114]⟩) ++ ⟨dd.toArray⟩) = ⟨(bs ++ parW (ws.take (j + 1))).toArray⟩) := Lib.hid (by rw [cat_w cu dd 114, HST.out, HW.out])
                clear HST HW HIX hcv hc
                go_wp2_with fail
                go_fit (HD.out _)
                rintro e wd ⟨rfl, hww⟩
                obtain rfl : w6 = wd := hww
                go_wp2
                go_roundw
                case rel => exact ⟨j + 1, by go_num, by omega, congrArg Value.string HEQ.out, by first | rfl | trivial⟩
                case measure => simp [intOf]; omega
              · have hcv : ((((opsL q)[j].toNat : Nat)) : Int) = 98 := by rw [hc]; rfl
                rw [hcv] at HIX
                rw [hc] at HST
                have hix := fun W => HIX.out W
                have g97 : ((98 : Int) == 97) = false := by decide
                have g98 : ((98 : Int) == 98) = true := by decide
                have g99 : ((98 : Int) == 99) = false := by decide
                have g105 : ((98 : Int) == 105) = false := by decide
                have hu : IntKind.u64.wrap ((xbn : Nat) : Int) = xbn := by rw [IntKind.wrap_u64]; omega
                have HD := Lib.hid fun W => decimal_any xbn (by omega) W
                have hdl := (isDec xbn (by omega)).len
                have HW : Hid (wdL ⟨(q : Int), (xan : Int), (xbn : Int), (xcn : Int), xi⟩ 98 = 114 :: decL xbn) := Lib.hid (by show 114 :: decL (((xbn : Nat) : Int)).toNat = _; rw [Int.toNat_natCast])
                generalize decL xbn = dd at *
                have hsd : (⟨dd.toArray⟩ : ByteArray).size = dd.length := ba_size dd
                have HEQ : Hid (((((⟨cu.toArray⟩ : ByteArray) ++ ⟨#[32]⟩) ++ ⟨#[114]⟩) ++ ⟨dd.toArray⟩) = ⟨(bs ++ parW (ws.take (j + 1))).toArray⟩) := Lib.hid (by rw [cat_w cu dd 114, HST.out, HW.out])
                clear HST HW HIX hcv hc
                go_wp2_with fail
                go_fit (HD.out _)
                rintro e wd ⟨rfl, hww⟩
                obtain rfl : w6 = wd := hww
                go_wp2
                go_roundw
                case rel => exact ⟨j + 1, by go_num, by omega, congrArg Value.string HEQ.out, by first | rfl | trivial⟩
                case measure => simp [intOf]; omega
              · have hcv : ((((opsL q)[j].toNat : Nat)) : Int) = 99 := by rw [hc]; rfl
                rw [hcv] at HIX
                rw [hc] at HST
                have hix := fun W => HIX.out W
                have g97 : ((99 : Int) == 97) = false := by decide
                have g98 : ((99 : Int) == 98) = false := by decide
                have g99 : ((99 : Int) == 99) = true := by decide
                have g105 : ((99 : Int) == 105) = false := by decide
                have hu : IntKind.u64.wrap ((xcn : Nat) : Int) = xcn := by rw [IntKind.wrap_u64]; omega
                have HD := Lib.hid fun W => decimal_any xcn (by omega) W
                have hdl := (isDec xcn (by omega)).len
                have HW : Hid (wdL ⟨(q : Int), (xan : Int), (xbn : Int), (xcn : Int), xi⟩ 99 = 114 :: decL xcn) := Lib.hid (by show 114 :: decL (((xcn : Nat) : Int)).toNat = _; rw [Int.toNat_natCast])
                generalize decL xcn = dd at *
                have hsd : (⟨dd.toArray⟩ : ByteArray).size = dd.length := ba_size dd
                have HEQ : Hid (((((⟨cu.toArray⟩ : ByteArray) ++ ⟨#[32]⟩) ++ ⟨#[114]⟩) ++ ⟨dd.toArray⟩) = ⟨(bs ++ parW (ws.take (j + 1))).toArray⟩) := Lib.hid (by rw [cat_w cu dd 114, HST.out, HW.out])
                clear HST HW HIX hcv hc
                go_wp2_with fail
                go_fit (HD.out _)
                rintro e wd ⟨rfl, hww⟩
                obtain rfl : w6 = wd := hww
                go_wp2
                go_roundw
                case rel => exact ⟨j + 1, by go_num, by omega, congrArg Value.string HEQ.out, by first | rfl | trivial⟩
                case measure => simp [intOf]; omega
              · have hcv : ((((opsL q)[j].toNat : Nat)) : Int) = 116 := by rw [hc]; rfl
                rw [hcv] at HIX
                rw [hc] at HST
                have hix := fun W => HIX.out W
                have g97 : ((116 : Int) == 97) = false := by decide
                have g98 : ((116 : Int) == 98) = false := by decide
                have g99 : ((116 : Int) == 99) = false := by decide
                have g105 : ((116 : Int) == 105) = false := by decide
                have hxi0 := HXI.out hfi
                obtain ⟨xin, rfl⟩ : ∃ n : Nat, xi = (n : Int) := ⟨xi.toNat, by omega⟩
                have hu : IntKind.u64.wrap ((xin : Nat) : Int) = xin := by rw [IntKind.wrap_u64]; omega
                have HD := Lib.hid fun W => decimal_any xin (by omega) W
                have hdl := (isDec xin (by omega)).len
                have HW : Hid (wdL ⟨(q : Int), (xan : Int), (xbn : Int), (xcn : Int), (xin : Int)⟩ 116 = 76 :: decL xin) := Lib.hid (by show 76 :: decL (((xin : Nat) : Int)).toNat = _; rw [Int.toNat_natCast])
                generalize decL xin = dd at *
                have hsd : (⟨dd.toArray⟩ : ByteArray).size = dd.length := ba_size dd
                have HEQ : Hid (((((⟨cu.toArray⟩ : ByteArray) ++ ⟨#[32]⟩) ++ ⟨#[76]⟩) ++ ⟨dd.toArray⟩) = ⟨(bs ++ parW (ws.take (j + 1))).toArray⟩) := Lib.hid (by rw [cat_w cu dd 76, HST.out, HW.out])
                clear HST HW HIX hcv hc
                go_wp2_with fail
                go_fit (HD.out _)
                rintro e wd ⟨rfl, hww⟩
                obtain rfl : w6 = wd := hww
                go_wp2
                go_roundw
                case rel => exact ⟨j + 1, by go_num, by omega, congrArg Value.string HEQ.out, by first | rfl | trivial⟩
                case measure => simp [intOf]; omega
end Go.Proofs.YtahhmgoffdggpaaGreatDoor


namespace Go.Proofs.YtahhmgoffdggpaaGreatDoor
open Go.RowKit Go.Shelf

theorem wpList_gappw {S : TypeId} {ops : Array Oper} {rest : List Oper} {o : Oper} {a : Act} {Q : Exit → Act → World → Prop} {v y v' : Value} {W w' : World}
    (hrun : (Builtin.append_ #[S, S] S #[v, y]).run Tryz.prog W = .ok v' w') (hw : Region.wanted o (yielded ops a.tmps) = true) {s x : Operand}
    (ho : o.op = .call { callee := .builtin .append, args := #[s, x], argTypes := #[S, S] }) (hty : o.type = S) (hs : a.eval s = v) (hx : a.eval x = y)
    (h : wpList Tryz.prog ops Q rest (a.put o.dst v') w') : wpList Tryz.prog ops Q (o :: rest) a W := by
  refine BigFrame.wpList_want hw fun K hK => ?_
  unfold Oper.wp execOp
  simp only [ho, hty, resolve, invoke, builtin, Sem.run_bind, Sem.run_pure, Result.andThen_ok, List.map_toArray, List.map_cons, List.map_nil, hs, hx, hrun]
  exact hK _ _ h
def encX (ps : List GIns) : List UInt8 := if valP ps = 0 then encL ps else []
def decX (l : List UInt8) : List GIns := if l.length % 8 = 0 ∧ valP (decP l) = 0 then decP l else []
def decK (l : List UInt8) : Int := if l.length % 8 ≠ 0 then 52 else valP (decP l)
def disX (ps : List GIns) : List UInt8 := if valP ps = 0 then disF ps ps.length else []
def EncU (ps : List GIns) (w : World) (e : Ending) (w' : World) : Prop := ∃ A c, e = .returned (.tuple #[.slice A (encX ps).length c, .int .i64 (valP ps)]) ∧ Byt w' w'.heap.size A (encX ps).length (encX ps) ∧ Below w.heap.size w w'
def DecU (l : List UInt8) (w : World) (e : Ending) (w' : World) : Prop := ∃ A c, e = .returned (.tuple #[.slice A (decX l).length c, .int .i64 (decK l)]) ∧ GRow GIns.cells 5 w' w'.heap.size A (decX l) ∧ Below w.heap.size w w'
theorem pEncU (ps : List GIns) (A : Option Addr) (c : Nat) (w : World) (hG : GlobF w) (h : GRow GIns.cells 5 w w.heap.size A ps) (hi : ∀ x ∈ ps, ImmOk x) : Calls Tryz.prog 6 #[.slice A ps.length c] w (EncU ps w) := by
  refine (encode_any ps A c w hG h hi).mono ?_
  rintro e w' ⟨hb, h2⟩
  unfold EncU encX
  by_cases hv : valP ps = 0
  · rw [if_pos hv] at h2
    obtain ⟨g, rfl, _, hbuf⟩ := h2
    have := hbuf.byt 0 (8 * ps.length) (by rw [length_encL]; omega)
    rw [List.drop_zero, List.take_of_length_le (by rw [length_encL]; omega)] at this
    rw [if_pos hv, hv, length_encL]
    exact ⟨_, _, rfl, this.wide (by have := hbuf.lt; omega), hb⟩
  · rw [if_neg hv] at h2
    subst h2
    rw [if_neg hv]
    exact ⟨none, 0, rfl, Byt.nil, hb⟩
theorem rEncU (ps : List GIns) (A : Option Addr) (c : Nat) (w : World) (h : GRow GIns.cells 5 w w.heap.size A ps) (hi : ∀ x ∈ ps, ImmOk x) : Calls Tryz.prog 7 #[.slice A ps.length c] w (EncU ps w) := by
  refine (rEnc9_any ps A c w h hi).mono ?_
  rintro e w' ⟨hb, h2⟩
  unfold EncU encX
  by_cases hv : valP ps = 0
  · rw [if_pos hv] at h2
    obtain ⟨v, rfl, ho⟩ := h2
    obtain ⟨A5, c5, rfl, _, _, hby⟩ := ho.form
    rw [if_pos hv, hv]
    exact ⟨_, _, rfl, hby, hb⟩
  · rw [if_neg hv] at h2
    subst h2
    rw [if_neg hv]
    exact ⟨none, 0, rfl, Byt.nil, hb⟩
theorem pDecU (l : List UInt8) (A : Option Addr) (c : Nat) (w : World) (hG : GlobF w) (h : Byt w w.heap.size A l.length l) (hl : l.length ≤ 1000) : Calls Tryz.prog 8 #[.slice A l.length c] w (DecU l w) := by
  refine (decode_any l A c w h (by omega) hG).mono ?_
  rintro e w' ⟨hb, h2⟩
  unfold DecU decX decK
  by_cases h8 : l.length % 8 ≠ 0
  · rw [if_pos h8] at h2
    subst h2
    rw [if_neg (by omega), if_pos h8]
    exact ⟨none, 0, rfl, GRow.nil, hb⟩
  · rw [if_neg h8] at h2
    rw [if_neg h8]
    by_cases hv : valP (decP l) = 0
    · rw [if_pos hv] at h2
      obtain ⟨g, rfl, _, hd⟩ := h2
      rw [if_pos ⟨by omega, hv⟩, hv, decP_len]
      exact ⟨_, _, rfl, hd.row, hb⟩
    · rw [if_neg hv] at h2
      subst h2
      rw [if_neg (fun hh => hv hh.2)]
      exact ⟨none, 0, rfl, GRow.nil, hb⟩
theorem rDecU (l : List UInt8) (A : Option Addr) (c : Nat) (w : World) (h : Byt w w.heap.size A l.length l) (hl : l.length ≤ 1000) : Calls Tryz.prog 9 #[.slice A l.length c] w (DecU l w) := by
  refine (rDec9_any l A c w h hl).mono ?_
  rintro e w' ⟨hb, h2⟩
  unfold DecU decX decK
  by_cases h8 : l.length % 8 ≠ 0
  · rw [if_pos h8] at h2
    subst h2
    rw [if_neg (by omega), if_pos h8]
    exact ⟨none, 0, rfl, GRow.nil, hb⟩
  · rw [if_neg h8] at h2
    rw [if_neg h8]
    by_cases hv : valP (decP l) = 0
    · rw [if_pos hv] at h2
      obtain ⟨v, rfl, ho⟩ := h2
      obtain ⟨A5, c5, rfl, _, _, hr⟩ := ho.row GIns.len
      rw [if_pos ⟨by omega, hv⟩, hv]
      exact ⟨_, _, rfl, hr, hb⟩
    · rw [if_neg hv] at h2
      subst h2
      rw [if_neg (fun hh => hv hh.2)]
      exact ⟨none, 0, rfl, GRow.nil, hb⟩
theorem pDisU (ps : List GIns) (A : Option Addr) (c : Nat) (w : World) (hG : GlobP w) (h : GRow GIns.cells 5 w w.heap.size A ps) (hi : ∀ x ∈ ps, ImmOk x) : Calls Tryz.prog 13 #[.slice A ps.length c] w fun e w' => e = .returned (.string ⟨(disX ps).toArray⟩) ∧ Below w.heap.size w w' := by
  unfold disX
  by_cases hv : valP ps = 0
  · rw [if_pos hv]; exact dis_any ps A c w hG.1.2 hG.2 h hi hv
  · rw [if_neg hv]; exact dis_bad ps A c w hG.1.2 h hi hv
theorem rDisU (ps : List GIns) (A : Option Addr) (c : Nat) (w : World) (h : GRow GIns.cells 5 w w.heap.size A ps) (hi : ∀ x ∈ ps, ImmOk x) : Calls Tryz.prog 14 #[.slice A ps.length c] w fun e w' => e = .returned (.string ⟨(disX ps).toArray⟩) ∧ Below w.heap.size w w' := by
  unfold disX
  by_cases hv : valP ps = 0
  · rw [if_pos hv]; exact rDis9_any ps A c w h hi hv
  · rw [if_neg hv]; exact rDis9_bad ps A c w h hi hv
theorem copyI (ps : List GIns) (A : Option Addr) (c : Nat) (w : World) (h : GRow GIns.cells 5 w w.heap.size A ps) (hl : ps.length ≤ 1000) :
    ∃ A' c' w', (Builtin.append_ #[22, 22] 22 #[.slice none 0 0, .slice A ps.length c]).run Tryz.prog w = .ok (.slice A' ps.length c') w' ∧ GRow GIns.cells 5 w' w'.heap.size A' ps ∧ Below w.heap.size w w' := by
  obtain ⟨v', w', hrun, hown, hg, _⟩ := OwnG.app elt_ins GIns.len GIns.one (OwnG.nil w w.heap.size) c h (Nat.le_refl _) (by unfold maxLen; simp; omega) (by simp; omega)
  rw [List.nil_append] at hown
  obtain ⟨A', c', rfl, _, _, hr⟩ := hown.row GIns.len
  exact ⟨A', c', w', hrun, hr, (Below.refl _ w).grown hg (Nat.le_refl _) (fun g e => by simp [Value.ownBlock] at e)⟩
theorem copyB (l : List UInt8) (A : Option Addr) (c : Nat) (w : World) (h : Byt w w.heap.size A l.length l) (hl : l.length ≤ 1000) :
    ∃ A' c' w', (Builtin.append_ #[23, 23] 23 #[.slice none 0 0, .slice A l.length c]).run Tryz.prog w = .ok (.slice A' l.length c') w' ∧ Byt w' w'.heap.size A' l.length l ∧ Below w.heap.size w w' := by
  obtain ⟨v', w', hrun, hown, hb, _⟩ := (Own.nil w w.heap.size).app (w0 := w) c h (Below.refl _ w) (Nat.le_refl _) (by simp; omega)
  rw [List.nil_append] at hown
  obtain ⟨A', c', rfl, _, _, hr⟩ := hown.form
  exact ⟨A', c', w', hrun, hr, hb⟩
set_option maxRecDepth 50000 in
set_option maxHeartbeats 4000000 in
theorem lexact9 (A : Option Addr) (c : Nat) (ps : List GIns) (B : Option Addr) (cb : Nat) (l : List UInt8) (w : World) (hG : GlobP w) (hp : GRow GIns.cells 5 w w.heap.size A ps) (hi : ∀ x ∈ ps, ImmOk x) (hl : Byt w w.heap.size B l.length l) :
    Calls Tryz.prog 3 #[.slice A ps.length c, .slice B l.length cb] w fun e w' => e = .returned (.bool true) ∧ Below w.heap.size w w' := by
  have HAW := Lib.hid fun W (hW : GlobP W) => awake9 W hW.1
  by_cases h100 : 100 < ps.length
  · have HA0 := Lib.hid (HAW.out w hG)
    have f1 : decide ((100 : Int) < (ps.length : Int)) = true := by simp; omega
    clear h100 hp hi hl hG
    generalize ps.length = n at *
    generalize l.length = m at *
    go_enter Tryz.func3, Tryz.ntmps3
    go_wp2_with fail
    go_fit HA0.out
    rintro e w1 ⟨rfl, hb1⟩
    have HB1 := Lib.hid hb1
    clear hb1
    go_wp2
    go_ret
    exact ⟨rfl, HB1.out⟩
  have f1 : decide ((100 : Int) < (ps.length : Int)) = false := by simp; omega
  by_cases h1000 : 1000 < l.length
  · have HA0 := Lib.hid (HAW.out w hG)
    have f2 : decide ((1000 : Int) < (l.length : Int)) = true := by simp; omega
    clear h100 h1000 hp hi hl hG
    generalize ps.length = n at *
    generalize l.length = m at *
    go_enter Tryz.func3, Tryz.ntmps3
    go_wp2_with fail
    go_fit HA0.out
    rintro e w1 ⟨rfl, hb1⟩
    have HB1 := Lib.hid hb1
    clear hb1
    go_wp2
    go_ret
    exact ⟨rfl, HB1.out⟩
  have f2 : decide ((1000 : Int) < (l.length : Int)) = false := by simp; omega
  have hpl : ps.length ≤ 1000 := by omega
  have hll : l.length ≤ 1000 := by omega
  have HI := Lib.hid hi
  have HG0 := Lib.hid hG
  have HP0 := Lib.hid hp
  have HL0 := Lib.hid hl
  have HB0 := Lib.hid (Below.refl w.heap.size w)
  have HVV : Hid (∀ W, Byt W W.heap.size A ps.length [] → True) := Lib.hid fun _ _ => trivial
  clear h100 h1000 hp hi hl hG HVV
  have hw : w = w := rfl
  clear hw
  obtain ⟨AC1, cc1, w1, hrun, hrow1, hb1⟩ := copyI ps A c w HP0.out hpl
  have HRUN := Lib.hid hrun
  have HC1 := Lib.hid hrow1
  clear hrun hrow1
  have HG1 := Lib.hid (HG0.out.next hb1)
  have HP1 := Lib.hid (HP0.out.next hb1)
  have HL1 := Lib.hid (HL0.out.next9 hb1)
  have HB1 := Lib.hid (beln HB0.out hb1)
  clear HG0 HP0 HL0 HB0 hb1
  go_enter Tryz.func3, Tryz.ntmps3
  have HE1 := Lib.hid (pEncU ps AC1 cc1 w1 HG1.out.1.2 HC1.out HI.out)
  go_wp2_with (at_builtin; refine wpList_gapp HRUN.out rfl rfl rfl rfl rfl ?_)
  go_fit (HE1.out)
  rintro e w2 ⟨A2, c2, rfl, hx2, hb2⟩
  have HX2 := Lib.hid hx2
  clear hx2 HE1 HC1 HRUN f1 f2
  have HG2 := Lib.hid (HG1.out.next hb2)
  have HP2 := Lib.hid (HP1.out.next hb2)
  have HL2 := Lib.hid (HL1.out.next9 hb2)
  have HB2 := Lib.hid (beln HB1.out hb2)
  clear HG1 HP1 HL1 HB1 hb2
  have HE2 := Lib.hid (rEncU ps A c w2 HP2.out HI.out)
  go_wp2_with fail
  go_fit (HE2.out)
  rintro e w3 ⟨A3, c3, rfl, hy3, hb3⟩
  have HY3 := Lib.hid hy3
  clear hy3 HE2
  have HG3 := Lib.hid (HG2.out.next hb3)
  have HP3 := Lib.hid (HP2.out.next hb3)
  have HL3 := Lib.hid (HL2.out.next9 hb3)
  have HX3 := Lib.hid (HX2.out.next9 hb3)
  have HB3 := Lib.hid (beln HB2.out hb3)
  clear HG2 HP2 HL2 HX2 HB2 hb3
  obtain ⟨AC4, cc4, w4, hrun, hrow4, hb4⟩ := copyB l B cb w3 HL3.out (by omega)
  have HRUN := Lib.hid hrun
  have HC4 := Lib.hid hrow4
  clear hrun hrow4
  have HG4 := Lib.hid (HG3.out.next hb4)
  have HP4 := Lib.hid (HP3.out.next hb4)
  have HL4 := Lib.hid (HL3.out.next9 hb4)
  have HX4 := Lib.hid (HX3.out.next9 hb4)
  have HY4 := Lib.hid (HY3.out.next9 hb4)
  have HB4 := Lib.hid (beln HB3.out hb4)
  clear HG3 HP3 HL3 HX3 HY3 HB3 hb4
  have HD4 := Lib.hid (pDecU l AC4 cc4 w4 HG4.out.1.2 HC4.out hll)
  go_wp2_with (at_builtin; refine wpList_app_run HRUN.out rfl rfl rfl rfl rfl ?_)
  go_fit (HD4.out)
  rintro e w5 ⟨A5, c5, rfl, hq5, hb5⟩
  have HQ5 := Lib.hid hq5
  clear hq5 HD4 HC4 HRUN
  have HG5 := Lib.hid (HG4.out.next hb5)
  have HP5 := Lib.hid (HP4.out.next hb5)
  have HL5 := Lib.hid (HL4.out.next9 hb5)
  have HX5 := Lib.hid (HX4.out.next9 hb5)
  have HY5 := Lib.hid (HY4.out.next9 hb5)
  have HB5 := Lib.hid (beln HB4.out hb5)
  clear HG4 HP4 HL4 HX4 HY4 HB4 hb5
  have HD5 := Lib.hid (rDecU l B cb w5 HL5.out hll)
  go_wp2_with fail
  go_fit (HD5.out)
  rintro e w6 ⟨A6, c6, rfl, hr6, hb6⟩
  have HR6 := Lib.hid hr6
  clear hr6 HD5
  have HG6 := Lib.hid (HG5.out.next hb6)
  have HP6 := Lib.hid (HP5.out.next hb6)
  have HX6 := Lib.hid (HX5.out.next9 hb6)
  have HY6 := Lib.hid (HY5.out.next9 hb6)
  have HQ6 := Lib.hid (HQ5.out.next hb6)
  have HB6 := Lib.hid (beln HB5.out hb6)
  clear HL5 HG5 HP5 HX5 HY5 HQ5 HB5 hb6
  have hk1 := HX6.out.str c2
  have hk2 := HY6.out.str c3
  have hdl : (decX l).length ≤ 1000 := by
    unfold decX
    split
    · rw [decP_len]; unfold decN; omega
    · simp
  have HS6 := Lib.hid (rSmi_any (decX l) (decX l) A5 A6 c5 c6 w6 HQ6.out HR6.out (by omega) (by omega))
  rw [show decide (decX l = decX l) = true by simp] at HS6
  generalize (encX ps).length = n1 at *
  generalize bs (encX ps) = bx at *
  generalize (decX l).length = n2 at *
  generalize decK l = kk at *
  go_wp2_with fail
  go_fit (HS6.out)
  rintro e w7 ⟨rfl, hb7⟩
  clear hk1 hk2 HS6 HX6 HY6 HQ6 HR6
  have HG7 := Lib.hid (HG6.out.next hb7)
  have HP7 := Lib.hid (HP6.out.next hb7)
  have HB7 := Lib.hid (beln HB6.out hb7)
  clear HG6 HP6 HB6 hb7
  obtain ⟨AC8, cc8, w8, hrun, hrow8, hb8⟩ := copyI ps A c w7 HP7.out hpl
  have HRUN := Lib.hid hrun
  have HC8 := Lib.hid hrow8
  clear hrun hrow8
  have HG8 := Lib.hid (HG7.out.next hb8)
  have HP8 := Lib.hid (HP7.out.next hb8)
  have HB8 := Lib.hid (beln HB7.out hb8)
  clear HG7 HP7 HB7 hb8
  have HV8 := Lib.hid (validate_any ps AC8 cc8 w8 HG8.out.1.2 HC8.out HI.out)
  go_wp2_with (at_builtin; refine wpList_gappw HRUN.out rfl rfl rfl rfl rfl ?_)
  go_fit (HV8.out)
  rintro e w9 ⟨rfl, hb9⟩
  clear HV8 HC8 HRUN
  have HG9 := Lib.hid (HG8.out.next hb9)
  have HP9 := Lib.hid (HP8.out.next hb9)
  have HB9 := Lib.hid (beln HB8.out hb9)
  clear HG8 HP8 HB8 hb9
  have HV9 := Lib.hid (rVal9_any ps A c w9 HP9.out HI.out)
  go_wp2_with fail
  go_fit (HV9.out)
  rintro e w10 ⟨rfl, hb10⟩
  clear HV9
  have HG10 := Lib.hid (HG9.out.next hb10)
  have HP10 := Lib.hid (HP9.out.next hb10)
  have HB10 := Lib.hid (beln HB9.out hb10)
  clear HG9 HP9 HB9 hb10
  obtain ⟨AC11, cc11, w11, hrun, hrow11, hb11⟩ := copyI ps A c w10 HP10.out hpl
  have HRUN := Lib.hid hrun
  have HC11 := Lib.hid hrow11
  clear hrun hrow11
  have HG11 := Lib.hid (HG10.out.next hb11)
  have HP11 := Lib.hid (HP10.out.next hb11)
  have HB11 := Lib.hid (beln HB10.out hb11)
  clear HG10 HP10 HB10 hb11
  have HD11 := Lib.hid (pDisU ps AC11 cc11 w11 HG11.out HC11.out HI.out)
  go_wp2_with (at_builtin; refine wpList_gappw HRUN.out rfl rfl rfl rfl rfl ?_)
  go_fit (HD11.out)
  rintro e w12 ⟨rfl, hb12⟩
  clear HD11 HC11 HRUN
  have HG12 := Lib.hid (HG11.out.next hb12)
  have HP12 := Lib.hid (HP11.out.next hb12)
  have HB12 := Lib.hid (beln HB11.out hb12)
  clear HG11 HP11 HB11 hb12
  have HD12 := Lib.hid (rDisU ps A c w12 HP12.out HI.out)
  go_wp2_with fail
  go_fit (HD12.out)
  rintro e w13 ⟨rfl, hb13⟩
  clear HD12
  have HG13 := Lib.hid (HG12.out.next hb13)
  have HP13 := Lib.hid (HP12.out.next hb13)
  have HB13 := Lib.hid (beln HB12.out hb13)
  clear HG12 HP12 HB12 hb13
  have HA13 := Lib.hid (HAW.out w13 HG13.out)
  go_wp2_with fail
  go_fit (HA13.out)
  rintro e w14 ⟨rfl, hb14⟩
  clear HA13
  have HG14 := Lib.hid (HG13.out.next hb14)
  have HB14 := Lib.hid (beln HB13.out hb14)
  clear HG13 HB13 hb14
  go_wp2
  go_ret
  exact ⟨rfl, HB14.out⟩
end Go.Proofs.YtahhmgoffdggpaaGreatDoor
