/-
  isa.Disassemble, at a valid program: the walk.
  Conditions: the tables lie as the program's start lays them.
  The reference's Same, and the model's == at instructions.
  Conditions: none.
  The law IsaRoundTrip returns true, whatever the numbers and the bytes.
  Conditions: the listed variables lie as the program's start lays them.
-/
import Derived.Test.YtogebcgkcijacaaGreatDoorMb27
import Derived.Test.YtogebcgkcijacaaGreatDoorMb30
import Derived.Test.YtogebcgkcijacaaGreatDoorMb25
import Derived.Test.YtogebcgkcijacaaGreatDoorMb28
import Derived.Laws.StructEq
namespace Go.Proofs.YtogebcgkcijacaaGreatDoor

open Go.RowKit Go.Shelf

/-- The builder and the instruction copied before it stand asx they were after a string is written. -/
theorem kept_ins {N X : Nat} {w w' : World} {cs : Array Value} (hX : w.heap[X]? = some (.cells cs 52 (0, 0))) (hk : Kept N w w') (hne : X ≠ N) : w'.heap[X]? = some (.cells cs 52 (0, 0)) :=
  hk X _ hX (by simp; omega) (by rintro c fz he; cases he)
theorem bld_lt {w : World} {N : Nat} {l : List UInt8} (h : Bld w N N l) : N < w.heap.size := by
  rcases h with ⟨_, v, hb, _⟩ | ⟨_, v, hb, _⟩
  all_goals
    rcases Nat.lt_or_ge N w.heap.size with h' | h'
    · exact h'
    · simp [Array.getElem?_eq_none h'] at hb
set_option maxRecDepth 50000 in
set_option maxHeartbeats 2000000 in
theorem dis_any (ps : List GIns) (A : Option Addr) (c : Nat) (w : World) (hG : GlobF w) (hP : Pow w) (h : GRow GIns.cells 5 w w.heap.size A ps) (hi : ∀ x ∈ ps, ImmOk x) (hv : valP ps = 0) :
    Calls Tryz.prog 16 #[.slice A ps.length c] w fun e w' => e = .returned (.string ⟨(disF ps ps.length).toArray⟩) ∧ Below w.heap.size w w' := by
  have HVA := Lib.hid (validate_any ps A c w hG h hi)
  rw [hv] at HVA
  obtain ⟨hn1, hn0, hvl⟩ : ps.length ≤ 4096 ∧ 1 ≤ ps.length ∧ valL ps.length ps = 0 := by
    unfold valP at hv
    by_cases h0 : ps.length = 0 ∨ 4096 < ps.length
    · rw [if_pos h0] at hv; omega
    · rw [if_neg h0] at hv; exact ⟨by omega, by omega, hv⟩
  have HZ := Lib.hid (valL_zero hvl)
  have HTG := Lib.hid fun W (hW : Below w.heap.size w W) => targets_any ps A c W (hG.next hW) (h.next hW) hi hn1 (fun x hx => ins_valid (HZ.out x hx))
  have HG := Lib.hid hG
  have HPW := Lib.hid hP
  have HR := Lib.hid h
  have HI := Lib.hid hi
  have HDL := Lib.hid (disF_len ps hi hn1)
  clear hG hP h hi hv hvl
  go_enter Tryz.func16, Tryz.ntmps16
  go_wp2_with fail
  go_fit HVA.out
  rintro e w1 ⟨rfl, hb1⟩
  have HT1 := Lib.hid (HTG.out w1 hb1)
  have HB1 := Lib.hid hb1
  clear HVA HTG hb1
  go_wp2_with fail
  go_fit HT1.out
  rintro e w2 ⟨rfl, htb, hb2⟩
  have HTB := Lib.hid htb
  have HB2 := Lib.hid (bel_next HB1.out hb2)
  have hgg : w1.heap.size < w2.heap.size := by
    obtain ⟨cur, c1, _, _⟩ := htb
    rcases Nat.lt_or_ge w1.heap.size w2.heap.size with h | h
    · exact h
    · rw [Array.getElem?_eq_none h] at c1; cases c1
  clear htb hb2 HT1
  have HBD0 : Hid (Bld (w2.alloc (.cells #[.pointer none, .slice none 0 0] 68)) w2.heap.size w2.heap.size (disF ps 0)) := Lib.hid (bld_new w2)
  have HBW0 : Hid (Below w2.heap.size w2 (w2.alloc (.cells #[.pointer none, .slice none 0 0] 68))) := Lib.hid (bel_lit (Below.refl _ w2) _)
  have hz3 : (w2.alloc (.cells #[.pointer none, .slice none 0 0] 68)).heap.size = w2.heap.size + 1 := by simp
  go_wp2
  generalize w2.alloc (.cells #[.pointer none, .slice none 0 0] 68) = w3 at *
  go_loopw [15] (fun vi wr => ∃ k : Nat, vi = .int .i64 k ∧ k ≤ ps.length ∧ Hid (Bld wr w2.heap.size w2.heap.size (disF ps k)) ∧ Hid (Below w2.heap.size w2 wr) ∧ w2.heap.size < wr.heap.size) (fun vi _ => ps.length - (intOf vi).toNat)
  case atStart => exact ⟨0, rfl, by omega, HBD0, HBW0, by omega⟩
  case round =>
    obtain ⟨k, rfl, hk, HBD, HBW, hwr⟩ := hrel
    clear HBD0 HBW0 hz3
    rcases Nat.lt_or_ge k ps.length with hlt | hge
    · have f0 : decide ((k : Int) < ps.length) = true := by simp; omega
      have HWW := Lib.hid (HB2.out.trans (HBW.out.mono HB2.out.size))
      obtain ⟨b, off, rfl, hb, x0, x1, x2, x3, x4⟩ := (HR.out.keep (w' := wr) (fun g hg => HWW.out.block g hg)).ins hlt
      have hs := HWW.out.size
      have hbw : b < wr.heap.size := by omega
      have HTX : Hid (wr.cell? ⟨w1.heap.size, k, none⟩ = some (.bool (tgt ps k))) := Lib.hid (by
        obtain ⟨cur, c1, c2, c3⟩ := HTB.out
        rw [Lib.cell_of_heap ((HBW.out.block _ hgg).trans c1)]; exact c3 k hlt)
      have HSX := Lib.hid (disF_succ ps k hlt)
      have HIX := Lib.hid (HI.out _ (List.getElem_mem hlt))
      have HRX := Lib.hid (ins_regs (HZ.out _ (List.getElem_mem hlt)))
      have HVX := Lib.hid (ins_valid (HZ.out _ (List.getElem_mem hlt)))
      have HDK := Lib.hid (HDL.out k (by omega))
      generalize ps[k] = x at *
      have y0 := HTX.out
      have HPD : Hid (preD ps k = if tgt ps k = true then labW k ++ [58, 32] else []) := Lib.hid rfl
      generalize tgt ps k = tk at *
      generalize disF ps k = dk at *
      obtain ⟨xo, xa, xb, xc, xi⟩ := x
      simp only at x0 x1 x2 x3 x4
      obtain ⟨hop1, hop2⟩ := HVX.out.op
      obtain ⟨ha0, ha1, hb0, hb1, hc0, hc1⟩ := HRX.out.regs
      simp only at hop1 hop2 ha0 ha1 hb0 hb1 hc0 hc1
      obtain ⟨q, rfl⟩ : ∃ q : Nat, xo = q := ⟨xo.toNat, by omega⟩
      obtain ⟨xan, rfl⟩ : ∃ q : Nat, xa = q := ⟨xa.toNat, by omega⟩
      obtain ⟨xbn, rfl⟩ : ∃ q : Nat, xb = q := ⟨xb.toNat, by omega⟩
      obtain ⟨xcn, rfl⟩ : ∃ q : Nat, xc = q := ⟨xc.toNat, by omega⟩
      have hq : q < 28 := by omega
      have h1 : xan < 16 := by omega
      have h2 : xbn < 16 := by omega
      have h3 : xcn < 16 := by omega
      have HOS := Lib.hid (opW_short _ HIX.out)
      have HLN : Hid (insD ⟨q, xan, xbn, xcn, xi⟩ = (fmtN q).1 ++ ((if 0 < (opW ⟨q, xan, xbn, xcn, xi⟩).length then 32 :: joinW (opW ⟨q, xan, xbn, xcn, xi⟩) else []) ++ [59, 10])) := Lib.hid rfl
      have hdk := HDK.out
      have hdk9 : dk.length ≤ 600000 := by omega
      clear hdk ha0 ha1 hb0 hb1 hc0 hc1 hop1 hop2 HRX HVX HDK HZ HDL
      have HXX : Hid ((wr.alloc (.cells #[.int .i64 (q : Int), .int .i64 (xan : Int), .int .i64 (xbn : Int), .int .i64 (xcn : Int), .int .i32 xi] 52)).heap[wr.heap.size]? = some (.cells #[.int .i64 (q : Int), .int .i64 (xan : Int), .int .i64 (xbn : Int), .int .i64 (xcn : Int), .int .i32 xi] 52 (0, 0))) := Lib.hid (heap_alloc_new wr _)
      have HBA := Lib.hid (HBD.out.alloc (.cells #[.int .i64 (q : Int), .int .i64 (xan : Int), .int .i64 (xbn : Int), .int .i64 (xcn : Int), .int .i32 xi] 52))
      have HWA : Hid (Below w2.heap.size w2 (wr.alloc (.cells #[.int .i64 (q : Int), .int .i64 (xan : Int), .int .i64 (xbn : Int), .int .i64 (xcn : Int), .int .i32 xi] 52))) := Lib.hid (HBW.out.alloc HBW.out.size _)
      have hza : (wr.alloc (.cells #[.int .i64 (q : Int), .int .i64 (xan : Int), .int .i64 (xbn : Int), .int .i64 (xcn : Int), .int .i32 xi] 52)).heap.size = wr.heap.size + 1 := by simp
      have hgw1 : w1.heap.size < wr.heap.size := by omega
      cases tk
      · rw [if_neg (by simp)] at HPD
        rw [HPD.out, List.nil_append] at HSX
        have HB5 := HBA
        have HX5 := HXX
        have HW5 := HWA
        have hs5 : dk.length ≤ 600000 := hdk9
        clear HPD HBD HBW HBA HXX HWA
        go_upto_region 10 with fail
        generalize wr.alloc (.cells #[.int .i64 (q : Int), .int .i64 (xan : Int), .int .i64 (xbn : Int), .int .i64 (xcn : Int), .int .i32 xi] 52) = w5 at *
        have HWB5 := Lib.hid (HB2.out.trans (HW5.out.mono HB2.out.size))
        obtain ⟨q0, _, _⟩ := (HG.out.next HWB5.out).2 q hq
        have hgl5 := (HG.out.next HWB5.out).1
        have j0 : w5.cell? ⟨wr.heap.size, 0, none⟩ = some (.int .i64 q) := by rw [Lib.cell_of_heap HX5.out]; rfl
        have hxl5 : wr.heap.size < w5.heap.size := World.block_lt_of_cell? _ ⟨wr.heap.size, 0, none⟩ j0
        have HST5 := Lib.hid (bld_str w2.heap.size w2.heap.size dk (fmtN q).1 w5 HB5.out (by have := fmt_short q; omega) HW5.out.size)
        have hfl := fmt_short q
        have HF1 : Hid ((fmtN q).1 = (fmtN q).1) := Lib.hid rfl
        generalize (fmtN q).1 = fs at *
        clear HF1
        go_wp2_with fail
        go_fit HST5.out
        rintro e w6 ⟨rfl, hbd6, hb6, hk6⟩
        have HB6 := Lib.hid hbd6
        have HW6 := Lib.hid (HW5.out.trans hb6)
        have HX6 := Lib.hid (kept_ins HX5.out hk6 (by omega))
        have HWB6 := Lib.hid (HB2.out.trans (HW6.out.mono HB2.out.size))
        have HOP := Lib.hid (operandWords_any q xan xbn xcn xi w6 (HG.out.next HWB6.out) (HPW.out.next HWB6.out) hq h1 h2 h3 HIX.out)
        have i0 : w6.cell? ⟨wr.heap.size, 0, none⟩ = some (.int .i64 q) := by rw [Lib.cell_of_heap HX6.out]; rfl
        have i1 : w6.cell? ⟨wr.heap.size, 1, none⟩ = some (.int .i64 xan) := by rw [Lib.cell_of_heap HX6.out]; rfl
        have i2 : w6.cell? ⟨wr.heap.size, 2, none⟩ = some (.int .i64 xbn) := by rw [Lib.cell_of_heap HX6.out]; rfl
        have i3 : w6.cell? ⟨wr.heap.size, 3, none⟩ = some (.int .i64 xcn) := by rw [Lib.cell_of_heap HX6.out]; rfl
        have i4 : w6.cell? ⟨wr.heap.size, 4, none⟩ = some (.int .i32 xi) := by rw [Lib.cell_of_heap HX6.out]; rfl
        clear hbd6 hb6 hk6 HST5 q0 j0 HB5 HX5
        unfold GIns.val at HOP
        simp only at HOP
        go_wp2_with fail
        go_fit HOP.out
        rintro e w7 ⟨v, rfl, hown, hb7⟩
        obtain ⟨hop4, hop22⟩ := HOS.out
        obtain ⟨A7, cap7, rfl, hcap7, hcm7, _⟩ := hown.row encW_len
        have HB7 := Lib.hid (HB6.out.next hb7)
        have HW7 := Lib.hid (HW6.out.trans (hb7.mono HW6.out.size))
        have hjl := joinW_len _ hop22
        have HJ := Lib.hid fun hne => sjoin_any _ _ _ w7 hown hne (by omega) (by omega)
        clear hown hb7 HOP i0 i1 i2 i3 i4 HB6 hop22
        generalize opW ⟨q, xan, xbn, xcn, xi⟩ = ow at *
        generalize joinW ow = jw at *
        by_cases hw0 : 0 < ow.length
        · rw [if_pos hw0] at HLN
          have HJJ := Lib.hid (HJ.out hw0)
          have g0 : decide ((0 : Int) < ow.length) = true := decide_eq_true (by omega)
          have g1 : decide (0 < ow.length) = true := decide_eq_true (by omega)
          have hsj : (⟨jw.toArray⟩ : ByteArray).size = jw.length := by rw [ByteArray.size]; simp
          have hcj : (⟨#[32]⟩ ++ ⟨jw.toArray⟩ : ByteArray) = ⟨(32 :: jw).toArray⟩ := cons_cat 32 jw
          clear HJ hw0
          go_wp2_with fail
          go_fit HJJ.out
          rintro e w8 ⟨rfl, hb8⟩
          have HB8 := Lib.hid (HB7.out.next hb8)
          have HW8 := Lib.hid (HW7.out.trans (hb8.mono HW7.out.size))
          have HST8 := Lib.hid (bld_str w2.heap.size w2.heap.size _ (32 :: jw) w8 HB8.out (by simp; omega) HW8.out.size)
          clear hb8 HJJ HB7
          go_wp2_with fail
          go_fit HST8.out
          rintro e w9 ⟨rfl, hbd9, hb9, _⟩
          have HW9 := Lib.hid (HW8.out.trans hb9)
          have HST9 := Lib.hid (bld_str w2.heap.size w2.heap.size _ [59, 10] w9 hbd9 (by simp; omega) HW9.out.size)
          clear hbd9 hb9 HST8
          go_wp2_with fail
          go_fit HST9.out
          rintro e w10 ⟨rfl, hbd10, hb10, _⟩
          have HB10 : Hid (Bld w10 w2.heap.size w2.heap.size (disF ps (k + 1))) := Lib.hid (by rw [HSX.out, HLN.out]; simpa using hbd10)
          have HW10 := Lib.hid (HW9.out.trans hb10)
          have hz10 := HW10.out.size
          have hzz := HW9.out.size
          have hbb := hb10.size
          have hw10 : w2.heap.size < w10.heap.size := bld_lt HB10.out
          clear hbd10 hb10 HST9 HSX HLN
          go_wp2
          go_round
          case rel => exact ⟨k + 1, by go_num, by omega, HB10, HW10, hw10⟩
          case measure => simp [intOf]; omega
        · rw [if_neg hw0] at HLN
          have g0 : decide ((0 : Int) < ow.length) = false := decide_eq_false (by omega)
          have g1 : decide (0 < ow.length) = false := decide_eq_false (by omega)
          have HST9 := Lib.hid (bld_str w2.heap.size w2.heap.size _ [59, 10] w7 HB7.out (by simp; omega) HW7.out.size)
          clear HJ hw0
          go_wp2_with fail
          go_fit HST9.out
          rintro e w10 ⟨rfl, hbd10, hb10, _⟩
          have HB10 : Hid (Bld w10 w2.heap.size w2.heap.size (disF ps (k + 1))) := Lib.hid (by rw [HSX.out, HLN.out]; simpa using hbd10)
          have HW10 := Lib.hid (HW7.out.trans hb10)
          have hw10 : w2.heap.size < w10.heap.size := bld_lt HB10.out
          clear hbd10 hb10 HST9 HSX HLN
          go_wp2
          go_round
          case rel => exact ⟨k + 1, by go_num, by omega, HB10, HW10, hw10⟩
          case measure => simp [intOf]; omega
      · rw [if_pos rfl] at HPD
        rw [HPD.out] at HSX
        have HWBA := Lib.hid (HB2.out.trans (HWA.out.mono HB2.out.size))
        have HLW := Lib.hid (labelWord_any (k : Int) (by omega) (by omega) _ (HPW.out.next HWBA.out))
        have hll := Lib.itoa_length_le (k : Int) (by omega) (by omega)
        have hlw : (labW k).length ≤ 22 := by simp [labW]; omega
        clear hll HPD HBD HBW
        generalize labW k = lw at *
        have hsl : (⟨lw.toArray⟩ : ByteArray).size = lw.length := by rw [ByteArray.size]; simp
        have hcl : (⟨lw.toArray⟩ ++ ⟨#[58, 32]⟩ : ByteArray) = ⟨(lw ++ [58, 32]).toArray⟩ := by
          apply ByteArray.ext
          simp [ByteArray.data_append]
        go_wp2_with fail
        go_fit HLW.out
        rintro e w4 ⟨rfl, hb4⟩
        have HB4 := Lib.hid (HBA.out.next hb4)
        have HW4 := Lib.hid (HWA.out.trans (hb4.mono HWA.out.size))
        have HX4 := Lib.hid ((hb4.block wr.heap.size (by omega)).trans HXX.out)
        have HST4 := Lib.hid (bld_str w2.heap.size w2.heap.size _ (lw ++ [58, 32]) w4 HB4.out (by simp; omega) HW4.out.size)
        clear HLW hb4 HBA HWA HXX
        go_wp2_with fail
        go_fit HST4.out
        rintro e w5 ⟨rfl, hbd5, hb5, hk5⟩
        have HB5 := Lib.hid hbd5
        have HW5 := Lib.hid (HW4.out.trans hb5)
        have HX5 := Lib.hid (kept_ins HX4.out hk5 (by omega))
        have hs5 : (dk ++ (lw ++ [58, 32])).length ≤ 600100 := by simp; omega
        rw [← List.append_assoc] at HSX
        clear hbd5 hb5 hk5 HST4 HB4 HX4 HWBA
        generalize dk ++ (lw ++ [58, 32]) = l5 at *
        have HWB5 := Lib.hid (HB2.out.trans (HW5.out.mono HB2.out.size))
        obtain ⟨q0, _, _⟩ := (HG.out.next HWB5.out).2 q hq
        have hgl5 := (HG.out.next HWB5.out).1
        have j0 : w5.cell? ⟨wr.heap.size, 0, none⟩ = some (.int .i64 q) := by rw [Lib.cell_of_heap HX5.out]; rfl
        have hxl5 : wr.heap.size < w5.heap.size := World.block_lt_of_cell? _ ⟨wr.heap.size, 0, none⟩ j0
        have HST5 := Lib.hid (bld_str w2.heap.size w2.heap.size l5 (fmtN q).1 w5 HB5.out (by have := fmt_short q; omega) HW5.out.size)
        have hfl := fmt_short q
        have HF1 : Hid ((fmtN q).1 = (fmtN q).1) := Lib.hid rfl
        generalize (fmtN q).1 = fs at *
        clear HF1
        go_wp2_with fail
        go_fit HST5.out
        rintro e w6 ⟨rfl, hbd6, hb6, hk6⟩
        have HB6 := Lib.hid hbd6
        have HW6 := Lib.hid (HW5.out.trans hb6)
        have HX6 := Lib.hid (kept_ins HX5.out hk6 (by omega))
        have HWB6 := Lib.hid (HB2.out.trans (HW6.out.mono HB2.out.size))
        have HOP := Lib.hid (operandWords_any q xan xbn xcn xi w6 (HG.out.next HWB6.out) (HPW.out.next HWB6.out) hq h1 h2 h3 HIX.out)
        have i0 : w6.cell? ⟨wr.heap.size, 0, none⟩ = some (.int .i64 q) := by rw [Lib.cell_of_heap HX6.out]; rfl
        have i1 : w6.cell? ⟨wr.heap.size, 1, none⟩ = some (.int .i64 xan) := by rw [Lib.cell_of_heap HX6.out]; rfl
        have i2 : w6.cell? ⟨wr.heap.size, 2, none⟩ = some (.int .i64 xbn) := by rw [Lib.cell_of_heap HX6.out]; rfl
        have i3 : w6.cell? ⟨wr.heap.size, 3, none⟩ = some (.int .i64 xcn) := by rw [Lib.cell_of_heap HX6.out]; rfl
        have i4 : w6.cell? ⟨wr.heap.size, 4, none⟩ = some (.int .i32 xi) := by rw [Lib.cell_of_heap HX6.out]; rfl
        clear hbd6 hb6 hk6 HST5 q0 j0 HB5 HX5
        unfold GIns.val at HOP
        simp only at HOP
        go_wp2_with fail
        go_fit HOP.out
        rintro e w7 ⟨v, rfl, hown, hb7⟩
        obtain ⟨hop4, hop22⟩ := HOS.out
        obtain ⟨A7, cap7, rfl, hcap7, hcm7, _⟩ := hown.row encW_len
        have HB7 := Lib.hid (HB6.out.next hb7)
        have HW7 := Lib.hid (HW6.out.trans (hb7.mono HW6.out.size))
        have hjl := joinW_len _ hop22
        have HJ := Lib.hid fun hne => sjoin_any _ _ _ w7 hown hne (by omega) (by omega)
        clear hown hb7 HOP i0 i1 i2 i3 i4 HB6 hop22
        generalize opW ⟨q, xan, xbn, xcn, xi⟩ = ow at *
        generalize joinW ow = jw at *
        by_cases hw0 : 0 < ow.length
        · rw [if_pos hw0] at HLN
          have HJJ := Lib.hid (HJ.out hw0)
          have g0 : decide ((0 : Int) < ow.length) = true := decide_eq_true (by omega)
          have g1 : decide (0 < ow.length) = true := decide_eq_true (by omega)
          have hsj : (⟨jw.toArray⟩ : ByteArray).size = jw.length := by rw [ByteArray.size]; simp
          have hcj : (⟨#[32]⟩ ++ ⟨jw.toArray⟩ : ByteArray) = ⟨(32 :: jw).toArray⟩ := cons_cat 32 jw
          clear HJ hw0
          go_wp2_with fail
          go_fit HJJ.out
          rintro e w8 ⟨rfl, hb8⟩
          have HB8 := Lib.hid (HB7.out.next hb8)
          have HW8 := Lib.hid (HW7.out.trans (hb8.mono HW7.out.size))
          have HST8 := Lib.hid (bld_str w2.heap.size w2.heap.size _ (32 :: jw) w8 HB8.out (by simp; omega) HW8.out.size)
          clear hb8 HJJ HB7
          go_wp2_with fail
          go_fit HST8.out
          rintro e w9 ⟨rfl, hbd9, hb9, _⟩
          have HW9 := Lib.hid (HW8.out.trans hb9)
          have HST9 := Lib.hid (bld_str w2.heap.size w2.heap.size _ [59, 10] w9 hbd9 (by simp; omega) HW9.out.size)
          clear hbd9 hb9 HST8
          go_wp2_with fail
          go_fit HST9.out
          rintro e w10 ⟨rfl, hbd10, hb10, _⟩
          have HB10 : Hid (Bld w10 w2.heap.size w2.heap.size (disF ps (k + 1))) := Lib.hid (by rw [HSX.out, HLN.out]; simpa using hbd10)
          have HW10 := Lib.hid (HW9.out.trans hb10)
          have hz10 := HW10.out.size
          have hzz := HW9.out.size
          have hbb := hb10.size
          have hw10 : w2.heap.size < w10.heap.size := bld_lt HB10.out
          clear hbd10 hb10 HST9 HSX HLN
          go_wp2
          go_round
          case rel => exact ⟨k + 1, by go_num, by omega, HB10, HW10, hw10⟩
          case measure => simp [intOf]; omega
        · rw [if_neg hw0] at HLN
          have g0 : decide ((0 : Int) < ow.length) = false := decide_eq_false (by omega)
          have g1 : decide (0 < ow.length) = false := decide_eq_false (by omega)
          have HST9 := Lib.hid (bld_str w2.heap.size w2.heap.size _ [59, 10] w7 HB7.out (by simp; omega) HW7.out.size)
          clear HJ hw0
          go_wp2_with fail
          go_fit HST9.out
          rintro e w10 ⟨rfl, hbd10, hb10, _⟩
          have HB10 : Hid (Bld w10 w2.heap.size w2.heap.size (disF ps (k + 1))) := Lib.hid (by rw [HSX.out, HLN.out]; simpa using hbd10)
          have HW10 := Lib.hid (HW7.out.trans hb10)
          have hw10 : w2.heap.size < w10.heap.size := bld_lt HB10.out
          clear hbd10 hb10 HST9 HSX HLN
          go_wp2
          go_round
          case rel => exact ⟨k + 1, by go_num, by omega, HB10, HW10, hw10⟩
          case measure => simp [intOf]; omega
    · obtain rfl : k = ps.length := by omega
      have f0 : decide ((ps.length : Int) < ps.length) = false := by simp
      have HST := Lib.hid (bld_string w2.heap.size w2.heap.size _ wr HBD.out HBW.out.size)
      clear HBD
      go_wp2_with fail
      go_fit HST.out
      rintro e w9 ⟨rfl, hb9⟩
      have HB9 := Lib.hid (HB2.out.trans ((HBW.out.trans hb9).mono HB2.out.size))
      clear hb9
      go_wp2
      go_ret
      exact ⟨rfl, HB9.out⟩
end Go.Proofs.YtogebcgkcijacaaGreatDoor


namespace Go.Proofs.YtogebcgkcijacaaGreatDoor

open Go.RowKit Go.Shelf

/-- Two instructions are equal. -/
def eqI (x y : GIns) : Bool := x.op == y.op && (x.a == y.a && (x.b == y.b && (x.c == y.c && x.imm == y.imm)))
theorem eqI_iff (x y : GIns) : eqI x y = true ↔ x = y := by
  cases x; cases y
  simp [eqI]
theorem ins_eql (x y : GIns) (w : World) : (Op.equalIn 10000 52 x.val y.val).run Tryz.prog w = .ok (eqI x y) w := by
  have u3 := Tryz.underlying3
  have u2 := Tryz.underlying21
  have hS : Tryz.prog.underlying 52 = some (.struct (Tryz.prog.fieldsOf 52)) := by kernel_rfl
  have hp : Tryz.prog.stoodInHeld 52 = false := by kernel_rfl
  have a3 := Tryz.isAgg3
  have z3 := Tryz.sizeOf3
  have a2 := Tryz.isAgg21
  have z2 := Tryz.sizeOf21
  unfold eqI
  simp only [GIns.val]
  rw [show (10000 : Nat) = 9999 + 1 from rfl, run_equalIn_struct w 9999 52 _ _ hS hp]
  simp only [Program.fieldsOf, Tryz.underlying52]
  go_simp
  by_cases h0 : x.op = y.op
  rotate_left
  · simp [h0]
  by_cases h1 : x.a = y.a
  rotate_left
  · simp [h0, h1]
  by_cases h2 : x.b = y.b
  rotate_left
  · simp [h0, h1, h2]
  by_cases h3 : x.c = y.c
  rotate_left
  · simp [h0, h1, h2, h3]
  by_cases h4 : x.imm = y.imm <;> simp [h0, h1, h2, h3, h4]
set_option maxRecDepth 20000 in
set_option maxHeartbeats 1000000 in
theorem rSmi_any (xs ys : List GIns) (A B : Option Addr) (c d : Nat) (w : World) (h1 : GRow GIns.cells 5 w w.heap.size A xs) (h2 : GRow GIns.cells 5 w w.heap.size B ys) (hl : xs.length ≤ 17179869184) (hl2 : ys.length ≤ 17179869184) :
    Calls Tryz.prog 13 #[.slice A xs.length c, .slice B ys.length d] w fun e w' => e = .returned (.bool (decide (xs = ys))) ∧ Below w.heap.size w w' := by
  have H1 := Lib.hid h1
  have H2 := Lib.hid h2
  have HD : Hid (decide (xs = ys) = decide (xs = ys)) := Lib.hid rfl
  generalize hq : decide (xs = ys) = q at *
  clear h1 h2 HD
  by_cases hn : xs.length = ys.length
  case neg =>
    have HQ : Hid (q = false) := Lib.hid (by rw [← hq, decide_eq_false_iff_not]; exact fun e => hn (by rw [e]))
    have f1 : ((xs.length : Int) != (ys.length : Int)) = true := by simp; omega
    clear hq hn
    generalize xs.length = n at *
    generalize ys.length = m at *
    go_enter Tryz.func13, Tryz.ntmps13
    go_wp2
    go_ret
    exact ⟨congrArg (fun b => Ending.returned (Value.bool b)) HQ.out.symm, Below.refl _ _⟩
  have HN := Lib.hid hn
  have f1 : ((xs.length : Int) != (ys.length : Int)) = false := by simp; omega
  have HQ := Lib.hid hq
  clear hq hn
  go_enter Tryz.func13, Tryz.ntmps13
  go_wp2
  clear f1
  go_loopw [5] (fun vi wr => ∃ k : Nat, vi = .int .i64 k ∧ k ≤ xs.length ∧ Hid (xs.take k = ys.take k) ∧ Hid (Below w.heap.size w wr)) (fun vi _ => xs.length - (intOf vi).toNat)
  case atStart => exact ⟨0, rfl, Nat.zero_le _, Lib.hid (by simp), Lib.hid (Below.refl _ _)⟩
  case round =>
    obtain ⟨k, rfl, hk, HT, HB⟩ := hrel
    rcases Nat.lt_or_ge k xs.length with hlt | hge
    · have hlt2 : k < ys.length := by have := HN.out; omega
      obtain ⟨b1, o1, rfl, hb1, x0, x1, x2, x3, x4⟩ := (H1.out.next HB.out).ins hlt
      obtain ⟨b2, o2, rfl, hb2, y0, y1, y2, y3, y4⟩ := (H2.out.next HB.out).ins hlt2
      have HBD := Lib.hid HB.out.drew
      have HEQ := Lib.hid fun W => ins_eql xs[k] ys[k] W
      rcases he : eqI xs[k] ys[k] with _ | _
      · have HF : Hid (q = false) := Lib.hid (by
          rw [← HQ.out, decide_eq_false_iff_not]
          rintro rfl
          rw [(eqI_iff _ _).2 rfl] at he; cases he)
        rw [he] at HEQ
        have heq := fun W => HEQ.out W
        generalize xs[k] = x at *
        generalize ys[k] = y at *
        obtain ⟨xo, xa, xb, xc, xi⟩ := x
        obtain ⟨yo, ya, yb, yc, yi⟩ := y
        simp only [GIns.val] at heq x0 x1 x2 x3 x4 y0 y1 y2 y3 y4
        clear he HEQ
        go_upto_region 6 with fail
        go_region
        go_wp2
        go_ret
        exact ⟨congrArg (fun b => Ending.returned (Value.bool b)) HF.out.symm, HBD.out⟩
      · have HT2 : Hid (xs.take (k + 1) = ys.take (k + 1)) := Lib.hid (by rw [List.take_succ_eq_append_getElem hlt, List.take_succ_eq_append_getElem hlt2, HT.out, (eqI_iff _ _).1 he])
        rw [he] at HEQ
        have heq := fun W => HEQ.out W
        generalize xs[k] = x at *
        generalize ys[k] = y at *
        obtain ⟨xo, xa, xb, xc, xi⟩ := x
        obtain ⟨yo, ya, yb, yc, yi⟩ := y
        simp only [GIns.val] at heq x0 x1 x2 x3 x4 y0 y1 y2 y3 y4
        clear he HEQ
        go_upto_region 6 with fail
        go_region
        go_wp2
        go_roundw
        case rel => exact ⟨k + 1, by go_num, by omega, HT2, HBD⟩
        case measure => simp [intOf]; omega
    · have HF : Hid (q = true) := Lib.hid (by
        rw [← HQ.out, decide_eq_true_eq]
        have h9 := HT.out
        have h8 := HN.out
        rwa [List.take_of_length_le hge, List.take_of_length_le (by omega)] at h9)
      go_wp2
      go_ret
      exact ⟨congrArg (fun b => Ending.returned (Value.bool b)) HF.out.symm, HB.out⟩
end Go.Proofs.YtogebcgkcijacaaGreatDoor


namespace Go.Proofs.YtogebcgkcijacaaGreatDoor

open Go.RowKit Go.Shelf

theorem Byt.next9 {w w' : World} {A : Option Addr} {n : Nat} {l : List UInt8} (h : Byt w w.heap.size A n l) (hb : Below w.heap.size w w') : Byt w' w'.heap.size A n l := (h.below hb).wide hb.size
theorem enc9 (ps : List GIns) (A : Option Addr) (c : Nat) (w : World) (hG : GlobP w) (h : GRow GIns.cells 5 w w.heap.size A ps) (hi : ∀ x ∈ ps, ImmOk x) (hv : valP ps = 0) :
    Calls Tryz.prog 9 #[.slice A ps.length c] w fun e w' => ∃ g, e = .returned (.tuple #[.slice (some ⟨g, 0, none⟩) (8 * ps.length) (8 * ps.length), .int .i64 0]) ∧ Byt w' w'.heap.size (some ⟨g, 0, none⟩) (8 * ps.length) (encL ps) ∧ Below w.heap.size w w' := by
  refine (encode_any ps A c w hG.1.2 h hi).mono ?_
  rintro e w' ⟨hb, h2⟩
  rw [if_pos hv] at h2
  obtain ⟨g, rfl, _, hbuf⟩ := h2
  have := hbuf.byt 0 (8 * ps.length) (by rw [length_encL]; omega)
  rw [List.drop_zero, List.take_of_length_le (by rw [length_encL]; omega)] at this
  exact ⟨g, rfl, this.wide (by have := hbuf.lt; omega), hb⟩
theorem dec9 (l : List UInt8) (A : Option Addr) (c : Nat) (w : World) (hG : GlobP w) (h : Byt w w.heap.size A l.length l) (hl : l.length ≤ 4294967296) (h8 : l.length % 8 = 0) (hv : valP (decP l) = 0) :
    Calls Tryz.prog 11 #[.slice A l.length c] w fun e w' => ∃ g, e = .returned (.tuple #[.slice (some ⟨g, 0, none⟩) (decP l).length (decP l).length, .int .i64 0]) ∧ GRow GIns.cells 5 w' w'.heap.size (some ⟨g, 0, none⟩) (decP l) ∧ Below w.heap.size w w' := by
  refine (decode_any l A c w h hl hG.1.2).mono ?_
  rintro e w' ⟨hb, h2⟩
  rw [if_neg (by omega), if_pos hv] at h2
  obtain ⟨g, rfl, _, hd⟩ := h2
  exact ⟨g, by rw [decP_len], hd.row, hb⟩
theorem dec9_bad (l : List UInt8) (A : Option Addr) (c : Nat) (w : World) (hG : GlobP w) (h : Byt w w.heap.size A l.length l) (hl : l.length ≤ 4294967296) (hv : ¬ (l.length % 8 = 0 ∧ valP (decP l) = 0)) :
    Calls Tryz.prog 11 #[.slice A l.length c] w fun e w' => ∃ x : Int, e = .returned (.tuple #[.slice none 0 0, .int .i64 x]) ∧ x ≠ 0 ∧ Below w.heap.size w w' := by
  refine (decode_any l A c w h hl hG.1.2).mono ?_
  rintro e w' ⟨hb, h2⟩
  by_cases h8 : l.length % 8 = 0
  · rw [if_neg (by omega), if_neg (fun hh => hv ⟨h8, hh⟩)] at h2
    exact ⟨_, h2, fun hh => hv ⟨h8, hh⟩, hb⟩
  · rw [if_pos h8] at h2
    exact ⟨_, h2, by decide, hb⟩
theorem asm9 (ps : List GIns) (h : AllOk ps.length ps) (h1 : 1 ≤ ps.length) (h2 : ps.length ≤ 12) (w : World) (hG : GlobP w) :
    Calls Tryz.prog 18 #[.string ⟨(disF ps ps.length).toArray⟩] w fun e w' => ∃ A c, e = .returned (.tuple #[.slice A ps.length c, .agg #[.int .i64 0, .int .i64 0], .int .i64 0]) ∧ GRow GIns.cells 5 w' w'.heap.size A ps ∧ Below w.heap.size w w' := by
  obtain ⟨s, hs, hp⟩ := dis_asm h h1 (by omega)
  have hl := disF_len ps h.imm (by omega) ps.length (Nat.le_refl _)
  have ha := asm_any (disF ps ps.length) w (by unfold maxLen; omega) hG.1.1 hG.1.2
  rw [hs] at ha
  refine ha.mono ?_
  intro e w' hE
  obtain ⟨pv, rfl, hown, hb⟩ := hE
  rw [hp] at hown
  obtain ⟨A1, c1, hv, _, _, hrow⟩ := hown.row GIns.len
  subst hv
  exact ⟨A1, c1, rfl, hrow, hb⟩
set_option maxRecDepth 50000 in
set_option maxHeartbeats 2000000 in
theorem roundtrip9 (A : Option Addr) (len cap : Nat) (zs : List Int) (B : Option Addr) (lb cb : Nat) (l : List UInt8) (w : World) (hG : GlobP w) (hr : IRow w w.heap.size A len cap zs) (hl : Byt w w.heap.size B lb l) :
    Calls Tryz.prog 5 #[.slice A len cap, .slice B lb cb] w fun e w' => e = .returned (.bool true) ∧ Below w.heap.size w w' := by
  obtain rfl : l.length = lb := hl.1
  have HG := Lib.hid hG
  have HAW := Lib.hid fun W (hW : GlobP W) => awake9 W hW.1
  by_cases hbig : 200 < len ∨ 1000 < l.length
  · have HA0 := Lib.hid (HAW.out w hG)
    clear hG hr hl
    have f0 : (if decide ((200 : Int) < len) = true then true else decide ((1000 : Int) < (l.length : Int))) = true := by
      rcases hbig with h | h
      · rw [if_pos (by simp; omega)]
      · split
        · rfl
        · simp; omega
    rcases Nat.lt_or_ge 200 len with h | h
    · have f1 : decide ((200 : Int) < len) = true := by simp; omega
      clear hbig f0
      go_enter Tryz.func5, Tryz.ntmps5
      go_wp2_with fail
      go_fit HA0.out
      rintro e w1 ⟨rfl, hb1⟩
      have HB1 := Lib.hid hb1
      clear hb1
      go_wp2
      go_ret
      exact ⟨rfl, HB1.out⟩
    · have f1 : decide ((200 : Int) < len) = false := by simp; omega
      have f2 : decide ((1000 : Int) < (l.length : Int)) = true := by simp; omega
      clear hbig f0
      go_enter Tryz.func5, Tryz.ntmps5
      go_wp2_with fail
      go_fit HA0.out
      rintro e w1 ⟨rfl, hb1⟩
      have HB1 := Lib.hid hb1
      clear hb1
      go_wp2
      go_ret
      exact ⟨rfl, HB1.out⟩
  have f1 : decide ((200 : Int) < len) = false := by simp; omega
  have f2 : decide ((1000 : Int) < (l.length : Int)) = false := by simp; omega
  have hl1 : l.length ≤ 1000 := by omega
  have HPK := Lib.hid (program_kit A len cap zs w hr)
  have HL := Lib.hid hl
  clear hG hr hl hbig
  go_enter Tryz.func5, Tryz.ntmps5
  go_wp2_with fail
  go_fit HPK.out
  rintro e w1 ⟨v, ps, rfl, hown, hn1, hn2, hall, hb1⟩
  have HB1 := Lib.hid hb1
  have HALL := Lib.hid hall
  obtain ⟨A1, c1, hv, hcap1, _, hrow⟩ := hown.row GIns.len
  subst hv
  have HROW := Lib.hid hrow
  have HV := Lib.hid (hall.valP hn1 (by omega))
  have HG1 := Lib.hid (HG.out.next hb1)
  have HL1 := Lib.hid (HL.out.next9 hb1)
  have HEN := Lib.hid (enc9 ps A1 c1 w1 HG1.out hrow hall.imm HV.out)
  have hbyt : ∀ x ∈ ps, ByteOk x := fun x hx => chkI_zero (valL_zero hall.val x hx)
  have HDE := Lib.hid (dec_enc ps (by omega) hbyt hall.imm)
  have HLE := Lib.hid (length_encL ps)
  clear hown hrow hb1 hall HPK HL f1 f2 hbyt
  go_wp2_with fail
  go_fit HEN.out
  rintro e w2 ⟨g2, rfl, hx2, hb2⟩
  have HB2 := Lib.hid (bel_next HB1.out hb2)
  have HG2 := Lib.hid (HG1.out.next hb2)
  have HL2 := Lib.hid (HL1.out.next9 hb2)
  have HROW2 := Lib.hid (HROW.out.next hb2)
  have HD : Hid (Calls Tryz.prog 11 #[.slice (some ⟨g2, 0, none⟩) (8 * ps.length) (8 * ps.length)] w2 fun e w' => ∃ g, e = .returned (.tuple #[.slice (some ⟨g, 0, none⟩) ps.length ps.length, .int .i64 0]) ∧ GRow GIns.cells 5 w' w'.heap.size (some ⟨g, 0, none⟩) ps ∧ Below w2.heap.size w2 w') := Lib.hid (by
    have h := dec9 (encL ps) (some ⟨g2, 0, none⟩) (8 * ps.length) w2 HG2.out (by rw [HLE.out]; exact hx2) (by rw [HLE.out]; omega) (by rw [HLE.out]; omega) (by rw [HDE.out]; exact HV.out)
    rw [HLE.out, HDE.out] at h
    exact h)
  clear hx2 hb2 HEN HB1 HG1 HL1 HROW
  go_wp2_with fail
  go_fit HD.out
  rintro e w3 ⟨g3, rfl, hq3, hb3⟩
  have HB3 := Lib.hid (bel_next HB2.out hb3)
  have HG3 := Lib.hid (HG2.out.next hb3)
  have HL3 := Lib.hid (HL2.out.next9 hb3)
  have HROW3 := Lib.hid (HROW2.out.next hb3)
  have HQ3 := Lib.hid hq3
  have HDI := Lib.hid (dis_any ps A1 c1 w3 HG3.out.1.2 HG3.out.2 HROW3.out HALL.out.imm HV.out)
  clear hb3 hq3 HD HB2 HG2 HL2 HROW2
  go_wp2_with fail
  go_fit HDI.out
  rintro e w4 ⟨rfl, hb4⟩
  have HB4 := Lib.hid (bel_next HB3.out hb4)
  have HG4 := Lib.hid (HG3.out.next hb4)
  have HL4 := Lib.hid (HL3.out.next9 hb4)
  have HROW4 := Lib.hid (HROW3.out.next hb4)
  have HQ4 := Lib.hid (HQ3.out.next hb4)
  have HAS := Lib.hid (asm9 ps HALL.out hn1 hn2 w4 HG4.out)
  clear hb4 HDI HB3 HG3 HL3 HROW3 HQ3
  go_wp2_with fail
  go_fit HAS.out
  rintro e w5 ⟨A5, c5, rfl, hr5, hb5⟩
  have hbA := bel_next hb5 (bel_lit (Below.refl _ w5) (.cells #[.int .i64 0, .int .i64 0] 35))
  have HR5 := Lib.hid (GRow.next hr5 (bel_lit (Below.refl _ w5) (.cells #[.int .i64 0, .int .i64 0] 35)))
  have HB5 := Lib.hid (bel_next HB4.out hbA)
  have HG5 := Lib.hid (HG4.out.next hbA)
  have HL5 := Lib.hid (HL4.out.next9 hbA)
  have HROW5 := Lib.hid (HROW4.out.next hbA)
  have HQ5 := Lib.hid (HQ4.out.next hbA)
  clear hb5 hr5 HAS HB4 HG4 HL4 HROW4 HQ4 hbA
  go_upto_region 7 with fail
  generalize w5.alloc (.cells #[.int .i64 0, .int .i64 0] 35) = W at *
  have g1 : wrap64 (8 * (ps.length : Int)) = ((8 * ps.length : Nat) : Int) := by rw [IntWalk.wrap64_in _ (by omega)]; omega
  have HS1 := Lib.hid (rSmi_any ps ps A1 (some ⟨g3, 0, none⟩) c1 ps.length W HROW5.out HQ5.out (by omega) (by omega))
  have HS2 := Lib.hid fun W2 (hW : Below W.heap.size W W2) => rSmi_any ps ps A1 A5 c1 c5 W2 (HROW5.out.next hW) (HR5.out.next hW) (by omega) (by omega)
  have HDT : Hid (decide (ps = ps) = true) := Lib.hid (by simp)
  rw [HDT.out] at HS1 HS2
  have g2 : (((8 * ps.length : Nat) : Int) != ((8 * ps.length : Nat) : Int)) = false := by simp
  generalize hn : ps.length = n at *
  generalize hm : 8 * n = m at *
  go_wp2_with fail
  go_fit HS1.out
  rintro e w6 ⟨rfl, hb6⟩
  have HB6 := Lib.hid (bel_next HB5.out hb6)
  have HG6 := Lib.hid (HG5.out.next hb6)
  have HL6 := Lib.hid (HL5.out.next9 hb6)
  have HS3 := Lib.hid (HS2.out w6 hb6)
  clear HS1 HS2 hb6 HB5 HG5 HL5 HROW5 HQ5 HR5 HDT
  go_wp2_with fail
  go_fit HS3.out
  rintro e w7 ⟨rfl, hb7⟩
  have HB7 := Lib.hid (bel_next HB6.out hb7)
  have HG7 := Lib.hid (HG6.out.next hb7)
  have HL7 := Lib.hid (HL6.out.next9 hb7)
  clear HS3 hb7 HB6 HG6 HL6 g1 g2
  clear HLE HDE HV HALL hn hm hn1 hn2 hcap1
  by_cases hok : l.length % 8 = 0 ∧ valP (decP l) = 0
  case neg =>
    have HD2 := Lib.hid (dec9_bad l B cb w7 HG7.out HL7.out (by omega) hok)
    clear hok HL7
    go_wp2_with fail
    go_fit HD2.out
    rintro e w8 ⟨x, rfl, hx, hb8⟩
    have HB8 := Lib.hid (bel_next HB7.out hb8)
    have HG8 := Lib.hid (HG7.out.next hb8)
    have hx2 : (x != 0) = true := by simp [hx]
    clear HD2 hb8 HB7 HG7 hx
    go_wp2_with fail
    go_fit (HAW.out _ HG8.out)
    rintro e w9 ⟨rfl, hb9⟩
    have HB9 := Lib.hid (bel_next HB8.out hb9)
    clear hb9
    go_wp2
    go_ret
    exact ⟨rfl, HB9.out⟩
  have HD2 := Lib.hid (dec9 l B cb w7 HG7.out HL7.out (by omega) hok.1 hok.2)
  have HEQ := Lib.hid (enc_dec l hok.1 (by omega))
  have HV2 := Lib.hid hok.2
  have HL8n : Hid (8 * (decP l).length = l.length) := Lib.hid (by rw [decP_len]; unfold decN; omega)
  clear hok
  go_wp2_with fail
  go_fit HD2.out
  rintro e w8 ⟨g8, rfl, hr8, hb8⟩
  have HB8 := Lib.hid (bel_next HB7.out hb8)
  have HG8 := Lib.hid (HG7.out.next hb8)
  have HL8 := Lib.hid (HL7.out.next9 hb8)
  have HE8 := Lib.hid (enc9 (decP l) (some ⟨g8, 0, none⟩) (decP l).length w8 HG8.out hr8 (fun x hx => by
    obtain ⟨i, hi, rfl⟩ := List.getElem_of_mem hx
    rw [decP_get l hi]; exact decI_imm l i) HV2.out)
  rw [HEQ.out, HL8n.out] at HE8
  clear hr8 hb8 HD2 HV2 HEQ HB7 HG7 HL7 HL8n
  generalize (decP l).length = dn at *
  go_wp2_with fail
  go_fit HE8.out
  rintro e w9 ⟨g9, rfl, hx9, hb9⟩
  have HB9 := Lib.hid (bel_next HB8.out hb9)
  have HG9 := Lib.hid (HG8.out.next hb9)
  have hk1 := hx9.str l.length
  have hk2 := (HL8.out.next9 hb9).str cb
  clear hx9 hb9 HE8 HB8 HG8 HL8
  generalize l.length = nl at *
  generalize bs l = sl at *
  go_wp2_with fail
  go_fit (HAW.out _ HG9.out)
  rintro e w10 ⟨rfl, hb10⟩
  have HB10 := Lib.hid (bel_next HB9.out hb10)
  clear hb10 hk1 hk2
  go_wp2
  go_ret
  exact ⟨rfl, HB10.out⟩
end Go.Proofs.YtogebcgkcijacaaGreatDoor
