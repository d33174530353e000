/-
  The kit's numbers in a block of the call's own; the kit's Instr makes a valid instruction.
  Conditions: the counter is small.
  The kit's Instr makes a valid instruction.
  Conditions: the counter is small; the program has 1 to 4096 instructions.
  The kit's Program makes a valid program.
  Conditions: none.
-/
import Derived.Test.YtogebcgkcijacaaGreatDoorMb27
import Derived.Test.YtogebcgkcijacaaGreatDoorMb11
import Derived.Test.YtogebcgkcijacaaGreatDoorMb13
namespace Go.Proofs.YtogebcgkcijacaaGreatDoor

open Go.RowKit

def NumAt (W : World) (N : Nat) (A : Option Addr) (len cap q : Nat) : Prop := W.heap[N]? = some (.cells #[.slice A len cap, .int .i64 q] 102 (0, 0))
/-- How Next ends: a number below n, the counter up by one. -/
def NextU (N : Nat) (A : Option Addr) (len cap q n : Nat) (w : World) (e : Ending) (w' : World) : Prop := ∃ r : Nat, r < n ∧ e = .returned (.int .i64 r) ∧ NumAt w' N A len cap (q + 1) ∧ w.grownBy w' (some N) ∧ w'.heap.size = w.heap.size
theorem next_u {w0 : World} (N : Nat) (A : Option Addr) (len cap : Nat) (zs : List Int) (q n : Nat) (w : World) (hb : NumAt w N A len cap q) (hr : IRow w0 N A len cap zs) (hw : Below N w0 w) (hq : q ≤ 100000) (hn : 1 ≤ n) (hn2 : n ≤ 1073741824) :
    Calls Tryz.prog 49 #[.pointer (some ⟨N, 0, none⟩), .int .i64 n] w (NextU N A len cap q n w) := by
  refine (next_any N N A len cap zs q n w hb (hr.below (Nat.le_refl _) hw) hq hn hn2).mono ?_
  rintro e w' ⟨r, hr, rfl, m, rfl⟩
  refine ⟨r, hr, rfl, ?_, ?_, by simp [World.setCell]⟩
  · have h2 : (w.drewN m).heap[N]? = some (.cells #[.slice A len cap, .int .i64 q] 102 (0, 0)) := hb
    have h3 := heap_setCell_same (w.drewN m) N 1 #[.slice A len cap, .int .i64 q] _ (.int .i64 ((q : Int) + 1)) h2
    unfold NumAt
    rw [h3]
    simp
  · exact ⟨rfl, rfl, rfl, by simp [World.setCell], fun k _ hk => Below.heap_setCell _ _ _ _ (fun e => hk (by simp [e]))⟩
/-- An instruction of a program of n instructions that has no error, its operation k. -/
structure InsOk (k n : Nat) (x : GIns) : Prop where
  op : x.op = k
  a : regB (fmtN k).2.1 0 x.a = true
  b : regB (fmtN k).2.1 1 x.b = true
  c : regB (fmtN k).2.1 2 x.c = true
  un : (fmtN k).2.2 = 0 → x.imm = 0
  tg : (fmtN k).2.2 = 2 → 0 ≤ x.imm ∧ x.imm < n
  lo : -2147483648 ≤ x.imm
  hi : x.imm ≤ 2147483647
theorem InsOk.chk {k n : Nat} {x : GIns} (h : InsOk k n x) (hk : k < 28) : chkI x n = 0 := by
  have ho := h.op
  unfold chkI chkF
  rw [if_neg (by omega), ho, Int.toNat_natCast, h.a, h.b, h.c, if_neg (by simp), if_neg (fun hh => hh.2 (h.un hh.1)), if_neg (fun hh => by have := h.tg hh.1; omega)]
theorem regB_ok {f i : Nat} {r : Nat} (hi : i < f) (hr : r < 16) : regB f i r = true := by
  unfold regB
  rw [decide_eq_true (by omega : (0 : Int) ≤ r), decide_eq_true (by omega : (r : Int) < 16), decide_eq_true hi]; rfl
theorem regB_zero (f i : Nat) : regB f i 0 = true := by unfold regB; simp
/-- What the operands' letters say of a format. -/
theorem opsL_at {k i : Nat} (hk : k < 28) (hi : i < (opsL k).length) : ((opsL k)[i] = 97 ∧ 0 < (fmtN k).2.1) ∨ ((opsL k)[i] = 98 ∧ 1 < (fmtN k).2.1) ∨ ((opsL k)[i] = 99 ∧ 2 < (fmtN k).2.1) ∨ ((opsL k)[i] = 116 ∧ (fmtN k).2.2 = 2) ∨ ((opsL k)[i] = 105 ∧ (fmtN k).2.2 = 1) := by
  have : ∀ k : Fin 28, ∀ i : Fin 4, ∀ h : i.val < (opsL k.val).length, ((opsL k.val)[i.val] = 97 ∧ 0 < (fmtN k.val).2.1) ∨ ((opsL k.val)[i.val] = 98 ∧ 1 < (fmtN k.val).2.1) ∨ ((opsL k.val)[i.val] = 99 ∧ 2 < (fmtN k.val).2.1) ∨ ((opsL k.val)[i.val] = 116 ∧ (fmtN k.val).2.2 = 2) ∨ ((opsL k.val)[i.val] = 105 ∧ (fmtN k.val).2.2 = 1) := by decide +kernel
  have hl : ∀ k : Fin 28, (opsL k.val).length ≤ 4 := by decide +kernel
  exact this ⟨k, hk⟩ ⟨i, by have := hl ⟨k, hk⟩; simp only at this; omega⟩ hi
theorem opsL_len {k : Nat} (hk : k < 28) : (opsL k).length ≤ 4 := by
  have hl : ∀ k : Fin 28, (opsL k.val).length ≤ 4 := by decide +kernel
  exact hl ⟨k, hk⟩
end Go.Proofs.YtogebcgkcijacaaGreatDoor


namespace Go.Proofs.YtogebcgkcijacaaGreatDoor

open Go.RowKit

theorem str_index (l : List UInt8) (i : Nat) (h : i < l.length) (W : World) : (Instr.index 9 (.string ⟨l.toArray⟩) (.int .i64 i)).run Tryz.prog W = .ok (.int .u8 (l[i].toNat : Nat)) W := by
  have h1 : (⟨l.toArray⟩ : ByteArray)[i]? = some l[i] := by
    show (⟨l.toArray⟩ : ByteArray).data[i]? = _
    simp [h]
  simp [Instr.index, asIntOf, run_underlying Tryz.underlying9, h1]
theorem next_fr {N : Nat} {w w' : World} (hg : w.grownBy w' (some N)) : Fr w (fun g => g = N) w' (fun g => g = N) := Fr.grown (Fr.refl w _) hg (fun g hg => by cases hg; exact .inl rfl)
structure IkI (N : Nat) (A : Option Addr) (len cap q n k : Nat) (w : World) (X i : Nat) (x : GIns) (q2 : Nat) (wr : World) : Prop where
  num : NumAt wr N A len cap q2
  few : q2 ≤ q + 1 + 3 * i
  frm : Fr w (fun g => g = N) wr (fun g => g = N)
  lr : Loc (fun g => g = N) wr w.heap.size #[.int .i64 0, .int .i64 0, .int .i64 0, .int .i64 0, .int .i32 0] 52
  lx : Loc (fun g => g = N) wr X #[.int .i64 x.op, .int .i64 x.a, .int .i64 x.b, .int .i64 x.c, .int .i32 x.imm] 52
  ok : InsOk k n x
set_option maxRecDepth 50000 in
set_option maxHeartbeats 4000000 in
theorem instr_kit {w0 : World} (N : Nat) (A : Option Addr) (len cap : Nat) (zs : List Int) (q n : Nat) (w : World) (hN : N < w.heap.size) (hb : NumAt w N A len cap q) (hr : IRow w0 N A len cap zs) (hw : Below N w0 w) (hq : q ≤ 90000) (hn : 1 ≤ n) (hn2 : n ≤ 4096) :
    Calls Tryz.prog 50 #[.pointer (some ⟨N, 0, none⟩), .int .i64 n] w fun e w' => ∃ k x q2, k < 28 ∧ InsOk k n x ∧ e = .returned x.val ∧ NumAt w' N A len cap q2 ∧ q2 ≤ q + 20 ∧ Fr w (fun g => g = N) w' (fun g => g = N) := by
  have HR := Lib.hid hr
  have HW := Lib.hid hw
  have HNX := Lib.hid fun W (m qq : Nat) (hW : NumAt W N A len cap qq) (hf : Fr w (fun g => g = N) W (fun g => g = N)) (hqq : qq ≤ 100000) (h1 : 1 ≤ m) (h2 : m ≤ 1073741824) => next_u N A len cap zs qq m W hW hr (hw.trans (hf.bel (base := N) (fun g hg => by omega) (by omega))) hqq h1 h2
  have HLR := Lib.hid (Loc.new (O := fun g => g = N) (w := w) #[.int .i64 0, .int .i64 0, .int .i64 0, .int .i64 0, .int .i32 0] 52 (fun g hg => by omega))
  have HN1 := Lib.hid (HNX.out (w.alloc (.cells #[.int .i64 0, .int .i64 0, .int .i64 0, .int .i64 0, .int .i32 0] 52)) 28 q ((Below.heap_alloc _ _ _ hN).trans hb) ((Fr.refl _ _).lit _) (by omega) (by omega) (by omega))
  clear hb hr hw
  go_enter Tryz.func50, Tryz.ntmps50
  go_wp2_with fail
  go_fit HN1.out
  rintro e w1 ⟨k, hk, rfl, hnum1, hg1, hs1⟩
  have HNUM1 := Lib.hid hnum1
  have HF1 := Lib.hid (((Fr.refl w (fun g => g = N)).lit (.cells #[.int .i64 0, .int .i64 0, .int .i64 0, .int .i64 0, .int .i32 0] 52)).trans (Fr.grown (Fr.refl _ (fun g => g = N)) hg1 (fun g hg => by cases hg; exact .inl rfl)))
  have HLR1 := Lib.hid (HLR.out.fr (Fr.grown (Fr.refl _ (fun g => g = N)) hg1 (fun g hg => by cases hg; exact .inl rfl)))
  have hs1' : w1.heap.size = w.heap.size + 1 := by rw [hs1]; simp
  have HOP := Lib.hid fun W => operands_ref k hk W
  have HAT := Lib.hid fun i (hi : i < (opsL k).length) => opsL_at hk hi
  have HIX := Lib.hid fun i (hi : i < (opsL k).length) W => str_index (opsL k) i hi W
  have HLEN := Lib.hid (opsL_len hk)
  have hsz : (⟨(opsL k).toArray⟩ : ByteArray).size = (opsL k).length := by rw [ByteArray.size]; simp
  generalize opsL k = ol at *
  clear hnum1 hg1 HN1 hs1
  go_wp2_with fail
  go_fit (HOP.out _)
  rintro e w2 ⟨rfl, hb2⟩
  have HX0 : Hid (IkI N A len cap q n k w w1.heap.size 0 ⟨k, 0, 0, 0, 0⟩ (q + 1) w2) := Lib.hid (by
    have hlx := (Loc.new (O := fun g => g = N) (w := w1) #[.int .i64 (k : Int), .int .i64 0, .int .i64 0, .int .i64 0, .int .i32 0] 52 (fun g hg => by omega))
    have hf2 : Fr (w1.alloc (.cells #[.int .i64 (k : Int), .int .i64 0, .int .i64 0, .int .i64 0, .int .i32 0] 52)) (fun g => g = N) w2 (fun g => g = N) := Fr.below hb2
    exact ⟨(hb2.block N (by simp; omega)).trans ((Below.heap_alloc _ _ _ (by omega)).trans HNUM1.out), by omega, (HF1.out.lit _).trans hf2, (HLR1.out.lit _).fr hf2, hlx.fr hf2,
      ⟨rfl, regB_zero _ _, regB_zero _ _, regB_zero _ _, fun _ => rfl, fun _ => ⟨by show (0 : Int) ≤ 0; omega, by show (0 : Int) < n; omega⟩, by show -2147483648 ≤ (0 : Int); omega, by show (0 : Int) ≤ 2147483647; omega⟩⟩)
  have hX : w.heap.size < w1.heap.size := by omega
  clear hb2 HNUM1 HF1 HLR1 HLR HOP
  rw [hs1'] at HX0 hX
  go_wp2
  go_loopw [7] (fun vi wr => ∃ (i : Nat) (x : GIns) (q2 : Nat), vi = .int .i64 i ∧ i ≤ ol.length ∧ Hid (IkI N A len cap q n k w (w.heap.size + 1) i x q2 wr)) (fun vi _ => ol.length - (intOf vi).toNat)
  case atStart => exact ⟨0, ⟨k, 0, 0, 0, 0⟩, q + 1, rfl, by omega, HX0⟩
  case round =>
    obtain ⟨i, x, q2, rfl, hi, HI⟩ := hrel
    clear HX0
    have hl4 := HLEN.out
    rcases Nat.lt_or_ge i ol.length with hlt | hge
    · have hix0 := HIX.out i hlt
      have f0 : decide ((i : Int) < ol.length) = true := by simp; omega
      have hi3 : i ≤ 3 := by omega
      obtain ⟨xo, xa, xb, xc, xi⟩ := x
      rcases HAT.out i hlt with ⟨hc, hf⟩ | ⟨hc, hf⟩ | ⟨hc, hf⟩ | ⟨hc, hf⟩ | ⟨hc, hf⟩
      · have hix : ∀ W : World, (Instr.index 9 (.string ⟨ol.toArray⟩) (.int .i64 i)).run Tryz.prog W = .ok (.int .u8 97) W := by rw [hc] at hix0; exact hix0
        clear hix0 hc
        have HN3 := Lib.hid (HNX.out wr 16 q2 HI.out.num HI.out.frm (by have := HI.out.few; omega) (by omega) (by omega))
        go_wp2_with fail
        go_fit HN3.out
        rintro e w3 ⟨r, hr16, rfl, hnum3, hg3, hs3⟩
        have HF3 := Lib.hid (next_fr hg3)
        have HLX := Lib.hid (HI.out.lx.fr HF3.out)
        have c0 := HLX.out.cell 1
        have z0 := HLX.out.frozen 1
        simp only [List.getElem?_toArray, List.getElem?_cons_zero, List.getElem?_cons_succ] at c0
        have HI2 : Hid (IkI N A len cap q n k w (w.heap.size + 1) (i + 1) ⟨xo, (r : Int), xb, xc, xi⟩ (q2 + 1) (w3.setCell ⟨w.heap.size + 1, 1, none⟩ (.int .i64 r))) := Lib.hid (by
          have h := HI.out.ok
          exact ⟨(Below.heap_setCell _ _ _ _ (by simp; omega)).trans hnum3, by have := HI.out.few; omega, (HI.out.frm.trans HF3.out).set _ _ (.inr (by simp)), (HI.out.lr.fr HF3.out).beside _ _ (by simp), HLX.out.set 1 (.int .i64 r),
            ⟨h.op, regB_ok hf hr16, h.b, h.c, h.un, h.tg, h.lo, h.hi⟩⟩)
        clear hnum3 hg3 HN3 HI
        go_wp2
        go_round
        case rel => exact ⟨i + 1, ⟨xo, (r : Int), xb, xc, xi⟩, q2 + 1, by go_num, by omega, HI2⟩
        case measure => simp [intOf]; omega
      · have hix : ∀ W : World, (Instr.index 9 (.string ⟨ol.toArray⟩) (.int .i64 i)).run Tryz.prog W = .ok (.int .u8 98) W := by rw [hc] at hix0; exact hix0
        clear hix0 hc
        have HN3 := Lib.hid (HNX.out wr 16 q2 HI.out.num HI.out.frm (by have := HI.out.few; omega) (by omega) (by omega))
        go_wp2_with fail
        go_fit HN3.out
        rintro e w3 ⟨r, hr16, rfl, hnum3, hg3, hs3⟩
        have HF3 := Lib.hid (next_fr hg3)
        have HLX := Lib.hid (HI.out.lx.fr HF3.out)
        have c0 := HLX.out.cell 2
        have z0 := HLX.out.frozen 2
        simp only [List.getElem?_toArray, List.getElem?_cons_zero, List.getElem?_cons_succ] at c0
        have HI2 : Hid (IkI N A len cap q n k w (w.heap.size + 1) (i + 1) ⟨xo, xa, (r : Int), xc, xi⟩ (q2 + 1) (w3.setCell ⟨w.heap.size + 1, 2, none⟩ (.int .i64 r))) := Lib.hid (by
          have h := HI.out.ok
          exact ⟨(Below.heap_setCell _ _ _ _ (by simp; omega)).trans hnum3, by have := HI.out.few; omega, (HI.out.frm.trans HF3.out).set _ _ (.inr (by simp)), (HI.out.lr.fr HF3.out).beside _ _ (by simp), HLX.out.set 2 (.int .i64 r),
            ⟨h.op, h.a, regB_ok hf hr16, h.c, h.un, h.tg, h.lo, h.hi⟩⟩)
        clear hnum3 hg3 HN3 HI
        go_wp2
        go_round
        case rel => exact ⟨i + 1, ⟨xo, xa, (r : Int), xc, xi⟩, q2 + 1, by go_num, by omega, HI2⟩
        case measure => simp [intOf]; omega
      · have hix : ∀ W : World, (Instr.index 9 (.string ⟨ol.toArray⟩) (.int .i64 i)).run Tryz.prog W = .ok (.int .u8 99) W := by rw [hc] at hix0; exact hix0
        clear hix0 hc
        have HN3 := Lib.hid (HNX.out wr 16 q2 HI.out.num HI.out.frm (by have := HI.out.few; omega) (by omega) (by omega))
        go_wp2_with fail
        go_fit HN3.out
        rintro e w3 ⟨r, hr16, rfl, hnum3, hg3, hs3⟩
        have HF3 := Lib.hid (next_fr hg3)
        have HLX := Lib.hid (HI.out.lx.fr HF3.out)
        have c0 := HLX.out.cell 3
        have z0 := HLX.out.frozen 3
        simp only [List.getElem?_toArray, List.getElem?_cons_zero, List.getElem?_cons_succ] at c0
        have HI2 : Hid (IkI N A len cap q n k w (w.heap.size + 1) (i + 1) ⟨xo, xa, xb, (r : Int), xi⟩ (q2 + 1) (w3.setCell ⟨w.heap.size + 1, 3, none⟩ (.int .i64 r))) := Lib.hid (by
          have h := HI.out.ok
          exact ⟨(Below.heap_setCell _ _ _ _ (by simp; omega)).trans hnum3, by have := HI.out.few; omega, (HI.out.frm.trans HF3.out).set _ _ (.inr (by simp)), (HI.out.lr.fr HF3.out).beside _ _ (by simp), HLX.out.set 3 (.int .i64 r),
            ⟨h.op, h.a, h.b, regB_ok hf hr16, h.un, h.tg, h.lo, h.hi⟩⟩)
        clear hnum3 hg3 HN3 HI
        go_wp2
        go_round
        case rel => exact ⟨i + 1, ⟨xo, xa, xb, (r : Int), xi⟩, q2 + 1, by go_num, by omega, HI2⟩
        case measure => simp [intOf]; omega
      · have hix : ∀ W : World, (Instr.index 9 (.string ⟨ol.toArray⟩) (.int .i64 i)).run Tryz.prog W = .ok (.int .u8 116) W := by rw [hc] at hix0; exact hix0
        clear hix0 hc
        have HN3 := Lib.hid (HNX.out wr n q2 HI.out.num HI.out.frm (by have := HI.out.few; omega) (by omega) (by omega))
        go_wp2_with fail
        go_fit HN3.out
        rintro e w3 ⟨r, hrn, rfl, hnum3, hg3, hs3⟩
        have HF3 := Lib.hid (next_fr hg3)
        have HLX := Lib.hid (HI.out.lx.fr HF3.out)
        have c0 := HLX.out.cell 4
        have z0 := HLX.out.frozen 4
        simp only [List.getElem?_toArray, List.getElem?_cons_zero, List.getElem?_cons_succ] at c0
        have HWR : IntKind.i32.wrap (r : Int) = r := IntWalk.i32_in _ (by omega)
        have HI2 : Hid (IkI N A len cap q n k w (w.heap.size + 1) (i + 1) ⟨xo, xa, xb, xc, r⟩ (q2 + 1) (w3.setCell ⟨w.heap.size + 1, 4, none⟩ (.int .i32 r))) := Lib.hid (by
          have h := HI.out.ok
          exact ⟨(Below.heap_setCell _ _ _ _ (by simp; omega)).trans hnum3, by have := HI.out.few; omega, (HI.out.frm.trans HF3.out).set _ _ (.inr (by simp)), (HI.out.lr.fr HF3.out).beside _ _ (by simp), HLX.out.set 4 (.int .i32 r),
            ⟨h.op, h.a, h.b, h.c, fun h0 => by omega, fun _ => ⟨by show (0 : Int) ≤ r; omega, by show (r : Int) < n; omega⟩, by show -2147483648 ≤ (r : Int); omega, by show (r : Int) ≤ 2147483647; omega⟩⟩)
        clear hnum3 hg3 HN3 HI
        go_wp2
        go_round
        case rel => exact ⟨i + 1, ⟨xo, xa, xb, xc, r⟩, q2 + 1, by go_num, by omega, HI2⟩
        case measure => simp [intOf]; omega
      · have hix : ∀ W : World, (Instr.index 9 (.string ⟨ol.toArray⟩) (.int .i64 i)).run Tryz.prog W = .ok (.int .u8 105) W := by rw [hc] at hix0; exact hix0
        clear hix0 hc
        have HN3 := Lib.hid (HNX.out wr 41 q2 HI.out.num HI.out.frm (by have := HI.out.few; omega) (by omega) (by omega))
        go_wp2_with fail
        go_fit HN3.out
        rintro e w3 ⟨r, hrn, rfl, hnum3, hg3, hs3⟩
        have HF3 := Lib.hid (next_fr hg3)
        have HLX := Lib.hid (HI.out.lx.fr HF3.out)
        have c0 := HLX.out.cell 4
        have z0 := HLX.out.frozen 4
        simp only [List.getElem?_toArray, List.getElem?_cons_zero, List.getElem?_cons_succ] at c0
        have HWR : IntKind.i32.wrap ((r : Int) - 20) = (r : Int) - 20 := IntWalk.i32_in _ (by omega)
        have HW4 : wrap64 ((r : Int) - 20) = (r : Int) - 20 := IntWalk.wrap64_in _ (by omega)
        have HW5 : IntKind.i32.wrap (wrap64 ((r : Int) - 20)) = (r : Int) - 20 := by rw [HW4, HWR]
        have HI3 : Hid (IkI N A len cap q n k w (w.heap.size + 1) i ⟨xo, xa, xb, xc, (r : Int) - 20⟩ (q2 + 1) (w3.setCell ⟨w.heap.size + 1, 4, none⟩ (.int .i32 ((r : Int) - 20))) ∨ True) := Lib.hid (.inr trivial)
        have HOK : Hid (∀ v : Int, -2147483648 ≤ v → v ≤ 2147483647 → InsOk k n ⟨xo, xa, xb, xc, v⟩) := Lib.hid fun v h1 h2 => by
          have h := HI.out.ok
          exact ⟨h.op, h.a, h.b, h.c, fun h0 => by omega, fun h0 => by omega, h1, h2⟩
        have HNM : Hid (NumAt (w3.setCell ⟨w.heap.size + 1, 4, none⟩ (.int .i32 ((r : Int) - 20))) N A len cap (q2 + 1)) := Lib.hid ((Below.heap_setCell _ _ _ _ (by simp; omega)).trans hnum3)
        have HFM := Lib.hid ((HI.out.frm.trans HF3.out).set ⟨w.heap.size + 1, 4, none⟩ (.int .i32 ((r : Int) - 20)) (.inr (by simp)))
        have HRM := Lib.hid ((HI.out.lr.fr HF3.out).beside ⟨w.heap.size + 1, 4, none⟩ (.int .i32 ((r : Int) - 20)) (by simp))
        have HXM := Lib.hid (HLX.out.set 4 (.int .i32 ((r : Int) - 20)))
        have HFW := Lib.hid HI.out.few
        have HN4 := Lib.hid (HNX.out _ 7 (q2 + 1) HNM.out HFM.out (by have := HI.out.few; omega) (by omega) (by omega))
        clear hnum3 hg3 HN3 HI HI3 HLX HF3
        go_wp2_with fail
        go_fit HN4.out
        rintro e w4 ⟨r4, hr4, rfl, hnum4, hg4, hs4⟩
        have HF4 := Lib.hid (next_fr hg4)
        have HX4 := Lib.hid (HXM.out.fr HF4.out)
        have HR4 := Lib.hid (HRM.out.fr HF4.out)
        have HFF := Lib.hid (HFM.out.trans HF4.out)
        have HNUM4 := Lib.hid hnum4
        clear c0 z0 hnum4 hg4 HN4 HXM HRM HFM HNM hs4
        by_cases h04 : r4 = 0
        · subst h04
          have HN5 := Lib.hid (HNX.out w4 4 (q2 + 1 + 1) HNUM4.out HFF.out (by have := HFW.out; omega) (by omega) (by omega))
          go_wp2_with fail
          go_fit HN5.out
          rintro e w5 ⟨r5, hr5, rfl, hnum5, hg5, hs5⟩
          have HF5 := Lib.hid (next_fr hg5)
          have HX5 := Lib.hid (HX4.out.fr HF5.out)
          have c0 := HX5.out.cell 4
          have z0 := HX5.out.frozen 4
          have hq5 : ∃ v : Int, -2147483648 ≤ v ∧ v ≤ 2147483647 ∧ ∀ W : World, (Instr.index 130 (.agg #[.int .i32 (-2147483648), .int .i32 2147483647, .int .i32 4096, .int .i32 (-4096)]) (.int .i64 r5)).run Tryz.prog W = .ok (.int .i32 v) W := by
            rcases (by omega : r5 = 0 ∨ r5 = 1 ∨ r5 = 2 ∨ r5 = 3) with rfl | rfl | rfl | rfl
            · exact ⟨-2147483648, by omega, by omega, fun W => by kernel_rfl⟩
            · exact ⟨2147483647, by omega, by omega, fun W => by kernel_rfl⟩
            · exact ⟨4096, by omega, by omega, fun W => by kernel_rfl⟩
            · exact ⟨-4096, by omega, by omega, fun W => by kernel_rfl⟩
          obtain ⟨v, hv1, hv2, hix5⟩ := hq5
          have c0' : w5.cell? ⟨w.heap.size + 1, 4, none⟩ = some (.int .i32 ((r : Int) - 20)) := c0
          have HI2 : Hid (IkI N A len cap q n k w (w.heap.size + 1) (i + 1) ⟨xo, xa, xb, xc, v⟩ (q2 + 1 + 1 + 1) (w5.setCell ⟨w.heap.size + 1, 4, none⟩ (.int .i32 v))) := Lib.hid
            ⟨(Below.heap_setCell _ _ _ _ (by simp; omega)).trans hnum5, by have := HFW.out; omega, (HFF.out.trans HF5.out).set _ _ (.inr (by simp)), (HR4.out.fr HF5.out).beside _ _ (by simp), HX5.out.set 4 (.int .i32 v), HOK.out v hv1 hv2⟩
          clear hnum5 hg5 HN5 c0 hv1 hv2
          go_wp2
          go_round
          case rel => exact ⟨i + 1, ⟨xo, xa, xb, xc, v⟩, q2 + 1 + 1 + 1, by go_num, by omega, HI2⟩
          case measure => simp [intOf]; omega
        · have h04i : ¬ (r4 : Int) = 0 := by omega
          have HI2 : Hid (IkI N A len cap q n k w (w.heap.size + 1) (i + 1) ⟨xo, xa, xb, xc, (r : Int) - 20⟩ (q2 + 1 + 1) w4) := Lib.hid
            ⟨HNUM4.out, by have := HFW.out; omega, HFF.out, HR4.out, HX4.out, HOK.out _ (by omega) (by omega)⟩
          clear h04
          go_wp2
          go_round
          case rel => exact ⟨i + 1, ⟨xo, xa, xb, xc, (r : Int) - 20⟩, q2 + 1 + 1, by go_num, by omega, HI2⟩
          case measure => simp [intOf]; omega
    · have f0 : decide ((i : Int) < ol.length) = false := by simp; omega
      obtain ⟨xo, xa, xb, xc, xi⟩ := x
      have c0 := HI.out.lx.cell 0
      have c1 := HI.out.lx.cell 1
      have c2 := HI.out.lx.cell 2
      have c3 := HI.out.lx.cell 3
      have c4 := HI.out.lx.cell 4
      have g0 := HI.out.lr.cell 0
      have g1 := HI.out.lr.cell 1
      have g2 := HI.out.lr.cell 2
      have g3 := HI.out.lr.cell 3
      have g4 := HI.out.lr.cell 4
      have k0 := HI.out.lr.frozen 0
      have k1 := HI.out.lr.frozen 1
      have k2 := HI.out.lr.frozen 2
      have k3 := HI.out.lr.frozen 3
      have k4 := HI.out.lr.frozen 4
      simp only [List.getElem?_toArray, List.getElem?_cons_zero, List.getElem?_cons_succ] at c0 c1 c2 c3 c4 g0 g1 g2 g3 g4
      have hlr : w.heap.size < wr.heap.size := HI.out.lr.lt
      have HEND : Hid (∃ k' x q2', k' < 28 ∧ InsOk k' n x ∧ Ending.returned (GIns.val ⟨xo, xa, xb, xc, xi⟩) = .returned x.val ∧ NumAt (((((wr.setCell ⟨w.heap.size, 0, none⟩ (.int .i64 xo)).setCell ⟨w.heap.size, 1, none⟩ (.int .i64 xa)).setCell ⟨w.heap.size, 2, none⟩ (.int .i64 xb)).setCell ⟨w.heap.size, 3, none⟩ (.int .i64 xc)).setCell ⟨w.heap.size, 4, none⟩ (.int .i32 xi)) N A len cap q2' ∧ q2' ≤ q + 20 ∧ Fr w (fun g => g = N) (((((wr.setCell ⟨w.heap.size, 0, none⟩ (.int .i64 xo)).setCell ⟨w.heap.size, 1, none⟩ (.int .i64 xa)).setCell ⟨w.heap.size, 2, none⟩ (.int .i64 xb)).setCell ⟨w.heap.size, 3, none⟩ (.int .i64 xc)).setCell ⟨w.heap.size, 4, none⟩ (.int .i32 xi)) (fun g => g = N)) := Lib.hid
        ⟨k, ⟨xo, xa, xb, xc, xi⟩, q2, hk, HI.out.ok, rfl, by
          unfold NumAt
          rw [Below.heap_setCell _ _ _ _ (by simp; omega), Below.heap_setCell _ _ _ _ (by simp; omega), Below.heap_setCell _ _ _ _ (by simp; omega), Below.heap_setCell _ _ _ _ (by simp; omega), Below.heap_setCell _ _ _ _ (by simp; omega)]
          exact HI.out.num, by have := HI.out.few; omega, ((((HI.out.frm.set _ _ (.inr (Nat.le_refl _))).set _ _ (.inr (Nat.le_refl _))).set _ _ (.inr (Nat.le_refl _))).set _ _ (.inr (Nat.le_refl _))).set _ _ (.inr (Nat.le_refl _))⟩
      clear HI
      go_wp2
      refine bodyPost_ret (v := GIns.val ⟨xo, xa, xb, xc, xi⟩) (by simp [results, Tryz.results50, go_sem, GIns.val, g0, g1, g2, g3, g4]) rfl ?_
      exact HEND.out
end Go.Proofs.YtogebcgkcijacaaGreatDoor


namespace Go.Proofs.YtogebcgkcijacaaGreatDoor

open Go.RowKit

/-- The instructions of a program of n instructions have no error. -/
def AllOk (n : Nat) (xs : List GIns) : Prop := ∀ x ∈ xs, ∃ k, k < 28 ∧ InsOk k n x
theorem AllOk.imm {n : Nat} {xs : List GIns} (h : AllOk n xs) : ∀ x ∈ xs, ImmOk x := fun x hx => by obtain ⟨k, _, h2⟩ := h x hx; exact ⟨h2.lo, h2.hi⟩
theorem AllOk.val {n : Nat} : ∀ {xs : List GIns}, AllOk n xs → valL n xs = 0
  | [], _ => rfl
  | x :: r, h => by
    obtain ⟨k, hk, h2⟩ := h x (by simp)
    rw [valL, h2.chk hk, if_neg (by omega)]
    exact AllOk.val fun y hy => h y (by simp [hy])
theorem AllOk.valP {xs : List GIns} (h : AllOk xs.length xs) (h1 : 1 ≤ xs.length) (h2 : xs.length ≤ 4096) : valP xs = 0 := by
  unfold Go.Proofs.YtogebcgkcijacaaGreatDoor.valP
  rw [if_neg (by omega)]
  exact AllOk.val h
structure PrI (N : Nat) (A : Option Addr) (len cap n : Nat) (w : World) (i : Nat) (v : Value) (xs : List GIns) (q : Nat) (wr : World) : Prop where
  num : NumAt wr N A len cap q
  few : q ≤ 1 + 20 * i
  frm : Fr w (fun g => g = N) wr (fun g => g = N)
  own : OwnG GIns.cells 52 5 wr (N + 1) v xs
  cnt : xs.length = i
  ok : AllOk n xs
set_option maxRecDepth 50000 in
set_option maxHeartbeats 1000000 in
theorem program_kit (A : Option Addr) (len cap : Nat) (zs : List Int) (w : World) (hr : IRow w w.heap.size A len cap zs) :
    Calls Tryz.prog 20 #[.slice A len cap] w fun e w' => ∃ v xs, e = .returned v ∧ OwnG GIns.cells 52 5 w' w.heap.size v xs ∧ 1 ≤ xs.length ∧ xs.length ≤ 12 ∧ AllOk xs.length xs ∧ Below w.heap.size w w' := by
  have HR := Lib.hid hr
  have HN0 : Hid (NumAt (w.alloc (.cells #[.slice A len cap, .int .i64 0] 102)) w.heap.size A len cap 0) := Lib.hid (heap_alloc_new w _)
  have HB0 : Hid (Below w.heap.size w (w.alloc (.cells #[.slice A len cap, .int .i64 0] 102))) := Lib.hid ((Below.refl _ _).alloc (Nat.le_refl _) _)
  have HN1 := Lib.hid (next_u w.heap.size A len cap zs 0 12 _ HN0.out hr HB0.out (by omega) (by omega) (by omega))
  clear hr
  go_enter Tryz.func20, Tryz.ntmps20
  go_wp2_with fail
  go_fit HN1.out
  rintro e w1 ⟨r, hr12, rfl, hnum1, hg1, hs1⟩
  have HF1 := Lib.hid (next_fr hg1)
  have HB1 := Lib.hid (HB0.out.trans (HF1.out.bel (base := w.heap.size) (fun g hg => by omega) (by simp)))
  have hs1' : w1.heap.size = w.heap.size + 1 := by rw [hs1]; simp
  obtain ⟨n, hn⟩ : ∃ n : Nat, n = 1 + r := ⟨_, rfl⟩
  have hw1 : wrap64 (1 + (r : Int)) = n := by rw [IntWalk.wrap64_in _ (by omega)]; omega
  have HI0 : Hid (PrI w.heap.size A len cap n w1 0 (.slice none 0 0) [] 1 w1) := Lib.hid ⟨hnum1, by omega, Fr.refl _ _, OwnG.nil _ _, rfl, fun x hx => absurd hx (by simp)⟩
  have HINS := Lib.hid fun W q (hW : NumAt W w.heap.size A len cap q) (hf : Fr w1 (fun g => g = w.heap.size) W (fun g => g = w.heap.size)) (hq : q ≤ 90000) => instr_kit (w0 := w) w.heap.size A len cap zs q n W (by have := hf.size; omega) hW HR.out (HB1.out.trans (hf.bel (base := w.heap.size) (fun g hg => by omega) (by omega))) hq (by omega) (by omega)
  clear hnum1 hg1 hs1 HN1
  have ecast : ((n : Nat) : Int) = 1 + (r : Int) := by omega
  simp only [ecast] at HINS
  go_wp2
  go_loopw [5, 6] (fun vv vi wr => ∃ (i : Nat) (xs : List GIns) (q : Nat), vi = .int .i64 i ∧ i ≤ n ∧ Hid (PrI w.heap.size A len cap n w1 i vv xs q wr)) (fun _ vi _ => n - (intOf vi).toNat)
  case atStart => exact ⟨0, [], 1, rfl, by omega, HI0⟩
  case round =>
    obtain ⟨i, xs, q, rfl, hi, HI⟩ := hrel
    clear HI0
    rcases Nat.lt_or_ge i n with hlt | hge
    · have f0 : decide ((i : Int) < 1 + (r : Int)) = true := by simp; omega
      have f0' : (i : Int) < 1 + (r : Int) := by omega
      have HI1 := Lib.hid (HINS.out wr q HI.out.num HI.out.frm (by have := HI.out.few; omega))
      obtain ⟨A5, c5, ev, _, _, _⟩ := HI.out.own.row GIns.len
      subst ev
      have hic : xs.length = i := HI.out.cnt
      go_wp2_with fail
      go_fit HI1.out
      rintro e w3 ⟨k, x, q2, hk, hok, he, hnum3, hq2, hf3⟩
      have HNUM := Lib.hid hnum3
      have HF3 := Lib.hid (HI.out.frm.trans hf3)
      have HFW : Hid (q2 ≤ 1 + 20 * (i + 1)) := Lib.hid (by have := HI.out.few; omega)
      have hown3 := HI.out.own.keep (w' := w3) fun g hg => by
        obtain ⟨h1, h2⟩ := HI.out.own.lt g hg
        exact hf3.block g h2 (by intro e9; omega)
      obtain ⟨xo, xa, xb, xc, xi⟩ := x
      simp only [GIns.val] at he
      subst he
      have hlit := GRow.lit GIns.len w3 52 [⟨xo, xa, xb, xc, xi⟩] #[.int .i64 xo, .int .i64 xa, .int .i64 xb, .int .i64 xc, .int .i32 xi] rfl (by unfold maxLen; simp)
      obtain ⟨v', w6, hrun, hown6, hgr6, hob⟩ := OwnG.app elt_ins GIns.len GIns.one (hown3.alloc (.cells #[.int .i64 xo, .int .i64 xa, .int .i64 xb, .int .i64 xc, .int .i32 xi] 52)) 1 hlit (by have := HI.out.frm.size; have := hf3.size; simp; omega) (by unfold maxLen; simp; omega) (by simp; omega)
      obtain ⟨A6, c6, hv6, _, _, _⟩ := hown6.row GIns.len
      have hqb : ∀ g, Value.ownBlock (.slice A5 xs.length c5) = some g → w.heap.size + 1 ≤ g := fun g hg => (HI.out.own.lt g hg).1
      have HI2 : Hid (PrI w.heap.size A len cap n w1 (i + 1) v' (xs ++ [⟨xo, xa, xb, xc, xi⟩]) q2 w6) := Lib.hid
        ⟨(hgr6.block _ (by have := HI.out.frm.size; have := hf3.size; simp; omega) (by intro e9; have := hqb _ e9.symm; omega)).trans ((Below.heap_alloc _ _ _ (by have := HI.out.frm.size; have := hf3.size; omega)).trans HNUM.out), HFW.out,
          (HF3.out.lit _).grown hgr6 (fun g hg => by have := hqb g hg; omega), hown6, by rw [List.length_append, hic]; rfl, fun y hy => by
            rcases List.mem_append.1 hy with h1 | h1
            · exact HI.out.ok y h1
            · rw [List.mem_singleton] at h1; subst h1; exact ⟨k, hk, hok⟩⟩
      have HRUN := Lib.hid hrun
      have hll : (xs ++ [(⟨xo, xa, xb, xc, xi⟩ : GIns)]).length = i + 1 := by rw [List.length_append, hic]; rfl
      subst hv6
      rw [hll] at HRUN HI2
      rw [hic] at HRUN
      simp only [List.length_singleton] at HRUN
      rw [hic]
      clear hnum3 hf3 hown3 hlit hrun hown6 hgr6 hob hqb hok hll HI
      go_wp2_with (at_builtin; refine wpList_gapp HRUN.out rfl rfl rfl rfl rfl ?_)
      go_wp2
      go_roundw
      case rel => exact ⟨i + 1, _, q2, by go_num, by omega, HI2⟩
      case measure => simp [intOf]; omega
    · have f0 : decide ((i : Int) < 1 + (r : Int)) = false := by simp; omega
      have f0' : ¬ (i : Int) < 1 + (r : Int) := by omega
      go_wp2
      go_ret
      have hic : xs.length = i := HI.out.cnt
      have hin : xs.length = n := by omega
      exact ⟨_, rfl, xs, HI.out.own.base (by omega), by omega, by omega, by rw [hin]; exact HI.out.ok, HB1.out.trans (HI.out.frm.bel (base := w.heap.size) (fun g hg => by omega) (by omega))⟩
end Go.Proofs.YtogebcgkcijacaaGreatDoor
