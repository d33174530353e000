/-
  isa.targetsOf, at a valid program; what a valid instruction holds.
  Conditions: the table of formats lies as the program's start lays it.
  The words of an instruction: a label's, an operand's; isa.operandWords at a valid instruction.
  Conditions: the tables lie as the program's start lays them.
  Contracts of Go's library, as the kit's shelf has them, laid at this program: each is the library's own theorem at this program's numbers.
  Conditions: as each says.
-/
import Derived.Test.YtahhmgoffdggpaaGreatDoorMb25
import Derived.Lib.ItoaLen
import Derived.Shelf.Strings.Builder1
import Derived.Shelf.Strings.Builder2
import Derived.Shelf.Strings.OnBuilder
import Derived.Shelf.Small.Strs
import Derived.Shelf.Small.Wraps
import Derived.Shelf.Utf8.RuneCount
import Derived.Shelf.Strconv.Itoa0
import Derived.Shelf.Strconv.Itoa1
import Derived.Shelf.LaysM
import Derived.Shelf.Strconv.Itoa2
import Derived.Shelf.Strconv.Itoa3
import Derived.Shelf.Strconv.Clone
import Derived.Shelf.Strconv.Lower
import Derived.Shelf.Strconv.RangeError
import Derived.Shelf.LaysC
import Derived.Shelf.Strconv.ToErrorRange
import Derived.Shelf.Strconv.ParseUint10b64
import Derived.Ground.MpProg
import Derived.Shelf.Pu.ParseUintPublic10
import Derived.Shelf.Pu.ErrVarParseUint
import Derived.Shelf.Strings.Search1
import Derived.Shelf.Strings.Search2
import Derived.Shelf.Strings.Search3
import Derived.Shelf.Strings.Count
import Derived.Shelf.Strings.Shaped
import Derived.Shelf.Strings.LastIndex
import Derived.Shelf.Strings.Prefix
import Derived.Shelf.Strings.Split
import Derived.Shelf.Strings.RuneCount
import Derived.Test.YtahhmgoffdggpaaGreatDoorProg
namespace Go.Proofs.YtahhmgoffdggpaaGreatDoor

open Go.RowKit

/-- Some instruction has i asx its target. -/
def tgt (xs : List GIns) (i : Nat) : Bool := xs.any fun x => decide ((fmtN x.op.toNat).2.2 = 2) && decide (x.imm = (i : Int))
theorem tgt_snoc (xs : List GIns) (x : GIns) (i : Nat) : tgt (xs ++ [x]) i = (tgt xs i || (decide ((fmtN x.op.toNat).2.2 = 2) && decide (x.imm = (i : Int)))) := by simp [tgt]
def TB (xs : List GIns) (n g : Nat) (w : World) : Prop := ∃ cur : Array Value, w.heap[g]? = some (.cells cur 4 (0, 0)) ∧ cur.size = n ∧ ∀ i < n, cur[i]? = some (.bool (tgt xs i))
theorem TB.keep {xs : List GIns} {n g : Nat} {w w' : World} (h : TB xs n g w) (hh : w'.heap[g]? = w.heap[g]?) : TB xs n g w' := by
  obtain ⟨cur, h1, h2, h3⟩ := h
  exact ⟨cur, hh.trans h1, h2, h3⟩
theorem TB.same {xs : List GIns} {x : GIns} {n g : Nat} {w : World} (h : TB xs n g w) (hx : (fmtN x.op.toNat).2.2 ≠ 2) : TB (xs ++ [x]) n g w := by
  obtain ⟨cur, h1, h2, h3⟩ := h
  refine ⟨cur, h1, h2, fun i hi => ?_⟩
  rw [tgt_snoc, decide_eq_false hx, Bool.false_and, Bool.or_false]; exact h3 i hi
theorem TB.put {xs : List GIns} {x : GIns} {n g j : Nat} {w : World} (h : TB xs n g w) (hx : (fmtN x.op.toNat).2.2 = 2) (hj : x.imm = (j : Int)) : TB (xs ++ [x]) n g (w.setCell ⟨g, j, none⟩ (.bool true)) := by
  obtain ⟨cur, h1, h2, h3⟩ := h
  refine ⟨cur.set! j (.bool true), by simp [World.setCell, Array.getElem?_modify, h1], by simp [h2], fun i hi => ?_⟩
  rw [tgt_snoc, decide_eq_true hx, Bool.true_and, hj]
  by_cases hij : i = j
  · subst hij
    simp [h2, hi]
  · have hne : ¬ (j : Int) = (i : Int) := by omega
    rw [decide_eq_false hne, Bool.or_false]
    simp [Ne.symm hij]
    exact h3 i hi
structure InsV (x : GIns) (n : Nat) : Prop where
  op : 0 ≤ x.op ∧ x.op < 28
  target : (fmtN x.op.toNat).2.2 = 2 → 0 ≤ x.imm ∧ x.imm < n
theorem ins_valid {x : GIns} {n : Nat} (h : chkI x n = 0) : InsV x n := by
  unfold chkI at h
  by_cases h0 : x.op < 0 ∨ 28 ≤ x.op
  · rw [if_pos h0] at h; omega
  · rw [if_neg h0] at h
    refine ⟨by omega, fun h2 => ?_⟩
    unfold chkF at h
    rw [h2] at h
    repeat' split at h
    all_goals first | omega | (exfalso; omega)
theorem make_bools (n : Nat) (hn : n ≤ 100000) (W : World) : ∃ cur : Array Value, (cur.size = n ∧ ∀ i < n, cur[i]? = some (.bool (tgt [] i))) ∧ (Instr.makeSlice 53 (.int .i64 (n : Int)) (.int .i64 (n : Int))).run Tryz.prog W = .ok (.slice (some ⟨W.heap.size, 0, none⟩) n n) (W.alloc (.cells cur 4)) := by
  obtain ⟨i, hi, hz0, hz1, hz2⟩ := info_parts (show (Tryz.prog.info? 4).map (fun i => (i.zero, i.size, i.bytes)) = some (some (.bool false), 1, 1) from by kernel_rfl)
  have h := run_make W 53 4 i _ Tryz.underlying53 hi hz0 .i64 .i64 (n : Int) (n : Int) (by omega) (by omega) (by rw [hz2]; omega) (by omega)
  rw [Int.toNat_natCast, hz1] at h
  refine ⟨_, ⟨by rw [size_madeCells]; omega, fun j hj => ?_⟩, h⟩
  show (madeCells #[Value.bool false] (n * 1))[j]? = _
  rw [Array.getElem?_eq_getElem (by rw [size_madeCells]; omega)]
  simp [madeCells, tgt, Nat.mod_one]
set_option maxRecDepth 50000 in
set_option maxHeartbeats 1000000 in
theorem targets_any (ps : List GIns) (A : Option Addr) (c : Nat) (w : World) (hG : GlobF w) (h : GRow GIns.cells 5 w w.heap.size A ps) (hi : ∀ x ∈ ps, ImmOk x) (hn : ps.length ≤ 4096) (hv : ∀ x ∈ ps, InsV x ps.length) :
    Calls Tryz.prog 24 #[.slice A ps.length c] w fun e w' => e = .returned (.slice (some ⟨w.heap.size, 0, none⟩) ps.length ps.length) ∧ TB ps ps.length w.heap.size w' ∧ Below w.heap.size w w' := by
  have HG := Lib.hid hG
  have HR := Lib.hid h
  have HI := Lib.hid hi
  have HV := Lib.hid hv
  obtain ⟨cur0, ⟨hc0, hc1⟩, hmk⟩ := make_bools ps.length (by omega) w
  have HTB0 : Hid (TB (ps.take 0) ps.length w.heap.size (w.alloc (.cells cur0 4))) := Lib.hid ⟨cur0, heap_alloc_new w _, hc0, by simpa using hc1⟩
  clear hG h hi hv
  go_enter Tryz.func24, Tryz.ntmps24
  go_wp2
  clear hmk
  have hb0 : Below w.heap.size w (w.alloc (.cells cur0 4)) := bel_lit (Below.refl _ w) _
  have HB0 := Lib.hid hb0
  have hz0 : (w.alloc (.cells cur0 4)).heap.size = w.heap.size + 1 := by simp
  have hgw : w.heap.size ≤ w.heap.size := Nat.le_refl _
  generalize w.alloc (.cells cur0 4) = w1 at *
  go_loopw [11] (fun vi wr => ∃ k : Nat, vi = .int .i64 k ∧ k ≤ ps.length ∧ Hid (TB (ps.take k) ps.length w.heap.size wr) ∧ Hid (Below w.heap.size w wr)) (fun vi _ => ps.length - (intOf vi).toNat)
  case atStart => exact ⟨0, rfl, by omega, HTB0, HB0⟩
  case round =>
    obtain ⟨k, rfl, hk, HTB, HBL⟩ := hrel
    clear HTB0 HB0 hb0 hc0 hc1
    rcases Nat.lt_or_ge k ps.length with hlt | hge
    · have f0 : decide ((k : Int) < ps.length) = true := by simp; omega
      obtain ⟨b, off, rfl, hb, x0, x1, x2, x3, x4⟩ := (HR.out.keep (w' := wr) (fun g hg => HBL.out.block g hg)).ins hlt
      have HTK : Hid (ps.take (k + 1) = ps.take k ++ [ps[k]]) := Lib.hid (List.take_succ_eq_append_getElem hlt)
      have HVX := Lib.hid (HV.out _ (List.getElem_mem hlt))
      have HIX := Lib.hid (HI.out _ (List.getElem_mem hlt))
      have hs := HBL.out.size
      have hgl : w.heap.size < wr.heap.size := by
        obtain ⟨cur, c1, _, _⟩ := HTB.out
        rcases Nat.lt_or_ge w.heap.size wr.heap.size with h | h
        · exact h
        · rw [Array.getElem?_eq_none h] at c1; cases c1
      have hbw : b < wr.heap.size := by omega
      obtain ⟨hop1, hop2⟩ := HVX.out.op
      have HGW := Lib.hid (HG.out.next HBL.out)
      have hgg := HGW.out.1
      generalize ps[k] = x at *
      obtain ⟨xo, xa, xb, xc, xi⟩ := x
      simp only at x0 x1 x2 x3 x4 hop1 hop2
      obtain ⟨q, rfl⟩ : ∃ q : Nat, xo = q := ⟨xo.toNat, by omega⟩
      obtain ⟨q0, q1, q2⟩ := HGW.out.2 q (by omega)
      have hq28 : q < 28 := by omega
      by_cases h2 : (fmtN q).2.2 = 2
      · obtain ⟨hx0, hx1⟩ := HVX.out.target (by simpa using h2)
        simp only at hx0 hx1
        obtain ⟨j, rfl⟩ : ∃ j : Nat, xi = j := ⟨xi.toNat, by omega⟩
        have hjl : j < ps.length := by omega
        obtain ⟨cur, c1, c2, _⟩ := HTB.out
        have z0 := Lib.frozen_of_heap c1 j
        obtain ⟨u0, v0⟩ : ∃ u, wr.cell? ⟨w.heap.size, j, none⟩ = some u := ⟨_, by rw [Lib.cell_of_heap c1]; exact Array.getElem?_eq_getElem (by omega)⟩
        clear c1 c2
        rw [h2] at q2
        have HTB1 : Hid (TB (ps.take (k + 1)) ps.length w.heap.size ((wr.setCell ⟨w.heap.size, j, none⟩ (.bool true)).alloc (.cells #[.int .i64 (q : Int), .int .i64 xa, .int .i64 xb, .int .i64 xc, .int .i32 (j : Int)] 40))) := Lib.hid (by rw [HTK.out]; exact (HTB.out.put (by simpa using h2) rfl).keep (Below.heap_alloc _ _ _ (by simpa using hgl)))
        have HBL1 : Hid (Below w.heap.size w ((wr.setCell ⟨w.heap.size, j, none⟩ (.bool true)).alloc (.cells #[.int .i64 (q : Int), .int .i64 xa, .int .i64 xb, .int .i64 xc, .int .i32 (j : Int)] 40))) := Lib.hid (bel_lit (HBL.out.setCell (p := ⟨w.heap.size, j, none⟩) hgw _) _)
        clear h2 HTK HTB HVX
        go_wp2
        go_round
        case rel => exact ⟨k + 1, by go_num, by omega, HTB1, HBL1⟩
        case measure => simp [intOf]; omega
      · have HTB1 : Hid (TB (ps.take (k + 1)) ps.length w.heap.size (wr.alloc (.cells #[.int .i64 (q : Int), .int .i64 xa, .int .i64 xb, .int .i64 xc, .int .i32 xi] 40))) := Lib.hid (by rw [HTK.out]; exact (HTB.out.keep (Below.heap_alloc _ _ _ hgl)).same (by simpa using h2))
        have HBL1 : Hid (Below w.heap.size w (wr.alloc (.cells #[.int .i64 (q : Int), .int .i64 xa, .int .i64 xb, .int .i64 xc, .int .i32 xi] 40))) := Lib.hid (bel_lit HBL.out _)
        have f2 : ((((fmtN q).2.2 : Nat) : Int) == 2) = false := by simp; omega
        generalize (fmtN q).2.2 = fi at *
        clear h2 HTK HTB HVX
        go_wp2
        go_round
        case rel => exact ⟨k + 1, by go_num, by omega, HTB1, HBL1⟩
        case measure => simp [intOf]; omega
    · obtain rfl : k = ps.length := by omega
      have f0 : decide ((ps.length : Int) < ps.length) = false := by simp
      go_wp2
      go_ret
      exact ⟨rfl, by simpa using HTB.out, HBL.out⟩
end Go.Proofs.YtahhmgoffdggpaaGreatDoor


namespace Go.Proofs.YtahhmgoffdggpaaGreatDoor

open Go.RowKit

theorem itoa_any (n : Int) (h0 : -9223372036854775808 ≤ n) (h1 : n ≤ 9223372036854775807) (w : World) (hP : Pow w) :
    Calls Tryz.prog 47 #[.int .i64 n] w fun e w' => e = .returned (.string ⟨(Lib.itoa n).toArray⟩) ∧ Below w.heap.size w w' := by
  refine (Tryz.strconv_Itoa n h0 h1 w hP).mono ?_
  rintro e w' ⟨rfl, k, os, rfl⟩
  exact ⟨rfl, Lib.below_grow _ w (Nat.le_refl _) k os⟩
def labW (n : Int) : List UInt8 := 76 :: Lib.itoa n
set_option maxRecDepth 50000 in
theorem labelWord_any (n : Int) (h0 : -9223372036854775808 ≤ n) (h1 : n ≤ 9223372036854775807) (w : World) (hP : Pow w) :
    Calls Tryz.prog 26 #[.int .i64 n] w fun e w' => e = .returned (.string ⟨(labW n).toArray⟩) ∧ Below w.heap.size w w' := by
  have HI := Lib.hid (itoa_any n h0 h1 w hP)
  have hl := Lib.itoa_length_le n h0 h1
  have HE : Hid (labW n = 76 :: Lib.itoa n) := Lib.hid rfl
  generalize Lib.itoa n = d at *
  generalize labW n = r at *
  have hsz : (⟨d.toArray⟩ : ByteArray).size = d.length := by rw [ByteArray.size]; simp
  clear hP h0 h1
  go_enter Tryz.func26, Tryz.ntmps26
  go_wp2_with fail
  go_fit HI.out
  rintro e w1 ⟨rfl, hb⟩
  have HB := Lib.hid hb
  clear hb
  go_wp2
  go_ret
  refine ⟨?_, HB.out⟩
  rw [HE.out]
  show Ending.returned (.string (⟨#[76]⟩ ++ ⟨d.toArray⟩)) = _
  congr 2
/-- The texts of an instruction's operands. -/
def regsW (f : Nat) (x : GIns) : List (List UInt8) := ([regW x.a.toNat, regW x.b.toNat, regW x.c.toNat] : List (List UInt8)).take f
def immW (fi : Nat) (x : GIns) : List (List UInt8) := if fi = 1 then [Lib.itoa x.imm] else if fi = 2 then [labW x.imm] else []
def opW (x : GIns) : List (List UInt8) := regsW (fmtN x.op.toNat).2.1 x ++ immW (fmtN x.op.toNat).2.2 x
def encW (l : List UInt8) : List Value := [.string ⟨l.toArray⟩]
theorem encW_len (l : List UInt8) : (encW l).length = 1 := rfl
theorem encW_one (l : List UInt8) : ∀ u ∈ encW l, u.oneCell' = true := by intro u hu; simp [encW] at hu; subst hu; rfl
theorem elt_str : Elt 66 9 1 16 := Elt.of (.string ⟨#[]⟩) Tryz.underlying66 (by kernel_rfl) rfl (by decide)
/-- One word behind the others. -/
theorem app_word {W : World} {base : Nat} {v : Value} {ws : List (List UInt8)} (h : OwnG encW 9 1 W base v ws) (hb : base ≤ W.heap.size) (hn : ws.length ≤ 10) (x : List UInt8) :
    ∃ v' w', (Builtin.append_ #[66, 66] 66 #[v, .slice (some ⟨W.heap.size, 0, none⟩) 1 1]).run Tryz.prog (W.alloc (.cells #[.string ⟨x.toArray⟩] 9)) = .ok v' w' ∧ OwnG encW 9 1 w' base v' (ws ++ [x]) ∧ Below base W w' := by
  have hlit := GRow.lit encW_len W 9 [x] #[.string ⟨x.toArray⟩] rfl (by unfold maxLen; simp)
  obtain ⟨v', w3, hrun, hown3, hgr3, hob⟩ := OwnG.app elt_str encW_len encW_one (h.alloc (.cells #[.string ⟨x.toArray⟩] 9)) 1 hlit (by simp; omega) (by unfold maxLen; simp; omega) (by simp; omega)
  refine ⟨v', w3, hrun, hown3, ?_⟩
  have hba : Below base W (W.alloc (.cells #[.string ⟨x.toArray⟩] 9)) := (Below.refl base W).alloc hb _
  refine hba.trans ⟨hgr3.os, hgr3.tape, hgr3.output, ?_, ?_⟩
  · have := hgr3.size; exact this
  · intro k hk
    refine hgr3.block k (by simp; omega) (fun e => ?_)
    have := h.lt k e.symm
    omega
theorem OwnG.weak {α : Type} {enc : α → List Value} {T : TypeId} {k : Nat} {w : World} {b b' : Nat} {v : Value} {l : List α} (h : OwnG enc T k w b v l) (hb : b' ≤ b) : OwnG enc T k w b' v l := by
  refine ⟨h.1, ?_⟩
  rcases h.2 with hh | ⟨g, cap, cur, hv, hbs, rest⟩
  · exact .inl hh
  · exact .inr ⟨g, cap, cur, hv, Nat.le_trans hb hbs, rest⟩
theorem take_one {α : Type} (l : List α) (f j : Nat) (h : j < f) (hj : j < l.length) : (l.take f).take (j + 1) = (l.take f).take j ++ [l[j]] := by
  rw [List.take_take, List.take_take, Nat.min_eq_left (by omega), Nat.min_eq_left (by omega)]
  exact List.take_succ_eq_append_getElem hj
theorem regsW0 {f : Nat} {x : GIns} (h : 0 < f) : (regsW f x).take 1 = (regsW f x).take 0 ++ [regW x.a.toNat] := take_one _ f 0 h (by simp)
theorem regsW1 {f : Nat} {x : GIns} (h : 1 < f) : (regsW f x).take 2 = (regsW f x).take 1 ++ [regW x.b.toNat] := take_one _ f 1 h (by simp)
theorem regsW2 {f : Nat} {x : GIns} (h : 2 < f) : (regsW f x).take 3 = (regsW f x).take 2 ++ [regW x.c.toNat] := take_one _ f 2 h (by simp)
theorem regsW3 (f : Nat) (x : GIns) : (regsW f x).take 3 = regsW f x := List.take_of_length_le (by unfold regsW; rw [List.length_take]; simp; omega)
theorem regsW_stay {f j : Nat} {x : GIns} (h : f ≤ j) : (regsW f x).take (j + 1) = (regsW f x).take j := by
  have hl : (regsW f x).length ≤ j := by unfold regsW; rw [List.length_take]; omega
  rw [List.take_of_length_le (by omega), List.take_of_length_le hl]
set_option maxRecDepth 50000 in
set_option maxHeartbeats 2000000 in
theorem operandWords_any (q xan xbn xcn : Nat) (xi : Int) (w : World) (hG : GlobF w) (hP : Pow w) (hq : q < 28) (hxan : xan < 16) (hxbn : xbn < 16) (hxcn : xcn < 16) (hi : -2147483648 ≤ xi ∧ xi ≤ 2147483647) :
    Calls Tryz.prog 27 #[GIns.val ⟨q, xan, xbn, xcn, xi⟩] w fun e w' => ∃ v, e = .returned v ∧ OwnG encW 9 1 w' w.heap.size v (opW ⟨q, xan, xbn, xcn, xi⟩) ∧ Below w.heap.size w w' := by
  have HR := Lib.hid fun W => registers_any ⟨q, xan, xbn, xcn, xi⟩ W
  have HRG := Lib.hid fun (n : Nat) (hn : n < 16) (W : World) => registerWord_any n hn W
  have HG := Lib.hid hG
  have HPW := Lib.hid hP
  have HD : Hid (opW ⟨q, xan, xbn, xcn, xi⟩ = regsW (fmtN q).2.1 ⟨q, xan, xbn, xcn, xi⟩ ++ immW (fmtN q).2.2 ⟨q, xan, xbn, xcn, xi⟩) := Lib.hid rfl
  generalize opW ⟨q, xan, xbn, xcn, xi⟩ = ow at *
  obtain ⟨q0, q1, q2⟩ := hG.2 q hq
  have hgl := hG.1
  have hfi := fmt_imm q
  generalize fmtN q = f at *
  obtain ⟨fs, fr, fi⟩ := f
  simp only at HD q0 q1 q2 hfi
  simp only [GIns.val] at *
  have HI : Hid (IntKind.i64.wrap xi = xi) := Lib.hid (IntWalk.i64_in _ (by omega))
  clear hG hP
  go_enter Tryz.func27, Tryz.ntmps27
  go_wp2_with fail
  go_fit (HR.out _)
  rintro e w2 ⟨rfl, hb2⟩
  have hz2 : w.heap.size + 1 + 1 ≤ w2.heap.size := by have := hb2.size; simpa using this
  have hB : Below w.heap.size w w2 := (((Below.refl w.heap.size w).alloc (Nat.le_refl _) _).alloc (by simp) _).trans (hb2.mono (by simp; omega))
  have HB0 := Lib.hid hB
  have d1 : w2.cell? ⟨w.heap.size + 1, 1, none⟩ = some (.int .i64 fr) := (World.cell?_of_block (a := ⟨w.heap.size + 1, 1, none⟩) (hb2.block _ (by simp))).trans (by go_simp)
  have d2 : w2.cell? ⟨w.heap.size + 1, 2, none⟩ = some (.int .i64 fi) := (World.cell?_of_block (a := ⟨w.heap.size + 1, 2, none⟩) (hb2.block _ (by simp))).trans (by go_simp)
  have d3 : w2.cell? ⟨w.heap.size, 4, none⟩ = some (.int .i32 xi) := (World.cell?_of_block (a := ⟨w.heap.size, 4, none⟩) (hb2.block _ (by simp; omega))).trans (by go_simp)
  have hlt2 : w.heap.size + 1 < w2.heap.size := by omega
  clear hb2 hB q0 q1 q2 HR hz2
  have i0 : ∀ W : World, (Instr.index 96 (.agg #[.int .i64 xan, .int .i64 xbn, .int .i64 xcn]) (.int .i64 0)).run Tryz.prog W = .ok (.int .i64 xan) W := fun W => by kernel_rfl
  have i1 : ∀ W : World, (Instr.index 96 (.agg #[.int .i64 xan, .int .i64 xbn, .int .i64 xcn]) (.int .i64 1)).run Tryz.prog W = .ok (.int .i64 xbn) W := fun W => by kernel_rfl
  have i2 : ∀ W : World, (Instr.index 96 (.agg #[.int .i64 xan, .int .i64 xbn, .int .i64 xcn]) (.int .i64 2)).run Tryz.prog W = .ok (.int .i64 xcn) W := fun W => by kernel_rfl
  go_wp2
  go_loopw [4, 13] (fun vv vi wr => ∃ j : Nat, vi = .int .i64 j ∧ j ≤ 3 ∧ Hid (OwnG encW 9 1 wr w2.heap.size vv ((regsW fr ⟨q, xan, xbn, xcn, xi⟩).take j)) ∧ Hid (Below w2.heap.size w2 wr)) (fun _ vi _ => 3 - (intOf vi).toNat)
  case atStart => exact ⟨0, rfl, by omega, Lib.hid (OwnG.nil _ _), Lib.hid (Below.refl _ _)⟩
  case round =>
    obtain ⟨j, rfl, hj, HS, HB⟩ := hrel
    generalize hvv : u4 = vv at *
    rcases (by omega : j = 0 ∨ j = 1 ∨ j = 2 ∨ j = 3) with rfl | rfl | rfl | rfl
    · have hr := HRG.out xan hxan
      by_cases a0 : 0 < fr
      · have hHS := HS.out
        have hbb := HB.out.size
        obtain ⟨v', w6, hrun, hown, hbl⟩ := app_word hHS (Nat.le_trans (by omega) hbb) (by rw [List.length_take]; omega) (regW xan)
        have hS2 : Hid (OwnG encW 9 1 w6 w2.heap.size v' ((regsW fr ⟨q, xan, xbn, xcn, xi⟩).take 1)) := Lib.hid (by rw [regsW0 (by omega)]; exact hown)
        have hB2 := Lib.hid (HB.out.trans hbl)
        have HRUN := Lib.hid hrun
        have g2 : decide ((0 : Int) < (fr : Int)) = true := by simp; omega
        have g3 : decide (0 < fr) = true := by simp; omega
        have c1 := (World.cell?_of_block (a := ⟨w.heap.size + 1, 1, none⟩) (HB.out.block _ hlt2)).trans d1
        clear a0 hrun hown hbl hHS
        go_wp2_with fail
        go_fit (hr _)
        rintro e w5 ⟨rfl, rfl⟩
        go_wp2_with (at_builtin; refine wpList_gapp HRUN.out rfl rfl rfl rfl rfl ?_)
        go_round
        case rel => exact ⟨1, by go_num, by omega, hS2, hB2⟩
        case measure => simp [intOf]
      · have g2 : decide ((0 : Int) < (fr : Int)) = false := by simp; omega
        have g3 : decide (0 < fr) = false := by simp; omega
        have g4 : ¬ 0 < fr := a0
        have hS2 : Hid (OwnG encW 9 1 wr w2.heap.size vv ((regsW fr ⟨q, xan, xbn, xcn, xi⟩).take 1)) := Lib.hid (by rw [regsW_stay (by omega)]; exact HS.out)
        have c1 := (World.cell?_of_block (a := ⟨w.heap.size + 1, 1, none⟩) (HB.out.block _ hlt2)).trans d1
        clear a0 hr
        go_wp2
        go_round
        case rel => exact ⟨1, by go_num, by omega, hS2, HB⟩
        case measure => simp [intOf]
    · have hr := HRG.out xbn hxbn
      by_cases a0 : 1 < fr
      · have hHS := HS.out
        have hbb := HB.out.size
        obtain ⟨v', w6, hrun, hown, hbl⟩ := app_word hHS (Nat.le_trans (by omega) hbb) (by rw [List.length_take]; omega) (regW xbn)
        have hS2 : Hid (OwnG encW 9 1 w6 w2.heap.size v' ((regsW fr ⟨q, xan, xbn, xcn, xi⟩).take 2)) := Lib.hid (by rw [regsW1 (by omega)]; exact hown)
        have hB2 := Lib.hid (HB.out.trans hbl)
        have HRUN := Lib.hid hrun
        have g2 : decide ((1 : Int) < (fr : Int)) = true := by simp; omega
        have g3 : decide (1 < fr) = true := by simp; omega
        have c1 := (World.cell?_of_block (a := ⟨w.heap.size + 1, 1, none⟩) (HB.out.block _ hlt2)).trans d1
        clear a0 hrun hown hbl hHS
        go_wp2_with fail
        go_fit (hr _)
        rintro e w5 ⟨rfl, rfl⟩
        go_wp2_with (at_builtin; refine wpList_gapp HRUN.out rfl rfl rfl rfl rfl ?_)
        go_round
        case rel => exact ⟨2, by go_num, by omega, hS2, hB2⟩
        case measure => simp [intOf]
      · have g2 : decide ((1 : Int) < (fr : Int)) = false := by simp; omega
        have g3 : decide (1 < fr) = false := by simp; omega
        have g4 : ¬ 1 < fr := a0
        have hS2 : Hid (OwnG encW 9 1 wr w2.heap.size vv ((regsW fr ⟨q, xan, xbn, xcn, xi⟩).take 2)) := Lib.hid (by rw [regsW_stay (by omega)]; exact HS.out)
        have c1 := (World.cell?_of_block (a := ⟨w.heap.size + 1, 1, none⟩) (HB.out.block _ hlt2)).trans d1
        clear a0 hr
        go_wp2
        go_round
        case rel => exact ⟨2, by go_num, by omega, hS2, HB⟩
        case measure => simp [intOf]
    · have hr := HRG.out xcn hxcn
      by_cases a0 : 2 < fr
      · have hHS := HS.out
        have hbb := HB.out.size
        obtain ⟨v', w6, hrun, hown, hbl⟩ := app_word hHS (Nat.le_trans (by omega) hbb) (by rw [List.length_take]; omega) (regW xcn)
        have hS2 : Hid (OwnG encW 9 1 w6 w2.heap.size v' ((regsW fr ⟨q, xan, xbn, xcn, xi⟩).take 3)) := Lib.hid (by rw [regsW2 (by omega)]; exact hown)
        have hB2 := Lib.hid (HB.out.trans hbl)
        have HRUN := Lib.hid hrun
        have g2 : decide ((2 : Int) < (fr : Int)) = true := by simp; omega
        have g3 : decide (2 < fr) = true := by simp; omega
        have c1 := (World.cell?_of_block (a := ⟨w.heap.size + 1, 1, none⟩) (HB.out.block _ hlt2)).trans d1
        clear a0 hrun hown hbl hHS
        go_wp2_with fail
        go_fit (hr _)
        rintro e w5 ⟨rfl, rfl⟩
        go_wp2_with (at_builtin; refine wpList_gapp HRUN.out rfl rfl rfl rfl rfl ?_)
        go_round
        case rel => exact ⟨3, by go_num, by omega, hS2, hB2⟩
        case measure => simp [intOf]
      · have g2 : decide ((2 : Int) < (fr : Int)) = false := by simp; omega
        have g3 : decide (2 < fr) = false := by simp; omega
        have g4 : ¬ 2 < fr := a0
        have hS2 : Hid (OwnG encW 9 1 wr w2.heap.size vv ((regsW fr ⟨q, xan, xbn, xcn, xi⟩).take 3)) := Lib.hid (by rw [regsW_stay (by omega)]; exact HS.out)
        have c1 := (World.cell?_of_block (a := ⟨w.heap.size + 1, 1, none⟩) (HB.out.block _ hlt2)).trans d1
        clear a0 hr
        go_wp2
        go_round
        case rel => exact ⟨3, by go_num, by omega, hS2, HB⟩
        case measure => simp [intOf]
    · have HSW : Hid (OwnG encW 9 1 wr w2.heap.size vv (regsW fr ⟨q, xan, xbn, xcn, xi⟩)) := Lib.hid (by rw [← regsW3]; exact HS.out)
      have HBW := Lib.hid (HB0.out.trans (HB.out.mono HB0.out.size))
      have c2 := (World.cell?_of_block (a := ⟨w.heap.size + 1, 2, none⟩) (HB.out.block _ hlt2)).trans d2
      have c3 := (World.cell?_of_block (a := ⟨w.heap.size, 4, none⟩) (HB.out.block w.heap.size (by omega))).trans d3
      have hii := HI.out
      clear d1 d2 d3 HS i0 i1 i2 HRG
      rcases hfi with rfl | rfl | rfl
      · go_wp2
        go_ret
        refine ⟨vv, rfl, ?_, HBW.out⟩
        rw [HD.out]
        simpa [immW] using HSW.out.weak HB0.out.size
      · have HQQ := Lib.hid fun W (hW : Below w.heap.size w W) => itoa_any xi (by omega) (by omega) W (HPW.out.next hW)
        go_wp2_with fail
        go_fit (HQQ.out _ HBW.out)
        rintro e w5 ⟨rfl, hb5⟩
        obtain ⟨v', w6, hrun, hown, hbl⟩ := app_word (HSW.out.next hb5) (Nat.le_trans HB.out.size hb5.size) (by unfold regsW; rw [List.length_take]; simp; omega) (Lib.itoa xi)
        have HRUN := Lib.hid hrun
        have HOW := Lib.hid hown
        have HB6 := Lib.hid (HB0.out.trans (((HB.out.trans (hb5.mono HB.out.size)).trans hbl).mono HB0.out.size))
        clear hrun hown hbl hb5 c2 c3 HQQ
        go_wp2_with (at_builtin; refine wpList_gapp HRUN.out rfl rfl rfl rfl rfl ?_)
        go_ret
        refine ⟨v', rfl, ?_, HB6.out⟩
        rw [HD.out]
        exact HOW.out.weak HB0.out.size
      · have HQQ := Lib.hid fun W (hW : Below w.heap.size w W) => labelWord_any xi (by omega) (by omega) W (HPW.out.next hW)
        go_wp2_with fail
        go_fit (HQQ.out _ HBW.out)
        rintro e w5 ⟨rfl, hb5⟩
        obtain ⟨v', w6, hrun, hown, hbl⟩ := app_word (HSW.out.next hb5) (Nat.le_trans HB.out.size hb5.size) (by unfold regsW; rw [List.length_take]; simp; omega) (labW xi)
        have HRUN := Lib.hid hrun
        have HOW := Lib.hid hown
        have HB6 := Lib.hid (HB0.out.trans (((HB.out.trans (hb5.mono HB.out.size)).trans hbl).mono HB0.out.size))
        clear hrun hown hbl hb5 c2 c3 HQQ
        go_wp2_with (at_builtin; refine wpList_gapp HRUN.out rfl rfl rfl rfl rfl ?_)
        go_ret
        refine ⟨v', rfl, ?_, HB6.out⟩
        rw [HD.out]
        exact HOW.out.weak HB0.out.size
end Go.Proofs.YtahhmgoffdggpaaGreatDoor


namespace Go.Proofs
open Go.Shelf
def Tryz.lays156_ren : Go.Shelf.Ren := ⟨fun | 156 => 28 | 165 => 49 | 166 => 25 | 169 => 29 | 240 => 46 | 241 => 69 | 276 => 67 | 277 => 92 | n => n, fun | 31 => 66 | 9 => 9 | 3 => 3 | 4 => 4 | 0 => 0 | 20 => 20 | 72 => 57 | 76 => 60 | 70 => 55 | 37 => 23 | 75 => 59 | 127 => 99 | 164 => 119 | 5 => 5 | 80 => 69 | n => n, fun | n => n⟩
theorem Tryz.lays156 : Go.Proofs.Lays.n156 Tryz.prog Tryz.lays156_ren := {
  mixed := by kernel_rfl
  f156 := Tryz.func28.trans (congrArg some (by kernel_rfl))
  f165 := Tryz.func49.trans (congrArg some (by kernel_rfl))
  f166 := Tryz.func25.trans (congrArg some (by kernel_rfl))
  f169 := Tryz.func29.trans (congrArg some (by kernel_rfl))
  f240 := Tryz.func46.trans (congrArg some (by kernel_rfl))
  f241 := Tryz.func69.trans (congrArg some (by kernel_rfl))
  f276 := Tryz.func67.trans (congrArg some (by kernel_rfl))
  f277 := Tryz.func92.trans (congrArg some (by kernel_rfl))
  t0 := Tryz.underlying0
  a0 := Tryz.isAgg0
  z0 := Tryz.sizeOf0
  v0 := Tryz.zeroValue0
  t3 := Tryz.underlying3
  a3 := Tryz.isAgg3
  z3 := Tryz.sizeOf3
  v3 := Tryz.zeroValue3
  t4 := Tryz.underlying4
  a4 := Tryz.isAgg4
  z4 := Tryz.sizeOf4
  v4 := Tryz.zeroValue4
  t9 := Tryz.underlying9
  a9 := Tryz.isAgg9
  z9 := Tryz.sizeOf9
  v9 := Tryz.zeroValue9
  t20 := Tryz.underlying20
  a20 := Tryz.isAgg20
  z20 := Tryz.sizeOf20
  v20 := Tryz.zeroValue20
  t31 := Tryz.underlying66
  a31 := Tryz.isAgg66
  z31 := Tryz.sizeOf66
  v31 := Tryz.zeroValue66
  t37 := Tryz.underlying23
  a37 := Tryz.isAgg23
  z37 := Tryz.sizeOf23
  v37 := Tryz.zeroValue23
  t70 := Tryz.underlying55
  a70 := Tryz.isAgg55
  z70 := Tryz.sizeOf55
  v70 := Tryz.zeroValue55
  t72 := Tryz.underlying57
  a72 := Tryz.isAgg57
  z72 := Tryz.sizeOf57
  v72 := Tryz.zeroValue57
  t75 := Tryz.underlying59
  a75 := Tryz.isAgg59
  z75 := Tryz.sizeOf59
  v75 := Tryz.zeroValue59
  t76 := Tryz.underlying60
  a76 := Tryz.isAgg60
  z76 := Tryz.sizeOf60
  v76 := Tryz.zeroValue60
  t127 := Tryz.underlying99
  a127 := Tryz.isAgg99
  z127 := Tryz.sizeOf99
  v127 := Tryz.zeroValue99
  t164 := Tryz.underlying119
  a164 := Tryz.isAgg119
  z164 := Tryz.sizeOf119
  v164 := Tryz.zeroValue119 }
theorem Tryz.Builder_Extra_156 : Builder.Extra Tryz.prog Tryz.lays156_ren := {
  sizeBuilder := by kernel_rfl
  liesBuilder := by kernel_rfl
  t5 := Tryz.underlying5
  a5 := Tryz.isAgg5
  z5 := Tryz.sizeOf5
  v5 := Tryz.zeroValue5
  infoByte := by kernel_rfl
  cellsByte := by kernel_rfl
  sizeByte := by kernel_rfl
  neB5 := by decide }
open Go.RowKit in
theorem Tryz.strings_Join (bk o c : Nat) (xs : List ByteArray) (sep : ByteArray) (w : World) (hcells : ∀ (j : Nat) x, xs[j]? = some x → w.cell? ⟨bk, o + j, none⟩ = some (.string x)) (hbk : bk < w.heap.size) (hN : xs.length ≤ 140737488355328) (hcap : xs.length ≤ c) (hlen : (Lib.join (xs.map (·.data.toList)) sep.data.toList).length ≤ 140737488355328) :
    Calls Tryz.prog 28 #[.slice (some ⟨bk, o, none⟩) xs.length c, .string sep] w fun e w' => e = .returned (.string ⟨(Lib.join (xs.map (·.data.toList)) sep.data.toList).toArray⟩) ∧ Below w.heap.size w w' := Any.strings_Join Tryz.lays156 Tryz.Builder_Extra_156 bk o c xs sep w hcells hbk hN hcap hlen
end Go.Proofs
