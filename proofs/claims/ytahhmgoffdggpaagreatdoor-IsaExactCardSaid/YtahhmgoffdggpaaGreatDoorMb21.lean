/-
  A buffer of bytes that a call has made, and what a copy into it leaves.
  Conditions: as each theorem says.
  The bytes of a program; isa.Encode, at whatever program.
  Conditions: the table of formats lies as the program's start lays it; the numbers are those of the language.
  The law's sanity check: it returns true.
  Conditions: the listed variables lie as the program's start lays them.
-/
import Derived.Test.YtahhmgoffdggpaaGreatDoorMb20
import Derived.Laws.CopyRow
import Derived.Laws.IdiomCopy
import Derived.Test.YtahhmgoffdggpaaGreatDoorMb13
import Derived.Test.YtahhmgoffdggpaaGreatDoorMb19
import Derived.Test.YtahhmgoffdggpaaGreatDoorMb10
import Derived.Deep.RegionHeld3
import Derived.Test.YtahhmgoffdggpaaGreatDoorMb14
import Derived.Test.YtahhmgoffdggpaaGreatDoorMb7
namespace Go.Proofs.YtahhmgoffdggpaaGreatDoor

open Go.RowKit

/-- l written over L from o on. -/
def patch (L : List UInt8) (o : Nat) (l : List UInt8) : List UInt8 := L.take o ++ l ++ L.drop (o + l.length)
theorem length_patch {L l : List UInt8} {o : Nat} (h : o + l.length ≤ L.length) : (patch L o l).length = L.length := by
  simp only [patch, List.length_append, List.length_take, List.length_drop]; omega
theorem patch_nil (L : List UInt8) (o : Nat) : patch L o [] = L := by simp [patch]
theorem patch_mid {a z c l : List UInt8} {o : Nat} (ho : a.length = o) (h : z.length = l.length) : patch (a ++ (z ++ c)) o l = a ++ (l ++ c) := by
  subst ho
  unfold patch
  rw [List.take_left, ← h, ← List.drop_drop, List.drop_left, List.drop_left, List.append_assoc]
theorem vals_patch (L : List UInt8) (o : Nat) (l : List UInt8) : vals (patch L o l) = (vals L).take o ++ vals l ++ (vals L).drop (o + (vals l).length) := by
  simp [patch, vals, List.map_append, List.map_take, List.map_drop]
/-- Block g is just the bytes L. -/
def Buf (w : World) (g : Nat) (L : List UInt8) : Prop := RowT w g 5 (vals L)
/-- The world in which L has become L'. -/
def bufW (w : World) (g : Nat) (L : List UInt8) : World := w.setRow g (vals L).toArray
theorem Buf.set {w : World} {g : Nat} {L : List UInt8} (h : Buf w g L) (L' : List UInt8) : Buf (bufW w g L') g L' := setRow_heap w g _ _ _ _ h
theorem bufW_gb (w : World) (g : Nat) (L : List UInt8) : w.grownBy (bufW w g L) (some g) := ⟨rfl, rfl, rfl, by simp [bufW], fun k _ hk => setRow_other w g k _ (fun e => hk (by rw [e]))⟩
theorem bufW_size (w : World) (g : Nat) (L : List UInt8) : (bufW w g L).heap.size = w.heap.size := by simp [bufW]
theorem Buf.self {w : World} {g : Nat} {L : List UInt8} (h : Buf w g L) : bufW w g L = w := setRow_self w g _ _ _ h
theorem Buf.lt {w : World} {g : Nat} {L : List UInt8} (h : Buf w g L) : g < w.heap.size := RowT.lt h
theorem Buf.below {w w' : World} {g : Nat} {L : List UInt8} (h : Buf w g L) (hb : Below w.heap.size w w') : Buf w' g L := RowT.below h hb h.lt
theorem Buf.drew {w : World} {g : Nat} {L : List UInt8} (h : Buf w g L) : Buf w.drew g L := h
theorem RowT.gb {w w' : World} {g q : Nat} {t : TypeId} {cs : List Value} (h : RowT w q t cs) (hg : w.grownBy w' (some g)) (hne : q ≠ g) : RowT w' q t cs := (hg.block q h.lt (by intro e; cases e; exact hne rfl)).trans h
/-- The buffer, read. -/
theorem Buf.byt {w : World} {g : Nat} {L : List UInt8} (h : Buf w g L) (o n : Nat) (hn : o + n ≤ L.length) : Byt w (g + 1) (some ⟨g, o, none⟩) n ((L.drop o).take n) := by
  refine ⟨by rw [List.length_take, List.length_drop]; omega, fun h0 => ⟨g, o, rfl, by omega, fun j hj => ?_⟩⟩
  rw [RowT.cell h, byV, bt_take _ _ _ hj, bt_drop]
  have e : o + j < L.length := by omega
  simp [vals, bt, List.getElem?_eq_getElem e]
/-- copy of a slice of bytes into the buffer. -/
theorem Buf.copy {w : World} {g : Nat} {L : List UInt8} (h : Buf w g L) {o dLen : Nat} (dCap : Nat) {D A : Option Addr} {B m : Nat} (c : Nat) {l : List UInt8} (hs : Byt w B A m l) (hD : 0 < min m dLen → D = some ⟨g, o, none⟩) (hfit : o + min m dLen ≤ L.length) (ty : TypeId) :
    (Builtin.copy_ #[23, 23] ty #[.slice D dLen dCap, .slice A m c]).run Tryz.prog w = .ok (goInt ((min m dLen : Nat) : Int)) (bufW w g (patch L o (l.take (min m dLen)))) := by
  by_cases h0 : min m dLen = 0
  · rw [run_copy_none w _ _ ty _ D A dLen dCap m c Tryz.underlying23 byte_size h0, h0, List.take_zero, patch_nil, h.self]
    rfl
  · have hD' := hD (by omega)
    subst hD'
    obtain ⟨b, off, rfl, hb, hc⟩ := hs.2 (by omega)
    have hl : (vals (l.take (min m dLen))).length = min m dLen := by rw [length_vals, List.length_take, hs.1]; omega
    have hr := run_copy_row Tryz.prog w 23 23 ty _ g o dLen dCap ⟨b, off, none⟩ m c (vals L).toArray 5 (vals (l.take (min m dLen))) Tryz.underlying23 byte_size h hl
      (fun j v hj => by
        obtain ⟨hj1, rfl⟩ := vals_get _ j v hj
        rw [List.length_take, hs.1] at hj1
        have e : (⟨b, off, none⟩ : Addr).add j = ⟨b, off + j, none⟩ := by unfold Addr.add; split <;> simp_all
        rw [e, hc j (by omega)]
        unfold byV
        rw [bt_take _ _ _ (by omega)])
      (by rw [hl]; simp [length_vals]; omega) (vals_one _)
    rw [hr, hl]
    unfold bufW
    rw [vals_patch, hl]
/-- copy of a string into the buffer. -/
theorem Buf.copyS {w : World} {g : Nat} {L : List UInt8} (h : Buf w g L) {o dLen : Nat} (dCap : Nat) (l : List UInt8) (hle : l.length ≤ dLen) (hfit : o + l.length ≤ L.length) (ty sT : TypeId) :
    (Builtin.copy_ #[23, sT] ty #[.slice (some ⟨g, o, none⟩) dLen dCap, .string ⟨l.toArray⟩]).run Tryz.prog w = .ok (goInt l.length) (bufW w g (patch L o l)) := by
  have hsz : (⟨l.toArray⟩ : ByteArray).size = l.length := rfl
  have hmin : Nat.min l.length dLen = l.length := Nat.min_eq_left hle
  have hst := run_storeCells_at Tryz.prog g o 5 (vals l) 0 (vals L).toArray w h (by rw [length_vals]; simp [length_vals]; omega) (vals_one _)
  simp only [Nat.add_zero, length_vals] at hst
  simp [Builtin.copy_, run_underlying byte_elem, Builtin.lenOf, Builtin.firstCells, run_byteSize, hsz, hmin]
  have e : (List.map (fun x : UInt8 => Value.int IntKind.u8 (x.toNat : Int)) l) = vals l := rfl
  rw [List.take_of_length_le (by simp), e, hst]
  unfold bufW
  rw [vals_patch, length_vals]
  rfl
/-- A copy whose run is known, asx a step of the walk. -/
theorem wpList_copy_run {ops : Array Oper} {rest : List Oper} {o : Oper} {a : Act} {Q : Exit → Act → World → Prop} {v y v' : Value} {W w' : World} {dT sT : TypeId}
    (hrun : (Builtin.copy_ #[dT, sT] o.type #[v, y]).run Tryz.prog W = .ok v' w') (hgd : o.guard = none) {s x : Operand}
    (ho : o.op = .call { callee := .builtin .copy, args := #[s, x], argTypes := #[dT, sT] }) (hs : a.eval s = v) (hx : a.eval x = y)
    (h : wpList Tryz.prog ops Q rest (a.put o.dst v') w') : wpList Tryz.prog ops Q (o :: rest) a W := by
  refine wpList_plain hgd fun K hK => ?_
  unfold Oper.wp execOp
  simp only [ho, resolve, invoke, builtin, Sem.run_bind, Sem.run_pure, Result.andThen_ok, List.map_toArray, List.map_cons, List.map_nil, hs, hx, hrun]
  exact hK _ _ h
/-- .. and of a region that leaves its order open. -/
theorem step_copy_run {ops : Array Oper} {o : Oper} {a : Act} {W : World} {K : Act → World → Prop} {Q : Exit → Act → World → Prop} {E : Prop} {v y v' : Value} {w' : World} {dT sT : TypeId}
    (hrun : (Builtin.copy_ #[dT, sT] o.type #[v, y]).run Tryz.prog W = .ok v' w') (hg : o.guard = none) {s x : Operand}
    (ho : o.op = .call { callee := .builtin .copy, args := #[s, x], argTypes := #[dT, sT] }) (hs : a.eval s = v) (hx : a.eval x = y) (hK : K (a.put o.dst v') w') :
    if Region.wanted o (yielded ops a.tmps) = true then Oper.wp Tryz.prog o a W K Q else E := by
  have hw : Region.wanted o (yielded ops a.tmps) = true := by simp [Region.wanted, hg]
  rw [if_pos hw]
  unfold Oper.wp
  simp [execOp, ho, resolve, invoke, builtin, hs, hx, hrun, Result.andThen]
  exact hK
end Go.Proofs.YtahhmgoffdggpaaGreatDoor


namespace Go.Proofs.YtahhmgoffdggpaaGreatDoor

open Go.RowKit

/-- A copy whose run is known by what it leaves, asx a step of a region that leaves its order open. -/
theorem step_copy_ex {ops : Array Oper} {o : Oper} {a : Act} {W : World} {K : Act → World → Prop} {Q : Exit → Act → World → Prop} {E : Prop} {v y : Value} {dT sT : TypeId} {R : World → Prop}
    (H : ∃ v' w', (Builtin.copy_ #[dT, sT] o.type #[v, y]).run Tryz.prog W = .ok v' w' ∧ R w') (hg : o.guard = none) {s x : Operand}
    (ho : o.op = .call { callee := .builtin .copy, args := #[s, x], argTypes := #[dT, sT] }) (hs : a.eval s = v) (hx : a.eval x = y) (hK : ∀ v' w', R w' → K (a.put o.dst v') w') :
    if Region.wanted o (yielded ops a.tmps) = true then Oper.wp Tryz.prog o a W K Q else E := by
  obtain ⟨v', w', hr, h2⟩ := H
  exact step_copy_run hr hg ho hs hx (hK _ _ h2)
theorem made_zeros (n : Nat) : madeCells (Value.int .u8 0).cells (n * 1) = (vals (zerosL n)).toArray := by
  show madeCells #[Value.int .u8 0] (n * 1) = _
  apply Array.ext
  · simp [madeCells, vals, zerosL]
  · intro i h1 h2
    simp [madeCells, vals, zerosL, Nat.mod_one]
theorem make_bytes (n : Nat) (hn : n ≤ 16777216) (W : World) : (Instr.makeSlice 23 (.int .i64 (n : Int)) (.int .i64 (n : Int))).run Tryz.prog W = .ok (.slice (some ⟨W.heap.size, 0, none⟩) n n) (W.alloc (.cells (vals (zerosL n)).toArray 5)) := by
  obtain ⟨i, hi, hz0, hz1, hz2⟩ := info_parts byte_info
  have h := run_make W 23 5 i _ Tryz.underlying23 hi hz0 .i64 .i64 (n : Int) (n : Int) (by omega) (by omega) (by rw [hz2]; omega) (by omega)
  rw [h, Int.toNat_natCast, hz1, made_zeros]
def b4 (x : GIns) : List UInt8 := [UInt8.ofNat x.op.toNat, UInt8.ofNat x.a.toNat, UInt8.ofNat x.b.toNat, UInt8.ofNat x.c.toNat]
def u32N (v : Int) : Nat := (v % 4294967296).toNat
def encB (x : GIns) : List UInt8 := b4 x ++ leB (u32N x.imm) 4
def encL (xs : List GIns) : List UInt8 := xs.flatMap encB
theorem length_encB (x : GIns) : (encB x).length = 8 := by unfold encB b4; simp [length_leB]
theorem length_encL (xs : List GIns) : (encL xs).length = 8 * xs.length := by
  induction xs with
  | nil => rfl
  | cons x r ih => show (encB x ++ encL r).length = _; rw [List.length_append, ih, length_encB, List.length_cons]; omega
theorem encL_snoc (xs : List GIns) (x : GIns) : encL (xs ++ [x]) = encL xs ++ encB x := by simp [encL]
theorem zerosL_split (a b : Nat) : zerosL (a + b) = zerosL a ++ zerosL b := by simp [zerosL, List.replicate_append_replicate]
theorem encL_first {xs : List GIns} {x : GIns} {k m : Nat} (hk : xs.length = k) : patch (encL xs ++ zerosL (8 * (m + 1))) (8 * k) (b4 x) = encL xs ++ (b4 x ++ zerosL (4 + 8 * m)) := by
  rw [show 8 * (m + 1) = 4 + (4 + 8 * m) by omega, zerosL_split]
  exact patch_mid (by rw [length_encL, hk]) rfl
theorem encL_second {xs : List GIns} {x : GIns} {k m : Nat} (hk : xs.length = k) : patch (encL xs ++ (b4 x ++ zerosL (4 + 8 * m))) (8 * k + 4) (leB (u32N x.imm) 4) = encL (xs ++ [x]) ++ zerosL (8 * m) := by
  rw [zerosL_split, ← List.append_assoc]
  rw [patch_mid (by rw [List.length_append, length_encL, hk]; rfl) (by rw [length_leB]; simp [zerosL])]
  rw [encL_snoc]
  simp [encB]
/-- The numbers of an instruction that fit into bytes. -/
structure ByteOk (x : GIns) : Prop where
  op : 0 ≤ x.op ∧ x.op < 256
  a : 0 ≤ x.a ∧ x.a < 256
  b : 0 ≤ x.b ∧ x.b < 256
  c : 0 ≤ x.c ∧ x.c < 256
theorem byte_ok {v : Int} (h : 0 ≤ v ∧ v < 256) : IntKind.u8.wrap v = v ∧ ((UInt8.ofNat v.toNat).toNat : Int) = v := by
  refine ⟨?_, ?_⟩
  · show v % 256 = v; omega
  · rw [UInt8.toNat_ofNat']; omega
theorem chkI_zero {x : GIns} {n : Nat} (h : chkI x n = 0) : ByteOk x := by
  unfold chkI at h
  by_cases h0 : x.op < 0 ∨ 28 ≤ x.op
  · rw [if_pos h0] at h; omega
  · rw [if_neg h0] at h
    unfold chkF at h
    generalize (fmtN x.op.toNat).2.1 = f at h
    by_cases h1 : (regB f 0 x.a && regB f 1 x.b && regB f 2 x.c) = false
    · rw [if_pos h1] at h; omega
    · have h2 : (regB f 0 x.a && regB f 1 x.b && regB f 2 x.c) = true := by
        cases hq : (regB f 0 x.a && regB f 1 x.b && regB f 2 x.c)
        · exact absurd hq h1
        · rfl
      simp only [regB, Bool.and_eq_true, decide_eq_true_eq] at h2
      obtain ⟨⟨⟨⟨a1, a2⟩, _⟩, ⟨⟨b1, b2⟩, _⟩⟩, ⟨⟨c1, c2⟩, _⟩⟩ := h2
      exact ⟨by omega, by omega, by omega, by omega⟩
theorem valL_zero {n : Nat} : ∀ {xs : List GIns}, valL n xs = 0 → ∀ x ∈ xs, chkI x n = 0
  | [], _, x, hx => absurd hx (by simp)
  | y :: r, h, x, hx => by
    rw [valL] at h
    by_cases h0 : chkI y n ≠ 0
    · rw [if_pos h0] at h; exact absurd h h0
    · rw [if_neg h0] at h
      rcases List.mem_cons.1 hx with h1 | h1
      · subst h1; omega
      · exact valL_zero h x h1
def EncEnd (ps : List GIns) (w : World) (e : Ending) (w' : World) : Prop :=
  Below w.heap.size w w' ∧ if valP ps = 0 then ∃ g, e = .returned (.tuple #[.slice (some ⟨g, 0, none⟩) (8 * ps.length : Nat) (8 * ps.length), .int .i64 0]) ∧ w.heap.size ≤ g ∧ Buf w' g (encL ps) else e = .returned (.tuple #[.slice none 0 0, .int .i64 (valP ps)])
set_option maxRecDepth 50000 in
set_option maxHeartbeats 8000000 in
theorem encode_any (ps : List GIns) (A : Option Addr) (c : Nat) (w : World) (hG : GlobF w) (h : GRow GIns.cells 5 w w.heap.size A ps) (hi : ∀ x ∈ ps, ImmOk x) :
    Calls Tryz.prog 6 #[.slice A ps.length c] w (EncEnd ps w) := by
  have HV := Lib.hid (validate_any ps A c w hG h hi)
  have HD : Hid (∀ e w', EncEnd ps w e w' ↔ (Below w.heap.size w w' ∧ if valP ps = 0 then ∃ g, e = .returned (.tuple #[.slice (some ⟨g, 0, none⟩) (8 * ps.length : Nat) (8 * ps.length), .int .i64 0]) ∧ w.heap.size ≤ g ∧ Buf w' g (encL ps) else e = .returned (.tuple #[.slice none 0 0, .int .i64 (valP ps)]))) := Lib.hid fun _ _ => Iff.rfl
  by_cases hv : valP ps = 0
  · have hn4 : ps.length ≤ 4096 ∧ 1 ≤ ps.length ∧ valL ps.length ps = 0 := by
      unfold valP at hv
      by_cases h0 : ps.length = 0 ∨ 4096 < ps.length
      · rw [if_pos h0] at hv; omega
      · rw [if_neg h0] at hv; exact ⟨by omega, by omega, hv⟩
    obtain ⟨hn1, hn0, hvl⟩ := hn4
    have HB := Lib.hid fun x hx => chkI_zero (valL_zero hvl x hx)
    have HI := Lib.hid hi
    have HRW := Lib.hid h
    rw [hv] at HV
    have HEND : Hid (∀ g w', Below w.heap.size w w' → w.heap.size ≤ g → Buf w' g (encL ps) → EncEnd ps w (.returned (.tuple #[.slice (some ⟨g, 0, none⟩) (8 * ps.length : Nat) (8 * ps.length), .int .i64 0])) w') := Lib.hid fun g w' hb hg hbf => (HD.out _ _).2 ⟨hb, by rw [if_pos hv]; exact ⟨g, rfl, hg, hbf⟩⟩
    generalize EncEnd ps w = EE at *
    clear hG h hi hv HD hvl
    have hmk := fun W => make_bytes (8 * ps.length) (by omega) W
    have hEi : ((8 * ps.length : Nat) : Int) = 8 * (ps.length : Int) := by omega
    rw [hEi] at hmk
    go_enter Tryz.func6, Tryz.ntmps6
    go_wp2_with fail
    go_fit HV.out
    rintro e w1 ⟨rfl, hb1⟩
    have HB1 := Lib.hid hb1
    clear hb1
    have HBF0 : Hid (Buf (w1.alloc (.cells (vals (zerosL (8 * ps.length))).toArray 5)) w1.heap.size (encL (ps.take 0) ++ zerosL (8 * (ps.length - 0)))) := Lib.hid (heap_alloc_new w1 _)
    have HFR0 : Hid (w1.grownBy (w1.alloc (.cells (vals (zerosL (8 * ps.length))).toArray 5)) (some w1.heap.size)) := Lib.hid (World.grownBy_alloc w1 _ _)
    have hg0 : w.heap.size ≤ w1.heap.size := HB1.out.size
    have HW1 := Lib.hid (HRW.out.next HB1.out)
    clear HRW
    generalize hgg : w1.heap.size = g at *
    go_wp2
    clear hmk hEi
    go_loopw [20] (fun vi wr => ∃ k : Nat, vi = .int .i64 k ∧ k ≤ ps.length ∧ Hid (Buf wr g (encL (ps.take k) ++ zerosL (8 * (ps.length - k)))) ∧ Hid (w1.grownBy wr (some g))) (fun vi _ => ps.length - (intOf vi).toNat)
    case atStart => exact ⟨0, rfl, by omega, HBF0, HFR0⟩
    case round =>
      obtain ⟨k, rfl, hk, HBF, HFR⟩ := hrel
      clear HBF0 HFR0
      rcases Nat.lt_or_ge k ps.length with hlt | hge
      · have f0 : decide ((k : Int) < ps.length) = true := by simp; omega
        have hgw : g < wr.heap.size := HBF.out.lt
        obtain ⟨b, off, rfl, hb, x0, x1, x2, x3, x4⟩ := (HW1.out.keep (w' := wr) (fun b hb => HFR.out.block b (by omega) (by intro e; cases e; omega))).ins hlt
        have HBO := Lib.hid (HB.out _ (List.getElem_mem hlt))
        have HIO := Lib.hid (HI.out _ (List.getElem_mem hlt))
        have HTK : Hid (ps.take (k + 1) = ps.take k ++ [ps[k]]) := Lib.hid (List.take_succ_eq_append_getElem hlt)
        have HLN : Hid ((ps.take k).length = k) := Lib.hid (by rw [List.length_take]; omega)
        obtain ⟨m, hm⟩ : ∃ m, ps.length - k = m + 1 := ⟨ps.length - k - 1, by omega⟩
        have hm2 : ps.length - (k + 1) = m := by omega
        rw [hm] at HBF
        generalize ps[k] = x at *
        have HE1 := Lib.hid (encL_first (x := x) (m := m) HLN.out)
        have HE2 := Lib.hid (encL_second (x := x) (m := m) HLN.out)
        rw [← HTK.out] at HE2
        generalize ps.take k = pk at *
        obtain ⟨xo, xa, xb, xc, xi⟩ := x
        simp only at x0 x1 x2 x3 x4
        have hbw : b < wr.heap.size := by omega
        have hk8 : wrap64 (8 * (k : Int)) = 8 * (k : Int) := IntWalk.wrap64_in _ (by omega)
        have hk8' : IntKind.i64.wrap (8 * (k : Int)) = 8 * (k : Int) := IntWalk.i64_in _ (by omega)
        have hcut2 : ∀ W : World, (Instr.sliceAt 23 (.slice (some ⟨g, 0, none⟩) (8 * ps.length) (8 * ps.length)) (some (.int .i64 (8 * (k : Int)))) none none).run Tryz.prog W = .ok (.slice (some ⟨g, 8 * k, none⟩) (8 * ps.length - 8 * k) (8 * ps.length - 8 * k)) W := fun W => by
          have h := cut_from (some ⟨g, 0, none⟩) (8 * ps.length) (8 * ps.length) (8 * k) (by omega) W
          rw [cutA_at g 0 _ _ (by omega), Nat.zero_add, show ((8 * k : Nat) : Int) = 8 * (k : Int) by omega] at h
          exact h
        have hcut : ∀ W : World, (Instr.slice 23 (.slice (some ⟨g, 0, none⟩) (8 * ps.length) (8 * ps.length)) (some (.int .i64 (8 * (k : Int)))) none none).run Tryz.prog W = .ok (.slice (some ⟨g, 8 * k, none⟩) (8 * ps.length - 8 * k) (8 * ps.length - 8 * k)) W := fun W => by
          have h := hcut2 W
          rw [run_sliceAt_slice _ _ _ _ _ _ byte_elem] at h
          exact h
        obtain ⟨v0, e0⟩ := byte_ok HBO.out.op
        obtain ⟨v1, e1⟩ := byte_ok HBO.out.a
        obtain ⟨v2, e2⟩ := byte_ok HBO.out.b
        obtain ⟨v3, e3⟩ := byte_ok HBO.out.c
        simp only at v0 v1 v2 v3 e0 e1 e2 e3
        have hbytes : vals (b4 ⟨xo, xa, xb, xc, xi⟩) = [.int .u8 xo, .int .u8 xa, .int .u8 xb, .int .u8 xc] := by
          show [Value.int .u8 _, Value.int .u8 _, Value.int .u8 _, Value.int .u8 _] = _
          simp only [e0, e1, e2, e3]
        have hW1 : w1.grownBy ((wr.alloc (.cells #[.int .i64 xo, .int .i64 xa, .int .i64 xb, .int .i64 xc, .int .i32 xi] 40)).drew.alloc (.cells #[.int .u8 xo, .int .u8 xa, .int .u8 xb, .int .u8 xc] 5)) (some g) := gb_trans (gb_trans HFR.out (gb_bel (((Below.refl _ wr).alloc (Nat.le_refl _) _).drew))) (World.grownBy_alloc _ _ _)
        have hbf2 : Buf ((wr.alloc (.cells #[.int .i64 xo, .int .i64 xa, .int .i64 xb, .int .i64 xc, .int .i32 xi] 40)).drew.alloc (.cells #[.int .u8 xo, .int .u8 xa, .int .u8 xb, .int .u8 xc] 5)) g (encL pk ++ zerosL (8 * (m + 1))) := by
          have h1 : Buf (wr.alloc (.cells #[.int .i64 xo, .int .i64 xa, .int .i64 xb, .int .i64 xc, .int .i32 xi] 40)) g (encL pk ++ zerosL (8 * (m + 1))) := HBF.out.below ((Below.refl _ wr).alloc (Nat.le_refl _) _)
          have h2 : Buf (wr.alloc (.cells #[.int .i64 xo, .int .i64 xa, .int .i64 xb, .int .i64 xc, .int .i32 xi] 40)).drew g (encL pk ++ zerosL (8 * (m + 1))) := h1
          exact h2.below ((Below.refl _ _).alloc (Nat.le_refl _) _)
        have hrow2 : Byt ((wr.alloc (.cells #[.int .i64 xo, .int .i64 xa, .int .i64 xb, .int .i64 xc, .int .i32 xi] 40)).drew.alloc (.cells #[.int .u8 xo, .int .u8 xa, .int .u8 xb, .int .u8 xc] 5)) (wr.heap.size + 1 + 1) (some ⟨wr.heap.size + 1, 0, none⟩) 4 (b4 ⟨xo, xa, xb, xc, xi⟩) := by
          have hr : RowAt ((wr.alloc (.cells #[.int .i64 xo, .int .i64 xa, .int .i64 xb, .int .i64 xc, .int .i32 xi] 40)).drew.alloc (.cells #[.int .u8 xo, .int .u8 xa, .int .u8 xb, .int .u8 xc] 5)) (wr.alloc (.cells #[.int .i64 xo, .int .i64 xa, .int .i64 xb, .int .i64 xc, .int .i32 xi] 40)).drew.heap.size (vals (b4 ⟨xo, xa, xb, xc, xi⟩)) := by
            unfold RowAt; rw [hbytes]; exact heap_alloc_new _ _
          have es : (wr.alloc (.cells #[.int .i64 xo, .int .i64 xa, .int .i64 xb, .int .i64 xc, .int .i32 xi] 40)).drew.heap.size = wr.heap.size + 1 := by simp
          rw [es] at hr
          exact hr.byt
        have hcp := hbf2.copy (o := 8 * k) (dLen := 8 * ps.length - 8 * k) (8 * ps.length - 8 * k) 4 hrow2 (D := some ⟨g, 8 * k, none⟩) (fun _ => rfl) (by rw [Nat.min_eq_left (by omega), List.length_append, length_encL, HLN.out]; simp [zerosL]; omega) 3
        rw [Nat.min_eq_left (by omega : 4 ≤ 8 * ps.length - 8 * k), List.take_of_length_le (by exact Nat.le_refl 4), HE1.out] at hcp
        have HCP := Lib.hid hcp
        have HB3 : Hid (Buf (bufW ((wr.alloc (.cells #[.int .i64 xo, .int .i64 xa, .int .i64 xb, .int .i64 xc, .int .i32 xi] 40)).alloc (.cells #[.int .u8 xo, .int .u8 xa, .int .u8 xb, .int .u8 xc] 5)).drew g (encL pk ++ (b4 ⟨xo, xa, xb, xc, xi⟩ ++ zerosL (4 + 8 * m)))) g (encL pk ++ (b4 ⟨xo, xa, xb, xc, xi⟩ ++ zerosL (4 + 8 * m)))) := Lib.hid (hbf2.set (encL pk ++ (b4 ⟨xo, xa, xb, xc, xi⟩ ++ zerosL (4 + 8 * m))))
        have HG3 : Hid (w1.grownBy (bufW ((wr.alloc (.cells #[.int .i64 xo, .int .i64 xa, .int .i64 xb, .int .i64 xc, .int .i32 xi] 40)).alloc (.cells #[.int .u8 xo, .int .u8 xa, .int .u8 xb, .int .u8 xc] 5)).drew g (encL pk ++ (b4 ⟨xo, xa, xb, xc, xi⟩ ++ zerosL (4 + 8 * m)))) (some g)) := Lib.hid (gb_trans hW1 (bufW_gb _ g (encL pk ++ (b4 ⟨xo, xa, xb, xc, xi⟩ ++ zerosL (4 + 8 * m)))))
        have hx3 : (bufW ((wr.alloc (.cells #[.int .i64 xo, .int .i64 xa, .int .i64 xb, .int .i64 xc, .int .i32 xi] 40)).drew.alloc (.cells #[.int .u8 xo, .int .u8 xa, .int .u8 xb, .int .u8 xc] 5)) g (encL pk ++ (b4 ⟨xo, xa, xb, xc, xi⟩ ++ zerosL (4 + 8 * m)))).cell? ⟨wr.heap.size, 4, none⟩ = some (.int .i32 xi) := by
          refine (World.cell?_of_block (a := ⟨wr.heap.size, 4, none⟩) ((bufW_gb _ _ _).block _ (by simp; omega) (fun e => by have h9 := Option.some.inj e; simp only at h9; omega))).trans ?_
          refine (World.cell?_of_block (a := ⟨wr.heap.size, 4, none⟩) (Below.heap_alloc _ _ _ (by simp))).trans ?_
          exact World.cell?_alloc_new _ _ _ _
        have HX3 : Hid ((bufW ((wr.alloc (.cells #[.int .i64 xo, .int .i64 xa, .int .i64 xb, .int .i64 xc, .int .i32 xi] 40)).alloc (.cells #[.int .u8 xo, .int .u8 xa, .int .u8 xb, .int .u8 xc] 5)).drew g (encL pk ++ (b4 ⟨xo, xa, xb, xc, xi⟩ ++ zerosL (4 + 8 * m)))).cell? ⟨wr.heap.size, 4, none⟩ = some (.int .i32 xi)) := Lib.hid hx3
        clear hW1 hbf2 hrow2 hcp hx3
        go_upto_region 9 with fail
        go_region_law (refine step_copy_run HCP.out rfl rfl rfl rfl ?_)
        all_goals
          generalize bufW ((wr.alloc (.cells #[.int .i64 xo, .int .i64 xa, .int .i64 xb, .int .i64 xc, .int .i32 xi] 40)).alloc (.cells #[.int .u8 xo, .int .u8 xa, .int .u8 xb, .int .u8 xc] 5)).drew g (encL pk ++ (b4 ⟨xo, xa, xb, xc, xi⟩ ++ zerosL (4 + 8 * m))) = w3 at *
          have HXS : Hid (∀ W W' : World, (w3.grownBy W (some g) ∧ W.cell? ⟨wr.heap.size, 4, none⟩ = some (.int .i32 xi)) → W.grownBy W' (some g) → (w3.grownBy W' (some g) ∧ W'.cell? ⟨wr.heap.size, 4, none⟩ = some (.int .i32 xi))) := Lib.hid fun W W' h hb => by
            have hb2 := hb.block wr.heap.size (World.block_lt_of_cell? W _ h.2) (fun e => by have h9 := Option.some.inj e; omega)
            exact ⟨gb_trans h.1 hb, (World.cell?_of_block (a := ⟨wr.heap.size, 4, none⟩) hb2).trans h.2⟩
          generalize hX : wr.heap.size = X at *
          have hcut3 : ∀ W : World, (Instr.sliceAt 23 (.slice (some ⟨g, 0, none⟩) (8 * ps.length) (8 * ps.length)) (some (.int .i64 (8 * (k : Int) + 4))) none none).run Tryz.prog W = .ok (.slice (some ⟨g, 8 * k + 4, none⟩) (8 * ps.length - (8 * k + 4)) (8 * ps.length - (8 * k + 4))) W := fun W => by
            have h := cut_from (some ⟨g, 0, none⟩) (8 * ps.length) (8 * ps.length) (8 * k + 4) (by omega) W
            rw [cutA_at g 0 _ _ (by omega), Nat.zero_add, show ((8 * k + 4 : Nat) : Int) = 8 * (k : Int) + 4 by omega] at h
            exact h
          have hcut4 : ∀ W : World, (Instr.slice 23 (.slice (some ⟨g, 0, none⟩) (8 * ps.length) (8 * ps.length)) (some (.int .i64 (8 * (k : Int) + 4))) none none).run Tryz.prog W = .ok (.slice (some ⟨g, 8 * k + 4, none⟩) (8 * ps.length - (8 * k + 4)) (8 * ps.length - (8 * k + 4))) W := fun W => by
            have h := hcut3 W
            rw [run_sliceAt_slice _ _ _ _ _ _ byte_elem] at h
            exact h
          have hk84 : wrap64 (8 * (k : Int) + 4) = 8 * (k : Int) + 4 := IntWalk.wrap64_in _ (by omega)
          have hk84' : IntKind.i64.wrap (8 * (k : Int) + 4) = 8 * (k : Int) + 4 := IntWalk.i64_in _ (by omega)
          have hu32 : IntKind.u32.wrap xi = (u32N xi : Int) := by
            show xi % 4294967296 = _
            unfold u32N; omega
          have hu4 : u32N xi < 4294967296 := by unfold u32N; omega
          have HAP := Lib.hid fun W => app32_any none 0 0 0 (u32N xi) [] W Byt.nil (Nat.zero_le _) (by omega) hu4
          have HCQ : Hid (∀ W ty g5, Buf W g (encL pk ++ (b4 ⟨xo, xa, xb, xc, xi⟩ ++ zerosL (4 + 8 * m))) → RowAt W g5 (vals ([] ++ leB (u32N xi) 4)) → ∃ v' w', (Builtin.copy_ #[23, 23] ty #[.slice (some ⟨g, 8 * k + 4, none⟩) (8 * ps.length - (8 * k + 4)) (8 * ps.length - (8 * k + 4)), .slice (some ⟨g5, 0, none⟩) 4 4]).run Tryz.prog W = .ok v' w' ∧ (Buf w' g (encL (ps.take (k + 1)) ++ zerosL (8 * m)) ∧ W.grownBy w' (some g))) := Lib.hid fun W ty g5 hbf hrow => by
            have hr4 := hrow.byt
            rw [List.nil_append, length_leB] at hr4
            have h := hbf.copy (o := 8 * k + 4) (dLen := 8 * ps.length - (8 * k + 4)) (8 * ps.length - (8 * k + 4)) 4 hr4 (D := some ⟨g, 8 * k + 4, none⟩) (fun _ => rfl) (by rw [Nat.min_eq_left (by omega), List.length_append, length_encL, HLN.out]; simp [zerosL, b4]; omega) ty
            rw [Nat.min_eq_left (by omega : 4 ≤ 8 * ps.length - (8 * k + 4)), List.take_of_length_le (by rw [length_leB]; exact Nat.le_refl 4), HE2.out] at h
            exact ⟨_, _, h, hbf.set _, bufW_gb _ _ _⟩
          generalize u32N xi = uv at *
          have hS3 : w3.grownBy w3.drew (some g) ∧ w3.drew.cell? ⟨X, 4, none⟩ = some (.int .i32 xi) := ⟨gb_bel ((Below.refl _ _).drew), HX3.out⟩
          have hB3 : Buf w3.drew g (encL pk ++ (b4 ⟨xo, xa, xb, xc, xi⟩ ++ zerosL (4 + 8 * m))) := HB3.out
          clear hcut hcut2 v0 v1 v2 v3 e0 e1 e2 e3 hbytes x0 x1 x2 x3 x4
          go_upto_region 10 with fail
          go_region_held3 (fun W => w3.grownBy W (some g) ∧ W.cell? ⟨X, 4, none⟩ = some (.int .i32 xi))
            (assumption)
            (first
              | (go_at_call 17; go_fit (HAP.out _); rintro e w5 ⟨g5, rfl, hg5, hr5, hb5⟩; have hSn := HXS.out _ _ (by assumption) (gb_bel hb5); have hB5 := Buf.below (by assumption) hb5)
              | (refine step_copy_ex (HCQ.out _ _ _ (by assumption) (by assumption)) rfl rfl rfl rfl ?_; rintro v8 w8 ⟨hb8, hg8⟩; have hS8 := HXS.out _ _ (by assumption) hg8))
          all_goals
            have HB8 : Hid (Buf w8 g (encL (ps.take (k + 1)) ++ zerosL (8 * (ps.length - (k + 1))))) := Lib.hid (by rw [hm2]; exact hb8)
            have HG8 := Lib.hid (gb_trans HG3.out hS8.1)
            clear hb8 hg8 hS8 hcut3 hcut4 hm hm2
            go_wp2
            go_round
            case rel => exact ⟨k + 1, by go_num, by omega, HB8, HG8⟩
            case measure => simp [intOf]; omega
      · have f0 : decide ((k : Int) < ps.length) = false := by simp; omega
        have hkn : k = ps.length := by omega
        have HF := Lib.hid HBF.out
        rw [hkn, List.take_length, Nat.sub_self] at HF
        have HEN := Lib.hid (HEND.out g wr (bel_gb HB1.out hg0 HFR.out) (by omega) (by have := HF.out; simpa [zerosL] using this))
        go_wp2
        exact HEN.out
  · have HE : Hid (∀ w', Below w.heap.size w w' → EncEnd ps w (.returned (.tuple #[.slice none 0 0, .int .i64 (valP ps)])) w') := Lib.hid fun w' hb => (HD.out _ _).2 ⟨hb, by rw [if_neg hv]⟩
    generalize valP ps = ev at *
    have f1 : (ev != 0) = true := by simp [hv]
    clear hG h hi HD
    generalize EncEnd ps w = EE at *
    go_enter Tryz.func6, Tryz.ntmps6
    go_wp2_with fail
    go_fit HV.out
    rintro e w1 ⟨rfl, hb1⟩
    have HB1 := Lib.hid hb1
    clear hb1
    go_wp2
    exact HE.out _ HB1.out
end Go.Proofs.YtahhmgoffdggpaaGreatDoor


namespace Go.Proofs.YtahhmgoffdggpaaGreatDoor

open Go.RowKit Go.Shelf

def exT : List UInt8 := [115, 116, 97, 114, 116, 58, 32, 108, 105, 32, 114, 49, 44, 32, 53, 59, 32, 108, 111, 111, 112, 58, 32, 97, 100, 100, 105, 32, 114, 49, 44, 32, 114, 49, 44, 32, 45, 49, 59, 32, 98, 110, 101, 122, 32, 114, 49, 44, 32, 108, 111, 111, 112, 59, 32, 104, 97, 108, 116, 59]
def exP : List GIns := [⟨1, 1, 0, 0, 5⟩, ⟨14, 1, 1, 0, -1⟩, ⟨20, 1, 0, 0, 1⟩, ⟨0, 0, 0, 0, 0⟩]
def progOf (r : ARes Unit) : Option (List GIns) := match r with
  | .ok _ s => some s.prog
  | .thr _ _ _ => none
set_option maxRecDepth 100000 in
theorem ex_asm : progOf (asmAll exT) = some exP := by decide +kernel
theorem ex_val : valP exP = 0 := by decide +kernel
theorem ex_ok : ∃ u s, asmAll exT = .ok u s ∧ s.prog = exP := by
  have h := ex_asm
  cases hq : asmAll exT with
  | ok u s => rw [hq] at h; exact ⟨u, s, rfl, Option.some.inj h⟩
  | thr l c x => rw [hq] at h; cases h
theorem ex_imm : ∀ x ∈ exP, ImmOk x := by
  intro x hx
  simp only [exP, List.mem_cons, List.not_mem_nil, or_false] at hx
  rcases hx with rfl | rfl | rfl | rfl <;> exact ⟨by decide, by decide⟩
set_option maxRecDepth 50000 in
set_option maxHeartbeats 1000000 in
theorem awake9 (w : World) (hG : GlobI w) : Calls Tryz.prog 5 #[] w fun e w' => e = .returned (.bool true) ∧ Below w.heap.size w w' := by
  obtain ⟨u, s, hs, hp⟩ := ex_ok
  have HA := Lib.hid (asm_any exT w (by unfold maxLen; decide) hG.1 hG.2)
  rw [hs] at HA
  have HG := Lib.hid hG
  have HP := Lib.hid hp
  have HEN := Lib.hid fun A c W hW hrow => encode_any exP A c W hW hrow ex_imm
  have HVA := Lib.hid fun A c W hW hrow => validate_any exP A c W hW hrow ex_imm
  rw [ex_val] at HVA
  clear hG hs hp
  go_enter Tryz.func5, Tryz.ntmps5
  go_wp2_with fail
  go_fit HA.out
  rintro e w1 ⟨pv, rfl, hown1, hb1⟩
  rw [HP.out] at hown1
  obtain ⟨A, cap, rfl, hcap, hcm, hrow1⟩ := hown1.row GIns.len
  have HB1 := Lib.hid hb1
  have HR1 := Lib.hid hrow1
  obtain ⟨b, off, rfl, hb, hcells⟩ := hrow1 (by decide)
  have c2 := hcells 2 (by decide) 4 _ rfl
  have c2' : w1.cell? ⟨b, off + 14, none⟩ = some (.int .i32 1) := c2
  have hlen : exP.length = 4 := rfl
  rw [hlen] at hcap
  clear hown1 hb1 hrow1 hcells c2
  have hbp : Below w1.heap.size w1 (w1.alloc (.cells #[.int .i64 0, .int .i64 0] 35)) := (Below.refl _ _).alloc (Nat.le_refl _) _
  have HGW := Lib.hid ((HG.out.next HB1.out).next hbp)
  have HRW := Lib.hid (HR1.out.next hbp)
  rw [hlen] at HEN HVA
  go_wp2_with fail
  go_fit (HEN.out _ _ _ HGW.out.2 HRW.out)
  rintro e w2 ⟨hb2, he⟩
  rw [ex_val, if_pos rfl, hlen] at he
  obtain ⟨g2, rfl, _, _⟩ := he
  have HB2 := Lib.hid (bel_next hbp hb2)
  have HV2 := Lib.hid (HVA.out _ cap w2 (HGW.out.next hb2).2 (HRW.out.next hb2))
  have y2 : w2.cell? ⟨b, off + 14, none⟩ = some (.int .i32 1) := ((bel_next hbp hb2).cell (p := ⟨b, off + 14, none⟩) hb).trans c2'
  clear hb2 c2' HEN HVA
  go_wp2_with fail
  go_fit HV2.out
  rintro e w3 ⟨rfl, hb3⟩
  have HB3 := Lib.hid (bel_next (bel_next HB1.out HB2.out) hb3)
  clear hb3
  go_wp2
  go_ret
  exact ⟨rfl, HB3.out⟩
end Go.Proofs.YtahhmgoffdggpaaGreatDoor
