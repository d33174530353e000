/-
  The reference's small functions of layer 8: up, put, check.
  Conditions: as each theorem says.
  A buffer of bytes that a call has made, and what a copy into it leaves.
  Conditions: as each theorem says.
  The assembler over tokens as plain functions.
  Conditions: none.
-/
import Derived.Test.YtcmohijjpnebpaaGreatDoorMa12
import Derived.Deep.DeepFit
import Derived.Deep.DeepCutAuto
import Derived.RegionTactic
import Derived.Laws.CopyRow
import Derived.Laws.IdiomCopy
import Derived.Test.YtcmohijjpnebpaaGreatDoorMa3
import Derived.Test.YtcmohijjpnebpaaGreatDoorMa5
namespace Go.Proofs.YtcmohijjpnebpaaGreatDoor

open Go.RowKit

theorem bel_next8 {w w1 w2 : World} (h1 : Below w.heap.size w w1) (h2 : Below w1.heap.size w1 w2) : Below w.heap.size w w2 := h1.trans (h2.mono h1.size)
theorem bel_lit8 {w w1 : World} (h1 : Below w.heap.size w w1) (o : Obj) : Below w.heap.size w (w1.alloc o) := h1.alloc h1.size o
/-- The four looks of check, asx truth values. -/
def wB (m : GMod) : Bool := decide (m.width = 32 ∨ m.width = 39)
def rangeB (m : GMod) : Bool := decide (m.kind < 1 ∨ 3 < m.kind ∨ (m.kind = 3 ∧ m.width ≠ 0) ∨ (m.kind ≠ 3 ∧ m.width ≠ 32 ∧ m.width ≠ 39))
def alignB (m : GMod) : Bool := decide (m.kind = 1 ∧ (m.data.length = 0 ∨ m.data.length % 8 ≠ 0))
def entryB (m : GMod) : Bool := decide ((m.kind = 1 ∧ (m.entry < 0 ∨ (m.data.length : Int) / 8 ≤ m.entry)) ∨ (m.kind ≠ 1 ∧ m.entry ≠ 0))
theorem chkM_eq (bs : List GMod) (m : GMod) : chkM bs m = if nameB m.name = false then 63 else if rangeB m = true then 6 else if alignB m = true then 59 else if entryB m = true then 6 else if bs.any (fun b => sameKey b m) then 56 else 0 := by
  unfold chkM rangeB alignB entryB
  simp only [decide_eq_true_eq]
theorem any_snoc {bs : List GMod} {p : GMod → Bool} {k : Nat} (h : k < bs.length) (ha : (bs.take k).any p = false) (hp : p bs[k] = false) : (bs.take (k + 1)).any p = false := by
  rw [List.take_succ_eq_append_getElem h, List.any_append, ha]
  simp [hp]
theorem any_found {bs : List GMod} {p : GMod → Bool} {k : Nat} (h : k < bs.length) (hp : p bs[k] = true) : bs.any p = true := List.any_eq_true.2 ⟨_, List.getElem_mem h, hp⟩
end Go.Proofs.YtcmohijjpnebpaaGreatDoor


namespace Go.Proofs.YtcmohijjpnebpaaGreatDoor

open Go.RowKit

/-- l written over L from o on. -/
def patch (L : List UInt8) (o : Nat) (l : List UInt8) : List UInt8 := L.take o ++ l ++ L.drop (o + l.length)
theorem length_patch {L l : List UInt8} {o : Nat} (h : o + l.length ≤ L.length) : (patch L o l).length = L.length := by
  simp only [patch, List.length_append, List.length_take, List.length_drop]; omega
theorem patch_nil (L : List UInt8) (o : Nat) : patch L o [] = L := by simp [patch]
theorem patch_mid {a z c l : List UInt8} {o : Nat} (ho : a.length = o) (h : z.length = l.length) : patch (a ++ (z ++ c)) o l = a ++ (l ++ c) := by
  subst ho
  unfold patch
  rw [List.take_left, ← h, ← List.drop_drop, List.drop_left, List.drop_left, List.append_assoc]
theorem vals_patch (L : List UInt8) (o : Nat) (l : List UInt8) : vals (patch L o l) = (vals L).take o ++ vals l ++ (vals L).drop (o + (vals l).length) := by
  simp [patch, vals, List.map_append, List.map_take, List.map_drop]
/-- Block g is just the bytes L. -/
def Buf (w : World) (g : Nat) (L : List UInt8) : Prop := RowT w g 5 (vals L)
/-- The world in which L has become L'. -/
def bufW (w : World) (g : Nat) (L : List UInt8) : World := w.setRow g (vals L).toArray
theorem Buf.set {w : World} {g : Nat} {L : List UInt8} (h : Buf w g L) (L' : List UInt8) : Buf (bufW w g L') g L' := setRow_heap w g _ _ _ _ h
theorem bufW_gb (w : World) (g : Nat) (L : List UInt8) : w.grownBy (bufW w g L) (some g) := ⟨rfl, rfl, rfl, by simp [bufW], fun k _ hk => setRow_other w g k _ (fun e => hk (by rw [e]))⟩
theorem bufW_size (w : World) (g : Nat) (L : List UInt8) : (bufW w g L).heap.size = w.heap.size := by simp [bufW]
theorem Buf.self {w : World} {g : Nat} {L : List UInt8} (h : Buf w g L) : bufW w g L = w := setRow_self w g _ _ _ h
theorem Buf.lt {w : World} {g : Nat} {L : List UInt8} (h : Buf w g L) : g < w.heap.size := RowT.lt h
theorem Buf.below {w w' : World} {g : Nat} {L : List UInt8} (h : Buf w g L) (hb : Below w.heap.size w w') : Buf w' g L := RowT.below h hb h.lt
theorem Buf.drew {w : World} {g : Nat} {L : List UInt8} (h : Buf w g L) : Buf w.drew g L := h
theorem RowT.gb {w w' : World} {g q : Nat} {t : TypeId} {cs : List Value} (h : RowT w q t cs) (hg : w.grownBy w' (some g)) (hne : q ≠ g) : RowT w' q t cs := (hg.block q h.lt (by intro e; cases e; exact hne rfl)).trans h
/-- The buffer, read. -/
theorem Buf.byt {w : World} {g : Nat} {L : List UInt8} (h : Buf w g L) (o n : Nat) (hn : o + n ≤ L.length) : Byt w (g + 1) (some ⟨g, o, none⟩) n ((L.drop o).take n) := by
  refine ⟨by rw [List.length_take, List.length_drop]; omega, fun h0 => ⟨g, o, rfl, by omega, fun j hj => ?_⟩⟩
  rw [RowT.cell h, byV, bt_take _ _ _ hj, bt_drop]
  have e : o + j < L.length := by omega
  simp [vals, bt, List.getElem?_eq_getElem e]
/-- copy of a slice of bytes into the buffer. -/
theorem Buf.copy {w : World} {g : Nat} {L : List UInt8} (h : Buf w g L) {o dLen : Nat} (dCap : Nat) {D A : Option Addr} {B m : Nat} (c : Nat) {l : List UInt8} (hs : Byt w B A m l) (hD : 0 < min m dLen → D = some ⟨g, o, none⟩) (hfit : o + min m dLen ≤ L.length) (ty : TypeId) :
    (Builtin.copy_ #[23, 23] ty #[.slice D dLen dCap, .slice A m c]).run Tryz.prog w = .ok (goInt ((min m dLen : Nat) : Int)) (bufW w g (patch L o (l.take (min m dLen)))) := by
  by_cases h0 : min m dLen = 0
  · rw [run_copy_none w _ _ ty _ D A dLen dCap m c Tryz.underlying23 byte_size h0, h0, List.take_zero, patch_nil, h.self]
    rfl
  · have hD' := hD (by omega)
    subst hD'
    obtain ⟨b, off, rfl, hb, hc⟩ := hs.2 (by omega)
    have hl : (vals (l.take (min m dLen))).length = min m dLen := by rw [length_vals, List.length_take, hs.1]; omega
    have hr := run_copy_row Tryz.prog w 23 23 ty _ g o dLen dCap ⟨b, off, none⟩ m c (vals L).toArray 5 (vals (l.take (min m dLen))) Tryz.underlying23 byte_size h hl
      (fun j v hj => by
        obtain ⟨hj1, rfl⟩ := vals_get _ j v hj
        rw [List.length_take, hs.1] at hj1
        have e : (⟨b, off, none⟩ : Addr).add j = ⟨b, off + j, none⟩ := by unfold Addr.add; split <;> simp_all
        rw [e, hc j (by omega)]
        unfold byV
        rw [bt_take _ _ _ (by omega)])
      (by rw [hl]; simp [length_vals]; omega) (vals_one _)
    rw [hr, hl]
    unfold bufW
    rw [vals_patch, hl]
/-- copy of a string into the buffer. -/
theorem Buf.copyS {w : World} {g : Nat} {L : List UInt8} (h : Buf w g L) {o dLen : Nat} (dCap : Nat) (l : List UInt8) (hle : l.length ≤ dLen) (hfit : o + l.length ≤ L.length) (ty sT : TypeId) :
    (Builtin.copy_ #[23, sT] ty #[.slice (some ⟨g, o, none⟩) dLen dCap, .string ⟨l.toArray⟩]).run Tryz.prog w = .ok (goInt l.length) (bufW w g (patch L o l)) := by
  have hsz : (⟨l.toArray⟩ : ByteArray).size = l.length := rfl
  have hmin : Nat.min l.length dLen = l.length := Nat.min_eq_left hle
  have hst := run_storeCells_at Tryz.prog g o 5 (vals l) 0 (vals L).toArray w h (by rw [length_vals]; simp [length_vals]; omega) (vals_one _)
  simp only [Nat.add_zero, length_vals] at hst
  simp [Builtin.copy_, run_underlying byte_elem, Builtin.lenOf, Builtin.firstCells, run_byteSize, hsz, hmin]
  have e : (List.map (fun x : UInt8 => Value.int IntKind.u8 (x.toNat : Int)) l) = vals l := rfl
  rw [List.take_of_length_le (by simp), e, hst]
  unfold bufW
  rw [vals_patch, length_vals]
  rfl
/-- A copy whose run is known, asx a step of the walk. -/
theorem wpList_copy_run {ops : Array Oper} {rest : List Oper} {o : Oper} {a : Act} {Q : Exit → Act → World → Prop} {v y v' : Value} {W w' : World} {dT sT : TypeId}
    (hrun : (Builtin.copy_ #[dT, sT] o.type #[v, y]).run Tryz.prog W = .ok v' w') (hgd : o.guard = none) {s x : Operand}
    (ho : o.op = .call { callee := .builtin .copy, args := #[s, x], argTypes := #[dT, sT] }) (hs : a.eval s = v) (hx : a.eval x = y)
    (h : wpList Tryz.prog ops Q rest (a.put o.dst v') w') : wpList Tryz.prog ops Q (o :: rest) a W := by
  refine wpList_plain hgd fun K hK => ?_
  unfold Oper.wp execOp
  simp only [ho, resolve, invoke, builtin, Sem.run_bind, Sem.run_pure, Result.andThen_ok, List.map_toArray, List.map_cons, List.map_nil, hs, hx, hrun]
  exact hK _ _ h
/-- .. and of a region that leaves its order open. -/
theorem step_copy_run {ops : Array Oper} {o : Oper} {a : Act} {W : World} {K : Act → World → Prop} {Q : Exit → Act → World → Prop} {E : Prop} {v y v' : Value} {w' : World} {dT sT : TypeId}
    (hrun : (Builtin.copy_ #[dT, sT] o.type #[v, y]).run Tryz.prog W = .ok v' w') (hg : o.guard = none) {s x : Operand}
    (ho : o.op = .call { callee := .builtin .copy, args := #[s, x], argTypes := #[dT, sT] }) (hs : a.eval s = v) (hx : a.eval x = y) (hK : K (a.put o.dst v') w') :
    if Region.wanted o (yielded ops a.tmps) = true then Oper.wp Tryz.prog o a W K Q else E := by
  have hw : Region.wanted o (yielded ops a.tmps) = true := by simp [Region.wanted, hg]
  rw [if_pos hw]
  unfold Oper.wp
  simp [execOp, ho, resolve, invoke, builtin, hs, hx, hrun, Result.andThen]
  exact hK
end Go.Proofs.YtcmohijjpnebpaaGreatDoor


namespace Go.Proofs.YtcmohijjpnebpaaGreatDoor

open Go.RowKit

/-- A token that a text has: a word, number, string or mark. -/
structure TokW (t : GTok) : Prop where
  kind : t.kind = 1 ∨ t.kind = 2 ∨ t.kind = 3 ∨ t.kind = 4
  low : 0 ≤ t.value
  high : t.value ≤ 18446744073709551615
  text : t.text.length ≤ 65536
/-- Tokens, and one of kind 0 behind the last. -/
def TEnds : List GTok → Prop
  | [] => False
  | [t] => t.kind = 0 ∧ t.text = []
  | t :: u :: ts => TokW t ∧ TEnds (u :: ts)
theorem TEnds.zero {t : GTok} {ts : List GTok} (h : TEnds (t :: ts)) (hk : t.kind = 0) : ts = [] := by
  cases ts with
  | nil => rfl
  | cons u r => rcases h.1.kind with e | e | e | e <;> omega
theorem TEnds.more {t : GTok} {ts : List GTok} (h : TEnds (t :: ts)) (hk : t.kind ≠ 0) : TokW t ∧ ∃ u r, ts = u :: r ∧ TEnds (u :: r) := by
  cases ts with
  | nil => exact absurd h.1 hk
  | cons u r => exact ⟨h.1, u, r, rfl, h.2⟩
theorem TEnds.kinds {t : GTok} {ts : List GTok} (h : TEnds (t :: ts)) : t.kind = 0 ∨ t.kind = 1 ∨ t.kind = 2 ∨ t.kind = 3 ∨ t.kind = 4 := by
  cases ts with
  | nil => exact .inl h.1
  | cons u r => exact .inr h.1.kind
theorem TEnds.text {t : GTok} {ts : List GTok} (h : TEnds (t :: ts)) : t.text.length ≤ 65536 := by
  cases ts with
  | nil => rw [h.2]; simp
  | cons u r => exact h.1.text
/-- An operand whose meaning the whole text tells, and its instruction's index. -/
structure GRef where
  tok : GTok
  ix : Int
def GRef.cells (r : GRef) : List Value := [.int .i64 r.tok.kind, .string ⟨r.tok.text.toArray⟩, .int .u64 r.tok.value, .int .i64 r.tok.line, .int .i64 r.tok.col, .int .i64 r.ix]
theorem GRef.len (x : GRef) : x.cells.length = 6 := rfl
theorem GRef.one (x : GRef) : ∀ u ∈ x.cells, u.oneCell' = true := by intro u hu; simp [GRef.cells] at hu; rcases hu with rfl | rfl | rfl | rfl | rfl | rfl <;> rfl
/-- The assembler's state. -/
structure ASt where
  ts : List GTok
  prog : List GIns
  labs : List (List UInt8 × Nat)
  refs : List GRef
/-- How a method ends: with a value and a state, or with a failure at a position. -/
inductive ARes (α : Type) where
  | ok (v : α) (s : ASt)
  | thr (l c e : Int)
def ARes.bind {α β : Type} : ARes α → (α → ASt → ARes β) → ARes β
  | .ok v s, f => f v s
  | .thr l c e, _ => .thr l c e
def ARes.map {α β : Type} (r : ARes α) (f : α → β) : ARes β := r.bind fun v s => .ok (f v) s
def noTok : GTok := ⟨0, [], 0, 0, 0⟩
def ASt.hd (s : ASt) : GTok := s.ts.headD noTok
def thrAt {α : Type} (t : GTok) (e : Int) : ARes α := .thr t.line t.col e
def ASt.next (s : ASt) : ASt := { s with ts := s.ts.tail }
def isMk (t : GTok) (m : List UInt8) : Bool := decide (t.kind = 4) && decide (t.text = m)
def aTake (k : Int) (s : ASt) : ARes GTok := if s.hd.kind = k then .ok s.hd s.next else thrAt s.hd 50
def aSkip (m : List UInt8) (s : ASt) : ARes Bool := if isMk s.hd m then .ok true s.next else .ok false s
def aMark (m : List UInt8) (s : ASt) : ARes Unit := if isMk s.hd m then .ok () s.next else thrAt s.hd 50
def aNumber (g : Int) (s : ASt) : ARes Int := (aTake 2 s).bind fun t s1 => if g < t.value then thrAt t 6 else .ok t.value s1
def aKeep (t : GTok) (s : ASt) : ASt := { s with refs := s.refs ++ [⟨t, s.prog.length⟩] }
def aUse (s : ASt) : ARes Unit := (aTake 1 s).bind fun t s1 => if (regNo t.text).isSome then thrAt t 50 else .ok () (aKeep t s1)
def aTarget (s : ASt) : ARes Int := if s.hd.kind = 1 then (aUse s).bind fun _ s1 => .ok 0 s1 else aNumber 2147483647 (aKeep s.hd s)
def aImm (s : ASt) : ARes Int :=
  if s.hd.kind = 1 then (aUse s).bind fun _ s1 => .ok 0 s1
  else if isMk s.hd [45] then (aNumber 2147483648 s.next).bind fun v s1 => .ok (-v) s1 else aNumber 2147483647 s
def aReg (s : ASt) : ARes Int := (aTake 1 s).bind fun t s1 => match regNo t.text with
  | some n => .ok (n : Int) s1
  | none => thrAt t 50
def aComma (i : Nat) (s : ASt) : ARes Unit := if 0 < i then aMark [44] s else .ok () s
/-- m registers, of which i have been read. -/
def aRegs (i : Nat) : Nat → ASt → ARes (List Int)
  | 0, s => .ok [] s
  | m + 1, s => (aComma i s).bind fun _ s1 => (aReg s1).bind fun r s2 => (aRegs (i + 1) m s2).bind fun l s3 => .ok (r :: l) s3
def aLast (f : Nat × Nat) (s : ASt) : ARes Int :=
  if f.2 = 1 then (aComma f.1 s).bind fun _ s1 => aImm s1 else if f.2 = 2 then (aComma f.1 s).bind fun _ s1 => aTarget s1 else .ok 0 s
def aOps (f : Nat × Nat) (s : ASt) : ARes GIns := (aRegs 0 f.1 s).bind fun l s1 => (aLast f s1).bind fun v s2 => .ok ⟨0, l.getD 0 0, l.getD 1 0, l.getD 2 0, v⟩ s2
def aInstr (s : ASt) : ARes Unit := (aTake 1 s).bind fun t s1 => match opNo t.text with
  | none => thrAt t 50
  | some op => if s1.prog.length = 4096 then thrAt t 15 else
    (aOps (fmtN op).2 s1).bind fun x s2 => (aMark [59] s2).bind fun _ s3 => .ok () { s3 with prog := s3.prog ++ [{ x with op := op }] }
def labOf : List (List UInt8 × Nat) → List UInt8 → Option Nat
  | [], _ => none
  | (l, n) :: r, s => if s = l then some n else labOf r s
def aLabel (s : ASt) : ARes Unit := (aTake 1 s).bind fun t s1 =>
  if (regNo t.text).isSome then thrAt t 50 else if (labOf s1.labs t.text).isSome then thrAt t 72 else aMark [58] { s1 with labs := (t.text, s1.prog.length) :: s1.labs }
def atLab (s : ASt) : Bool := decide (s.hd.kind = 1) && isMk s.next.hd [58]
/-- Labels, asx many asx stand there. -/
def aLabels : Nat → ASt → ARes Unit
  | 0, s => .ok () s
  | n + 1, s => if atLab s then (aLabel s).bind fun _ s1 => aLabels n s1 else .ok () s
def aStats : Nat → ASt → ARes Unit
  | 0, s => .ok () s
  | n + 1, s => if s.hd.kind = 0 then (if s.prog.length = 0 then .thr 0 0 15 else .ok () s) else
    (aLabels s.ts.length s).bind fun _ s1 => (aInstr s1).bind fun _ s2 => aStats n s2
/-- The operands that are labels or targets, in order. -/
def aResolve : List GRef → ASt → ARes Unit
  | [], s => .ok () s
  | r :: rest, s => if r.tok.kind = 1 then
      (match labOf s.labs r.tok.text with
      | none => thrAt r.tok 72
      | some n => aResolve rest { s with prog := s.prog.modify r.ix.toNat fun x => { x with imm := (n : Int) } })
    else if (s.prog.length : Int) ≤ r.tok.value then thrAt r.tok 71 else aResolve rest s
def aAll (ts : List GTok) : ARes Unit := (aStats ts.length ⟨ts, [], [], []⟩).bind fun _ s => aResolve s.refs s
end Go.Proofs.YtcmohijjpnebpaaGreatDoor
