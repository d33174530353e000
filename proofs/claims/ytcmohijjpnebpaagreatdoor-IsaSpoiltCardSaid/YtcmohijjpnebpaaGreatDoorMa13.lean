/-
  Modules as plain data and as they lie in memory; what a boot image is. Plain mathematics, and words for memory.
  Conditions: none beyond what each theorem says.
  The reference's small functions of layer 8: up, put, check.
  Conditions: as each theorem says.
  A buffer of bytes that a call has made, and what a copy into it leaves.
  Conditions: as each theorem says.
-/
import Derived.Test.YtcmohijjpnebpaaGreatDoorMa11
import Derived.Test.YtcmohijjpnebpaaGreatDoorMa10
import Derived.Test.YtcmohijjpnebpaaGreatDoorMa12
import Derived.Test.YtcmohijjpnebpaaGreatDoorMa3
import Derived.Deep.DeepFit
import Derived.Deep.DeepCutAuto
import Derived.RegionTactic
import Derived.Laws.CopyRow
import Derived.Laws.IdiomCopy
namespace Go.Proofs.YtcmohijjpnebpaaGreatDoor

open Go.RowKit

/-- A module. -/
structure GMod where
  name : List UInt8
  kind : Int
  width : Int
  entry : Int
  data : List UInt8
/-- A module asx it lies in a slice. -/
structure SMod where
  name : List UInt8
  kind : Int
  width : Int
  entry : Int
  A : Option Addr
  n : Nat
  c : Nat
instance : Inhabited SMod := ⟨⟨[], 0, 0, 0, none, 0, 0⟩⟩
instance : Inhabited GMod := ⟨⟨[], 0, 0, 0, []⟩⟩
def SMod.cells (s : SMod) : List Value := [.string ⟨s.name.toArray⟩, .int .i64 s.kind, .int .i64 s.width, .int .i64 s.entry, .slice s.A s.n s.c]
def SMod.val (s : SMod) : Value := .agg #[.string ⟨s.name.toArray⟩, .int .i64 s.kind, .int .i64 s.width, .int .i64 s.entry, .slice s.A s.n s.c]
theorem SMod.len (s : SMod) : s.cells.length = 5 := rfl
theorem SMod.one (s : SMod) : ∀ u ∈ s.cells, u.oneCell' = true := by
  intro u hu
  simp [SMod.cells] at hu
  rcases hu with rfl | rfl | rfl | rfl | rfl <;> rfl
/-- The module s, asx it lies in memory, is m. -/
structure MHold (w : World) (B : Nat) (s : SMod) (m : GMod) : Prop where
  name : s.name = m.name
  kind : s.kind = m.kind
  width : s.width = m.width
  entry : s.entry = m.entry
  row : Byt w B s.A s.n m.data
  few : m.data.length ≤ 4294967296
section

variable {w w' : World} {B B' : Nat} {s : SMod} {m : GMod}

theorem MHold.n (h : MHold w B s m) : s.n = m.data.length := h.row.1.symm
theorem MHold.below (h : MHold w B s m) (hB : B ≤ B') (hb : Below B' w w') : MHold w' B s m := ⟨h.name, h.kind, h.width, h.entry, h.row.below (hb.mono hB), h.few⟩
theorem MHold.wide (h : MHold w B s m) (hB : B ≤ B') : MHold w B' s m := ⟨h.name, h.kind, h.width, h.entry, h.row.wide hB, h.few⟩
theorem MHold.next (h : MHold w w.heap.size s m) (hb : Below w.heap.size w w') : MHold w' w'.heap.size s m := (h.below (Nat.le_refl _) hb).wide hb.size
end

/-- The slice with address A holds the modules ms, asx ss. -/
structure MRow (w : World) (B : Nat) (A : Option Addr) (ss : List SMod) (ms : List GMod) : Prop where
  row : GRow SMod.cells 5 w B A ss
  len : ss.length = ms.length
  each : ∀ i (h1 : i < ss.length) (h2 : i < ms.length), MHold w B ss[i] ms[i]
theorem MRow.below {w w' : World} {B B' : Nat} {A : Option Addr} {ss : List SMod} {ms : List GMod} (h : MRow w B A ss ms) (hB : B ≤ B') (hb : Below B' w w') : MRow w' B A ss ms := ⟨h.row.below hB hb, h.len, fun i h1 h2 => (h.each i h1 h2).below hB hb⟩
theorem MRow.wide {w : World} {B B' : Nat} {A : Option Addr} {ss : List SMod} {ms : List GMod} (h : MRow w B A ss ms) (hB : B ≤ B') : MRow w B' A ss ms := ⟨h.row.wide hB, h.len, fun i h1 h2 => (h.each i h1 h2).wide hB⟩
theorem MRow.next {w w' : World} {A : Option Addr} {ss : List SMod} {ms : List GMod} (h : MRow w w.heap.size A ss ms) (hb : Below w.heap.size w w') : MRow w' w'.heap.size A ss ms := (h.below (Nat.le_refl _) hb).wide hb.size
theorem GRow.mod5 {w : World} {B : Nat} {A : Option Addr} {ss : List SMod} (h : GRow SMod.cells 5 w B A ss) {i : Nat} (hi : i < ss.length) : ∃ b off, A = some ⟨b, off, none⟩ ∧ b < B ∧
    w.cell? ⟨b, off + i * 5, none⟩ = some (.string ⟨ss[i].name.toArray⟩) ∧ w.cell? ⟨b, off + i * 5 + 1, none⟩ = some (.int .i64 ss[i].kind) ∧ w.cell? ⟨b, off + i * 5 + 2, none⟩ = some (.int .i64 ss[i].width) ∧
    w.cell? ⟨b, off + i * 5 + 3, none⟩ = some (.int .i64 ss[i].entry) ∧ w.cell? ⟨b, off + i * 5 + 4, none⟩ = some (.slice ss[i].A ss[i].n ss[i].c) := by
  obtain ⟨b, off, e, hb, hc⟩ := h (by omega)
  exact ⟨b, off, e, hb, hc i hi 0 _ rfl, hc i hi 1 _ rfl, hc i hi 2 _ rfl, hc i hi 3 _ rfl, hc i hi 4 _ rfl⟩

/-! ### What an image is -/
def upN (n : Nat) : Nat := (n + 63) / 64 * 64
def sameKey (a b : GMod) : Bool := decide (a.name = b.name) && decide (a.width = b.width)
/-- The error of a module behind others. -/
def chkM (before : List GMod) (m : GMod) : Int :=
  if nameB m.name = false then 63
  else if m.kind < 1 ∨ 3 < m.kind ∨ (m.kind = 3 ∧ m.width ≠ 0) ∨ (m.kind ≠ 3 ∧ m.width ≠ 32 ∧ m.width ≠ 39) then 6
  else if m.kind = 1 ∧ (m.data.length = 0 ∨ m.data.length % 8 ≠ 0) then 59
  else if (m.kind = 1 ∧ (m.entry < 0 ∨ (m.data.length : Int) / 8 ≤ m.entry)) ∨ (m.kind ≠ 1 ∧ m.entry ≠ 0) then 6
  else if before.any (fun b => sameKey b m) then 56 else 0
def firstE : List GMod → List GMod → Int
  | _, [] => 0
  | d, m :: r => if chkM d m = 0 then firstE (d ++ [m]) r else chkM d m
/-- Where the data behind start ends. -/
def endM (start : Nat) (ms : List GMod) : Nat := ms.foldl (fun s m => upN (s + m.data.length)) start
def entryL (m : GMod) (off : Nat) : List UInt8 :=
  m.name ++ zerosL (24 - m.name.length) ++ leB m.kind.toNat 1 ++ leB m.width.toNat 1 ++ leB 0 2 ++ leB m.entry.toNat 4 ++ leB off 4 ++ leB m.data.length 4 ++ leB (crcOf m.data) 4 ++ leB 0 4
def tableL : Nat → List GMod → List UInt8
  | _, [] => []
  | at_, m :: r => entryL m at_ ++ tableL (upN (at_ + m.data.length)) r
/-- The data of the modules, where the first begins at 'start', 'l' the bytes from offset 16 on so far. -/
def dataL : Nat → List GMod → List UInt8 → List UInt8
  | _, [], l => l
  | at_, m :: r, l => dataL (upN (at_ + m.data.length)) r (l ++ zerosL (at_ - 16 - l.length) ++ m.data)
def startM (ms : List GMod) : Nat := upN (16 + 48 * ms.length)
def bodyL (ms : List GMod) : List UInt8 :=
  let d := dataL (startM ms) ms (tableL (startM ms) ms)
  d ++ zerosL (endM (startM ms) ms - 16 - d.length)
def imageL (ms : List GMod) : List UInt8 :=
  [77, 75, 66, 73] ++ leB 1 2 ++ leB ms.length 2 ++ leB (endM (startM ms) ms) 4 ++ leB (crcOf (bodyL ms)) 4 ++ bodyL ms
/-- The error of a list of modules. -/
def errM (ms : List GMod) : Int := if 64 < ms.length then 15 else if firstE [] ms = 0 then (if 16777216 < endM (startM ms) ms then 15 else 0) else firstE [] ms
def imgM (ms : List GMod) : List UInt8 := if errM ms = 0 then imageL ms else []
end Go.Proofs.YtcmohijjpnebpaaGreatDoor


namespace Go.Proofs.YtcmohijjpnebpaaGreatDoor

open Go.RowKit

theorem bel_next8 {w w1 w2 : World} (h1 : Below w.heap.size w w1) (h2 : Below w1.heap.size w1 w2) : Below w.heap.size w w2 := h1.trans (h2.mono h1.size)
theorem bel_lit8 {w w1 : World} (h1 : Below w.heap.size w w1) (o : Obj) : Below w.heap.size w (w1.alloc o) := h1.alloc h1.size o
/-- The four looks of check, asx truth values. -/
def wB (m : GMod) : Bool := decide (m.width = 32 ∨ m.width = 39)
def rangeB (m : GMod) : Bool := decide (m.kind < 1 ∨ 3 < m.kind ∨ (m.kind = 3 ∧ m.width ≠ 0) ∨ (m.kind ≠ 3 ∧ m.width ≠ 32 ∧ m.width ≠ 39))
def alignB (m : GMod) : Bool := decide (m.kind = 1 ∧ (m.data.length = 0 ∨ m.data.length % 8 ≠ 0))
def entryB (m : GMod) : Bool := decide ((m.kind = 1 ∧ (m.entry < 0 ∨ (m.data.length : Int) / 8 ≤ m.entry)) ∨ (m.kind ≠ 1 ∧ m.entry ≠ 0))
theorem chkM_eq (bs : List GMod) (m : GMod) : chkM bs m = if nameB m.name = false then 63 else if rangeB m = true then 6 else if alignB m = true then 59 else if entryB m = true then 6 else if bs.any (fun b => sameKey b m) then 56 else 0 := by
  unfold chkM rangeB alignB entryB
  simp only [decide_eq_true_eq]
theorem any_snoc {bs : List GMod} {p : GMod → Bool} {k : Nat} (h : k < bs.length) (ha : (bs.take k).any p = false) (hp : p bs[k] = false) : (bs.take (k + 1)).any p = false := by
  rw [List.take_succ_eq_append_getElem h, List.any_append, ha]
  simp [hp]
theorem any_found {bs : List GMod} {p : GMod → Bool} {k : Nat} (h : k < bs.length) (hp : p bs[k] = true) : bs.any p = true := List.any_eq_true.2 ⟨_, List.getElem_mem h, hp⟩
end Go.Proofs.YtcmohijjpnebpaaGreatDoor


namespace Go.Proofs.YtcmohijjpnebpaaGreatDoor

open Go.RowKit

/-- l written over L from o on. -/
def patch (L : List UInt8) (o : Nat) (l : List UInt8) : List UInt8 := L.take o ++ l ++ L.drop (o + l.length)
theorem length_patch {L l : List UInt8} {o : Nat} (h : o + l.length ≤ L.length) : (patch L o l).length = L.length := by
  simp only [patch, List.length_append, List.length_take, List.length_drop]; omega
theorem patch_nil (L : List UInt8) (o : Nat) : patch L o [] = L := by simp [patch]
theorem patch_mid {a z c l : List UInt8} {o : Nat} (ho : a.length = o) (h : z.length = l.length) : patch (a ++ (z ++ c)) o l = a ++ (l ++ c) := by
  subst ho
  unfold patch
  rw [List.take_left, ← h, ← List.drop_drop, List.drop_left, List.drop_left, List.append_assoc]
theorem vals_patch (L : List UInt8) (o : Nat) (l : List UInt8) : vals (patch L o l) = (vals L).take o ++ vals l ++ (vals L).drop (o + (vals l).length) := by
  simp [patch, vals, List.map_append, List.map_take, List.map_drop]
/-- Block g is just the bytes L. -/
def Buf (w : World) (g : Nat) (L : List UInt8) : Prop := RowT w g 5 (vals L)
/-- The world in which L has become L'. -/
def bufW (w : World) (g : Nat) (L : List UInt8) : World := w.setRow g (vals L).toArray
theorem Buf.set {w : World} {g : Nat} {L : List UInt8} (h : Buf w g L) (L' : List UInt8) : Buf (bufW w g L') g L' := setRow_heap w g _ _ _ _ h
theorem bufW_gb (w : World) (g : Nat) (L : List UInt8) : w.grownBy (bufW w g L) (some g) := ⟨rfl, rfl, rfl, by simp [bufW], fun k _ hk => setRow_other w g k _ (fun e => hk (by rw [e]))⟩
theorem bufW_size (w : World) (g : Nat) (L : List UInt8) : (bufW w g L).heap.size = w.heap.size := by simp [bufW]
theorem Buf.self {w : World} {g : Nat} {L : List UInt8} (h : Buf w g L) : bufW w g L = w := setRow_self w g _ _ _ h
theorem Buf.lt {w : World} {g : Nat} {L : List UInt8} (h : Buf w g L) : g < w.heap.size := RowT.lt h
theorem Buf.below {w w' : World} {g : Nat} {L : List UInt8} (h : Buf w g L) (hb : Below w.heap.size w w') : Buf w' g L := RowT.below h hb h.lt
theorem Buf.drew {w : World} {g : Nat} {L : List UInt8} (h : Buf w g L) : Buf w.drew g L := h
theorem RowT.gb {w w' : World} {g q : Nat} {t : TypeId} {cs : List Value} (h : RowT w q t cs) (hg : w.grownBy w' (some g)) (hne : q ≠ g) : RowT w' q t cs := (hg.block q h.lt (by intro e; cases e; exact hne rfl)).trans h
/-- The buffer, read. -/
theorem Buf.byt {w : World} {g : Nat} {L : List UInt8} (h : Buf w g L) (o n : Nat) (hn : o + n ≤ L.length) : Byt w (g + 1) (some ⟨g, o, none⟩) n ((L.drop o).take n) := by
  refine ⟨by rw [List.length_take, List.length_drop]; omega, fun h0 => ⟨g, o, rfl, by omega, fun j hj => ?_⟩⟩
  rw [RowT.cell h, byV, bt_take _ _ _ hj, bt_drop]
  have e : o + j < L.length := by omega
  simp [vals, bt, List.getElem?_eq_getElem e]
/-- copy of a slice of bytes into the buffer. -/
theorem Buf.copy {w : World} {g : Nat} {L : List UInt8} (h : Buf w g L) {o dLen : Nat} (dCap : Nat) {D A : Option Addr} {B m : Nat} (c : Nat) {l : List UInt8} (hs : Byt w B A m l) (hD : 0 < min m dLen → D = some ⟨g, o, none⟩) (hfit : o + min m dLen ≤ L.length) (ty : TypeId) :
    (Builtin.copy_ #[23, 23] ty #[.slice D dLen dCap, .slice A m c]).run Tryz.prog w = .ok (goInt ((min m dLen : Nat) : Int)) (bufW w g (patch L o (l.take (min m dLen)))) := by
  by_cases h0 : min m dLen = 0
  · rw [run_copy_none w _ _ ty _ D A dLen dCap m c Tryz.underlying23 byte_size h0, h0, List.take_zero, patch_nil, h.self]
    rfl
  · have hD' := hD (by omega)
    subst hD'
    obtain ⟨b, off, rfl, hb, hc⟩ := hs.2 (by omega)
    have hl : (vals (l.take (min m dLen))).length = min m dLen := by rw [length_vals, List.length_take, hs.1]; omega
    have hr := run_copy_row Tryz.prog w 23 23 ty _ g o dLen dCap ⟨b, off, none⟩ m c (vals L).toArray 5 (vals (l.take (min m dLen))) Tryz.underlying23 byte_size h hl
      (fun j v hj => by
        obtain ⟨hj1, rfl⟩ := vals_get _ j v hj
        rw [List.length_take, hs.1] at hj1
        have e : (⟨b, off, none⟩ : Addr).add j = ⟨b, off + j, none⟩ := by unfold Addr.add; split <;> simp_all
        rw [e, hc j (by omega)]
        unfold byV
        rw [bt_take _ _ _ (by omega)])
      (by rw [hl]; simp [length_vals]; omega) (vals_one _)
    rw [hr, hl]
    unfold bufW
    rw [vals_patch, hl]
/-- copy of a string into the buffer. -/
theorem Buf.copyS {w : World} {g : Nat} {L : List UInt8} (h : Buf w g L) {o dLen : Nat} (dCap : Nat) (l : List UInt8) (hle : l.length ≤ dLen) (hfit : o + l.length ≤ L.length) (ty sT : TypeId) :
    (Builtin.copy_ #[23, sT] ty #[.slice (some ⟨g, o, none⟩) dLen dCap, .string ⟨l.toArray⟩]).run Tryz.prog w = .ok (goInt l.length) (bufW w g (patch L o l)) := by
  have hsz : (⟨l.toArray⟩ : ByteArray).size = l.length := rfl
  have hmin : Nat.min l.length dLen = l.length := Nat.min_eq_left hle
  have hst := run_storeCells_at Tryz.prog g o 5 (vals l) 0 (vals L).toArray w h (by rw [length_vals]; simp [length_vals]; omega) (vals_one _)
  simp only [Nat.add_zero, length_vals] at hst
  simp [Builtin.copy_, run_underlying byte_elem, Builtin.lenOf, Builtin.firstCells, run_byteSize, hsz, hmin]
  have e : (List.map (fun x : UInt8 => Value.int IntKind.u8 (x.toNat : Int)) l) = vals l := rfl
  rw [List.take_of_length_le (by simp), e, hst]
  unfold bufW
  rw [vals_patch, length_vals]
  rfl
/-- A copy whose run is known, asx a step of the walk. -/
theorem wpList_copy_run {ops : Array Oper} {rest : List Oper} {o : Oper} {a : Act} {Q : Exit → Act → World → Prop} {v y v' : Value} {W w' : World} {dT sT : TypeId}
    (hrun : (Builtin.copy_ #[dT, sT] o.type #[v, y]).run Tryz.prog W = .ok v' w') (hgd : o.guard = none) {s x : Operand}
    (ho : o.op = .call { callee := .builtin .copy, args := #[s, x], argTypes := #[dT, sT] }) (hs : a.eval s = v) (hx : a.eval x = y)
    (h : wpList Tryz.prog ops Q rest (a.put o.dst v') w') : wpList Tryz.prog ops Q (o :: rest) a W := by
  refine wpList_plain hgd fun K hK => ?_
  unfold Oper.wp execOp
  simp only [ho, resolve, invoke, builtin, Sem.run_bind, Sem.run_pure, Result.andThen_ok, List.map_toArray, List.map_cons, List.map_nil, hs, hx, hrun]
  exact hK _ _ h
/-- .. and of a region that leaves its order open. -/
theorem step_copy_run {ops : Array Oper} {o : Oper} {a : Act} {W : World} {K : Act → World → Prop} {Q : Exit → Act → World → Prop} {E : Prop} {v y v' : Value} {w' : World} {dT sT : TypeId}
    (hrun : (Builtin.copy_ #[dT, sT] o.type #[v, y]).run Tryz.prog W = .ok v' w') (hg : o.guard = none) {s x : Operand}
    (ho : o.op = .call { callee := .builtin .copy, args := #[s, x], argTypes := #[dT, sT] }) (hs : a.eval s = v) (hx : a.eval x = y) (hK : K (a.put o.dst v') w') :
    if Region.wanted o (yielded ops a.tmps) = true then Oper.wp Tryz.prog o a W K Q else E := by
  have hw : Region.wanted o (yielded ops a.tmps) = true := by simp [Region.wanted, hg]
  rw [if_pos hw]
  unfold Oper.wp
  simp [execOp, ho, resolve, invoke, builtin, hs, hx, hrun, Result.andThen]
  exact hK
end Go.Proofs.YtcmohijjpnebpaaGreatDoor
