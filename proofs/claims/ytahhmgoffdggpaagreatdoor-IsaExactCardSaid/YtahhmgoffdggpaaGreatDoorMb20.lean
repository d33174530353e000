/-
  Names, as RefA has them.
  Conditions: none.
  Modules as plain data and as they lie in memory; what a boot image is. Plain mathematics, and words for memory.
  Conditions: none beyond what each theorem says.
  The reference's small functions of layer 8: up, put, check.
  Conditions: as each theorem says.
-/
import Derived.Test.YtahhmgoffdggpaaGreatDoorMb19
import Derived.Test.YtahhmgoffdggpaaGreatDoorMb17
import Derived.Test.YtahhmgoffdggpaaGreatDoorMb3
import Derived.Deep.DeepFit
import Derived.Deep.DeepCutAuto
import Derived.RegionTactic
namespace Go.Proofs.YtahhmgoffdggpaaGreatDoor

end Go.Proofs.YtahhmgoffdggpaaGreatDoor


namespace Go.Proofs.YtahhmgoffdggpaaGreatDoor

open Go.RowKit

/-- A module. -/
structure GMod where
  name : List UInt8
  kind : Int
  width : Int
  entry : Int
  data : List UInt8
/-- A module asx it lies in a slice. -/
structure SMod where
  name : List UInt8
  kind : Int
  width : Int
  entry : Int
  A : Option Addr
  n : Nat
  c : Nat
instance : Inhabited SMod := ⟨⟨[], 0, 0, 0, none, 0, 0⟩⟩
instance : Inhabited GMod := ⟨⟨[], 0, 0, 0, []⟩⟩
def SMod.cells (s : SMod) : List Value := [.string ⟨s.name.toArray⟩, .int .i64 s.kind, .int .i64 s.width, .int .i64 s.entry, .slice s.A s.n s.c]
def SMod.val (s : SMod) : Value := .agg #[.string ⟨s.name.toArray⟩, .int .i64 s.kind, .int .i64 s.width, .int .i64 s.entry, .slice s.A s.n s.c]
theorem SMod.len (s : SMod) : s.cells.length = 5 := rfl
theorem SMod.one (s : SMod) : ∀ u ∈ s.cells, u.oneCell' = true := by
  intro u hu
  simp [SMod.cells] at hu
  rcases hu with rfl | rfl | rfl | rfl | rfl <;> rfl
/-- The module s, asx it lies in memory, is m. -/
structure MHold (w : World) (B : Nat) (s : SMod) (m : GMod) : Prop where
  name : s.name = m.name
  kind : s.kind = m.kind
  width : s.width = m.width
  entry : s.entry = m.entry
  row : Byt w B s.A s.n m.data
  few : m.data.length ≤ 4294967296
section

variable {w w' : World} {B B' : Nat} {s : SMod} {m : GMod}

theorem MHold.n (h : MHold w B s m) : s.n = m.data.length := h.row.1.symm
theorem MHold.below (h : MHold w B s m) (hB : B ≤ B') (hb : Below B' w w') : MHold w' B s m := ⟨h.name, h.kind, h.width, h.entry, h.row.below (hb.mono hB), h.few⟩
theorem MHold.wide (h : MHold w B s m) (hB : B ≤ B') : MHold w B' s m := ⟨h.name, h.kind, h.width, h.entry, h.row.wide hB, h.few⟩
theorem MHold.next (h : MHold w w.heap.size s m) (hb : Below w.heap.size w w') : MHold w' w'.heap.size s m := (h.below (Nat.le_refl _) hb).wide hb.size
end

/-- The slice with address A holds the modules ms, asx ss. -/
structure MRow (w : World) (B : Nat) (A : Option Addr) (ss : List SMod) (ms : List GMod) : Prop where
  row : GRow SMod.cells 5 w B A ss
  len : ss.length = ms.length
  each : ∀ i (h1 : i < ss.length) (h2 : i < ms.length), MHold w B ss[i] ms[i]
theorem MRow.below {w w' : World} {B B' : Nat} {A : Option Addr} {ss : List SMod} {ms : List GMod} (h : MRow w B A ss ms) (hB : B ≤ B') (hb : Below B' w w') : MRow w' B A ss ms := ⟨h.row.below hB hb, h.len, fun i h1 h2 => (h.each i h1 h2).below hB hb⟩
theorem MRow.wide {w : World} {B B' : Nat} {A : Option Addr} {ss : List SMod} {ms : List GMod} (h : MRow w B A ss ms) (hB : B ≤ B') : MRow w B' A ss ms := ⟨h.row.wide hB, h.len, fun i h1 h2 => (h.each i h1 h2).wide hB⟩
theorem MRow.next {w w' : World} {A : Option Addr} {ss : List SMod} {ms : List GMod} (h : MRow w w.heap.size A ss ms) (hb : Below w.heap.size w w') : MRow w' w'.heap.size A ss ms := (h.below (Nat.le_refl _) hb).wide hb.size
theorem GRow.mod5 {w : World} {B : Nat} {A : Option Addr} {ss : List SMod} (h : GRow SMod.cells 5 w B A ss) {i : Nat} (hi : i < ss.length) : ∃ b off, A = some ⟨b, off, none⟩ ∧ b < B ∧
    w.cell? ⟨b, off + i * 5, none⟩ = some (.string ⟨ss[i].name.toArray⟩) ∧ w.cell? ⟨b, off + i * 5 + 1, none⟩ = some (.int .i64 ss[i].kind) ∧ w.cell? ⟨b, off + i * 5 + 2, none⟩ = some (.int .i64 ss[i].width) ∧
    w.cell? ⟨b, off + i * 5 + 3, none⟩ = some (.int .i64 ss[i].entry) ∧ w.cell? ⟨b, off + i * 5 + 4, none⟩ = some (.slice ss[i].A ss[i].n ss[i].c) := by
  obtain ⟨b, off, e, hb, hc⟩ := h (by omega)
  exact ⟨b, off, e, hb, hc i hi 0 _ rfl, hc i hi 1 _ rfl, hc i hi 2 _ rfl, hc i hi 3 _ rfl, hc i hi 4 _ rfl⟩

/-! ### What an image is -/
def upN (n : Nat) : Nat := (n + 63) / 64 * 64
def sameKey (a b : GMod) : Bool := decide (a.name = b.name) && decide (a.width = b.width)
/-- The error of a module behind others. -/
def chkM (before : List GMod) (m : GMod) : Int :=
  if nameB m.name = false then 63
  else if m.kind < 1 ∨ 3 < m.kind ∨ (m.kind = 3 ∧ m.width ≠ 0) ∨ (m.kind ≠ 3 ∧ m.width ≠ 32 ∧ m.width ≠ 39) then 6
  else if m.kind = 1 ∧ (m.data.length = 0 ∨ m.data.length % 8 ≠ 0) then 59
  else if (m.kind = 1 ∧ (m.entry < 0 ∨ (m.data.length : Int) / 8 ≤ m.entry)) ∨ (m.kind ≠ 1 ∧ m.entry ≠ 0) then 6
  else if before.any (fun b => sameKey b m) then 56 else 0
def firstE : List GMod → List GMod → Int
  | _, [] => 0
  | d, m :: r => if chkM d m = 0 then firstE (d ++ [m]) r else chkM d m
/-- Where the data behind start ends. -/
def endM (start : Nat) (ms : List GMod) : Nat := ms.foldl (fun s m => upN (s + m.data.length)) start
def entryL (m : GMod) (off : Nat) : List UInt8 :=
  m.name ++ zerosL (24 - m.name.length) ++ leB m.kind.toNat 1 ++ leB m.width.toNat 1 ++ leB 0 2 ++ leB m.entry.toNat 4 ++ leB off 4 ++ leB m.data.length 4 ++ leB (crcOf m.data) 4 ++ leB 0 4
def tableL : Nat → List GMod → List UInt8
  | _, [] => []
  | at_, m :: r => entryL m at_ ++ tableL (upN (at_ + m.data.length)) r
/-- The data of the modules, where the first begins at 'start', 'l' the bytes from offset 16 on so far. -/
def dataL : Nat → List GMod → List UInt8 → List UInt8
  | _, [], l => l
  | at_, m :: r, l => dataL (upN (at_ + m.data.length)) r (l ++ zerosL (at_ - 16 - l.length) ++ m.data)
def startM (ms : List GMod) : Nat := upN (16 + 48 * ms.length)
def bodyL (ms : List GMod) : List UInt8 :=
  let d := dataL (startM ms) ms (tableL (startM ms) ms)
  d ++ zerosL (endM (startM ms) ms - 16 - d.length)
def imageL (ms : List GMod) : List UInt8 :=
  [77, 75, 66, 73] ++ leB 1 2 ++ leB ms.length 2 ++ leB (endM (startM ms) ms) 4 ++ leB (crcOf (bodyL ms)) 4 ++ bodyL ms
/-- The error of a list of modules. -/
def errM (ms : List GMod) : Int := if 64 < ms.length then 15 else if firstE [] ms = 0 then (if 16777216 < endM (startM ms) ms then 15 else 0) else firstE [] ms
def imgM (ms : List GMod) : List UInt8 := if errM ms = 0 then imageL ms else []
end Go.Proofs.YtahhmgoffdggpaaGreatDoor


namespace Go.Proofs.YtahhmgoffdggpaaGreatDoor

open Go.RowKit

theorem bel_next8 {w w1 w2 : World} (h1 : Below w.heap.size w w1) (h2 : Below w1.heap.size w1 w2) : Below w.heap.size w w2 := h1.trans (h2.mono h1.size)
theorem bel_lit8 {w w1 : World} (h1 : Below w.heap.size w w1) (o : Obj) : Below w.heap.size w (w1.alloc o) := h1.alloc h1.size o
/-- The four looks of check, asx truth values. -/
def wB (m : GMod) : Bool := decide (m.width = 32 ∨ m.width = 39)
def rangeB (m : GMod) : Bool := decide (m.kind < 1 ∨ 3 < m.kind ∨ (m.kind = 3 ∧ m.width ≠ 0) ∨ (m.kind ≠ 3 ∧ m.width ≠ 32 ∧ m.width ≠ 39))
def alignB (m : GMod) : Bool := decide (m.kind = 1 ∧ (m.data.length = 0 ∨ m.data.length % 8 ≠ 0))
def entryB (m : GMod) : Bool := decide ((m.kind = 1 ∧ (m.entry < 0 ∨ (m.data.length : Int) / 8 ≤ m.entry)) ∨ (m.kind ≠ 1 ∧ m.entry ≠ 0))
theorem chkM_eq (bs : List GMod) (m : GMod) : chkM bs m = if nameB m.name = false then 63 else if rangeB m = true then 6 else if alignB m = true then 59 else if entryB m = true then 6 else if bs.any (fun b => sameKey b m) then 56 else 0 := by
  unfold chkM rangeB alignB entryB
  simp only [decide_eq_true_eq]
theorem any_snoc {bs : List GMod} {p : GMod → Bool} {k : Nat} (h : k < bs.length) (ha : (bs.take k).any p = false) (hp : p bs[k] = false) : (bs.take (k + 1)).any p = false := by
  rw [List.take_succ_eq_append_getElem h, List.any_append, ha]
  simp [hp]
theorem any_found {bs : List GMod} {p : GMod → Bool} {k : Nat} (h : k < bs.length) (hp : p bs[k] = true) : bs.any p = true := List.any_eq_true.2 ⟨_, List.getElem_mem h, hp⟩
end Go.Proofs.YtahhmgoffdggpaaGreatDoor
