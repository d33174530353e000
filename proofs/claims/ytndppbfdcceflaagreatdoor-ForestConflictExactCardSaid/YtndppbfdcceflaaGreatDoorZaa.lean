/-
  Entries of the derivation forest in plain words, and lists of entries in memory.
  Conditions: none.
-/
import Derived.Test.YtndppbfdcceflaaGreatDoorNab
namespace Go.Proofs.YtndppbfdcceflaaGreatDoor

open Go.RowKit

/-- An entry in plain words. -/
structure GE where
  core : Int
  slot : Int
  node : GN
deriving DecidableEq
/-- An entry as it lies in memory: its path lies at A, with capacity c. -/
structure GV where
  e : GE
  A : Option Addr
  c : Nat
def GV.val (x : GV) : Value := .agg #[.int .i64 x.e.core, .int .i64 x.e.slot, .int .i64 x.e.node.id.core, .int .i64 x.e.node.id.op, .int .i64 x.e.node.id.part, .slice x.A x.e.node.path.length x.c, .int .i64 x.e.node.cap.kind, .int .i64 x.e.node.cap.base, .int .i64 x.e.node.cap.bits, .int .i64 x.e.node.cap.rights, .int .i64 x.e.node.cap.width, .int .i64 x.e.node.cap.level, .bool x.e.node.cap.device]
def GV.cells (x : GV) : List Value := [.int .i64 x.e.core, .int .i64 x.e.slot, .int .i64 x.e.node.id.core, .int .i64 x.e.node.id.op, .int .i64 x.e.node.id.part, .slice x.A x.e.node.path.length x.c, .int .i64 x.e.node.cap.kind, .int .i64 x.e.node.cap.base, .int .i64 x.e.node.cap.bits, .int .i64 x.e.node.cap.rights, .int .i64 x.e.node.cap.width, .int .i64 x.e.node.cap.level, .bool x.e.node.cap.device]
theorem GV.len (x : GV) : x.cells.length = 13 := rfl
theorem GV.one (x : GV) : ∀ u ∈ x.cells, u.oneCell' = true := by intro u hu; simp [GV.cells] at hu; rcases hu with rfl | rfl | rfl | rfl | rfl | rfl | rfl | rfl | rfl | rfl | rfl | rfl | rfl <;> rfl
theorem elt_ent : Elt 22 32 13 120 := Elt.of (.agg #[.int .i64 0, .int .i64 0, .int .i64 0, .int .i64 0, .int .i64 0, .slice none 0 0, .int .i64 0, .int .i64 0, .int .i64 0, .int .i64 0, .int .i64 0, .int .i64 0, .bool false]) Tryz.underlying22 (by kernel_rfl) rfl (by decide)
/-- The path of an entry lies where it says, below block B. -/
def PW (w : World) (B : Nat) (x : GV) : Prop := PRow w B x.A x.e.node.path ∧ x.e.node.path.length ≤ x.c
theorem PW.next {w w' : World} {x : GV} (h : PW w w.heap.size x) (hb : Below w.heap.size w w') : PW w' w'.heap.size x := ⟨h.1.next hb, h.2⟩
/-- A slice of entries that is read: the entries, and their paths. -/
structure ERow (w : World) (B : Nat) (A : Option Addr) (xs : List GV) : Prop where
  row : GRow GV.cells 13 w B A xs
  pth : ∀ x ∈ xs, PW w B x
theorem ERow.next {w w' : World} {A : Option Addr} {xs : List GV} (h : ERow w w.heap.size A xs) (hb : Below w.heap.size w w') : ERow w' w'.heap.size A xs := ⟨h.row.next hb, fun x hx => (h.pth x hx).next hb⟩
theorem ERow.nil {w : World} {B : Nat} {A : Option Addr} : ERow w B A [] := ⟨GRow.nil, fun x hx => by cases hx⟩
structure EVF (W : World) (b o : Nat) (x : GV) : Prop where
  c0 : W.cell? ⟨b, o, none⟩ = some (.int .i64 x.e.core)
  c1 : W.cell? ⟨b, o + 1, none⟩ = some (.int .i64 x.e.slot)
  c2 : W.cell? ⟨b, o + 2, none⟩ = some (.int .i64 x.e.node.id.core)
  c3 : W.cell? ⟨b, o + 3, none⟩ = some (.int .i64 x.e.node.id.op)
  c4 : W.cell? ⟨b, o + 4, none⟩ = some (.int .i64 x.e.node.id.part)
  c5 : W.cell? ⟨b, o + 5, none⟩ = some (.slice x.A x.e.node.path.length x.c)
  c6 : W.cell? ⟨b, o + 6, none⟩ = some (.int .i64 x.e.node.cap.kind)
  c7 : W.cell? ⟨b, o + 7, none⟩ = some (.int .i64 x.e.node.cap.base)
  c8 : W.cell? ⟨b, o + 8, none⟩ = some (.int .i64 x.e.node.cap.bits)
  c9 : W.cell? ⟨b, o + 9, none⟩ = some (.int .i64 x.e.node.cap.rights)
  c10 : W.cell? ⟨b, o + 10, none⟩ = some (.int .i64 x.e.node.cap.width)
  c11 : W.cell? ⟨b, o + 11, none⟩ = some (.int .i64 x.e.node.cap.level)
  c12 : W.cell? ⟨b, o + 12, none⟩ = some (.bool x.e.node.cap.device)
/-- An element of a row of entries, cell by cell. -/
theorem GRow.gev {w : World} {B : Nat} {A : Option Addr} {xs : List GV} (h : GRow GV.cells 13 w B A xs) {k : Nat} (hk : k < xs.length) : ∃ b off, A = some ⟨b, off, none⟩ ∧ b < B ∧ EVF w b (off + k * 13) xs[k] := by
  obtain ⟨b, off, rfl, hb, hc⟩ := h (by omega)
  exact ⟨b, off, rfl, hb, hc k hk 0 _ rfl, hc k hk 1 _ rfl, hc k hk 2 _ rfl, hc k hk 3 _ rfl, hc k hk 4 _ rfl, hc k hk 5 _ rfl, hc k hk 6 _ rfl, hc k hk 7 _ rfl, hc k hk 8 _ rfl, hc k hk 9 _ rfl, hc k hk 10 _ rfl, hc k hk 11 _ rfl, hc k hk 12 _ rfl⟩
theorem EVF.next {W W' : World} {b o : Nat} {x : GV} (h : EVF W b o x) (hl : b < W.heap.size) (hb : Below W.heap.size W W') : EVF W' b o x := by
  have t : ∀ j u, W.cell? ⟨b, j, none⟩ = some u → W'.cell? ⟨b, j, none⟩ = some u := fun j u hu => (hb.cell (p := ⟨b, j, none⟩) hl).trans hu
  exact ⟨t _ _ h.c0, t _ _ h.c1, t _ _ h.c2, t _ _ h.c3, t _ _ h.c4, t _ _ h.c5, t _ _ h.c6, t _ _ h.c7, t _ _ h.c8, t _ _ h.c9, t _ _ h.c10, t _ _ h.c11, t _ _ h.c12⟩
/-- A block of the call's own that holds an entry. -/
def EB (W : World) (N : Nat) (x : GV) : Prop := W.heap[N]? = some (.cells #[.int .i64 x.e.core, .int .i64 x.e.slot, .int .i64 x.e.node.id.core, .int .i64 x.e.node.id.op, .int .i64 x.e.node.id.part, .slice x.A x.e.node.path.length x.c, .int .i64 x.e.node.cap.kind, .int .i64 x.e.node.cap.base, .int .i64 x.e.node.cap.bits, .int .i64 x.e.node.cap.rights, .int .i64 x.e.node.cap.width, .int .i64 x.e.node.cap.level, .bool x.e.node.cap.device] 32 (0, 0))
theorem EB.lt {W : World} {N : Nat} {x : GV} (h : EB W N x) : N < W.heap.size := by
  rcases Nat.lt_or_ge N W.heap.size with h1 | h1
  · exact h1
  · unfold EB at h; rw [Array.getElem?_eq_none h1] at h; cases h
theorem EB.next {W W' : World} {N : Nat} {x : GV} (h : EB W N x) (hb : Below W.heap.size W W') : EB W' N x := (hb.block N h.lt).trans h
theorem EB.new (w : World) (x : GV) : EB (w.alloc (.cells #[.int .i64 x.e.core, .int .i64 x.e.slot, .int .i64 x.e.node.id.core, .int .i64 x.e.node.id.op, .int .i64 x.e.node.id.part, .slice x.A x.e.node.path.length x.c, .int .i64 x.e.node.cap.kind, .int .i64 x.e.node.cap.base, .int .i64 x.e.node.cap.bits, .int .i64 x.e.node.cap.rights, .int .i64 x.e.node.cap.width, .int .i64 x.e.node.cap.level, .bool x.e.node.cap.device] 32)) w.heap.size x := heap_alloc_new w _
theorem EB.cells {W : World} {N : Nat} {x : GV} (h : EB W N x) : EVF W N 0 x := by
  unfold EB at h
  exact ⟨by rw [Lib.cell_of_heap h]; rfl, by rw [Lib.cell_of_heap h]; rfl, by rw [Lib.cell_of_heap h]; rfl, by rw [Lib.cell_of_heap h]; rfl, by rw [Lib.cell_of_heap h]; rfl, by rw [Lib.cell_of_heap h]; rfl, by rw [Lib.cell_of_heap h]; rfl, by rw [Lib.cell_of_heap h]; rfl, by rw [Lib.cell_of_heap h]; rfl, by rw [Lib.cell_of_heap h]; rfl, by rw [Lib.cell_of_heap h]; rfl, by rw [Lib.cell_of_heap h]; rfl, by rw [Lib.cell_of_heap h]; rfl⟩
theorem EB.frz {W : World} {N : Nat} {x : GV} (h : EB W N x) (j : Nat) : W.frozen? ⟨N, j, none⟩ = false := Lib.frozen_of_heap h j
/-- The path of an entry lies elsewhere than the block of a slice of the call's own. -/
def Apart (v : Value) (x : GV) : Prop := 0 < x.e.node.path.length → ∀ g b o, v.ownBlock = some g → x.A = some ⟨b, o, none⟩ → b ≠ g
/-- A slice of entries of the call's own; the paths lie elsewhere. -/
structure EOwn (w : World) (base : Nat) (v : Value) (xs : List GV) : Prop where
  own : OwnG GV.cells 32 13 w base v xs
  pth : ∀ x ∈ xs, PW w w.heap.size x
  apt : ∀ x ∈ xs, Apart v x
theorem EOwn.next {w w' : World} {base : Nat} {v : Value} {xs : List GV} (h : EOwn w base v xs) (hb : Below w.heap.size w w') : EOwn w' base v xs := ⟨h.own.next hb, fun x hx => (h.pth x hx).next hb, h.apt⟩
theorem EOwn.nil (w : World) (base : Nat) : EOwn w base (.slice none 0 0) [] := ⟨OwnG.nil _ _, fun x hx => (by cases hx), fun x hx => (by cases hx)⟩
theorem EOwn.erow {w : World} {base : Nat} {v : Value} {xs : List GV} (h : EOwn w base v xs) : ∃ A c, v = .slice A xs.length c ∧ xs.length ≤ c ∧ c ≤ maxLen ∧ ERow w w.heap.size A xs := by
  obtain ⟨A, c, rfl, h1, h2, h3⟩ := h.own.row GV.len
  exact ⟨A, c, rfl, h1, h2, h3, h.pth⟩
/-- A path that lies below the base is apart from what the call owns. -/
theorem Apart.below {w : World} {base : Nat} {v : Value} {xs : List GV} (h : OwnG GV.cells 32 13 w base v xs) {W : World} {x : GV} (hp : PW W base x) : Apart v x := fun h0 g b o hg hA e => by
  obtain ⟨b', o', e', hb', _⟩ := hp.1 h0
  rw [hA] at e'
  cases e'
  have := (h.lt g hg).1
  omega
/-- append(v, ys...) onto entries of the call's own, whose paths lie apart. -/
theorem EOwn.app {W : World} {base : Nat} {v : Value} {xs : List GV} (h : EOwn W base v xs) {A : Option Addr} (c : Nat) {ys : List GV} (hr : ERow W W.heap.size A ys) (ha : ∀ y ∈ ys, Apart v y) (hbase : base ≤ W.heap.size) (hl : xs.length + ys.length ≤ 1000000) :
    ∃ v' w', (Builtin.append_ #[22, 22] 22 #[v, .slice A ys.length c]).run Tryz.prog W = .ok v' w' ∧ EOwn w' base v' (xs ++ ys) ∧ W.grownBy w' v.ownBlock ∧ (v'.ownBlock = v.ownBlock ∨ v'.ownBlock = some W.heap.size) := by
  obtain ⟨v', w', hrun, hown, hg, hob⟩ := OwnG.app elt_ent GV.len GV.one h.own c hr.row hbase (by unfold maxLen; omega) (by omega)
  have hall : ∀ x ∈ xs ++ ys, PW W W.heap.size x ∧ Apart v x := fun x hx => by
    rcases List.mem_append.1 hx with h1 | h1
    · exact ⟨h.pth x h1, h.apt x h1⟩
    · exact ⟨hr.pth x h1, ha x h1⟩
  refine ⟨v', w', hrun, ⟨hown, fun x hx => ?_, fun x hx => ?_⟩, hg, hob⟩
  · obtain ⟨⟨h1, h2⟩, h3⟩ := hall x hx
    refine ⟨fun h0 => ?_, h2⟩
    obtain ⟨b, o, e, hb, hc⟩ := h1 h0
    refine ⟨b, o, e, Nat.lt_of_lt_of_le hb hg.size, fun i hi j u hu => ?_⟩
    rw [World.cell?_of_block (a := ⟨b, o + (i * 3 + j), none⟩) (hg.block b hb fun e2 => h3 h0 b b o e2.symm e rfl)]
    exact hc i hi j u hu
  · obtain ⟨⟨h1, h2⟩, h3⟩ := hall x hx
    intro h0 g b o e1 e2
    rcases hob with e3 | e3
    · exact h3 h0 g b o (e3 ▸ e1) e2
    · obtain ⟨b', o', e4, hb, _⟩ := h1 h0
      rw [e2] at e4
      cases e4
      rw [e3] at e1
      cases e1
      omega
end Go.Proofs.YtndppbfdcceflaaGreatDoor
