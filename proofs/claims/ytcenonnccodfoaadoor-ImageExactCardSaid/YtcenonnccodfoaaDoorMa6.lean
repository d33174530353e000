/-
  Slices whose elements take several cells each, whatever the element type: rows that are read, rows that the call owns, append, literals.
  Conditions: none beyond what each theorem says.
  Modules as plain data and as they lie in memory; what a boot image is. Plain mathematics, and words for memory.
  Conditions: none beyond what each theorem says.
  The reference's small functions of layer 8: up, put, check.
  Conditions: as each theorem says.
-/
import Derived.Test.YtcenonnccodfoaaDoorProg
import Derived.WalkKit
import Derived.Handy
import Derived.Below
import Derived.Lib.Hide
import Derived.Maps.AppendAt
import Derived.Test.YtcenonnccodfoaaDoorMa4
import Derived.Test.YtcenonnccodfoaaDoorMa2
import Derived.Test.YtcenonnccodfoaaDoorMa5
import Derived.Deep.DeepFit
import Derived.Deep.DeepCutAuto
import Derived.RegionTactic
namespace Go.Proofs.YtcenonnccodfoaaDoor

open Go.RowKit

section

variable {α : Type}

def gcells (enc : α → List Value) (xs : List α) : List Value := xs.flatMap enc
/-- The slice value with address A and asx many elements holds xs and lies below block B. -/
def GRow (enc : α → List Value) (k : Nat) (w : World) (B : Nat) (A : Option Addr) (xs : List α) : Prop :=
  0 < xs.length → ∃ b off, A = some ⟨b, off, none⟩ ∧ b < B ∧ ∀ i (h : i < xs.length), ∀ j u, (enc xs[i])[j]? = some u → w.cell? ⟨b, off + (i * k + j), none⟩ = some u
/-- v is a slice of the call's own that holds xs. -/
def OwnG (enc : α → List Value) (T : TypeId) (k : Nat) (w : World) (base : Nat) (v : Value) (xs : List α) : Prop := w.ownsRow base T k v xs.length (gcells enc xs)
/-- What append wants of an element type: S is the slice type, T the element's, k its cells. -/
structure Elt (S T : TypeId) (k bytes : Nat) : Prop where
  und : Tryd.prog.underlying S = some (.slice T)
  inf : ∃ i z, Tryd.prog.info? T = some i ∧ i.zero = some z ∧ i.size = k ∧ i.bytes = bytes ∧ z.cells.size = k
  pos : 0 < k

theorem Elt.of {S T : TypeId} {k bytes : Nat} (z : Value) (und : Tryd.prog.underlying S = some (.slice T)) (h : (Tryd.prog.info? T).map (fun i => (i.zero, i.size, i.bytes)) = some (some z, k, bytes)) (hz : z.cells.size = k) (pos : 0 < k) : Elt S T k bytes := by
  obtain ⟨i0, hi, hz0, hz1, hz2⟩ := info_parts h
  exact ⟨und, ⟨i0, z, hi, hz0, hz1, hz2, hz⟩, pos⟩

variable {enc : α → List Value} {k : Nat}

theorem gcells_len (hk : ∀ x, (enc x).length = k) (xs : List α) : (gcells enc xs).length = xs.length * k := by
  induction xs with
  | nil => simp [gcells]
  | cons t r ih => show (enc t ++ gcells enc r).length = _; rw [List.length_append, ih, hk, List.length_cons, Nat.succ_mul, Nat.add_comm]
theorem gcells_append (a b : List α) : gcells enc (a ++ b) = gcells enc a ++ gcells enc b := by simp [gcells]
theorem gcells_get (hk : ∀ x, (enc x).length = k) (ts : List α) : ∀ (i j : Nat) (_ : i < ts.length) (_ : j < k), (gcells enc ts)[i * k + j]? = (enc ts[i])[j]? := by
  induction ts with
  | nil => intro i j h; simp at h
  | cons t r ih =>
    intro i j h hj
    show (enc t ++ gcells enc r)[_]? = _
    cases i with
    | zero => rw [List.getElem?_append_left (by rw [hk]; omega)]; simp
    | succ i =>
      have e0 : (i + 1) * k = i * k + k := Nat.succ_mul i k
      rw [List.getElem?_append_right (by rw [hk]; omega)]
      have e : (i + 1) * k + j - (enc t).length = i * k + j := by rw [hk]; omega
      rw [e, ih i j (by simpa using h) hj]; simp
theorem gcells_get2 (hk : ∀ x, (enc x).length = k) (hk0 : 0 < k) (ts : List α) (j : Nat) (u : Value) (h : (gcells enc ts)[j]? = some u) : ∃ (i m : Nat) (hi : i < ts.length), j = i * k + m ∧ m < k ∧ (enc ts[i])[m]? = some u := by
  have hj : j < (gcells enc ts).length := by
    rcases Nat.lt_or_ge j (gcells enc ts).length with h1 | h1
    · exact h1
    · rw [List.getElem?_eq_none h1] at h; cases h
  rw [gcells_len hk] at hj
  have hi : j / k < ts.length := by rw [Nat.div_lt_iff_lt_mul hk0]; exact hj
  have hm : j % k < k := Nat.mod_lt _ hk0
  have e : j / k * k + j % k = j := by rw [Nat.mul_comm]; exact Nat.div_add_mod j k
  exact ⟨j / k, j % k, hi, e.symm, hm, by rw [← gcells_get hk ts (j / k) (j % k) hi hm, e]; exact h⟩
theorem gcells_one (h1 : ∀ x, ∀ u ∈ enc x, u.oneCell' = true) (ts : List α) : ∀ u ∈ gcells enc ts, u.oneCell' = true := by
  intro u hu
  obtain ⟨t, _, h⟩ := List.mem_flatMap.1 hu
  exact h1 t u h

theorem GRow.nil {w : World} {B : Nat} {A : Option Addr} : GRow enc k w B A [] := fun h => absurd h (by simp)
theorem GRow.keep {w w' : World} {B : Nat} {A : Option Addr} {xs : List α} (h : GRow enc k w B A xs) (hb : ∀ g, g < B → w'.heap[g]? = w.heap[g]?) : GRow enc k w' B A xs := fun hn => by
  obtain ⟨b, off, e, hlt, hc⟩ := h hn
  exact ⟨b, off, e, hlt, fun i hi j u hu => (World.cell?_of_block (a := ⟨b, off + (i * k + j), none⟩) (hb b hlt)).trans (hc i hi j u hu)⟩
theorem GRow.below {w w' : World} {B B' : Nat} {A : Option Addr} {xs : List α} (h : GRow enc k w B A xs) (hB : B ≤ B') (hb : Below B' w w') : GRow enc k w' B A xs := h.keep fun g hg => hb.block g (by omega)
theorem GRow.next {w w' : World} {A : Option Addr} {xs : List α} (h : GRow enc k w w.heap.size A xs) (hb : Below w.heap.size w w') : GRow enc k w' w'.heap.size A xs := fun hn => by
  obtain ⟨b, off, e, hlt, hc⟩ := h.below (Nat.le_refl _) hb hn
  exact ⟨b, off, e, Nat.lt_of_lt_of_le hlt hb.size, hc⟩
theorem GRow.wide {w : World} {B B' : Nat} {A : Option Addr} {xs : List α} (h : GRow enc k w B A xs) (hB : B ≤ B') : GRow enc k w B' A xs := fun hn => by
  obtain ⟨b, off, e, hlt, hc⟩ := h hn
  exact ⟨b, off, e, by omega, hc⟩
theorem GRow.tail {w : World} {B b off : Nat} {x : α} {xs : List α} (h : GRow enc k w B (some ⟨b, off, none⟩) (x :: xs)) : GRow enc k w B (some ⟨b, off + k, none⟩) xs := fun hn => by
  obtain ⟨b', off', e, hlt, hc⟩ := h (by simp)
  cases e
  refine ⟨b, off + k, rfl, hlt, fun i hi j u hu => ?_⟩
  have := hc (i + 1) (by simpa using hi) j u (by simpa using hu)
  rw [show off + k + (i * k + j) = off + ((i + 1) * k + j) by rw [Nat.succ_mul]; omega]
  exact this

variable {S T : TypeId} {by8 : Nat}

theorem OwnG.nil (w : World) (base : Nat) : OwnG enc T k w base (.slice none 0 0) [] := World.ownsRow_nil w base T k
theorem OwnG.alloc {w : World} {base : Nat} {v : Value} {l : List α} (h : OwnG enc T k w base v l) (o : Obj) : OwnG enc T k (w.alloc o) base v l := World.ownsRow.alloc h o
theorem OwnG.lt {w : World} {base : Nat} {v : Value} {l : List α} (h : OwnG enc T k w base v l) : ∀ g, v.ownBlock = some g → base ≤ g ∧ g < w.heap.size := by
  intro g hg
  rcases h.2 with ⟨rfl, _⟩ | ⟨g', cap, cur, rfl, hbs, hh, _⟩
  · simp [Value.ownBlock] at hg
  · simp [Value.ownBlock] at hg
    subst hg
    refine ⟨hbs, ?_⟩
    rcases Nat.lt_or_ge g' w.heap.size with h1 | h1
    · exact h1
    · rw [Array.getElem?_eq_none h1] at hh; cases hh
theorem OwnG.keep {w w' : World} {base : Nat} {v : Value} {l : List α} (h : OwnG enc T k w base v l) (hb : ∀ g, v.ownBlock = some g → w'.heap[g]? = w.heap[g]?) : OwnG enc T k w' base v l := by
  refine ⟨h.1, ?_⟩
  rcases h.2 with hh | ⟨g, cap, cur, hv, hbs, hh, rest⟩
  · exact .inl hh
  · exact .inr ⟨g, cap, cur, hv, hbs, (hb g (by rw [hv]; rfl)).trans hh, rest⟩
theorem OwnG.next {w w' : World} {base : Nat} {v : Value} {l : List α} (h : OwnG enc T k w base v l) (hb : Below w.heap.size w w') : OwnG enc T k w' base v l := h.keep fun g hg => hb.block g (h.lt g hg).2
theorem OwnG.row {w : World} {base : Nat} {v : Value} {ts : List α} (hk : ∀ x, (enc x).length = k) (h : OwnG enc T k w base v ts) : ∃ A cap, v = .slice A ts.length cap ∧ ts.length ≤ cap ∧ cap ≤ maxLen ∧ GRow enc k w w.heap.size A ts := by
  rcases h.2 with ⟨hv, h0⟩ | ⟨g, cap, cur, hv, hbs, hh, hn, hm, hs, ht⟩
  · have h1 : ts = [] := List.eq_nil_of_length_eq_zero h0
    subst h1
    exact ⟨none, 0, hv, Nat.le_refl _, Nat.zero_le _, GRow.nil⟩
  · subst hv
    have hlt : g < w.heap.size := by
      rcases Nat.lt_or_ge g w.heap.size with h1 | h1
      · exact h1
      · rw [Array.getElem?_eq_none h1] at hh; cases hh
    refine ⟨some ⟨g, 0, none⟩, cap, rfl, hn, hm, fun _ => ⟨g, 0, rfl, hlt, fun i hi j u hu => ?_⟩⟩
    have hj : j < k := by
      rcases Nat.lt_or_ge j k with h1 | h1
      · exact h1
      · rw [List.getElem?_eq_none (by rw [hk]; exact h1)] at hu; cases hu
    have hik : i * k + j < ts.length * k := by
      have h1 : (i + 1) * k ≤ ts.length * k := Nat.mul_le_mul_right k hi
      rw [Nat.succ_mul] at h1; omega
    rw [Nat.zero_add, World.ownsRow.cellAt h (i * k + j) hik, gcells_get hk ts i j hi hj, hu]
/-- A slice literal: its block is the newest. -/
theorem OwnG.lit (hk : ∀ x, (enc x).length = k) (w : World) (base : Nat) (xs : List α) (cs : Array Value) (hcs : cs.toList = gcells enc xs) (hb : base ≤ w.heap.size) (hm : xs.length ≤ maxLen) :
    OwnG enc T k (w.alloc (.cells cs T)) base (.slice (some ⟨w.heap.size, 0, none⟩) xs.length xs.length) xs := by
  have hl := gcells_len hk xs
  have hsz : cs.size = xs.length * k := by rw [← hl, ← hcs, Array.length_toList]
  refine ⟨hl, .inr ⟨w.heap.size, xs.length, cs, rfl, hb, heap_alloc_new w _, Nat.le_refl _, hm, hsz, ?_⟩⟩
  rw [hcs, ← hl, List.take_length]
set_option maxRecDepth 20000 in
/-- append(v, xs...) onto a slice of the call's own. -/
theorem OwnG.app (hE : Elt S T k by8) (hk : ∀ x, (enc x).length = k) (h1 : ∀ x, ∀ u ∈ enc x, u.oneCell' = true) {W : World} {base : Nat} {v : Value} {ts : List α} (h : OwnG enc T k W base v ts) {B : Nat} {A : Option Addr} (c : Nat) {xs : List α} (hs : GRow enc k W B A xs)
    (hbase : base ≤ W.heap.size) (hl : ts.length + xs.length ≤ maxLen) (hl8 : (ts.length + xs.length) * by8 ≤ 140737488355328) :
    ∃ v' w', (Builtin.append_ #[S, S] S #[v, .slice A xs.length c]).run Tryd.prog W = .ok v' w' ∧ OwnG enc T k w' base v' (ts ++ xs) ∧ W.grownBy w' v.ownBlock ∧ (v'.ownBlock = v.ownBlock ∨ v'.ownBlock = some W.heap.size) := by
  obtain ⟨i0, z, hi0, hz0, hz1, hz2, hz3⟩ := hE.inf
  rcases A with _ | ad
  · have h0 : xs = [] := by
      cases xs with
      | nil => rfl
      | cons x r => obtain ⟨b, off, hA, _⟩ := hs (by simp); cases hA
    subst h0
    refine ⟨v, W, ?_, by rw [List.append_nil]; exact h, World.grownBy.refl _ _, .inl rfl⟩
    rcases h.2 with ⟨rfl, _⟩ | ⟨g, cap, cur, rfl, _, _, hnc, _⟩
    · simp [Builtin.append_, run_underlying hE.und, sizeOf, typeInfo, hi0, Builtin.lenOf, Builtin.firstCells]
    · simp [Builtin.append_, run_underlying hE.und, sizeOf, typeInfo, hi0, Builtin.lenOf, Builtin.firstCells, hnc, storeCells]
  · obtain ⟨v', w', hrun, hown, hg, _, hob⟩ := run_append_own_at (P := Tryd.prog) W base S S T i0 z k by8 hE.und hi0 hz0 hz1 hz2 hz3 hE.pos v ts.length (gcells enc ts) h ad xs.length c (gcells enc xs)
      (gcells_len hk xs)
      (fun j u hu => by
        obtain ⟨i, m, hi, rfl, hm, hu'⟩ := gcells_get2 hk hE.pos xs j u hu
        obtain ⟨b, off, hA, _, hc⟩ := hs (by omega)
        injection hA with hA
        subst hA
        have e : (⟨b, off, none⟩ : Addr).add (i * k + m) = ⟨b, off + (i * k + m), none⟩ := by unfold Addr.add; split <;> simp_all
        rw [e]; exact hc i hi m u hu')
      (gcells_one h1 xs) hl hl8 hbase
    refine ⟨v', w', hrun, ?_, hg, hob⟩
    unfold OwnG
    rw [List.length_append, gcells_append]; exact hown
end

/-- An append whose run is known, asx a step of the walk. -/
theorem wpList_gapp {S : TypeId} {ops : Array Oper} {rest : List Oper} {o : Oper} {a : Act} {Q : Exit → Act → World → Prop} {v y v' : Value} {W w' : World}
    (hrun : (Builtin.append_ #[S, S] S #[v, y]).run Tryd.prog W = .ok v' w') (hgd : o.guard = none) {s x : Operand}
    (ho : o.op = .call { callee := .builtin .append, args := #[s, x], argTypes := #[S, S] }) (hty : o.type = S) (hs : a.eval s = v) (hx : a.eval x = y)
    (h : wpList Tryd.prog ops Q rest (a.put o.dst v') w') : wpList Tryd.prog ops Q (o :: rest) a W := by
  refine wpList_plain hgd fun K hK => ?_
  unfold Oper.wp execOp
  simp only [ho, hty, resolve, invoke, builtin, Sem.run_bind, Sem.run_pure, Result.andThen_ok, List.map_toArray, List.map_cons, List.map_nil, hs, hx, hrun]
  exact hK _ _ h
theorem gb_trans {p : Nat} {w w1 w2 : World} (h1 : w.grownBy w1 (some p)) (h2 : w1.grownBy w2 (some p)) : w.grownBy w2 (some p) :=
  ⟨h2.os.trans h1.os, h2.tape.trans h1.tape, h2.output.trans h1.output, Nat.le_trans h1.size h2.size, fun g hg hne => (h2.block g (Nat.lt_of_lt_of_le hg h1.size) hne).trans (h1.block g hg hne)⟩
theorem gb_bel {p : Option Nat} {w w1 : World} (h : Below w.heap.size w w1) : w.grownBy w1 p := ⟨h.os, h.tape, h.output, h.size, fun g hg _ => h.block g hg⟩
theorem gb_refl {p : Option Nat} (w : World) : w.grownBy w p := ⟨rfl, rfl, rfl, Nat.le_refl _, fun _ _ _ => rfl⟩
/-- What is new of the call's own may change. -/
theorem bel_gb {p : Nat} {w w1 w2 : World} (h : Below w.heap.size w w1) (hp : w.heap.size ≤ p) (h2 : w1.grownBy w2 (some p)) : Below w.heap.size w w2 :=
  ⟨h2.os.trans h.os, h2.tape.trans h.tape, h2.output.trans h.output, Nat.le_trans h.size h2.size, fun g hg => (h2.block g (Nat.lt_of_lt_of_le hg h.size) (by intro e; cases e; omega)).trans (h.block g hg)⟩
end Go.Proofs.YtcenonnccodfoaaDoor


namespace Go.Proofs.YtcenonnccodfoaaDoor

open Go.RowKit

/-- A module. -/
structure GMod where
  name : List UInt8
  kind : Int
  width : Int
  entry : Int
  data : List UInt8
/-- A module asx it lies in a slice. -/
structure SMod where
  name : List UInt8
  kind : Int
  width : Int
  entry : Int
  A : Option Addr
  n : Nat
  c : Nat
instance : Inhabited SMod := ⟨⟨[], 0, 0, 0, none, 0, 0⟩⟩
instance : Inhabited GMod := ⟨⟨[], 0, 0, 0, []⟩⟩
def SMod.cells (s : SMod) : List Value := [.string ⟨s.name.toArray⟩, .int .i64 s.kind, .int .i64 s.width, .int .i64 s.entry, .slice s.A s.n s.c]
def SMod.val (s : SMod) : Value := .agg #[.string ⟨s.name.toArray⟩, .int .i64 s.kind, .int .i64 s.width, .int .i64 s.entry, .slice s.A s.n s.c]
theorem SMod.len (s : SMod) : s.cells.length = 5 := rfl
theorem SMod.one (s : SMod) : ∀ u ∈ s.cells, u.oneCell' = true := by
  intro u hu
  simp [SMod.cells] at hu
  rcases hu with rfl | rfl | rfl | rfl | rfl <;> rfl
theorem elt_mod : Elt 22 41 5 64 := Elt.of (.agg #[.string ⟨#[]⟩, .int .i64 0, .int .i64 0, .int .i64 0, .slice none 0 0]) Tryd.underlying22 (by kernel_rfl) rfl (by decide)
/-- The module s, asx it lies in memory, is m. -/
structure MHold (w : World) (B : Nat) (s : SMod) (m : GMod) : Prop where
  name : s.name = m.name
  kind : s.kind = m.kind
  width : s.width = m.width
  entry : s.entry = m.entry
  row : Byt w B s.A s.n m.data
  few : m.data.length ≤ 4294967296
section

variable {w w' : World} {B B' : Nat} {s : SMod} {m : GMod}

theorem MHold.n (h : MHold w B s m) : s.n = m.data.length := h.row.1.symm
theorem MHold.below (h : MHold w B s m) (hB : B ≤ B') (hb : Below B' w w') : MHold w' B s m := ⟨h.name, h.kind, h.width, h.entry, h.row.below (hb.mono hB), h.few⟩
theorem MHold.wide (h : MHold w B s m) (hB : B ≤ B') : MHold w B' s m := ⟨h.name, h.kind, h.width, h.entry, h.row.wide hB, h.few⟩
theorem MHold.next (h : MHold w w.heap.size s m) (hb : Below w.heap.size w w') : MHold w' w'.heap.size s m := (h.below (Nat.le_refl _) hb).wide hb.size
end

/-- The slice with address A holds the modules ms, asx ss. -/
structure MRow (w : World) (B : Nat) (A : Option Addr) (ss : List SMod) (ms : List GMod) : Prop where
  row : GRow SMod.cells 5 w B A ss
  len : ss.length = ms.length
  each : ∀ i (h1 : i < ss.length) (h2 : i < ms.length), MHold w B ss[i] ms[i]
theorem MRow.below {w w' : World} {B B' : Nat} {A : Option Addr} {ss : List SMod} {ms : List GMod} (h : MRow w B A ss ms) (hB : B ≤ B') (hb : Below B' w w') : MRow w' B A ss ms := ⟨h.row.below hB hb, h.len, fun i h1 h2 => (h.each i h1 h2).below hB hb⟩
theorem MRow.wide {w : World} {B B' : Nat} {A : Option Addr} {ss : List SMod} {ms : List GMod} (h : MRow w B A ss ms) (hB : B ≤ B') : MRow w B' A ss ms := ⟨h.row.wide hB, h.len, fun i h1 h2 => (h.each i h1 h2).wide hB⟩
theorem MRow.next {w w' : World} {A : Option Addr} {ss : List SMod} {ms : List GMod} (h : MRow w w.heap.size A ss ms) (hb : Below w.heap.size w w') : MRow w' w'.heap.size A ss ms := (h.below (Nat.le_refl _) hb).wide hb.size
theorem GRow.mod5 {w : World} {B : Nat} {A : Option Addr} {ss : List SMod} (h : GRow SMod.cells 5 w B A ss) {i : Nat} (hi : i < ss.length) : ∃ b off, A = some ⟨b, off, none⟩ ∧ b < B ∧
    w.cell? ⟨b, off + i * 5, none⟩ = some (.string ⟨ss[i].name.toArray⟩) ∧ w.cell? ⟨b, off + i * 5 + 1, none⟩ = some (.int .i64 ss[i].kind) ∧ w.cell? ⟨b, off + i * 5 + 2, none⟩ = some (.int .i64 ss[i].width) ∧
    w.cell? ⟨b, off + i * 5 + 3, none⟩ = some (.int .i64 ss[i].entry) ∧ w.cell? ⟨b, off + i * 5 + 4, none⟩ = some (.slice ss[i].A ss[i].n ss[i].c) := by
  obtain ⟨b, off, e, hb, hc⟩ := h (by omega)
  exact ⟨b, off, e, hb, hc i hi 0 _ rfl, hc i hi 1 _ rfl, hc i hi 2 _ rfl, hc i hi 3 _ rfl, hc i hi 4 _ rfl⟩

/-! ### What an image is -/
def upN (n : Nat) : Nat := (n + 63) / 64 * 64
def sameKey (a b : GMod) : Bool := decide (a.name = b.name) && decide (a.width = b.width)
/-- The error of a module behind others. -/
def chkM (before : List GMod) (m : GMod) : Int :=
  if nameB m.name = false then 63
  else if m.kind < 1 ∨ 3 < m.kind ∨ (m.kind = 3 ∧ m.width ≠ 0) ∨ (m.kind ≠ 3 ∧ m.width ≠ 32 ∧ m.width ≠ 39) then 6
  else if m.kind = 1 ∧ (m.data.length = 0 ∨ m.data.length % 8 ≠ 0) then 59
  else if (m.kind = 1 ∧ (m.entry < 0 ∨ (m.data.length : Int) / 8 ≤ m.entry)) ∨ (m.kind ≠ 1 ∧ m.entry ≠ 0) then 6
  else if before.any (fun b => sameKey b m) then 56 else 0
def firstE : List GMod → List GMod → Int
  | _, [] => 0
  | d, m :: r => if chkM d m = 0 then firstE (d ++ [m]) r else chkM d m
/-- Where the data behind start ends. -/
def endM (start : Nat) (ms : List GMod) : Nat := ms.foldl (fun s m => upN (s + m.data.length)) start
def entryL (m : GMod) (off : Nat) : List UInt8 :=
  m.name ++ zerosL (24 - m.name.length) ++ leB m.kind.toNat 1 ++ leB m.width.toNat 1 ++ leB 0 2 ++ leB m.entry.toNat 4 ++ leB off 4 ++ leB m.data.length 4 ++ leB (crcOf m.data) 4 ++ leB 0 4
def tableL : Nat → List GMod → List UInt8
  | _, [] => []
  | at_, m :: r => entryL m at_ ++ tableL (upN (at_ + m.data.length)) r
/-- The data of the modules, where the first begins at 'start', 'l' the bytes from offset 16 on so far. -/
def dataL : Nat → List GMod → List UInt8 → List UInt8
  | _, [], l => l
  | at_, m :: r, l => dataL (upN (at_ + m.data.length)) r (l ++ zerosL (at_ - 16 - l.length) ++ m.data)
def startM (ms : List GMod) : Nat := upN (16 + 48 * ms.length)
def bodyL (ms : List GMod) : List UInt8 :=
  let d := dataL (startM ms) ms (tableL (startM ms) ms)
  d ++ zerosL (endM (startM ms) ms - 16 - d.length)
def imageL (ms : List GMod) : List UInt8 :=
  [77, 75, 66, 73] ++ leB 1 2 ++ leB ms.length 2 ++ leB (endM (startM ms) ms) 4 ++ leB (crcOf (bodyL ms)) 4 ++ bodyL ms
/-- The error of a list of modules. -/
def errM (ms : List GMod) : Int := if 64 < ms.length then 15 else if firstE [] ms = 0 then (if 16777216 < endM (startM ms) ms then 15 else 0) else firstE [] ms
def imgM (ms : List GMod) : List UInt8 := if errM ms = 0 then imageL ms else []
end Go.Proofs.YtcenonnccodfoaaDoor


namespace Go.Proofs.YtcenonnccodfoaaDoor

open Go.RowKit

theorem bel_next8 {w w1 w2 : World} (h1 : Below w.heap.size w w1) (h2 : Below w1.heap.size w1 w2) : Below w.heap.size w w2 := h1.trans (h2.mono h1.size)
theorem bel_lit8 {w w1 : World} (h1 : Below w.heap.size w w1) (o : Obj) : Below w.heap.size w (w1.alloc o) := h1.alloc h1.size o
theorem rUp_any (n : Nat) (w : World) (hn : n ≤ 4611686018427387904) : Calls Tryd.prog 29 #[.int .i64 (n : Int)] w fun e w' => e = .returned (.int .i64 (upN n : Nat)) ∧ w = w' := by
  have HU : Hid ((upN n : Nat) = (n + 63) / 64 * 64) := Lib.hid rfl
  have e1 : IntKind.i64.wrap ((n : Int) + 63) = ((n + 63 : Nat) : Int) := by rw [IntKind.wrap_i64]; omega
  have e2 : ((n + 63 : Nat) : Int).tdiv 64 = (((n + 63) / 64 : Nat) : Int) := by rw [Int.tdiv_eq_ediv_of_nonneg (by omega)]; omega
  have e3 : IntKind.i64.wrap ((((n + 63) / 64 : Nat) : Int)) = (((n + 63) / 64 : Nat) : Int) := by rw [IntKind.wrap_i64]; omega
  have e4 : IntKind.i64.wrap ((((n + 63) / 64 : Nat) : Int) * 64) = ((upN n : Nat) : Int) := by rw [IntKind.wrap_i64, HU.out]; omega
  go_enter Tryd.func29, Tryd.ntmps29
  go_wp2
  go_ret
  exact ⟨congrArg (fun x : Int => Ending.returned (Value.int .i64 x)) (by rw [HU.out]; omega), rfl⟩
theorem put_any (A : Option Addr) (n c B v k : Nat) (l : List UInt8) (w : World) (h : Byt w B A n l) (hn : n ≤ 4294967296) (hk : k ≤ 8) :
    Calls Tryd.prog 31 #[.slice A n c, .int .u64 (v : Int), .int .i64 (k : Int)] w fun e w' => ∃ t, e = .returned t ∧ Grow w w' t (l ++ leB v k) := by
  have HA := Lib.hid (appRef_any A n c B v k l w h hn hk)
  clear h
  go_enter Tryd.func31, Tryd.ntmps31
  go_wp2_with fail
  go_fit HA.out
  rintro e w1 ⟨t, rfl, h⟩
  have HG := Lib.hid h
  clear h HA
  go_wp2
  go_ret
  exact ⟨t, rfl, HG.out⟩

/-- The four looks of check, asx truth values. -/
def wB (m : GMod) : Bool := decide (m.width = 32 ∨ m.width = 39)
def rangeB (m : GMod) : Bool := decide (m.kind < 1 ∨ 3 < m.kind ∨ (m.kind = 3 ∧ m.width ≠ 0) ∨ (m.kind ≠ 3 ∧ m.width ≠ 32 ∧ m.width ≠ 39))
def alignB (m : GMod) : Bool := decide (m.kind = 1 ∧ (m.data.length = 0 ∨ m.data.length % 8 ≠ 0))
def entryB (m : GMod) : Bool := decide ((m.kind = 1 ∧ (m.entry < 0 ∨ (m.data.length : Int) / 8 ≤ m.entry)) ∨ (m.kind ≠ 1 ∧ m.entry ≠ 0))
theorem chkM_eq (bs : List GMod) (m : GMod) : chkM bs m = if nameB m.name = false then 63 else if rangeB m = true then 6 else if alignB m = true then 59 else if entryB m = true then 6 else if bs.any (fun b => sameKey b m) then 56 else 0 := by
  unfold chkM rangeB alignB entryB
  simp only [decide_eq_true_eq]
theorem any_snoc {bs : List GMod} {p : GMod → Bool} {k : Nat} (h : k < bs.length) (ha : (bs.take k).any p = false) (hp : p bs[k] = false) : (bs.take (k + 1)).any p = false := by
  rw [List.take_succ_eq_append_getElem h, List.any_append, ha]
  simp [hp]
theorem any_found {bs : List GMod} {p : GMod → Bool} {k : Nat} (h : k < bs.length) (hp : p bs[k] = true) : bs.any p = true := List.any_eq_true.2 ⟨_, List.getElem_mem h, hp⟩
set_option maxRecDepth 50000 in
set_option maxHeartbeats 1000000 in
theorem rCheck_any (m : GMod) (s : SMod) (bs : List GMod) (ss : List SMod) (A : Option Addr) (c : Nat) (w : World) (hm : MHold w w.heap.size s m) (hb : MRow w w.heap.size A ss bs) (hn : bs.length ≤ 1000000) (hl : m.name.length ≤ 140737488355328) :
    Calls Tryd.prog 30 #[s.val, .slice A bs.length c] w fun e w' => e = .returned (.int .i64 (chkM bs m)) ∧ Below w.heap.size w w' := by
  obtain ⟨sn, sk, sw, se, sA, sl, sc⟩ := s
  have hdn := hm.n
  have hfew := hm.few
  obtain ⟨h1, h2, h3, h4, _, _⟩ := hm
  simp only at h1 h2 h3 h4 hdn
  subst h1 h2 h3 h4 hdn
  have HC : Hid (chkM bs m = _) := Lib.hid (chkM_eq bs m)
  have HN := Lib.hid fun W => rIsName_any m.name W (by unfold maxLen; omega)
  have HB := Lib.hid hb
  have hlen := hb.len
  have hbx : (w.alloc (.cells #[.string ⟨m.name.toArray⟩, .int .i64 m.kind, .int .i64 m.width, .int .i64 m.entry, .slice sA m.data.length sc] 41)).heap[w.heap.size]? = some (.cells #[.string ⟨m.name.toArray⟩, .int .i64 m.kind, .int .i64 m.width, .int .i64 m.entry, .slice sA m.data.length sc] 41 (0, 0)) := heap_alloc_new w _
  have hW := bel_lit8 (Below.refl w.heap.size w) (.cells #[.string ⟨m.name.toArray⟩, .int .i64 m.kind, .int .i64 m.width, .int .i64 m.entry, .slice sA m.data.length sc] 41)
  have hnot : ∀ (x : Bool) (w : World), (Op.unary .not (.bool x)).run Tryd.prog w = .ok (.bool (!x)) w := fun _ _ => rfl
  clear hb
  simp only [SMod.val]
  go_enter Tryd.func30, Tryd.ntmps30
  go_upto_region 1 with fail
  generalize w.alloc (.cells #[.string ⟨m.name.toArray⟩, .int .i64 m.kind, .int .i64 m.width, .int .i64 m.entry, .slice sA m.data.length sc] 41) = W at *
  generalize hN : w.heap.size = N at *
  have HWB := Lib.hid hW
  have x0 : W.cell? ⟨N, 0, none⟩ = some (.string ⟨m.name.toArray⟩) := by rw [Lib.cell_of_heap hbx]; rfl
  have x1 : W.cell? ⟨N, 1, none⟩ = some (.int .i64 m.kind) := by rw [Lib.cell_of_heap hbx]; rfl
  have x2 : W.cell? ⟨N, 2, none⟩ = some (.int .i64 m.width) := by rw [Lib.cell_of_heap hbx]; rfl
  have x3 : W.cell? ⟨N, 3, none⟩ = some (.int .i64 m.entry) := by rw [Lib.cell_of_heap hbx]; rfl
  have x4 : W.cell? ⟨N, 4, none⟩ = some (.slice sA m.data.length sc) := by rw [Lib.cell_of_heap hbx]; rfl
  clear hbx hW
  go_cut [5] (fun v wx => v = .bool (wB m) ∧ wx = W)
  case first =>
    by_cases h32 : m.width = 32
    · have HE : Hid (wB m = true) := Lib.hid (by simp [wB, h32])
      have f : (m.width == 32) = true := by simp [h32]
      clear h32
      go_wp2_with fail
      go_meet
      exact ⟨by rw [HE.out], rfl⟩
    · have f : (m.width == 32) = false := by simp [h32]
      by_cases h39 : m.width = 39
      · have HE : Hid (wB m = true) := Lib.hid (by simp [wB, h39])
        have f9 : (m.width == 39) = true := by simp [h39]
        clear h32 h39
        go_wp2_with fail
        go_meet
        exact ⟨by rw [HE.out], rfl⟩
      · have HE : Hid (wB m = false) := Lib.hid (by simp [wB, h32, h39])
        have f9 : (m.width == 39) = false := by simp [h39]
        clear h32 h39
        go_wp2_with fail
        go_meet
        exact ⟨by rw [HE.out], rfl⟩
  case rest =>
    obtain ⟨rfl, rfl⟩ := hcut
    go_wp2_with fail
    go_fit (HN.out _)
    rintro e w1 ⟨rfl, rfl⟩
    cases hnm : nameB m.name
    · have HR : Hid (chkM bs m = 63) := Lib.hid (by rw [HC.out, if_pos hnm])
      clear hnm
      go_wp2
      go_ret
      exact ⟨congrArg (fun x : Int => Ending.returned (Value.int .i64 x)) HR.out.symm, by rw [hN]; exact HWB.out⟩
    have HC2 : Hid (chkM bs m = if rangeB m = true then 6 else if alignB m = true then 59 else if entryB m = true then 6 else if bs.any (fun b => sameKey b m) then 56 else 0) := Lib.hid (by rw [HC.out, if_neg (by rw [hnm]; simp)])
    clear HC hnm
    go_upto_region 5 with fail
    go_cut [5, 24] (fun v5 v wx => v5 = .bool (wB m) ∧ v = .bool (rangeB m) ∧ wx = wc)
    case first =>
      by_cases k1 : m.kind < 1
      · have HE : Hid (rangeB m = true) := Lib.hid (by simp only [rangeB, decide_eq_true_eq]; exact .inl k1)
        have f : decide (m.kind < 1) = true := by simpa using k1
        go_wp2_with fail
        go_meet
        exact ⟨by first | rfl | rw [HW.out], by rw [HE.out], rfl⟩
      have f1 : decide (m.kind < 1) = false := by simpa using k1
      by_cases k3 : 3 < m.kind
      · have HE : Hid (rangeB m = true) := Lib.hid (by simp only [rangeB, decide_eq_true_eq]; exact .inr (.inl k3))
        have f : decide (3 < m.kind) = true := by simpa using k3
        go_wp2_with fail
        go_meet
        exact ⟨by first | rfl | rw [HW.out], by rw [HE.out], rfl⟩
      have f2 : decide (3 < m.kind) = false := by simpa using k3
      by_cases e3 : m.kind = 3
      · have f3 : (m.kind == 3) = true := by simp [e3]
        have f4 : (m.kind != 3) = false := by simp [e3]
        by_cases w0 : m.width = 0
        · have HE : Hid (rangeB m = false) := Lib.hid (by simp [rangeB, e3, w0])
          have f5 : (m.width != 0) = false := by simp [w0]
          clear w0 e3 k1 k3
          go_wp2_with fail
          go_meet
          exact ⟨by first | rfl | rw [HW.out], by rw [HE.out], rfl⟩
        · have HE : Hid (rangeB m = true) := Lib.hid (by simp [rangeB, e3, w0])
          have f5 : (m.width != 0) = true := by simp [w0]
          clear w0 e3 k1 k3
          go_wp2_with fail
          go_meet
          exact ⟨by first | rfl | rw [HW.out], by rw [HE.out], rfl⟩
      · have f3 : (m.kind == 3) = false := by simp [e3]
        have f4 : (m.kind != 3) = true := by simp [e3]
        cases hw : wB m
        · have HE : Hid (rangeB m = true) := Lib.hid (by
            simp [wB] at hw
            simp only [rangeB, decide_eq_true_eq]
            exact .inr (.inr (.inr ⟨e3, hw⟩)))
          have HW := Lib.hid hw
          clear hw e3 k1 k3
          go_wp2_with fail
          go_meet
          exact ⟨by first | rfl | rw [HW.out], by rw [HE.out], rfl⟩
        · have HE : Hid (rangeB m = false) := Lib.hid (by
            simp [wB] at hw
            simp only [rangeB, decide_eq_false_iff_not]
            omega)
          have HW := Lib.hid hw
          clear hw e3 k1 k3
          go_wp2_with fail
          go_meet
          exact ⟨by first | rfl | rw [HW.out], by rw [HE.out], rfl⟩
    case rest =>
      obtain ⟨rfl, rfl, rfl⟩ := hcut
      cases hr : rangeB m
      case true =>
        have HR : Hid (chkM bs m = 6) := Lib.hid (by rw [HC2.out, if_pos hr])
        clear hr
        go_wp2
        go_ret
        exact ⟨congrArg (fun x : Int => Ending.returned (Value.int .i64 x)) HR.out.symm, by rw [hN]; exact HWB.out⟩
      have HC3 : Hid (chkM bs m = if alignB m = true then 59 else if entryB m = true then 6 else if bs.any (fun b => sameKey b m) then 56 else 0) := Lib.hid (by rw [HC2.out, if_neg (by rw [hr]; simp)])
      clear HC2 hr
      go_upto_region 7 with fail
      go_cut [6, 52] (fun v6 v wx => v6 = .bool (m.kind == 1) ∧ v = .bool (alignB m) ∧ wx = wc)
      case first =>
        by_cases k1 : m.kind = 1
        · have f1 : (m.kind == 1) = true := by simp [k1]
          have HK := Lib.hid f1
          by_cases d0 : m.data.length = 0
          · have HE : Hid (alignB m = true) := Lib.hid (by simp [alignB, k1, d0])
            have f2 : ((m.data.length : Int) == 0) = true := by simp [d0]
            clear k1 d0
            go_wp2_with fail
            go_meet
            exact ⟨by first | rfl | rw [HK.out], by rw [HE.out], rfl⟩
          · have f2 : ((m.data.length : Int) == 0) = false := beq_false_of_ne (by omega)
            have e8 : (m.data.length : Int).tmod 8 = ((m.data.length % 8 : Nat) : Int) := by rw [Int.tmod_eq_emod_of_nonneg (by omega)]; omega
            by_cases d8 : m.data.length % 8 = 0
            · have HE : Hid (alignB m = false) := Lib.hid (by simp only [alignB, decide_eq_false_iff_not]; omega)
              generalize hz : m.data.length % 8 = z at *
              subst d8
              have f3 : (((0 : Nat) : Int) != 0) = false := by decide
              clear k1 d0 hz
              go_wp2_with fail
              go_meet
              exact ⟨by first | rfl | rw [HK.out], by rw [HE.out], rfl⟩
            · have HE : Hid (alignB m = true) := Lib.hid (by simp only [alignB, decide_eq_true_eq]; exact ⟨k1, .inr d8⟩)
              generalize m.data.length % 8 = z at *
              have f3 : ((z : Int) != 0) = true := by simp; omega
              clear k1 d0 d8
              go_wp2_with fail
              go_meet
              exact ⟨by first | rfl | rw [HK.out], by rw [HE.out], rfl⟩
        · have HE : Hid (alignB m = false) := Lib.hid (by simp only [alignB, decide_eq_false_iff_not]; exact fun h => k1 h.1)
          have f1 : (m.kind == 1) = false := by simp [k1]
          have HK := Lib.hid f1
          clear k1
          go_wp2_with fail
          go_meet
          exact ⟨by first | rfl | rw [HK.out], by rw [HE.out], rfl⟩
      case rest =>
        obtain ⟨rfl, rfl, rfl⟩ := hcut
        cases hr : alignB m
        case true =>
          have HR : Hid (chkM bs m = 59) := Lib.hid (by rw [HC3.out, if_pos hr])
          clear hr
          go_wp2
          go_ret
          exact ⟨congrArg (fun x : Int => Ending.returned (Value.int .i64 x)) HR.out.symm, by rw [hN]; exact HWB.out⟩
        have HC4 : Hid (chkM bs m = if entryB m = true then 6 else if bs.any (fun b => sameKey b m) then 56 else 0) := Lib.hid (by rw [HC3.out, if_neg (by rw [hr]; simp)])
        clear HC3 hr
        go_upto_region 9 with fail
        go_cut [6, 67] (fun v6 v wx => v6 = .bool (m.kind == 1) ∧ v = .bool (entryB m) ∧ wx = wc)
        case first =>
          by_cases k1 : m.kind = 1
          · have f1 : (m.kind == 1) = true := by simp [k1]
            have HK := Lib.hid f1
            by_cases d0 : m.entry < 0
            · have HE : Hid (entryB m = true) := Lib.hid (by simp only [entryB, decide_eq_true_eq]; exact .inl ⟨k1, .inl d0⟩)
              have f2 : decide (m.entry < 0) = true := by simpa using d0
              clear k1 d0
              go_wp2_with fail
              go_meet
              exact ⟨by first | rfl | rw [HK.out], by rw [HE.out], rfl⟩
            · have f2 : decide (m.entry < 0) = false := by simpa using d0
              have e8 : (m.data.length : Int).tdiv 8 = (m.data.length : Int) / 8 := Int.tdiv_eq_ediv_of_nonneg (by omega)
              by_cases d8 : (m.data.length : Int) / 8 ≤ m.entry
              · have HE : Hid (entryB m = true) := Lib.hid (by simp only [entryB, decide_eq_true_eq]; exact .inl ⟨k1, .inr d8⟩)
                have f3 : decide ((m.data.length : Int) / 8 ≤ m.entry) = true := by simpa using d8
                clear k1 d0 d8
                go_wp2_with fail
                go_meet
                exact ⟨by first | rfl | rw [HK.out], by rw [HE.out], rfl⟩
              · have HE : Hid (entryB m = false) := Lib.hid (by simp only [entryB, decide_eq_false_iff_not]; omega)
                have f3 : decide ((m.data.length : Int) / 8 ≤ m.entry) = false := by simpa using d8
                clear k1 d0 d8
                go_wp2_with fail
                go_meet
                exact ⟨by first | rfl | rw [HK.out], by rw [HE.out], rfl⟩
          · have f1 : (m.kind == 1) = false := by simp [k1]
            have HK := Lib.hid f1
            by_cases d0 : m.entry = 0
            · have HE : Hid (entryB m = false) := Lib.hid (by simp only [entryB, decide_eq_false_iff_not]; omega)
              have f2 : (m.entry != 0) = false := by simp [d0]
              clear k1 d0
              go_wp2_with fail
              go_meet
              exact ⟨by first | rfl | rw [HK.out], by rw [HE.out], rfl⟩
            · have HE : Hid (entryB m = true) := Lib.hid (by simp only [entryB, decide_eq_true_eq]; exact .inr ⟨k1, d0⟩)
              have f2 : (m.entry != 0) = true := by simp [d0]
              clear k1 d0
              go_wp2_with fail
              go_meet
              exact ⟨by first | rfl | rw [HK.out], by rw [HE.out], rfl⟩
        case rest =>
          obtain ⟨rfl, rfl, rfl⟩ := hcut
          cases hr : entryB m
          case true =>
            have HR : Hid (chkM bs m = 6) := Lib.hid (by rw [HC4.out, if_pos hr])
            clear hr
            go_wp2
            go_ret
            exact ⟨congrArg (fun x : Int => Ending.returned (Value.int .i64 x)) HR.out.symm, by rw [hN]; exact HWB.out⟩
          have HC5 : Hid (chkM bs m = if bs.any (fun b => sameKey b m) then 56 else 0) := Lib.hid (by rw [HC4.out, if_neg (by rw [hr]; simp)])
          clear HC4 hr
          have HX : Hid (∀ W, Below wc.heap.size wc W → W.cell? ⟨N, 0, none⟩ = some (.string ⟨m.name.toArray⟩) ∧ W.cell? ⟨N, 2, none⟩ = some (.int .i64 m.width)) := Lib.hid fun W hW => by
            have hlt : N < wc.heap.size := World.block_lt_of_cell? wc _ x0
            exact ⟨(hW.cell (p := ⟨N, 0, none⟩) hlt).trans x0, (hW.cell (p := ⟨N, 2, none⟩) hlt).trans x2⟩
          clear x0 x1 x2 x3 x4
          go_wp2
          go_loopw [7] (fun vi wr => ∃ k : Nat, vi = .int .i64 k ∧ k ≤ bs.length ∧ Hid ((bs.take k).any (fun b => sameKey b m) = false) ∧ Hid (Below wc.heap.size wc wr)) (fun vi _ => bs.length - (intOf vi).toNat)
          case atStart => exact ⟨0, rfl, Nat.zero_le _, Lib.hid rfl, Lib.hid (Below.refl _ _)⟩
          case round =>
            obtain ⟨k, rfl, hk, HT, HW⟩ := hrel
            have HWW : Hid (Below w.heap.size w wr) := Lib.hid (by
              have h := HWB.out
              rw [← hN] at h
              exact bel_next8 h HW.out)
            rcases Nat.lt_or_ge k bs.length with hlt | hge
            · have hls : k < ss.length := by omega
              have hrow := (show MRow w w.heap.size A ss bs from by rw [hN]; exact HB.out).next HWW.out
              obtain ⟨b1, o1, rfl, hb1, z0, z1, z2, z3, z4⟩ := hrow.row.mod5 hls
              have hold := hrow.each k hls hlt
              have HSN := Lib.hid fun h => any_snoc (p := fun b => sameKey b m) hlt HT.out h
              have HFD := Lib.hid fun h => any_found (p := fun b => sameKey b m) hlt h
              obtain ⟨x0, x2⟩ := HX.out wr HW.out
              have hn1 := hold.name
              have hw1 := hold.width
              rw [hn1] at z0
              rw [hw1] at z2
              generalize bs[k] = y at *
              clear hrow hold hn1 hw1 z1 z3 z4
              by_cases hq : y.name = m.name
              · have f1 : (y.name == m.name) = true := by simp [hq]
                by_cases hv : y.width = m.width
                · have f2 : (y.width == m.width) = true := by simp [hv]
                  have HR : Hid (chkM bs m = 56) := Lib.hid (by rw [HC5.out, if_pos (HFD.out (by simp [sameKey, hq, hv]))])
                  have HD := Lib.hid HWW.out.drew
                  clear hq hv
                  go_upto_region 14 with fail
                  go_region
                  go_wp2
                  go_ret
                  exact ⟨congrArg (fun x : Int => Ending.returned (Value.int .i64 x)) HR.out.symm, HD.out⟩
                · have f2 : (y.width == m.width) = false := by simp [hv]
                  have HS2 := Lib.hid (HSN.out (by simp [sameKey, hv]))
                  have HD := Lib.hid HW.out.drew
                  clear hq hv
                  go_upto_region 14 with fail
                  go_region
                  go_wp2
                  go_roundw
                  case rel => exact ⟨k + 1, by go_num, by omega, HS2, HD⟩
                  case measure => simp [intOf]; omega
              · have f1 : (y.name == m.name) = false := by simp [hq]
                have HS2 := Lib.hid (HSN.out (by simp [sameKey, hq]))
                have HD := Lib.hid HW.out.drew
                clear hq
                go_upto_region 14 with fail
                go_region
                go_wp2
                go_roundw
                case rel => exact ⟨k + 1, by go_num, by omega, HS2, HD⟩
                case measure => simp [intOf]; omega
            · have HR : Hid (chkM bs m = 0) := Lib.hid (by
                have h := HT.out
                rw [List.take_of_length_le hge] at h
                rw [HC5.out, if_neg (by rw [h]; simp)])
              go_wp2
              go_ret
              exact ⟨congrArg (fun x : Int => Ending.returned (Value.int .i64 x)) HR.out.symm, HWW.out⟩
end Go.Proofs.YtcenonnccodfoaaDoor
