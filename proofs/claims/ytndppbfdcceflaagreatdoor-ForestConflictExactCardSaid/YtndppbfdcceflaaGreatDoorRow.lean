/-
  Slices whose elements take several cells each, whatever the element type: rows that are read, rows that the call owns, append, literals.
  Conditions: none beyond what each theorem says.
-/
import Derived.Test.YtndppbfdcceflaaGreatDoorProg
import Derived.WalkKit
import Derived.Handy
import Derived.Below
import Derived.Lib.Hide
import Derived.Maps.AppendAt
namespace Go.Proofs.YtndppbfdcceflaaGreatDoor

open Go.RowKit

section

variable {α : Type}

def gcells (enc : α → List Value) (xs : List α) : List Value := xs.flatMap enc
/-- The slice value with address A and as many elements holds xs and lies below block B. -/
def GRow (enc : α → List Value) (k : Nat) (w : World) (B : Nat) (A : Option Addr) (xs : List α) : Prop :=
  0 < xs.length → ∃ b off, A = some ⟨b, off, none⟩ ∧ b < B ∧ ∀ i (h : i < xs.length), ∀ j u, (enc xs[i])[j]? = some u → w.cell? ⟨b, off + (i * k + j), none⟩ = some u
/-- v is a slice of the call's own that holds xs. -/
def OwnG (enc : α → List Value) (T : TypeId) (k : Nat) (w : World) (base : Nat) (v : Value) (xs : List α) : Prop := w.ownsRow base T k v xs.length (gcells enc xs)
/-- What append wants of an element type: S is the slice type, T the element's, k its cells. -/
structure Elt (S T : TypeId) (k bytes : Nat) : Prop where
  und : Tryz.prog.underlying S = some (.slice T)
  inf : ∃ i z, Tryz.prog.info? T = some i ∧ i.zero = some z ∧ i.size = k ∧ i.bytes = bytes ∧ z.cells.size = k
  pos : 0 < k

theorem Elt.of {S T : TypeId} {k bytes : Nat} (z : Value) (und : Tryz.prog.underlying S = some (.slice T)) (h : (Tryz.prog.info? T).map (fun i => (i.zero, i.size, i.bytes)) = some (some z, k, bytes)) (hz : z.cells.size = k) (pos : 0 < k) : Elt S T k bytes := by
  obtain ⟨i0, hi, hz0, hz1, hz2⟩ := info_parts h
  exact ⟨und, ⟨i0, z, hi, hz0, hz1, hz2, hz⟩, pos⟩

variable {enc : α → List Value} {k : Nat}

theorem gcells_len (hk : ∀ x, (enc x).length = k) (xs : List α) : (gcells enc xs).length = xs.length * k := by
  induction xs with
  | nil => simp [gcells]
  | cons t r ih => show (enc t ++ gcells enc r).length = _; rw [List.length_append, ih, hk, List.length_cons, Nat.succ_mul, Nat.add_comm]
theorem gcells_append (a b : List α) : gcells enc (a ++ b) = gcells enc a ++ gcells enc b := by simp [gcells]
theorem gcells_get (hk : ∀ x, (enc x).length = k) (ts : List α) : ∀ (i j : Nat) (_ : i < ts.length) (_ : j < k), (gcells enc ts)[i * k + j]? = (enc ts[i])[j]? := by
  induction ts with
  | nil => intro i j h; simp at h
  | cons t r ih =>
    intro i j h hj
    show (enc t ++ gcells enc r)[_]? = _
    cases i with
    | zero => rw [List.getElem?_append_left (by rw [hk]; omega)]; simp
    | succ i =>
      have e0 : (i + 1) * k = i * k + k := Nat.succ_mul i k
      rw [List.getElem?_append_right (by rw [hk]; omega)]
      have e : (i + 1) * k + j - (enc t).length = i * k + j := by rw [hk]; omega
      rw [e, ih i j (by simpa using h) hj]; simp
theorem gcells_get2 (hk : ∀ x, (enc x).length = k) (hk0 : 0 < k) (ts : List α) (j : Nat) (u : Value) (h : (gcells enc ts)[j]? = some u) : ∃ (i m : Nat) (hi : i < ts.length), j = i * k + m ∧ m < k ∧ (enc ts[i])[m]? = some u := by
  have hj : j < (gcells enc ts).length := by
    rcases Nat.lt_or_ge j (gcells enc ts).length with h1 | h1
    · exact h1
    · rw [List.getElem?_eq_none h1] at h; cases h
  rw [gcells_len hk] at hj
  have hi : j / k < ts.length := by rw [Nat.div_lt_iff_lt_mul hk0]; exact hj
  have hm : j % k < k := Nat.mod_lt _ hk0
  have e : j / k * k + j % k = j := by rw [Nat.mul_comm]; exact Nat.div_add_mod j k
  exact ⟨j / k, j % k, hi, e.symm, hm, by rw [← gcells_get hk ts (j / k) (j % k) hi hm, e]; exact h⟩
theorem gcells_one (h1 : ∀ x, ∀ u ∈ enc x, u.oneCell' = true) (ts : List α) : ∀ u ∈ gcells enc ts, u.oneCell' = true := by
  intro u hu
  obtain ⟨t, _, h⟩ := List.mem_flatMap.1 hu
  exact h1 t u h

theorem GRow.nil {w : World} {B : Nat} {A : Option Addr} : GRow enc k w B A [] := fun h => absurd h (by simp)
theorem GRow.keep {w w' : World} {B : Nat} {A : Option Addr} {xs : List α} (h : GRow enc k w B A xs) (hb : ∀ g, g < B → w'.heap[g]? = w.heap[g]?) : GRow enc k w' B A xs := fun hn => by
  obtain ⟨b, off, e, hlt, hc⟩ := h hn
  exact ⟨b, off, e, hlt, fun i hi j u hu => (World.cell?_of_block (a := ⟨b, off + (i * k + j), none⟩) (hb b hlt)).trans (hc i hi j u hu)⟩
theorem GRow.below {w w' : World} {B B' : Nat} {A : Option Addr} {xs : List α} (h : GRow enc k w B A xs) (hB : B ≤ B') (hb : Below B' w w') : GRow enc k w' B A xs := h.keep fun g hg => hb.block g (by omega)
theorem GRow.next {w w' : World} {A : Option Addr} {xs : List α} (h : GRow enc k w w.heap.size A xs) (hb : Below w.heap.size w w') : GRow enc k w' w'.heap.size A xs := fun hn => by
  obtain ⟨b, off, e, hlt, hc⟩ := h.below (Nat.le_refl _) hb hn
  exact ⟨b, off, e, Nat.lt_of_lt_of_le hlt hb.size, hc⟩
theorem GRow.wide {w : World} {B B' : Nat} {A : Option Addr} {xs : List α} (h : GRow enc k w B A xs) (hB : B ≤ B') : GRow enc k w B' A xs := fun hn => by
  obtain ⟨b, off, e, hlt, hc⟩ := h hn
  exact ⟨b, off, e, by omega, hc⟩
theorem GRow.tail {w : World} {B b off : Nat} {x : α} {xs : List α} (h : GRow enc k w B (some ⟨b, off, none⟩) (x :: xs)) : GRow enc k w B (some ⟨b, off + k, none⟩) xs := fun hn => by
  obtain ⟨b', off', e, hlt, hc⟩ := h (by simp)
  cases e
  refine ⟨b, off + k, rfl, hlt, fun i hi j u hu => ?_⟩
  have := hc (i + 1) (by simpa using hi) j u (by simpa using hu)
  rw [show off + k + (i * k + j) = off + ((i + 1) * k + j) by rw [Nat.succ_mul]; omega]
  exact this

variable {S T : TypeId} {by8 : Nat}

theorem OwnG.nil (w : World) (base : Nat) : OwnG enc T k w base (.slice none 0 0) [] := World.ownsRow_nil w base T k
theorem OwnG.alloc {w : World} {base : Nat} {v : Value} {l : List α} (h : OwnG enc T k w base v l) (o : Obj) : OwnG enc T k (w.alloc o) base v l := World.ownsRow.alloc h o
theorem OwnG.lt {w : World} {base : Nat} {v : Value} {l : List α} (h : OwnG enc T k w base v l) : ∀ g, v.ownBlock = some g → base ≤ g ∧ g < w.heap.size := by
  intro g hg
  rcases h.2 with ⟨rfl, _⟩ | ⟨g', cap, cur, rfl, hbs, hh, _⟩
  · simp [Value.ownBlock] at hg
  · simp [Value.ownBlock] at hg
    subst hg
    refine ⟨hbs, ?_⟩
    rcases Nat.lt_or_ge g' w.heap.size with h1 | h1
    · exact h1
    · rw [Array.getElem?_eq_none h1] at hh; cases hh
theorem OwnG.keep {w w' : World} {base : Nat} {v : Value} {l : List α} (h : OwnG enc T k w base v l) (hb : ∀ g, v.ownBlock = some g → w'.heap[g]? = w.heap[g]?) : OwnG enc T k w' base v l := by
  refine ⟨h.1, ?_⟩
  rcases h.2 with hh | ⟨g, cap, cur, hv, hbs, hh, rest⟩
  · exact .inl hh
  · exact .inr ⟨g, cap, cur, hv, hbs, (hb g (by rw [hv]; rfl)).trans hh, rest⟩
theorem OwnG.next {w w' : World} {base : Nat} {v : Value} {l : List α} (h : OwnG enc T k w base v l) (hb : Below w.heap.size w w') : OwnG enc T k w' base v l := h.keep fun g hg => hb.block g (h.lt g hg).2
theorem OwnG.row {w : World} {base : Nat} {v : Value} {ts : List α} (hk : ∀ x, (enc x).length = k) (h : OwnG enc T k w base v ts) : ∃ A cap, v = .slice A ts.length cap ∧ ts.length ≤ cap ∧ cap ≤ maxLen ∧ GRow enc k w w.heap.size A ts := by
  rcases h.2 with ⟨hv, h0⟩ | ⟨g, cap, cur, hv, hbs, hh, hn, hm, hs, ht⟩
  · have h1 : ts = [] := List.eq_nil_of_length_eq_zero h0
    subst h1
    exact ⟨none, 0, hv, Nat.le_refl _, Nat.zero_le _, GRow.nil⟩
  · subst hv
    have hlt : g < w.heap.size := by
      rcases Nat.lt_or_ge g w.heap.size with h1 | h1
      · exact h1
      · rw [Array.getElem?_eq_none h1] at hh; cases hh
    refine ⟨some ⟨g, 0, none⟩, cap, rfl, hn, hm, fun _ => ⟨g, 0, rfl, hlt, fun i hi j u hu => ?_⟩⟩
    have hj : j < k := by
      rcases Nat.lt_or_ge j k with h1 | h1
      · exact h1
      · rw [List.getElem?_eq_none (by rw [hk]; exact h1)] at hu; cases hu
    have hik : i * k + j < ts.length * k := by
      have h1 : (i + 1) * k ≤ ts.length * k := Nat.mul_le_mul_right k hi
      rw [Nat.succ_mul] at h1; omega
    rw [Nat.zero_add, World.ownsRow.cellAt h (i * k + j) hik, gcells_get hk ts i j hi hj, hu]
/-- A slice literal: its block is the newest. -/
theorem OwnG.lit (hk : ∀ x, (enc x).length = k) (w : World) (base : Nat) (xs : List α) (cs : Array Value) (hcs : cs.toList = gcells enc xs) (hb : base ≤ w.heap.size) (hm : xs.length ≤ maxLen) :
    OwnG enc T k (w.alloc (.cells cs T)) base (.slice (some ⟨w.heap.size, 0, none⟩) xs.length xs.length) xs := by
  have hl := gcells_len hk xs
  have hsz : cs.size = xs.length * k := by rw [← hl, ← hcs, Array.length_toList]
  refine ⟨hl, .inr ⟨w.heap.size, xs.length, cs, rfl, hb, heap_alloc_new w _, Nat.le_refl _, hm, hsz, ?_⟩⟩
  rw [hcs, ← hl, List.take_length]
set_option maxRecDepth 20000 in
/-- append(v, xs...) onto a slice of the call's own. -/
theorem OwnG.app (hE : Elt S T k by8) (hk : ∀ x, (enc x).length = k) (h1 : ∀ x, ∀ u ∈ enc x, u.oneCell' = true) {W : World} {base : Nat} {v : Value} {ts : List α} (h : OwnG enc T k W base v ts) {B : Nat} {A : Option Addr} (c : Nat) {xs : List α} (hs : GRow enc k W B A xs)
    (hbase : base ≤ W.heap.size) (hl : ts.length + xs.length ≤ maxLen) (hl8 : (ts.length + xs.length) * by8 ≤ 140737488355328) :
    ∃ v' w', (Builtin.append_ #[S, S] S #[v, .slice A xs.length c]).run Tryz.prog W = .ok v' w' ∧ OwnG enc T k w' base v' (ts ++ xs) ∧ W.grownBy w' v.ownBlock ∧ (v'.ownBlock = v.ownBlock ∨ v'.ownBlock = some W.heap.size) := by
  obtain ⟨i0, z, hi0, hz0, hz1, hz2, hz3⟩ := hE.inf
  rcases A with _ | ad
  · have h0 : xs = [] := by
      cases xs with
      | nil => rfl
      | cons x r => obtain ⟨b, off, hA, _⟩ := hs (by simp); cases hA
    subst h0
    refine ⟨v, W, ?_, by rw [List.append_nil]; exact h, World.grownBy.refl _ _, .inl rfl⟩
    rcases h.2 with ⟨rfl, _⟩ | ⟨g, cap, cur, rfl, _, _, hnc, _⟩
    · simp [Builtin.append_, run_underlying hE.und, sizeOf, typeInfo, hi0, Builtin.lenOf, Builtin.firstCells]
    · simp [Builtin.append_, run_underlying hE.und, sizeOf, typeInfo, hi0, Builtin.lenOf, Builtin.firstCells, hnc, storeCells]
  · obtain ⟨v', w', hrun, hown, hg, _, hob⟩ := run_append_own_at (P := Tryz.prog) W base S S T i0 z k by8 hE.und hi0 hz0 hz1 hz2 hz3 hE.pos v ts.length (gcells enc ts) h ad xs.length c (gcells enc xs)
      (gcells_len hk xs)
      (fun j u hu => by
        obtain ⟨i, m, hi, rfl, hm, hu'⟩ := gcells_get2 hk hE.pos xs j u hu
        obtain ⟨b, off, hA, _, hc⟩ := hs (by omega)
        injection hA with hA
        subst hA
        have e : (⟨b, off, none⟩ : Addr).add (i * k + m) = ⟨b, off + (i * k + m), none⟩ := by unfold Addr.add; split <;> simp_all
        rw [e]; exact hc i hi m u hu')
      (gcells_one h1 xs) hl hl8 hbase
    refine ⟨v', w', hrun, ?_, hg, hob⟩
    unfold OwnG
    rw [List.length_append, gcells_append]; exact hown
end

/-- An append whose run is known, as a step of the walk. -/
theorem wpList_gapp {S : TypeId} {ops : Array Oper} {rest : List Oper} {o : Oper} {a : Act} {Q : Exit → Act → World → Prop} {v y v' : Value} {W w' : World}
    (hrun : (Builtin.append_ #[S, S] S #[v, y]).run Tryz.prog W = .ok v' w') (hgd : o.guard = none) {s x : Operand}
    (ho : o.op = .call { callee := .builtin .append, args := #[s, x], argTypes := #[S, S] }) (hty : o.type = S) (hs : a.eval s = v) (hx : a.eval x = y)
    (h : wpList Tryz.prog ops Q rest (a.put o.dst v') w') : wpList Tryz.prog ops Q (o :: rest) a W := by
  refine wpList_plain hgd fun K hK => ?_
  unfold Oper.wp execOp
  simp only [ho, hty, resolve, invoke, builtin, Sem.run_bind, Sem.run_pure, Result.andThen_ok, List.map_toArray, List.map_cons, List.map_nil, hs, hx, hrun]
  exact hK _ _ h
theorem gb_trans {p : Nat} {w w1 w2 : World} (h1 : w.grownBy w1 (some p)) (h2 : w1.grownBy w2 (some p)) : w.grownBy w2 (some p) :=
  ⟨h2.os.trans h1.os, h2.tape.trans h1.tape, h2.output.trans h1.output, Nat.le_trans h1.size h2.size, fun g hg hne => (h2.block g (Nat.lt_of_lt_of_le hg h1.size) hne).trans (h1.block g hg hne)⟩
theorem gb_bel {p : Option Nat} {w w1 : World} (h : Below w.heap.size w w1) : w.grownBy w1 p := ⟨h.os, h.tape, h.output, h.size, fun g hg _ => h.block g hg⟩
theorem gb_refl {p : Option Nat} (w : World) : w.grownBy w p := ⟨rfl, rfl, rfl, Nat.le_refl _, fun _ _ _ => rfl⟩
/-- What is new of the call's own may change. -/
theorem bel_gb {p : Nat} {w w1 w2 : World} (h : Below w.heap.size w w1) (hp : w.heap.size ≤ p) (h2 : w1.grownBy w2 (some p)) : Below w.heap.size w w2 :=
  ⟨h2.os.trans h.os, h2.tape.trans h.tape, h2.output.trans h.output, Nat.le_trans h.size h2.size, fun g hg => (h2.block g (Nat.lt_of_lt_of_le hg h.size) (by intro e; cases e; omega)).trans (h.block g hg)⟩
end Go.Proofs.YtndppbfdcceflaaGreatDoor
