/-
  Slices whose elements take several cells each, whatever the element type: rows that are read, rows that the call owns, append, literals.
  Conditions: none beyond what each theorem says.
  Instructions as plain data; the table of formats; the errors of a program.
  Conditions: none.
  isa.Validate, at whatever program.
  Conditions: the table of formats lies as the program's start lays it.
-/
import Derived.Test.YtahhmgoffdggpaaGreatDoorProg
import Derived.WalkKit
import Derived.Handy
import Derived.Below
import Derived.Lib.Hide
import Derived.Maps.AppendAt
import Derived.Deep.DeepFit
import Derived.Test.YtahhmgoffdggpaaGreatDoorMb1
namespace Go.Proofs.YtahhmgoffdggpaaGreatDoor

open Go.RowKit

section

variable {α : Type}

def gcells (enc : α → List Value) (xs : List α) : List Value := xs.flatMap enc
/-- The slice value with address A and asx many elements holds xs and lies below block B. -/
def GRow (enc : α → List Value) (k : Nat) (w : World) (B : Nat) (A : Option Addr) (xs : List α) : Prop :=
  0 < xs.length → ∃ b off, A = some ⟨b, off, none⟩ ∧ b < B ∧ ∀ i (h : i < xs.length), ∀ j u, (enc xs[i])[j]? = some u → w.cell? ⟨b, off + (i * k + j), none⟩ = some u
/-- v is a slice of the call's own that holds xs. -/
def OwnG (enc : α → List Value) (T : TypeId) (k : Nat) (w : World) (base : Nat) (v : Value) (xs : List α) : Prop := w.ownsRow base T k v xs.length (gcells enc xs)
/-- What append wants of an element type: S is the slice type, T the element's, k its cells. -/
structure Elt (S T : TypeId) (k bytes : Nat) : Prop where
  und : Tryz.prog.underlying S = some (.slice T)
  inf : ∃ i z, Tryz.prog.info? T = some i ∧ i.zero = some z ∧ i.size = k ∧ i.bytes = bytes ∧ z.cells.size = k
  pos : 0 < k

theorem Elt.of {S T : TypeId} {k bytes : Nat} (z : Value) (und : Tryz.prog.underlying S = some (.slice T)) (h : (Tryz.prog.info? T).map (fun i => (i.zero, i.size, i.bytes)) = some (some z, k, bytes)) (hz : z.cells.size = k) (pos : 0 < k) : Elt S T k bytes := by
  obtain ⟨i0, hi, hz0, hz1, hz2⟩ := info_parts h
  exact ⟨und, ⟨i0, z, hi, hz0, hz1, hz2, hz⟩, pos⟩

variable {enc : α → List Value} {k : Nat}

theorem gcells_len (hk : ∀ x, (enc x).length = k) (xs : List α) : (gcells enc xs).length = xs.length * k := by
  induction xs with
  | nil => simp [gcells]
  | cons t r ih => show (enc t ++ gcells enc r).length = _; rw [List.length_append, ih, hk, List.length_cons, Nat.succ_mul, Nat.add_comm]
theorem gcells_append (a b : List α) : gcells enc (a ++ b) = gcells enc a ++ gcells enc b := by simp [gcells]
theorem gcells_get (hk : ∀ x, (enc x).length = k) (ts : List α) : ∀ (i j : Nat) (_ : i < ts.length) (_ : j < k), (gcells enc ts)[i * k + j]? = (enc ts[i])[j]? := by
  induction ts with
  | nil => intro i j h; simp at h
  | cons t r ih =>
    intro i j h hj
    show (enc t ++ gcells enc r)[_]? = _
    cases i with
    | zero => rw [List.getElem?_append_left (by rw [hk]; omega)]; simp
    | succ i =>
      have e0 : (i + 1) * k = i * k + k := Nat.succ_mul i k
      rw [List.getElem?_append_right (by rw [hk]; omega)]
      have e : (i + 1) * k + j - (enc t).length = i * k + j := by rw [hk]; omega
      rw [e, ih i j (by simpa using h) hj]; simp
theorem gcells_get2 (hk : ∀ x, (enc x).length = k) (hk0 : 0 < k) (ts : List α) (j : Nat) (u : Value) (h : (gcells enc ts)[j]? = some u) : ∃ (i m : Nat) (hi : i < ts.length), j = i * k + m ∧ m < k ∧ (enc ts[i])[m]? = some u := by
  have hj : j < (gcells enc ts).length := by
    rcases Nat.lt_or_ge j (gcells enc ts).length with h1 | h1
    · exact h1
    · rw [List.getElem?_eq_none h1] at h; cases h
  rw [gcells_len hk] at hj
  have hi : j / k < ts.length := by rw [Nat.div_lt_iff_lt_mul hk0]; exact hj
  have hm : j % k < k := Nat.mod_lt _ hk0
  have e : j / k * k + j % k = j := by rw [Nat.mul_comm]; exact Nat.div_add_mod j k
  exact ⟨j / k, j % k, hi, e.symm, hm, by rw [← gcells_get hk ts (j / k) (j % k) hi hm, e]; exact h⟩
theorem gcells_one (h1 : ∀ x, ∀ u ∈ enc x, u.oneCell' = true) (ts : List α) : ∀ u ∈ gcells enc ts, u.oneCell' = true := by
  intro u hu
  obtain ⟨t, _, h⟩ := List.mem_flatMap.1 hu
  exact h1 t u h

theorem GRow.nil {w : World} {B : Nat} {A : Option Addr} : GRow enc k w B A [] := fun h => absurd h (by simp)
theorem GRow.keep {w w' : World} {B : Nat} {A : Option Addr} {xs : List α} (h : GRow enc k w B A xs) (hb : ∀ g, g < B → w'.heap[g]? = w.heap[g]?) : GRow enc k w' B A xs := fun hn => by
  obtain ⟨b, off, e, hlt, hc⟩ := h hn
  exact ⟨b, off, e, hlt, fun i hi j u hu => (World.cell?_of_block (a := ⟨b, off + (i * k + j), none⟩) (hb b hlt)).trans (hc i hi j u hu)⟩
theorem GRow.below {w w' : World} {B B' : Nat} {A : Option Addr} {xs : List α} (h : GRow enc k w B A xs) (hB : B ≤ B') (hb : Below B' w w') : GRow enc k w' B A xs := h.keep fun g hg => hb.block g (by omega)
theorem GRow.next {w w' : World} {A : Option Addr} {xs : List α} (h : GRow enc k w w.heap.size A xs) (hb : Below w.heap.size w w') : GRow enc k w' w'.heap.size A xs := fun hn => by
  obtain ⟨b, off, e, hlt, hc⟩ := h.below (Nat.le_refl _) hb hn
  exact ⟨b, off, e, Nat.lt_of_lt_of_le hlt hb.size, hc⟩
theorem GRow.wide {w : World} {B B' : Nat} {A : Option Addr} {xs : List α} (h : GRow enc k w B A xs) (hB : B ≤ B') : GRow enc k w B' A xs := fun hn => by
  obtain ⟨b, off, e, hlt, hc⟩ := h hn
  exact ⟨b, off, e, by omega, hc⟩
theorem GRow.tail {w : World} {B b off : Nat} {x : α} {xs : List α} (h : GRow enc k w B (some ⟨b, off, none⟩) (x :: xs)) : GRow enc k w B (some ⟨b, off + k, none⟩) xs := fun hn => by
  obtain ⟨b', off', e, hlt, hc⟩ := h (by simp)
  cases e
  refine ⟨b, off + k, rfl, hlt, fun i hi j u hu => ?_⟩
  have := hc (i + 1) (by simpa using hi) j u (by simpa using hu)
  rw [show off + k + (i * k + j) = off + ((i + 1) * k + j) by rw [Nat.succ_mul]; omega]
  exact this

variable {S T : TypeId} {by8 : Nat}

theorem OwnG.nil (w : World) (base : Nat) : OwnG enc T k w base (.slice none 0 0) [] := World.ownsRow_nil w base T k
theorem OwnG.alloc {w : World} {base : Nat} {v : Value} {l : List α} (h : OwnG enc T k w base v l) (o : Obj) : OwnG enc T k (w.alloc o) base v l := World.ownsRow.alloc h o
theorem OwnG.lt {w : World} {base : Nat} {v : Value} {l : List α} (h : OwnG enc T k w base v l) : ∀ g, v.ownBlock = some g → base ≤ g ∧ g < w.heap.size := by
  intro g hg
  rcases h.2 with ⟨rfl, _⟩ | ⟨g', cap, cur, rfl, hbs, hh, _⟩
  · simp [Value.ownBlock] at hg
  · simp [Value.ownBlock] at hg
    subst hg
    refine ⟨hbs, ?_⟩
    rcases Nat.lt_or_ge g' w.heap.size with h1 | h1
    · exact h1
    · rw [Array.getElem?_eq_none h1] at hh; cases hh
theorem OwnG.keep {w w' : World} {base : Nat} {v : Value} {l : List α} (h : OwnG enc T k w base v l) (hb : ∀ g, v.ownBlock = some g → w'.heap[g]? = w.heap[g]?) : OwnG enc T k w' base v l := by
  refine ⟨h.1, ?_⟩
  rcases h.2 with hh | ⟨g, cap, cur, hv, hbs, hh, rest⟩
  · exact .inl hh
  · exact .inr ⟨g, cap, cur, hv, hbs, (hb g (by rw [hv]; rfl)).trans hh, rest⟩
theorem OwnG.next {w w' : World} {base : Nat} {v : Value} {l : List α} (h : OwnG enc T k w base v l) (hb : Below w.heap.size w w') : OwnG enc T k w' base v l := h.keep fun g hg => hb.block g (h.lt g hg).2
theorem OwnG.row {w : World} {base : Nat} {v : Value} {ts : List α} (hk : ∀ x, (enc x).length = k) (h : OwnG enc T k w base v ts) : ∃ A cap, v = .slice A ts.length cap ∧ ts.length ≤ cap ∧ cap ≤ maxLen ∧ GRow enc k w w.heap.size A ts := by
  rcases h.2 with ⟨hv, h0⟩ | ⟨g, cap, cur, hv, hbs, hh, hn, hm, hs, ht⟩
  · have h1 : ts = [] := List.eq_nil_of_length_eq_zero h0
    subst h1
    exact ⟨none, 0, hv, Nat.le_refl _, Nat.zero_le _, GRow.nil⟩
  · subst hv
    have hlt : g < w.heap.size := by
      rcases Nat.lt_or_ge g w.heap.size with h1 | h1
      · exact h1
      · rw [Array.getElem?_eq_none h1] at hh; cases hh
    refine ⟨some ⟨g, 0, none⟩, cap, rfl, hn, hm, fun _ => ⟨g, 0, rfl, hlt, fun i hi j u hu => ?_⟩⟩
    have hj : j < k := by
      rcases Nat.lt_or_ge j k with h1 | h1
      · exact h1
      · rw [List.getElem?_eq_none (by rw [hk]; exact h1)] at hu; cases hu
    have hik : i * k + j < ts.length * k := by
      have h1 : (i + 1) * k ≤ ts.length * k := Nat.mul_le_mul_right k hi
      rw [Nat.succ_mul] at h1; omega
    rw [Nat.zero_add, World.ownsRow.cellAt h (i * k + j) hik, gcells_get hk ts i j hi hj, hu]
/-- A slice literal: its block is the newest. -/
theorem OwnG.lit (hk : ∀ x, (enc x).length = k) (w : World) (base : Nat) (xs : List α) (cs : Array Value) (hcs : cs.toList = gcells enc xs) (hb : base ≤ w.heap.size) (hm : xs.length ≤ maxLen) :
    OwnG enc T k (w.alloc (.cells cs T)) base (.slice (some ⟨w.heap.size, 0, none⟩) xs.length xs.length) xs := by
  have hl := gcells_len hk xs
  have hsz : cs.size = xs.length * k := by rw [← hl, ← hcs, Array.length_toList]
  refine ⟨hl, .inr ⟨w.heap.size, xs.length, cs, rfl, hb, heap_alloc_new w _, Nat.le_refl _, hm, hsz, ?_⟩⟩
  rw [hcs, ← hl, List.take_length]
set_option maxRecDepth 20000 in
/-- append(v, xs...) onto a slice of the call's own. -/
theorem OwnG.app (hE : Elt S T k by8) (hk : ∀ x, (enc x).length = k) (h1 : ∀ x, ∀ u ∈ enc x, u.oneCell' = true) {W : World} {base : Nat} {v : Value} {ts : List α} (h : OwnG enc T k W base v ts) {B : Nat} {A : Option Addr} (c : Nat) {xs : List α} (hs : GRow enc k W B A xs)
    (hbase : base ≤ W.heap.size) (hl : ts.length + xs.length ≤ maxLen) (hl8 : (ts.length + xs.length) * by8 ≤ 140737488355328) :
    ∃ v' w', (Builtin.append_ #[S, S] S #[v, .slice A xs.length c]).run Tryz.prog W = .ok v' w' ∧ OwnG enc T k w' base v' (ts ++ xs) ∧ W.grownBy w' v.ownBlock ∧ (v'.ownBlock = v.ownBlock ∨ v'.ownBlock = some W.heap.size) := by
  obtain ⟨i0, z, hi0, hz0, hz1, hz2, hz3⟩ := hE.inf
  rcases A with _ | ad
  · have h0 : xs = [] := by
      cases xs with
      | nil => rfl
      | cons x r => obtain ⟨b, off, hA, _⟩ := hs (by simp); cases hA
    subst h0
    refine ⟨v, W, ?_, by rw [List.append_nil]; exact h, World.grownBy.refl _ _, .inl rfl⟩
    rcases h.2 with ⟨rfl, _⟩ | ⟨g, cap, cur, rfl, _, _, hnc, _⟩
    · simp [Builtin.append_, run_underlying hE.und, sizeOf, typeInfo, hi0, Builtin.lenOf, Builtin.firstCells]
    · simp [Builtin.append_, run_underlying hE.und, sizeOf, typeInfo, hi0, Builtin.lenOf, Builtin.firstCells, hnc, storeCells]
  · obtain ⟨v', w', hrun, hown, hg, _, hob⟩ := run_append_own_at (P := Tryz.prog) W base S S T i0 z k by8 hE.und hi0 hz0 hz1 hz2 hz3 hE.pos v ts.length (gcells enc ts) h ad xs.length c (gcells enc xs)
      (gcells_len hk xs)
      (fun j u hu => by
        obtain ⟨i, m, hi, rfl, hm, hu'⟩ := gcells_get2 hk hE.pos xs j u hu
        obtain ⟨b, off, hA, _, hc⟩ := hs (by omega)
        injection hA with hA
        subst hA
        have e : (⟨b, off, none⟩ : Addr).add (i * k + m) = ⟨b, off + (i * k + m), none⟩ := by unfold Addr.add; split <;> simp_all
        rw [e]; exact hc i hi m u hu')
      (gcells_one h1 xs) hl hl8 hbase
    refine ⟨v', w', hrun, ?_, hg, hob⟩
    unfold OwnG
    rw [List.length_append, gcells_append]; exact hown
end

/-- An append whose run is known, asx a step of the walk. -/
theorem wpList_gapp {S : TypeId} {ops : Array Oper} {rest : List Oper} {o : Oper} {a : Act} {Q : Exit → Act → World → Prop} {v y v' : Value} {W w' : World}
    (hrun : (Builtin.append_ #[S, S] S #[v, y]).run Tryz.prog W = .ok v' w') (hgd : o.guard = none) {s x : Operand}
    (ho : o.op = .call { callee := .builtin .append, args := #[s, x], argTypes := #[S, S] }) (hty : o.type = S) (hs : a.eval s = v) (hx : a.eval x = y)
    (h : wpList Tryz.prog ops Q rest (a.put o.dst v') w') : wpList Tryz.prog ops Q (o :: rest) a W := by
  refine wpList_plain hgd fun K hK => ?_
  unfold Oper.wp execOp
  simp only [ho, hty, resolve, invoke, builtin, Sem.run_bind, Sem.run_pure, Result.andThen_ok, List.map_toArray, List.map_cons, List.map_nil, hs, hx, hrun]
  exact hK _ _ h
theorem gb_trans {p : Nat} {w w1 w2 : World} (h1 : w.grownBy w1 (some p)) (h2 : w1.grownBy w2 (some p)) : w.grownBy w2 (some p) :=
  ⟨h2.os.trans h1.os, h2.tape.trans h1.tape, h2.output.trans h1.output, Nat.le_trans h1.size h2.size, fun g hg hne => (h2.block g (Nat.lt_of_lt_of_le hg h1.size) hne).trans (h1.block g hg hne)⟩
theorem gb_bel {p : Option Nat} {w w1 : World} (h : Below w.heap.size w w1) : w.grownBy w1 p := ⟨h.os, h.tape, h.output, h.size, fun g hg _ => h.block g hg⟩
theorem gb_refl {p : Option Nat} (w : World) : w.grownBy w p := ⟨rfl, rfl, rfl, Nat.le_refl _, fun _ _ _ => rfl⟩
/-- What is new of the call's own may change. -/
theorem bel_gb {p : Nat} {w w1 w2 : World} (h : Below w.heap.size w w1) (hp : w.heap.size ≤ p) (h2 : w1.grownBy w2 (some p)) : Below w.heap.size w w2 :=
  ⟨h2.os.trans h.os, h2.tape.trans h.tape, h2.output.trans h.output, Nat.le_trans h.size h2.size, fun g hg => (h2.block g (Nat.lt_of_lt_of_le hg h.size) (by intro e; cases e; omega)).trans (h.block g hg)⟩
end Go.Proofs.YtahhmgoffdggpaaGreatDoor


namespace Go.Proofs.YtahhmgoffdggpaaGreatDoor

open Go.RowKit

structure GIns where
  op : Int
  a : Int
  b : Int
  c : Int
  imm : Int
deriving DecidableEq
def GIns.val (x : GIns) : Value := .agg #[.int .i64 x.op, .int .i64 x.a, .int .i64 x.b, .int .i64 x.c, .int .i32 x.imm]
def GIns.cells (x : GIns) : List Value := [.int .i64 x.op, .int .i64 x.a, .int .i64 x.b, .int .i64 x.c, .int .i32 x.imm]
theorem GIns.len (x : GIns) : x.cells.length = 5 := rfl
theorem GIns.one (x : GIns) : ∀ u ∈ x.cells, u.oneCell' = true := by intro u hu; simp [GIns.cells] at hu; rcases hu with rfl | rfl | rfl | rfl | rfl <;> rfl
/-- The formats: mnemonic, registers, what Imm holds. -/
def fmtTab : List (List UInt8 × Nat × Nat) := [
  ([104, 97, 108, 116], 0, 0),
  ([108, 105], 1, 1),
  ([108, 105, 104], 1, 1),
  ([109, 111, 118], 2, 0),
  ([97, 100, 100], 3, 0),
  ([115, 117, 98], 3, 0),
  ([109, 117, 108], 3, 0),
  ([100, 105, 118], 3, 0),
  ([114, 101, 109], 3, 0),
  ([97, 110, 100], 3, 0),
  ([111, 114], 3, 0),
  ([120, 111, 114], 3, 0),
  ([115, 104, 108], 3, 0),
  ([115, 104, 114], 3, 0),
  ([97, 100, 100, 105], 2, 1),
  ([115, 108, 116], 3, 0),
  ([115, 108, 116, 117], 3, 0),
  ([115, 101, 113], 3, 0),
  ([106, 109, 112], 0, 2),
  ([98, 101, 113, 122], 1, 2),
  ([98, 110, 101, 122], 1, 2),
  ([106, 97, 108], 1, 2),
  ([106, 114], 1, 0),
  ([108, 100], 2, 1),
  ([115, 116], 2, 1),
  ([115, 121, 115], 0, 1),
  ([121, 105, 101, 108, 100], 0, 0),
  ([110, 111, 112], 0, 0)]
def fmtN (k : Nat) : List UInt8 × Nat × Nat := fmtTab.getD k ([], 0, 0)
def regB (f i : Nat) (r : Int) : Bool := decide (0 ≤ r) && decide (r < 16) && (decide (i < f) || decide (r = 0))
/-- The error of an instruction in a program of n instructions, of a format with fr registers and fi asx what Imm holds. -/
def chkF (fr fi : Nat) (x : GIns) (n : Nat) : Int :=
  if (regB fr 0 x.a && regB fr 1 x.b && regB fr 2 x.c) = false then 70
  else if fi = 0 ∧ x.imm ≠ 0 then 70
  else if fi = 2 ∧ (x.imm < 0 ∨ (n : Int) ≤ x.imm) then 71 else 0
def chkI (x : GIns) (n : Nat) : Int := if x.op < 0 ∨ 28 ≤ x.op then 70 else chkF (fmtN x.op.toNat).2.1 (fmtN x.op.toNat).2.2 x n
def valL (n : Nat) : List GIns → Int
  | [] => 0
  | x :: r => if chkI x n ≠ 0 then chkI x n else valL n r
def valP (p : List GIns) : Int := if p.length = 0 ∨ 4096 < p.length then 15 else valL p.length p

/-- The first of k, k + 1, .. (m of them) that is so. -/
def firstN (f : Nat → Bool) (k : Nat) : Nat → Option Nat
  | 0 => none
  | m + 1 => if f k then some k else firstN f (k + 1) m
def regW (n : Nat) : List UInt8 := if n < 10 then [114, UInt8.ofNat (48 + n)] else [114, 49, UInt8.ofNat (38 + n)]
def regNo (s : List UInt8) : Option Nat := firstN (fun n => decide (regW n = s)) 0 16
def opNo (s : List UInt8) : Option Nat := firstN (fun n => decide ((fmtN n).1 = s)) 0 28
theorem firstN_lt {f : Nat → Bool} : ∀ {m k n : Nat}, firstN f k m = some n → k ≤ n ∧ n < k + m ∧ f n = true
  | 0, k, n, h => by simp [firstN] at h
  | m + 1, k, n, h => by
    rw [firstN] at h
    by_cases hf : f k = true
    · rw [if_pos hf] at h
      injection h with h
      subst h
      exact ⟨Nat.le_refl _, by omega, hf⟩
    · rw [if_neg hf] at h
      obtain ⟨h1, h2, h3⟩ := firstN_lt h
      exact ⟨by omega, by omega, h3⟩
theorem firstN_step {f : Nat → Bool} {k m : Nat} (h : k < m) : firstN f k (m - k) = if f k then some k else firstN f (k + 1) (m - (k + 1)) := by
  obtain ⟨d, hd⟩ : ∃ d, m - k = d + 1 := ⟨m - k - 1, by omega⟩
  rw [hd, firstN, show m - (k + 1) = d by omega]

end Go.Proofs.YtahhmgoffdggpaaGreatDoor


namespace Go.Proofs.YtahhmgoffdggpaaGreatDoor

open Go.RowKit

/-- The table of formats in memory. -/
def Fmts (w : World) : Prop := ∀ k, k < 28 → w.cell? ⟨0, k * 3, none⟩ = some (.string ⟨(fmtN k).1.toArray⟩) ∧ w.cell? ⟨0, k * 3 + 1, none⟩ = some (.int .i64 (fmtN k).2.1) ∧ w.cell? ⟨0, k * 3 + 2, none⟩ = some (.int .i64 (fmtN k).2.2)
def GlobF (w : World) : Prop := 0 < w.heap.size ∧ Fmts w
theorem GlobF.next {w w' : World} (h : GlobF w) (hb : Below w.heap.size w w') : GlobF w' :=
  ⟨by have := h.1; have := hb.size; omega, fun k hk => by
    obtain ⟨h1, h2, h3⟩ := h.2 k hk
    exact ⟨(hb.cell (p := ⟨0, k * 3, none⟩) h.1).trans h1, (hb.cell (p := ⟨0, k * 3 + 1, none⟩) h.1).trans h2, (hb.cell (p := ⟨0, k * 3 + 2, none⟩) h.1).trans h3⟩⟩
theorem fmt_imm (k : Nat) : (fmtN k).2.2 = 0 ∨ (fmtN k).2.2 = 1 ∨ (fmtN k).2.2 = 2 := by
  rcases Nat.lt_or_ge k 28 with h | h
  · have : ∀ k : Fin 28, (fmtN k).2.2 = 0 ∨ (fmtN k).2.2 = 1 ∨ (fmtN k).2.2 = 2 := by decide +kernel
    exact this ⟨k, h⟩
  · left
    unfold fmtN
    rw [List.getD_eq_getElem?_getD, List.getElem?_eq_none (by show 28 ≤ k; exact h)]; rfl
theorem registers_any (x : GIns) (w : World) : Calls Tryz.prog 45 #[x.val] w fun e w' => e = .returned (.agg #[.int .i64 x.a, .int .i64 x.b, .int .i64 x.c]) ∧ Below w.heap.size w w' := by
  unfold GIns.val
  go_enter Tryz.func45, Tryz.ntmps45
  go_wp2
  refine bodyPost_ret (v := .agg #[.int .i64 x.a, .int .i64 x.b, .int .i64 x.c]) (by simp [results, Tryz.results45, go_sem]) rfl ⟨rfl, ?_⟩
  exact (((Below.refl w.heap.size w).alloc (Nat.le_refl _) _).alloc (by simp) _)
set_option maxRecDepth 50000 in
set_option maxHeartbeats 1000000 in
theorem check_any (x : GIns) (n : Nat) (w : World) (hG : GlobF w) (hi : -2147483648 ≤ x.imm ∧ x.imm ≤ 2147483647) : Calls Tryz.prog 20 #[x.val, .int .i64 n] w fun e w' => e = .returned (.int .i64 (chkI x n)) ∧ Below w.heap.size w w' := by
  have HG := Lib.hid hG
  have HR := Lib.hid fun W => registers_any x W
  have HD : Hid (chkI x n = if x.op < 0 ∨ 28 ≤ x.op then 70 else chkF (fmtN x.op.toNat).2.1 (fmtN x.op.toNat).2.2 x n) := Lib.hid rfl
  generalize chkI x n = er at *
  obtain ⟨xo, xa, xb, xc, xi⟩ := x
  simp only [GIns.val] at *
  have HI : Hid (IntKind.i64.wrap xi = xi) := Lib.hid (IntWalk.i64_in _ (by omega))
  clear hG hi
  by_cases h0 : xo < 0
  · have HE : Hid (er = 70) := Lib.hid (by rw [HD.out, if_pos (.inl h0)])
    have f0 : decide (xo < 0) = true := by simp [h0]
    go_enter Tryz.func20, Tryz.ntmps20
    go_wp2
    go_ret
    exact ⟨ret_int HE.out.symm, (Below.refl _ _).alloc (Nat.le_refl _) _⟩
  by_cases h1 : 28 ≤ xo
  · have HE : Hid (er = 70) := Lib.hid (by rw [HD.out, if_pos (.inr h1)])
    have f0 : decide (xo < 0) = false := by simp [h0]
    have f1 : decide (28 ≤ xo) = true := by simp [h1]
    go_enter Tryz.func20, Tryz.ntmps20
    go_wp2
    go_ret
    exact ⟨ret_int HE.out.symm, (Below.refl _ _).alloc (Nat.le_refl _) _⟩
  obtain ⟨k, rfl⟩ : ∃ k : Nat, xo = k := ⟨xo.toNat, by omega⟩
  have hk : k < 28 := by omega
  rw [if_neg (by omega)] at HD
  simp only [Int.toNat_natCast] at HD
  obtain ⟨q0, q1, q2⟩ := HG.out.2 k hk
  have hgl := HG.out.1
  generalize fmtN k = f at *
  obtain ⟨fs, fr, fi⟩ := f
  simp only at HD q0 q1 q2
  have f0 : decide ((k : Int) < 0) = false := by simp
  have f1 : decide ((28 : Int) ≤ k) = false := by simp; omega
  go_enter Tryz.func20, Tryz.ntmps20
  go_wp2_with fail
  go_fit (HR.out _)
  rintro e w2 ⟨rfl, hb2⟩
  have hz2 : w.heap.size + 1 + 1 ≤ w2.heap.size := by have := hb2.size; simpa using this
  have hB : Below w.heap.size w w2 := (((Below.refl w.heap.size w).alloc (Nat.le_refl _) _).alloc (by simp) _).trans (hb2.mono (by simp; omega))
  have HB := Lib.hid hB
  have c1 : w2.cell? ⟨w.heap.size + 1, 1, none⟩ = some (.int .i64 fr) := (World.cell?_of_block (a := ⟨w.heap.size + 1, 1, none⟩) (hb2.block _ (by simp))).trans (by go_simp)
  have c2 : w2.cell? ⟨w.heap.size + 1, 2, none⟩ = some (.int .i64 fi) := (World.cell?_of_block (a := ⟨w.heap.size + 1, 2, none⟩) (hb2.block _ (by simp))).trans (by go_simp)
  have c3 : w2.cell? ⟨w.heap.size, 4, none⟩ = some (.int .i32 xi) := (World.cell?_of_block (a := ⟨w.heap.size, 4, none⟩) (hb2.block _ (by simp; omega))).trans (by go_simp)
  clear hb2 hB q0 q1 q2 HR hz2
  have i0 : ∀ W : World, (Instr.index 96 (.agg #[.int .i64 xa, .int .i64 xb, .int .i64 xc]) (.int .i64 0)).run Tryz.prog W = .ok (.int .i64 xa) W := fun W => by kernel_rfl
  have i1 : ∀ W : World, (Instr.index 96 (.agg #[.int .i64 xa, .int .i64 xb, .int .i64 xc]) (.int .i64 1)).run Tryz.prog W = .ok (.int .i64 xb) W := fun W => by kernel_rfl
  have i2 : ∀ W : World, (Instr.index 96 (.agg #[.int .i64 xa, .int .i64 xb, .int .i64 xc]) (.int .i64 2)).run Tryz.prog W = .ok (.int .i64 xc) W := fun W => by kernel_rfl
  go_wp2
  go_loopw [22] (fun vi wr => ∃ j : Nat, vi = .int .i64 j ∧ j ≤ 3 ∧ wr = w2 ∧ Hid (0 < j → regB fr 0 xa = true) ∧ Hid (1 < j → regB fr 1 xb = true) ∧ Hid (2 < j → regB fr 2 xc = true)) (fun vi _ => 3 - (intOf vi).toNat)
  case atStart => exact ⟨0, rfl, by omega, rfl, Lib.hid (by omega), Lib.hid (by omega), Lib.hid (by omega)⟩
  case round =>
    obtain ⟨j, rfl, hj, rfl, H0, H1, H2⟩ := hrel
    rcases (by omega : j = 0 ∨ j = 1 ∨ j = 2 ∨ j = 3) with rfl | rfl | rfl | rfl
    · by_cases a0 : xa < 0
      · have HN : Hid (regB fr 0 xa = false) := Lib.hid (by unfold regB; simp; omega)
        have g0 : decide (xa < 0) = true := by simp [a0]
        go_wp2
        go_ret
        exact ⟨ret_int (by rw [HD.out]; unfold chkF; rw [if_pos (by simp [HN.out])]), HB.out⟩
      by_cases a1 : 16 ≤ xa
      · have HN : Hid (regB fr 0 xa = false) := Lib.hid (by unfold regB; simp; omega)
        have g0 : decide (xa < 0) = false := by simp [a0]
        have g1 : decide (16 ≤ xa) = true := by simp [a1]
        go_wp2
        go_ret
        exact ⟨ret_int (by rw [HD.out]; unfold chkF; rw [if_pos (by simp [HN.out])]), HB.out⟩
      have g0 : decide (xa < 0) = false := by simp [a0]
      have g1 : decide (16 ≤ xa) = false := by simp [a1]
      by_cases a2 : fr ≤ 0
      · obtain rfl : fr = 0 := by omega
        have g2 : True := trivial
        by_cases a3 : xa = 0
        · have HY : Hid (regB 0 0 xa = true) := Lib.hid (by unfold regB; simp [a3])
          have g3 : (xa != 0) = false := by simp [a3]
          clear a3
          clear a2
          go_wp2
          clear g2
          go_round
          case rel => exact ⟨1, by go_num, by omega, (by first | rfl | trivial), Lib.hid (fun _ => HY.out), Lib.hid (by omega), Lib.hid (by omega)⟩
          case measure => simp [intOf]
        · have HN : Hid (regB 0 0 xa = false) := Lib.hid (by unfold regB; simp [a3])
          have g3 : (xa != 0) = true := by simp [a3]
          clear a3
          go_wp2
          go_ret
          exact ⟨ret_int (by rw [HD.out]; unfold chkF; rw [if_pos (by simp [HN.out])]), HB.out⟩
      · have HY : Hid (regB fr 0 xa = true) := Lib.hid (by unfold regB; rw [decide_eq_true (by omega : 0 ≤ xa), decide_eq_true (by omega : xa < 16), decide_eq_true (by omega : 0 < fr)]; rfl)
        have g2 : ¬ fr = 0 := by omega
        clear a2
        go_wp2
        go_round
        case rel => exact ⟨1, by go_num, by omega, (by first | rfl | trivial), Lib.hid (fun _ => HY.out), Lib.hid (by omega), Lib.hid (by omega)⟩
        case measure => simp [intOf]
    · by_cases a0 : xb < 0
      · have HN : Hid (regB fr 1 xb = false) := Lib.hid (by unfold regB; simp; omega)
        have g0 : decide (xb < 0) = true := by simp [a0]
        go_wp2
        go_ret
        exact ⟨ret_int (by rw [HD.out]; unfold chkF; rw [if_pos (by simp [HN.out])]), HB.out⟩
      by_cases a1 : 16 ≤ xb
      · have HN : Hid (regB fr 1 xb = false) := Lib.hid (by unfold regB; simp; omega)
        have g0 : decide (xb < 0) = false := by simp [a0]
        have g1 : decide (16 ≤ xb) = true := by simp [a1]
        go_wp2
        go_ret
        exact ⟨ret_int (by rw [HD.out]; unfold chkF; rw [if_pos (by simp [HN.out])]), HB.out⟩
      have g0 : decide (xb < 0) = false := by simp [a0]
      have g1 : decide (16 ≤ xb) = false := by simp [a1]
      by_cases a2 : fr ≤ 1
      · have g2 : decide ((fr : Int) ≤ 1) = true := by simp; omega
        by_cases a3 : xb = 0
        · have HY : Hid (regB fr 1 xb = true) := Lib.hid (by unfold regB; simp [a3])
          have g3 : (xb != 0) = false := by simp [a3]
          clear a3
          clear a2
          go_wp2
          clear g2
          go_round
          case rel => exact ⟨2, by go_num, by omega, (by first | rfl | trivial), Lib.hid (fun _ => H0.out (by omega)), Lib.hid (fun _ => HY.out), Lib.hid (by omega)⟩
          case measure => simp [intOf]
        · have HN : Hid (regB fr 1 xb = false) := Lib.hid (by unfold regB; simp [a3]; omega)
          have g3 : (xb != 0) = true := by simp [a3]
          clear a3
          go_wp2
          go_ret
          exact ⟨ret_int (by rw [HD.out]; unfold chkF; rw [if_pos (by simp [HN.out])]), HB.out⟩
      · have HY : Hid (regB fr 1 xb = true) := Lib.hid (by unfold regB; rw [decide_eq_true (by omega : 0 ≤ xb), decide_eq_true (by omega : xb < 16), decide_eq_true (by omega : 1 < fr)]; rfl)
        have g2 : decide ((fr : Int) ≤ 1) = false := by simp; omega
        clear a2
        go_wp2
        go_round
        case rel => exact ⟨2, by go_num, by omega, (by first | rfl | trivial), Lib.hid (fun _ => H0.out (by omega)), Lib.hid (fun _ => HY.out), Lib.hid (by omega)⟩
        case measure => simp [intOf]
    · by_cases a0 : xc < 0
      · have HN : Hid (regB fr 2 xc = false) := Lib.hid (by unfold regB; simp; omega)
        have g0 : decide (xc < 0) = true := by simp [a0]
        go_wp2
        go_ret
        exact ⟨ret_int (by rw [HD.out]; unfold chkF; rw [if_pos (by simp [HN.out])]), HB.out⟩
      by_cases a1 : 16 ≤ xc
      · have HN : Hid (regB fr 2 xc = false) := Lib.hid (by unfold regB; simp; omega)
        have g0 : decide (xc < 0) = false := by simp [a0]
        have g1 : decide (16 ≤ xc) = true := by simp [a1]
        go_wp2
        go_ret
        exact ⟨ret_int (by rw [HD.out]; unfold chkF; rw [if_pos (by simp [HN.out])]), HB.out⟩
      have g0 : decide (xc < 0) = false := by simp [a0]
      have g1 : decide (16 ≤ xc) = false := by simp [a1]
      by_cases a2 : fr ≤ 2
      · have g2 : decide ((fr : Int) ≤ 2) = true := by simp; omega
        by_cases a3 : xc = 0
        · have HY : Hid (regB fr 2 xc = true) := Lib.hid (by unfold regB; simp [a3])
          have g3 : (xc != 0) = false := by simp [a3]
          clear a3
          clear a2
          go_wp2
          clear g2
          go_round
          case rel => exact ⟨3, by go_num, by omega, (by first | rfl | trivial), Lib.hid (fun _ => H0.out (by omega)), Lib.hid (fun _ => H1.out (by omega)), Lib.hid (fun _ => HY.out)⟩
          case measure => simp [intOf]
        · have HN : Hid (regB fr 2 xc = false) := Lib.hid (by unfold regB; simp [a3]; omega)
          have g3 : (xc != 0) = true := by simp [a3]
          clear a3
          go_wp2
          go_ret
          exact ⟨ret_int (by rw [HD.out]; unfold chkF; rw [if_pos (by simp [HN.out])]), HB.out⟩
      · have HY : Hid (regB fr 2 xc = true) := Lib.hid (by unfold regB; rw [decide_eq_true (by omega : 0 ≤ xc), decide_eq_true (by omega : xc < 16), decide_eq_true (by omega : 2 < fr)]; rfl)
        have g2 : decide ((fr : Int) ≤ 2) = false := by simp; omega
        clear a2
        go_wp2
        go_round
        case rel => exact ⟨3, by go_num, by omega, (by first | rfl | trivial), Lib.hid (fun _ => H0.out (by omega)), Lib.hid (fun _ => H1.out (by omega)), Lib.hid (fun _ => HY.out)⟩
        case measure => simp [intOf]
    · have HA : Hid ((regB fr 0 xa && regB fr 1 xb && regB fr 2 xc) = false ↔ False) := Lib.hid (by rw [H0.out (by omega), H1.out (by omega), H2.out (by omega)]; simp)
      have HD2 : Hid (er = if fi = 0 ∧ xi ≠ 0 then 70 else if fi = 2 ∧ (xi < 0 ∨ (n : Int) ≤ xi) then 71 else 0) := Lib.hid (by rw [HD.out]; unfold chkF; rw [if_neg (fun h => HA.out.1 h)])
      clear H0 H1 H2 HA HD
      clear f0 f1 i0 i1 i2 h0 h1
      have hw := HI.out
      rcases (by omega : fi = 0 ∨ fi = 2 ∨ (fi ≠ 0 ∧ fi ≠ 2)) with rfl | rfl | ⟨z0, z2⟩
      · by_cases x0 : xi = 0
        · have g3 : (xi != 0) = false := by simp [x0]
          have HX := Lib.hid x0
          clear x0
          go_wp2
          go_ret
          exact ⟨ret_int (by rw [HD2.out]; simp [HX.out]), HB.out⟩
        · have g3 : (xi != 0) = true := by simp [x0]
          have HX := Lib.hid x0
          clear x0
          go_wp2
          go_ret
          exact ⟨ret_int (by rw [HD2.out]; simp [HX.out]), HB.out⟩
      · by_cases x0 : xi < 0
        · have g3 : decide (xi < 0) = true := by simp [x0]
          have HX := Lib.hid x0
          go_wp2
          go_ret
          exact ⟨ret_int (by rw [HD2.out]; simp [HX.out]), HB.out⟩
        · have g3 : decide (xi < 0) = false := by simp [x0]
          by_cases x1 : (n : Int) ≤ xi
          · have g4 : decide ((n : Int) ≤ xi) = true := by simp [x1]
            have HX := Lib.hid x1
            go_wp2
            go_ret
            exact ⟨ret_int (by rw [HD2.out]; simp [HX.out]), HB.out⟩
          · have g4 : decide ((n : Int) ≤ xi) = false := by simp [x1]
            have HX := Lib.hid x1
            have HX0 := Lib.hid x0
            go_wp2
            go_ret
            exact ⟨ret_int (by rw [HD2.out]; simp [HX.out, HX0.out]), HB.out⟩
      · have g3 : ¬ (fi : Int) = 0 := by omega
        have g4 : ¬ (fi : Int) = 2 := by omega
        have HX := Lib.hid z0
        have HX0 := Lib.hid z2
        go_wp2
        go_ret
        exact ⟨ret_int (by rw [HD2.out]; simp [HX.out, HX0.out]), HB.out⟩
end Go.Proofs.YtahhmgoffdggpaaGreatDoor
