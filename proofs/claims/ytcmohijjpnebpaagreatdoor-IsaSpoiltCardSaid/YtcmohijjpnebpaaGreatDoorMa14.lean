/-
  A map from strings to ints that the call has made, as the list of what was stored: made, read with 'ok', written and carried; over whatever program.
  Conditions: none beyond what each theorem says.
  The assembler's state in memory: which blocks it owns, how it is carried, opened and written.
  Conditions: none beyond what each theorem says.
  The assembler's small methods: throw, isMark, take, skip, mark, number, comma.
  Conditions: the tokens end with one of kind 0, and no other has that kind.
-/
import Derived.Maps.OwnSet
import Derived.Below
import Derived.Test.YtcmohijjpnebpaaGreatDoorMa13
import Derived.Deep.DeepFit
import Derived.Test.YtcmohijjpnebpaaGreatDoorMa7
import Derived.Test.YtcmohijjpnebpaaGreatDoorMa1
import Derived.WalkSmall
namespace Go.Proofs.YtcmohijjpnebpaaGreatDoor

open Go.RowKit Go.Maps

/-- The block b is a map of at most n entries; S says what lies at each key. -/
def IMap (w : World) (P : Program) (k e : TypeId) (b n : Nat) (S : Lit → Option Int) : Prop :=
  ∃ D : DataW Unit, w.ownsMap P k (plainElem P e) b n D ∧ (∀ kl z, D.atKey kl z = match S kl with | some v => .lit (.int .i64 v) | none => z) ∧ ∀ kl, Maps.has D kl = (S kl).isSome
section

variable {P : Program} {k e t : TypeId} {w : World} {b n : Nat} {S : Lit → Option Int}

theorem IMap.made (w : World) (P : Program) (k e : TypeId) : IMap (w.alloc (.map #[] 0)) P k e w.heap.size 0 (fun _ => none) :=
  ⟨_, World.ownsMap_made w P k _, fun _ _ => rfl, fun _ => rfl⟩
theorem IMap.lt (h : IMap w P k e b n S) : b < w.heap.size := by obtain ⟨D, h, _⟩ := h; exact h.lt
theorem IMap.mono (h : IMap w P k e b n S) {n' : Nat} (hn : n ≤ n') : IMap w P k e b n' S := by obtain ⟨D, h, h2⟩ := h; exact ⟨D, h.mono hn, h2⟩
theorem IMap.kept {w' : World} {row : Option Nat} (h : IMap w P k e b n S) (hg : w.grownBy w' row) (hne : some b ≠ row) : IMap w' P k e b n S := by obtain ⟨D, h, h2⟩ := h; exact ⟨D, h.kept hg hne, h2⟩
theorem IMap.keep {w' : World} (h : IMap w P k e b n S) (hb : w'.heap[b]? = w.heap[b]?) : IMap w' P k e b n S := by
  obtain ⟨D, ⟨es, clock, h0, rest⟩, h2⟩ := h
  exact ⟨D, ⟨es, clock, hb.trans h0, rest⟩, h2⟩
/-- 'v, ok := m[k]': the world does not turn. -/
theorem IMap.look (h : IMap w P k e b n S) (K : Keyed P k) (ht : P.underlying t = some (.map k e)) (he : P.underlying e = some (.int .i64)) (hz : (zeroValue e).run P w = .ok (.int .i64 0) w)
    {key : Value} {kl : Lit} (hkey : keyOf P k key = some kl) : (Instr.lookup t (.map (some b)) key true).run P w = .ok (.tuple #[.int .i64 ((S kl).getD 0), .bool (S kl).isSome]) w := by
  obtain ⟨D, h, h2, h3⟩ := h
  obtain ⟨v, ps, hrun, hv⟩ := h.look_ok K ht hz (plainElem_int he (by decide)) hkey
  obtain ⟨c, rfl, hc, _⟩ := plainElem_int_inv he hv
  simp only [Prod.mk.injEq] at hc
  have e1 := (h2 kl (.lit (.int .i64 0))).symm.trans hc.1
  rw [h3] at hrun
  cases hS : S kl with
  | none =>
    rw [hS] at e1 hrun
    simp only at e1
    injection e1 with e1
    injection e1 with _ e1
    rw [hrun, ← e1]; rfl
  | some v =>
    rw [hS] at e1 hrun
    simp only at e1
    injection e1 with e1
    injection e1 with _ e1
    rw [hrun, ← e1]; rfl
/-- 'm[k] = v': some world in which v lies at the key; nothing else has turned. -/
theorem IMap.put (h : IMap w P k e b n S) (K : Keyed P k) (ht : P.underlying t = some (.map k e)) (he : P.underlying e = some (.int .i64)) (hn : n < maxLen) {key : Value} {kl : Lit} (hkey : keyOf P k key = some kl) {v : Int} (hv : (Lit.int .i64 v).wf = true) :
    ∃ w', (Instr.mapUpdate t (.map (some b)) key (.int .i64 v)).run P w = .ok () w' ∧ IMap w' P k e b (n + 1) (fun x => if x.sameKey kl then some v else S x) ∧ w.grownBy w' (some b) := by
  obtain ⟨D, h, h2, h3⟩ := h
  obtain ⟨w', hrun, ho, hg⟩ := h.update K ht hn hkey (plainElem_int he hv)
  refine ⟨w', hrun, ⟨_, ho, fun x z => ?_, fun x => ?_⟩, hg⟩
  · by_cases hx : x = kl
    · subst hx
      rw [atKey_put_same h.isMap (K.key hkey)]
      simp only [WideAt.sameKey_self (K.key hkey), if_true]
    · rw [atKey_put_other hx, h2]
      simp only [sameKey_ne hx, Bool.false_eq_true, if_false]
  · by_cases hx : x = kl
    · subst hx
      simp only [has_put_same h.isMap (K.key hkey), WideAt.sameKey_self (K.key hkey), if_true, Option.isSome_some]
    · simp only [has_put_other hx, h3, sameKey_ne hx, Bool.false_eq_true, if_false]
end

end Go.Proofs.YtcmohijjpnebpaaGreatDoor


namespace Go.Proofs.YtcmohijjpnebpaaGreatDoor

open Go.RowKit

def TA : TypeId := 124
theorem elt_ins : Elt 22 52 5 40 := Elt.of (.agg #[.int .i64 0, .int .i64 0, .int .i64 0, .int .i64 0, .int .i32 0]) Tryz.underlying22 (by kernel_rfl) rfl (by decide)
theorem elt_ref : Elt 122 143 6 56 := Elt.of (.agg #[.int .i64 0, .string ⟨#[]⟩, .int .u64 0, .int .i64 0, .int .i64 0, .int .i64 0]) Tryz.underlying122 (by kernel_rfl) rfl (by decide)
/-- From w to w' nothing has turned but the blocks of O and new ones; what is owned then was owned or is new. -/
structure Fr (w : World) (O : Nat → Prop) (w' : World) (O' : Nat → Prop) : Prop where
  os : w'.os = w.os
  tape : w'.tape = w.tape
  output : w'.output = w.output
  size : w.heap.size ≤ w'.heap.size
  block : ∀ g, g < w.heap.size → ¬ O g → w'.heap[g]? = w.heap[g]?
  own : ∀ g, O' g → O g ∨ w.heap.size ≤ g
section

variable {w w1 w2 w' : World} {O O1 O2 O' : Nat → Prop}

theorem Fr.refl (w : World) (O : Nat → Prop) : Fr w O w O := ⟨rfl, rfl, rfl, Nat.le_refl _, fun _ _ _ => rfl, fun _ h => .inl h⟩
theorem Fr.trans (h : Fr w O w1 O1) (k : Fr w1 O1 w2 O2) : Fr w O w2 O2 :=
  ⟨k.os.trans h.os, k.tape.trans h.tape, k.output.trans h.output, Nat.le_trans h.size k.size,
    fun g hg hO => (k.block g (Nat.lt_of_lt_of_le hg h.size) (fun h1 => by rcases h.own g h1 with h2 | h2; exact hO h2; omega)).trans (h.block g hg hO),
    fun g hg => by rcases k.own g hg with h1 | h1; exact h.own g h1; exact .inr (Nat.le_trans h.size h1)⟩
theorem Fr.below (hb : Below w.heap.size w w') : Fr w O w' O := ⟨hb.os, hb.tape, hb.output, hb.size, fun g hg _ => hb.block g hg, fun _ h => .inl h⟩
theorem Fr.lit (h : Fr w O w1 O1) (o : Obj) : Fr w O (w1.alloc o) O1 := h.trans (Fr.below ((Below.refl _ _).alloc (Nat.le_refl _) o))
theorem Fr.next (h : Fr w O w1 O1) (hb : Below w1.heap.size w1 w2) : Fr w O w2 O1 := h.trans (Fr.below hb)
theorem Fr.set (h : Fr w O w1 O1) (a : Addr) (v : Value) (ha : O a.block ∨ w.heap.size ≤ a.block) : Fr w O (w1.setCell a v) O1 :=
  ⟨h.os, h.tape, h.output, by have := h.size; simp; omega, fun g hg hO => (Below.heap_setCell _ _ _ g (fun e => by subst e; rcases ha with h1 | h1; exact hO h1; omega)).trans (h.block g hg hO), h.own⟩
theorem Fr.grown {q : Option Nat} (h : Fr w O w1 O1) (hg : w1.grownBy w2 q) (hq : ∀ g, q = some g → O g ∨ w.heap.size ≤ g) : Fr w O w2 O1 :=
  ⟨hg.os.trans h.os, hg.tape.trans h.tape, hg.output.trans h.output, Nat.le_trans h.size hg.size,
    fun g hg1 hO => (hg.block g (Nat.lt_of_lt_of_le hg1 h.size) (fun e => by rcases hq g e.symm with h1 | h1; exact hO h1; omega)).trans (h.block g hg1 hO), h.own⟩
theorem Fr.owns (h : Fr w O w1 O1) (hO : ∀ g, O2 g → O g ∨ w.heap.size ≤ g) : Fr w O w1 O2 := ⟨h.os, h.tape, h.output, h.size, h.block, hO⟩
theorem Fr.bel {base : Nat} (h : Fr w O w1 O1) (hO : ∀ g, O g → base ≤ g) (hb : base ≤ w.heap.size) : Below base w w1 :=
  ⟨h.os, h.tape, h.output, h.size, fun g hg => h.block g (by omega) (fun h1 => by have := hO g h1; omega)⟩
end

def labS : List (List UInt8 × Nat) → Lit → Option Int
  | [], _ => none
  | (l, n) :: r, x => if x.sameKey (.string l) then some (n : Int) else labS r x
theorem labS_of (l : List (List UInt8 × Nat)) (s : List UInt8) : labS l (.string s) = (labOf l s).map fun n => (n : Int) := by
  induction l with
  | nil => rfl
  | cons x r ih =>
    obtain ⟨a, n⟩ := x
    simp only [labS, labOf]
    have hk : (Lit.string s).sameKey (.string a) = decide (s = a) := by
      by_cases h : s = a
      · subst h; rw [Go.WideAt.sameKey_self (a := Lit.string s) (by trivial)]; simp
      · rw [Go.Maps.sameKey_ne (by intro e; injection e with e; exact h e)]; simp [h]
    rw [hk, ih]
    by_cases h : s = a
    · simp [h]
    · simp [h]
/-- The assembler in block p has the state s: A, c its tokens' row, pv its program, m its labels, ov its open operands. -/
structure StX (base p : Nat) (O : Nat → Prop) (w : World) (s : ASt) (A : Option Addr) (c : Nat) (pv : Value) (m : Nat) (ov : Value) : Prop where
  lo : ∀ g, O g → base ≤ g
  hi : ∀ g, O g → g < w.heap.size
  bw : base ≤ w.heap.size
  op : O p
  om : O m
  opv : ∀ g, pv.ownBlock = some g → O g
  oov : ∀ g, ov.ownBlock = some g → O g
  hmp : m ≠ p
  hpv : pv.ownBlock ≠ some p ∧ pv.ownBlock ≠ some m
  hov : ov.ownBlock ≠ some p ∧ ov.ownBlock ≠ some m
  hpo : ∀ g, pv.ownBlock = some g → ov.ownBlock ≠ some g
  hh : w.heap[p]? = some (.cells #[.slice A s.ts.length c, pv, .map (some m), ov] TA (0, 0))
  hc : s.ts.length ≤ c
  hm : c ≤ maxLen
  ends : TEnds s.ts
  row : GRow GTok.cells 5 w base A s.ts
  prog : OwnG GIns.cells 52 5 w base pv s.prog
  refs : OwnG GRef.cells 143 6 w base ov s.refs
  labs : IMap w Tryz.prog 9 3 m s.labs.length (labS s.labs)
def St (base p : Nat) (O : Nat → Prop) (w : World) (s : ASt) : Prop := ∃ A c pv m ov, StX base p O w s A c pv m ov
section

variable {base p : Nat} {O : Nat → Prop} {w w' : World} {s : ASt} {A : Option Addr} {c m : Nat} {pv ov : Value}

theorem heap_lt {w : World} {g : Nat} {o : Obj} (h : w.heap[g]? = some o) : g < w.heap.size := by
  rcases Nat.lt_or_ge g w.heap.size with h1 | h1
  · exact h1
  · rw [Array.getElem?_eq_none h1] at h; cases h
theorem StX.lt (h : StX base p O w s A c pv m ov) : base ≤ p ∧ p < w.heap.size := ⟨h.lo p h.op, heap_lt h.hh⟩
theorem StX.mlt (h : StX base p O w s A c pv m ov) : base ≤ m ∧ m < w.heap.size := ⟨h.lo m h.om, h.labs.lt⟩
/-- Where the blocks that it needs are the same, the state is. -/
theorem StX.keep (h : StX base p O w s A c pv m ov) (hs : w.heap.size ≤ w'.heap.size) (hb : ∀ g, g < base ∨ O g → w'.heap[g]? = w.heap[g]?) : StX base p O w' s A c pv m ov :=
  { h with
    hi := fun g hg => Nat.lt_of_lt_of_le (h.hi g hg) hs
    bw := Nat.le_trans h.bw hs
    hh := (hb p (.inr h.op)).trans h.hh
    row := h.row.keep fun g hg => hb g (.inl hg)
    prog := h.prog.keep fun g hg => hb g (.inr (h.opv g hg))
    refs := h.refs.keep fun g hg => hb g (.inr (h.oov g hg))
    labs := h.labs.keep (hb m (.inr h.om)) }
theorem StX.next (h : StX base p O w s A c pv m ov) (hb : Below w.heap.size w w') : StX base p O w' s A c pv m ov :=
  h.keep hb.size fun g hg => hb.block g (by have := h.bw; rcases hg with h1 | h1; omega; exact h.hi g h1)
theorem StX.lit (h : StX base p O w s A c pv m ov) (o : Obj) : StX base p O (w.alloc o) s A c pv m ov := h.next ((Below.refl _ _).alloc (Nat.le_refl _) o)
/-- A store beside it. -/
theorem StX.other (h : StX base p O w s A c pv m ov) (a : Addr) (v : Value) (ha : base ≤ a.block) (hO : ¬ O a.block) : StX base p O (w.setCell a v) s A c pv m ov :=
  h.keep (by simp) fun g hg => Below.heap_setCell _ _ _ g (fun e => by subst e; rcases hg with h1 | h1; omega; exact hO h1)
theorem St.next (h : St base p O w s) (hb : Below w.heap.size w w') : St base p O w' s := by obtain ⟨A, c, pv, m, ov, h⟩ := h; exact ⟨A, c, pv, m, ov, h.next hb⟩
theorem St.lit (h : St base p O w s) (o : Obj) : St base p O (w.alloc o) s := h.next ((Below.refl _ _).alloc (Nat.le_refl _) o)
theorem St.other (h : St base p O w s) (a : Addr) (v : Value) (ha : base ≤ a.block) (hO : ¬ O a.block) : St base p O (w.setCell a v) s := by obtain ⟨A, c, pv, m, ov, h⟩ := h; exact ⟨A, c, pv, m, ov, h.other a v ha hO⟩
theorem St.lo (h : St base p O w s) : (∀ g, O g → base ≤ g) ∧ (∀ g, O g → g < w.heap.size) ∧ base ≤ w.heap.size := by obtain ⟨A, c, pv, m, ov, h⟩ := h; exact ⟨h.lo, h.hi, h.bw⟩
theorem St.lt (h : St base p O w s) : base ≤ p ∧ p < w.heap.size ∧ O p := by obtain ⟨A, c, pv, m, ov, h⟩ := h; exact ⟨h.lt.1, h.lt.2, h.op⟩
/-- The four fields. -/
theorem StX.cells (h : StX base p O w s A c pv m ov) : w.cell? ⟨p, 0, none⟩ = some (.slice A s.ts.length c) ∧ w.cell? ⟨p, 1, none⟩ = some pv ∧ w.cell? ⟨p, 2, none⟩ = some (.map (some m)) ∧ w.cell? ⟨p, 3, none⟩ = some ov ∧
    w.frozen? ⟨p, 0, none⟩ = false ∧ w.frozen? ⟨p, 1, none⟩ = false ∧ w.frozen? ⟨p, 2, none⟩ = false ∧ w.frozen? ⟨p, 3, none⟩ = false :=
  ⟨by rw [Lib.cell_of_heap h.hh]; rfl, by rw [Lib.cell_of_heap h.hh]; rfl, by rw [Lib.cell_of_heap h.hh]; rfl, by rw [Lib.cell_of_heap h.hh]; rfl, Lib.frozen_of_heap h.hh 0, Lib.frozen_of_heap h.hh 1, Lib.frozen_of_heap h.hh 2, Lib.frozen_of_heap h.hh 3⟩
/-- The token that comes next. -/
theorem StX.head (h : StX base p O w s A c pv m ov) {t : GTok} {r : List GTok} (hs : s.ts = t :: r) : ∃ b off, A = some ⟨b, off, none⟩ ∧ b < base ∧
    w.cell? ⟨b, off, none⟩ = some (.int .i64 t.kind) ∧ w.cell? ⟨b, off + 1, none⟩ = some (.string ⟨t.text.toArray⟩) ∧ w.cell? ⟨b, off + 2, none⟩ = some (.int .u64 t.value) ∧ w.cell? ⟨b, off + 3, none⟩ = some (.int .i64 t.line) ∧ w.cell? ⟨b, off + 4, none⟩ = some (.int .i64 t.col) := by
  have hr := h.row
  rw [hs] at hr
  obtain ⟨b, off, rfl, hb, hc⟩ := hr (by simp)
  have c := fun j u hu => hc 0 (by simp) j u hu
  simp only [Nat.zero_mul, Nat.zero_add, List.getElem_cons_zero] at c
  exact ⟨b, off, rfl, hb, c 0 _ rfl, c 1 _ rfl, c 2 _ rfl, c 3 _ rfl, c 4 _ rfl⟩
theorem heap_set {w : World} {b i : Nat} {cs : Array Value} {T : TypeId} (h : w.heap[b]? = some (.cells cs T (0, 0))) (v : Value) : (w.setCell ⟨b, i, none⟩ v).heap[b]? = some (.cells (cs.setIfInBounds i v) T (0, 0)) := by
  simp [World.setCell, Array.getElem?_modify, h]
/-- The tokens behind the first. -/
theorem StX.tail {b off : Nat} (h : StX base p O w s (some ⟨b, off, none⟩) c pv m ov) {t : GTok} {r : List GTok} (hs : s.ts = t :: r) (hk : t.kind ≠ 0) :
    StX base p O (w.setCell ⟨p, 0, none⟩ (.slice (some ⟨b, off + 5, none⟩) r.length (c - 1))) s.next (some ⟨b, off + 5, none⟩) (c - 1) pv m ov := by
  have hlt := h.lt
  have hc := h.hc
  have hm := h.hm
  have hr := h.row
  rw [hs] at hr hc
  simp only [List.length_cons] at hc
  have hts : s.next.ts = r := by show s.ts.tail = r; rw [hs]; rfl
  have hk0 := hk
  clear hk
  have hk : ∀ g, g ≠ p → (w.setCell ⟨p, 0, none⟩ (.slice (some ⟨b, off + 5, none⟩) r.length (c - 1))).heap[g]? = w.heap[g]? := fun g hg => Below.heap_setCell _ _ _ g hg
  exact { h with
    hi := fun g hg => by have := h.hi g hg; simpa using this
    bw := by simpa using h.bw
    hh := by rw [heap_set h.hh, hts]; rfl
    hc := by rw [hts]; omega
    hm := by omega
    ends := by
      have he := h.ends
      rw [hs] at he
      obtain ⟨_, u, r2, e, he2⟩ := he.more hk0
      rw [hts, e]; exact he2
    row := by rw [hts]; exact hr.tail.keep fun g hg => hk g (by omega)
    prog := h.prog.keep fun g hg => hk g (fun e => h.hpv.1 (by rw [hg, e]))
    refs := h.refs.keep fun g hg => hk g (fun e => h.hov.1 (by rw [hg, e]))
    labs := h.labs.keep (hk m h.hmp) }
/-- A local block that is not the assembler's. -/
structure Loc (O : Nat → Prop) (w : World) (N : Nat) (cs : Array Value) (T : TypeId) : Prop where
  heap : w.heap[N]? = some (.cells cs T (0, 0))
  out : ¬ O N
theorem Loc.fr {N : Nat} {cs : Array Value} {T : TypeId} {O' : Nat → Prop} (h : Loc O w N cs T) (hf : Fr w O w' O') : Loc O' w' N cs T :=
  ⟨(hf.block N (heap_lt h.heap) h.out).trans h.heap, fun h1 => by have := heap_lt h.heap; rcases hf.own N h1 with h2 | h2; exact h.out h2; omega⟩
end

/-- How a method of the assembler ends. -/
def failV (l c x : Int) : Value := .iface 119 (.agg #[.int .i64 l, .int .i64 c, .int .i64 x])
def mu (s : ASt) : Nat := 2 * s.ts.length + s.prog.length + s.refs.length + s.labs.length
def MEnd {α : Type} (base p : Nat) (O : Nat → Prop) (w : World) (s0 : ASt) (val : α → Value) (r : ARes α) (e : Ending) (w' : World) : Prop :=
  match r with
  | .ok v s => e = .returned (val v) ∧ mu s ≤ mu s0 ∧ ∃ O', St base p O' w' s ∧ Fr w O w' O'
  | .thr l c x => e = .panicked [{ v := failV l c x, recovered := false }] ∧ Below base w w'
end Go.Proofs.YtcmohijjpnebpaaGreatDoor


namespace Go.Proofs.YtcmohijjpnebpaaGreatDoor

open Go.RowKit

def GTok.tval (t : GTok) : Value := .agg #[.int .i64 t.kind, .string ⟨t.text.toArray⟩, .int .u64 t.value, .int .i64 t.line, .int .i64 t.col]
theorem throw_any (t : GTok) (x : Int) (w : World) : Calls Tryz.prog 96 #[t.tval, .int .i64 x] w fun e w' => e = .panicked [{ v := failV t.line t.col x, recovered := false }] ∧ Below w.heap.size w w' := by
  unfold GTok.tval
  have hp : ∀ (u : TypeId) (v : Value) (W : World), (Instr.panic (.iface u v)).run Tryz.prog W = .halt (.panic (.iface u v)) W := fun u v W => rfl
  go_enter Tryz.func96, Tryz.ntmps96
  go_wp2
  exact ⟨rfl, rfl, (Below.refl _ _).alloc (Nat.le_refl _) _⟩
theorem isMark_any (t : GTok) (m : List UInt8) (w : World) : Calls Tryz.prog 120 #[t.tval, .string ⟨m.toArray⟩] w fun e w' => e = .returned (.bool (isMk t m)) ∧ Below w.heap.size w w' := by
  have HD : Hid (isMk t m = (decide (t.kind = 4) && decide (t.text = m))) := Lib.hid rfl
  generalize isMk t m = q at *
  obtain ⟨tk, tt, tv, tl, tc⟩ := t
  simp only [GTok.tval] at *
  by_cases h1 : tk = 4
  · have f1 : (tk == 4) = true := by simp [h1]
    subst h1
    by_cases h2 : tt = m
    · have f2 : (tt == m) = true := by simp [h2]
      have HQ : Hid (q = true) := Lib.hid (by rw [HD.out]; simp [h2])
      have H2 := Lib.hid h2
      clear h2
      go_enter Tryz.func120, Tryz.ntmps120
      go_wp2
      go_ret
      exact ⟨ret_bool HQ.out.symm, (Below.refl _ _).alloc (Nat.le_refl _) _⟩
    · have f2 : (tt == m) = false := by simp [h2]
      have HQ : Hid (q = false) := Lib.hid (by rw [HD.out]; simp [h2])
      go_enter Tryz.func120, Tryz.ntmps120
      go_wp2
      go_ret
      exact ⟨ret_bool HQ.out.symm, (Below.refl _ _).alloc (Nat.le_refl _) _⟩
  · have f1 : (tk == 4) = false := by simp [h1]
    have HQ : Hid (q = false) := Lib.hid (by rw [HD.out]; simp [h1])
    go_enter Tryz.func120, Tryz.ntmps120
    go_wp2
    go_ret
    exact ⟨ret_bool HQ.out.symm, (Below.refl _ _).alloc (Nat.le_refl _) _⟩
/-- What a walk wants of the state. -/
theorem St.get {base p : Nat} {O : Nat → Prop} {w : World} {s : ASt} (h : St base p O w s) : ∃ t r b off c pv m ov, s.ts = t :: r ∧ s.hd = t ∧ StX base p O w s (some ⟨b, off, none⟩) c pv m ov ∧ b < base ∧ base ≤ p ∧ p < w.heap.size ∧ r.length + 1 ≤ c ∧ c ≤ maxLen ∧
    (w.cell? ⟨b, off, none⟩ = some (.int .i64 t.kind) ∧ w.cell? ⟨b, off + 1, none⟩ = some (.string ⟨t.text.toArray⟩) ∧ w.cell? ⟨b, off + 2, none⟩ = some (.int .u64 t.value) ∧ w.cell? ⟨b, off + 3, none⟩ = some (.int .i64 t.line) ∧ w.cell? ⟨b, off + 4, none⟩ = some (.int .i64 t.col)) ∧
    (w.cell? ⟨p, 0, none⟩ = some (.slice (some ⟨b, off, none⟩) (r.length + 1 : Nat) c) ∧ w.cell? ⟨p, 1, none⟩ = some pv ∧ w.cell? ⟨p, 2, none⟩ = some (.map (some m)) ∧ w.cell? ⟨p, 3, none⟩ = some ov ∧
    w.frozen? ⟨p, 0, none⟩ = false ∧ w.frozen? ⟨p, 1, none⟩ = false ∧ w.frozen? ⟨p, 2, none⟩ = false ∧ w.frozen? ⟨p, 3, none⟩ = false) := by
  obtain ⟨A, c, pv, m, ov, h⟩ := h
  have he := h.ends
  cases hts : s.ts with
  | nil => rw [hts] at he; exact he.elim
  | cons t r =>
    obtain ⟨b, off, rfl, hb, hx⟩ := h.head hts
    have hc := h.hc
    have hcl := h.cells
    rw [hts] at hc hcl
    exact ⟨t, r, b, off, c, pv, m, ov, rfl, by unfold ASt.hd; rw [hts]; rfl, h, hb, h.lt.1, h.lt.2, hc, h.hm, hx, hcl⟩
theorem mu_next {s : ASt} {t : GTok} {r : List GTok} (h : s.ts = t :: r) : mu s.next + 2 = mu s := by
  unfold mu ASt.next
  simp only [h, List.tail_cons, List.length_cons]
  omega
set_option maxRecDepth 50000 in
set_option maxHeartbeats 1000000 in
theorem atake_any (base p : Nat) (O : Nat → Prop) (s : ASt) (k : Int) (w : World) (h : St base p O w s) (hk0 : k ≠ 0) :
    Calls Tryz.prog 121 #[.pointer (some ⟨p, 0, none⟩), .int .i64 k] w (MEnd base p O w s GTok.tval (aTake k s)) := by
  have HS := Lib.hid h
  obtain ⟨t, r, b, off, c, pv, m, ov, hts, hhd, hX, hb, hbp, hpw, hc1, hc2, ⟨x0, x1, x2, x3, x4⟩, ⟨p0, p1, p2, p3, z0, z1, z2, z3⟩⟩ := h.get
  have HX := Lib.hid hX
  have HTS := Lib.hid hts
  have HD : Hid (aTake k s = if t.kind = k then .ok t s.next else thrAt t 50) := Lib.hid (by unfold aTake; rw [hhd])
  have HTH := Lib.hid fun W => throw_any t 50 W
  have HMU := Lib.hid (mu_next hts)
  have hbw : b < w.heap.size := by omega
  have hbn : b ≠ p := by omega
  generalize aTake k s = q at *
  by_cases hk : t.kind = k
  · have hmore := hX.ends
    rw [hts] at hmore
    obtain ⟨_, u, r2, hr2, _⟩ := hmore.more (by rw [hk]; exact hk0)
    have hl2 : 2 ≤ r.length + 1 := by rw [hr2]; simp
    have HQ : Hid (q = .ok t s.next) := Lib.hid (by rw [HD.out, if_pos hk])
    have HK : Hid (t.kind ≠ 0) := Lib.hid (by rw [hk]; exact hk0)
    have HT2 := Lib.hid (hX.tail hts (by rw [hk]; exact hk0))
    clear h hX hts hhd HD HTH HX hmore hr2 hk0
    obtain ⟨tk, tt, tv, tl, tc⟩ := t
    simp only at *
    subst hk
    have f1 : (tk != tk) = false := by simp
    have hn1 : ¬ c = 1 := by omega
    have hn2 : ¬ (1 : Int) = (c : Int) := by omega
    unfold maxLen at hc2
    generalize hrl : r.length = n at *
    go_enter Tryz.func121, Tryz.ntmps121
    go_wp2
    refine bodyPost_ret (v := .agg #[.int .i64 tk, .string ⟨tt.toArray⟩, .int .u64 tv, .int .i64 tl, .int .i64 tc]) (by simp [results, Tryz.results121, go_sem]) rfl ?_
    rw [HQ.out]
    exact ⟨rfl, by have := HMU.out; omega, O, ⟨_, _, _, _, _, (HT2.out.lit _).lit _⟩, (((Fr.refl w O).set ⟨p, 0, none⟩ _ (.inl HS.out.lt.2.2)).lit _).lit _⟩
  · have HQ : Hid (q = thrAt t 50) := Lib.hid (by rw [HD.out, if_neg hk])
    have f1 : (t.kind != k) = true := by simp [hk]
    clear h hX hts hhd HD HX
    go_enter Tryz.func121, Tryz.ntmps121
    go_wp2_with fail
    go_fit (HTH.out _)
    rintro e w1 ⟨rfl, hb1⟩
    have HB1 := Lib.hid (bel_alloc (bel_lit (Below.refl _ w) _) hb1)
    clear hb1
    go_wp2
    refine ⟨rfl, ?_⟩
    rw [HQ.out]
    exact ⟨rfl, HB1.out.mono HS.out.lo.2.2⟩
set_option maxRecDepth 50000 in
set_option maxHeartbeats 1000000 in
theorem skip_any (base p : Nat) (O : Nat → Prop) (s : ASt) (mk : List UInt8) (w : World) (h : St base p O w s) :
    Calls Tryz.prog 140 #[.pointer (some ⟨p, 0, none⟩), .string ⟨mk.toArray⟩] w (MEnd base p O w s Value.bool (aSkip mk s)) := by
  have HS := Lib.hid h
  obtain ⟨t, r, b, off, c, pv, m, ov, hts, hhd, hX, hb, hbp, hpw, hc1, hc2, ⟨x0, x1, x2, x3, x4⟩, ⟨p0, p1, p2, p3, z0, z1, z2, z3⟩⟩ := h.get
  have HX := Lib.hid hX
  have HD : Hid (aSkip mk s = if isMk t mk then .ok true s.next else .ok false s) := Lib.hid (by unfold aSkip; rw [hhd])
  have HIM := Lib.hid fun W => isMark_any t mk W
  have HMU := Lib.hid (mu_next hts)
  have hbw : b < w.heap.size := by omega
  have hbn : b ≠ p := by omega
  generalize aSkip mk s = q at *
  cases hk : isMk t mk
  · have HQ : Hid (q = .ok false s) := Lib.hid (by rw [HD.out, hk]; rfl)
    rw [hk] at HIM
    clear h hX hts hhd HD HX hk
    go_enter Tryz.func140, Tryz.ntmps140
    go_wp2_with fail
    go_fit (HIM.out _)
    rintro e w1 ⟨rfl, hb1⟩
    have HB1 := Lib.hid hb1
    clear hb1
    go_wp2
    go_ret
    rw [HQ.out]
    exact ⟨rfl, Nat.le_refl _, O, HS.out.next HB1.out, Fr.below HB1.out⟩
  · have hk4 : t.kind ≠ 0 := by
      unfold isMk at hk
      intro e
      rw [e] at hk
      simp at hk
    have hmore := hX.ends
    rw [hts] at hmore
    obtain ⟨_, u, r2, hr2, _⟩ := hmore.more hk4
    have hl2 : 2 ≤ r.length + 1 := by rw [hr2]; simp
    have HQ : Hid (q = .ok true s.next) := Lib.hid (by rw [HD.out, hk]; rfl)
    rw [hk] at HIM
    have HTL := Lib.hid fun W hW => StX.tail (base := base) (p := p) (O := O) (w := W) (s := s) (b := b) (off := off) (c := c) (pv := pv) (m := m) (ov := ov) hW hts hk4
    clear h hX hts hhd HD hk hmore hr2 hk4
    have hn1 : ¬ c = 1 := by omega
    have hn2 : ¬ (1 : Int) = (c : Int) := by omega
    unfold maxLen at hc2
    generalize hrl : r.length = n at *
    go_enter Tryz.func140, Tryz.ntmps140
    go_wp2_with fail
    go_fit (HIM.out _)
    rintro e w1 ⟨rfl, hb1⟩
    have HB1 := Lib.hid hb1
    have HX1 := Lib.hid (HX.out.next hb1)
    have hcl := HX1.out.cells
    obtain ⟨q0, _, _, _, y0, _⟩ := hcl
    have q0' : w1.cell? ⟨p, 0, none⟩ = some (.slice (some ⟨b, off, none⟩) (n + 1 : Nat) c) := (hb1.cell (p := ⟨p, 0, none⟩) hpw).trans p0
    have hpw1 : p < w1.heap.size := by have := hb1.size; omega
    clear hb1 p0 p1 p2 p3 x0 x1 x2 x3 x4 z0 z1 z2 z3 q0
    go_wp2
    go_ret
    rw [HQ.out]
    exact ⟨rfl, by have := HMU.out; omega, O, ⟨_, _, _, _, _, HTL.out _ HX1.out⟩, (Fr.below HB1.out).set ⟨p, 0, none⟩ _ (.inl HS.out.lt.2.2)⟩
set_option maxRecDepth 50000 in
set_option maxHeartbeats 1000000 in
theorem amark_any (base p : Nat) (O : Nat → Prop) (s : ASt) (mk : List UInt8) (w : World) (h : St base p O w s) :
    Calls Tryz.prog 123 #[.pointer (some ⟨p, 0, none⟩), .string ⟨mk.toArray⟩] w (MEnd base p O w s (fun _ => .tuple #[]) (aMark mk s)) := by
  have HSK := skip_any base p O s mk w h
  have hD : aMark mk s = if isMk s.hd mk then .ok () s.next else thrAt s.hd 50 := rfl
  have hD2 : aSkip mk s = if isMk s.hd mk then .ok true s.next else .ok false s := rfl
  have HBB := Lib.hid h.lo
  cases hk : isMk s.hd mk
  · rw [hk] at hD hD2
    simp only [Bool.false_eq_true, if_false] at hD hD2
    rw [hD2] at HSK
    have HQ := Lib.hid hD
    have HTH := Lib.hid fun W => throw_any s.hd 50 W
    have HK := Lib.hid HSK
    have HR : Hid (s.hd = s.hd) := Lib.hid rfl
    generalize aMark mk s = q at *
    clear hD hD2 HSK hk
    go_enter Tryz.func123, Tryz.ntmps123
    go_wp2_with fail
    go_fit HK.out
    rintro e w1 ⟨rfl, _, O1, hst1, hf1⟩
    obtain ⟨t, r, b, off, c, pv, m, ov, hts, hhd, hX, hb, hbp, hpw, hc1, hc2, ⟨x0, x1, x2, x3, x4⟩, ⟨p0, p1, p2, p3, z0, z1, z2, z3⟩⟩ := hst1.get
    rw [hhd] at HTH HQ
    have HF := Lib.hid (hf1.bel HBB.out.1 HBB.out.2.2)
    have HL1 := Lib.hid hst1.lo
    have hbw : b < w1.heap.size := by omega
    clear hst1 hf1 hX hts hhd HK HR h
    go_wp2_with fail
    go_fit (HTH.out _)
    rintro e w2 ⟨rfl, hb2⟩
    have HB2 := Lib.hid (HF.out.trans (hb2.mono HL1.out.2.2))
    clear hb2
    go_wp2
    refine ⟨rfl, ?_⟩
    rw [HQ.out]
    exact ⟨rfl, HB2.out⟩
  · rw [hk] at hD hD2
    simp only [if_true] at hD hD2
    rw [hD2] at HSK
    have HQ := Lib.hid hD
    have HK := Lib.hid HSK
    generalize aMark mk s = q at *
    clear hD hD2 HSK hk
    go_enter Tryz.func123, Tryz.ntmps123
    go_wp2_with fail
    go_fit HK.out
    rintro e w1 ⟨rfl, hmu, O1, hst1, hf1⟩
    have HST := Lib.hid hst1
    have HF := Lib.hid hf1
    have HM := Lib.hid hmu
    clear hst1 hf1 hmu
    go_wp2
    go_end0
    rw [HQ.out]
    exact ⟨rfl, HM.out, O1, HST.out, HF.out⟩
end Go.Proofs.YtcmohijjpnebpaaGreatDoor
