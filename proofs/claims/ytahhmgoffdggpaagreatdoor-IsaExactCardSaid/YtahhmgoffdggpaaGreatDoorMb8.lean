/-
  The assembler over tokens as plain functions.
  Conditions: none.
  A map from strings to ints that the call has made, as the list of what was stored: made, read with 'ok', written and carried; over whatever program.
  Conditions: none beyond what each theorem says.
  The assembler's state in memory: which blocks it owns, how it is carried, opened and written.
  Conditions: none beyond what each theorem says.
-/
import Derived.Test.YtahhmgoffdggpaaGreatDoorMb3
import Derived.Test.YtahhmgoffdggpaaGreatDoorMb5
import Derived.Maps.OwnSet
import Derived.Below
import Derived.Deep.DeepFit
namespace Go.Proofs.YtahhmgoffdggpaaGreatDoor

open Go.RowKit

/-- A token that a text has: a word, number, string or mark. -/
structure TokW (t : GTok) : Prop where
  kind : t.kind = 1 ∨ t.kind = 2 ∨ t.kind = 3 ∨ t.kind = 4
  low : 0 ≤ t.value
  high : t.value ≤ 18446744073709551615
  text : t.text.length ≤ 65536
/-- Tokens, and one of kind 0 behind the last. -/
def TEnds : List GTok → Prop
  | [] => False
  | [t] => t.kind = 0 ∧ t.text = []
  | t :: u :: ts => TokW t ∧ TEnds (u :: ts)
theorem TEnds.zero {t : GTok} {ts : List GTok} (h : TEnds (t :: ts)) (hk : t.kind = 0) : ts = [] := by
  cases ts with
  | nil => rfl
  | cons u r => rcases h.1.kind with e | e | e | e <;> omega
theorem TEnds.more {t : GTok} {ts : List GTok} (h : TEnds (t :: ts)) (hk : t.kind ≠ 0) : TokW t ∧ ∃ u r, ts = u :: r ∧ TEnds (u :: r) := by
  cases ts with
  | nil => exact absurd h.1 hk
  | cons u r => exact ⟨h.1, u, r, rfl, h.2⟩
theorem TEnds.kinds {t : GTok} {ts : List GTok} (h : TEnds (t :: ts)) : t.kind = 0 ∨ t.kind = 1 ∨ t.kind = 2 ∨ t.kind = 3 ∨ t.kind = 4 := by
  cases ts with
  | nil => exact .inl h.1
  | cons u r => exact .inr h.1.kind
theorem TEnds.text {t : GTok} {ts : List GTok} (h : TEnds (t :: ts)) : t.text.length ≤ 65536 := by
  cases ts with
  | nil => rw [h.2]; simp
  | cons u r => exact h.1.text
/-- An operand whose meaning the whole text tells, and its instruction's index. -/
structure GRef where
  tok : GTok
  ix : Int
def GRef.cells (r : GRef) : List Value := [.int .i64 r.tok.kind, .string ⟨r.tok.text.toArray⟩, .int .u64 r.tok.value, .int .i64 r.tok.line, .int .i64 r.tok.col, .int .i64 r.ix]
theorem GRef.len (x : GRef) : x.cells.length = 6 := rfl
theorem GRef.one (x : GRef) : ∀ u ∈ x.cells, u.oneCell' = true := by intro u hu; simp [GRef.cells] at hu; rcases hu with rfl | rfl | rfl | rfl | rfl | rfl <;> rfl
/-- The assembler's state. -/
structure ASt where
  ts : List GTok
  prog : List GIns
  labs : List (List UInt8 × Nat)
  refs : List GRef
/-- How a method ends: with a value and a state, or with a failure at a position. -/
inductive ARes (α : Type) where
  | ok (v : α) (s : ASt)
  | thr (l c e : Int)
def ARes.bind {α β : Type} : ARes α → (α → ASt → ARes β) → ARes β
  | .ok v s, f => f v s
  | .thr l c e, _ => .thr l c e
def ARes.map {α β : Type} (r : ARes α) (f : α → β) : ARes β := r.bind fun v s => .ok (f v) s
def noTok : GTok := ⟨0, [], 0, 0, 0⟩
def ASt.hd (s : ASt) : GTok := s.ts.headD noTok
def thrAt {α : Type} (t : GTok) (e : Int) : ARes α := .thr t.line t.col e
def ASt.next (s : ASt) : ASt := { s with ts := s.ts.tail }
def isMk (t : GTok) (m : List UInt8) : Bool := decide (t.kind = 4) && decide (t.text = m)
def aTake (k : Int) (s : ASt) : ARes GTok := if s.hd.kind = k then .ok s.hd s.next else thrAt s.hd 50
def aSkip (m : List UInt8) (s : ASt) : ARes Bool := if isMk s.hd m then .ok true s.next else .ok false s
def aMark (m : List UInt8) (s : ASt) : ARes Unit := if isMk s.hd m then .ok () s.next else thrAt s.hd 50
def aNumber (g : Int) (s : ASt) : ARes Int := (aTake 2 s).bind fun t s1 => if g < t.value then thrAt t 6 else .ok t.value s1
def aKeep (t : GTok) (s : ASt) : ASt := { s with refs := s.refs ++ [⟨t, s.prog.length⟩] }
def aUse (s : ASt) : ARes Unit := (aTake 1 s).bind fun t s1 => if (regNo t.text).isSome then thrAt t 50 else .ok () (aKeep t s1)
def aTarget (s : ASt) : ARes Int := if s.hd.kind = 1 then (aUse s).bind fun _ s1 => .ok 0 s1 else aNumber 2147483647 (aKeep s.hd s)
def aImm (s : ASt) : ARes Int :=
  if s.hd.kind = 1 then (aUse s).bind fun _ s1 => .ok 0 s1
  else if isMk s.hd [45] then (aNumber 2147483648 s.next).bind fun v s1 => .ok (-v) s1 else aNumber 2147483647 s
def aReg (s : ASt) : ARes Int := (aTake 1 s).bind fun t s1 => match regNo t.text with
  | some n => .ok (n : Int) s1
  | none => thrAt t 50
def aComma (i : Nat) (s : ASt) : ARes Unit := if 0 < i then aMark [44] s else .ok () s
/-- m registers, of which i have been read. -/
def aRegs (i : Nat) : Nat → ASt → ARes (List Int)
  | 0, s => .ok [] s
  | m + 1, s => (aComma i s).bind fun _ s1 => (aReg s1).bind fun r s2 => (aRegs (i + 1) m s2).bind fun l s3 => .ok (r :: l) s3
def aLast (f : Nat × Nat) (s : ASt) : ARes Int :=
  if f.2 = 1 then (aComma f.1 s).bind fun _ s1 => aImm s1 else if f.2 = 2 then (aComma f.1 s).bind fun _ s1 => aTarget s1 else .ok 0 s
def aOps (f : Nat × Nat) (s : ASt) : ARes GIns := (aRegs 0 f.1 s).bind fun l s1 => (aLast f s1).bind fun v s2 => .ok ⟨0, l.getD 0 0, l.getD 1 0, l.getD 2 0, v⟩ s2
def aInstr (s : ASt) : ARes Unit := (aTake 1 s).bind fun t s1 => match opNo t.text with
  | none => thrAt t 50
  | some op => if s1.prog.length = 4096 then thrAt t 15 else
    (aOps (fmtN op).2 s1).bind fun x s2 => (aMark [59] s2).bind fun _ s3 => .ok () { s3 with prog := s3.prog ++ [{ x with op := op }] }
def labOf : List (List UInt8 × Nat) → List UInt8 → Option Nat
  | [], _ => none
  | (l, n) :: r, s => if s = l then some n else labOf r s
def aLabel (s : ASt) : ARes Unit := (aTake 1 s).bind fun t s1 =>
  if (regNo t.text).isSome then thrAt t 50 else if (labOf s1.labs t.text).isSome then thrAt t 72 else aMark [58] { s1 with labs := (t.text, s1.prog.length) :: s1.labs }
def atLab (s : ASt) : Bool := decide (s.hd.kind = 1) && isMk s.next.hd [58]
/-- Labels, asx many asx stand there. -/
def aLabels : Nat → ASt → ARes Unit
  | 0, s => .ok () s
  | n + 1, s => if atLab s then (aLabel s).bind fun _ s1 => aLabels n s1 else .ok () s
def aStats : Nat → ASt → ARes Unit
  | 0, s => .ok () s
  | n + 1, s => if s.hd.kind = 0 then (if s.prog.length = 0 then .thr 0 0 15 else .ok () s) else
    (aLabels s.ts.length s).bind fun _ s1 => (aInstr s1).bind fun _ s2 => aStats n s2
/-- The operands that are labels or targets, in order. -/
def aResolve : List GRef → ASt → ARes Unit
  | [], s => .ok () s
  | r :: rest, s => if r.tok.kind = 1 then
      (match labOf s.labs r.tok.text with
      | none => thrAt r.tok 72
      | some n => aResolve rest { s with prog := s.prog.modify r.ix.toNat fun x => { x with imm := (n : Int) } })
    else if (s.prog.length : Int) ≤ r.tok.value then thrAt r.tok 71 else aResolve rest s
def aAll (ts : List GTok) : ARes Unit := (aStats ts.length ⟨ts, [], [], []⟩).bind fun _ s => aResolve s.refs s
end Go.Proofs.YtahhmgoffdggpaaGreatDoor


namespace Go.Proofs.YtahhmgoffdggpaaGreatDoor

open Go.RowKit Go.Maps

/-- The block b is a map of at most n entries; S says what lies at each key. -/
def IMap (w : World) (P : Program) (k e : TypeId) (b n : Nat) (S : Lit → Option Int) : Prop :=
  ∃ D : DataW Unit, w.ownsMap P k (plainElem P e) b n D ∧ (∀ kl z, D.atKey kl z = match S kl with | some v => .lit (.int .i64 v) | none => z) ∧ ∀ kl, Maps.has D kl = (S kl).isSome
section

variable {P : Program} {k e t : TypeId} {w : World} {b n : Nat} {S : Lit → Option Int}

theorem IMap.made (w : World) (P : Program) (k e : TypeId) : IMap (w.alloc (.map #[] 0)) P k e w.heap.size 0 (fun _ => none) :=
  ⟨_, World.ownsMap_made w P k _, fun _ _ => rfl, fun _ => rfl⟩
theorem IMap.lt (h : IMap w P k e b n S) : b < w.heap.size := by obtain ⟨D, h, _⟩ := h; exact h.lt
theorem IMap.mono (h : IMap w P k e b n S) {n' : Nat} (hn : n ≤ n') : IMap w P k e b n' S := by obtain ⟨D, h, h2⟩ := h; exact ⟨D, h.mono hn, h2⟩
theorem IMap.kept {w' : World} {row : Option Nat} (h : IMap w P k e b n S) (hg : w.grownBy w' row) (hne : some b ≠ row) : IMap w' P k e b n S := by obtain ⟨D, h, h2⟩ := h; exact ⟨D, h.kept hg hne, h2⟩
theorem IMap.keep {w' : World} (h : IMap w P k e b n S) (hb : w'.heap[b]? = w.heap[b]?) : IMap w' P k e b n S := by
  obtain ⟨D, ⟨es, clock, h0, rest⟩, h2⟩ := h
  exact ⟨D, ⟨es, clock, hb.trans h0, rest⟩, h2⟩
/-- 'v, ok := m[k]': the world does not turn. -/
theorem IMap.look (h : IMap w P k e b n S) (K : Keyed P k) (ht : P.underlying t = some (.map k e)) (he : P.underlying e = some (.int .i64)) (hz : (zeroValue e).run P w = .ok (.int .i64 0) w)
    {key : Value} {kl : Lit} (hkey : keyOf P k key = some kl) : (Instr.lookup t (.map (some b)) key true).run P w = .ok (.tuple #[.int .i64 ((S kl).getD 0), .bool (S kl).isSome]) w := by
  obtain ⟨D, h, h2, h3⟩ := h
  obtain ⟨v, ps, hrun, hv⟩ := h.look_ok K ht hz (plainElem_int he (by decide)) hkey
  obtain ⟨c, rfl, hc, _⟩ := plainElem_int_inv he hv
  simp only [Prod.mk.injEq] at hc
  have e1 := (h2 kl (.lit (.int .i64 0))).symm.trans hc.1
  rw [h3] at hrun
  cases hS : S kl with
  | none =>
    rw [hS] at e1 hrun
    simp only at e1
    injection e1 with e1
    injection e1 with _ e1
    rw [hrun, ← e1]; rfl
  | some v =>
    rw [hS] at e1 hrun
    simp only at e1
    injection e1 with e1
    injection e1 with _ e1
    rw [hrun, ← e1]; rfl
/-- 'm[k] = v': some world in which v lies at the key; nothing else has turned. -/
theorem IMap.put (h : IMap w P k e b n S) (K : Keyed P k) (ht : P.underlying t = some (.map k e)) (he : P.underlying e = some (.int .i64)) (hn : n < maxLen) {key : Value} {kl : Lit} (hkey : keyOf P k key = some kl) {v : Int} (hv : (Lit.int .i64 v).wf = true) :
    ∃ w', (Instr.mapUpdate t (.map (some b)) key (.int .i64 v)).run P w = .ok () w' ∧ IMap w' P k e b (n + 1) (fun x => if x.sameKey kl then some v else S x) ∧ w.grownBy w' (some b) := by
  obtain ⟨D, h, h2, h3⟩ := h
  obtain ⟨w', hrun, ho, hg⟩ := h.update K ht hn hkey (plainElem_int he hv)
  refine ⟨w', hrun, ⟨_, ho, fun x z => ?_, fun x => ?_⟩, hg⟩
  · by_cases hx : x = kl
    · subst hx
      rw [atKey_put_same h.isMap (K.key hkey)]
      simp only [WideAt.sameKey_self (K.key hkey), if_true]
    · rw [atKey_put_other hx, h2]
      simp only [sameKey_ne hx, Bool.false_eq_true, if_false]
  · by_cases hx : x = kl
    · subst hx
      simp only [has_put_same h.isMap (K.key hkey), WideAt.sameKey_self (K.key hkey), if_true, Option.isSome_some]
    · simp only [has_put_other hx, h3, sameKey_ne hx, Bool.false_eq_true, if_false]
end

end Go.Proofs.YtahhmgoffdggpaaGreatDoor


namespace Go.Proofs.YtahhmgoffdggpaaGreatDoor

open Go.RowKit

def TA : TypeId := 108
theorem elt_ins : Elt 22 40 5 40 := Elt.of (.agg #[.int .i64 0, .int .i64 0, .int .i64 0, .int .i64 0, .int .i32 0]) Tryz.underlying22 (by kernel_rfl) rfl (by decide)
theorem elt_ref : Elt 106 126 6 56 := Elt.of (.agg #[.int .i64 0, .string ⟨#[]⟩, .int .u64 0, .int .i64 0, .int .i64 0, .int .i64 0]) Tryz.underlying106 (by kernel_rfl) rfl (by decide)
/-- From w to w' nothing has turned but the blocks of O and new ones; what is owned then was owned or is new. -/
structure Fr (w : World) (O : Nat → Prop) (w' : World) (O' : Nat → Prop) : Prop where
  os : w'.os = w.os
  tape : w'.tape = w.tape
  output : w'.output = w.output
  size : w.heap.size ≤ w'.heap.size
  block : ∀ g, g < w.heap.size → ¬ O g → w'.heap[g]? = w.heap[g]?
  own : ∀ g, O' g → O g ∨ w.heap.size ≤ g
section

variable {w w1 w2 w' : World} {O O1 O2 O' : Nat → Prop}

theorem Fr.refl (w : World) (O : Nat → Prop) : Fr w O w O := ⟨rfl, rfl, rfl, Nat.le_refl _, fun _ _ _ => rfl, fun _ h => .inl h⟩
theorem Fr.trans (h : Fr w O w1 O1) (k : Fr w1 O1 w2 O2) : Fr w O w2 O2 :=
  ⟨k.os.trans h.os, k.tape.trans h.tape, k.output.trans h.output, Nat.le_trans h.size k.size,
    fun g hg hO => (k.block g (Nat.lt_of_lt_of_le hg h.size) (fun h1 => by rcases h.own g h1 with h2 | h2; exact hO h2; omega)).trans (h.block g hg hO),
    fun g hg => by rcases k.own g hg with h1 | h1; exact h.own g h1; exact .inr (Nat.le_trans h.size h1)⟩
theorem Fr.below (hb : Below w.heap.size w w') : Fr w O w' O := ⟨hb.os, hb.tape, hb.output, hb.size, fun g hg _ => hb.block g hg, fun _ h => .inl h⟩
theorem Fr.lit (h : Fr w O w1 O1) (o : Obj) : Fr w O (w1.alloc o) O1 := h.trans (Fr.below ((Below.refl _ _).alloc (Nat.le_refl _) o))
theorem Fr.next (h : Fr w O w1 O1) (hb : Below w1.heap.size w1 w2) : Fr w O w2 O1 := h.trans (Fr.below hb)
theorem Fr.set (h : Fr w O w1 O1) (a : Addr) (v : Value) (ha : O a.block ∨ w.heap.size ≤ a.block) : Fr w O (w1.setCell a v) O1 :=
  ⟨h.os, h.tape, h.output, by have := h.size; simp; omega, fun g hg hO => (Below.heap_setCell _ _ _ g (fun e => by subst e; rcases ha with h1 | h1; exact hO h1; omega)).trans (h.block g hg hO), h.own⟩
theorem Fr.grown {q : Option Nat} (h : Fr w O w1 O1) (hg : w1.grownBy w2 q) (hq : ∀ g, q = some g → O g ∨ w.heap.size ≤ g) : Fr w O w2 O1 :=
  ⟨hg.os.trans h.os, hg.tape.trans h.tape, hg.output.trans h.output, Nat.le_trans h.size hg.size,
    fun g hg1 hO => (hg.block g (Nat.lt_of_lt_of_le hg1 h.size) (fun e => by rcases hq g e.symm with h1 | h1; exact hO h1; omega)).trans (h.block g hg1 hO), h.own⟩
theorem Fr.owns (h : Fr w O w1 O1) (hO : ∀ g, O2 g → O g ∨ w.heap.size ≤ g) : Fr w O w1 O2 := ⟨h.os, h.tape, h.output, h.size, h.block, hO⟩
theorem Fr.bel {base : Nat} (h : Fr w O w1 O1) (hO : ∀ g, O g → base ≤ g) (hb : base ≤ w.heap.size) : Below base w w1 :=
  ⟨h.os, h.tape, h.output, h.size, fun g hg => h.block g (by omega) (fun h1 => by have := hO g h1; omega)⟩
end

def labS : List (List UInt8 × Nat) → Lit → Option Int
  | [], _ => none
  | (l, n) :: r, x => if x.sameKey (.string l) then some (n : Int) else labS r x
theorem labS_of (l : List (List UInt8 × Nat)) (s : List UInt8) : labS l (.string s) = (labOf l s).map fun n => (n : Int) := by
  induction l with
  | nil => rfl
  | cons x r ih =>
    obtain ⟨a, n⟩ := x
    simp only [labS, labOf]
    have hk : (Lit.string s).sameKey (.string a) = decide (s = a) := by
      by_cases h : s = a
      · subst h; rw [Go.WideAt.sameKey_self (a := Lit.string s) (by trivial)]; simp
      · rw [Go.Maps.sameKey_ne (by intro e; injection e with e; exact h e)]; simp [h]
    rw [hk, ih]
    by_cases h : s = a
    · simp [h]
    · simp [h]
/-- The assembler in block p has the state s: A, c its tokens' row, pv its program, m its labels, ov its open operands. -/
structure StX (base p : Nat) (O : Nat → Prop) (w : World) (s : ASt) (A : Option Addr) (c : Nat) (pv : Value) (m : Nat) (ov : Value) : Prop where
  lo : ∀ g, O g → base ≤ g
  hi : ∀ g, O g → g < w.heap.size
  bw : base ≤ w.heap.size
  op : O p
  om : O m
  opv : ∀ g, pv.ownBlock = some g → O g
  oov : ∀ g, ov.ownBlock = some g → O g
  hmp : m ≠ p
  hpv : pv.ownBlock ≠ some p ∧ pv.ownBlock ≠ some m
  hov : ov.ownBlock ≠ some p ∧ ov.ownBlock ≠ some m
  hpo : ∀ g, pv.ownBlock = some g → ov.ownBlock ≠ some g
  hh : w.heap[p]? = some (.cells #[.slice A s.ts.length c, pv, .map (some m), ov] TA (0, 0))
  hc : s.ts.length ≤ c
  hm : c ≤ maxLen
  ends : TEnds s.ts
  row : GRow GTok.cells 5 w base A s.ts
  prog : OwnG GIns.cells 40 5 w base pv s.prog
  refs : OwnG GRef.cells 126 6 w base ov s.refs
  labs : IMap w Tryz.prog 9 3 m s.labs.length (labS s.labs)
def St (base p : Nat) (O : Nat → Prop) (w : World) (s : ASt) : Prop := ∃ A c pv m ov, StX base p O w s A c pv m ov
section

variable {base p : Nat} {O : Nat → Prop} {w w' : World} {s : ASt} {A : Option Addr} {c m : Nat} {pv ov : Value}

theorem heap_lt {w : World} {g : Nat} {o : Obj} (h : w.heap[g]? = some o) : g < w.heap.size := by
  rcases Nat.lt_or_ge g w.heap.size with h1 | h1
  · exact h1
  · rw [Array.getElem?_eq_none h1] at h; cases h
theorem StX.lt (h : StX base p O w s A c pv m ov) : base ≤ p ∧ p < w.heap.size := ⟨h.lo p h.op, heap_lt h.hh⟩
theorem StX.mlt (h : StX base p O w s A c pv m ov) : base ≤ m ∧ m < w.heap.size := ⟨h.lo m h.om, h.labs.lt⟩
/-- Where the blocks that it needs are the same, the state is. -/
theorem StX.keep (h : StX base p O w s A c pv m ov) (hs : w.heap.size ≤ w'.heap.size) (hb : ∀ g, g < base ∨ O g → w'.heap[g]? = w.heap[g]?) : StX base p O w' s A c pv m ov :=
  { h with
    hi := fun g hg => Nat.lt_of_lt_of_le (h.hi g hg) hs
    bw := Nat.le_trans h.bw hs
    hh := (hb p (.inr h.op)).trans h.hh
    row := h.row.keep fun g hg => hb g (.inl hg)
    prog := h.prog.keep fun g hg => hb g (.inr (h.opv g hg))
    refs := h.refs.keep fun g hg => hb g (.inr (h.oov g hg))
    labs := h.labs.keep (hb m (.inr h.om)) }
theorem StX.next (h : StX base p O w s A c pv m ov) (hb : Below w.heap.size w w') : StX base p O w' s A c pv m ov :=
  h.keep hb.size fun g hg => hb.block g (by have := h.bw; rcases hg with h1 | h1; omega; exact h.hi g h1)
theorem StX.lit (h : StX base p O w s A c pv m ov) (o : Obj) : StX base p O (w.alloc o) s A c pv m ov := h.next ((Below.refl _ _).alloc (Nat.le_refl _) o)
/-- A store beside it. -/
theorem StX.other (h : StX base p O w s A c pv m ov) (a : Addr) (v : Value) (ha : base ≤ a.block) (hO : ¬ O a.block) : StX base p O (w.setCell a v) s A c pv m ov :=
  h.keep (by simp) fun g hg => Below.heap_setCell _ _ _ g (fun e => by subst e; rcases hg with h1 | h1; omega; exact hO h1)
theorem St.next (h : St base p O w s) (hb : Below w.heap.size w w') : St base p O w' s := by obtain ⟨A, c, pv, m, ov, h⟩ := h; exact ⟨A, c, pv, m, ov, h.next hb⟩
theorem St.lit (h : St base p O w s) (o : Obj) : St base p O (w.alloc o) s := h.next ((Below.refl _ _).alloc (Nat.le_refl _) o)
theorem St.other (h : St base p O w s) (a : Addr) (v : Value) (ha : base ≤ a.block) (hO : ¬ O a.block) : St base p O (w.setCell a v) s := by obtain ⟨A, c, pv, m, ov, h⟩ := h; exact ⟨A, c, pv, m, ov, h.other a v ha hO⟩
theorem St.lo (h : St base p O w s) : (∀ g, O g → base ≤ g) ∧ (∀ g, O g → g < w.heap.size) ∧ base ≤ w.heap.size := by obtain ⟨A, c, pv, m, ov, h⟩ := h; exact ⟨h.lo, h.hi, h.bw⟩
theorem St.lt (h : St base p O w s) : base ≤ p ∧ p < w.heap.size ∧ O p := by obtain ⟨A, c, pv, m, ov, h⟩ := h; exact ⟨h.lt.1, h.lt.2, h.op⟩
/-- The four fields. -/
theorem StX.cells (h : StX base p O w s A c pv m ov) : w.cell? ⟨p, 0, none⟩ = some (.slice A s.ts.length c) ∧ w.cell? ⟨p, 1, none⟩ = some pv ∧ w.cell? ⟨p, 2, none⟩ = some (.map (some m)) ∧ w.cell? ⟨p, 3, none⟩ = some ov ∧
    w.frozen? ⟨p, 0, none⟩ = false ∧ w.frozen? ⟨p, 1, none⟩ = false ∧ w.frozen? ⟨p, 2, none⟩ = false ∧ w.frozen? ⟨p, 3, none⟩ = false :=
  ⟨by rw [Lib.cell_of_heap h.hh]; rfl, by rw [Lib.cell_of_heap h.hh]; rfl, by rw [Lib.cell_of_heap h.hh]; rfl, by rw [Lib.cell_of_heap h.hh]; rfl, Lib.frozen_of_heap h.hh 0, Lib.frozen_of_heap h.hh 1, Lib.frozen_of_heap h.hh 2, Lib.frozen_of_heap h.hh 3⟩
/-- The token that comes next. -/
theorem StX.head (h : StX base p O w s A c pv m ov) {t : GTok} {r : List GTok} (hs : s.ts = t :: r) : ∃ b off, A = some ⟨b, off, none⟩ ∧ b < base ∧
    w.cell? ⟨b, off, none⟩ = some (.int .i64 t.kind) ∧ w.cell? ⟨b, off + 1, none⟩ = some (.string ⟨t.text.toArray⟩) ∧ w.cell? ⟨b, off + 2, none⟩ = some (.int .u64 t.value) ∧ w.cell? ⟨b, off + 3, none⟩ = some (.int .i64 t.line) ∧ w.cell? ⟨b, off + 4, none⟩ = some (.int .i64 t.col) := by
  have hr := h.row
  rw [hs] at hr
  obtain ⟨b, off, rfl, hb, hc⟩ := hr (by simp)
  have c := fun j u hu => hc 0 (by simp) j u hu
  simp only [Nat.zero_mul, Nat.zero_add, List.getElem_cons_zero] at c
  exact ⟨b, off, rfl, hb, c 0 _ rfl, c 1 _ rfl, c 2 _ rfl, c 3 _ rfl, c 4 _ rfl⟩
theorem heap_set {w : World} {b i : Nat} {cs : Array Value} {T : TypeId} (h : w.heap[b]? = some (.cells cs T (0, 0))) (v : Value) : (w.setCell ⟨b, i, none⟩ v).heap[b]? = some (.cells (cs.setIfInBounds i v) T (0, 0)) := by
  simp [World.setCell, Array.getElem?_modify, h]
/-- The tokens behind the first. -/
theorem StX.tail {b off : Nat} (h : StX base p O w s (some ⟨b, off, none⟩) c pv m ov) {t : GTok} {r : List GTok} (hs : s.ts = t :: r) (hk : t.kind ≠ 0) :
    StX base p O (w.setCell ⟨p, 0, none⟩ (.slice (some ⟨b, off + 5, none⟩) r.length (c - 1))) s.next (some ⟨b, off + 5, none⟩) (c - 1) pv m ov := by
  have hlt := h.lt
  have hc := h.hc
  have hm := h.hm
  have hr := h.row
  rw [hs] at hr hc
  simp only [List.length_cons] at hc
  have hts : s.next.ts = r := by show s.ts.tail = r; rw [hs]; rfl
  have hk0 := hk
  clear hk
  have hk : ∀ g, g ≠ p → (w.setCell ⟨p, 0, none⟩ (.slice (some ⟨b, off + 5, none⟩) r.length (c - 1))).heap[g]? = w.heap[g]? := fun g hg => Below.heap_setCell _ _ _ g hg
  exact { h with
    hi := fun g hg => by have := h.hi g hg; simpa using this
    bw := by simpa using h.bw
    hh := by rw [heap_set h.hh, hts]; rfl
    hc := by rw [hts]; omega
    hm := by omega
    ends := by
      have he := h.ends
      rw [hs] at he
      obtain ⟨_, u, r2, e, he2⟩ := he.more hk0
      rw [hts, e]; exact he2
    row := by rw [hts]; exact hr.tail.keep fun g hg => hk g (by omega)
    prog := h.prog.keep fun g hg => hk g (fun e => h.hpv.1 (by rw [hg, e]))
    refs := h.refs.keep fun g hg => hk g (fun e => h.hov.1 (by rw [hg, e]))
    labs := h.labs.keep (hk m h.hmp) }
/-- A local block that is not the assembler's. -/
structure Loc (O : Nat → Prop) (w : World) (N : Nat) (cs : Array Value) (T : TypeId) : Prop where
  heap : w.heap[N]? = some (.cells cs T (0, 0))
  out : ¬ O N
theorem Loc.fr {N : Nat} {cs : Array Value} {T : TypeId} {O' : Nat → Prop} (h : Loc O w N cs T) (hf : Fr w O w' O') : Loc O' w' N cs T :=
  ⟨(hf.block N (heap_lt h.heap) h.out).trans h.heap, fun h1 => by have := heap_lt h.heap; rcases hf.own N h1 with h2 | h2; exact h.out h2; omega⟩
end

/-- How a method of the assembler ends. -/
def failV (l c x : Int) : Value := .iface 103 (.agg #[.int .i64 l, .int .i64 c, .int .i64 x])
def mu (s : ASt) : Nat := 2 * s.ts.length + s.prog.length + s.refs.length + s.labs.length
def MEnd {α : Type} (base p : Nat) (O : Nat → Prop) (w : World) (s0 : ASt) (val : α → Value) (r : ARes α) (e : Ending) (w' : World) : Prop :=
  match r with
  | .ok v s => e = .returned (val v) ∧ mu s ≤ mu s0 ∧ ∃ O', St base p O' w' s ∧ Fr w O w' O'
  | .thr l c x => e = .panicked [{ v := failV l c x, recovered := false }] ∧ Below base w w'
end Go.Proofs.YtahhmgoffdggpaaGreatDoor
