/-
  Words for the law's maker of modules: where its loop stands, what a round's new module is.
  Conditions: the numbers are the language's.
  What parsing an image yields, as a relation that has one answer; the lists that the law's maker makes are valid. Plain mathematics.
  Conditions: none.
  A buffer of bytes that a call has made, and what a copy into it leaves.
  Conditions: as each theorem says.
-/
import Derived.Test.YtcenonnccodfoaaDoorMa8
import Derived.Test.YtcenonnccodfoaaDoorMa6
import Derived.Laws.CopyRow
import Derived.Laws.IdiomCopy
namespace Go.Proofs.YtcenonnccodfoaaDoor

open Go.RowKit

/-- What the maker sees in a world: its numbers, and that all that was there stands. -/
structure Ctx (w0 W : World) (N : Nat) (A : Option Addr) (len cap q : Nat) : Prop where
  num : NumAt W N A len cap q
  bel : Below N w0 W
  lt : N < W.heap.size
theorem Ctx.alloc {w0 W : World} {N : Nat} {A : Option Addr} {len cap q : Nat} (h : Ctx w0 W N A len cap q) (o : Obj) : Ctx w0 (W.alloc o) N A len cap q := ⟨(Below.heap_alloc _ _ _ h.lt).trans h.num, h.bel.alloc (by have := h.lt; omega) o, by have := h.lt; simp; omega⟩
theorem Ctx.drew {w0 W : World} {N : Nat} {A : Option Addr} {len cap q : Nat} (h : Ctx w0 W N A len cap q) : Ctx w0 W.drew N A len cap q := ⟨h.num, h.bel.drew, h.lt⟩
theorem Ctx.next {w0 W W' : World} {N : Nat} {A : Option Addr} {len cap q q' : Nat} (h : Ctx w0 W N A len cap q) (hn : NumAt W' N A len cap q') (hg : W.grownBy W' (some N)) : Ctx w0 W' N A len cap q' :=
  ⟨hn, h.bel.trans ⟨hg.os, hg.tape, hg.output, hg.size, fun k hk => hg.block k (by have := h.lt; omega) (by intro e; cases e; omega)⟩, by have := h.lt; have := hg.size; omega⟩
def nameAt (r : Nat) : List UInt8 := [97, 98, 99].drop r
theorem abc_slice (r : Nat) (hr : r < 3) (W : World) : (Instr.slice 9 (.string ⟨#[97, 98, 99]⟩) (some (.int .i64 (r : Int))) none none).run Tryd.prog W = .ok (.string ⟨(nameAt r).toArray⟩) W := by
  have hs : ((⟨#[97, 98, 99]⟩ : ByteArray).size : Int) = 3 := rfl
  rw [run_slice_string_l _ _ _ Tryd.underlying9 .i64 (r : Int) (by omega) (by rw [hs]; omega)]
  match r, hr with
  | 0, _ => rfl
  | 1, _ => rfl
  | 2, _ => rfl
/-- A module that the maker may make. -/
def MadeM (m : GMod) : Prop := (∃ r, r < 3 ∧ m.name = nameAt r) ∧ ((m.kind = 1 ∧ (m.width = 32 ∨ m.width = 39) ∧ (∃ k : Nat, 1 ≤ k ∧ k ≤ 12 ∧ m.data.length = 8 * k ∧ ∃ e : Nat, e < k ∧ m.entry = e)) ∨ (m.kind = 2 ∧ (m.width = 32 ∨ m.width = 39) ∧ m.data.length < 130 ∧ m.entry = 0) ∨ (m.kind = 3 ∧ m.width = 0 ∧ m.data.length < 130 ∧ m.entry = 0))
def AllMade (ms : List GMod) : Prop := (∀ m ∈ ms, MadeM m) ∧ ms.Pairwise fun a b => ¬ (a.name = b.name ∧ a.width = b.width)
theorem allMade_nil : AllMade [] := ⟨fun m hm => by simp at hm, List.Pairwise.nil⟩
/-- Where the maker's loop stands. -/
structure MakI (w0 W : World) (N : Nat) (A : Option Addr) (len cap q : Nat) (v : Value) (ss : List SMod) (ms : List GMod) : Prop where
  ctx : Ctx w0 W N A len cap q
  own : OwnG SMod.cells 41 5 W (N + 1) v ss
  len : ss.length = ms.length
  each : ∀ i (h1 : i < ss.length) (h2 : i < ms.length), MOwn W (N + 1) ss[i] ms[i]
  made : AllMade ms
/-- A module's variable, nothing stored yet. -/
def ZeroAt (W : World) (p : Nat) : Prop := W.heap[p]? = some (.cells #[.string ⟨#[]⟩, .int .i64 0, .int .i64 0, .int .i64 0, .slice none 0 0] 41 (0, 0))
theorem zero_new {W : World} {p : Nat} (h : p = W.heap.size) : ZeroAt (W.alloc (.cells #[.string ⟨#[]⟩, .int .i64 0, .int .i64 0, .int .i64 0, .slice none 0 0] 41)) p := by
  subst h
  exact heap_alloc_new W _
theorem ZeroAt.gb {W W' : World} {p N : Nat} (h : ZeroAt W p) (hg : W.grownBy W' (some N)) (hp : N < p) : ZeroAt W' p := (hg.block p (lt_heap h) (by intro e; cases e; omega)).trans h
theorem ZeroAt.facts {W : World} {p : Nat} (h : ZeroAt W p) : (W.cell? ⟨p, 0, none⟩ = some (.string ⟨#[]⟩) ∧ W.cell? ⟨p, 1, none⟩ = some (.int .i64 0) ∧ W.cell? ⟨p, 2, none⟩ = some (.int .i64 0) ∧ W.cell? ⟨p, 3, none⟩ = some (.int .i64 0) ∧ W.cell? ⟨p, 4, none⟩ = some (.slice none 0 0)) ∧ W.frozen? ⟨p, 0, none⟩ = false ∧ W.frozen? ⟨p, 1, none⟩ = false ∧ W.frozen? ⟨p, 2, none⟩ = false ∧ W.frozen? ⟨p, 3, none⟩ = false ∧ W.frozen? ⟨p, 4, none⟩ = false := by
  unfold ZeroAt at h
  exact ⟨⟨by rw [Lib.cell_of_heap h]; rfl, by rw [Lib.cell_of_heap h]; rfl, by rw [Lib.cell_of_heap h]; rfl, by rw [Lib.cell_of_heap h]; rfl, by rw [Lib.cell_of_heap h]; rfl⟩, Lib.frozen_of_heap h 0, Lib.frozen_of_heap h 1, Lib.frozen_of_heap h 2, Lib.frozen_of_heap h 3, Lib.frozen_of_heap h 4⟩
/-- The new module of a round: its variable's block, what it holds. -/
structure Fresh (w0 wr wx : World) (N p : Nat) (A : Option Addr) (len cap q : Nat) (s : SMod) : Prop where
  at_ : ModAt wx p s
  p : p = wr.heap.size
  ctx : Ctx w0 wx N A len cap (q + 3)
  gb : wr.grownBy wx (some N)
  name : ∃ r, r < 3 ∧ s.name = nameAt r
  kind : s.kind = 1 ∨ s.kind = 2 ∨ s.kind = 3
  width : s.width = 32 ∨ s.width = 39
  rest : s.entry = 0 ∧ s.A = none ∧ s.n = 0 ∧ s.c = 0
/-- The same, and what has changed since the round began. -/
structure Ctg (w0 wr W : World) (N : Nat) (A : Option Addr) (len cap q : Nat) : Prop where
  c : Ctx w0 W N A len cap q
  g : wr.grownBy W (some N)
theorem Ctg.alloc {w0 wr W : World} {N : Nat} {A : Option Addr} {len cap q : Nat} (h : Ctg w0 wr W N A len cap q) (o : Obj) : Ctg w0 wr (W.alloc o) N A len cap q := ⟨h.c.alloc o, gbT_trans h.g (gbN (bel_lit8 (Below.refl _ W) o))⟩
theorem Ctg.next {w0 wr W W' : World} {N : Nat} {A : Option Addr} {len cap q q' : Nat} (h : Ctg w0 wr W N A len cap q) (hn : NumAt W' N A len cap q') (hg : W.grownBy W' (some N)) : Ctg w0 wr W' N A len cap q' := ⟨h.c.next hn hg, gbT_trans h.g hg⟩
def freshS (r1 r2 r3 : Nat) : SMod := ⟨nameAt r1, IntKind.i64.wrap (1 + (r2 : Int)), IntKind.i64.wrap (32 + IntKind.i64.wrap (7 * (r3 : Int))), 0, none, 0, 0⟩
theorem freshS_ok {r1 r2 r3 : Nat} (h1 : r1 < 3) (h2 : r2 < 3) (h3 : r3 < 2) : (∃ r, r < 3 ∧ (freshS r1 r2 r3).name = nameAt r) ∧ ((freshS r1 r2 r3).kind = 1 ∨ (freshS r1 r2 r3).kind = 2 ∨ (freshS r1 r2 r3).kind = 3) ∧ ((freshS r1 r2 r3).width = 32 ∨ (freshS r1 r2 r3).width = 39) := by
  refine ⟨⟨r1, h1, rfl⟩, ?_, ?_⟩
  · match r2, h2 with
    | 0, _ => exact .inl (show IntKind.i64.wrap (1 + ((0 : Nat) : Int)) = 1 by decide)
    | 1, _ => exact .inr (.inl (show IntKind.i64.wrap (1 + ((1 : Nat) : Int)) = 2 by decide))
    | 2, _ => exact .inr (.inr (show IntKind.i64.wrap (1 + ((2 : Nat) : Int)) = 3 by decide))
  · match r3, h3 with
    | 0, _ => exact .inl (show IntKind.i64.wrap (32 + IntKind.i64.wrap (7 * ((0 : Nat) : Int))) = 32 by decide)
    | 1, _ => exact .inr (show IntKind.i64.wrap (32 + IntKind.i64.wrap (7 * ((1 : Nat) : Int))) = 39 by decide)
theorem fresh_alloc {w0 wr W : World} {N : Nat} {A : Option Addr} {len cap q r1 r2 r3 : Nat} (h : Ctg w0 wr W N A len cap (q + 1 + 1 + 1)) (hs : W.heap.size = wr.heap.size) (h1 : r1 < 3) (h2 : r2 < 3) (h3 : r3 < 2) : Fresh w0 wr (W.alloc (.cells #[.string ⟨(nameAt r1).toArray⟩, .int .i64 (IntKind.i64.wrap (1 + (r2 : Int))), .int .i64 (IntKind.i64.wrap (32 + IntKind.i64.wrap (7 * (r3 : Int)))), .int .i64 0, .slice none 0 0] 41)) N wr.heap.size A len cap q (freshS r1 r2 r3) := by
  have ho := freshS_ok h1 h2 h3
  have ha := h.alloc (objM (freshS r1 r2 r3))
  exact ⟨by unfold ModAt; rw [← hs]; exact heap_alloc_new W _, rfl, ha.c, ha.g, ho.1, ho.2.1, ho.2.2, rfl, rfl, rfl, rfl⟩
theorem fresh_set {w0 wr W : World} {N : Nat} {A : Option Addr} {len cap q r1 r2 r3 : Nat} (h : Ctg w0 wr W N A len cap (q + 1 + 1 + 1)) (hz : ZeroAt W wr.heap.size) (hN : N < wr.heap.size) (h1 : r1 < 3) (h2 : r2 < 3) (h3 : r3 < 2) :
    Fresh w0 wr (((((W.setCell ⟨wr.heap.size, 0, none⟩ (.string ⟨(nameAt r1).toArray⟩)).setCell ⟨wr.heap.size, 1, none⟩ (.int .i64 (IntKind.i64.wrap (1 + (r2 : Int))))).setCell ⟨wr.heap.size, 2, none⟩ (.int .i64 (IntKind.i64.wrap (32 + IntKind.i64.wrap (7 * (r3 : Int)))))).setCell ⟨wr.heap.size, 3, none⟩ (.int .i64 0)).setCell ⟨wr.heap.size, 4, none⟩ (.slice none 0 0)) N wr.heap.size A len cap q (freshS r1 r2 r3) := by
  have ho := freshS_ok h1 h2 h3
  generalize hp : wr.heap.size = p at *
  have key : ∀ (V : World) (c : Array Value) (j : Nat) (v : Value), V.heap[p]? = some (.cells c 41 (0, 0)) → (V.setCell ⟨p, j, none⟩ v).heap[p]? = some (.cells (c.setIfInBounds j v) 41 (0, 0)) := fun V c j v hc => heap_setCell_same V p j c _ v hc
  have hb : ∀ V : World, wr.grownBy V (some N) → ∀ j v, wr.grownBy (V.setCell ⟨p, j, none⟩ v) (some N) := fun V hV j v => ⟨hV.os, hV.tape, hV.output, by have := hV.size; simp [World.setCell]; omega, fun k hk hne => (Below.heap_setCell _ _ _ _ (by show k ≠ p; omega)).trans (hV.block k hk hne)⟩
  have hc : ∀ (V : World) (q' : Nat), Ctx w0 V N A len cap q' → ∀ j v, Ctx w0 (V.setCell ⟨p, j, none⟩ v) N A len cap q' := fun V q' hV j v => ⟨(Below.heap_setCell _ _ _ _ (by show N ≠ p; omega)).trans hV.num, hV.bel.setCell (p := ⟨p, j, none⟩) (by show N ≤ p; omega) v, by have := hV.lt; simp [World.setCell]; omega⟩
  refine ⟨?_, hp.symm, hc _ _ (hc _ _ (hc _ _ (hc _ _ (hc _ _ h.c _ _) _ _) _ _) _ _) _ _, hb _ (hb _ (hb _ (hb _ (hb _ h.g _ _) _ _) _ _) _ _) _ _, ho.1, ho.2.1, ho.2.2, rfl, rfl, rfl, rfl⟩
  exact key _ _ 4 _ (key _ _ 3 _ (key _ _ 2 _ (key _ _ 1 _ (key _ _ 0 _ hz))))
end Go.Proofs.YtcenonnccodfoaaDoor


namespace Go.Proofs.YtcenonnccodfoaaDoor

open Go.RowKit

theorem firstE_mid : ∀ (a d : List GMod) (m : GMod) (b : List GMod), firstE d (a ++ m :: b) = 0 → chkM (d ++ a) m = 0
  | [], d, m, b, h => by
    rw [List.append_nil]
    have h2 : (if chkM d m = 0 then firstE (d ++ [m]) b else chkM d m) = 0 := h
    split at h2
    · assumption
    · exact h2
  | x :: r, d, m, b, h => by
    have h2 : (if chkM d x = 0 then firstE (d ++ [x]) (r ++ m :: b) else chkM d x) = 0 := h
    split at h2
    · have := firstE_mid r (d ++ [x]) m b h2
      rw [List.append_assoc] at this
      exact this
    · rename_i hne
      exact absurd h2 hne
theorem firstE_of : ∀ (r d : List GMod), (∀ a m b, r = a ++ m :: b → chkM (d ++ a) m = 0) → firstE d r = 0
  | [], _, _ => rfl
  | m :: r, d, h => by
    have h1 := h [] m r rfl
    rw [List.append_nil] at h1
    show (if chkM d m = 0 then firstE (d ++ [m]) r else chkM d m) = 0
    rw [if_pos h1]
    refine firstE_of r (d ++ [m]) fun a x b e => ?_
    have := h (m :: a) x b (by rw [e]; rfl)
    rw [List.append_assoc]
    exact this
/-- A valid list: what it is made of. -/
structure Good (ms : List GMod) : Prop where
  few : ms.length ≤ 64
  size : endM (startM ms) ms ≤ 16777216
  fit : ∀ m ∈ ms, FitM m
  chk : ∀ a m b, ms = a ++ m :: b → chkM a m = 0
theorem errM_good {ms : List GMod} (h : errM ms = 0) : Good ms := by
  unfold errM at h
  split at h
  · cases h
  · split at h
    · rename_i hf
      split at h
      · cases h
      · rename_i hs
        have hc : ∀ a m b, ms = a ++ m :: b → chkM a m = 0 := fun a m b e => by
          rw [e] at hf
          have := firstE_mid a [] m b hf
          simpa using this
        refine ⟨by omega, by omega, fun m hm => ?_, hc⟩
        obtain ⟨a, b, e⟩ := List.append_of_mem hm
        refine chk_fit (hc a m b e) ?_
        have := endM_mid (startM ms) a m b
        rw [← e] at this
        omega
    · rename_i hf
      exact absurd h hf
theorem Good.err {ms : List GMod} (h : Good ms) : errM ms = 0 := by
  have h1 := h.few
  have h2 := h.size
  unfold errM
  rw [if_neg (by omega), if_pos (firstE_of ms [] fun a m b e => by simpa using h.chk a m b e), if_neg (by omega)]
theorem good_inj {xs ys : List GMod} (hx : errM xs = 0) (hy : errM ys = 0) (h : imageL xs = imageL ys) : xs = ys := by
  have gx := errM_good hx
  have gy := errM_good hy
  have a1 := gx.few
  have a2 := gy.few
  have a3 := gx.size
  have a4 := gy.size
  exact image_inj gx.fit gy.fit (by omega) (by omega) (by omega) (by omega) h
/-- What Parse yields of the bytes b. -/
def IsParse8 (b : List UInt8) (ms : List GMod) (e : Int) : Prop :=
  if b.length < 16 then ms = [] ∧ e = 52
  else if b.take 4 ≠ [77, 75, 66, 73] then ms = [] ∧ e = 68
  else if uintV b 4 2 ≠ 1 then ms = [] ∧ e = 69
  else if b.length < uintV b 8 4 then ms = [] ∧ e = 52
  else if uintV b 8 4 < b.length then ms = [] ∧ e = 53
  else if 16777216 < uintV b 8 4 then ms = [] ∧ e = 15
  else if uintV b 12 4 ≠ crcOf (b.drop 16) then ms = [] ∧ e = 55
  else (e = 0 ∧ errM ms = 0 ∧ imageL ms = b) ∨ (e = 54 ∧ ms = [] ∧ ∀ xs, errM xs = 0 → imageL xs ≠ b)
theorem IsParse8.same {b : List UInt8} {xs ys : List GMod} {e f : Int} (h1 : IsParse8 b xs e) (h2 : IsParse8 b ys f) : xs = ys ∧ e = f := by
  unfold IsParse8 at h1 h2
  by_cases c0 : b.length < 16
  · rw [if_pos c0] at h1 h2
    exact ⟨h1.1.trans h2.1.symm, h1.2.trans h2.2.symm⟩
  rw [if_neg c0] at h1 h2
  by_cases c1 : b.take 4 ≠ [77, 75, 66, 73]
  · rw [if_pos c1] at h1 h2
    exact ⟨h1.1.trans h2.1.symm, h1.2.trans h2.2.symm⟩
  rw [if_neg c1] at h1 h2
  by_cases c2 : uintV b 4 2 ≠ 1
  · rw [if_pos c2] at h1 h2
    exact ⟨h1.1.trans h2.1.symm, h1.2.trans h2.2.symm⟩
  rw [if_neg c2] at h1 h2
  by_cases c3 : b.length < uintV b 8 4
  · rw [if_pos c3] at h1 h2
    exact ⟨h1.1.trans h2.1.symm, h1.2.trans h2.2.symm⟩
  rw [if_neg c3] at h1 h2
  by_cases c4 : uintV b 8 4 < b.length
  · rw [if_pos c4] at h1 h2
    exact ⟨h1.1.trans h2.1.symm, h1.2.trans h2.2.symm⟩
  rw [if_neg c4] at h1 h2
  by_cases c5 : 16777216 < uintV b 8 4
  · rw [if_pos c5] at h1 h2
    exact ⟨h1.1.trans h2.1.symm, h1.2.trans h2.2.symm⟩
  rw [if_neg c5] at h1 h2
  by_cases c6 : uintV b 12 4 ≠ crcOf (b.drop 16)
  · rw [if_pos c6] at h1 h2
    exact ⟨h1.1.trans h2.1.symm, h1.2.trans h2.2.symm⟩
  rw [if_neg c6] at h1 h2
  rcases h1 with ⟨rfl, h3, h4⟩ | ⟨rfl, rfl, h3⟩ <;> rcases h2 with ⟨rfl, h5, h6⟩ | ⟨rfl, rfl, h5⟩
  · exact ⟨good_inj h3 h5 (h4.trans h6.symm), rfl⟩
  · exact absurd h4 (h5 _ h3)
  · exact absurd h6 (h3 _ h5)
  · exact ⟨rfl, rfl⟩
theorem crc_lt (l : List UInt8) : crcOf l < 4294967296 := by unfold crcOf; omega
/-- Parse undoes Build. -/
theorem parse_image {ms : List GMod} (h : errM ms = 0) : IsParse8 (imageL ms) ms 0 := by
  have g := errM_good h
  have a1 := g.few
  have a3 := g.size
  have nm : ∀ m ∈ ms, m.name.length ≤ 24 := fun m hm => (g.fit m hm).name
  have hl := length_image nm
  have hs := start_ge ms
  have hge := endM_ge ms (startM ms)
  obtain ⟨h1, h2, h3, h4, h5, h6⟩ := head_nums (ms := ms) (by omega) (by omega) (crc_lt _)
  unfold IsParse8
  rw [if_neg (by omega), if_neg (by rw [h5]; simp), if_neg (by rw [h1]; simp), if_neg (by rw [h3]; omega), if_neg (by rw [h3]; omega), if_neg (by rw [h3]; omega), if_neg (by rw [h4, h6]; simp)]
  exact .inl ⟨rfl, h, rfl⟩
theorem made_chk {m : GMod} (h : MadeM m) (a : List GMod) (ha : ∀ x ∈ a, ¬ (x.name = m.name ∧ x.width = m.width)) : chkM a m = 0 := by
  obtain ⟨⟨r, hr, hn⟩, hk⟩ := h
  have hnm : nameB m.name = true := by
    rw [hn]
    match r, hr with
    | 0, _ => decide
    | 1, _ => decide
    | 2, _ => decide
  have hany : a.any (fun b => sameKey b m) = false := by
    rw [List.any_eq_false]
    intro x hx
    have := ha x hx
    simp only [sameKey, Bool.and_eq_true, decide_eq_true_eq]
    exact this
  unfold chkM
  rw [if_neg (by rw [hnm]; simp)]
  rcases hk with ⟨k1, w1, k, p1, p2, p3, e, p4, p5⟩ | ⟨k1, w1, p3, p5⟩ | ⟨k1, w1, p3, p5⟩
  · rw [if_neg (by omega), if_neg (by omega), if_neg (by omega), if_neg (by rw [hany]; simp)]
  · rw [if_neg (by omega), if_neg (by omega), if_neg (by omega), if_neg (by rw [hany]; simp)]
  · rw [if_neg (by omega), if_neg (by omega), if_neg (by omega), if_neg (by rw [hany]; simp)]
theorem made_len {m : GMod} (h : MadeM m) : m.data.length ≤ 129 := by
  rcases h.2 with ⟨_, _, k, p1, p2, p3, _⟩ | ⟨_, _, p3, _⟩ | ⟨_, _, p3, _⟩ <;> omega
theorem made_end : ∀ (ms : List GMod) (s : Nat), (∀ m ∈ ms, MadeM m) → endM s ms ≤ s + 192 * ms.length
  | [], s, _ => by simp [endM_nil]
  | m :: r, s, h => by
    have h1 := made_end r (upN (s + m.data.length)) fun x hx => h x (List.mem_cons_of_mem _ hx)
    have h2 := made_len (h m List.mem_cons_self)
    have h3 := upN_lt (s + m.data.length)
    rw [endM_cons, List.length_cons]
    omega
/-- What the law's maker makes is valid. -/
theorem made_good {ms : List GMod} (h : AllMade ms) (hl : ms.length ≤ 5) : errM ms = 0 := by
  refine Good.err ⟨by omega, ?_, fun m hm => ?_, ?_⟩
  · have h1 := made_end ms (startM ms) h.1
    have h2 := upN_lt (16 + 48 * ms.length)
    unfold startM at h1 ⊢
    omega
  · obtain ⟨a, b, e⟩ := List.append_of_mem hm
    refine chk_fit (bs := []) (made_chk (h.1 m hm) [] fun x hx => by simp at hx) ?_
    have := made_len (h.1 m hm)
    omega
  · intro a m b e
    refine made_chk (h.1 m (by rw [e]; simp)) a fun x hx => ?_
    have hp := h.2
    rw [e, List.pairwise_append] at hp
    exact hp.2.2 x hx m List.mem_cons_self
end Go.Proofs.YtcenonnccodfoaaDoor


namespace Go.Proofs.YtcenonnccodfoaaDoor

open Go.RowKit

/-- l written over L from o on. -/
def patch (L : List UInt8) (o : Nat) (l : List UInt8) : List UInt8 := L.take o ++ l ++ L.drop (o + l.length)
theorem length_patch {L l : List UInt8} {o : Nat} (h : o + l.length ≤ L.length) : (patch L o l).length = L.length := by
  simp only [patch, List.length_append, List.length_take, List.length_drop]; omega
theorem patch_nil (L : List UInt8) (o : Nat) : patch L o [] = L := by simp [patch]
theorem patch_mid {a z c l : List UInt8} {o : Nat} (ho : a.length = o) (h : z.length = l.length) : patch (a ++ (z ++ c)) o l = a ++ (l ++ c) := by
  subst ho
  unfold patch
  rw [List.take_left, ← h, ← List.drop_drop, List.drop_left, List.drop_left, List.append_assoc]
theorem vals_patch (L : List UInt8) (o : Nat) (l : List UInt8) : vals (patch L o l) = (vals L).take o ++ vals l ++ (vals L).drop (o + (vals l).length) := by
  simp [patch, vals, List.map_append, List.map_take, List.map_drop]
/-- Block g is just the bytes L. -/
def Buf (w : World) (g : Nat) (L : List UInt8) : Prop := RowT w g 5 (vals L)
/-- The world in which L has become L'. -/
def bufW (w : World) (g : Nat) (L : List UInt8) : World := w.setRow g (vals L).toArray
theorem Buf.set {w : World} {g : Nat} {L : List UInt8} (h : Buf w g L) (L' : List UInt8) : Buf (bufW w g L') g L' := setRow_heap w g _ _ _ _ h
theorem bufW_gb (w : World) (g : Nat) (L : List UInt8) : w.grownBy (bufW w g L) (some g) := ⟨rfl, rfl, rfl, by simp [bufW], fun k _ hk => setRow_other w g k _ (fun e => hk (by rw [e]))⟩
theorem bufW_size (w : World) (g : Nat) (L : List UInt8) : (bufW w g L).heap.size = w.heap.size := by simp [bufW]
theorem Buf.self {w : World} {g : Nat} {L : List UInt8} (h : Buf w g L) : bufW w g L = w := setRow_self w g _ _ _ h
theorem Buf.lt {w : World} {g : Nat} {L : List UInt8} (h : Buf w g L) : g < w.heap.size := RowT.lt h
theorem Buf.below {w w' : World} {g : Nat} {L : List UInt8} (h : Buf w g L) (hb : Below w.heap.size w w') : Buf w' g L := RowT.below h hb h.lt
theorem Buf.drew {w : World} {g : Nat} {L : List UInt8} (h : Buf w g L) : Buf w.drew g L := h
theorem RowT.gb {w w' : World} {g q : Nat} {t : TypeId} {cs : List Value} (h : RowT w q t cs) (hg : w.grownBy w' (some g)) (hne : q ≠ g) : RowT w' q t cs := (hg.block q h.lt (by intro e; cases e; exact hne rfl)).trans h
/-- The buffer, read. -/
theorem Buf.byt {w : World} {g : Nat} {L : List UInt8} (h : Buf w g L) (o n : Nat) (hn : o + n ≤ L.length) : Byt w (g + 1) (some ⟨g, o, none⟩) n ((L.drop o).take n) := by
  refine ⟨by rw [List.length_take, List.length_drop]; omega, fun h0 => ⟨g, o, rfl, by omega, fun j hj => ?_⟩⟩
  rw [RowT.cell h, byV, bt_take _ _ _ hj, bt_drop]
  have e : o + j < L.length := by omega
  simp [vals, bt, List.getElem?_eq_getElem e]
/-- copy of a slice of bytes into the buffer. -/
theorem Buf.copy {w : World} {g : Nat} {L : List UInt8} (h : Buf w g L) {o dLen : Nat} (dCap : Nat) {D A : Option Addr} {B m : Nat} (c : Nat) {l : List UInt8} (hs : Byt w B A m l) (hD : 0 < min m dLen → D = some ⟨g, o, none⟩) (hfit : o + min m dLen ≤ L.length) (ty : TypeId) :
    (Builtin.copy_ #[23, 23] ty #[.slice D dLen dCap, .slice A m c]).run Tryd.prog w = .ok (goInt ((min m dLen : Nat) : Int)) (bufW w g (patch L o (l.take (min m dLen)))) := by
  by_cases h0 : min m dLen = 0
  · rw [run_copy_none w _ _ ty _ D A dLen dCap m c Tryd.underlying23 byte_size h0, h0, List.take_zero, patch_nil, h.self]
    rfl
  · have hD' := hD (by omega)
    subst hD'
    obtain ⟨b, off, rfl, hb, hc⟩ := hs.2 (by omega)
    have hl : (vals (l.take (min m dLen))).length = min m dLen := by rw [length_vals, List.length_take, hs.1]; omega
    have hr := run_copy_row Tryd.prog w 23 23 ty _ g o dLen dCap ⟨b, off, none⟩ m c (vals L).toArray 5 (vals (l.take (min m dLen))) Tryd.underlying23 byte_size h hl
      (fun j v hj => by
        obtain ⟨hj1, rfl⟩ := vals_get _ j v hj
        rw [List.length_take, hs.1] at hj1
        have e : (⟨b, off, none⟩ : Addr).add j = ⟨b, off + j, none⟩ := by unfold Addr.add; split <;> simp_all
        rw [e, hc j (by omega)]
        unfold byV
        rw [bt_take _ _ _ (by omega)])
      (by rw [hl]; simp [length_vals]; omega) (vals_one _)
    rw [hr, hl]
    unfold bufW
    rw [vals_patch, hl]
/-- copy of a string into the buffer. -/
theorem Buf.copyS {w : World} {g : Nat} {L : List UInt8} (h : Buf w g L) {o dLen : Nat} (dCap : Nat) (l : List UInt8) (hle : l.length ≤ dLen) (hfit : o + l.length ≤ L.length) (ty sT : TypeId) :
    (Builtin.copy_ #[23, sT] ty #[.slice (some ⟨g, o, none⟩) dLen dCap, .string ⟨l.toArray⟩]).run Tryd.prog w = .ok (goInt l.length) (bufW w g (patch L o l)) := by
  have hsz : (⟨l.toArray⟩ : ByteArray).size = l.length := rfl
  have hmin : Nat.min l.length dLen = l.length := Nat.min_eq_left hle
  have hst := run_storeCells_at Tryd.prog g o 5 (vals l) 0 (vals L).toArray w h (by rw [length_vals]; simp [length_vals]; omega) (vals_one _)
  simp only [Nat.add_zero, length_vals] at hst
  simp [Builtin.copy_, run_underlying byte_elem, Builtin.lenOf, Builtin.firstCells, run_byteSize, hsz, hmin]
  have e : (List.map (fun x : UInt8 => Value.int IntKind.u8 (x.toNat : Int)) l) = vals l := rfl
  rw [List.take_of_length_le (by simp), e, hst]
  unfold bufW
  rw [vals_patch, length_vals]
  rfl
/-- A copy whose run is known, asx a step of the walk. -/
theorem wpList_copy_run {ops : Array Oper} {rest : List Oper} {o : Oper} {a : Act} {Q : Exit → Act → World → Prop} {v y v' : Value} {W w' : World} {dT sT : TypeId}
    (hrun : (Builtin.copy_ #[dT, sT] o.type #[v, y]).run Tryd.prog W = .ok v' w') (hgd : o.guard = none) {s x : Operand}
    (ho : o.op = .call { callee := .builtin .copy, args := #[s, x], argTypes := #[dT, sT] }) (hs : a.eval s = v) (hx : a.eval x = y)
    (h : wpList Tryd.prog ops Q rest (a.put o.dst v') w') : wpList Tryd.prog ops Q (o :: rest) a W := by
  refine wpList_plain hgd fun K hK => ?_
  unfold Oper.wp execOp
  simp only [ho, resolve, invoke, builtin, Sem.run_bind, Sem.run_pure, Result.andThen_ok, List.map_toArray, List.map_cons, List.map_nil, hs, hx, hrun]
  exact hK _ _ h
/-- .. and of a region that leaves its order open. -/
theorem step_copy_run {ops : Array Oper} {o : Oper} {a : Act} {W : World} {K : Act → World → Prop} {Q : Exit → Act → World → Prop} {E : Prop} {v y v' : Value} {w' : World} {dT sT : TypeId}
    (hrun : (Builtin.copy_ #[dT, sT] o.type #[v, y]).run Tryd.prog W = .ok v' w') (hg : o.guard = none) {s x : Operand}
    (ho : o.op = .call { callee := .builtin .copy, args := #[s, x], argTypes := #[dT, sT] }) (hs : a.eval s = v) (hx : a.eval x = y) (hK : K (a.put o.dst v') w') :
    if Region.wanted o (yielded ops a.tmps) = true then Oper.wp Tryd.prog o a W K Q else E := by
  have hw : Region.wanted o (yielded ops a.tmps) = true := by simp [Region.wanted, hg]
  rw [if_pos hw]
  unfold Oper.wp
  simp [execOp, ho, resolve, invoke, builtin, hs, hx, hrun, Result.andThen]
  exact hK
end Go.Proofs.YtcenonnccodfoaaDoor
