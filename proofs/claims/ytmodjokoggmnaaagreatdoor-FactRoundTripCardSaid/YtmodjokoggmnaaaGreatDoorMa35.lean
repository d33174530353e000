/-
  A fact, or a slice of facts, that comes in as an argument, as the library opens it, reads as plain data.
  Conditions: none beyond the frame's.
  The law FactOrder returns true.
  Conditions: the three facts are facts of the language; strconv.ErrRange and the table of powers of ten lie as the program's start lays them.
  The reference's add: the walk.
  Conditions: at most 990 facts; kinds are ints of the language.
-/
import Derived.Test.YtmodjokoggmnaaaGreatDoorMa33
import Derived.Test.YtmodjokoggmnaaaGreatDoorMa34
import Derived.Test.YtmodjokoggmnaaaGreatDoorMa26
import Derived.Deep.DeepFit
import Derived.Deep.DeepCutAuto
namespace Go.Proofs.YtmodjokoggmnaaaGreatDoor

open Go.ChangeShapes Go.WideShapes Go.RowKit

/-- What the language gives of a value. -/
structure ValWf (v : GVal) : Prop where
  kind : (Lit.int .i64 v.kind).wf = true
  int : (Lit.int .i64 v.int).wf = true
  word : v.word.length ≤ 140737488355328
structure IsFact (w : World) (s : SFact) (f : GFact) : Prop where
  hold : FHold0 w w.heap.size s f
  rel : f.rel.length ≤ 140737488355328
  wf : ∀ v ∈ f.args, ValWf v
structure IsFacts (w : World) (a : Option Addr) (len cap : Nat) (ss : List SFact) (fs : List GFact) : Prop where
  count : fs.length = len
  le : len ≤ cap
  max : cap ≤ maxLen
  row : FRow0 w w.heap.size a ss fs
  each : ∀ i (h1 : i < ss.length) (h2 : i < fs.length), IsFact w ss[i] fs[i]

instance : Inhabited GVal := ⟨⟨0, 0, []⟩⟩
section

variable {H : Type} {enc : TypeId × Value → H} {W : World} {base : Nat} {spare : Nat → Bool} {held : Bool}

set_option maxRecDepth 50000 in
theorem val_open {n : Nat} {cs : List Value} {x : DataW H × List MemPlace} (h : DataW.trod enc Tryz.prog W base spare held n 40 cs = some x) : ∃ v : GVal, cs = v.cells ∧ (Lit.int .i64 v.kind).wf = true ∧ (Lit.int .i64 v.int).wf = true ∧ v.word.length ∈ x.1.weights Tryz.prog 40 := by
  obtain ⟨ys, m, _, hxy, hlen, hyl, hf⟩ := DataW.trod_struct Tryz.underlying40 h
  have c0 : Tryz.prog.cellsOf 40 = 3 := by kernel_rfl
  rw [c0] at hlen
  match cs, hlen with
  | [v0, v1, v2], _ =>
    have n0 : Tryz.prog.cellsOf 3 = 1 := by kernel_rfl
    have n1 : Tryz.prog.cellsOf 9 = 1 := by kernel_rfl
    have n2 : Tryz.prog.cellsOf 2 = 1 := by kernel_rfl
    have h0 := hf 0 _ rfl
    have h1 := hf 1 _ rfl
    have h2 := hf 2 _ rfl
    have yl : ys.length = 3 := hyl
    match ys, yl with
    | [y0, y1, y2], _ =>
      simp [n0] at h0
      simp [n2] at h1
      simp [n1] at h2
      obtain ⟨k, hk, _, hkw⟩ := DataW.trod_int Tryz.underlying3 h0
      obtain ⟨v, hv, _, hvw⟩ := DataW.trod_int Tryz.underlying2 h1
      obtain ⟨s, hs, hsd, hsw⟩ := DataW.trod_string Tryz.underlying9 h2
      simp at hk hs hv
      subst hk hs hv
      obtain ⟨⟨l⟩⟩ := s
      refine ⟨⟨k, v, l⟩, rfl, hkw, hvw, ?_⟩
      rw [hxy]
      simp only [DataW.weights, Tryz.underlying40]
      exact DataW.weights_mem_each (j := 2) (t := 9) (d := y2.1) rfl rfl _ (by rw [hsd]; simp [DataW.weights])
theorem vals_open {n : Nat} {cs : List Value} {x : DataW H × List MemPlace} (h : DataW.trod enc Tryz.prog W base spare held n 35 cs = some x) (hwt : ∀ n ∈ x.1.weights Tryz.prog 35, n ≤ reachBytes) :
    ∃ A len cap, ∃ vs : List GVal, cs = [.slice A len cap] ∧ vs.length = len ∧ len ≤ cap ∧ cap ≤ maxLen ∧ GRow GVal.cells 3 W W.heap.size A vs ∧ ∀ v ∈ vs, ValWf v := by
  obtain ⟨d, p⟩ := x
  rcases Go.Deep.open_slice Tryz.underlying35 h with ⟨hcs, _⟩ | ⟨x, l, c, m, n, D, Pl, hcs, _, hl, hm, hmm, hxd, hx⟩
  · exact ⟨none, 0, 0, [], hcs, rfl, Nat.le_refl _, Nat.zero_le _, GRow.nil, fun t ht => (by cases ht)⟩
  · have c0 : Tryz.prog.cellsOf 40 = 3 := by kernel_rfl
    rw [c0] at hx
    have hlm : l ≤ m := by rw [hmm]; split <;> omega
    have each : ∀ i, i < l → ∃ t : GVal, ValWf t ∧ ∀ j, j < 3 → W.cell? ((x.add (i * 3)).add j) = t.cells[j]? := fun i hi => by
      obtain ⟨cs', hc, ht⟩ := hx i (by omega)
      obtain ⟨t, rfl, hw1, hw2, hmem⟩ := val_open ht
      obtain ⟨_, _, hat⟩ := World.cells?_some hc
      have hd : d = .slice ((List.range l).map D) ((List.range (m - l)).map fun j => D (l + j)) := congrArg Prod.fst hxd
      have hle := hwt t.word.length (by
        show _ ∈ d.weights _ _
        rw [hd]
        simp only [DataW.weights, Tryz.underlying35, List.mem_cons, List.mem_append]
        exact .inr (.inl (weights_mem_all (List.mem_map.2 ⟨i, List.mem_range.2 hi, rfl⟩) hmem)))
      have h47 := reachBytes_lt
      exact ⟨t, ⟨hw1, hw2, by omega⟩, fun j hj => hat j hj⟩
    obtain ⟨f, hfx⟩ := Go.Deep.choose_lt each
    refine ⟨some x, l, c, (List.range l).map f, hcs, by simp, hl, hm, fun h0 => ?_, fun t ht => ?_⟩
    · simp at h0
      obtain ⟨b, off, spot⟩ := x
      have hc0 := (hfx 0 h0).2 0 (by omega)
      have hspot : spot = none := by simpa [Addr.add] using World.cell?_spot (hc0.trans rfl)
      subst hspot
      have hlt := World.block_lt_of_cell? W _ (hc0.trans rfl)
      refine ⟨b, off, rfl, by simpa [Addr.add] using hlt, fun i hi j u hu => ?_⟩
      simp at hi
      have hj : j < 3 := by
        rcases Nat.lt_or_ge j 3 with h1 | h1
        · exact h1
        · rw [List.getElem?_eq_none (by simp [GVal.cells]; omega)] at hu; cases hu
      have e : ((⟨b, off, none⟩ : Addr).add (i * 3)).add j = ⟨b, off + (i * 3 + j), none⟩ := by rw [Go.WideShapes.add_plain, Go.WideShapes.add_plain, Nat.add_assoc]
      have := (hfx i hi).2 j hj
      rw [e] at this
      simp at hu
      rw [this, hu]
    · obtain ⟨i, hi, rfl⟩ := List.mem_map.1 ht
      exact (hfx i (List.mem_range.1 hi)).1
set_option maxRecDepth 50000 in
theorem fact_open {n : Nat} {cs : List Value} {x : DataW H × List MemPlace} (h : DataW.trod enc Tryz.prog W base spare held n 37 cs = some x) (hwt : ∀ n ∈ x.1.weights Tryz.prog 37, n ≤ reachBytes) :
    ∃ s f, cs = s.cells ∧ IsFact W s f := by
  obtain ⟨ys, m, _, hxy, hlen, hyl, hf⟩ := DataW.trod_struct Tryz.underlying37 h
  have c0 : Tryz.prog.cellsOf 37 = 2 := by kernel_rfl
  rw [c0] at hlen
  match cs, hlen with
  | [v0, v1], _ =>
    have n0 : Tryz.prog.cellsOf 9 = 1 := by kernel_rfl
    have n1 : Tryz.prog.cellsOf 35 = 1 := by kernel_rfl
    have h0 := hf 0 _ rfl
    have h1 := hf 1 _ rfl
    have yl : ys.length = 2 := hyl
    match ys, yl with
    | [y0, y1], _ =>
      simp [n0] at h0
      simp [n1] at h1
      obtain ⟨s, hs, hsd, hsw⟩ := DataW.trod_string Tryz.underlying9 h0
      have hrel : s.size ≤ reachBytes := hwt _ (by
        rw [hxy]
        simp only [DataW.weights, Tryz.underlying37]
        exact DataW.weights_mem_each (j := 0) (t := 9) (d := y0.1) rfl rfl _ (by rw [hsd]; simp [DataW.weights]))
      obtain ⟨A, len, cap, vs, hcs, hvl, hle, hmx, hrow, hwf⟩ := vals_open h1 (fun k hk => hwt k (by
        rw [hxy]
        simp only [DataW.weights, Tryz.underlying37]
        exact DataW.weights_mem_each (j := 1) (t := 35) (d := y1.1) rfl rfl _ hk))
      simp at hs hcs
      subst hs hcs
      obtain ⟨⟨l⟩⟩ := s
      have h47 := reachBytes_lt
      rw [ba_size] at hrel
      exact ⟨⟨l, A, len, cap⟩, ⟨l, vs⟩, rfl, ⟨⟨rfl, hvl.symm, hrow, by show vs.length ≤ _; omega⟩, by show l.length ≤ _; omega, hwf⟩⟩
set_option maxRecDepth 50000 in
theorem IsFact_open {v : Value} {d : DataW H} {p : List MemPlace} {r : Reach} {b : Nat} (hv : Value.okWide Tryz.prog W r b 37 v) (h : DataW.Trod enc Tryz.prog W base spare held 37 v d p) (hwt : ∀ n ∈ d.weights Tryz.prog 37, n ≤ reachBytes) :
    ∃ l A n c f, v = .agg #[.string ⟨l⟩, .slice A n c] ∧ IsFact W ⟨l.toList, A, n, c⟩ f := by
  obtain ⟨cs, rfl, _⟩ := okWide_struct Tryz.underlying37 hv
  obtain ⟨fuel, hf⟩ := h
  obtain ⟨s, f, hcs, hi⟩ := fact_open hf hwt
  obtain ⟨l, A, n, c⟩ := s
  refine ⟨l.toArray, A, n, c, f, ?_, by simpa using hi⟩
  have : cs.toList = [.string ⟨l.toArray⟩, .slice A n c] := hcs
  obtain ⟨cl⟩ := cs
  simp at this
  rw [this]
end

end Go.Proofs.YtmodjokoggmnaaaGreatDoor


namespace Go.Proofs.YtmodjokoggmnaaaGreatDoor

open Go.RowKit Go.Shelf

def objF (s : SFact) : Obj := .cells #[.string ⟨s.rel.toArray⟩, .slice s.A s.n s.c] 37
def valF (s : SFact) : Value := .agg #[.string ⟨s.rel.toArray⟩, .slice s.A s.n s.c]
/-- The block N is a variable that holds the fact s. -/
def BoxF (w : World) (N : Nat) (s : SFact) : Prop := w.heap[N]? = some (objF s)
theorem BoxF.c0 {w : World} {N : Nat} {s : SFact} (h : BoxF w N s) : w.cell? ⟨N, 0, none⟩ = some (.string ⟨s.rel.toArray⟩) := by unfold BoxF objF at h; rw [Lib.cell_of_heap h]; rfl
theorem BoxF.c1 {w : World} {N : Nat} {s : SFact} (h : BoxF w N s) : w.cell? ⟨N, 1, none⟩ = some (.slice s.A s.n s.c) := by unfold BoxF objF at h; rw [Lib.cell_of_heap h]; rfl
theorem BoxF.lt {w : World} {N : Nat} {s : SFact} (h : BoxF w N s) : N < w.heap.size := by
  unfold BoxF at h
  rcases Nat.lt_or_ge N w.heap.size with h1 | h1
  · exact h1
  · rw [Array.getElem?_eq_none h1] at h; cases h
theorem BoxF.next {w w' : World} {N : Nat} {s : SFact} (h : BoxF w N s) (hb : Below w.heap.size w w') : BoxF w' N s := (hb.block N h.lt).trans h
theorem BoxF.alloc {w : World} {N : Nat} {s : SFact} (h : BoxF w N s) (o : Obj) : BoxF (w.alloc o) N s := (Below.heap_alloc w o N h.lt).trans h
theorem BoxF.new (w : World) (s : SFact) : BoxF (w.alloc (objF s)) w.heap.size s := heap_alloc_new w _
/-- facts.Compare at two facts, asx they lie in memory. -/
theorem compareS_any (f g : GFact) (s t : SFact) (w : World) (hf : FHold w w.heap.size s f) (hg : FHold w w.heap.size t g) :
    Calls Tryz.prog 18 #[.agg #[.string ⟨s.rel.toArray⟩, .slice s.A s.n s.c], .agg #[.string ⟨t.rel.toArray⟩, .slice t.A t.n t.c]] w fun e w' => e = .returned (.int .i64 (cmpF f g)) ∧ Below w.heap.size w w' := by
  rw [hf.rel, hf.n, hg.rel, hg.n]
  exact compare_any f g s.A t.A s.c t.c w hf.row hg.row hf.few hg.few
theorem sign3 {x : Int} (h : -1 ≤ x ∧ x ≤ 1) : x = -1 ∨ x = 0 ∨ x = 1 := by omega
def OrdMeas (n : Nat) (v10 v11 : Value) : Nat := match v10 with
  | .bool true => n + 1 - (intOf v11).toNat
  | _ => 0

theorem three_row (W : World) {sa sb sc : SFact} {a b c : GFact} (ha : FHold0 W W.heap.size sa a) (hb : FHold0 W W.heap.size sb b) (hc : FHold0 W W.heap.size sc c) :
    FRow0 (W.alloc (.cells #[.string ⟨sa.rel.toArray⟩, .slice sa.A sa.n sa.c, .string ⟨sb.rel.toArray⟩, .slice sb.A sb.n sb.c, .string ⟨sc.rel.toArray⟩, .slice sc.A sc.n sc.c] 37)) (W.alloc (.cells #[.string ⟨sa.rel.toArray⟩, .slice sa.A sa.n sa.c, .string ⟨sb.rel.toArray⟩, .slice sb.A sb.n sb.c, .string ⟨sc.rel.toArray⟩, .slice sc.A sc.n sc.c] 37)).heap.size (some ⟨W.heap.size, 0, none⟩) [sa, sb, sc] [a, b, c] := by
  have hl := bel_lit (Below.refl W.heap.size W) (.cells #[.string ⟨sa.rel.toArray⟩, .slice sa.A sa.n sa.c, .string ⟨sb.rel.toArray⟩, .slice sb.A sb.n sb.c, .string ⟨sc.rel.toArray⟩, .slice sc.A sc.n sc.c] 37)
  refine ⟨GRow.lit SFact.len W 37 [sa, sb, sc] _ rfl (by unfold maxLen; simp), rfl, fun i h1 h2 => ?_⟩
  have h1' : i < 3 := h1
  match i, h1' with
  | 0, _ => exact ha.next (Nat.le_refl _) hl
  | 1, _ => exact hb.next (Nat.le_refl _) hl
  | 2, _ => exact hc.next (Nat.le_refl _) hl
def OrdI (a b : GFact) (q : Bool) (k : Nat) : Prop := (q = true → a.rel = b.rel ∧ a.args.length = b.args.length ∧ k ≤ a.args.length ∧ a.args.take k = b.args.take k) ∧ (q = false → a ≠ b)
theorem OrdI.step {a b : GFact} {k : Nat} (h : OrdI a b true k) (h1 : k < a.args.length) (h2 : k < b.args.length) :
    OrdI a b (a.args[k].kind == b.args[k].kind && (a.args[k].int == b.args[k].int && a.args[k].word == b.args[k].word)) (k + 1) := by
  obtain ⟨e1, e2, _, e4⟩ := h.1 rfl
  refine ⟨fun hq => ⟨e1, e2, h1, ?_⟩, fun hq he => ?_⟩
  · rw [List.take_succ_eq_append_getElem h1, List.take_succ_eq_append_getElem h2, e4, val_same hq]
  · subst he
    simp at hq
theorem OrdI.done {a b : GFact} {k : Nat} (h : OrdI a b true k) (h1 : a.args.length ≤ k) : a = b := by
  obtain ⟨e1, e2, e3, e4⟩ := h.1 rfl
  rw [List.take_of_length_le h1, List.take_of_length_le (by omega)] at e4
  cases a; cases b; simp_all
end Go.Proofs.YtmodjokoggmnaaaGreatDoor


namespace Go.Proofs.YtmodjokoggmnaaaGreatDoor

open Go.RowKit Go.Shelf

section

variable {w0 : World}

set_option maxRecDepth 50000 in
set_option maxHeartbeats 1000000 in
theorem rAdd_any (es : List (Elem w0)) (x : Elem w0) (A : Option Addr) (c : Nat) (w : World) (hb : Below w0.heap.size w0 w) (hr : RowE w A c es) (hst : StrictF (FactsE es)) (hn : es.length ≤ 1000000) (hkx : KindsWf x.fact.args) :
    Calls Tryz.prog 41 #[.slice A es.length c, .agg #[.string ⟨x.sf.rel.toArray⟩, .slice x.sf.A x.sf.n x.sf.c]] w (AddEnd es x w) := by
  have hle := hr.le
  have hmx := hr.max
  unfold maxLen at hmx
  generalize hW1 : w.alloc (objF x.sf) = W1
  have hb1 : Below w.heap.size w W1 := by rw [← hW1]; exact bel_lit (Below.refl _ _) _
  have bx : BoxF W1 w.heap.size x.sf := by rw [← hW1]; exact BoxF.new w x.sf
  have HX := Lib.hid bx
  have HB1 := Lib.hid hb1
  have HB0 := Lib.hid (bel_next hb hb1)
  have HR := Lib.hid (hr.next hb1)
  have HKX := Lib.hid hkx
  have hw1 : W1.heap.size = w.heap.size + 1 := by rw [← hW1]; simp
  have HST := Lib.hid hst
  have hst2 := hst
  clear hst2
  clear hb hr hb1 bx hkx
  simp only [objF] at hW1
  clear hst
  go_enter Tryz.func41, Tryz.ntmps41
  go_upto_region 1 with fail
  clear hW1
  go_wp2
  go_loopw [5] (fun vk wr => ∃ k : Nat, vk = .int .i64 k ∧ k ≤ es.length ∧ Hid (∀ y ∈ (FactsE es).drop k, 0 < cmpF y x.fact) ∧ Hid (Below W1.heap.size W1 wr)) (fun vk _ => (intOf vk).toNat)
  case atStart => exact ⟨es.length, rfl, Nat.le_refl _, Lib.hid (by rw [List.drop_eq_nil_of_le (by simp [FactsE])]; simp), Lib.hid (Below.refl _ _)⟩
  case round =>
    obtain ⟨k, rfl, hk, HG, HW⟩ := hrel
    by_cases hq : k = 0
    · have f0 : decide ((0 : Int) < (k : Int)) = false := by simp; omega
      have f1 : decide (0 < k) = false := by simp; omega
      have g0 : ¬ (0 : Int) < (k : Int) := by omega
      have g1 : ¬ 0 < k := by omega
      have HLow : Hid (∀ z ∈ (FactsE es).take k, cmpF z x.fact < 0) := Lib.hid (by rw [hq]; simp)
      have hxr := HX.out.next HW.out
      have HMK : Hid (∀ W : World, Below wr.heap.size wr W → (Below wr.heap.size wr W ∧ True ∧ True ∧ W.cell? ⟨w.heap.size, 0, none⟩ = some (.string ⟨x.sf.rel.toArray⟩) ∧ W.cell? ⟨w.heap.size, 1, none⟩ = some (.slice x.sf.A x.sf.n x.sf.c))) := Lib.hid fun W hb => by
        have hx2 := hxr.next hb
        exact ⟨hb, trivial, trivial, hx2.c0, hx2.c1⟩
      clear hq hxr
      go_upto_region 2 with fail
      go_quiet (fail)
      have hS4 := HMK.out _ (bel_drewN wr.heap.size wr nq)
      generalize wr.drewN nq = w1 at *
      go_wp2
      go_upto_region 4 with fail
      go_quiet (fail)
      have hS5 := HMK.out _ (hS4.1.trans (bel_drewN wr.heap.size w1 nq))
      generalize w1.drewN nq = w2 at *
      clear hS4
      go_wp2
      have HWq := Lib.hid (bel_next HW.out hS5.1)
      have hbq : Below w.heap.size w w2 := bel_next HB1.out HWq.out
      have hsq := hbq.size
      have q0 := hS5.2.2.2.1
      have q1 := hS5.2.2.2.2
      have hrq := HR.out.next HWq.out
      obtain ⟨A1, hsl1, hr1⟩ := cut_toE hrq.row hk hrq.le
      obtain ⟨A2, hsl2, hr2⟩ := cut_fromE hrq.row hk hrq.le
      have HKS3 : Hid (∀ W : World, Below w2.heap.size w2 W → (Below w2.heap.size w2 W ∧ W.cell? ⟨w.heap.size, 0, none⟩ = some (.string ⟨x.sf.rel.toArray⟩) ∧ W.cell? ⟨w.heap.size, 1, none⟩ = some (.slice x.sf.A x.sf.n x.sf.c))) := Lib.hid fun W hb => by
        have key : ∀ {N j : Nat} {v : Value}, w2.cell? ⟨N, j, none⟩ = some v → W.cell? ⟨N, j, none⟩ = some v := fun {N j v} h => (hb.cell (p := ⟨N, j, none⟩) (World.block_lt_of_cell? w2 _ h)).trans h
        exact ⟨hb, key q0, key q1⟩
      have hlk : (es.take k).length = k := by rw [List.length_take]; omega
      have HAP1 : Hid (∀ W, Below w2.heap.size w2 W → ∃ v' w', (Builtin.append_ #[22, 22] 22 #[.slice none 0 0, .slice A1 k c]).run Tryz.prog W = .ok v' w' ∧ (OwnG Elem.enc 37 2 w' w2.heap.size v' (es.take k) ∧ Below W.heap.size W w' ∧ Below w2.heap.size w2 w')) := Lib.hid fun W hW => by
        obtain ⟨v', w', h1, h2, h3, _⟩ := OwnG.app elt_fact Elem.len Elem.one (OwnG.nil W w2.heap.size) c (hr1.below (Nat.le_refl _) hW) hW.size (by unfold maxLen; simp; omega) (by simp; omega)
        rw [hlk] at h1
        rw [List.nil_append] at h2
        exact ⟨v', w', h1, h2, (Below.refl _ _).grown h3 (Nat.le_refl _) (fun g hg => by cases hg), hW.grown h3 hW.size (fun g hg => by cases hg)⟩
      have HAP2 : Hid (∀ W v A' B, Below w2.heap.size w2 W → OwnG Elem.enc 37 2 W w2.heap.size v (es.take k) → GRow Elem.enc 2 W B A' [x] → ∃ v' w', (Builtin.append_ #[22, 22] 22 #[v, .slice A' 1 1]).run Tryz.prog W = .ok v' w' ∧ (OwnG Elem.enc 37 2 w' w2.heap.size v' (es.take k ++ [x]) ∧ Below w2.heap.size w2 w')) := Lib.hid fun W v A' B hW ho hrx => by
        obtain ⟨v', w', h1, h2, h3, _⟩ := OwnG.app elt_fact Elem.len Elem.one ho 1 hrx hW.size (by unfold maxLen; simp; omega) (by simp; omega)
        exact ⟨v', w', h1, h2, hW.grown h3 hW.size (fun g hg => (ho.lt g hg).1)⟩
      have hS7 := HKS3.out w2.drew ((Below.refl _ _).drew)
      have HR2 := Lib.hid hr2
      have HSL2 := Lib.hid hsl2
      clear hrq hr1 hr2 q0 q1 hlk hbq hS5 hsl2
      go_upto_region 6 with fail
      go_region_held3 (fun W => Below w2.heap.size w2 W ∧ W.cell? ⟨w.heap.size, 0, none⟩ = some (.string ⟨x.sf.rel.toArray⟩) ∧ W.cell? ⟨w.heap.size, 1, none⟩ = some (.slice x.sf.A x.sf.n x.sf.c))
        (first | assumption | exact HKS3.out _ (bel_lit (And.left (by assumption)) _))
        (first
          | (refine step_gapp_ex (HAP1.out _ (And.left (by assumption))) rfl rfl rfl rfl rfl ?_; rintro v5 u5 ⟨ho5, hb5, hb6⟩; have hS8 := HKS3.out _ hb6)
          | (refine step_gapp_ex (HAP2.out _ _ _ _ (bel_lit hb6 _) (ho5.alloc _) (GRow.lit Elem.len _ 37 [x] _ rfl (by unfold maxLen; simp))) rfl rfl rfl rfl rfl ?_; rintro v7 u7 ⟨ho7, hb7⟩; have hS9 := HKS3.out _ hb7)
          | (refine step_gapp_ex (HAP2.out _ _ _ _ hb6 ho5 (((GRow.lit Elem.len _ 37 [x] _ rfl (by unfold maxLen; simp)).next ((Below.refl _ _).drew)).next hb5)) rfl rfl rfl rfl rfl ?_; rintro v7 u7 ⟨ho7, hb7⟩; have hS9 := HKS3.out _ hb7))
      all_goals
        obtain ⟨v8, w8, hrun8, hown8, hgr8, _⟩ := OwnG.app elt_fact Elem.len Elem.one ho7 (c - k) (HR2.out.below (Nat.le_refl _) hb7) (hb7.size) (by unfold maxLen; simp; omega) (by simp; omega)
        have HBF := Lib.hid (bel_next (bel_next HB1.out HWq.out) (hb7.grown hgr8 hb7.size (fun g hg => (ho7.lt g hg).1)))
        have hfe : FactsE (es.take k ++ [x] ++ es.drop k) = (FactsE es).take k ++ x.fact :: (FactsE es).drop k := by simp [FactsE, List.map_take, List.map_drop]
        have hkd : ∀ f ∈ FactsE (es.take k ++ [x] ++ es.drop k), KindsWf f.args := by
          rw [hfe]
          intro f hf
          rcases (mem_ins f).1 hf with h | rfl
          · exact HR.out.kinds f h
          · exact HKX.out
        obtain ⟨A9, c9, rfl, hre9⟩ := hown8.rowE hkd
        have HEND : Hid (AddEnd es x w (.returned (.slice A9 (es.take k ++ [x] ++ es.drop k).length c9)) w8) := Lib.hid ⟨A9, c9, _, rfl, hre9, by rw [hfe]; exact strict_ins HST.out HG.out HLow.out, fun g => by rw [hfe]; exact mem_ins g, by simp; omega, HBF.out⟩
        rw [show (es.take k ++ [x] ++ es.drop k).length = k + (es.length - k + 1) by simp; omega] at HEND
        obtain ⟨A7, c7, rfl, _, _, _⟩ := ho7.row Elem.len
        have HR8 := Lib.hid hrun8
        have hsl2 := HSL2.out
        rw [List.length_drop] at HR8
        clear hrun8 hown8 hgr8 hre9 hkd hfe ho7 hb7 hS9 hS8 hS7 hb6 hb5 ho5
        go_wp2_with (at_builtin; refine wpList_gapp HR8.out rfl rfl rfl rfl rfl ?_)
        go_wp2
        go_ret
        exact HEND.out
    · obtain ⟨j, hj⟩ : ∃ j, k = j + 1 := ⟨k - 1, by omega⟩
      have f0 : decide ((0 : Int) < (k : Int)) = true := by simp; omega
      have f1 : decide (0 < k) = true := by simp; omega
      have g0 : (0 : Int) < (k : Int) := by omega
      have g1 : 0 < k := by omega
      have hlt : j < es.length := by omega
      have hwj : IntKind.i64.wrap ((k : Int) - 1) = (j : Int) := (IntWalk.i64_in _ (by omega)).trans (by omega)
      obtain ⟨b1, o1, rfl, hb1, x0, x1⟩ := (HR.out.row.below (Nat.le_refl _) HW.out).elem2 hlt
      have hxr := HX.out.next HW.out
      have e0 := hxr.c0
      have e1 := hxr.c1
      have hsz := HW.out.size
      have hl1 : b1 < wr.heap.size := by omega
      have HDS := Lib.hid fun h => drop_snoc (fs := FactsE es) (f := x.fact) (j := j) (by simpa [FactsE] using hlt) (by rw [← hj]; exact HG.out) h
      have HLO := Lib.hid fun h => strict_low (fs := FactsE es) (f := x.fact) (j := j) HST.out (by simpa [FactsE] using hlt) h
      have hgj : (FactsE es)[j]'(by simpa [FactsE] using hlt) = es[j].fact := by simp [FactsE]
      rw [hgj] at HDS HLO
      rw [← hj] at HLO
      have HME := Lib.hid (show es[j].fact ∈ FactsE es from List.mem_map.2 ⟨es[j], List.getElem_mem hlt, rfl⟩)
      have HJ := Lib.hid hj
      clear hgj hj hq
      have HC := Lib.hid fun W (hW : Below wr.heap.size wr W) => rCompare_any es[j].fact x.fact es[j].sf x.sf W (es[j].hold (bel_next (bel_next HB0.out HW.out) hW)) (x.hold (bel_next (bel_next HB0.out HW.out) hW)) (HR.out.kinds _ (List.mem_map.2 ⟨es[j], List.getElem_mem hlt, rfl⟩)) HKX.out
      generalize es[j] = y at *
      generalize hcc : cmpF y.fact x.fact = cc at *
      have HCC := Lib.hid hcc
      have HKS : Hid (∀ W W' : World, (Below wr.heap.size wr W ∧ W.cell? ⟨b1, o1 + j * 2, none⟩ = some (.string ⟨y.sf.rel.toArray⟩) ∧ W.cell? ⟨b1, o1 + j * 2 + 1, none⟩ = some (.slice y.sf.A y.sf.n y.sf.c) ∧ W.cell? ⟨w.heap.size, 0, none⟩ = some (.string ⟨x.sf.rel.toArray⟩) ∧ W.cell? ⟨w.heap.size, 1, none⟩ = some (.slice x.sf.A x.sf.n x.sf.c)) → Below W.heap.size W W' →
          (Below wr.heap.size wr W' ∧ W'.cell? ⟨b1, o1 + j * 2, none⟩ = some (.string ⟨y.sf.rel.toArray⟩) ∧ W'.cell? ⟨b1, o1 + j * 2 + 1, none⟩ = some (.slice y.sf.A y.sf.n y.sf.c) ∧ W'.cell? ⟨w.heap.size, 0, none⟩ = some (.string ⟨x.sf.rel.toArray⟩) ∧ W'.cell? ⟨w.heap.size, 1, none⟩ = some (.slice x.sf.A x.sf.n x.sf.c))) := Lib.hid fun W W' h hb => by
        obtain ⟨h0, h1, h2, h3, h4⟩ := h
        have key : ∀ {N j : Nat} {v : Value}, W.cell? ⟨N, j, none⟩ = some v → W'.cell? ⟨N, j, none⟩ = some v := fun {N j v} h => (hb.cell (p := ⟨N, j, none⟩) (World.block_lt_of_cell? W _ h)).trans h
        exact ⟨bel_next h0 hb, key h1, key h2, key h3, key h4⟩
      have hS4 := HKS.out wr wr.drew ⟨Below.refl _ _, x0, x1, e0, e1⟩ ((Below.refl _ _).drew)
      clear x0 x1 e0 e1 hxr hcc
      go_upto_region 2 with fail
      go_region_held3 (fun W => Below wr.heap.size wr W ∧ W.cell? ⟨b1, o1 + j * 2, none⟩ = some (.string ⟨y.sf.rel.toArray⟩) ∧ W.cell? ⟨b1, o1 + j * 2 + 1, none⟩ = some (.slice y.sf.A y.sf.n y.sf.c) ∧ W.cell? ⟨w.heap.size, 0, none⟩ = some (.string ⟨x.sf.rel.toArray⟩) ∧ W.cell? ⟨w.heap.size, 1, none⟩ = some (.slice x.sf.A x.sf.n x.sf.c))
        (assumption)
        (first | (go_at_call 33; go_fit (HC.out _ (And.left (by assumption))); rintro e w1 ⟨rfl, hbn⟩; have hSn := HKS.out _ _ (by assumption) hbn))
      by_cases hc : 0 < cc
      · have fc : decide (0 < cc) = true := by simp [hc]
        have HG2 := Lib.hid (HDS.out hc)
        have HN := Lib.hid (bel_next HW.out hSn.1)
        have hjk := HJ.out
        clear hSn
        go_wp2
        go_roundw
        case rel => exact ⟨j, by go_num, by omega, HG2, HN⟩
        case measure => simp [intOf]; omega
      · have fc : decide (0 < cc) = false := by simp; omega
        have gc : ¬ 0 < cc := hc
        have hS5 := HKS.out w1 w1.drew hSn ((Below.refl _ _).drew)
        clear hSn
        go_wp2
        go_upto_region 4 with fail
        go_region_held3 (fun W => Below wr.heap.size wr W ∧ W.cell? ⟨b1, o1 + j * 2, none⟩ = some (.string ⟨y.sf.rel.toArray⟩) ∧ W.cell? ⟨b1, o1 + j * 2 + 1, none⟩ = some (.slice y.sf.A y.sf.n y.sf.c) ∧ W.cell? ⟨w.heap.size, 0, none⟩ = some (.string ⟨x.sf.rel.toArray⟩) ∧ W.cell? ⟨w.heap.size, 1, none⟩ = some (.slice x.sf.A x.sf.n x.sf.c))
          (assumption)
          (first | (go_at_call 33; go_fit (HC.out _ (And.left (by assumption))); rintro e w2 ⟨rfl, hbn⟩; have hSm := HKS.out _ _ (by assumption) hbn))
        clear hS4 hS5
        by_cases h0 : cc = 0
        · have f2 : (cc == 0) = true := by simp [h0]
          have HEND : Hid (AddEnd es x w (.returned (.slice (some ⟨b1, o1, none⟩) es.length c)) w2) := Lib.hid ⟨_, c, es, rfl, HR.out.next (bel_next HW.out hSm.1), HST.out, fun g => ⟨Or.inl, fun h => h.elim id (fun e => by rw [e, ← (ord_fact.z _ _).1 (HCC.out.trans h0)]; exact HME.out)⟩, by omega, bel_next HB1.out (bel_next HW.out hSm.1)⟩
          clear hSm
          go_wp2
          go_ret
          exact HEND.out
        · have f2 : (cc == 0) = false := by simp [h0]
          have HLow := Lib.hid (HLO.out (by omega))
          clear HKS HC
          go_wp2
          have HWq := Lib.hid (bel_next HW.out hSm.1)
          have hbq : Below w.heap.size w w2 := bel_next HB1.out HWq.out
          have hsq := hbq.size
          have q0 := hSm.2.2.2.1
          have q1 := hSm.2.2.2.2
          have hrq := HR.out.next HWq.out
          obtain ⟨A1, hsl1, hr1⟩ := cut_toE hrq.row hk hrq.le
          obtain ⟨A2, hsl2, hr2⟩ := cut_fromE hrq.row hk hrq.le
          have HKS3 : Hid (∀ W : World, Below w2.heap.size w2 W → (Below w2.heap.size w2 W ∧ W.cell? ⟨w.heap.size, 0, none⟩ = some (.string ⟨x.sf.rel.toArray⟩) ∧ W.cell? ⟨w.heap.size, 1, none⟩ = some (.slice x.sf.A x.sf.n x.sf.c))) := Lib.hid fun W hb => by
            have key : ∀ {N j : Nat} {v : Value}, w2.cell? ⟨N, j, none⟩ = some v → W.cell? ⟨N, j, none⟩ = some v := fun {N j v} h => (hb.cell (p := ⟨N, j, none⟩) (World.block_lt_of_cell? w2 _ h)).trans h
            exact ⟨hb, key q0, key q1⟩
          have hlk : (es.take k).length = k := by rw [List.length_take]; omega
          have HAP1 : Hid (∀ W, Below w2.heap.size w2 W → ∃ v' w', (Builtin.append_ #[22, 22] 22 #[.slice none 0 0, .slice A1 k c]).run Tryz.prog W = .ok v' w' ∧ (OwnG Elem.enc 37 2 w' w2.heap.size v' (es.take k) ∧ Below W.heap.size W w' ∧ Below w2.heap.size w2 w')) := Lib.hid fun W hW => by
            obtain ⟨v', w', h1, h2, h3, _⟩ := OwnG.app elt_fact Elem.len Elem.one (OwnG.nil W w2.heap.size) c (hr1.below (Nat.le_refl _) hW) hW.size (by unfold maxLen; simp; omega) (by simp; omega)
            rw [hlk] at h1
            rw [List.nil_append] at h2
            exact ⟨v', w', h1, h2, (Below.refl _ _).grown h3 (Nat.le_refl _) (fun g hg => by cases hg), hW.grown h3 hW.size (fun g hg => by cases hg)⟩
          have HAP2 : Hid (∀ W v A' B, Below w2.heap.size w2 W → OwnG Elem.enc 37 2 W w2.heap.size v (es.take k) → GRow Elem.enc 2 W B A' [x] → ∃ v' w', (Builtin.append_ #[22, 22] 22 #[v, .slice A' 1 1]).run Tryz.prog W = .ok v' w' ∧ (OwnG Elem.enc 37 2 w' w2.heap.size v' (es.take k ++ [x]) ∧ Below w2.heap.size w2 w')) := Lib.hid fun W v A' B hW ho hrx => by
            obtain ⟨v', w', h1, h2, h3, _⟩ := OwnG.app elt_fact Elem.len Elem.one ho 1 hrx hW.size (by unfold maxLen; simp; omega) (by simp; omega)
            exact ⟨v', w', h1, h2, hW.grown h3 hW.size (fun g hg => (ho.lt g hg).1)⟩
          have hS7 := HKS3.out w2.drew ((Below.refl _ _).drew)
          have HR2 := Lib.hid hr2
          have HSL2 := Lib.hid hsl2
          clear hrq hr1 hr2 q0 q1 hlk hbq hSm hsl2
          go_upto_region 6 with fail
          go_region_held3 (fun W => Below w2.heap.size w2 W ∧ W.cell? ⟨w.heap.size, 0, none⟩ = some (.string ⟨x.sf.rel.toArray⟩) ∧ W.cell? ⟨w.heap.size, 1, none⟩ = some (.slice x.sf.A x.sf.n x.sf.c))
            (first | assumption | exact HKS3.out _ (bel_lit (And.left (by assumption)) _))
            (first
              | (refine step_gapp_ex (HAP1.out _ (And.left (by assumption))) rfl rfl rfl rfl rfl ?_; rintro v5 u5 ⟨ho5, hb5, hb6⟩; have hS8 := HKS3.out _ hb6)
              | (refine step_gapp_ex (HAP2.out _ _ _ _ (bel_lit hb6 _) (ho5.alloc _) (GRow.lit Elem.len _ 37 [x] _ rfl (by unfold maxLen; simp))) rfl rfl rfl rfl rfl ?_; rintro v7 u7 ⟨ho7, hb7⟩; have hS9 := HKS3.out _ hb7)
              | (refine step_gapp_ex (HAP2.out _ _ _ _ hb6 ho5 (((GRow.lit Elem.len _ 37 [x] _ rfl (by unfold maxLen; simp)).next ((Below.refl _ _).drew)).next hb5)) rfl rfl rfl rfl rfl ?_; rintro v7 u7 ⟨ho7, hb7⟩; have hS9 := HKS3.out _ hb7))
          all_goals
            obtain ⟨v8, w8, hrun8, hown8, hgr8, _⟩ := OwnG.app elt_fact Elem.len Elem.one ho7 (c - k) (HR2.out.below (Nat.le_refl _) hb7) (hb7.size) (by unfold maxLen; simp; omega) (by simp; omega)
            have HBF := Lib.hid (bel_next (bel_next HB1.out HWq.out) (hb7.grown hgr8 hb7.size (fun g hg => (ho7.lt g hg).1)))
            have hfe : FactsE (es.take k ++ [x] ++ es.drop k) = (FactsE es).take k ++ x.fact :: (FactsE es).drop k := by simp [FactsE, List.map_take, List.map_drop]
            have hkd : ∀ f ∈ FactsE (es.take k ++ [x] ++ es.drop k), KindsWf f.args := by
              rw [hfe]
              intro f hf
              rcases (mem_ins f).1 hf with h | rfl
              · exact HR.out.kinds f h
              · exact HKX.out
            obtain ⟨A9, c9, rfl, hre9⟩ := hown8.rowE hkd
            have HEND : Hid (AddEnd es x w (.returned (.slice A9 (es.take k ++ [x] ++ es.drop k).length c9)) w8) := Lib.hid ⟨A9, c9, _, rfl, hre9, by rw [hfe]; exact strict_ins HST.out HG.out HLow.out, fun g => by rw [hfe]; exact mem_ins g, by simp; omega, HBF.out⟩
            rw [show (es.take k ++ [x] ++ es.drop k).length = k + (es.length - k + 1) by simp; omega] at HEND
            obtain ⟨A7, c7, rfl, _, _, _⟩ := ho7.row Elem.len
            have HR8 := Lib.hid hrun8
            have hsl2 := HSL2.out
            rw [List.length_drop] at HR8
            clear hrun8 hown8 hgr8 hre9 hkd hfe ho7 hb7 hS9 hS8 hS7 hb6 hb5 ho5
            go_wp2_with (at_builtin; refine wpList_gapp HR8.out rfl rfl rfl rfl rfl ?_)
            go_wp2
            go_ret
            exact HEND.out
end

end Go.Proofs.YtmodjokoggmnaaaGreatDoor
