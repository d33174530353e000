/-
  A slice of tokens (or of ints) that comes in as an argument, as the library opens it, reads as a list.
  Conditions: none beyond the frame's.
  A fact, or a slice of facts, that comes in as an argument, as the library opens it, reads as plain data.
  Conditions: none beyond the frame's.
-/
import Derived.Test.YtolkceibbefhfaaGreatDoorMa7
import Derived.Deep.Slices
import Derived.Deep.Fields
import Derived.ChangeSame
import Derived.SizedLaws
import Derived.Test.YtolkceibbefhfaaGreatDoorMa33
namespace Go.Proofs.YtolkceibbefhfaaGreatDoor

open Go.ChangeShapes Go.WideShapes Go.RowKit

/-- What the language gives of a token. -/
structure TokWf (t : GTok) : Prop where
  kind : (Lit.int .i64 t.kind).wf = true
  text : t.text.length ≤ maxLen
  value : (Lit.int .u64 t.value).wf = true
  line : (Lit.int .i64 t.line).wf = true
  col : (Lit.int .i64 t.col).wf = true
structure IsToks (w : World) (a : Option Addr) (len cap : Nat) (ts : List GTok) : Prop where
  count : ts.length = len
  le : len ≤ cap
  max : cap ≤ maxLen
  row : TRow w w.heap.size a ts
  wf : ∀ t ∈ ts, TokWf t
  short : ∀ t ∈ ts, t.text.length ≤ 140737488355328

instance : Inhabited GTok := ⟨⟨0, [], 0, 0, 0⟩⟩
section

variable {H : Type} {enc : TypeId × Value → H} {W : World} {base : Nat} {spare : Nat → Bool} {held : Bool}

set_option maxRecDepth 50000 in
theorem tok_open {n : Nat} {cs : List Value} {x : DataW H × List MemPlace} (h : DataW.trod enc Tryz.prog W base spare held n 70 cs = some x) : ∃ t : GTok, cs = t.cells ∧ TokWf t ∧ t.text.length ∈ x.1.weights Tryz.prog 70 := by
  obtain ⟨ys, m, _, hxy, hlen, hyl, hf⟩ := DataW.trod_struct Tryz.underlying70 h
  have c0 : Tryz.prog.cellsOf 70 = 5 := by kernel_rfl
  rw [c0] at hlen
  match cs, hlen with
  | [v0, v1, v2, v3, v4], _ =>
    have n0 : Tryz.prog.cellsOf 3 = 1 := by kernel_rfl
    have n1 : Tryz.prog.cellsOf 9 = 1 := by kernel_rfl
    have n2 : Tryz.prog.cellsOf 68 = 1 := by kernel_rfl
    have n3 : Tryz.prog.cellsOf 45 = 2 := by kernel_rfl
    have h0 := hf 0 _ rfl
    have h1 := hf 1 _ rfl
    have h2 := hf 2 _ rfl
    have h3 := hf 3 _ rfl
    have yl : ys.length = 4 := hyl
    match ys, yl with
    | [y0, y1, y2, y3], _ =>
      simp [n0] at h0
      simp [n1] at h1
      simp [n2] at h2
      simp [n3] at h3
      obtain ⟨k, hk, _, hkw⟩ := DataW.trod_int Tryz.underlying3 h0
      obtain ⟨s, hs, hsd, hsw⟩ := DataW.trod_string Tryz.underlying9 h1
      obtain ⟨v, hv, _, hvw⟩ := DataW.trod_int Tryz.underlying68 h2
      obtain ⟨zs, m3, _, _, _, zl, hg⟩ := DataW.trod_struct Tryz.underlying45 h3
      have zl2 : zs.length = 2 := zl
      match zs, zl2 with
      | [z0, z1], _ =>
        have g0 := hg 0 _ rfl
        have g1 := hg 1 _ rfl
        simp [n0] at g0
        simp [n0] at g1
        obtain ⟨ln, hln, _, hlw⟩ := DataW.trod_int Tryz.underlying3 g0
        obtain ⟨cl, hcl, _, hcw⟩ := DataW.trod_int Tryz.underlying3 g1
        simp at hk hs hv hln hcl
        subst hk hs hv hln hcl
        obtain ⟨⟨l⟩⟩ := s
        refine ⟨⟨k, l, v, ln, cl⟩, rfl, ⟨hkw, by rw [← ba_size]; exact hsw, hvw, hlw, hcw⟩, ?_⟩
        rw [hxy]
        simp only [DataW.weights, Tryz.underlying70]
        exact DataW.weights_mem_each (j := 1) (t := 9) (d := y1.1) rfl rfl _ (by rw [hsd]; simp [DataW.weights])
theorem weights_mem_all {P : Program} {e : TypeId} {n : Nat} : ∀ {l : List (DataW H)} {d : DataW H}, d ∈ l → n ∈ d.weights P e → n ∈ DataW.weightsAll P e l
  | d0 :: r, d, hd, hn => by
    simp only [DataW.weightsAll, List.mem_append]
    rcases List.mem_cons.1 hd with rfl | h
    · exact .inl hn
    · exact .inr (weights_mem_all h hn)
theorem IsToks_open {a : Option Addr} {len cap : Nat} {d : DataW H} {p : List MemPlace} (h : DataW.Trod enc Tryz.prog W base spare held 64 (.slice a len cap) d p) (hwt : ∀ n ∈ d.weights Tryz.prog 64, n ≤ reachBytes) : ∃ ts, IsToks W a len cap ts := by
  obtain ⟨fuel, hf⟩ := h
  rcases Go.Deep.open_slice Tryz.underlying64 hf with ⟨hcs, _⟩ | ⟨x, l, c, m, n, D, Pl, hcs, _, hl, hm, hmm, hxd, hx⟩
  · simp [Value.cells] at hcs
    obtain ⟨rfl, rfl, rfl⟩ := hcs
    exact ⟨[], rfl, Nat.le_refl _, Nat.zero_le _, TRow.nil, fun t ht => (by cases ht), fun t ht => (by cases ht)⟩
  · simp [Value.cells] at hcs
    obtain ⟨rfl, rfl, rfl⟩ := hcs
    have c0 : Tryz.prog.cellsOf 70 = 5 := by kernel_rfl
    rw [c0] at hx
    have hlm : len ≤ m := by rw [hmm]; split <;> omega
    have each : ∀ i, i < len → ∃ t : GTok, (TokWf t ∧ t.text.length ≤ 140737488355328) ∧ ∀ j, j < 5 → W.cell? ((x.add (i * 5)).add j) = t.cells[j]? := fun i hi => by
      obtain ⟨cs', hc, ht⟩ := hx i (by omega)
      obtain ⟨t, rfl, hw, hmem⟩ := tok_open ht
      obtain ⟨_, _, hat⟩ := World.cells?_some hc
      have hd : d = .slice ((List.range len).map D) ((List.range (m - len)).map fun j => D (len + j)) := congrArg Prod.fst hxd
      have hle := hwt t.text.length (by
        rw [hd]
        simp only [DataW.weights, Tryz.underlying64, List.mem_cons, List.mem_append]
        exact .inr (.inl (weights_mem_all (List.mem_map.2 ⟨i, List.mem_range.2 hi, rfl⟩) hmem)))
      have h47 := reachBytes_lt
      exact ⟨t, ⟨hw, by omega⟩, fun j hj => hat j hj⟩
    obtain ⟨f, hfx⟩ := Go.Deep.choose_lt each
    refine ⟨(List.range len).map f, by simp, hl, hm, fun h0 => ?_, fun t ht => ?_, fun t ht => ?_⟩
    · simp at h0
      obtain ⟨b, off, spot⟩ := x
      have hc0 := (hfx 0 h0).2 0 (by omega)
      have hspot : spot = none := by simpa [Addr.add] using World.cell?_spot (hc0.trans rfl)
      subst hspot
      have hlt := World.block_lt_of_cell? W _ (hc0.trans rfl)
      refine ⟨b, off, rfl, by simpa [Addr.add] using hlt, fun i hi j u hu => ?_⟩
      simp at hi
      have hj : j < 5 := by
        rcases Nat.lt_or_ge j 5 with h1 | h1
        · exact h1
        · rw [List.getElem?_eq_none (by simp [GTok.cells]; omega)] at hu; cases hu
      have e : ((⟨b, off, none⟩ : Addr).add (i * 5)).add j = ⟨b, off + (i * 5 + j), none⟩ := by rw [Go.WideShapes.add_plain, Go.WideShapes.add_plain, Nat.add_assoc]
      have := (hfx i hi).2 j hj
      rw [e] at this
      simp at hu
      rw [this, hu]
    · obtain ⟨i, hi, rfl⟩ := List.mem_map.1 ht
      exact (hfx i (List.mem_range.1 hi)).1.1
    · obtain ⟨i, hi, rfl⟩ := List.mem_map.1 ht
      exact (hfx i (List.mem_range.1 hi)).1.2
end

end Go.Proofs.YtolkceibbefhfaaGreatDoor


namespace Go.Proofs.YtolkceibbefhfaaGreatDoor
open Go.ChangeShapes Go.WideShapes Go.RowKit

/-- What the language gives of a value. -/
structure ValWf (v : GVal) : Prop where
  kind : (Lit.int .i64 v.kind).wf = true
  int : (Lit.int .i64 v.int).wf = true
  word : v.word.length ≤ 140737488355328
structure IsFact (w : World) (s : SFact) (f : GFact) : Prop where
  hold : FHold0 w w.heap.size s f
  rel : f.rel.length ≤ 140737488355328
  wf : ∀ v ∈ f.args, ValWf v
structure IsFacts (w : World) (a : Option Addr) (len cap : Nat) (ss : List SFact) (fs : List GFact) : Prop where
  count : fs.length = len
  le : len ≤ cap
  max : cap ≤ maxLen
  row : FRow0 w w.heap.size a ss fs
  each : ∀ i (h1 : i < ss.length) (h2 : i < fs.length), IsFact w ss[i] fs[i]

instance : Inhabited GVal := ⟨⟨0, 0, []⟩⟩
section
variable {H : Type} {enc : TypeId × Value → H} {W : World} {base : Nat} {spare : Nat → Bool} {held : Bool}
set_option maxRecDepth 50000 in
theorem val_open {n : Nat} {cs : List Value} {x : DataW H × List MemPlace} (h : DataW.trod enc Tryz.prog W base spare held n 40 cs = some x) : ∃ v : GVal, cs = v.cells ∧ (Lit.int .i64 v.kind).wf = true ∧ (Lit.int .i64 v.int).wf = true ∧ v.word.length ∈ x.1.weights Tryz.prog 40 := by
  obtain ⟨ys, m, _, hxy, hlen, hyl, hf⟩ := DataW.trod_struct Tryz.underlying40 h
  have c0 : Tryz.prog.cellsOf 40 = 3 := by kernel_rfl
  rw [c0] at hlen
  match cs, hlen with
  | [v0, v1, v2], _ =>
    have n0 : Tryz.prog.cellsOf 3 = 1 := by kernel_rfl
    have n1 : Tryz.prog.cellsOf 9 = 1 := by kernel_rfl
    have n2 : Tryz.prog.cellsOf 2 = 1 := by kernel_rfl
    have h0 := hf 0 _ rfl
    have h1 := hf 1 _ rfl
    have h2 := hf 2 _ rfl
    have yl : ys.length = 3 := hyl
    match ys, yl with
    | [y0, y1, y2], _ =>
      simp [n0] at h0
      simp [n2] at h1
      simp [n1] at h2
      obtain ⟨k, hk, _, hkw⟩ := DataW.trod_int Tryz.underlying3 h0
      obtain ⟨v, hv, _, hvw⟩ := DataW.trod_int Tryz.underlying2 h1
      obtain ⟨s, hs, hsd, hsw⟩ := DataW.trod_string Tryz.underlying9 h2
      simp at hk hs hv
      subst hk hs hv
      obtain ⟨⟨l⟩⟩ := s
      refine ⟨⟨k, v, l⟩, rfl, hkw, hvw, ?_⟩
      rw [hxy]
      simp only [DataW.weights, Tryz.underlying40]
      exact DataW.weights_mem_each (j := 2) (t := 9) (d := y2.1) rfl rfl _ (by rw [hsd]; simp [DataW.weights])
theorem vals_open {n : Nat} {cs : List Value} {x : DataW H × List MemPlace} (h : DataW.trod enc Tryz.prog W base spare held n 23 cs = some x) (hwt : ∀ n ∈ x.1.weights Tryz.prog 23, n ≤ reachBytes) :
    ∃ A len cap, ∃ vs : List GVal, cs = [.slice A len cap] ∧ vs.length = len ∧ len ≤ cap ∧ cap ≤ maxLen ∧ GRow GVal.cells 3 W W.heap.size A vs ∧ ∀ v ∈ vs, ValWf v := by
  obtain ⟨d, p⟩ := x
  rcases Go.Deep.open_slice Tryz.underlying23 h with ⟨hcs, _⟩ | ⟨x, l, c, m, n, D, Pl, hcs, _, hl, hm, hmm, hxd, hx⟩
  · exact ⟨none, 0, 0, [], hcs, rfl, Nat.le_refl _, Nat.zero_le _, GRow.nil, fun t ht => (by cases ht)⟩
  · have c0 : Tryz.prog.cellsOf 40 = 3 := by kernel_rfl
    rw [c0] at hx
    have hlm : l ≤ m := by rw [hmm]; split <;> omega
    have each : ∀ i, i < l → ∃ t : GVal, ValWf t ∧ ∀ j, j < 3 → W.cell? ((x.add (i * 3)).add j) = t.cells[j]? := fun i hi => by
      obtain ⟨cs', hc, ht⟩ := hx i (by omega)
      obtain ⟨t, rfl, hw1, hw2, hmem⟩ := val_open ht
      obtain ⟨_, _, hat⟩ := World.cells?_some hc
      have hd : d = .slice ((List.range l).map D) ((List.range (m - l)).map fun j => D (l + j)) := congrArg Prod.fst hxd
      have hle := hwt t.word.length (by
        show _ ∈ d.weights _ _
        rw [hd]
        simp only [DataW.weights, Tryz.underlying23, List.mem_cons, List.mem_append]
        exact .inr (.inl (weights_mem_all (List.mem_map.2 ⟨i, List.mem_range.2 hi, rfl⟩) hmem)))
      have h47 := reachBytes_lt
      exact ⟨t, ⟨hw1, hw2, by omega⟩, fun j hj => hat j hj⟩
    obtain ⟨f, hfx⟩ := Go.Deep.choose_lt each
    refine ⟨some x, l, c, (List.range l).map f, hcs, by simp, hl, hm, fun h0 => ?_, fun t ht => ?_⟩
    · simp at h0
      obtain ⟨b, off, spot⟩ := x
      have hc0 := (hfx 0 h0).2 0 (by omega)
      have hspot : spot = none := by simpa [Addr.add] using World.cell?_spot (hc0.trans rfl)
      subst hspot
      have hlt := World.block_lt_of_cell? W _ (hc0.trans rfl)
      refine ⟨b, off, rfl, by simpa [Addr.add] using hlt, fun i hi j u hu => ?_⟩
      simp at hi
      have hj : j < 3 := by
        rcases Nat.lt_or_ge j 3 with h1 | h1
        · exact h1
        · rw [List.getElem?_eq_none (by simp [GVal.cells]; omega)] at hu; cases hu
      have e : ((⟨b, off, none⟩ : Addr).add (i * 3)).add j = ⟨b, off + (i * 3 + j), none⟩ := by rw [Go.WideShapes.add_plain, Go.WideShapes.add_plain, Nat.add_assoc]
      have := (hfx i hi).2 j hj
      rw [e] at this
      simp at hu
      rw [this, hu]
    · obtain ⟨i, hi, rfl⟩ := List.mem_map.1 ht
      exact (hfx i (List.mem_range.1 hi)).1
set_option maxRecDepth 50000 in
theorem fact_open {n : Nat} {cs : List Value} {x : DataW H × List MemPlace} (h : DataW.trod enc Tryz.prog W base spare held n 25 cs = some x) (hwt : ∀ n ∈ x.1.weights Tryz.prog 25, n ≤ reachBytes) :
    ∃ s f, cs = s.cells ∧ IsFact W s f := by
  obtain ⟨ys, m, _, hxy, hlen, hyl, hf⟩ := DataW.trod_struct Tryz.underlying25 h
  have c0 : Tryz.prog.cellsOf 25 = 2 := by kernel_rfl
  rw [c0] at hlen
  match cs, hlen with
  | [v0, v1], _ =>
    have n0 : Tryz.prog.cellsOf 9 = 1 := by kernel_rfl
    have n1 : Tryz.prog.cellsOf 23 = 1 := by kernel_rfl
    have h0 := hf 0 _ rfl
    have h1 := hf 1 _ rfl
    have yl : ys.length = 2 := hyl
    match ys, yl with
    | [y0, y1], _ =>
      simp [n0] at h0
      simp [n1] at h1
      obtain ⟨s, hs, hsd, hsw⟩ := DataW.trod_string Tryz.underlying9 h0
      have hrel : s.size ≤ reachBytes := hwt _ (by
        rw [hxy]
        simp only [DataW.weights, Tryz.underlying25]
        exact DataW.weights_mem_each (j := 0) (t := 9) (d := y0.1) rfl rfl _ (by rw [hsd]; simp [DataW.weights]))
      obtain ⟨A, len, cap, vs, hcs, hvl, hle, hmx, hrow, hwf⟩ := vals_open h1 (fun k hk => hwt k (by
        rw [hxy]
        simp only [DataW.weights, Tryz.underlying25]
        exact DataW.weights_mem_each (j := 1) (t := 23) (d := y1.1) rfl rfl _ hk))
      simp at hs hcs
      subst hs hcs
      obtain ⟨⟨l⟩⟩ := s
      have h47 := reachBytes_lt
      rw [ba_size] at hrel
      exact ⟨⟨l, A, len, cap⟩, ⟨l, vs⟩, rfl, ⟨⟨rfl, hvl.symm, hrow, by show vs.length ≤ _; omega⟩, by show l.length ≤ _; omega, hwf⟩⟩
set_option maxRecDepth 50000 in
theorem IsFact_open {v : Value} {d : DataW H} {p : List MemPlace} {r : Reach} {b : Nat} (hv : Value.okWide Tryz.prog W r b 25 v) (h : DataW.Trod enc Tryz.prog W base spare held 25 v d p) (hwt : ∀ n ∈ d.weights Tryz.prog 25, n ≤ reachBytes) :
    ∃ l A n c f, v = .agg #[.string ⟨l⟩, .slice A n c] ∧ IsFact W ⟨l.toList, A, n, c⟩ f := by
  obtain ⟨cs, rfl, _⟩ := okWide_struct Tryz.underlying25 hv
  obtain ⟨fuel, hf⟩ := h
  obtain ⟨s, f, hcs, hi⟩ := fact_open hf hwt
  obtain ⟨l, A, n, c⟩ := s
  refine ⟨l.toArray, A, n, c, f, ?_, by simpa using hi⟩
  have : cs.toList = [.string ⟨l.toArray⟩, .slice A n c] := hcs
  obtain ⟨cl⟩ := cs
  simp at this
  rw [this]
end
end Go.Proofs.YtolkceibbefhfaaGreatDoor
