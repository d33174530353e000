/-
  The calls of the laws of sets, at sets that came back.
  Conditions: at most 1000 facts of at most 12 arguments each.
  The reference's add and Set: strictly ascending lists of facts.
  Conditions: at most 1000 facts; kinds are ints of the language.
  A slice of tokens (or of ints) that comes in as an argument, as the library opens it, reads as a list.
  Conditions: none beyond the frame's.
-/
import Derived.Test.YtmodjokoggmnaaaGreatDoorMa33
import Derived.Test.YtmodjokoggmnaaaGreatDoorMa21
import Derived.Test.YtmodjokoggmnaaaGreatDoorMa5
import Derived.Deep.Slices
import Derived.Deep.Fields
import Derived.ChangeSame
import Derived.SizedLaws
namespace Go.Proofs.YtmodjokoggmnaaaGreatDoor

open Go.RowKit Go.Shelf

/-- A slice that holds few facts, each small. -/
structure SetL (w : World) (v : Value) (fs : List GFact) (n : Nat) : Prop where
  ex : ∃ ss, SetV w v ss fs
  few : fs.length ≤ n
  args : ∀ f ∈ fs, f.args.length ≤ 12
  kinds : ∀ f ∈ fs, KindsWf f.args
theorem SetL.next {w w' : World} {v : Value} {fs : List GFact} {n : Nat} (h : SetL w v fs n) (hb : Below w.heap.size w w') : SetL w' v fs n := by
  obtain ⟨ss, hs⟩ := h.ex
  exact ⟨⟨ss, hs.next hb⟩, h.few, h.args, h.kinds⟩
/-- A fact that is small, asx it lies in memory. -/
structure FactS (w : World) (s : SFact) (f : GFact) : Prop where
  hold : FHold w w.heap.size s f
  small : SmallF f
  kinds : KindsWf f.args
theorem FactS.next {w w' : World} {s : SFact} {f : GFact} (h : FactS w s f) (hb : Below w.heap.size w w') : FactS w' s f := ⟨h.hold.next (Nat.le_refl _) hb, h.small, h.kinds⟩
theorem SetV.slice {w : World} {v : Value} {ss : List SFact} {fs : List GFact} (h : SetV w v ss fs) : ∃ A c, v = .slice A fs.length c := by
  obtain ⟨A, c, e, _⟩ := h.frow
  exact ⟨A, c, e⟩
def InsS (fs : List GFact) (f : GFact) (n : Nat) (w : World) (e : Ending) (w' : World) : Prop :=
  ∃ A, ∃ c : Nat, ∃ fs' : List GFact, e = .returned (.tuple #[.slice A fs'.length c, .int .i64 0]) ∧ SetL w' (.slice A fs'.length c) fs' (n + 1) ∧ StrictF fs' ∧ (∀ g, g ∈ fs' ↔ g ∈ fs ∨ g = f) ∧ Below w.heap.size w w'
def InsG (fs : List GFact) (f : GFact) (n : Nat) (w : World) (e : Ending) (w' : World) : Prop :=
  (gwfF f = false ∧ e = .returned (.tuple #[.slice none 0 0, .int .i64 63]) ∧ Below w.heap.size w w') ∨ (gwfF f = true ∧ InsS fs f n w e w')
def RemS (fs : List GFact) (f : GFact) (n : Nat) (w : World) (e : Ending) (w' : World) : Prop :=
  ∃ A, ∃ c : Nat, ∃ fs' : List GFact, e = .returned (.tuple #[.slice A fs'.length c, .bool (fs.any (isF f))]) ∧ SetL w' (.slice A fs'.length c) fs' n ∧ StrictF fs' ∧ (∀ g, g ∈ fs' ↔ g ∈ fs ∧ g ≠ f) ∧ Below w.heap.size w w'
theorem containsS (A : Option Addr) (c : Nat) (fs : List GFact) (n : Nat) (s : SFact) (f : GFact) (w : World) (hS : SetL w (.slice A fs.length c) fs n) (hn : n ≤ 1000) (hf : FHold w w.heap.size s f) :
    Calls Tryz.prog 19 #[.slice A fs.length c, .agg #[.string ⟨s.rel.toArray⟩, .slice s.A s.n s.c]] w fun e w' => e = .returned (.bool (fs.any (isF f))) ∧ Below w.heap.size w w' := by
  obtain ⟨ss, hs⟩ := hS.ex
  have hn' := hS.few
  obtain ⟨A', c', e, hr⟩ := hs.frow
  cases e
  exact fcontains_any f s ss fs A c w hf hr (by omega)
theorem sameS (va vb : Value) (fa fb : List GFact) (n m : Nat) (w : World) (ha : SetL w va fa n) (hb : SetL w vb fb m) (hn : n ≤ 1000) :
    Calls Tryz.prog 9 #[va, vb] w (SameEnd fa fb w) := by
  obtain ⟨sa, h1⟩ := ha.ex
  obtain ⟨sb, h2⟩ := hb.ex
  exact rSame_any va vb sa sb fa fb w h1 h2 (by have := ha.few; omega) ha.kinds hb.kinds
theorem sameT (va vb : Value) (fa fb : List GFact) (n m : Nat) (w : World) (ha : SetL w va fa n) (hb : SetL w vb fb m) (hn : n ≤ 1000) (he : fa = fb) :
    Calls Tryz.prog 9 #[va, vb] w fun e w' => e = .returned (.bool true) ∧ Below w.heap.size w w' := by
  refine (sameS va vb fa fb n m w ha hb hn).mono ?_
  rintro e w' ⟨⟨b, rfl, hq⟩, h⟩
  rw [hq.2 he]
  exact ⟨rfl, h⟩
end Go.Proofs.YtmodjokoggmnaaaGreatDoor


namespace Go.Proofs.YtmodjokoggmnaaaGreatDoor

open Go.RowKit Go.Shelf

theorem strict_ins {fs : List GFact} {f : GFact} {k : Nat} (h : StrictF fs) (hi : ∀ x ∈ fs.drop k, 0 < cmpF x f) (hl : ∀ x ∈ fs.take k, cmpF x f < 0) : StrictF (fs.take k ++ f :: fs.drop k) := by
  have h' := h
  rw [← List.take_append_drop k fs] at h'
  unfold StrictF at *
  rw [List.pairwise_append] at h' ⊢
  refine ⟨h'.1, List.pairwise_cons.2 ⟨fun y hy => ?_, h'.2.1⟩, fun a ha b hb => ?_⟩
  · have := hi y hy
    have := ord_fact.n y f
    omega
  · rcases List.mem_cons.1 hb with rfl | hb
    · exact hl a ha
    · exact h'.2.2 a ha b hb
theorem strict_low {fs : List GFact} {f : GFact} {j : Nat} (h : StrictF fs) (hj : j < fs.length) (hc : cmpF fs[j] f < 0) : ∀ x ∈ fs.take (j + 1), cmpF x f < 0 := by
  intro x hx
  have h' : StrictF (fs.take (j + 1)) := h.sublist (List.take_sublist _ _)
  rw [List.take_succ_eq_append_getElem hj] at hx h'
  rcases List.mem_append.1 hx with hx | hx
  · exact ord_fact.t _ _ _ ((List.pairwise_append.1 h').2.2 x hx _ (by simp)) hc
  · simp at hx
    subst hx
    exact hc
theorem mem_ins {fs : List GFact} {f : GFact} {k : Nat} (g : GFact) : g ∈ fs.take k ++ f :: fs.drop k ↔ g ∈ fs ∨ g = f := by
  have h : g ∈ fs ↔ g ∈ fs.take k ∨ g ∈ fs.drop k := by rw [← List.mem_append, List.take_append_drop]
  rw [h, List.mem_append, List.mem_cons]
  constructor
  · rintro (h | h | h)
    · exact .inl (.inl h)
    · exact .inr h
    · exact .inl (.inr h)
  · rintro ((h | h) | h)
    · exact .inl h
    · exact .inr (.inr h)
    · exact .inr (.inl h)
theorem drop_snoc {fs : List GFact} {f : GFact} {j : Nat} (hj : j < fs.length) (h : ∀ x ∈ fs.drop (j + 1), 0 < cmpF x f) (hc : 0 < cmpF fs[j] f) : ∀ x ∈ fs.drop j, 0 < cmpF x f := by
  intro x hx
  rw [List.drop_eq_getElem_cons hj] at hx
  rcases List.mem_cons.1 hx with rfl | hx
  · exact hc
  · exact h x hx
section

variable {w0 : World}

theorem GRow.elem2 {w : World} {B : Nat} {A : Option Addr} {es : List (Elem w0)} (h : GRow Elem.enc 2 w B A es) {i : Nat} (hi : i < es.length) : ∃ b off, A = some ⟨b, off, none⟩ ∧ b < B ∧
    w.cell? ⟨b, off + i * 2, none⟩ = some (.string ⟨es[i].sf.rel.toArray⟩) ∧ w.cell? ⟨b, off + i * 2 + 1, none⟩ = some (.slice es[i].sf.A es[i].sf.n es[i].sf.c) := by
  obtain ⟨b, off, e, hb, hc⟩ := h (by omega)
  exact ⟨b, off, e, hb, hc i hi 0 _ rfl, hc i hi 1 _ rfl⟩
theorem cut_toE {w : World} {B : Nat} {A : Option Addr} {c k : Nat} {xs : List (Elem w0)} (hr : GRow Elem.enc 2 w B A xs) (hk : k ≤ xs.length) (hc : xs.length ≤ c) :
    ∃ A', (∀ W, (Instr.sliceAt 22 (.slice A xs.length c) none (some (.int .i64 k)) none).run Tryz.prog W = .ok (.slice A' k c) W) ∧ GRow Elem.enc 2 w B A' (xs.take k) := by
  refine ⟨if c = 0 then A else A.map (·.add 0), fun W => ?_, ?_⟩
  · rw [run_sliceAt_slice _ _ _ _ _ _ fact_elem, run_slice_h _ _ _ _ _ fact_elem .i64 k (by omega) (by omega), run_factSize]
    simp [Result.andThen, sliced]
  · intro hn
    rw [List.length_take] at hn
    obtain ⟨b, off, rfl, hb, hcell⟩ := hr (by omega)
    refine ⟨b, off, ?_, hb, fun i hi j u hu => ?_⟩
    · split
      · rfl
      · simp [Addr.add]
    · rw [List.length_take] at hi
      rw [List.getElem_take] at hu
      exact hcell i (by omega) j u hu
theorem cut_fromE {w : World} {B : Nat} {A : Option Addr} {c k : Nat} {xs : List (Elem w0)} (hr : GRow Elem.enc 2 w B A xs) (hk : k ≤ xs.length) (hc : xs.length ≤ c) :
    ∃ A', (∀ W, (Instr.sliceAt 22 (.slice A xs.length c) (some (.int .i64 k)) none none).run Tryz.prog W = .ok (.slice A' (xs.length - k) (c - k)) W) ∧ GRow Elem.enc 2 w B A' (xs.drop k) := by
  refine ⟨if c = k then A else A.map (·.add (k * 2)), fun W => ?_, ?_⟩
  · rw [run_sliceAt_slice _ _ _ _ _ _ fact_elem, run_slice_l _ _ _ _ _ fact_elem .i64 k (by omega) (by omega), run_factSize]
    simp [Result.andThen, sliced]
  · intro hn
    rw [List.length_drop] at hn
    obtain ⟨b, off, rfl, hb, hcell⟩ := hr (by omega)
    refine ⟨b, off + k * 2, ?_, hb, fun i hi j u hu => ?_⟩
    · rw [if_neg (by omega)]
      simp [Addr.add]
    · rw [List.length_drop] at hi
      rw [List.getElem_drop] at hu
      have := hcell (k + i) (by omega) j u hu
      rw [show off + k * 2 + (i * 2 + j) = off + ((k + i) * 2 + j) by omega]
      exact this
def FactsE {w0 : World} (es : List (Elem w0)) : List GFact := es.map Elem.fact
theorem SetV.elems {w : World} {v : Value} {es : List (Elem w0)} (hb : Below w0.heap.size w0 w) (hr : RowV w v (es.map Elem.sf)) : SetV w v (es.map Elem.sf) (FactsE es) :=
  ⟨hr, by simp [FactsE], fun i h1 h2 => by
    have := (es[i]'(by simpa using h1)).hold hb
    simpa [FactsE] using this⟩
/-- A set asx the reference has it: where it lies, with room. -/
structure RowE (w : World) (A : Option Addr) (c : Nat) (es : List (Elem w0)) : Prop where
  row : GRow Elem.enc 2 w w.heap.size A es
  le : es.length ≤ c
  nilc : A = .none → c = 0
  max : c ≤ maxLen
  kinds : ∀ f ∈ FactsE es, KindsWf f.args
theorem RowE.next {w w' : World} {A : Option Addr} {c : Nat} {es : List (Elem w0)} (h : RowE w A c es) (hb : Below w.heap.size w w') : RowE w' A c es := ⟨h.row.next hb, h.le, h.nilc, h.max, h.kinds⟩
theorem RowE.nil (w : World) : RowE (w0 := w0) w none 0 [] := ⟨GRow.nil, Nat.le_refl _, fun _ => rfl, Nat.zero_le _, fun f hf => by simp [FactsE] at hf⟩
theorem RowE.setL {w : World} {A : Option Addr} {c : Nat} {es : List (Elem w0)} {n : Nat} (h : RowE w A c es) (hb : Below w0.heap.size w0 w) (hn : es.length ≤ n) (ha : ∀ f ∈ FactsE es, f.args.length ≤ 12) : SetL w (.slice A es.length c) (FactsE es) n := by
  refine ⟨⟨es.map Elem.sf, SetV.elems hb ?_⟩, by simpa [FactsE] using hn, ha, h.kinds⟩
  cases A with
  | none =>
    have h0 := h.nilc rfl
    have := h.le
    have he : es = [] := List.eq_nil_of_length_eq_zero (by omega)
    subst he
    exact .inl ⟨by rw [h0]; rfl, rfl⟩
  | some ad =>
    refine .inr ⟨ad, c, by rw [List.length_map], fun hn0 => ?_⟩
    rw [List.length_map] at hn0
    obtain ⟨b, off, e, hlt, hc⟩ := h.row hn0
    refine ⟨b, off, e, hlt, fun i hi j u hu => ?_⟩
    rw [List.length_map] at hi
    rw [List.getElem_map] at hu
    exact hc i hi j u hu
def AddEnd (es : List (Elem w0)) (x : Elem w0) (w : World) (e : Ending) (w' : World) : Prop :=
  ∃ A, ∃ c : Nat, ∃ es' : List (Elem w0), e = .returned (.slice A es'.length c) ∧ RowE w' A c es' ∧ StrictF (FactsE es') ∧ (∀ g, g ∈ FactsE es' ↔ g ∈ FactsE es ∨ g = x.fact) ∧ es'.length ≤ es.length + 1 ∧ Below w.heap.size w w'
/-- An append whose run is known only by what it leaves. -/
theorem step_gapp_ex {S : TypeId} {ops : Array Oper} {o : Oper} {a : Act} {K : Act → World → Prop} {Q : Exit → Act → World → Prop} {E : Prop} {v y : Value} {W : World} {R : Value → World → Prop}
    (H : ∃ v' w', (Builtin.append_ #[S, S] S #[v, y]).run Tryz.prog W = .ok v' w' ∧ R v' w') (hgd : o.guard = none) {s x : Operand}
    (ho : o.op = .call { callee := .builtin .append, args := #[s, x], argTypes := #[S, S] }) (hty : o.type = S) (hs : a.eval s = v) (hx : a.eval x = y)
    (h : ∀ v' w', R v' w' → K (a.put o.dst v') w') : if Region.wanted o (yielded ops a.tmps) = true then Oper.wp Tryz.prog o a W K Q else E := by
  obtain ⟨v', w', hr, h2⟩ := H
  exact step_gapp hr hgd ho hty hs hx (h _ _ h2)
theorem OwnG.rowE {w : World} {base : Nat} {v : Value} {es : List (Elem w0)} (h : OwnG Elem.enc 37 2 w base v es) (hk : ∀ f ∈ FactsE es, KindsWf f.args) : ∃ A c, v = .slice A es.length c ∧ RowE w A c es := by
  obtain ⟨A, c, e, h1, h2, h3⟩ := h.row Elem.len
  refine ⟨A, c, e, h3, h1, fun hA => ?_, h2, hk⟩
  rcases h.2 with ⟨hv, h0⟩ | ⟨g, cap, cur, hv, _⟩
  · rw [e] at hv; injection hv
  · rw [e, hA] at hv; cases hv
end

end Go.Proofs.YtmodjokoggmnaaaGreatDoor


namespace Go.Proofs.YtmodjokoggmnaaaGreatDoor

open Go.ChangeShapes Go.WideShapes Go.RowKit

/-- What the language gives of a token. -/
structure TokWf (t : GTok) : Prop where
  kind : (Lit.int .i64 t.kind).wf = true
  text : t.text.length ≤ maxLen
  value : (Lit.int .u64 t.value).wf = true
  line : (Lit.int .i64 t.line).wf = true
  col : (Lit.int .i64 t.col).wf = true
structure IsToks (w : World) (a : Option Addr) (len cap : Nat) (ts : List GTok) : Prop where
  count : ts.length = len
  le : len ≤ cap
  max : cap ≤ maxLen
  row : TRow w w.heap.size a ts
  wf : ∀ t ∈ ts, TokWf t
  short : ∀ t ∈ ts, t.text.length ≤ 140737488355328

instance : Inhabited GTok := ⟨⟨0, [], 0, 0, 0⟩⟩
section

variable {H : Type} {enc : TypeId × Value → H} {W : World} {base : Nat} {spare : Nat → Bool} {held : Bool}

set_option maxRecDepth 50000 in
theorem tok_open {n : Nat} {cs : List Value} {x : DataW H × List MemPlace} (h : DataW.trod enc Tryz.prog W base spare held n 52 cs = some x) : ∃ t : GTok, cs = t.cells ∧ TokWf t ∧ t.text.length ∈ x.1.weights Tryz.prog 52 := by
  obtain ⟨ys, m, _, hxy, hlen, hyl, hf⟩ := DataW.trod_struct Tryz.underlying52 h
  have c0 : Tryz.prog.cellsOf 52 = 5 := by kernel_rfl
  rw [c0] at hlen
  match cs, hlen with
  | [v0, v1, v2, v3, v4], _ =>
    have n0 : Tryz.prog.cellsOf 3 = 1 := by kernel_rfl
    have n1 : Tryz.prog.cellsOf 9 = 1 := by kernel_rfl
    have n2 : Tryz.prog.cellsOf 50 = 1 := by kernel_rfl
    have n3 : Tryz.prog.cellsOf 26 = 2 := by kernel_rfl
    have h0 := hf 0 _ rfl
    have h1 := hf 1 _ rfl
    have h2 := hf 2 _ rfl
    have h3 := hf 3 _ rfl
    have yl : ys.length = 4 := hyl
    match ys, yl with
    | [y0, y1, y2, y3], _ =>
      simp [n0] at h0
      simp [n1] at h1
      simp [n2] at h2
      simp [n3] at h3
      obtain ⟨k, hk, _, hkw⟩ := DataW.trod_int Tryz.underlying3 h0
      obtain ⟨s, hs, hsd, hsw⟩ := DataW.trod_string Tryz.underlying9 h1
      obtain ⟨v, hv, _, hvw⟩ := DataW.trod_int Tryz.underlying50 h2
      obtain ⟨zs, m3, _, _, _, zl, hg⟩ := DataW.trod_struct Tryz.underlying26 h3
      have zl2 : zs.length = 2 := zl
      match zs, zl2 with
      | [z0, z1], _ =>
        have g0 := hg 0 _ rfl
        have g1 := hg 1 _ rfl
        simp [n0] at g0
        simp [n0] at g1
        obtain ⟨ln, hln, _, hlw⟩ := DataW.trod_int Tryz.underlying3 g0
        obtain ⟨cl, hcl, _, hcw⟩ := DataW.trod_int Tryz.underlying3 g1
        simp at hk hs hv hln hcl
        subst hk hs hv hln hcl
        obtain ⟨⟨l⟩⟩ := s
        refine ⟨⟨k, l, v, ln, cl⟩, rfl, ⟨hkw, by rw [← ba_size]; exact hsw, hvw, hlw, hcw⟩, ?_⟩
        rw [hxy]
        simp only [DataW.weights, Tryz.underlying52]
        exact DataW.weights_mem_each (j := 1) (t := 9) (d := y1.1) rfl rfl _ (by rw [hsd]; simp [DataW.weights])
theorem weights_mem_all {P : Program} {e : TypeId} {n : Nat} : ∀ {l : List (DataW H)} {d : DataW H}, d ∈ l → n ∈ d.weights P e → n ∈ DataW.weightsAll P e l
  | d0 :: r, d, hd, hn => by
    simp only [DataW.weightsAll, List.mem_append]
    rcases List.mem_cons.1 hd with rfl | h
    · exact .inl hn
    · exact .inr (weights_mem_all h hn)
theorem IsToks_open {a : Option Addr} {len cap : Nat} {d : DataW H} {p : List MemPlace} (h : DataW.Trod enc Tryz.prog W base spare held 46 (.slice a len cap) d p) (hwt : ∀ n ∈ d.weights Tryz.prog 46, n ≤ reachBytes) : ∃ ts, IsToks W a len cap ts := by
  obtain ⟨fuel, hf⟩ := h
  rcases Go.Deep.open_slice Tryz.underlying46 hf with ⟨hcs, _⟩ | ⟨x, l, c, m, n, D, Pl, hcs, _, hl, hm, hmm, hxd, hx⟩
  · simp [Value.cells] at hcs
    obtain ⟨rfl, rfl, rfl⟩ := hcs
    exact ⟨[], rfl, Nat.le_refl _, Nat.zero_le _, TRow.nil, fun t ht => (by cases ht), fun t ht => (by cases ht)⟩
  · simp [Value.cells] at hcs
    obtain ⟨rfl, rfl, rfl⟩ := hcs
    have c0 : Tryz.prog.cellsOf 52 = 5 := by kernel_rfl
    rw [c0] at hx
    have hlm : len ≤ m := by rw [hmm]; split <;> omega
    have each : ∀ i, i < len → ∃ t : GTok, (TokWf t ∧ t.text.length ≤ 140737488355328) ∧ ∀ j, j < 5 → W.cell? ((x.add (i * 5)).add j) = t.cells[j]? := fun i hi => by
      obtain ⟨cs', hc, ht⟩ := hx i (by omega)
      obtain ⟨t, rfl, hw, hmem⟩ := tok_open ht
      obtain ⟨_, _, hat⟩ := World.cells?_some hc
      have hd : d = .slice ((List.range len).map D) ((List.range (m - len)).map fun j => D (len + j)) := congrArg Prod.fst hxd
      have hle := hwt t.text.length (by
        rw [hd]
        simp only [DataW.weights, Tryz.underlying46, List.mem_cons, List.mem_append]
        exact .inr (.inl (weights_mem_all (List.mem_map.2 ⟨i, List.mem_range.2 hi, rfl⟩) hmem)))
      have h47 := reachBytes_lt
      exact ⟨t, ⟨hw, by omega⟩, fun j hj => hat j hj⟩
    obtain ⟨f, hfx⟩ := Go.Deep.choose_lt each
    refine ⟨(List.range len).map f, by simp, hl, hm, fun h0 => ?_, fun t ht => ?_, fun t ht => ?_⟩
    · simp at h0
      obtain ⟨b, off, spot⟩ := x
      have hc0 := (hfx 0 h0).2 0 (by omega)
      have hspot : spot = none := by simpa [Addr.add] using World.cell?_spot (hc0.trans rfl)
      subst hspot
      have hlt := World.block_lt_of_cell? W _ (hc0.trans rfl)
      refine ⟨b, off, rfl, by simpa [Addr.add] using hlt, fun i hi j u hu => ?_⟩
      simp at hi
      have hj : j < 5 := by
        rcases Nat.lt_or_ge j 5 with h1 | h1
        · exact h1
        · rw [List.getElem?_eq_none (by simp [GTok.cells]; omega)] at hu; cases hu
      have e : ((⟨b, off, none⟩ : Addr).add (i * 5)).add j = ⟨b, off + (i * 5 + j), none⟩ := by rw [Go.WideShapes.add_plain, Go.WideShapes.add_plain, Nat.add_assoc]
      have := (hfx i hi).2 j hj
      rw [e] at this
      simp at hu
      rw [this, hu]
    · obtain ⟨i, hi, rfl⟩ := List.mem_map.1 ht
      exact (hfx i (List.mem_range.1 hi)).1.1
    · obtain ⟨i, hi, rfl⟩ := List.mem_map.1 ht
      exact (hfx i (List.mem_range.1 hi)).1.2
end

end Go.Proofs.YtmodjokoggmnaaaGreatDoor
