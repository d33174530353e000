/-
  The two parsers of facts agree: rFactsR over the text's tokens is pAll. A word of a scan is not empty.
  A slice of facts that comes in as an argument, as the library opens it, reads as plain data.
  Conditions: none beyond the frame's.
  The two parsers and the two texts of facts, in one form: what they yield is the same.
  Conditions: texts of at most 3000 bytes; strconv.ErrRange and the table of powers of ten lie as the program's start lays them.
-/
import Derived.Test.YtmodjokoggmnaaaGreatDoorMa40
import Derived.Test.YtmodjokoggmnaaaGreatDoorMa34
import Derived.Test.YtmodjokoggmnaaaGreatDoorMa38
import Derived.Test.YtmodjokoggmnaaaGreatDoorMa39
import Derived.Test.YtmodjokoggmnaaaGreatDoorMa23
import Derived.Test.YtmodjokoggmnaaaGreatDoorMa26
namespace Go.Proofs.YtmodjokoggmnaaaGreatDoor
open Go.RowKit Go.Shelf

theorem first_word {l : List UInt8} {kd v n : Nat} {tx : List UInt8} (h : first l = .tok kd tx v n) (hk : kd = 1) : tx ≠ [] := by
  cases l with
  | nil => cases h
  | cons c r =>
    unfold first at h
    simp only at h
    split at h
    · split at h
      · cases h
      · cases h
      · injection h with h1 h2 h3 h4
        omega
    · split at h
      · rename_i hw
        injection h with h1 h2 h3 h4
        subst h2
        simp [run, hw]
      · split at h
        · unfold quoted at h
          split at h
          · injection h with h1 h2 h3 h4
            omega
          · cases h
        · unfold marked at h
          split at h
          · injection h with h1 h2 h3 h4
            omega
          · split at h
            · injection h with h1 h2 h3 h4
              omega
            · cases h
theorem step_word {l : List UInt8} {kd v n : Nat} {tx : List UInt8} (h : step l = .tok kd tx v n) (hk : kd = 1) : tx ≠ [] := by
  cases l with
  | nil => cases h
  | cons c r =>
    unfold step at h
    simp only at h
    split at h
    · cases h
    · split at h
      · cases h
      · exact first_word h hk
theorem lex_word : ∀ (l : List UInt8) (k : Nat) (p : Nat × Nat) (ts : List Tok), lex k p l = .ok ts → ∀ t ∈ ts, t.kind = 1 → t.text ≠ []
  | [], k, p, ts, h => by
    rw [lex_nil] at h
    injection h with h
    subst h
    intro t ht
    cases ht
  | c :: r, k + 1, p, ts, h => by
    rw [lex] at h
    exact lex_word r k _ ts h
  | c :: r, 0, p, ts, h => by
    rw [lex] at h
    cases hs : step (c :: r) with
    | skip n =>
      rw [hs] at h
      exact lex_word r _ _ ts h
    | tok kd tx v n =>
      rw [hs] at h
      simp only at h
      cases hl : lex (n - 1) (adv1 p c) r with
      | ok us =>
        rw [hl] at h
        injection h with h
        subst h
        intro t ht
        rcases List.mem_cons.1 ht with rfl | ht
        · exact step_word hs
        · exact lex_word r _ _ us hl t ht
      | no x y e => rw [hl] at h; cases h
    | err e => rw [hs] at h; cases h
theorem scan_gsW {l : List UInt8} {ts : List Tok} (h : scan l = .ok ts) : GsW (ts.map Tok.g) := by
  refine ⟨fun g hg => ?_, fun g hg hk => ?_⟩
  · obtain ⟨t, ht, rfl⟩ := List.mem_map.1 hg
    exact (scan_tokB h).2 t ht
  · obtain ⟨t, ht, rfl⟩ := List.mem_map.1 hg
    have hl : lex 0 (1, 1) l = .ok ts := by
      unfold scan at h
      split at h
      · cases h
      · exact h
    refine lex_word l 0 _ ts hl t ht ?_
    have : (t.kind : Int) = 1 := hk
    omega
/-- What the reference's Parse of facts reads. -/
def rAll (l : List UInt8) : RS × List GFact := rFactsR l (openG l) ((openG l).length + 1) (openS l) []
theorem rAll_eq (l : List UInt8) : match pAll l with
    | .no x y e => (rAll l).1.e = e ∧ (e ≠ 0 → (rAll l).1.x = x ∧ (rAll l).1.y = y)
    | .ok fs => (rAll l).1.e = 0 ∧ (rAll l).2 = fs := by
  unfold pAll rAll openG openS
  cases hs : scan l with
  | no x y e =>
    simp only
    by_cases he : e = 0
    · subst he
      rw [rFactsR_stop _ _ _ _ _ (fun h => by have := h.2; unfold doneR at this; simp at this)]
      exact ⟨rfl, fun h => absurd rfl h⟩
    · rw [rFactsR_stop _ _ _ _ _ (fun h => by have : (e : Int) = 0 := h.1; omega)]
      exact ⟨rfl, fun _ => ⟨rfl, rfl⟩⟩
  | ok toks =>
    simp only
    have hf := facts_st l (scan_gsW hs) (toks.map Tok.g ++ [endTok l]).length ((toks.map Tok.g).length + 1) ⟨0, 0, 0, 0⟩ [] rfl (Nat.zero_le _) (Nat.le_refl _) (Nat.le_refl _)
    have e0 : atR l (toks.map Tok.g) 0 = toks.map Tok.g ++ [endTok l] := rfl
    simp only [e0] at hf
    generalize rFactsR l (toks.map Tok.g) ((toks.map Tok.g).length + 1) ⟨0, 0, 0, 0⟩ [] = R at *
    generalize pFacts (toks.map Tok.g ++ [endTok l]).length [] (toks.map Tok.g ++ [endTok l]) = q at *
    obtain ⟨qe, qf, qts⟩ := q
    simp only at *
    obtain ⟨h1, h2, h3⟩ := hf
    by_cases he : qe = 0
    · rw [if_pos he]
      exact ⟨h1.trans he, h2 he⟩
    · rw [if_neg he]
      obtain ⟨t, r, rfl, hx, hy⟩ := h3 he
      exact ⟨h1, fun _ => ⟨hx, hy⟩⟩
end Go.Proofs.YtmodjokoggmnaaaGreatDoor


namespace Go.Proofs.YtmodjokoggmnaaaGreatDoor

open Go.ChangeShapes Go.WideShapes Go.RowKit

instance : Inhabited (SFact × GFact) := ⟨(⟨[], none, 0, 0⟩, ⟨[], []⟩)⟩
section

variable {H : Type} {enc : TypeId × Value → H} {W : World} {base : Nat} {spare : Nat → Bool} {held : Bool}

set_option maxRecDepth 50000 in
theorem IsFacts_open {a : Option Addr} {len cap : Nat} {d : DataW H} {p : List MemPlace} (h : DataW.Trod enc Tryz.prog W base spare held 22 (.slice a len cap) d p) (hwt : ∀ n ∈ d.weights Tryz.prog 22, n ≤ reachBytes) : ∃ ss fs, IsFacts W a len cap ss fs ∧ (a = none → cap = 0) := by
  obtain ⟨fuel, hf⟩ := h
  rcases Go.Deep.open_slice Tryz.underlying22 hf with ⟨hcs, _⟩ | ⟨x, l, c, m, n, D, Pl, hcs, _, hl, hm, hmm, hxd, hx⟩
  · simp [Value.cells] at hcs
    obtain ⟨rfl, rfl, rfl⟩ := hcs
    exact ⟨[], [], ⟨rfl, Nat.le_refl _, Nat.zero_le _, ⟨GRow.nil, rfl, fun i h1 => by simp at h1⟩, fun i h1 => by simp at h1⟩, fun _ => rfl⟩
  · simp [Value.cells] at hcs
    obtain ⟨rfl, rfl, rfl⟩ := hcs
    have c0 : Tryz.prog.cellsOf 37 = 2 := by kernel_rfl
    rw [c0] at hx
    have hlm : len ≤ m := by rw [hmm]; split <;> omega
    have each : ∀ i, i < len → ∃ t : SFact × GFact, IsFact W t.1 t.2 ∧ ∀ j, j < 2 → W.cell? ((x.add (i * 2)).add j) = t.1.cells[j]? := fun i hi => by
      obtain ⟨cs', hc, ht⟩ := hx i (by omega)
      have hd : d = .slice ((List.range len).map D) ((List.range (m - len)).map fun j => D (len + j)) := congrArg Prod.fst hxd
      obtain ⟨s, f, rfl, hw⟩ := fact_open ht (fun k hk => hwt k (by
        rw [hd]
        simp only [DataW.weights, Tryz.underlying22, List.mem_cons, List.mem_append]
        exact .inr (.inl (weights_mem_all (List.mem_map.2 ⟨i, List.mem_range.2 hi, rfl⟩) hk))))
      obtain ⟨_, _, hat⟩ := World.cells?_some hc
      exact ⟨(s, f), hw, fun j hj => hat j hj⟩
    obtain ⟨g, hgx⟩ := Go.Deep.choose_lt each
    refine ⟨(List.range len).map fun i => (g i).1, (List.range len).map fun i => (g i).2, ⟨by simp, hl, hm, ⟨fun h0 => ?_, by simp, fun i h1 _ => ?_⟩, fun i h1 _ => ?_⟩, fun e => by cases e⟩
    · simp at h0
      obtain ⟨b, off, spot⟩ := x
      have hc0 := (hgx 0 h0).2 0 (by omega)
      have hspot : spot = none := by simpa [Addr.add] using World.cell?_spot (hc0.trans rfl)
      subst hspot
      have hlt := World.block_lt_of_cell? W _ (hc0.trans rfl)
      refine ⟨b, off, rfl, by simpa [Addr.add] using hlt, fun i hi j u hu => ?_⟩
      simp at hi
      have hj : j < 2 := by
        rcases Nat.lt_or_ge j 2 with h1 | h1
        · exact h1
        · rw [List.getElem?_eq_none (by simp [SFact.cells]; omega)] at hu; cases hu
      have e : ((⟨b, off, none⟩ : Addr).add (i * 2)).add j = ⟨b, off + (i * 2 + j), none⟩ := by rw [Go.WideShapes.add_plain, Go.WideShapes.add_plain, Nat.add_assoc]
      have := (hgx i hi).2 j hj
      rw [e] at this
      simp at hu
      rw [this, hu]
    · have hi : i < len := by simpa using h1
      have := (hgx i hi).1.hold
      simpa using this
    · have hi : i < len := by simpa using h1
      have := (hgx i hi).1
      simpa using this
end

end Go.Proofs.YtmodjokoggmnaaaGreatDoor


namespace Go.Proofs.YtmodjokoggmnaaaGreatDoor
open Go.RowKit Go.Shelf

theorem pAll_no {l : List UInt8} {x y e : Int} (h : pAll l = .no x y e) : e ≠ 0 := by
  unfold pAll at h
  cases hs : scan l with
  | no x' y' e' =>
    rw [hs] at h
    injection h with h1 h2 h3
    have := scan_err hs
    omega
  | ok toks =>
    rw [hs] at h
    simp only at h
    generalize pFacts (toks.map Tok.g ++ [endTok l]).length [] (toks.map Tok.g ++ [endTok l]) = q at h
    obtain ⟨qe, qf, qt⟩ := q
    simp only at h
    by_cases he : qe = 0
    · rw [if_pos he] at h; cases h
    · rw [if_neg he] at h
      cases qt with
      | nil => injection h with h1 h2 h3; omega
      | cons t r => injection h with h1 h2 h3; omega
/-- What parsing the text l yields. -/
def IsParse (l : List UInt8) (x y e : Int) (fs' : List GFact) : Prop :=
  match pAll l with
  | .no x' y' e' => x = x' ∧ y = y' ∧ e = e' ∧ fs' = []
  | .ok fs => x = 0 ∧ y = 0 ∧ e = 0 ∧ StrictF fs' ∧ ∀ f, f ∈ fs' ↔ f ∈ fs
theorem IsParse.same {l : List UInt8} {x y e x2 y2 e2 : Int} {f f2 : List GFact} (h : IsParse l x y e f) (h2 : IsParse l x2 y2 e2 f2) : x = x2 ∧ y = y2 ∧ e = e2 ∧ f = f2 := by
  unfold IsParse at h h2
  split at h
  · rename_i hp
    rw [hp] at h2
    obtain ⟨rfl, rfl, rfl, rfl⟩ := h
    obtain ⟨h1, h2, h3, h4⟩ := h2
    exact ⟨h1.symm, h2.symm, h3.symm, h4.symm⟩
  · rename_i hp
    rw [hp] at h2
    obtain ⟨rfl, rfl, rfl, h3, h4⟩ := h
    obtain ⟨rfl, rfl, rfl, h5, h6⟩ := h2
    exact ⟨rfl, rfl, rfl, strict_ext _ _ h3 h5 fun g => by rw [h4 g, h6 g]⟩
theorem IsParse.ok {l : List UInt8} {x y e : Int} {f : List GFact} (h : IsParse l x y e f) : (e = 0 → ∃ fs, pAll l = .ok fs ∧ StrictF f ∧ ∀ g, g ∈ f ↔ g ∈ fs) ∧ (e ≠ 0 → f = []) := by
  unfold IsParse at h
  split at h
  · rename_i hp
    have := pAll_no hp
    obtain ⟨rfl, rfl, rfl, rfl⟩ := h
    exact ⟨fun h => absurd h this, fun _ => rfl⟩
  · rename_i fs hp
    obtain ⟨rfl, rfl, rfl, h3, h4⟩ := h
    exact ⟨fun _ => ⟨fs, hp, h3, h4⟩, fun h => absurd rfl h⟩
theorem okV_kind {v : GVal} (h : OkV v) : (Lit.int .i64 v.kind).wf = true := by
  rcases val_parts h with ⟨h1, _⟩ | ⟨h1, _⟩ <;> (rw [h1]; decide)
theorem IsParse.okF {l : List UInt8} {x y e : Int} {f : List GFact} (h : IsParse l x y e f) : ∀ g ∈ f, OkF g := by
  by_cases he : e = 0
  · obtain ⟨fs, h1, _, h3⟩ := h.ok.1 he
    exact fun g hg => (pAll_ok h1).1 g ((h3 g).1 hg)
  · rw [h.ok.2 he]
    intro g hg
    cases hg
theorem okF_kinds {fs : List GFact} (h : ∀ g ∈ fs, OkF g) : KindsF fs := fun f hf v hv => okV_kind ((h f hf).2 v hv)
theorem okF_fewV {fs : List GFact} (h : ∀ g ∈ fs, OkF g) : (∀ f ∈ fs, FewV f) ∧ ∀ f ∈ fs, f.args.length ≤ 8 := by
  refine ⟨fun f hf => ?_, fun f hf => (okF_parts (h f hf)).2.2.2⟩
  obtain ⟨_, h24, _, _⟩ := okF_parts (h f hf)
  refine ⟨by omega, fun v hv => ?_⟩
  have hv2 := (h f hf).2 v hv
  have h26 := val_len hv2
  refine ⟨?_, hv2.2.1, hv2.2.2, by omega⟩
  rcases val_parts hv2 with ⟨_, h1, _⟩ | ⟨_, _, h1, _⟩
  · rw [h1]; simp
  · omega
/-- How either parser ends. -/
def ParseU (l : List UInt8) (w : World) (e : Ending) (w' : World) : Prop :=
  ∃ A, ∃ c : Nat, ∃ x y er : Int, ∃ fs' : List GFact, e = .returned (.tuple #[.slice A fs'.length c, .agg #[.int .i64 x, .int .i64 y], .int .i64 er]) ∧ (∃ ss, SetV w' (.slice A fs'.length c) ss fs') ∧ fs'.length ≤ 9000 ∧ IsParse l x y er fs' ∧ Below w.heap.size w w'
theorem parse_u (l : List UInt8) (w : World) (hl : l.length ≤ maxLen) (hG : Glob w) :
    Calls Tryz.prog 7 #[.string ⟨l.toArray⟩] w (ParseU l w) := by
  refine (parse_any l w hl hG).mono ?_
  intro e w' h
  unfold ParseEnd at h
  split at h
  · rename_i x y er hp
    obtain ⟨h1, rfl, h2⟩ := h
    exact ⟨none, 0, x, y, er, [], rfl, ⟨[], SetV.nil w'⟩, by simp, by unfold IsParse; rw [hp]; exact ⟨rfl, rfl, rfl, rfl⟩, h2⟩
  · rename_i fs hp
    obtain ⟨h1, h2, v, ss, fs', rfl, h3, h4, h5, h6, h7⟩ := h
    obtain ⟨A, c, rfl⟩ := h3.slice
    exact ⟨A, c, 0, 0, 0, fs', rfl, ⟨ss, h3⟩, by omega, by unfold IsParse; rw [hp]; exact ⟨rfl, rfl, rfl, h4, h5⟩, h7⟩
theorem rParse_u (l : List UInt8) (w : World) (hl : l.length ≤ 3000) :
    Calls Tryz.prog 8 #[.string ⟨l.toArray⟩] w (ParseU l w) := by
  have hr : Calls Tryz.prog 8 #[.string ⟨l.toArray⟩] w (RParseEnd (rAll l) w) := rParse_any l w hl
  have hq := rAll_eq l
  refine hr.mono ?_
  intro e w' h
  cases hp : pAll l with
  | no x y er =>
    rw [hp] at hq
    simp only at hq
    have hne := pAll_no hp
    obtain ⟨h1, h2⟩ := hq
    obtain ⟨h2, h3⟩ := h2 hne
    rcases h with ⟨h4, rfl, h5⟩ | ⟨h4, _⟩
    · rw [h1, h2, h3]
      exact ⟨none, 0, x, y, er, [], rfl, ⟨[], SetV.nil w'⟩, by simp, by unfold IsParse; rw [hp]; exact ⟨rfl, rfl, rfl, rfl⟩, h5⟩
    · exact absurd (h1.symm.trans h4) hne
  | ok fs =>
    rw [hp] at hq
    simp only at hq
    obtain ⟨h1, h2⟩ := hq
    rcases h with ⟨h4, _⟩ | ⟨h4, v, ss, fs', rfl, h5, h6, h7, h8, h9⟩
    · exact absurd h1 h4
    · obtain ⟨A, c, rfl⟩ := h5.slice
      have hw := (pAll_ok hp).2
      have hc := weight_count fs
      rw [h2] at h7 h8
      exact ⟨A, c, 0, 0, 0, fs', rfl, ⟨ss, h5⟩, by omega, by unfold IsParse; rw [hp]; exact ⟨rfl, rfl, rfl, h6, h7⟩, h9⟩
/-- How either Format ends. -/
def FmtU (fs : List GFact) (w : World) (e : Ending) (w' : World) : Prop :=
  ∃ fs', e = .returned (.string ⟨(fmtT fs').toArray⟩) ∧ StrictF fs' ∧ (∀ f, f ∈ fs' ↔ f ∈ fs) ∧ Below w.heap.size w w'
theorem FmtU.same {fs a b : List GFact} (h1 : StrictF a) (h2 : ∀ f, f ∈ a ↔ f ∈ fs) (h3 : StrictF b) (h4 : ∀ f, f ∈ b ↔ f ∈ fs) : a = b := strict_ext _ _ h1 h3 fun g => by rw [h2 g, h4 g]
theorem sameU (va vb : Value) (fa : List GFact) (w : World) (ha : ∃ ss, SetV w va ss fa) (hb : ∃ ss, SetV w vb ss fa) (hn : fa.length ≤ 1099511627776) (hk : KindsF fa) :
    Calls Tryz.prog 9 #[va, vb] w fun e w' => e = .returned (.bool true) ∧ Below w.heap.size w w' := by
  obtain ⟨sa, ha⟩ := ha
  obtain ⟨sb, hb⟩ := hb
  refine (rSame_any va vb sa sb fa fa w ha hb hn hk hk).mono ?_
  rintro e w' ⟨⟨b, rfl, hq⟩, h⟩
  rw [hq.2 rfl]
  exact ⟨rfl, h⟩
theorem IsFacts.setV {w : World} {A : Option Addr} {len c : Nat} {ss : List SFact} {fs : List GFact} (h : IsFacts w A len c ss fs) (hn : A = none → c = 0) (hs : Small fs) : SetV w (.slice A fs.length c) ss fs := by
  have hr := h.row.small hs
  refine ⟨?_, hr.len, hr.each⟩
  cases A with
  | none =>
    have h1 := hn rfl
    have h2 := h.le
    have h3 := h.count
    have h4 := hr.len
    left
    refine ⟨by rw [h1, show fs.length = 0 by omega], List.eq_nil_of_length_eq_zero (by omega)⟩
  | some ad =>
    right
    exact ⟨ad, c, by rw [hr.len], hr.row⟩
theorem IsFacts.rowE {w : World} {A : Option Addr} {len c : Nat} {ss : List SFact} {fs : List GFact} (h : IsFacts w A len c ss fs) (hn : A = none → c = 0) (hs : Small fs) : ∃ es : List (Elem w), FactsE es = fs ∧ RowE w A c es := by
  have hr := h.row.small hs
  obtain ⟨es, e1, e2⟩ := elems_of ss fs hr.len hr.each
  refine ⟨es, e2, ⟨?_, ?_, hn, h.max, ?_⟩⟩
  · have hrow := hr.row
    rw [← e1] at hrow
    intro h0
    obtain ⟨b, off, e, hlt, hc⟩ := hrow (by simpa using h0)
    refine ⟨b, off, e, hlt, fun i hi j u hu => ?_⟩
    have := hc i (by simpa using hi) j u (by rw [List.getElem_map]; exact hu)
    exact this
  · have := h.le
    have := h.count
    have h3 := congrArg List.length e2
    rw [List.length_map] at h3
    omega
  · intro f hf v hv
    unfold FactsE at hf
    rw [e2] at hf
    obtain ⟨i, hi, rfl⟩ := List.getElem_of_mem hf
    exact ((h.each i (by have := hr.len; omega) hi).wf v hv).kind
theorem IsFacts.vals {w : World} {A : Option Addr} {len c : Nat} {ss : List SFact} {fs : List GFact} (h : IsFacts w A len c ss fs) : ∀ f ∈ fs, ∀ v ∈ f.args, -9223372036854775808 ≤ v.int ∧ v.int ≤ 9223372036854775807 := by
  intro f hf v hv
  obtain ⟨i, hi, rfl⟩ := List.getElem_of_mem hf
  have h0 := ((h.each i (by have := h.row.len; omega) hi).wf v hv).int
  simp [Lit.wf] at h0
  exact ⟨h0.1, h0.2⟩
theorem itoa_len {n : Int} (h0 : -9223372036854775808 ≤ n) (h1 : n ≤ 9223372036854775807) : (Lib.itoa n).length ≤ 21 := by
  rw [itoa_text]
  split
  · have := (isDec (-n).toNat (by omega)).len
    simp; omega
  · have := (isDec n.toNat (by omega)).len
    omega
theorem small_fewV {fs : List GFact} (hs : Small fs) (hv : ∀ f ∈ fs, ∀ v ∈ f.args, -9223372036854775808 ≤ v.int ∧ v.int ≤ 9223372036854775807) : ∀ f ∈ fs, FewV f := fun f hf => by
  have h1 := hs.2 f hf
  refine ⟨by have := h1.rel; omega, fun v hv2 => ?_⟩
  obtain ⟨a, b⟩ := hv f hf v hv2
  have hw := h1.word v hv2
  refine ⟨by omega, a, b, ?_⟩
  unfold vtextL
  split
  · have := itoa_len a b; omega
  · split
    · omega
    · unfold quoteL
      split
      · simp; omega
      · simp
theorem rFormat_u {w0 : World} {A : Option Addr} {c : Nat} {fs : List GFact} (w : World) (he : ∃ es : List (Elem w0), FactsE es = fs ∧ RowE w0 A c es) (hb : Below w0.heap.size w0 w) (hn : fs.length ≤ 990000) (hz : ∀ f ∈ fs, FewV f) :
    Calls Tryz.prog 12 #[.slice A fs.length c] w (FmtU fs w) := by
  obtain ⟨es, he, hr⟩ := he
  have hl : es.length = fs.length := by rw [← he]; simp [FactsE]
  rw [← hl, ← he]
  exact rFormat_any es A c w hb (hr.next hb) (by omega) (by rw [he]; exact hz)
theorem fformat_u (v : Value) (fs : List GFact) (w : World) (hs : ∃ ss, SetV w v ss fs) (hn : fs.length ≤ 90000) (hz : ∀ f ∈ fs, FewV f) (ha : ∀ f ∈ fs, f.args.length ≤ 1000000) (hP : Pow w) :
    Calls Tryz.prog 10 #[v] w (FmtU fs w) := by
  obtain ⟨ss, hs⟩ := hs
  exact fformat_any v ss fs w hs hn hz ha hP
end Go.Proofs.YtmodjokoggmnaaaGreatDoor
