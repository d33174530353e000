/-
  The two parsers and the two texts of facts, in one form: what they yield is the same.
  Conditions: texts of at most 3000 bytes; strconv.ErrRange and the table of powers of ten lie as the program's start lays them.
  The law FactText returns true.
  Conditions: the text and the facts are the language's; strconv.ErrRange and the table of powers of ten lie as the program's start lays them.
  The law FactRoundTrip returns true.
  Conditions: the text and the facts are the language's; strconv.ErrRange and the table of powers of ten lie as the program's start lays them.
-/
import Derived.Test.YtmodjokoggmnaaaGreatDoorMa38
import Derived.Test.YtmodjokoggmnaaaGreatDoorMa40
import Derived.Test.YtmodjokoggmnaaaGreatDoorMa41
import Derived.Test.YtmodjokoggmnaaaGreatDoorMa23
import Derived.Test.YtmodjokoggmnaaaGreatDoorMa26
import Derived.Test.YtmodjokoggmnaaaGreatDoorMa7
namespace Go.Proofs.YtmodjokoggmnaaaGreatDoor
open Go.RowKit Go.Shelf

theorem pAll_no {l : List UInt8} {x y e : Int} (h : pAll l = .no x y e) : e ≠ 0 := by
  unfold pAll at h
  cases hs : scan l with
  | no x' y' e' =>
    rw [hs] at h
    injection h with h1 h2 h3
    have := scan_err hs
    omega
  | ok toks =>
    rw [hs] at h
    simp only at h
    generalize pFacts (toks.map Tok.g ++ [endTok l]).length [] (toks.map Tok.g ++ [endTok l]) = q at h
    obtain ⟨qe, qf, qt⟩ := q
    simp only at h
    by_cases he : qe = 0
    · rw [if_pos he] at h; cases h
    · rw [if_neg he] at h
      cases qt with
      | nil => injection h with h1 h2 h3; omega
      | cons t r => injection h with h1 h2 h3; omega
/-- What parsing the text l yields. -/
def IsParse (l : List UInt8) (x y e : Int) (fs' : List GFact) : Prop :=
  match pAll l with
  | .no x' y' e' => x = x' ∧ y = y' ∧ e = e' ∧ fs' = []
  | .ok fs => x = 0 ∧ y = 0 ∧ e = 0 ∧ StrictF fs' ∧ ∀ f, f ∈ fs' ↔ f ∈ fs
theorem IsParse.same {l : List UInt8} {x y e x2 y2 e2 : Int} {f f2 : List GFact} (h : IsParse l x y e f) (h2 : IsParse l x2 y2 e2 f2) : x = x2 ∧ y = y2 ∧ e = e2 ∧ f = f2 := by
  unfold IsParse at h h2
  split at h
  · rename_i hp
    rw [hp] at h2
    obtain ⟨rfl, rfl, rfl, rfl⟩ := h
    obtain ⟨h1, h2, h3, h4⟩ := h2
    exact ⟨h1.symm, h2.symm, h3.symm, h4.symm⟩
  · rename_i hp
    rw [hp] at h2
    obtain ⟨rfl, rfl, rfl, h3, h4⟩ := h
    obtain ⟨rfl, rfl, rfl, h5, h6⟩ := h2
    exact ⟨rfl, rfl, rfl, strict_ext _ _ h3 h5 fun g => by rw [h4 g, h6 g]⟩
theorem IsParse.ok {l : List UInt8} {x y e : Int} {f : List GFact} (h : IsParse l x y e f) : (e = 0 → ∃ fs, pAll l = .ok fs ∧ StrictF f ∧ ∀ g, g ∈ f ↔ g ∈ fs) ∧ (e ≠ 0 → f = []) := by
  unfold IsParse at h
  split at h
  · rename_i hp
    have := pAll_no hp
    obtain ⟨rfl, rfl, rfl, rfl⟩ := h
    exact ⟨fun h => absurd h this, fun _ => rfl⟩
  · rename_i fs hp
    obtain ⟨rfl, rfl, rfl, h3, h4⟩ := h
    exact ⟨fun _ => ⟨fs, hp, h3, h4⟩, fun h => absurd rfl h⟩
theorem okV_kind {v : GVal} (h : OkV v) : (Lit.int .i64 v.kind).wf = true := by
  rcases val_parts h with ⟨h1, _⟩ | ⟨h1, _⟩ <;> (rw [h1]; decide)
theorem IsParse.okF {l : List UInt8} {x y e : Int} {f : List GFact} (h : IsParse l x y e f) : ∀ g ∈ f, OkF g := by
  by_cases he : e = 0
  · obtain ⟨fs, h1, _, h3⟩ := h.ok.1 he
    exact fun g hg => (pAll_ok h1).1 g ((h3 g).1 hg)
  · rw [h.ok.2 he]
    intro g hg
    cases hg
theorem okF_kinds {fs : List GFact} (h : ∀ g ∈ fs, OkF g) : KindsF fs := fun f hf v hv => okV_kind ((h f hf).2 v hv)
theorem okF_fewV {fs : List GFact} (h : ∀ g ∈ fs, OkF g) : (∀ f ∈ fs, FewV f) ∧ ∀ f ∈ fs, f.args.length ≤ 8 := by
  refine ⟨fun f hf => ?_, fun f hf => (okF_parts (h f hf)).2.2.2⟩
  obtain ⟨_, h24, _, _⟩ := okF_parts (h f hf)
  refine ⟨by omega, fun v hv => ?_⟩
  have hv2 := (h f hf).2 v hv
  have h26 := val_len hv2
  refine ⟨?_, hv2.2.1, hv2.2.2, by omega⟩
  rcases val_parts hv2 with ⟨_, h1, _⟩ | ⟨_, _, h1, _⟩
  · rw [h1]; simp
  · omega
/-- How either parser ends. -/
def ParseU (l : List UInt8) (w : World) (e : Ending) (w' : World) : Prop :=
  ∃ A, ∃ c : Nat, ∃ x y er : Int, ∃ fs' : List GFact, e = .returned (.tuple #[.slice A fs'.length c, .agg #[.int .i64 x, .int .i64 y], .int .i64 er]) ∧ (∃ ss, SetV w' (.slice A fs'.length c) ss fs') ∧ fs'.length ≤ 9000 ∧ IsParse l x y er fs' ∧ Below w.heap.size w w'
theorem parse_u (l : List UInt8) (w : World) (hl : l.length ≤ maxLen) (hG : Glob w) :
    Calls Tryz.prog 7 #[.string ⟨l.toArray⟩] w (ParseU l w) := by
  refine (parse_any l w hl hG).mono ?_
  intro e w' h
  unfold ParseEnd at h
  split at h
  · rename_i x y er hp
    obtain ⟨h1, rfl, h2⟩ := h
    exact ⟨none, 0, x, y, er, [], rfl, ⟨[], SetV.nil w'⟩, by simp, by unfold IsParse; rw [hp]; exact ⟨rfl, rfl, rfl, rfl⟩, h2⟩
  · rename_i fs hp
    obtain ⟨h1, h2, v, ss, fs', rfl, h3, h4, h5, h6, h7⟩ := h
    obtain ⟨A, c, rfl⟩ := h3.slice
    exact ⟨A, c, 0, 0, 0, fs', rfl, ⟨ss, h3⟩, by omega, by unfold IsParse; rw [hp]; exact ⟨rfl, rfl, rfl, h4, h5⟩, h7⟩
theorem rParse_u (l : List UInt8) (w : World) (hl : l.length ≤ 3000) :
    Calls Tryz.prog 8 #[.string ⟨l.toArray⟩] w (ParseU l w) := by
  have hr : Calls Tryz.prog 8 #[.string ⟨l.toArray⟩] w (RParseEnd (rAll l) w) := rParse_any l w hl
  have hq := rAll_eq l
  refine hr.mono ?_
  intro e w' h
  cases hp : pAll l with
  | no x y er =>
    rw [hp] at hq
    simp only at hq
    have hne := pAll_no hp
    obtain ⟨h1, h2⟩ := hq
    obtain ⟨h2, h3⟩ := h2 hne
    rcases h with ⟨h4, rfl, h5⟩ | ⟨h4, _⟩
    · rw [h1, h2, h3]
      exact ⟨none, 0, x, y, er, [], rfl, ⟨[], SetV.nil w'⟩, by simp, by unfold IsParse; rw [hp]; exact ⟨rfl, rfl, rfl, rfl⟩, h5⟩
    · exact absurd (h1.symm.trans h4) hne
  | ok fs =>
    rw [hp] at hq
    simp only at hq
    obtain ⟨h1, h2⟩ := hq
    rcases h with ⟨h4, _⟩ | ⟨h4, v, ss, fs', rfl, h5, h6, h7, h8, h9⟩
    · exact absurd h1 h4
    · obtain ⟨A, c, rfl⟩ := h5.slice
      have hw := (pAll_ok hp).2
      have hc := weight_count fs
      rw [h2] at h7 h8
      exact ⟨A, c, 0, 0, 0, fs', rfl, ⟨ss, h5⟩, by omega, by unfold IsParse; rw [hp]; exact ⟨rfl, rfl, rfl, h6, h7⟩, h9⟩
/-- How either Format ends. -/
def FmtU (fs : List GFact) (w : World) (e : Ending) (w' : World) : Prop :=
  ∃ fs', e = .returned (.string ⟨(fmtT fs').toArray⟩) ∧ StrictF fs' ∧ (∀ f, f ∈ fs' ↔ f ∈ fs) ∧ Below w.heap.size w w'
theorem FmtU.same {fs a b : List GFact} (h1 : StrictF a) (h2 : ∀ f, f ∈ a ↔ f ∈ fs) (h3 : StrictF b) (h4 : ∀ f, f ∈ b ↔ f ∈ fs) : a = b := strict_ext _ _ h1 h3 fun g => by rw [h2 g, h4 g]
theorem sameU (va vb : Value) (fa : List GFact) (w : World) (ha : ∃ ss, SetV w va ss fa) (hb : ∃ ss, SetV w vb ss fa) (hn : fa.length ≤ 1099511627776) (hk : KindsF fa) :
    Calls Tryz.prog 9 #[va, vb] w fun e w' => e = .returned (.bool true) ∧ Below w.heap.size w w' := by
  obtain ⟨sa, ha⟩ := ha
  obtain ⟨sb, hb⟩ := hb
  refine (rSame_any va vb sa sb fa fa w ha hb hn hk hk).mono ?_
  rintro e w' ⟨⟨b, rfl, hq⟩, h⟩
  rw [hq.2 rfl]
  exact ⟨rfl, h⟩
theorem IsFacts.setV {w : World} {A : Option Addr} {len c : Nat} {ss : List SFact} {fs : List GFact} (h : IsFacts w A len c ss fs) (hn : A = none → c = 0) (hs : Small fs) : SetV w (.slice A fs.length c) ss fs := by
  have hr := h.row.small hs
  refine ⟨?_, hr.len, hr.each⟩
  cases A with
  | none =>
    have h1 := hn rfl
    have h2 := h.le
    have h3 := h.count
    have h4 := hr.len
    left
    refine ⟨by rw [h1, show fs.length = 0 by omega], List.eq_nil_of_length_eq_zero (by omega)⟩
  | some ad =>
    right
    exact ⟨ad, c, by rw [hr.len], hr.row⟩
theorem IsFacts.rowE {w : World} {A : Option Addr} {len c : Nat} {ss : List SFact} {fs : List GFact} (h : IsFacts w A len c ss fs) (hn : A = none → c = 0) (hs : Small fs) : ∃ es : List (Elem w), FactsE es = fs ∧ RowE w A c es := by
  have hr := h.row.small hs
  obtain ⟨es, e1, e2⟩ := elems_of ss fs hr.len hr.each
  refine ⟨es, e2, ⟨?_, ?_, hn, h.max, ?_⟩⟩
  · have hrow := hr.row
    rw [← e1] at hrow
    intro h0
    obtain ⟨b, off, e, hlt, hc⟩ := hrow (by simpa using h0)
    refine ⟨b, off, e, hlt, fun i hi j u hu => ?_⟩
    have := hc i (by simpa using hi) j u (by rw [List.getElem_map]; exact hu)
    exact this
  · have := h.le
    have := h.count
    have h3 := congrArg List.length e2
    rw [List.length_map] at h3
    omega
  · intro f hf v hv
    unfold FactsE at hf
    rw [e2] at hf
    obtain ⟨i, hi, rfl⟩ := List.getElem_of_mem hf
    exact ((h.each i (by have := hr.len; omega) hi).wf v hv).kind
theorem IsFacts.vals {w : World} {A : Option Addr} {len c : Nat} {ss : List SFact} {fs : List GFact} (h : IsFacts w A len c ss fs) : ∀ f ∈ fs, ∀ v ∈ f.args, -9223372036854775808 ≤ v.int ∧ v.int ≤ 9223372036854775807 := by
  intro f hf v hv
  obtain ⟨i, hi, rfl⟩ := List.getElem_of_mem hf
  have h0 := ((h.each i (by have := h.row.len; omega) hi).wf v hv).int
  simp [Lit.wf] at h0
  exact ⟨h0.1, h0.2⟩
theorem itoa_len {n : Int} (h0 : -9223372036854775808 ≤ n) (h1 : n ≤ 9223372036854775807) : (Lib.itoa n).length ≤ 21 := by
  rw [itoa_text]
  split
  · have := (isDec (-n).toNat (by omega)).len
    simp; omega
  · have := (isDec n.toNat (by omega)).len
    omega
theorem small_fewV {fs : List GFact} (hs : Small fs) (hv : ∀ f ∈ fs, ∀ v ∈ f.args, -9223372036854775808 ≤ v.int ∧ v.int ≤ 9223372036854775807) : ∀ f ∈ fs, FewV f := fun f hf => by
  have h1 := hs.2 f hf
  refine ⟨by have := h1.rel; omega, fun v hv2 => ?_⟩
  obtain ⟨a, b⟩ := hv f hf v hv2
  have hw := h1.word v hv2
  refine ⟨by omega, a, b, ?_⟩
  unfold vtextL
  split
  · have := itoa_len a b; omega
  · split
    · omega
    · unfold quoteL
      split
      · simp; omega
      · simp
theorem rFormat_u {w0 : World} {A : Option Addr} {c : Nat} {fs : List GFact} (w : World) (he : ∃ es : List (Elem w0), FactsE es = fs ∧ RowE w0 A c es) (hb : Below w0.heap.size w0 w) (hn : fs.length ≤ 990000) (hz : ∀ f ∈ fs, FewV f) :
    Calls Tryz.prog 12 #[.slice A fs.length c] w (FmtU fs w) := by
  obtain ⟨es, he, hr⟩ := he
  have hl : es.length = fs.length := by rw [← he]; simp [FactsE]
  rw [← hl, ← he]
  exact rFormat_any es A c w hb (hr.next hb) (by omega) (by rw [he]; exact hz)
theorem fformat_u (v : Value) (fs : List GFact) (w : World) (hs : ∃ ss, SetV w v ss fs) (hn : fs.length ≤ 90000) (hz : ∀ f ∈ fs, FewV f) (ha : ∀ f ∈ fs, f.args.length ≤ 1000000) (hP : Pow w) :
    Calls Tryz.prog 10 #[v] w (FmtU fs w) := by
  obtain ⟨ss, hs⟩ := hs
  exact fformat_any v ss fs w hs hn hz ha hP
end Go.Proofs.YtmodjokoggmnaaaGreatDoor


namespace Go.Proofs.YtmodjokoggmnaaaGreatDoor
open Go.RowKit Go.Shelf

theorem fmt_fix (fs : List GFact) : ∃ T : List UInt8, ∀ fs', StrictF fs' → (∀ f, f ∈ fs' ↔ f ∈ fs) → fmtT fs' = T := by
  by_cases h : ∃ a, StrictF a ∧ ∀ f, f ∈ a ↔ f ∈ fs
  · obtain ⟨a, h1, h2⟩ := h
    exact ⟨fmtT a, fun b h3 h4 => by rw [FmtU.same h3 h4 h1 h2]⟩
  · exact ⟨[], fun b h3 h4 => absurd ⟨b, h3, h4⟩ h⟩
def FmtT (T : List UInt8) (w : World) (e : Ending) (w' : World) : Prop := e = .returned (.string ⟨T.toArray⟩) ∧ Below w.heap.size w w'
theorem FmtU.fix {fs : List GFact} {T : List UInt8} {w : World} (hT : ∀ fs', StrictF fs' → (∀ f, f ∈ fs' ↔ f ∈ fs) → fmtT fs' = T) : ∀ e w', FmtU fs w e w' → FmtT T w e w' := by
  rintro e w' ⟨fs', rfl, h1, h2, h3⟩
  exact ⟨by rw [hT fs' h1 h2], h3⟩
set_option maxRecDepth 50000 in
set_option maxHeartbeats 1000000 in
theorem text_any (l : List UInt8) (A : Option Addr) (c : Nat) (ss : List SFact) (fs : List GFact) (w : World) (hl : l.length ≤ maxLen) (hD : IsFacts w A fs.length c ss fs) (hn : A = none → c = 0) (hG : Glob2 w) :
    Calls Tryz.prog 3 #[.string ⟨l.toArray⟩, .slice A fs.length c] w fun e w' => e = .returned (.bool true) ∧ Below w.heap.size w w' := by
  have hsz : (⟨l.toArray⟩ : ByteArray).size = l.length := ba_size l
  have HAW := Lib.hid fun W (hW : Below w.heap.size w W) => awake_any W (hG.next hW)
  have hnot : ∀ (x : Bool) (w : World), (Op.unary .not (.bool x)).run Tryz.prog w = .ok (.bool (!x)) w := fun _ _ => rfl
  by_cases h3 : l.length ≤ 3000
  case neg =>
    have f3 : decide ((3000 : Int) < (l.length : Int)) = true := by simp; omega
    have g3 : (3000 : Int) < (l.length : Int) := by omega
    have HA0 := Lib.hid (HAW.out w (Below.refl _ _))
    clear hD hn hG HAW
    unfold maxLen at hl
    go_enter Tryz.func3, Tryz.ntmps3
    go_wp2_with fail
    go_fit HA0.out
    rintro e w5 ⟨rfl, hb5⟩
    have HN := Lib.hid hb5
    clear hb5
    go_wp2
    go_ret
    exact ⟨rfl, HN.out⟩
  have f3 : decide ((3000 : Int) < (l.length : Int)) = false := by simp; omega
  have g3 : ¬ (3000 : Int) < (l.length : Int) := by omega
  have HFD := Lib.hid (few_any ss fs A c w hD.row)
  have HPA := Lib.hid (parse_u l w hl hG.1)
  have HPB := Lib.hid fun W => rParse_u l W h3
  have HRE := Lib.hid fun (hs : Small fs) => hD.rowE hn hs
  have HSV := Lib.hid fun (hs : Small fs) => hD.setV hn hs
  have HFR := Lib.hid fun (hs : Small fs) => hD.row.small hs
  have HVA := Lib.hid hD.vals
  have HG := Lib.hid hG
  clear hD hn hG
  unfold maxLen at hl
  go_enter Tryz.func3, Tryz.ntmps3
  go_wp2_with fail
  go_fit HFD.out
  rintro e w4 ⟨⟨q, rfl, hq⟩, rfl⟩
  have HQ := Lib.hid hq
  clear hq HFD
  cases q
  · have HA0 := Lib.hid (HAW.out w (Below.refl _ _))
    go_wp2_with fail
    go_fit HA0.out
    rintro e w5 ⟨rfl, hb5⟩
    have HN := Lib.hid hb5
    clear hb5
    go_wp2
    go_ret
    exact ⟨rfl, HN.out⟩
  have hsm : Small fs := HQ.out (by first | rfl | trivial)
  have h80 := hsm.1
  obtain ⟨T, hT⟩ := fmt_fix fs
  have HFV := Lib.hid (small_fewV hsm HVA.out)
  have HT := Lib.hid hT
  have HSM := Lib.hid hsm
  have HR1 := Lib.hid (HRE.out hsm)
  have HS1 := Lib.hid (HSV.out hsm)
  have HFW := Lib.hid (HFR.out hsm)
  clear hT hsm HRE HSV HFR HVA HQ
  go_wp2_with fail
  go_fit HPA.out
  rintro e w1 ⟨A1, c1, x, y, er, f1, rfl, h1, h2, h4, h5⟩
  have HV1 := Lib.hid h1
  have HP1 := Lib.hid h4
  have HB1 := Lib.hid h5
  clear h1 h4 h5 HPA
  go_wp2_with fail
  go_fit (HPB.out _)
  rintro e w2 ⟨A2, c2, x2, y2, er2, f2, rfl, h1, h2b, h4, h5⟩
  obtain ⟨e1, e2, e3, e4⟩ := HP1.out.same h4
  subst e1 e2 e3 e4
  have HV2 := Lib.hid h1
  have HKF := Lib.hid (okF_kinds HP1.out.okF)
  have hfx : w2.heap[w1.heap.size]? = some (.cells #[.int .i64 x, .int .i64 y] 26 (0, 0)) := (h5.block _ (by simp)).trans (heap_alloc_new w1 _)
  have HBA := Lib.hid (bel_lit (Below.refl w1.heap.size w1) (.cells #[.int .i64 x, .int .i64 y] 26))
  have HB2 := Lib.hid (bel_next (bel_next HB1.out HBA.out) h5)
  have HV1' := Lib.hid (show ∃ ss, SetV w2 (.slice A1 f1.length c1) ss f1 from by obtain ⟨s1, hs1⟩ := HV1.out; exact ⟨s1, (hs1.next HBA.out).next h5⟩)
  have hBL := bel_lit (Below.refl w2.heap.size w2) (.cells #[.int .i64 x, .int .i64 y] 26)
  have hfy : (w2.alloc (.cells #[.int .i64 x, .int .i64 y] 26)).heap[w2.heap.size]? = some (.cells #[.int .i64 x, .int .i64 y] 26 (0, 0)) := heap_alloc_new w2 _
  have hfx2 := (hBL.block _ (heap_lt hfx)).trans hfx
  have hb3 := bel_next HB2.out hBL
  have hv1 : ∃ ss, SetV (w2.alloc (.cells #[.int .i64 x, .int .i64 y] 26)) (.slice A1 f1.length c1) ss f1 := by
    obtain ⟨s1, hs1⟩ := HV1'.out
    exact ⟨s1, hs1.next hBL⟩
  have hv2 : ∃ ss, SetV (w2.alloc (.cells #[.int .i64 x, .int .i64 y] 26)) (.slice A2 f1.length c2) ss f1 := by
    obtain ⟨s1, hs1⟩ := HV2.out
    exact ⟨s1, hs1.next hBL⟩
  go_upto_region 5 with fail
  clear hBL HBA HB1 HB2 HV1 HV1' HV2 h5 hfx h1 h4 h2b HPB
  generalize w2.alloc (.cells #[.int .i64 x, .int .i64 y] 26) = W3 at *
  generalize w2.heap.size = N9 at *
  generalize w1.heap.size = N6 at *
  have x0 : W3.cell? ⟨N6, 0, none⟩ = some (.int .i64 x) := by rw [Lib.cell_of_heap hfx2]; rfl
  have x1 : W3.cell? ⟨N6, 1, none⟩ = some (.int .i64 y) := by rw [Lib.cell_of_heap hfx2]; rfl
  have y0 : W3.cell? ⟨N9, 0, none⟩ = some (.int .i64 x) := by rw [Lib.cell_of_heap hfy]; rfl
  have y1 : W3.cell? ⟨N9, 1, none⟩ = some (.int .i64 y) := by rw [Lib.cell_of_heap hfy]; rfl
  have HB3 := Lib.hid hb3
  have HV1 := Lib.hid hv1
  have HV2 := Lib.hid hv2
  have KSM := Lib.hid fun W (hW : Below W3.heap.size W3 W) => sameU (.slice A1 f1.length c1) (.slice A2 f1.length c2) f1 W (by obtain ⟨s1, hs1⟩ := HV1.out; exact ⟨s1, hs1.next hW⟩) (by obtain ⟨s1, hs1⟩ := HV2.out; exact ⟨s1, hs1.next hW⟩) (by omega) HKF.out
  have KCP := Lib.hid fun W (hW : Below W3.heap.size W3 W) => copyFacts_any A c ss fs W (HFW.out.next (Nat.le_refl _) (bel_next HB3.out hW)) (by omega) (fun f hf => by have := (HSM.out.2 f hf).args; omega)
  have KFM := Lib.hid fun v W (hW : Below W3.heap.size W3 W) (hv : ∃ ss, SetV W v ss fs) => (fformat_u v fs W hv (by omega) HFV.out (fun f hf => by have := (HSM.out.2 f hf).args; omega) (HG.out.2.next (bel_next HB3.out hW))).mono (FmtU.fix HT.out)
  have KRF := Lib.hid fun W (hW : Below W3.heap.size W3 W) => (rFormat_u W HR1.out (bel_next HB3.out hW) (by omega) HFV.out).mono (FmtU.fix HT.out)
  have KAW := Lib.hid fun W (hW : Below W3.heap.size W3 W) => HAW.out W (bel_next HB3.out hW)
  have HKS : Hid (∀ W W' : World, (Below W3.heap.size W3 W ∧ W.cell? ⟨N6, 0, none⟩ = some (.int .i64 x) ∧ W.cell? ⟨N6, 1, none⟩ = some (.int .i64 y) ∧ W.cell? ⟨N9, 0, none⟩ = some (.int .i64 x) ∧ W.cell? ⟨N9, 1, none⟩ = some (.int .i64 y)) → Below W.heap.size W W' →
      (Below W3.heap.size W3 W' ∧ W'.cell? ⟨N6, 0, none⟩ = some (.int .i64 x) ∧ W'.cell? ⟨N6, 1, none⟩ = some (.int .i64 y) ∧ W'.cell? ⟨N9, 0, none⟩ = some (.int .i64 x) ∧ W'.cell? ⟨N9, 1, none⟩ = some (.int .i64 y))) := Lib.hid fun W W' h hb => by
    obtain ⟨h0, h1, h2, h3, h4⟩ := h
    have key : ∀ {N j : Nat} {v : Value}, W.cell? ⟨N, j, none⟩ = some v → W'.cell? ⟨N, j, none⟩ = some v := fun {N j v} h => (hb.cell (p := ⟨N, j, none⟩) (World.block_lt_of_cell? W _ h)).trans h
    exact ⟨bel_next h0 hb, key h1, key h2, key h3, key h4⟩
  clear hv1 hv2 hb3 hfx2 hfy HAW HP1 HKF HV1 HV2 HR1 HS1 HFW HFV HT HG hsz f3 g3 h3 hl h80 HSM
  have hS3 : (Below W3.heap.size W3 W3 ∧ W3.cell? ⟨N6, 0, none⟩ = some (.int .i64 x) ∧ W3.cell? ⟨N6, 1, none⟩ = some (.int .i64 y) ∧ W3.cell? ⟨N9, 0, none⟩ = some (.int .i64 x) ∧ W3.cell? ⟨N9, 1, none⟩ = some (.int .i64 y)) := ⟨Below.refl _ _, x0, x1, y0, y1⟩
  clear x0 x1 y0 y1
  go_wp2_with fail
  go_fit (KSM.out _ (Below.refl _ _))
  rintro e w5 ⟨rfl, hbn⟩
  obtain ⟨hb5, x0, x1, y0, y1⟩ := HKS.out _ _ hS3 hbn
  have HB5 := Lib.hid hb5
  clear hb5 hbn hS3 KSM HKS
  go_wp2_with fail
  go_fit (KCP.out _ HB5.out)
  rintro e w6 ⟨A3, c3, s3, rfl, hv3, hd1, hd2, hd3, hbc⟩
  have HB6 := Lib.hid (bel_next HB5.out hbc)
  have HV3 := Lib.hid (show ∃ ss, SetV w6 (.slice A3 fs.length c3) ss fs from ⟨s3, hv3⟩)
  clear hv3 hd1 hd2 hd3 hbc KCP x0 x1 y0 y1
  go_wp2_with fail
  go_fit (KFM.out _ _ HB6.out HV3.out)
  rintro e w7 ⟨rfl, hbm⟩
  have HB7 := Lib.hid (bel_next HB6.out hbm)
  clear hbm KFM HV3
  go_wp2_with fail
  go_fit (KRF.out _ HB7.out)
  rintro e w8 ⟨rfl, hbm⟩
  have HB8 := Lib.hid (bel_next HB7.out hbm)
  clear hbm KRF
  go_wp2_with fail
  go_fit (KAW.out _ HB8.out)
  rintro e w9 ⟨rfl, hbm⟩
  have HN := Lib.hid (bel_next HB3.out (bel_next HB8.out hbm))
  clear hbm KAW
  go_wp2
  go_ret
  exact ⟨rfl, HN.out⟩
end Go.Proofs.YtmodjokoggmnaaaGreatDoor


namespace Go.Proofs.YtmodjokoggmnaaaGreatDoor
open Go.RowKit Go.Shelf

theorem rSet_u {w0 : World} {A : Option Addr} {c : Nat} {fs : List GFact} (w : World) (he : ∃ es : List (Elem w0), FactsE es = fs ∧ RowE w0 A c es) (hb : Below w0.heap.size w0 w) (hn : fs.length ≤ 990000) :
    Calls Tryz.prog 14 #[.slice A fs.length c] w fun e w' => ∃ A', ∃ c' : Nat, ∃ fs' : List GFact, e = .returned (.slice A' fs'.length c') ∧ (∃ ss, SetV w' (.slice A' fs'.length c') ss fs') ∧ StrictF fs' ∧ (∀ f, f ∈ fs' ↔ f ∈ fs) ∧ Below w.heap.size w w' := by
  obtain ⟨es, he, hr⟩ := he
  have hl : es.length = fs.length := by rw [← he]; simp [FactsE]
  rw [← hl]
  refine (rSet_any es A c w hb (hr.next hb) (by omega)).mono ?_
  rintro e w' ⟨A', c', es', rfl, h1, h2, h3, h4, h5⟩
  have hl2 : (FactsE es').length = es'.length := by simp [FactsE]
  exact ⟨A', c', FactsE es', by rw [hl2], ⟨_, by rw [hl2]; exact h1.setV (bel_next hb h5)⟩, h2, fun f => by rw [h3 f, he], h5⟩
theorem allF_snoc {fs : List GFact} {k : Nat} (h : k < fs.length) : (fs.take (k + 1)).all gwfF = ((fs.take k).all gwfF && gwfF fs[k]) := by
  rw [List.take_succ_eq_append_getElem h, List.all_append]
  simp
theorem all_mem {a b : List GFact} (h : ∀ f, f ∈ a ↔ f ∈ b) : a.all gwfF = b.all gwfF := by
  rw [Bool.eq_iff_iff, List.all_eq_true, List.all_eq_true]
  exact ⟨fun h1 f hf => h1 f ((h f).2 hf), fun h1 f hf => h1 f ((h f).1 hf)⟩
theorem small_weight {fs fs' : List GFact} (hs : Small fs) (hw : ∀ f ∈ fs, ∀ v ∈ f.args, -9223372036854775808 ≤ v.int ∧ v.int ≤ 9223372036854775807) (hst : StrictF fs') (hm : ∀ f, f ∈ fs' ↔ f ∈ fs) (hq : fs.all gwfF = true) : (∀ f ∈ fs', OkF f) ∧ weight fs' ≤ 2340 := by
  have h1 : ∀ f ∈ fs, OkF f := fun f hf => by
    have hg := List.all_eq_true.1 hq f hf
    refine ⟨hg, fun v hv => ⟨?_, hw f hf v hv⟩⟩
    simp only [gwfF, Bool.and_eq_true] at hg
    exact List.all_eq_true.1 hg.2 v hv
  refine ⟨fun f hf => h1 f ((hm f).1 hf), ?_⟩
  have h2 := weight_sub fs' fs (strict_count hst) fun f hf => (hm f).1 hf
  have h3 : ∀ l : List GFact, (∀ f ∈ l, OkF f) → weight l ≤ l.length * 9 := by
    intro l
    induction l with
    | nil => intro _; exact Nat.le_refl _
    | cons f r ih =>
      intro h
      have := ih fun x hx => h x (List.mem_cons_of_mem _ hx)
      have h8 := (okF_parts (h f List.mem_cons_self)).2.2.2
      rw [weight_cons, List.length_cons]
      omega
  have := h3 fs h1
  have := hs.1
  omega
set_option maxRecDepth 50000 in
set_option maxHeartbeats 2000000 in
theorem trip_any (A : Option Addr) (c : Nat) (ss : List SFact) (fs : List GFact) (l : List UInt8) (w : World) (hD : IsFacts w A fs.length c ss fs) (hn : A = none → c = 0) (hl : l.length ≤ maxLen) (hG : Glob2 w) :
    Calls Tryz.prog 4 #[.slice A fs.length c, .string ⟨l.toArray⟩] w fun e w' => e = .returned (.bool true) ∧ Below w.heap.size w w' := by
  have hsz : (⟨l.toArray⟩ : ByteArray).size = l.length := ba_size l
  have HAW := Lib.hid fun W (hW : Below w.heap.size w W) => awake_any W (hG.next hW)
  have hnot : ∀ (x : Bool) (w : World), (Op.unary .not (.bool x)).run Tryz.prog w = .ok (.bool (!x)) w := fun _ _ => rfl
  have HFD := Lib.hid (few_any ss fs A c w hD.row)
  have HRE := Lib.hid fun (hs : Small fs) => hD.rowE hn hs
  have HSV := Lib.hid fun (hs : Small fs) => hD.setV hn hs
  have HFR := Lib.hid fun (hs : Small fs) => hD.row.small hs
  have HVA := Lib.hid hD.vals
  have HG := Lib.hid hG
  have HLM := Lib.hid hl
  clear hD hn hG
  unfold maxLen at hl
  go_enter Tryz.func4, Tryz.ntmps4
  go_wp2_with fail
  go_fit HFD.out
  rintro e w4 ⟨⟨q, rfl, hq⟩, rfl⟩
  have HQ := Lib.hid hq
  clear hq HFD
  cases q
  · have HA0 := Lib.hid (HAW.out w (Below.refl _ _))
    go_wp2_with fail
    go_fit HA0.out
    rintro e w5 ⟨rfl, hb5⟩
    have HN := Lib.hid hb5
    clear hb5
    go_wp2
    go_ret
    exact ⟨rfl, HN.out⟩
  have hsm : Small fs := HQ.out (by first | rfl | trivial)
  have h80 := hsm.1
  have HFV := Lib.hid (small_fewV hsm HVA.out)
  have HSM := Lib.hid hsm
  have HR1 := Lib.hid (HRE.out hsm)
  have HS1 := Lib.hid (HSV.out hsm)
  have HF1 := Lib.hid (HFR.out hsm)
  clear hsm HRE HSV HFR HQ
  by_cases h3 : l.length ≤ 2000
  case neg =>
    have f3 : decide ((2000 : Int) < (l.length : Int)) = true := by simp; omega
    have g3 : (2000 : Int) < (l.length : Int) := by omega
    have HA0 := Lib.hid (HAW.out w (Below.refl _ _))
    go_wp2_with fail
    go_fit HA0.out
    rintro e w5 ⟨rfl, hb5⟩
    have HN := Lib.hid hb5
    clear hb5
    go_wp2
    go_ret
    exact ⟨rfl, HN.out⟩
  have f3 : decide ((2000 : Int) < (l.length : Int)) = false := by simp; omega
  have g3 : ¬ (2000 : Int) < (l.length : Int) := by omega
  go_wp2
  go_loopw [5, 6] (fun vr vi wr => ∃ k : Nat, vr = .bool ((fs.take k).all gwfF) ∧ vi = .int .i64 k ∧ k ≤ fs.length ∧ Hid (Below w.heap.size w wr)) (fun _ vi _ => fs.length - (intOf vi).toNat)
  case atStart => exact ⟨0, rfl, rfl, Nat.zero_le _, Lib.hid (Below.refl _ _)⟩
  case round =>
    obtain ⟨k, rfl, rfl, hk, HW⟩ := hrel
    rcases Nat.lt_or_ge k fs.length with hlt | hge
    · have hls : k < ss.length := by have := HF1.out.len; omega
      have HFW := Lib.hid (HF1.out.next (Nat.le_refl _) HW.out)
      obtain ⟨b1, o1, rfl, hb1, x0, x1⟩ := HFW.out.row.fact2 hls
      have hold := HFW.out.each k hls hlt
      have hfv := HFV.out _ (List.getElem_mem hlt)
      have HSN := Lib.hid (allF_snoc hlt)
      have HRI := Lib.hid (rRight_any fs[k] ss[k] wr hold hfv.1 (fun v hv => (hfv.2 v hv).1))
      generalize fs[k] = y at *
      generalize ss[k] = sy at *
      generalize hq : (fs.take k).all gwfF = q at *
      generalize gwfF y = g at *
      obtain ⟨sr, sA, sn, sc⟩ := sy
      simp only at x0 x1 HRI
      clear hold hfv
      cases q
      · have HQ2 : Hid ((fs.take (k + 1)).all gwfF = false) := Lib.hid (by rw [HSN.out]; rfl)
        clear hq
        go_wp2
        go_roundw
        case rel => exact ⟨k + 1, by rw [HQ2.out], by go_num, by omega, HW⟩
        case measure => simp [intOf]; omega
      · have HQ2 : Hid ((fs.take (k + 1)).all gwfF = g) := Lib.hid (by rw [HSN.out]; rfl)
        clear hq
        go_wp2_with fail
        go_fit HRI.out
        rintro e w5 ⟨rfl, hb5⟩
        have HN := Lib.hid (bel_next HW.out hb5)
        clear hb5
        go_wp2
        go_roundw
        case rel => exact ⟨k + 1, by rw [HQ2.out], by go_num, by omega, HN⟩
        case measure => simp [intOf]; omega
    · obtain hkk : k = fs.length := by omega
      subst hkk
      rw [List.take_length]
      generalize hq : fs.all gwfF = q
      have HFM := Lib.hid (fformat_u (.slice A fs.length c) fs wr ⟨_, HS1.out.next HW.out⟩ (by omega) HFV.out (fun f hf => by have := (HSM.out.2 f hf).args; omega) (HG.out.2.next HW.out))
      go_wp2_with fail
      go_fit HFM.out
      rintro e w5 ⟨fs2, rfl, hst, hme, hb5⟩
      have HB5 := Lib.hid (bel_next HW.out hb5)
      have HST := Lib.hid hst
      have HME := Lib.hid hme
      clear hst hme hb5 HFM
      cases q
      · have hnil : fmtT fs2 = [] := by
          unfold fmtT
          rw [if_neg]
          rw [all_mem HME.out, hq]
          simp
        rw [hnil]
        have HBT := HB5
        clear hnil hq HST HME
        have HPL := Lib.hid (parse_u l w5 HLM.out (HG.out.1.next HBT.out))
        go_wp2_with fail
        go_fit HPL.out
        rintro e w9 ⟨A3, c3, x3, y3, e3, f3, rfl, t1, t2, t4, t5⟩
        have HB9 := Lib.hid (bel_next HBT.out t5)
        have HV9 := Lib.hid t1
        have HIP := Lib.hid t4
        clear t1 t4 t5 HPL
        by_cases he : e3 = 0
        · subst he
          obtain ⟨fs3, g1, g2, g4⟩ := HIP.out.ok.1 rfl
          obtain ⟨b1, b2, b3, b4⟩ := back_ok g1 h3 g2 g4
          have HOK := Lib.hid b1
          have HST3 := Lib.hid g2
          have HPA := Lib.hid b2
          have HFA := Lib.hid fun W (hW : Below w9.heap.size w9 W) => fformat_u (.slice A3 f3.length c3) f3 W (by obtain ⟨s1, hs1⟩ := HV9.out; exact ⟨s1, hs1.next hW⟩) (by omega) (okF_fewV HOK.out).1 (fun f hf => by have := (okF_fewV HOK.out).2 f hf; omega) (HG.out.2.next (bel_next HB9.out hW))
          have HBP := Lib.hid (bel_lit (Below.refl w9.heap.size w9) (.cells #[.int .i64 x3, .int .i64 y3] 26))
          clear g1 g2 g4 b1 b2 HIP
          go_wp2_with fail
          go_fit (HFA.out _ HBP.out)
          rintro e w10 ⟨f4, rfl, s1, s2, s3⟩
          have hf4 : f4 = f3 := strict_ext _ _ s1 HST3.out s2
          subst hf4
          have HB10 := Lib.hid (bel_next (bel_next HB9.out HBP.out) s3)
          have HV10 := Lib.hid (show ∃ ss, SetV w10 (.slice A3 f4.length c3) ss f4 from by obtain ⟨s1, hs1⟩ := HV9.out; exact ⟨s1, (hs1.next HBP.out).next s3⟩)
          clear s1 s2 s3 HFA HBP HV9
          generalize fmtT f4 = tx3 at *
          have HPT := Lib.hid (parse_u tx3 w10 (by unfold maxLen; omega) (HG.out.1.next HB10.out))
          go_wp2_with fail
          go_fit HPT.out
          rintro e w11 ⟨A5, c5, x5, y5, e5, f5, rfl, v1, v2, v4, v5⟩
          have h4 := v4
          unfold IsParse at h4
          rw [HPA.out] at h4
          simp only at h4
          obtain ⟨hx5, hy5, he5, h6, h7⟩ := h4
          subst hx5 hy5 he5
          have hf5 : f5 = f4 := strict_ext _ _ h6 HST3.out h7
          subst hf5
          have HB11 := Lib.hid (bel_next HB10.out v5)
          have HV11 := Lib.hid (show ∃ ss, SetV w11 (.slice A3 f5.length c3) ss f5 from by obtain ⟨s1, hs1⟩ := HV10.out; exact ⟨s1, hs1.next v5⟩)
          have HV12 := Lib.hid v1
          have HSA := Lib.hid fun W (hW : Below w11.heap.size w11 W) => sameU (.slice A3 f5.length c3) (.slice A5 f5.length c5) f5 W (by obtain ⟨s1, hs1⟩ := HV11.out; exact ⟨s1, hs1.next hW⟩) (by obtain ⟨s1, hs1⟩ := HV12.out; exact ⟨s1, hs1.next hW⟩) (by omega) (okF_kinds HOK.out)
          have HBQ := Lib.hid (bel_lit (Below.refl w11.heap.size w11) (.cells #[.int .i64 0, .int .i64 0] 26))
          clear h6 h7 v1 v4 v5 HPT HPA HV10 HV11 HV12
          go_wp2_with fail
          go_fit (HSA.out _ HBQ.out)
          rintro e w12 ⟨rfl, s3⟩
          have HB12 := Lib.hid (bel_next (bel_next HB11.out HBQ.out) s3)
          have HA0 := Lib.hid (HAW.out w12 HB12.out)
          clear s3 HSA HBQ
          go_wp2_with fail
          go_fit HA0.out
          rintro e w13 ⟨rfl, s3⟩
          have HN := Lib.hid (bel_next HB12.out s3)
          clear s3 HA0
          go_wp2
          go_ret
          exact ⟨rfl, HN.out⟩
        · have hf3 := HIP.out.ok.2 he
          subst hf3
          have f9 : (e3 != 0) = true := by simp [he]
          have HBP := Lib.hid (bel_lit (Below.refl w9.heap.size w9) (.cells #[.int .i64 x3, .int .i64 y3] 26))
          have HA0 := Lib.hid (HAW.out _ (bel_next HB9.out HBP.out))
          clear he
          go_wp2_with fail
          go_fit HA0.out
          rintro e w13 ⟨rfl, s3⟩
          have HN := Lib.hid (bel_next (bel_next HB9.out HBP.out) s3)
          clear s3 HA0
          go_wp2
          go_ret
          exact ⟨rfl, HN.out⟩
      · obtain ⟨hok, hwt⟩ := small_weight HSM.out HVA.out HST.out HME.out hq
        obtain ⟨hp, hpl⟩ := pAll_fmt hok hwt
        have HOK1 := Lib.hid hok
        have HPA1 := Lib.hid hp
        clear hok hp hwt hq
        generalize fmtT fs2 = tx at *
        have HP1 := Lib.hid (parse_u tx w5 (by unfold maxLen; omega) (HG.out.1.next HB5.out))
        go_wp2_with fail
        go_fit HP1.out
        rintro e w6 ⟨A1, c1, x, y, er, f1, rfl, h1, h2, h4, h5⟩
        unfold IsParse at h4
        rw [HPA1.out] at h4
        simp only at h4
        obtain ⟨hx5, hy5, he5, h6, h7⟩ := h4
        subst hx5 hy5 he5
        have hf5 : f1 = fs2 := strict_ext _ _ h6 HST.out h7
        subst hf5
        have HB6 := Lib.hid (bel_next HB5.out h5)
        have HV6 := Lib.hid h1
        have HBQ := Lib.hid (bel_lit (Below.refl w6.heap.size w6) (.cells #[.int .i64 0, .int .i64 0] 26))
        have HSE := Lib.hid (rSet_u (w6.alloc (.cells #[.int .i64 0, .int .i64 0] 26)) HR1.out (bel_next HB6.out HBQ.out) (by omega))
        clear h1 h5 h6 h7 HP1 HPA1
        go_wp2_with fail
        go_fit HSE.out
        rintro e w7 ⟨A2, c2, f2, rfl, h8, h9, h10, h11⟩
        have hf2 : f2 = f1 := FmtU.same h9 h10 HST.out HME.out
        subst hf2
        have HB7 := Lib.hid (bel_next (bel_next HB6.out HBQ.out) h11)
        have HSA := Lib.hid (sameU (.slice A1 f2.length c1) (.slice A2 f2.length c2) f2 w7 (by obtain ⟨s1, hs1⟩ := HV6.out; exact ⟨s1, (hs1.next HBQ.out).next h11⟩) h8 (by omega) (okF_kinds HOK1.out))
        clear h8 h9 h10 h11 HSE HV6 HBQ HST HME
        go_wp2_with fail
        go_fit HSA.out
        rintro e w8 ⟨rfl, h12⟩
        have HBT := Lib.hid (bel_next HB7.out h12)
        clear h12 HSA
        have HPL := Lib.hid (parse_u l w8 HLM.out (HG.out.1.next HBT.out))
        go_wp2_with fail
        go_fit HPL.out
        rintro e w9 ⟨A3, c3, x3, y3, e3, f3, rfl, t1, t2, t4, t5⟩
        have HB9 := Lib.hid (bel_next HBT.out t5)
        have HV9 := Lib.hid t1
        have HIP := Lib.hid t4
        clear t1 t4 t5 HPL
        by_cases he : e3 = 0
        · subst he
          obtain ⟨fs3, g1, g2, g4⟩ := HIP.out.ok.1 rfl
          obtain ⟨b1, b2, b3, b4⟩ := back_ok g1 h3 g2 g4
          have HOK := Lib.hid b1
          have HST3 := Lib.hid g2
          have HPA := Lib.hid b2
          have HFA := Lib.hid fun W (hW : Below w9.heap.size w9 W) => fformat_u (.slice A3 f3.length c3) f3 W (by obtain ⟨s1, hs1⟩ := HV9.out; exact ⟨s1, hs1.next hW⟩) (by omega) (okF_fewV HOK.out).1 (fun f hf => by have := (okF_fewV HOK.out).2 f hf; omega) (HG.out.2.next (bel_next HB9.out hW))
          have HBP := Lib.hid (bel_lit (Below.refl w9.heap.size w9) (.cells #[.int .i64 x3, .int .i64 y3] 26))
          clear g1 g2 g4 b1 b2 HIP
          go_wp2_with fail
          go_fit (HFA.out _ HBP.out)
          rintro e w10 ⟨f4, rfl, s1, s2, s3⟩
          have hf4 : f4 = f3 := strict_ext _ _ s1 HST3.out s2
          subst hf4
          have HB10 := Lib.hid (bel_next (bel_next HB9.out HBP.out) s3)
          have HV10 := Lib.hid (show ∃ ss, SetV w10 (.slice A3 f4.length c3) ss f4 from by obtain ⟨s1, hs1⟩ := HV9.out; exact ⟨s1, (hs1.next HBP.out).next s3⟩)
          clear s1 s2 s3 HFA HBP HV9
          generalize fmtT f4 = tx3 at *
          have HPT := Lib.hid (parse_u tx3 w10 (by unfold maxLen; omega) (HG.out.1.next HB10.out))
          go_wp2_with fail
          go_fit HPT.out
          rintro e w11 ⟨A5, c5, x5, y5, e5, f5, rfl, v1, v2, v4, v5⟩
          have h4 := v4
          unfold IsParse at h4
          rw [HPA.out] at h4
          simp only at h4
          obtain ⟨hx5, hy5, he5, h6, h7⟩ := h4
          subst hx5 hy5 he5
          have hf5 : f5 = f4 := strict_ext _ _ h6 HST3.out h7
          subst hf5
          have HB11 := Lib.hid (bel_next HB10.out v5)
          have HV11 := Lib.hid (show ∃ ss, SetV w11 (.slice A3 f5.length c3) ss f5 from by obtain ⟨s1, hs1⟩ := HV10.out; exact ⟨s1, hs1.next v5⟩)
          have HV12 := Lib.hid v1
          have HSA := Lib.hid fun W (hW : Below w11.heap.size w11 W) => sameU (.slice A3 f5.length c3) (.slice A5 f5.length c5) f5 W (by obtain ⟨s1, hs1⟩ := HV11.out; exact ⟨s1, hs1.next hW⟩) (by obtain ⟨s1, hs1⟩ := HV12.out; exact ⟨s1, hs1.next hW⟩) (by omega) (okF_kinds HOK.out)
          have HBQ := Lib.hid (bel_lit (Below.refl w11.heap.size w11) (.cells #[.int .i64 0, .int .i64 0] 26))
          clear h6 h7 v1 v4 v5 HPT HPA HV10 HV11 HV12
          go_wp2_with fail
          go_fit (HSA.out _ HBQ.out)
          rintro e w12 ⟨rfl, s3⟩
          have HB12 := Lib.hid (bel_next (bel_next HB11.out HBQ.out) s3)
          have HA0 := Lib.hid (HAW.out w12 HB12.out)
          clear s3 HSA HBQ
          go_wp2_with fail
          go_fit HA0.out
          rintro e w13 ⟨rfl, s3⟩
          have HN := Lib.hid (bel_next HB12.out s3)
          clear s3 HA0
          go_wp2
          go_ret
          exact ⟨rfl, HN.out⟩
        · have hf3 := HIP.out.ok.2 he
          subst hf3
          have f9 : (e3 != 0) = true := by simp [he]
          have HBP := Lib.hid (bel_lit (Below.refl w9.heap.size w9) (.cells #[.int .i64 x3, .int .i64 y3] 26))
          have HA0 := Lib.hid (HAW.out _ (bel_next HB9.out HBP.out))
          clear he
          go_wp2_with fail
          go_fit HA0.out
          rintro e w13 ⟨rfl, s3⟩
          have HN := Lib.hid (bel_next (bel_next HB9.out HBP.out) s3)
          clear s3 HA0
          go_wp2
          go_ret
          exact ⟨rfl, HN.out⟩
end Go.Proofs.YtmodjokoggmnaaaGreatDoor
