/-
  The law FactLaws returns true.
  Conditions: the facts are facts of the language; strconv.ErrRange and the table of powers of ten lie as the program's start lays them.
  The reference's add and Set: strictly ascending lists of facts.
  Conditions: at most 1000 facts; kinds are ints of the language.
-/
import Derived.Test.YtolkceibbefhfaaGreatDoorMa34
import Derived.Test.YtolkceibbefhfaaGreatDoorMa37
import Derived.Test.YtolkceibbefhfaaGreatDoorMa33
namespace Go.Proofs.YtolkceibbefhfaaGreatDoor
open Go.RowKit Go.Shelf

theorem FRow0.next {w w' : World} {A : Option Addr} {ss : List SFact} {fs : List GFact} (h : FRow0 w w.heap.size A ss fs) (hb : Below w.heap.size w w') : FRow0 w' w'.heap.size A ss fs :=
  ⟨h.row.next hb, h.len, fun i h1 h2 => (h.each i h1 h2).next (Nat.le_refl _) hb⟩
theorem two_row (W : World) {sa sb : SFact} {a b : GFact} (ha : FHold0 W W.heap.size sa a) (hb : FHold0 W W.heap.size sb b) :
    FRow0 (W.alloc (.cells #[.string ⟨sa.rel.toArray⟩, .slice sa.A sa.n sa.c, .string ⟨sb.rel.toArray⟩, .slice sb.A sb.n sb.c] 25)) (W.alloc (.cells #[.string ⟨sa.rel.toArray⟩, .slice sa.A sa.n sa.c, .string ⟨sb.rel.toArray⟩, .slice sb.A sb.n sb.c] 25)).heap.size (some ⟨W.heap.size, 0, none⟩) [sa, sb] [a, b] := by
  have hl := bel_lit (Below.refl W.heap.size W) (.cells #[.string ⟨sa.rel.toArray⟩, .slice sa.A sa.n sa.c, .string ⟨sb.rel.toArray⟩, .slice sb.A sb.n sb.c] 25)
  refine ⟨GRow.lit SFact.len W 25 [sa, sb] _ rfl (by unfold maxLen; simp), rfl, fun i h1 h2 => ?_⟩
  have h1' : i < 2 := h1
  match i, h1' with
  | 0, _ => exact ha.next (Nat.le_refl _) hl
  | 1, _ => exact hb.next (Nat.le_refl _) hl
def errOf (p : Bool) : Int := if p then 0 else 63
/-- Insert, whether or not the fact is well formed. -/
def InsB (fs : List GFact) (f : GFact) (n : Nat) (p : Bool) (w : World) (e : Ending) (w' : World) : Prop :=
  (∃ A, ∃ c : Nat, ∃ fs' : List GFact, e = .returned (.tuple #[.slice A fs'.length c, .int .i64 (errOf p)]) ∧ (p = true → SetL w' (.slice A fs'.length c) fs' (n + 1) ∧ StrictF fs' ∧ (∀ g, g ∈ fs' ↔ g ∈ fs ∨ g = f))) ∧ Below w.heap.size w w'
theorem insertB (v : Value) (fs : List GFact) (n : Nat) (s : SFact) (f : GFact) (w : World) (hS : SetL w v fs n) (hn : n ≤ 1000) (hf : FactS w s f) (hP : Pow w) :
    Calls Tryz.prog 9 #[v, .agg #[.string ⟨s.rel.toArray⟩, .slice s.A s.n s.c]] w (InsB fs f n (gwfF f) w) := by
  refine (insertG v fs n s f w hS hn hf hP).mono ?_
  rintro e w' (⟨h1, rfl, h2⟩ | ⟨h1, A, c, fs', rfl, h3, h4, h5, h6⟩)
  · rw [h1]
    exact ⟨⟨none, 0, [], rfl, fun h => by cases h⟩, h2⟩
  · rw [h1]
    exact ⟨⟨A, c, fs', rfl, fun _ => ⟨h3, h4, h5⟩⟩, h6⟩
/-- What the walk carries from world to world. -/
structure LawE (n0 : Nat) (sf sg : SFact) (f g : GFact) (A : Option Addr) (c : Nat) (fs : List GFact) (w W : World) : Prop where
  bf : BoxF W n0 sf
  bg : BoxF W (n0 + 1) sg
  f : FactS W sf f
  g : FactS W sg g
  db : SetL W (.slice A fs.length c) fs 80
  glob : Glob2 W
  bel : Below w.heap.size w W
theorem LawE.next {n0 : Nat} {sf sg : SFact} {f g : GFact} {A : Option Addr} {c : Nat} {fs : List GFact} {w W W' : World} (h : LawE n0 sf sg f g A c fs w W) (hb : Below W.heap.size W W') : LawE n0 sf sg f g A c fs w W' :=
  ⟨h.bf.next hb, h.bg.next hb, h.f.next hb, h.g.next hb, h.db.next hb, h.glob.next hb, bel_next h.bel hb⟩
theorem IsFacts.setL {w : World} {A : Option Addr} {len c : Nat} {ss : List SFact} {fs : List GFact} (h : IsFacts w A len c ss fs) (hn : A = none → c = 0) (hs : Small fs) : SetL w (.slice A fs.length c) fs 80 := by
  have hr := h.row.small hs
  have hl := hr.len
  refine ⟨⟨ss, ?_, hl, hr.each⟩, hs.1, fun f hf => (hs.2 f hf).args, fun f hf v hv => ?_⟩
  · cases A with
    | none =>
      have h0 := hn rfl
      have hle := h.le
      have hcn := h.count
      have hs0 : ss = [] := List.eq_nil_of_length_eq_zero (by omega)
      have hf0 : fs.length = 0 := by omega
      exact .inl ⟨by rw [h0, hf0], hs0⟩
    | some ad => exact .inr ⟨ad, c, by rw [hl], hr.row⟩
  · obtain ⟨i, hi, rfl⟩ := List.getElem_of_mem hf
    exact ((h.each i (by omega) hi).wf v hv).kind
theorem FactS.of {w w' : World} {s : SFact} {f : GFact} (h : IsFact w s f) (hb : Below w.heap.size w w') (hs : SmallF f) : FactS w' s f := ⟨(h.hold.next (Nat.le_refl _) hb).small hs, hs, fun v hv => (h.wf v hv).kind⟩
set_option maxRecDepth 50000 in
set_option maxHeartbeats 1000000 in
theorem laws_any (A : Option Addr) (c : Nat) (ss : List SFact) (fs : List GFact) (sf sg : SFact) (f g : GFact) (w : World) (hD : IsFacts w A fs.length c ss fs) (hn : A = none → c = 0) (hf : IsFact w sf f) (hg : IsFact w sg g) (hG : Glob2 w) :
    Calls Tryz.prog 5 #[.slice A fs.length c, .agg #[.string ⟨sf.rel.toArray⟩, .slice sf.A sf.n sf.c], .agg #[.string ⟨sg.rel.toArray⟩, .slice sg.A sg.n sg.c]] w fun e w' => e = .returned (.bool true) ∧ Below w.heap.size w w' := by
  generalize hW2 : (w.alloc (objF sf)).alloc (objF sg) = W2
  have hb2 : Below w.heap.size w W2 := by rw [← hW2]; exact bel_lit (bel_lit (Below.refl _ _) _) _
  have bf : BoxF W2 w.heap.size sf := by rw [← hW2]; exact (BoxF.new w sf).alloc _
  have bg : BoxF W2 (w.heap.size + 1) sg := by rw [← hW2]; have := BoxF.new (w.alloc (objF sf)) sg; simpa using this
  have hs2 : W2.heap.size = w.heap.size + 1 + 1 := by rw [← hW2]; simp
  have HC2 := Lib.hid hb2
  have HFD := Lib.hid (few_any ss fs A c W2 (hD.row.next hb2))
  have HFT := Lib.hid (few_any [sf, sg] [f, g] _ 2 _ (two_row W2 (hf.hold.next (Nat.le_refl _) hb2) (hg.hold.next (Nat.le_refl _) hb2)))
  have HAW := Lib.hid fun W (hW : Below W2.heap.size W2 W) => awake_any W ((hG.next hb2).next hW)
  have HLIT := Lib.hid (bel_lit (Below.refl W2.heap.size W2) (.cells #[.string ⟨sf.rel.toArray⟩, .slice sf.A sf.n sf.c, .string ⟨sg.rel.toArray⟩, .slice sg.A sg.n sg.c] 25))
  have HE := Lib.hid fun (h1 : Small fs) (h2 : Small [f, g]) => show LawE w.heap.size sf sg f g A c fs w _ from LawE.next (W := W2) ⟨bf, bg, FactS.of hf hb2 (h2.2 f (by simp)), FactS.of hg hb2 (h2.2 g (by simp)), (hD.setL hn h1).next hb2, hG.next hb2, hb2⟩ HLIT.out
  have x0 := bf.c0
  have x1 := bf.c1
  have y0 := bg.c0
  have y1 := bg.c1
  clear hD hn hf hg hG hb2 bf bg
  obtain ⟨rf, Af, nf, cf⟩ := sf
  obtain ⟨rg, Ag, ng, cg⟩ := sg
  simp only [objF] at hW2
  simp only at x0 x1 y0 y1
  have hnot : ∀ (x : Bool) (w : World), (Op.unary .not (.bool x)).run Tryz.prog w = .ok (.bool (!x)) w := fun _ _ => rfl
  go_enter Tryz.func5, Tryz.ntmps5
  go_upto_region 1 with fail
  clear hW2
  rw [show [f, g].length = 2 from rfl, hs2] at HFT
  try simp only at HFT
  try simp only at HE
  go_wp2_with fail
  go_fit HFD.out
  rintro e w4 ⟨⟨q, rfl, hq⟩, rfl⟩
  have HQ := Lib.hid hq
  clear hq HFD
  cases q
  · have HA0 := Lib.hid (HAW.out W2 (Below.refl _ _))
    go_wp2_with fail
    go_fit HA0.out
    rintro e w5 ⟨rfl, hb5⟩
    have HN := Lib.hid (bel_next HC2.out hb5)
    clear hb5
    go_wp2
    go_ret
    exact ⟨rfl, HN.out⟩
  go_wp2_with fail
  go_fit HFT.out
  rintro e w4 ⟨⟨q, rfl, hq⟩, rfl⟩
  have HQ2 := Lib.hid hq
  clear hq HFT
  cases q
  · have HA0 := Lib.hid (HAW.out _ HLIT.out)
    have HN0 := Lib.hid (bel_next HC2.out HLIT.out)
    try simp only at HA0
    try simp only at HN0
    go_wp2_with fail
    go_fit HA0.out
    rintro e w5 ⟨rfl, hb5⟩
    have HN := Lib.hid (bel_next HN0.out hb5)
    clear hb5
    go_wp2
    go_ret
    exact ⟨rfl, HN.out⟩
  have he4 := HE.out (HQ.out (by first | rfl | trivial)) (HQ2.out (by first | rfl | trivial))
  clear HE HQ HQ2 HAW HLIT HC2 x0 x1 y0 y1
  generalize W2.alloc (.cells #[.string ⟨rf.toArray⟩, .slice Af nf cf, .string ⟨rg.toArray⟩, .slice Ag ng cg] 25) = W4 at *
  have HE4 := Lib.hid he4
  clear he4 hs2
  generalize hn0 : w.heap.size = n0 at *
  have HIN := Lib.hid fun W (h : LawE n0 ⟨rf, Af, nf, cf⟩ ⟨rg, Ag, ng, cg⟩ f g A c fs w W) => insertB _ fs 80 _ f W h.db (by omega) h.f h.glob.2
  have HIN2 := Lib.hid fun W (h : LawE n0 ⟨rf, Af, nf, cf⟩ ⟨rg, Ag, ng, cg⟩ f g A c fs w W) => insertB _ fs 80 _ g W h.db (by omega) h.g h.glob.2
  have HRF := Lib.hid fun W (h : LawE n0 ⟨rf, Af, nf, cf⟩ ⟨rg, Ag, ng, cg⟩ f g A c fs w W) => rRight_any f _ W h.f.hold (by have := h.f.small.rel; omega) (fun v hv => by have := h.f.small.word v hv; omega)
  have HRG := Lib.hid fun W (h : LawE n0 ⟨rf, Af, nf, cf⟩ ⟨rg, Ag, ng, cg⟩ f g A c fs w W) => rRight_any g _ W h.g.hold (by have := h.g.small.rel; omega) (fun v hv => by have := h.g.small.word v hv; omega)
  simp only at HIN HIN2 HRF HRG
  generalize hp : gwfF f = p at *
  generalize hq : gwfF g = q at *
  have HP := Lib.hid hp
  have HQ := Lib.hid hq
  have HN0 := Lib.hid hn0
  clear hp hq hn0
  have x0 := HE4.out.bf.c0
  have x1 := HE4.out.bf.c1
  have y0 := HE4.out.bg.c0
  have y1 := HE4.out.bg.c1
  simp only at x0 x1 y0 y1
  by_cases hpq : p = true ∧ q = true
  case neg =>
    cases p <;> cases q <;> first
    | (exfalso; exact hpq ⟨rfl, rfl⟩)
    | (clear hpq
       unfold InsB errOf at HIN HIN2
       simp only [if_true, if_false, Bool.false_eq_true] at HIN HIN2
       go_wp2_with fail
       go_fit (HIN.out _ HE4.out)
       rintro e w5 ⟨⟨Aa, ca, fa, rfl, _⟩, hb5⟩
       have HE5 := Lib.hid (HE4.out.next hb5)
       clear hb5
       clear x0 x1 y0 y1
       have x0 := HE5.out.bf.c0
       have x1 := HE5.out.bf.c1
       have y0 := HE5.out.bg.c0
       have y1 := HE5.out.bg.c1
       simp only at x0 x1 y0 y1
       go_wp2_with fail
       go_fit (HIN2.out _ HE5.out)
       rintro e w6 ⟨⟨Ab, cb, fb, rfl, _⟩, hb6⟩
       have HE6 := Lib.hid (HE5.out.next hb6)
       clear hb6
       clear x0 x1 y0 y1
       have x0 := HE6.out.bf.c0
       have x1 := HE6.out.bf.c1
       have y0 := HE6.out.bg.c0
       have y1 := HE6.out.bg.c1
       simp only at x0 x1 y0 y1
       go_wp2_with fail
       go_fit (HRF.out _ HE6.out)
       rintro e w7 ⟨rfl, hb7⟩
       have HE7 := Lib.hid (HE6.out.next hb7)
       clear hb7
       clear x0 x1 y0 y1
       have x0 := HE7.out.bf.c0
       have x1 := HE7.out.bf.c1
       have y0 := HE7.out.bg.c0
       have y1 := HE7.out.bg.c1
       simp only at x0 x1 y0 y1
       go_wp2_with fail
       go_fit (HRG.out _ HE7.out)
       rintro e w8 ⟨rfl, hb8⟩
       have HE8 := Lib.hid (HE7.out.next hb8)
       clear hb8
       clear x0 x1 y0 y1
       have x0 := HE8.out.bf.c0
       have x1 := HE8.out.bf.c1
       have y0 := HE8.out.bg.c0
       have y1 := HE8.out.bg.c1
       simp only at x0 x1 y0 y1
       go_wp2_with fail
       go_fit (awake_any _ HE8.out.glob)
       rintro e w9 ⟨rfl, hb9⟩
       have HN := Lib.hid (bel_next HE8.out.bel hb9)
       clear hb9
       go_wp2
       go_ret
       rw [← HN0.out]
       exact ⟨rfl, HN.out⟩)
  case pos =>
    obtain ⟨rfl, rfl⟩ := hpq
    clear HIN HIN2 HRF HRG
    have HINS := Lib.hid fun v ts n W (h : LawE n0 ⟨rf, Af, nf, cf⟩ ⟨rg, Ag, ng, cg⟩ f g A c fs w W) (hS : SetL W v ts n) (hn : n ≤ 1000) => insertS v ts n _ f W hS hn h.f h.glob.2 HP.out
    have HING := Lib.hid fun v ts n W (h : LawE n0 ⟨rf, Af, nf, cf⟩ ⟨rg, Ag, ng, cg⟩ f g A c fs w W) (hS : SetL W v ts n) (hn : n ≤ 1000) => insertS v ts n _ g W hS hn h.g h.glob.2 HQ.out
    have HCF := Lib.hid fun A' c' ts n W (h : LawE n0 ⟨rf, Af, nf, cf⟩ ⟨rg, Ag, ng, cg⟩ f g A c fs w W) (hS : SetL W (.slice A' ts.length c') ts n) (hn : n ≤ 1000) => containsS A' c' ts n _ f W hS hn h.f.hold
    have HCG := Lib.hid fun A' c' ts n W (h : LawE n0 ⟨rf, Af, nf, cf⟩ ⟨rg, Ag, ng, cg⟩ f g A c fs w W) (hS : SetL W (.slice A' ts.length c') ts n) (hn : n ≤ 1000) => containsS A' c' ts n _ g W hS hn h.g.hold
    have HREM := Lib.hid fun v ts n W (h : LawE n0 ⟨rf, Af, nf, cf⟩ ⟨rg, Ag, ng, cg⟩ f g A c fs w W) (hS : SetL W v ts n) (hn : n ≤ 1000) => removeS v ts n _ f W hS hn h.f
    simp only at HINS HING HCF HCG HREM
    go_wp2_with fail
    go_fit (HINS.out _ _ _ _ HE4.out HE4.out.db (by omega))
    rintro e w5 ⟨Aa, ca, fa, rfl, ha1, ha2, ha3, hb5⟩
    have HE5 := Lib.hid (HE4.out.next hb5)
    have HA5 := Lib.hid ha1
    have HA2 := Lib.hid ha2
    have HA3 := Lib.hid ha3
    clear ha1 ha2 ha3 hb5
    clear x0 x1 y0 y1
    have x0 := HE5.out.bf.c0
    have x1 := HE5.out.bf.c1
    have y0 := HE5.out.bg.c0
    have y1 := HE5.out.bg.c1
    simp only at x0 x1 y0 y1
    go_wp2_with fail
    go_fit (HING.out _ _ _ _ HE5.out HE5.out.db (by omega))
    rintro e w6 ⟨Ab, cb, fb, rfl, hb1, hb2, hb3, hb6⟩
    have HE6 := Lib.hid (HE5.out.next hb6)
    have HB6 := Lib.hid hb1
    have HB2 := Lib.hid hb2
    have HB3 := Lib.hid hb3
    have HA6 := Lib.hid (HA5.out.next hb6)
    clear hb6
    clear hb1 hb2 hb3
    clear x0 x1 y0 y1
    have x0 := HE6.out.bf.c0
    have x1 := HE6.out.bf.c1
    have y0 := HE6.out.bg.c0
    have y1 := HE6.out.bg.c1
    simp only at x0 x1 y0 y1
    go_wp2_with fail
    go_fit (HING.out _ _ _ _ HE6.out HA6.out (by omega))
    rintro e w7 ⟨Ac, cc, fc, rfl, hc1, hc2, hc3, hb7⟩
    have HE7 := Lib.hid (HE6.out.next hb7)
    have HC7 := Lib.hid hc1
    have HC2 := Lib.hid hc2
    have HC3 := Lib.hid hc3
    have HB7 := Lib.hid (HB6.out.next hb7)
    clear hb7
    clear hc1 hc2 hc3
    clear x0 x1 y0 y1
    have x0 := HE7.out.bf.c0
    have x1 := HE7.out.bf.c1
    have y0 := HE7.out.bg.c0
    have y1 := HE7.out.bg.c1
    simp only at x0 x1 y0 y1
    go_wp2_with fail
    go_fit (HINS.out _ _ _ _ HE7.out HB7.out (by omega))
    rintro e w8 ⟨Ad, cd, fd, rfl, hd1, hd2, hd3, hb8⟩
    have HE8 := Lib.hid (HE7.out.next hb8)
    have HD8 := Lib.hid hd1
    have HD2 := Lib.hid hd2
    have HD3 := Lib.hid hd3
    have HC8 := Lib.hid (HC7.out.next hb8)
    clear hb8
    clear hd1 hd2 hd3
    clear x0 x1 y0 y1
    have x0 := HE8.out.bf.c0
    have x1 := HE8.out.bf.c1
    have y0 := HE8.out.bg.c0
    have y1 := HE8.out.bg.c1
    simp only at x0 x1 y0 y1
    have HCM : Hid (∀ x, x ∈ fc ↔ x ∈ fs ∨ x = f ∨ x = g) := Lib.hid fun x => by rw [HC3.out x, HA3.out x]; exact or_assoc
    have HCD : Hid (fc = fd) := Lib.hid (strict_ext _ _ HC2.out HD2.out fun x => by
      rw [HCM.out x, HD3.out x, HB3.out x]
      constructor
      · rintro (h | h | h)
        · exact .inl (.inl h)
        · exact .inr h
        · exact .inl (.inr h)
      · rintro ((h | h) | h)
        · exact .inl h
        · exact .inr (.inr h)
        · exact .inr (.inl h))
    have hfcf : fc.any (isF f) = true := (any_isF fc f).2 ((HCM.out f).2 (.inr (.inl rfl)))
    have hfcg : fc.any (isF g) = true := (any_isF fc g).2 ((HCM.out g).2 (.inr (.inr rfl)))
    have HFCF := Lib.hid hfcf
    have HFCG := Lib.hid hfcg
    clear hfcf hfcg
    go_wp2_with fail
    go_fit (sameT _ _ fc fd _ _ _ HC8.out HD8.out (by omega) HCD.out)
    rintro e w9 ⟨rfl, hb9⟩
    have HE9 := Lib.hid (HE8.out.next hb9)
    have HC9 := Lib.hid (HC8.out.next hb9)
    clear hb9
    clear x0 x1 y0 y1
    have x0 := HE9.out.bf.c0
    have x1 := HE9.out.bf.c1
    have y0 := HE9.out.bg.c0
    have y1 := HE9.out.bg.c1
    simp only at x0 x1 y0 y1
    have HCF9 := Lib.hid (HCF.out _ _ _ _ _ HE9.out HC9.out (by omega))
    rw [HFCF.out] at HCF9
    go_wp2_with fail
    go_fit HCF9.out
    rintro e w10 ⟨rfl, hb10⟩
    have HE10 := Lib.hid (HE9.out.next hb10)
    have HC10 := Lib.hid (HC9.out.next hb10)
    clear hb10
    clear x0 x1 y0 y1
    have x0 := HE10.out.bf.c0
    have x1 := HE10.out.bf.c1
    have y0 := HE10.out.bg.c0
    have y1 := HE10.out.bg.c1
    simp only at x0 x1 y0 y1
    have HCG9 := Lib.hid (HCG.out _ _ _ _ _ HE10.out HC10.out (by omega))
    rw [HFCG.out] at HCG9
    clear HCF9
    go_wp2_with fail
    go_fit HCG9.out
    rintro e w11 ⟨rfl, hb11⟩
    have HE11 := Lib.hid (HE10.out.next hb11)
    have HC11 := Lib.hid (HC10.out.next hb11)
    clear hb11
    clear x0 x1 y0 y1
    have x0 := HE11.out.bf.c0
    have x1 := HE11.out.bf.c1
    have y0 := HE11.out.bg.c0
    have y1 := HE11.out.bg.c1
    simp only at x0 x1 y0 y1
    clear HCG9
    go_wp2_with fail
    go_fit (HINS.out _ _ _ _ HE11.out HC11.out (by omega))
    rintro e w12 ⟨Ag2, cg2, fg2, rfl, hg1, hg2, hg3, hb12⟩
    have HE12 := Lib.hid (HE11.out.next hb12)
    have HG12 := Lib.hid hg1
    have HG2 := Lib.hid hg2
    have HG3 := Lib.hid hg3
    have HC12 := Lib.hid (HC11.out.next hb12)
    clear hb12
    clear hg1 hg2 hg3
    clear x0 x1 y0 y1
    have x0 := HE12.out.bf.c0
    have x1 := HE12.out.bf.c1
    have y0 := HE12.out.bg.c0
    have y1 := HE12.out.bg.c1
    simp only at x0 x1 y0 y1
    have HRM := Lib.hid (HREM.out _ _ _ _ HE12.out HC12.out (by omega))
    unfold RemS at HRM
    rw [HFCF.out] at HRM
    go_wp2_with fail
    go_fit HRM.out
    rintro e w13 ⟨Al, cl, fl, rfl, hl1, hl2, hl3, hb13⟩
    have HE13 := Lib.hid (HE12.out.next hb13)
    have HL13 := Lib.hid hl1
    have HL2 := Lib.hid hl2
    have HL3 := Lib.hid hl3
    have HC13 := Lib.hid (HC12.out.next hb13)
    have HG13 := Lib.hid (HG12.out.next hb13)
    clear hb13
    clear hl1 hl2 hl3 HRM
    clear x0 x1 y0 y1
    have x0 := HE13.out.bf.c0
    have x1 := HE13.out.bf.c1
    have y0 := HE13.out.bg.c0
    have y1 := HE13.out.bg.c1
    simp only at x0 x1 y0 y1
    have HGC : Hid (fg2 = fc) := Lib.hid (strict_ext _ _ HG2.out HC2.out fun x => by
      rw [HG3.out x]
      constructor
      · rintro (h | rfl)
        · exact h
        · exact (any_isF fc x).1 HFCF.out
      · exact fun h => .inl h)
    have HFLF : Hid (fl.any (isF f) = false) := Lib.hid ((any_isF_false fl f).2 fun h => ((HL3.out f).1 h).2 rfl)
    have HLEN := Lib.hid (less_len HC2.out HL2.out HL3.out ((any_isF fc f).1 HFCF.out))
    have HLAW : Hid (LawS fs fc fl f g) := Lib.hid ⟨HCM.out, HL3.out⟩
    go_wp2_with fail
    go_fit (sameT _ _ fg2 fc _ _ _ HG13.out HC13.out (by omega) HGC.out)
    rintro e w14 ⟨rfl, hb14⟩
    have HE14 := Lib.hid (HE13.out.next hb14)
    have HC14 := Lib.hid (HC13.out.next hb14)
    have HL14 := Lib.hid (HL13.out.next hb14)
    clear hb14
    clear x0 x1 y0 y1
    have x0 := HE14.out.bf.c0
    have x1 := HE14.out.bf.c1
    have y0 := HE14.out.bg.c0
    have y1 := HE14.out.bg.c1
    simp only at x0 x1 y0 y1
    have HCL := Lib.hid (HCF.out _ _ _ _ _ HE14.out HL14.out (by omega))
    rw [HFLF.out] at HCL
    go_wp2_with fail
    go_fit HCL.out
    rintro e w15 ⟨rfl, hb15⟩
    have HE15 := Lib.hid (HE14.out.next hb15)
    have HC15 := Lib.hid (HC14.out.next hb15)
    have HL15 := Lib.hid (HL14.out.next hb15)
    clear hb15
    clear x0 x1 y0 y1
    have x0 := HE15.out.bf.c0
    have x1 := HE15.out.bf.c1
    have y0 := HE15.out.bg.c0
    have y1 := HE15.out.bg.c1
    simp only at x0 x1 y0 y1
    clear HCL HINS HING HCF HCG HREM HA5 HA6 HB6 HB7 HC7 HC8 HC9 HC10 HC11 HC12 HC13 HC14 HD8 HG12 HG13 HL13 HL14 HE4 HE5 HE6 HE7 HE8 HE9 HE10 HE11 HE12 HE13 HE14
    have hlc : fc.length ≤ 82 := HC15.out.few
    have hlen := HLEN.out
    have hwl : IntKind.i64.wrap ((fc.length : Int) - 1) = (fl.length : Int) := (IntWalk.i64_in _ (by omega)).trans (by omega)
    have hne : ((fl.length : Int) != (fl.length : Int)) = false := by simp
    have hfs : fs.length ≤ 80 := HE15.out.db.few
    clear hlen
    go_wp2
    go_loopw [16] (fun vi wr => ∃ k : Nat, vi = .int .i64 k ∧ k ≤ fs.length ∧ Hid (Below w15.heap.size w15 wr)) (fun vi _ => fs.length - (intOf vi).toNat)
    case atStart => exact ⟨0, rfl, Nat.zero_le _, Lib.hid (Below.refl _ _)⟩
    case round =>
      obtain ⟨k, rfl, hk, HW⟩ := hrel
      clear x0 x1 y0 y1
      rcases Nat.lt_or_ge k fs.length with hlt | hge
      · have HER := Lib.hid (HE15.out.next HW.out)
        have HCR := Lib.hid (HC15.out.next HW.out)
        have HLR := Lib.hid (HL15.out.next HW.out)
        obtain ⟨ss', hsv⟩ := HE15.out.db.ex
        obtain ⟨A', c', e', hfr⟩ := hsv.frow
        cases e'
        have hls : k < ss'.length := by have := hfr.len; omega
        obtain ⟨b1, o1, rfl, hb1, z0, z1⟩ := (hfr.row.below (Nat.le_refl _) HW.out).fact2 hls
        have hsz := HW.out.size
        have hl1 : b1 < wr.heap.size := by omega
        have HOLD := Lib.hid ((hfr.each k hls hlt).next (Nat.le_refl _) HW.out)
        have HIC := Lib.hid (HLAW.out.inC (List.getElem_mem hlt))
        have HIL := Lib.hid (HLAW.out.inL (List.getElem_mem hlt))
        have HCC := Lib.hid fun W (hW : Below wr.heap.size wr W) => containsS Ac cc fc 82 ss'[k] fs[k] W (HCR.out.next hW) (by omega) (HOLD.out.next (Nat.le_refl _) hW)
        have HCL := Lib.hid fun W (hW : Below wr.heap.size wr W) => containsS Al cl fl 82 ss'[k] fs[k] W (HLR.out.next hW) (by omega) (HOLD.out.next (Nat.le_refl _) hW)
        have HCM := Lib.hid fun W (hW : Below wr.heap.size wr W) => compareS_any fs[k] f ss'[k] _ W (HOLD.out.next (Nat.le_refl _) hW) (HER.out.f.hold.next (Nat.le_refl _) hW)
        rw [HIC.out] at HCC
        have x0 := HER.out.bf.c0
        have x1 := HER.out.bf.c1
        generalize fs[k] = x at *
        generalize ss'[k] = y at *
        obtain ⟨yr, yA, yn, yc⟩ := y
        simp only at x0 x1 z0 z1 HCC HCL HCM
        generalize cmpF x f = kk at *
        generalize fl.any (isF x) = uu at *
        have hfin : (uu == (kk == 0)) = false := by
          have h := HIL.out
          rw [← h]
          congr 1
        have HKS : Hid (∀ W W' : World, (Below wr.heap.size wr W ∧ W.cell? ⟨b1, o1 + k * 2, none⟩ = some (.string ⟨yr.toArray⟩) ∧ W.cell? ⟨b1, o1 + k * 2 + 1, none⟩ = some (.slice yA yn yc) ∧ W.cell? ⟨n0, 0, none⟩ = some (.string ⟨rf.toArray⟩) ∧ W.cell? ⟨n0, 1, none⟩ = some (.slice Af nf cf)) → Below W.heap.size W W' →
            (Below wr.heap.size wr W' ∧ W'.cell? ⟨b1, o1 + k * 2, none⟩ = some (.string ⟨yr.toArray⟩) ∧ W'.cell? ⟨b1, o1 + k * 2 + 1, none⟩ = some (.slice yA yn yc) ∧ W'.cell? ⟨n0, 0, none⟩ = some (.string ⟨rf.toArray⟩) ∧ W'.cell? ⟨n0, 1, none⟩ = some (.slice Af nf cf))) := Lib.hid fun W W' h hb => by
          obtain ⟨h0, h1, h2, h3, h4⟩ := h
          have key : ∀ {N j : Nat} {v : Value}, W.cell? ⟨N, j, none⟩ = some v → W'.cell? ⟨N, j, none⟩ = some v := fun {N j v} h => (hb.cell (p := ⟨N, j, none⟩) (World.block_lt_of_cell? W _ h)).trans h
          exact ⟨bel_next h0 hb, key h1, key h2, key h3, key h4⟩
        have hS4 := HKS.out wr wr.drew ⟨Below.refl _ _, z0, z1, x0, x1⟩ ((Below.refl _ _).drew)
        clear x0 x1 z0 z1 hsv hfr hls hwl hne
        go_upto_region 18 with fail
        go_region_held3 (fun W => Below wr.heap.size wr W ∧ W.cell? ⟨b1, o1 + k * 2, none⟩ = some (.string ⟨yr.toArray⟩) ∧ W.cell? ⟨b1, o1 + k * 2 + 1, none⟩ = some (.slice yA yn yc) ∧ W.cell? ⟨n0, 0, none⟩ = some (.string ⟨rf.toArray⟩) ∧ W.cell? ⟨n0, 1, none⟩ = some (.slice Af nf cf))
          (assumption)
          (first | (go_at_call 16; go_fit (HCC.out _ (And.left (by assumption))); rintro e w1 ⟨rfl, hbn⟩; have hSn := HKS.out _ _ (by assumption) hbn) | (go_at_call 16; go_fit (HCL.out _ (And.left (by assumption))); rintro e w1 ⟨rfl, hbn⟩; have hSn := HKS.out _ _ (by assumption) hbn) | (go_at_call 13; go_fit (HCM.out _ (And.left (by assumption))); rintro e w1 ⟨rfl, hbn⟩; have hSn := HKS.out _ _ (by assumption) hbn))
        all_goals
          have HN := Lib.hid (bel_next HW.out hSn.1)
          clear hSn
          go_wp2
          go_roundw
          case rel => exact ⟨k + 1, by go_num, by omega, HN⟩
          case measure => simp [intOf]; omega
      · have HER := Lib.hid (HE15.out.next HW.out)
        go_wp2_with fail
        go_fit (awake_any _ HER.out.glob)
        rintro e w16 ⟨rfl, hb16⟩
        have HN := Lib.hid (bel_next HER.out.bel hb16)
        clear hb16
        go_wp2
        go_ret
        rw [← HN0.out]
        exact ⟨rfl, HN.out⟩
end Go.Proofs.YtolkceibbefhfaaGreatDoor


namespace Go.Proofs.YtolkceibbefhfaaGreatDoor
open Go.RowKit Go.Shelf

theorem strict_ins {fs : List GFact} {f : GFact} {k : Nat} (h : StrictF fs) (hi : ∀ x ∈ fs.drop k, 0 < cmpF x f) (hl : ∀ x ∈ fs.take k, cmpF x f < 0) : StrictF (fs.take k ++ f :: fs.drop k) := by
  have h' := h
  rw [← List.take_append_drop k fs] at h'
  unfold StrictF at *
  rw [List.pairwise_append] at h' ⊢
  refine ⟨h'.1, List.pairwise_cons.2 ⟨fun y hy => ?_, h'.2.1⟩, fun a ha b hb => ?_⟩
  · have := hi y hy
    have := ord_fact.n y f
    omega
  · rcases List.mem_cons.1 hb with rfl | hb
    · exact hl a ha
    · exact h'.2.2 a ha b hb
theorem strict_low {fs : List GFact} {f : GFact} {j : Nat} (h : StrictF fs) (hj : j < fs.length) (hc : cmpF fs[j] f < 0) : ∀ x ∈ fs.take (j + 1), cmpF x f < 0 := by
  intro x hx
  have h' : StrictF (fs.take (j + 1)) := h.sublist (List.take_sublist _ _)
  rw [List.take_succ_eq_append_getElem hj] at hx h'
  rcases List.mem_append.1 hx with hx | hx
  · exact ord_fact.t _ _ _ ((List.pairwise_append.1 h').2.2 x hx _ (by simp)) hc
  · simp at hx
    subst hx
    exact hc
theorem mem_ins {fs : List GFact} {f : GFact} {k : Nat} (g : GFact) : g ∈ fs.take k ++ f :: fs.drop k ↔ g ∈ fs ∨ g = f := by
  have h : g ∈ fs ↔ g ∈ fs.take k ∨ g ∈ fs.drop k := by rw [← List.mem_append, List.take_append_drop]
  rw [h, List.mem_append, List.mem_cons]
  constructor
  · rintro (h | h | h)
    · exact .inl (.inl h)
    · exact .inr h
    · exact .inl (.inr h)
  · rintro ((h | h) | h)
    · exact .inl h
    · exact .inr (.inr h)
    · exact .inr (.inl h)
theorem drop_snoc {fs : List GFact} {f : GFact} {j : Nat} (hj : j < fs.length) (h : ∀ x ∈ fs.drop (j + 1), 0 < cmpF x f) (hc : 0 < cmpF fs[j] f) : ∀ x ∈ fs.drop j, 0 < cmpF x f := by
  intro x hx
  rw [List.drop_eq_getElem_cons hj] at hx
  rcases List.mem_cons.1 hx with rfl | hx
  · exact hc
  · exact h x hx
section
variable {w0 : World}
theorem GRow.elem2 {w : World} {B : Nat} {A : Option Addr} {es : List (Elem w0)} (h : GRow Elem.enc 2 w B A es) {i : Nat} (hi : i < es.length) : ∃ b off, A = some ⟨b, off, none⟩ ∧ b < B ∧
    w.cell? ⟨b, off + i * 2, none⟩ = some (.string ⟨es[i].sf.rel.toArray⟩) ∧ w.cell? ⟨b, off + i * 2 + 1, none⟩ = some (.slice es[i].sf.A es[i].sf.n es[i].sf.c) := by
  obtain ⟨b, off, e, hb, hc⟩ := h (by omega)
  exact ⟨b, off, e, hb, hc i hi 0 _ rfl, hc i hi 1 _ rfl⟩
theorem cut_toE {w : World} {B : Nat} {A : Option Addr} {c k : Nat} {xs : List (Elem w0)} (hr : GRow Elem.enc 2 w B A xs) (hk : k ≤ xs.length) (hc : xs.length ≤ c) :
    ∃ A', (∀ W, (Instr.sliceAt 22 (.slice A xs.length c) none (some (.int .i64 k)) none).run Tryz.prog W = .ok (.slice A' k c) W) ∧ GRow Elem.enc 2 w B A' (xs.take k) := by
  refine ⟨if c = 0 then A else A.map (·.add 0), fun W => ?_, ?_⟩
  · rw [run_sliceAt_slice _ _ _ _ _ _ fact_elem, run_slice_h _ _ _ _ _ fact_elem .i64 k (by omega) (by omega), run_factSize]
    simp [Result.andThen, sliced]
  · intro hn
    rw [List.length_take] at hn
    obtain ⟨b, off, rfl, hb, hcell⟩ := hr (by omega)
    refine ⟨b, off, ?_, hb, fun i hi j u hu => ?_⟩
    · split
      · rfl
      · simp [Addr.add]
    · rw [List.length_take] at hi
      rw [List.getElem_take] at hu
      exact hcell i (by omega) j u hu
theorem cut_fromE {w : World} {B : Nat} {A : Option Addr} {c k : Nat} {xs : List (Elem w0)} (hr : GRow Elem.enc 2 w B A xs) (hk : k ≤ xs.length) (hc : xs.length ≤ c) :
    ∃ A', (∀ W, (Instr.sliceAt 22 (.slice A xs.length c) (some (.int .i64 k)) none none).run Tryz.prog W = .ok (.slice A' (xs.length - k) (c - k)) W) ∧ GRow Elem.enc 2 w B A' (xs.drop k) := by
  refine ⟨if c = k then A else A.map (·.add (k * 2)), fun W => ?_, ?_⟩
  · rw [run_sliceAt_slice _ _ _ _ _ _ fact_elem, run_slice_l _ _ _ _ _ fact_elem .i64 k (by omega) (by omega), run_factSize]
    simp [Result.andThen, sliced]
  · intro hn
    rw [List.length_drop] at hn
    obtain ⟨b, off, rfl, hb, hcell⟩ := hr (by omega)
    refine ⟨b, off + k * 2, ?_, hb, fun i hi j u hu => ?_⟩
    · rw [if_neg (by omega)]
      simp [Addr.add]
    · rw [List.length_drop] at hi
      rw [List.getElem_drop] at hu
      have := hcell (k + i) (by omega) j u hu
      rw [show off + k * 2 + (i * 2 + j) = off + ((k + i) * 2 + j) by omega]
      exact this
def FactsE {w0 : World} (es : List (Elem w0)) : List GFact := es.map Elem.fact
theorem SetV.elems {w : World} {v : Value} {es : List (Elem w0)} (hb : Below w0.heap.size w0 w) (hr : RowV w v (es.map Elem.sf)) : SetV w v (es.map Elem.sf) (FactsE es) :=
  ⟨hr, by simp [FactsE], fun i h1 h2 => by
    have := (es[i]'(by simpa using h1)).hold hb
    simpa [FactsE] using this⟩
/-- A set asx the reference has it: where it lies, with room. -/
structure RowE (w : World) (A : Option Addr) (c : Nat) (es : List (Elem w0)) : Prop where
  row : GRow Elem.enc 2 w w.heap.size A es
  le : es.length ≤ c
  nilc : A = .none → c = 0
  max : c ≤ maxLen
  kinds : ∀ f ∈ FactsE es, KindsWf f.args
theorem RowE.next {w w' : World} {A : Option Addr} {c : Nat} {es : List (Elem w0)} (h : RowE w A c es) (hb : Below w.heap.size w w') : RowE w' A c es := ⟨h.row.next hb, h.le, h.nilc, h.max, h.kinds⟩
theorem RowE.nil (w : World) : RowE (w0 := w0) w none 0 [] := ⟨GRow.nil, Nat.le_refl _, fun _ => rfl, Nat.zero_le _, fun f hf => by simp [FactsE] at hf⟩
theorem RowE.setL {w : World} {A : Option Addr} {c : Nat} {es : List (Elem w0)} {n : Nat} (h : RowE w A c es) (hb : Below w0.heap.size w0 w) (hn : es.length ≤ n) (ha : ∀ f ∈ FactsE es, f.args.length ≤ 12) : SetL w (.slice A es.length c) (FactsE es) n := by
  refine ⟨⟨es.map Elem.sf, SetV.elems hb ?_⟩, by simpa [FactsE] using hn, ha, h.kinds⟩
  cases A with
  | none =>
    have h0 := h.nilc rfl
    have := h.le
    have he : es = [] := List.eq_nil_of_length_eq_zero (by omega)
    subst he
    exact .inl ⟨by rw [h0]; rfl, rfl⟩
  | some ad =>
    refine .inr ⟨ad, c, by rw [List.length_map], fun hn0 => ?_⟩
    rw [List.length_map] at hn0
    obtain ⟨b, off, e, hlt, hc⟩ := h.row hn0
    refine ⟨b, off, e, hlt, fun i hi j u hu => ?_⟩
    rw [List.length_map] at hi
    rw [List.getElem_map] at hu
    exact hc i hi j u hu
def AddEnd (es : List (Elem w0)) (x : Elem w0) (w : World) (e : Ending) (w' : World) : Prop :=
  ∃ A, ∃ c : Nat, ∃ es' : List (Elem w0), e = .returned (.slice A es'.length c) ∧ RowE w' A c es' ∧ StrictF (FactsE es') ∧ (∀ g, g ∈ FactsE es' ↔ g ∈ FactsE es ∨ g = x.fact) ∧ es'.length ≤ es.length + 1 ∧ Below w.heap.size w w'
/-- An append whose run is known only by what it leaves. -/
theorem step_gapp_ex {S : TypeId} {ops : Array Oper} {o : Oper} {a : Act} {K : Act → World → Prop} {Q : Exit → Act → World → Prop} {E : Prop} {v y : Value} {W : World} {R : Value → World → Prop}
    (H : ∃ v' w', (Builtin.append_ #[S, S] S #[v, y]).run Tryz.prog W = .ok v' w' ∧ R v' w') (hgd : o.guard = none) {s x : Operand}
    (ho : o.op = .call { callee := .builtin .append, args := #[s, x], argTypes := #[S, S] }) (hty : o.type = S) (hs : a.eval s = v) (hx : a.eval x = y)
    (h : ∀ v' w', R v' w' → K (a.put o.dst v') w') : if Region.wanted o (yielded ops a.tmps) = true then Oper.wp Tryz.prog o a W K Q else E := by
  obtain ⟨v', w', hr, h2⟩ := H
  exact step_gapp hr hgd ho hty hs hx (h _ _ h2)
theorem OwnG.rowE {w : World} {base : Nat} {v : Value} {es : List (Elem w0)} (h : OwnG Elem.enc 25 2 w base v es) (hk : ∀ f ∈ FactsE es, KindsWf f.args) : ∃ A c, v = .slice A es.length c ∧ RowE w A c es := by
  obtain ⟨A, c, e, h1, h2, h3⟩ := h.row Elem.len
  refine ⟨A, c, e, h3, h1, fun hA => ?_, h2, hk⟩
  rcases h.2 with ⟨hv, h0⟩ | ⟨g, cap, cur, hv, _⟩
  · rw [e] at hv; injection hv
  · rw [e, hA] at hv; cases hv
end
end Go.Proofs.YtolkceibbefhfaaGreatDoor
