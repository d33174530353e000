/-
  Copies: slices.Clone at values and at facts; the sort and the compaction of at most one fact.
  Conditions: as each theorem says.
  The set of a list of one fact: facts.merged, union, setOf.
  Conditions: the list has one fact, which has at most 1000 arguments, and they are no nil slice.
  The set of a list of one fact: facts.union, setOf.
  Conditions: the list has one fact, which has at most 1000000 arguments, in a slice that is not nil.
-/
import Derived.Test.YtmodjokoggmnaaaGreatDoorMa12
import Derived.Lib.LazyBuf
import Derived.Laws.MakeOwn
namespace Go.Proofs.YtmodjokoggmnaaaGreatDoor

open Go.RowKit Go.Shelf

theorem nil_no (T : TypeId) (ad : Addr) (n c : Nat) (e : TypeId) (hT : Tryz.prog.underlying T = some (.slice e)) (W : World) : (binOp .eql T (.slice (some ad) n c) (.slice none 0 0)).run Tryz.prog W = .ok (.bool false) W := by
  rw [_root_.Go.run_eql_slice_nil W T e _ _ _ hT]; rfl
theorem nil_yes (T : TypeId) (e : TypeId) (hT : Tryz.prog.underlying T = some (.slice e)) (W : World) : (binOp .eql T (.slice none 0 0) (.slice none 0 0)).run Tryz.prog W = .ok (.bool true) W := by
  rw [_root_.Go.run_eql_slice_nil W T e _ _ _ hT]; rfl
theorem below_of_own {w w1 w2 : World} {q : Option Nat} (h : Below w.heap.size w w1) (h2 : w1.grownBy w2 q) (hq : ∀ g, q = some g → w.heap.size ≤ g) : Below w.heap.size w w2 := h.grown h2 h.size hq
set_option maxRecDepth 50000 in
theorem cloneV_any (vs : List GVal) (A : Option Addr) (c : Nat) (w : World) (h : GRow GVal.cells 3 w w.heap.size A vs) (hA : A ≠ none) (hl : vs.length ≤ 1000000) :
    Calls Tryz.prog 95 #[.slice A vs.length c] w fun e w' => (∃ v, e = .returned v ∧ OwnG GVal.cells 40 3 w' w.heap.size v vs) ∧ Below w.heap.size w w' := by
  obtain ⟨ad, rfl⟩ : ∃ ad, A = some ad := by cases A with | none => exact absurd rfl hA | some a => exact ⟨a, rfl⟩
  have ho := OwnG.lit (T := 40) GVal.len w w.heap.size [] #[] rfl (Nat.le_refl _) (by unfold maxLen; simp)
  obtain ⟨v', w', hrun, hown, hgr, _⟩ := OwnG.app elt_val GVal.len GVal.one ho c ((h.below (Nat.le_refl _) (bel_lit (Below.refl _ w) (.cells #[] 40))).wide (Nat.le_succ _)) (by simp) (by unfold maxLen; simp; omega) (by simp; omega)
  rw [List.nil_append] at hown
  have HB := Lib.hid (below_of_own (bel_lit (Below.refl w.heap.size w) _) hgr (fun g hg => by simp [Value.ownBlock] at hg; omega))
  have HRUN := Lib.hid hrun
  have HO := Lib.hid hown
  have hq := nil_no 35 ad vs.length c _ Tryz.underlying35
  clear h ho hrun hown hgr
  go_enter Tryz.func95, Tryz.ntmps95
  go_wp2_with (at_builtin; refine wpList_gapp HRUN.out rfl rfl rfl rfl rfl ?_)
  go_wp2
  go_ret
  exact ⟨⟨_, rfl, HO.out⟩, HB.out⟩
set_option maxRecDepth 50000 in
theorem cloneF_any (fs : List SFact) (A : Option Addr) (c : Nat) (w : World) (h : GRow SFact.cells 2 w w.heap.size A fs) (hA : A ≠ none) (hl : fs.length ≤ 1000000) :
    Calls Tryz.prog 121 #[.slice A fs.length c] w fun e w' => (∃ v, e = .returned v ∧ OwnG SFact.cells 37 2 w' w.heap.size v fs) ∧ Below w.heap.size w w' := by
  obtain ⟨ad, rfl⟩ : ∃ ad, A = some ad := by cases A with | none => exact absurd rfl hA | some a => exact ⟨a, rfl⟩
  have ho := OwnG.lit (T := 37) SFact.len w w.heap.size [] #[] rfl (Nat.le_refl _) (by unfold maxLen; simp)
  obtain ⟨v', w', hrun, hown, hgr, _⟩ := OwnG.app elt_fact SFact.len SFact.one ho c ((h.below (Nat.le_refl _) (bel_lit (Below.refl _ w) (.cells #[] 37))).wide (Nat.le_succ _)) (by simp) (by unfold maxLen; simp; omega) (by simp; omega)
  rw [List.nil_append] at hown
  have HB := Lib.hid (below_of_own (bel_lit (Below.refl w.heap.size w) _) hgr (fun g hg => by simp [Value.ownBlock] at hg; omega))
  have HRUN := Lib.hid hrun
  have HO := Lib.hid hown
  have hq := nil_no 22 ad fs.length c _ Tryz.underlying22
  clear h ho hrun hown hgr
  go_enter Tryz.func121, Tryz.ntmps121
  go_wp2_with (at_builtin; refine wpList_gapp HRUN.out rfl rfl rfl rfl rfl ?_)
  go_wp2
  go_ret
  exact ⟨⟨_, rfl, HO.out⟩, HB.out⟩
set_option maxRecDepth 50000 in
theorem cloneF_nil (w : World) : Calls Tryz.prog 121 #[.slice none 0 0] w fun e w' => e = .returned (.slice none 0 0) ∧ w = w' := by
  have hq := nil_yes 22 _ Tryz.underlying22
  go_enter Tryz.func121, Tryz.ntmps121
  go_wp2
  go_ret
  exact ⟨rfl, rfl⟩
theorem insertion_tiny (A : Option Addr) (n c : Nat) (f : Value) (w : World) (hn : n ≤ 1) :
    Calls Tryz.prog 158 #[.slice A n c, .int .i64 0, .int .i64 n, f] w fun e w' => e = .returned (.tuple #[]) ∧ w = w' := by
  have hf : decide ((1 : Int) < (n : Int)) = false := by simp; omega
  have hf2 : ¬ (1 : Int) < (n : Int) := by omega
  go_enter Tryz.func158, Tryz.ntmps158
  go_wp2
  go_loop [8] (fun vi => vi = .int .i64 1) (fun _ => 0)
  case atStart => rfl
  case round =>
    obtain rfl := hrel
    go_wp2
    go_end0
    exact ⟨rfl, rfl⟩
set_option maxRecDepth 100000 in
theorem pdq_tiny (A : Option Addr) (n c : Nat) (l : Int) (f : Value) (w : World) (hn : n ≤ 1) :
    Calls Tryz.prog 142 #[.slice A n c, .int .i64 0, .int .i64 n, .int .i64 l, f] w fun e w' => e = .returned (.tuple #[]) ∧ w = w' := by
  have HI := Lib.hid (insertion_tiny A n c f w hn)
  have hf : decide ((n : Int) ≤ 12) = true := by simp; omega
  have hf2 : (n : Int) ≤ 12 := by omega
  go_enter Tryz.func142, Tryz.ntmps142
  go_wp2
  go_loop [1, 2, 3, 10, 11] (fun va vb vl v10 v11 => va = .int .i64 0 ∧ vb = .int .i64 n ∧ vl = .int .i64 l ∧ v10 = .bool true ∧ v11 = .bool true) (fun _ _ _ _ _ => 0)
  case atStart => exact ⟨rfl, rfl, rfl, rfl, rfl⟩
  case round =>
    obtain ⟨rfl, rfl, rfl, rfl, rfl⟩ := hrel
    go_wp2_with fail
    refine HI.out.mono ?_
    rintro e w1 ⟨rfl, rfl⟩
    go_wp2
    exact bodyPost_ret (v := .tuple #[]) (by simp [results, Tryz.results142]) rfl ⟨rfl, rfl⟩
theorem sort_tiny (A : Option Addr) (n c : Nat) (f : Value) (w : World) (hn : n ≤ 1) :
    Calls Tryz.prog 122 #[.slice A n c, f] w fun e w' => e = .returned (.tuple #[]) ∧ w = w' := by
  have HL := Lib.hid (Tryz.bits_Len (n : Int) w (by omega) (by omega))
  have HP := Lib.hid fun l => pdq_tiny A n c l f w hn
  have hw : IntKind.u64.wrap (n : Int) = n := IntWalk.u64_in _ (by omega)
  go_enter Tryz.func122, Tryz.ntmps122
  go_wp2_with fail
  refine HL.out.mono ?_
  rintro e w1 ⟨rfl, rfl⟩
  go_wp2_with fail
  refine (HP.out _).mono ?_
  rintro e w1 ⟨rfl, rfl⟩
  go_wp2
  go_end0
  exact ⟨rfl, rfl⟩
theorem compact_tiny (A : Option Addr) (n c : Nat) (f : Value) (w : World) (hn : n ≤ 1) :
    Calls Tryz.prog 123 #[.slice A n c, f] w fun e w' => e = .returned (.slice A n c) ∧ w = w' := by
  have hf : decide ((n : Int) < 2) = true := by simp; omega
  have hf2 : (n : Int) < 2 := by omega
  have hf3 : n < 2 := by omega
  go_enter Tryz.func123, Tryz.ntmps123
  go_wp2
  go_ret
  exact ⟨rfl, rfl⟩
end Go.Proofs.YtmodjokoggmnaaaGreatDoor


namespace Go.Proofs.YtmodjokoggmnaaaGreatDoor

open Go.RowKit Go.Shelf

theorem OwnG.base {α : Type} {enc : α → List Value} {T : TypeId} {k : Nat} {w : World} {b b' : Nat} {v : Value} {l : List α} (h : OwnG enc T k w b v l) (hb : b' ≤ b) : OwnG enc T k w b' v l := by
  refine ⟨h.1, ?_⟩
  rcases h.2 with hh | ⟨g, c, cur, e1, hbs, rest⟩
  · exact .inl hh
  · exact .inr ⟨g, c, cur, e1, by omega, rest⟩
theorem OwnG.nonnil {α : Type} {enc : α → List Value} {T : TypeId} {k : Nat} {w : World} {b : Nat} {v : Value} {x : α} {l : List α} (hk : ∀ x, (enc x).length = k) (h : OwnG enc T k w b v (x :: l)) : ∃ g cap, v = .slice (some ⟨g, 0, none⟩) (l.length + 1) cap ∧ b ≤ g ∧ g < w.heap.size ∧ l.length + 1 ≤ cap ∧ cap ≤ maxLen ∧ GRow enc k w w.heap.size (some ⟨g, 0, none⟩) (x :: l) := by
  obtain ⟨A, cap, e, hc, hm, hr⟩ := h.row hk
  rcases h.2 with ⟨_, h0⟩ | ⟨g, c, cur, e1, hbs, hh, _⟩
  · simp at h0
  · rw [e] at e1
    cases e1
    exact ⟨g, cap, e, hbs, (h.lt g (by rw [e]; rfl)).2, by simpa using hc, hm, hr⟩
set_option maxRecDepth 50000 in
set_option maxHeartbeats 1000000 in
theorem merged_one (f : SFact) (A : Addr) (c : Nat) (w : World) (h : GRow SFact.cells 2 w w.heap.size (some A) [f]) :
    Calls Tryz.prog 93 #[.slice (some A) 1 c, .slice none 0 0, .func (.func 94) #[] #[]] w fun e w' => (∃ v, e = .returned v ∧ OwnG SFact.cells 37 2 w' w.heap.size v [f]) ∧ Below w.heap.size w w' := by
  have HC := Lib.hid (cloneF_any [f] (some A) c (w.alloc (.cells #[.func (.func 94) #[] #[]] 44)) ((h.below (Nat.le_refl _) (bel_lit (Below.refl _ w) _)).wide (by simp)) (by simp) (by simp))
  rw [show [f].length = 1 from rfl] at HC
  go_enter Tryz.func93, Tryz.ntmps93
  go_wp2_with fail
  refine HC.out.mono ?_
  rintro e w1 ⟨⟨v1, rfl, ho1⟩, hb1⟩
  obtain ⟨g, cap, rfl, hg0, hg1, hc1, hcm, hr1⟩ := ho1.nonnil SFact.len
  have HO1 := Lib.hid ho1
  have HB1 := Lib.hid (bel_alloc (Below.refl _ w) hb1)
  have hbx : w1.cell? ⟨w.heap.size, 0, none⟩ = some (.func (.func 94) #[] #[]) := (hb1.cell (p := ⟨w.heap.size, 0, none⟩) (by simp)).trans (by go_simp)
  have hz1 : w.heap.size < w1.heap.size := by have := hb1.size; simp at this; omega
  have HR1 := Lib.hid hr1
  clear ho1 hb1 hr1
  go_wp2_with fail
  refine (cloneF_nil _).mono ?_
  rintro e w2 ⟨rfl, rfl⟩
  go_wp2_with fail
  refine (sort_tiny _ _ _ _ _ (by simp)).mono ?_
  rintro e w2 ⟨rfl, rfl⟩
  go_wp2_with fail
  refine (sort_tiny _ _ _ _ _ (by simp)).mono ?_
  rintro e w2 ⟨rfl, rfl⟩
  obtain ⟨i0, z, hi0, hz0, hz1, hz2, _⟩ := elt_fact.inf
  obtain ⟨w2, hmk, hm0, hgm⟩ := run_make_own (P := Tryz.prog) w1 w.heap.size 22 37 i0 z 2 elt_fact.und hi0 hz0 hz1 .i64 .i64 1 (by rw [hz2]; decide) (by unfold maxLen; decide) (by omega)
  have hm : OwnG SFact.cells 37 2 w2 w.heap.size (.slice (some ⟨w1.heap.size, 0, none⟩) 0 1) [] := hm0
  have hmk' : (Instr.makeSlice 22 (.int .i64 0) (.int .i64 1)).run Tryz.prog w1 = .ok (.slice (some ⟨w1.heap.size, 0, none⟩) 0 1) w2 := hmk
  have hb12 : Below w1.heap.size w1 w2 := (Below.refl _ _).grown hgm (Nat.le_refl _) (fun k hk => by cases hk)
  have hs12 := hb12.size
  obtain ⟨v3, w3, hrun3, hown3, hgr3, _⟩ := OwnG.app elt_fact SFact.len SFact.one hm cap ((HR1.out.below (Nat.le_refl _) hb12).wide hs12) (by omega) (by unfold maxLen; simp) (by simp)
  rw [List.nil_append] at hown3
  obtain ⟨v4, w4, hrun4, hown4, hgr4, _⟩ := OwnG.app elt_fact SFact.len SFact.one hown3 0 (GRow.nil (A := none) (B := 0)) (by have := hgr3.size; omega) (by unfold maxLen; simp) (by simp)
  rw [List.append_nil] at hown4
  obtain ⟨g3, cap3, rfl, _, _, _, _, _⟩ := hown3.nonnil SFact.len
  have HB3 := Lib.hid (below_of_own (bel_next HB1.out hb12) hgr3 (fun g hg => by simp [Value.ownBlock] at hg; omega))
  have HB4 := Lib.hid (below_of_own HB3.out hgr4 (fun g hg => (hown3.lt g hg).1))
  have HR3 := Lib.hid hrun3
  have HR4 := Lib.hid hrun4
  obtain ⟨g4, cap4, rfl, _, _, _, _, _⟩ := hown4.nonnil SFact.len
  have HO4 := Lib.hid hown4
  have HCT := Lib.hid fun F W => compact_tiny (some ⟨g4, 0, none⟩) 1 cap4 F W (by simp)
  clear hm hm0 hmk hgm hb12 hrun3 hown3 hgr3 hrun4 hown4 hgr4 hi0 hz0 hz1 hz2
  simp only [List.length_nil, Nat.zero_add] at *
  go_wp2
  go_loopw [0, 1, 7] (fun va vb vl wr => va = .slice (some ⟨g, 0, none⟩) 1 cap ∧ vb = .slice none 0 0 ∧ vl = .slice (some ⟨w1.heap.size, 0, none⟩) 0 1 ∧ wr = w2) (fun _ _ _ _ => 0)
  case atStart => exact ⟨rfl, rfl, rfl, rfl⟩
  case round =>
    obtain ⟨rfl, rfl, rfl, rfl⟩ := hrel
    clear hmk'
    go_wp2_with (at_builtin; (first | refine wpList_gapp (s := .tmp 51) (x := .tmp 52) HR3.out rfl rfl rfl rfl rfl ?_ | refine wpList_gapp (s := .tmp 53) (x := .tmp 54) HR4.out rfl rfl rfl rfl rfl ?_))
    refine (HCT.out _ _).mono ?_
    rintro e w5 ⟨rfl, rfl⟩
    go_wp2
    go_ret
    exact ⟨⟨_, rfl, HO4.out⟩, HB4.out⟩
end Go.Proofs.YtmodjokoggmnaaaGreatDoor


namespace Go.Proofs.YtmodjokoggmnaaaGreatDoor

open Go.RowKit Go.Shelf

def OneSet (f : SFact) (vs : List GVal) (w : World) (e : Ending) (w' : World) : Prop :=
  ∃ v A n c, e = .returned v ∧ OwnG SFact.cells 37 2 w' w.heap.size v [⟨f.rel, A, n, c⟩] ∧ OwnG GVal.cells 40 3 w' w.heap.size (.slice A n c) vs ∧ Below w.heap.size w w'
def UnionRel (f : SFact) (vs : List GVal) (w : World) (g cap : Nat) (vi : Value) (wr : World) : Prop :=
  (vi = .int .i64 0 ∧ OwnG SFact.cells 37 2 wr w.heap.size (.slice (some ⟨g, 0, none⟩) 1 cap) [f] ∧ Below w.heap.size w wr) ∨
  (vi = .int .i64 1 ∧ ∃ A n c, OwnG SFact.cells 37 2 wr w.heap.size (.slice (some ⟨g, 0, none⟩) 1 cap) [⟨f.rel, A, n, c⟩] ∧ OwnG GVal.cells 40 3 wr w.heap.size (.slice A n c) vs ∧ Below w.heap.size w wr)
/-- A store into the second cell of the one fact of an own row. -/
theorem OwnG.setArgs {w : World} {base g cap : Nat} {f : SFact} {A : Option Addr} {n c : Nat} (h : OwnG SFact.cells 37 2 w base (.slice (some ⟨g, 0, none⟩) 1 cap) [f]) :
    OwnG SFact.cells 37 2 (w.setCell ⟨g, 1, none⟩ (.slice A n c)) base (.slice (some ⟨g, 0, none⟩) 1 cap) [⟨f.rel, A, n, c⟩] := by
  refine ⟨rfl, ?_⟩
  rcases h.2 with ⟨hh, _⟩ | ⟨g', cap', cur, e, hb, hh, hn, hm, hs, ht⟩
  · cases hh
  · cases e
    have hlen : 2 ≤ cur.size := by rw [hs]; simp at hn; omega
    refine .inr ⟨g, cap, cur.set! 1 (.slice A n c), rfl, hb, by simp [World.setCell, Array.getElem?_modify, hh], hn, hm, by simp [hs], ?_⟩
    obtain ⟨l⟩ := cur
    match l, hlen, ht with
    | a :: b :: r, _, ht =>
      simp [gcells, SFact.cells] at ht ⊢
      exact ht.1
theorem OwnG.other {α : Type} {enc : α → List Value} {T : TypeId} {k : Nat} {w : World} {base : Nat} {v : Value} {l : List α} (h : OwnG enc T k w base v l) (a : Addr) (u : Value) (ha : v.ownBlock ≠ some a.block) : OwnG enc T k (w.setCell a u) base v l :=
  h.keep fun g hg => Below.heap_setCell _ _ _ g (by intro e; apply ha; rw [hg, e])
/-- Two own rows of different element types lie in different blocks. -/
theorem own_apart {w : World} {b1 b2 : Nat} {v1 v2 : Value} {vs : List GVal} {fs : List SFact} (h1 : OwnG GVal.cells 40 3 w b1 v1 vs) (h2 : OwnG SFact.cells 37 2 w b2 v2 fs) : ∀ g, v2.ownBlock = some g → v1.ownBlock ≠ some g := by
  intro g hg hg1
  rcases h1.2 with ⟨rfl, _⟩ | ⟨g1, c1, cur1, rfl, _, hh1, _⟩
  · simp [Value.ownBlock] at hg1
  · rcases h2.2 with ⟨rfl, _⟩ | ⟨g2, c2, cur2, rfl, _, hh2, _⟩
    · simp [Value.ownBlock] at hg
    · simp [Value.ownBlock] at hg hg1
      subst hg hg1
      rw [hh1] at hh2
      simp at hh2
set_option maxRecDepth 50000 in
set_option maxHeartbeats 1000000 in
theorem union_one (f : SFact) (vs : List GVal) (A : Addr) (c : Nat) (w : World) (h : GRow SFact.cells 2 w w.heap.size (some A) [f]) (hn : f.n = vs.length) (hA : f.A ≠ none) (hv : GRow GVal.cells 3 w w.heap.size f.A vs) (hl : vs.length ≤ 1000000) :
    Calls Tryz.prog 54 #[.slice (some A) 1 c, .slice none 0 0] w (OneSet f vs w) := by
  have HM := Lib.hid (merged_one f A c w h)
  have HV := Lib.hid hv
  have HCL := Lib.hid fun W (hW : Below w.heap.size w W) => cloneV_any vs f.A f.c W ((hv.below (Nat.le_refl _) hW).wide hW.size) hA hl
  clear h hv hA
  obtain ⟨fr, fA, fn, fc⟩ := f
  simp only at *
  subst hn
  go_enter Tryz.func54, Tryz.ntmps54
  go_wp2_with fail
  refine HM.out.mono ?_
  rintro e w1 ⟨⟨v1, rfl, ho1⟩, hb1⟩
  obtain ⟨g, cap, rfl, hg0, hg1, hc1, hcm, hr1⟩ := ho1.nonnil SFact.len
  simp only [List.length_nil, Nat.zero_add] at *
  have HO1 := Lib.hid ho1
  have HB1 := Lib.hid hb1
  clear ho1 hb1 hr1 HM
  go_wp2
  go_loopw [13] (fun vi wr => UnionRel ⟨fr, fA, vs.length, fc⟩ vs w g cap vi wr) (fun vi _ => 1 - (intOf vi).toNat)
  case atStart => exact .inl ⟨rfl, HO1.out, HB1.out⟩
  case round =>
    rcases hrel with ⟨rfl, ho, hb⟩ | ⟨rfl, A3, n3, c3, ho, hv3, hb⟩
    · obtain ⟨g', cap', e', _, hgw, _, _, hr⟩ := ho.nonnil SFact.len
      cases e'
      obtain ⟨b, off, e2, _, hc⟩ := hr (by simp)
      cases e2
      have x0 := hc 0 (by simp) 0 _ rfl
      have x1 := hc 0 (by simp) 1 _ rfl
      simp only [Nat.zero_mul, Nat.zero_add, Nat.add_zero] at x0 x1
      have HO := Lib.hid ho
      have HB := Lib.hid hb
      have HC := Lib.hid (HCL.out _ (bel_lit hb (.cells #[.string ⟨fr.toArray⟩, .slice fA vs.length fc] 37)))
      clear ho hb hr hc
      go_wp2_with fail
      refine HC.out.mono ?_
      rintro e w2 ⟨⟨v2, rfl, hv2⟩, hb2⟩
      obtain ⟨A2, c2, rfl, _, _, _⟩ := hv2.row GVal.len
      have hbase : w.heap.size ≤ (wr.alloc (.cells #[.string ⟨fr.toArray⟩, .slice fA vs.length fc] 37)).heap.size := by have := HB.out.size; simp; omega
      have HO2 := Lib.hid ((HO.out.alloc (.cells #[.string ⟨fr.toArray⟩, .slice fA vs.length fc] 37)).next hb2)
      have HV2 := Lib.hid (hv2.base hbase)
      have HB2 := Lib.hid (bel_alloc HB.out hb2)
      have hz : wr.heap.size < w2.heap.size := by have := hb2.size; simp at this; omega
      have y1 : w2.cell? ⟨g, 1, none⟩ = some (.slice fA vs.length fc) := (hb2.cell (p := ⟨g, 1, none⟩) (by simp; omega)).trans (by rw [World.cell?_of_block (a := ⟨g, 1, none⟩) (Below.heap_alloc wr _ g hgw)]; exact x1)
      have hfz : w2.frozen? ⟨g, 1, none⟩ = false := by
        rcases HO2.out.2 with ⟨hh, _⟩ | ⟨g', cap', cur, e3, _, hh, _⟩
        · cases hh
        · cases e3; exact Lib.frozen_of_heap hh 1
      have HAP := Lib.hid (own_apart HV2.out HO2.out g rfl)
      clear hv2 hb2 hbase
      go_wp2
      go_roundw
      case rel => exact .inr ⟨by go_num, A2, vs.length, c2, HO2.out.setArgs, HV2.out.other _ _ HAP.out, HB2.out.setCell hg0 _⟩
      case measure => simp [intOf]
    · have HO := Lib.hid ho
      have HV3 := Lib.hid hv3
      have HB := Lib.hid hb
      clear ho hv3 hb
      go_wp2
      go_ret
      exact ⟨_, A3, n3, c3, rfl, HO.out, HV3.out, HB.out⟩
theorem setOf_one (f : SFact) (vs : List GVal) (A : Addr) (c : Nat) (w : World) (h : GRow SFact.cells 2 w w.heap.size (some A) [f]) (hn : f.n = vs.length) (hA : f.A ≠ none) (hv : GRow GVal.cells 3 w w.heap.size f.A vs) (hl : vs.length ≤ 1000000) :
    Calls Tryz.prog 23 #[.slice (some A) 1 c] w (OneSet f vs w) := by
  have HU := Lib.hid (union_one f vs A c w h hn hA hv hl)
  clear h hn hA hv hl
  go_enter Tryz.func23, Tryz.ntmps23
  go_wp2_with fail
  refine HU.out.mono ?_
  rintro e w1 ⟨v, A1, n1, c1, rfl, h1, h2, h3⟩
  go_wp2
  go_ret
  exact ⟨_, A1, n1, c1, rfl, h1, h2, h3⟩
end Go.Proofs.YtmodjokoggmnaaaGreatDoor
