/-
  The reference's Child and ParentOf.
  Conditions: none.
-/
import Derived.Test.YtndppbfdcceflaaGreatDoorNac
import Derived.Test.YtndppbfdcceflaaGreatDoorGrt
namespace Go.Proofs.YtndppbfdcceflaaGreatDoor

open Go.RowKit

theorem OwnG.low {α : Type} {enc : α → List Value} {T : TypeId} {k : Nat} {w : World} {b b' : Nat} {v : Value} {l : List α} (h : OwnG enc T k w b v l) (hb : b' ≤ b) : OwnG enc T k w b' v l := by
  refine ⟨h.1, ?_⟩
  rcases h.2 with hh | ⟨g, c, cur, e1, hbs, rest⟩
  · exact .inl hh
  · exact .inr ⟨g, c, cur, e1, by omega, rest⟩
theorem lit_id (w : World) (x : GId) : GRow GId.cells 3 (w.alloc (.cells #[.int .i64 x.core, .int .i64 x.op, .int .i64 x.part] 25)) (w.heap.size + 1) (some ⟨w.heap.size, 0, none⟩) [x] := by
  have h := (OwnG.lit GId.len w w.heap.size (T := 25) [x] #[.int .i64 x.core, .int .i64 x.op, .int .i64 x.part] rfl (Nat.le_refl _) (by unfold maxLen; simp)).row GId.len
  obtain ⟨A, c', e, _, _, hr⟩ := h
  cases e
  simpa using hr
/-- An Id that lies in a new block is appended to a row of the call's own. -/
theorem OwnI.lit {w1 : World} {base : Nat} {v : Value} {xs : List GId} (h : OwnG GId.cells 25 3 w1 base v xs) (hb : base ≤ w1.heap.size) (x : GId) (hl : xs.length ≤ 1000000) :
    ∃ v' w', (Builtin.append_ #[26, 26] 26 #[v, .slice (some ⟨w1.heap.size, 0, none⟩) 1 1]).run Tryz.prog (w1.alloc (.cells #[.int .i64 x.core, .int .i64 x.op, .int .i64 x.part] 25)) = .ok v' w' ∧ OwnG GId.cells 25 3 w' base v' (xs ++ [x]) ∧ (w1.alloc (.cells #[.int .i64 x.core, .int .i64 x.op, .int .i64 x.part] 25)).grownBy w' v.ownBlock ∧ (∀ g, v.ownBlock = some g → base ≤ g) := by
  obtain ⟨v', w', hrun, hown, hg, _⟩ := OwnG.app elt_id GId.len GId.one (h.alloc (.cells #[.int .i64 x.core, .int .i64 x.op, .int .i64 x.part] 25)) 1 (lit_id w1 x) (by simp; omega) (by unfold maxLen; simp; omega) (by simp; omega)
  exact ⟨v', w', hrun, hown, hg, fun g e => (h.lt g e).1⟩
def CH1 (s : GN) (i : GId) (c : GC) : Prop := vN s = true ∧ vI i = true ∧ vC c = true ∧ i ≠ s.id ∧ hasI s.path i = false
instance (s : GN) (i : GId) (c : GC) : Decidable (CH1 s i c) := by unfold CH1; infer_instance
/-- The error of Child; 0 if there is none. -/
def chE (s : GN) (i : GId) (c : GC) : Int := if CH1 s i c then (if s.path.length = 8 then 9 else 0) else 1
def zN : GN := ⟨⟨0, 0, 0⟩, [], ⟨0, 0, 0, 0, 0, 0, false⟩⟩
def chN (s : GN) (i : GId) (c : GC) : GN := if chE s i c = 0 then ⟨i, s.path ++ [s.id], c⟩ else zN
/-- What Child hands back: a node in memory of the call's own, and an error. -/
def ChEnd (q : Int) (x : GN) (w : World) (e : Ending) (w' : World) : Prop := ∃ A c, e = .returned (.tuple #[x.val A c, .int .i64 q]) ∧ x.path.length ≤ c ∧ OwnG GId.cells 25 3 w' w.heap.size (.slice A x.path.length c) x.path ∧ Below w.heap.size w w'
theorem ch_bad {s : GN} {i : GId} {c : GC} (h : chE s i c ≠ 0) (w W : World) (hb : Below w.heap.size w W) : ChEnd (chE s i c) (chN s i c) w (.returned (.tuple #[.agg #[.int .i64 0, .int .i64 0, .int .i64 0, .slice none 0 0, .int .i64 0, .int .i64 0, .int .i64 0, .int .i64 0, .int .i64 0, .int .i64 0, .bool false], .int .i64 (chE s i c)])) W := by
  have e : chN s i c = zN := by unfold chN; rw [if_neg h]
  rw [e]
  exact ⟨none, 0, rfl, by simp [zN], OwnG.nil _ _, hb⟩
theorem ch_1 {s : GN} {i : GId} {c : GC} (h : ¬ CH1 s i c) : chE s i c = 1 := by unfold chE; rw [if_neg h]
theorem ch_9 {s : GN} {i : GId} {c : GC} (h : CH1 s i c) (h8 : s.path.length = 8) : chE s i c = 9 := by unfold chE; rw [if_pos h, if_pos h8]
theorem ch_0 {s : GN} {i : GId} {c : GC} (h : CH1 s i c) (h8 : s.path.length ≠ 8) : chE s i c = 0 ∧ chN s i c = ⟨i, s.path ++ [s.id], c⟩ := by
  have e : chE s i c = 0 := by unfold chE; rw [if_pos h, if_neg h8]
  exact ⟨e, by unfold chN; rw [if_pos e]⟩
theorem CH1.short {s : GN} {i : GId} {c : GC} (h : CH1 s i c) : s.path.length ≤ 8 := by
  have h1 := h.1
  unfold vN at h1
  simp only [Bool.and_eq_true, decide_eq_true_eq] at h1
  exact h1.1.1.2
set_option maxRecDepth 20000 in
set_option maxHeartbeats 4000000 in
theorem rChi_any (s : GN) (A : Option Addr) (c : Nat) (i : GId) (a : GC) (w : World) (h1 : PRow w w.heap.size A s.path) (hl : s.path.length ≤ 17179869184) (hc : s.path.length ≤ c) :
    Calls Tryz.prog 44 #[s.val A c, i.val, a.val] w (ChEnd (chE s i a) (chN s i a) w) := by
  have HV := Lib.hid fun W (hW : Below w.heap.size w W) => rVN_any s A c W (h1.next hW) hl hc
  have HVI := Lib.hid fun W => rVId_any i W
  have HVC := Lib.hid fun W => rVC_any a W
  have HEQ := Lib.hid fun W => id_eql i s.id W
  have HH := Lib.hid fun W (hW : Below w.heap.size w W) => rHas_any s.path A c i W (h1.next hW) hl
  have HCP := Lib.hid fun W (hW : Below w.heap.size w W) => rCopy_any s.path A c W (h1.next hW) hl
  have HX : Hid (∀ q, chE s i a = q → q ≠ 0 → ∀ W, Below w.heap.size w W → ChEnd (chE s i a) (chN s i a) w (.returned (.tuple #[.agg #[.int .i64 0, .int .i64 0, .int .i64 0, .slice none 0 0, .int .i64 0, .int .i64 0, .int .i64 0, .int .i64 0, .int .i64 0, .int .i64 0, .bool false], .int .i64 q])) W) := Lib.hid fun q hq h0 W hb => by subst hq; exact ch_bad h0 w W hb
  have HCH : Hid (CH1 s i a ↔ vN s = true ∧ vI i = true ∧ vC a = true ∧ eqI i s.id = false ∧ hasI s.path i = false) := Lib.hid (by
    unfold CH1
    rw [← Bool.not_eq_true (eqI i s.id), eqI_iff])
  have H1 := Lib.hid (ch_1 (s := s) (i := i) (c := a))
  have H9 := Lib.hid (ch_9 (s := s) (i := i) (c := a))
  have H0 := Lib.hid (ch_0 (s := s) (i := i) (c := a))
  have HSH := Lib.hid (CH1.short (s := s) (i := i) (c := a))
  have HFIN : Hid (∀ A' c' (W : World), chE s i a = 0 → chN s i a = ⟨i, s.path ++ [s.id], a⟩ → s.path.length + 1 ≤ c' → OwnG GId.cells 25 3 W w.heap.size (.slice A' (s.path.length + 1) c') (s.path ++ [s.id]) → Below w.heap.size w W → ChEnd (chE s i a) (chN s i a) w (.returned (.tuple #[.agg #[.int .i64 i.core, .int .i64 i.op, .int .i64 i.part, .slice A' (s.path.length + 1) c', .int .i64 a.kind, .int .i64 a.base, .int .i64 a.bits, .int .i64 a.rights, .int .i64 a.width, .int .i64 a.level, .bool a.device], .int .i64 0])) W) := Lib.hid fun A' c' W e1 e2 hcc hr hb => by
    rw [e1, e2]
    exact ⟨A', c', by unfold GN.val; simp, by simpa using hcc, by simpa using hr, hb⟩
  generalize ChEnd (chE s i a) (chN s i a) w = EE at *
  generalize CH1 s i a = ch at *
  generalize chE s i a = q at *
  generalize chN s i a = xn at *
  generalize vN s = vs at *
  generalize vI i = vi at *
  generalize vC a = vc at *
  generalize eqI i s.id = eqq at *
  generalize hasI s.path i = hs at *
  have HSN := Lib.hid (NB.new w s.id A s.path.length c s.cap)
  unfold GN.val at *
  generalize hid : s.id = si at *
  generalize hcp : s.cap = sc at *
  generalize s.path = xs at *
  clear h1 hid hcp
  obtain ⟨s0, s1, s2⟩ := si
  obtain ⟨p0, p1, p2, p3, p4, p5, p6⟩ := sc
  obtain ⟨i0, i1, i2⟩ := i
  obtain ⟨a0, a1, a2, a3, a4, a5, a6⟩ := a
  generalize hn : xs.length = n at *
  simp only [GId.val, GC.val] at *
  have hw1 := belt (Below.refl _ w) (.cells #[.int .i64 s0, .int .i64 s1, .int .i64 s2, .slice A n c, .int .i64 p0, .int .i64 p1, .int .i64 p2, .int .i64 p3, .int .i64 p4, .int .i64 p5, .bool p6] 30)
  have HB0 : Hid (Below w.heap.size w ((((w.alloc (.cells #[.int .i64 s0, .int .i64 s1, .int .i64 s2, .slice A n c, .int .i64 p0, .int .i64 p1, .int .i64 p2, .int .i64 p3, .int .i64 p4, .int .i64 p5, .bool p6] 30)).alloc (.cells #[.int .i64 i0, .int .i64 i1, .int .i64 i2] 25)).alloc (.cells #[.int .i64 a0, .int .i64 a1, .int .i64 a2, .int .i64 a3, .int .i64 a4, .int .i64 a5, .bool a6] 28)).alloc (.cells #[.int .i64 0, .int .i64 0, .int .i64 0, .slice none 0 0, .int .i64 0, .int .i64 0, .int .i64 0, .int .i64 0, .int .i64 0, .int .i64 0, .bool false] 30))) := Lib.hid (belt (belt (belt hw1 _) _) _)
  have HS0 : Hid (NB ((((w.alloc (.cells #[.int .i64 s0, .int .i64 s1, .int .i64 s2, .slice A n c, .int .i64 p0, .int .i64 p1, .int .i64 p2, .int .i64 p3, .int .i64 p4, .int .i64 p5, .bool p6] 30)).alloc (.cells #[.int .i64 i0, .int .i64 i1, .int .i64 i2] 25)).alloc (.cells #[.int .i64 a0, .int .i64 a1, .int .i64 a2, .int .i64 a3, .int .i64 a4, .int .i64 a5, .bool a6] 28)).alloc (.cells #[.int .i64 0, .int .i64 0, .int .i64 0, .slice none 0 0, .int .i64 0, .int .i64 0, .int .i64 0, .int .i64 0, .int .i64 0, .int .i64 0, .bool false] 30)) w.heap.size ⟨s0, s1, s2⟩ A n c ⟨p0, p1, p2, p3, p4, p5, p6⟩) := Lib.hid (HSN.out.next (belt (belt (belt (Below.refl _ _) _) _) _))
  have HI0 : Hid (IB ((((w.alloc (.cells #[.int .i64 s0, .int .i64 s1, .int .i64 s2, .slice A n c, .int .i64 p0, .int .i64 p1, .int .i64 p2, .int .i64 p3, .int .i64 p4, .int .i64 p5, .bool p6] 30)).alloc (.cells #[.int .i64 i0, .int .i64 i1, .int .i64 i2] 25)).alloc (.cells #[.int .i64 a0, .int .i64 a1, .int .i64 a2, .int .i64 a3, .int .i64 a4, .int .i64 a5, .bool a6] 28)).alloc (.cells #[.int .i64 0, .int .i64 0, .int .i64 0, .slice none 0 0, .int .i64 0, .int .i64 0, .int .i64 0, .int .i64 0, .int .i64 0, .int .i64 0, .bool false] 30)) (w.heap.size + 1) ⟨i0, i1, i2⟩) := Lib.hid (by
    have h := (IB.new (w.alloc (.cells #[.int .i64 s0, .int .i64 s1, .int .i64 s2, .slice A n c, .int .i64 p0, .int .i64 p1, .int .i64 p2, .int .i64 p3, .int .i64 p4, .int .i64 p5, .bool p6] 30)) ⟨i0, i1, i2⟩).next (belt (belt (Below.refl _ _) (.cells #[.int .i64 a0, .int .i64 a1, .int .i64 a2, .int .i64 a3, .int .i64 a4, .int .i64 a5, .bool a6] 28)) (.cells #[.int .i64 0, .int .i64 0, .int .i64 0, .slice none 0 0, .int .i64 0, .int .i64 0, .int .i64 0, .int .i64 0, .int .i64 0, .int .i64 0, .bool false] 30))
    simpa using h)
  have HC0 : Hid (CB ((((w.alloc (.cells #[.int .i64 s0, .int .i64 s1, .int .i64 s2, .slice A n c, .int .i64 p0, .int .i64 p1, .int .i64 p2, .int .i64 p3, .int .i64 p4, .int .i64 p5, .bool p6] 30)).alloc (.cells #[.int .i64 i0, .int .i64 i1, .int .i64 i2] 25)).alloc (.cells #[.int .i64 a0, .int .i64 a1, .int .i64 a2, .int .i64 a3, .int .i64 a4, .int .i64 a5, .bool a6] 28)).alloc (.cells #[.int .i64 0, .int .i64 0, .int .i64 0, .slice none 0 0, .int .i64 0, .int .i64 0, .int .i64 0, .int .i64 0, .int .i64 0, .int .i64 0, .bool false] 30)) (w.heap.size + 1 + 1) ⟨a0, a1, a2, a3, a4, a5, a6⟩) := Lib.hid (by
    have h := (CB.new ((w.alloc (.cells #[.int .i64 s0, .int .i64 s1, .int .i64 s2, .slice A n c, .int .i64 p0, .int .i64 p1, .int .i64 p2, .int .i64 p3, .int .i64 p4, .int .i64 p5, .bool p6] 30)).alloc (.cells #[.int .i64 i0, .int .i64 i1, .int .i64 i2] 25)) ⟨a0, a1, a2, a3, a4, a5, a6⟩).next (belt (Below.refl _ _) (.cells #[.int .i64 0, .int .i64 0, .int .i64 0, .slice none 0 0, .int .i64 0, .int .i64 0, .int .i64 0, .int .i64 0, .int .i64 0, .int .i64 0, .bool false] 30))
    simpa using h)
  have HZ0 : Hid (NB ((((w.alloc (.cells #[.int .i64 s0, .int .i64 s1, .int .i64 s2, .slice A n c, .int .i64 p0, .int .i64 p1, .int .i64 p2, .int .i64 p3, .int .i64 p4, .int .i64 p5, .bool p6] 30)).alloc (.cells #[.int .i64 i0, .int .i64 i1, .int .i64 i2] 25)).alloc (.cells #[.int .i64 a0, .int .i64 a1, .int .i64 a2, .int .i64 a3, .int .i64 a4, .int .i64 a5, .bool a6] 28)).alloc (.cells #[.int .i64 0, .int .i64 0, .int .i64 0, .slice none 0 0, .int .i64 0, .int .i64 0, .int .i64 0, .int .i64 0, .int .i64 0, .int .i64 0, .bool false] 30)) (w.heap.size + 1 + 1 + 1) ⟨0, 0, 0⟩ none 0 0 ⟨0, 0, 0, 0, 0, 0, false⟩) := Lib.hid (by
    have h := NB.new (((w.alloc (.cells #[.int .i64 s0, .int .i64 s1, .int .i64 s2, .slice A n c, .int .i64 p0, .int .i64 p1, .int .i64 p2, .int .i64 p3, .int .i64 p4, .int .i64 p5, .bool p6] 30)).alloc (.cells #[.int .i64 i0, .int .i64 i1, .int .i64 i2] 25)).alloc (.cells #[.int .i64 a0, .int .i64 a1, .int .i64 a2, .int .i64 a3, .int .i64 a4, .int .i64 a5, .bool a6] 28)) ⟨0, 0, 0⟩ none 0 0 ⟨0, 0, 0, 0, 0, 0, false⟩
    simpa using h)
  have HSC : Hid (∀ (W : World) (p : Value) (k : Nat), w.heap.size ≤ k → Below w.heap.size w W → ∀ j, Below w.heap.size w (W.setCell ⟨k, j, none⟩ p)) := Lib.hid fun W p k hk hb j => hb.setCell (p := ⟨k, j, none⟩) hk p
  clear hw1 HSN
  go_enter Tryz.func44, Tryz.ntmps44
  go_wp2_with fail
  go_fit (HV.out _ HB0.out)
  rintro e w1 ⟨rfl, hb1⟩
  have HS1 := Lib.hid (HS0.out.next hb1)
  have HI1 := Lib.hid (HI0.out.next hb1)
  have HC1 := Lib.hid (HC0.out.next hb1)
  have HZ1 := Lib.hid (HZ0.out.next hb1)
  have HB1 := Lib.hid (beln HB0.out hb1)
  clear hb1 HS0 HI0 HC0 HZ0 HB0
  obtain ⟨c0, c1, c2, c3, c4, c5, c6, c7, c8, c9, c10⟩ := HS1.out.cells
  obtain ⟨j0, j1, j2⟩ := HI1.out.cells
  obtain ⟨k0, k1, k2, k3, k4, k5, k6⟩ := HC1.out.cells
  simp only at c0 c1 c2 c3 c4 c5 c6 c7 c8 c9 c10 j0 j1 j2 k0 k1 k2 k3 k4 k5 k6
  rcases vs with _ | _
  · have hq := H1.out fun h => by have := (HCH.out.1 h).1; cases this
    have HE := Lib.hid (HX.out 1 hq (by decide))
    clear HX
    obtain ⟨z0, z1, z2, z3, z4, z5, z6, z7, z8, z9, z10⟩ := HZ1.out.cells
    have zf := HZ1.out.frz
    have zl := HZ1.out.lt
    simp only at z0 z1 z2 z3 z4 z5 z6 z7 z8 z9 z10
    go_wp2
    refine bodyPost_ret (v := .tuple #[.agg #[.int .i64 0, .int .i64 0, .int .i64 0, .slice none 0 0, .int .i64 0, .int .i64 0, .int .i64 0, .int .i64 0, .int .i64 0, .int .i64 0, .bool false], .int .i64 1]) (by simp [results, Tryz.results44, go_sem, z0, z1, z2, z3, z4, z5, z6, z7, z8, z9, z10]) rfl ?_
    refine HE.out _ ?_
    repeat (refine HSC.out _ _ _ (by omega) ?_ _)
    exact HB1.out
  go_wp2_with fail
  go_fit (HVI.out _)
  rintro e w2 ⟨rfl, hb2⟩
  clear c0 c1 c2 c3 c4 c5 c6 c7 c8 c9 c10 j0 j1 j2 k0 k1 k2 k3 k4 k5 k6
  have HS2 := Lib.hid (HS1.out.next hb2)
  have HI2 := Lib.hid (HI1.out.next hb2)
  have HC2 := Lib.hid (HC1.out.next hb2)
  have HZ2 := Lib.hid (HZ1.out.next hb2)
  have HB2 := Lib.hid (beln HB1.out hb2)
  clear hb2 HS1 HI1 HC1 HZ1 HB1
  obtain ⟨c0, c1, c2, c3, c4, c5, c6, c7, c8, c9, c10⟩ := HS2.out.cells
  obtain ⟨j0, j1, j2⟩ := HI2.out.cells
  obtain ⟨k0, k1, k2, k3, k4, k5, k6⟩ := HC2.out.cells
  simp only at c0 c1 c2 c3 c4 c5 c6 c7 c8 c9 c10 j0 j1 j2 k0 k1 k2 k3 k4 k5 k6
  rcases vi with _ | _
  · have hq := H1.out fun h => by have := (HCH.out.1 h).2.1; cases this
    have HE := Lib.hid (HX.out 1 hq (by decide))
    clear HX
    obtain ⟨z0, z1, z2, z3, z4, z5, z6, z7, z8, z9, z10⟩ := HZ2.out.cells
    have zf := HZ2.out.frz
    have zl := HZ2.out.lt
    simp only at z0 z1 z2 z3 z4 z5 z6 z7 z8 z9 z10
    go_wp2
    refine bodyPost_ret (v := .tuple #[.agg #[.int .i64 0, .int .i64 0, .int .i64 0, .slice none 0 0, .int .i64 0, .int .i64 0, .int .i64 0, .int .i64 0, .int .i64 0, .int .i64 0, .bool false], .int .i64 1]) (by simp [results, Tryz.results44, go_sem, z0, z1, z2, z3, z4, z5, z6, z7, z8, z9, z10]) rfl ?_
    refine HE.out _ ?_
    repeat (refine HSC.out _ _ _ (by omega) ?_ _)
    exact HB2.out
  go_wp2_with fail
  go_fit (HVC.out _)
  rintro e w3 ⟨rfl, hb3⟩
  clear c0 c1 c2 c3 c4 c5 c6 c7 c8 c9 c10 j0 j1 j2 k0 k1 k2 k3 k4 k5 k6
  have HS3 := Lib.hid (HS2.out.next hb3)
  have HI3 := Lib.hid (HI2.out.next hb3)
  have HC3 := Lib.hid (HC2.out.next hb3)
  have HZ3 := Lib.hid (HZ2.out.next hb3)
  have HB3 := Lib.hid (beln HB2.out hb3)
  clear hb3 HS2 HI2 HC2 HZ2 HB2
  obtain ⟨c0, c1, c2, c3, c4, c5, c6, c7, c8, c9, c10⟩ := HS3.out.cells
  obtain ⟨j0, j1, j2⟩ := HI3.out.cells
  obtain ⟨k0, k1, k2, k3, k4, k5, k6⟩ := HC3.out.cells
  simp only at c0 c1 c2 c3 c4 c5 c6 c7 c8 c9 c10 j0 j1 j2 k0 k1 k2 k3 k4 k5 k6
  have heq := fun W => HEQ.out W
  rcases vc with _ | _
  · have hq := H1.out fun h => by have := (HCH.out.1 h).2.2.1; cases this
    have HE := Lib.hid (HX.out 1 hq (by decide))
    clear HX
    obtain ⟨z0, z1, z2, z3, z4, z5, z6, z7, z8, z9, z10⟩ := HZ3.out.cells
    have zf := HZ3.out.frz
    have zl := HZ3.out.lt
    simp only at z0 z1 z2 z3 z4 z5 z6 z7 z8 z9 z10
    go_wp2
    refine bodyPost_ret (v := .tuple #[.agg #[.int .i64 0, .int .i64 0, .int .i64 0, .slice none 0 0, .int .i64 0, .int .i64 0, .int .i64 0, .int .i64 0, .int .i64 0, .int .i64 0, .bool false], .int .i64 1]) (by simp [results, Tryz.results44, go_sem, z0, z1, z2, z3, z4, z5, z6, z7, z8, z9, z10]) rfl ?_
    refine HE.out _ ?_
    repeat (refine HSC.out _ _ _ (by omega) ?_ _)
    exact HB3.out
  rcases eqq with _ | _
  rotate_left
  · have hq := H1.out fun h => by have := (HCH.out.1 h).2.2.2.1; cases this
    have HE := Lib.hid (HX.out 1 hq (by decide))
    clear HX
    obtain ⟨z0, z1, z2, z3, z4, z5, z6, z7, z8, z9, z10⟩ := HZ3.out.cells
    have zf := HZ3.out.frz
    have zl := HZ3.out.lt
    simp only at z0 z1 z2 z3 z4 z5 z6 z7 z8 z9 z10
    go_wp2
    refine bodyPost_ret (v := .tuple #[.agg #[.int .i64 0, .int .i64 0, .int .i64 0, .slice none 0 0, .int .i64 0, .int .i64 0, .int .i64 0, .int .i64 0, .int .i64 0, .int .i64 0, .bool false], .int .i64 1]) (by simp [results, Tryz.results44, go_sem, z0, z1, z2, z3, z4, z5, z6, z7, z8, z9, z10]) rfl ?_
    refine HE.out _ ?_
    repeat (refine HSC.out _ _ _ (by omega) ?_ _)
    exact HB3.out
  go_wp2_with fail
  go_fit (HH.out _ HB3.out)
  rintro e w4 ⟨rfl, hb4⟩
  clear c0 c1 c2 c3 c4 c5 c6 c7 c8 c9 c10 j0 j1 j2 k0 k1 k2 k3 k4 k5 k6
  have HS4 := Lib.hid (HS3.out.next hb4)
  have HI4 := Lib.hid (HI3.out.next hb4)
  have HC4 := Lib.hid (HC3.out.next hb4)
  have HZ4 := Lib.hid (HZ3.out.next hb4)
  have HB4 := Lib.hid (beln HB3.out hb4)
  clear hb4 HS3 HI3 HC3 HZ3 HB3
  obtain ⟨c0, c1, c2, c3, c4, c5, c6, c7, c8, c9, c10⟩ := HS4.out.cells
  obtain ⟨j0, j1, j2⟩ := HI4.out.cells
  obtain ⟨k0, k1, k2, k3, k4, k5, k6⟩ := HC4.out.cells
  simp only at c0 c1 c2 c3 c4 c5 c6 c7 c8 c9 c10 j0 j1 j2 k0 k1 k2 k3 k4 k5 k6
  clear heq
  rcases hs with _ | _
  rotate_left
  · have hq := H1.out fun h => by have := (HCH.out.1 h).2.2.2.2; cases this
    have HE := Lib.hid (HX.out 1 hq (by decide))
    clear HX
    obtain ⟨z0, z1, z2, z3, z4, z5, z6, z7, z8, z9, z10⟩ := HZ4.out.cells
    have zf := HZ4.out.frz
    have zl := HZ4.out.lt
    simp only at z0 z1 z2 z3 z4 z5 z6 z7 z8 z9 z10
    go_wp2
    refine bodyPost_ret (v := .tuple #[.agg #[.int .i64 0, .int .i64 0, .int .i64 0, .slice none 0 0, .int .i64 0, .int .i64 0, .int .i64 0, .int .i64 0, .int .i64 0, .int .i64 0, .bool false], .int .i64 1]) (by simp [results, Tryz.results44, go_sem, z0, z1, z2, z3, z4, z5, z6, z7, z8, z9, z10]) rfl ?_
    refine HE.out _ ?_
    repeat (refine HSC.out _ _ _ (by omega) ?_ _)
    exact HB4.out
  have hch := HCH.out.2 (by simp)
  have hn8 := HSH.out hch
  by_cases h8 : n = 8
  · have hq := H9.out hch h8
    have f8 : ((n : Int) == 8) = true := by simp; omega
    clear h8
    have HE := Lib.hid (HX.out 9 hq (by decide))
    clear HX
    obtain ⟨z0, z1, z2, z3, z4, z5, z6, z7, z8, z9, z10⟩ := HZ4.out.cells
    have zf := HZ4.out.frz
    have zl := HZ4.out.lt
    simp only at z0 z1 z2 z3 z4 z5 z6 z7 z8 z9 z10
    go_wp2
    refine bodyPost_ret (v := .tuple #[.agg #[.int .i64 0, .int .i64 0, .int .i64 0, .slice none 0 0, .int .i64 0, .int .i64 0, .int .i64 0, .int .i64 0, .int .i64 0, .int .i64 0, .bool false], .int .i64 9]) (by simp [results, Tryz.results44, go_sem, z0, z1, z2, z3, z4, z5, z6, z7, z8, z9, z10]) rfl ?_
    refine HE.out _ ?_
    repeat (refine HSC.out _ _ _ (by omega) ?_ _)
    exact HB4.out
  have f8 : ((n : Int) == 8) = false := by simp; omega
  obtain ⟨hq0, hxn⟩ := H0.out hch h8
  have HF0 := Lib.hid fun A' c' W u v x => HFIN.out A' c' W hq0 hxn u v x
  clear hq0 hxn hch h8 HX HCH H1 H9 H0 HSH HFIN HV HVI HEQ HH
  go_upto_region 5 with fail
  clear c0 c1 c2 c3 c4 c5 c6 c7 c8 c9 c10 j0 j1 j2 k0 k1 k2 k3 k4 k5 k6 HVC
  have hS : Below w.heap.size w w4.drew ∧ NB w4.drew w.heap.size ⟨s0, s1, s2⟩ A n c ⟨p0, p1, p2, p3, p4, p5, p6⟩ ∧ IB w4.drew (w.heap.size + 1) ⟨i0, i1, i2⟩ ∧ CB w4.drew (w.heap.size + 1 + 1) ⟨a0, a1, a2, a3, a4, a5, a6⟩ := ⟨HB4.out.drew, HS4.out.next (Below.refl _ w4).drew, HI4.out.next (Below.refl _ w4).drew, HC4.out.next (Below.refl _ w4).drew⟩
  refine wp_region_gt (S := fun W => Below w.heap.size w W ∧ NB W w.heap.size ⟨s0, s1, s2⟩ A n c ⟨p0, p1, p2, p3, p4, p5, p6⟩ ∧ IB W (w.heap.size + 1) ⟨i0, i1, i2⟩ ∧ CB W (w.heap.size + 1 + 1) ⟨a0, a1, a2, a3, a4, a5, a6⟩) (.fl 0 (.fl 1 (.fl 2 (.fl 4 (.fl 5 (.fl 8 (.two 3 6 (.op 6 (.op 7 (.fl 9 (.op 10 (.fl 11 .nil))))) (.op 3 (.op 7 (.fl 9 (.op 10 (.fl 11 .nil))))))))))))  (by kernel_rfl) (by kernel_rfl) (by kernel_rfl) (by kernel_rfl) (by intro c a d v w h; cases d <;> exact h) hS ?_
  iterate 6
    (first
      | (refine wpGT_float (v := ?_) (by simp only [List.getElem?_toArray, List.getElem?_cons_succ, List.getElem?_cons_zero]; rfl) (by rfl) ?_ ?_
         rotate_left
         · (intro W hW; obtain ⟨c0, c1, c2, c3, c4, c5, c6, c7, c8, c9, c10⟩ := NB.cells (hW.2.1); obtain ⟨j0, j1, j2⟩ := IB.cells (hW.2.2.1); obtain ⟨k0, k1, k2, k3, k4, k5, k6⟩ := CB.cells (hW.2.2.2); (try simp only at *); go_simp; try with_reducible rfl)
         simp only [Act.put, List.setIfInBounds_toArray, List.set_cons_zero, List.set_cons_succ])
      | (refine wpGT_skip (by simp only [List.getElem?_toArray, List.getElem?_cons_succ, List.getElem?_cons_zero]; rfl) (by rfl) ?_
         simp only [Act.put, List.setIfInBounds_toArray, List.set_cons_zero, List.set_cons_succ]))
  refine wpGT_two ?_ ?_
  · refine wpOp_call (by simp only [List.getElem?_toArray, List.getElem?_cons_succ, List.getElem?_cons_zero]; rfl) (by rfl) fun K hK => ?_
    go_simp
    go_fit (HCP.out _ hS.1)
    rintro e wn ⟨v, rfl, ho, hbn⟩
    obtain ⟨A5, c5', rfl, _, _, _⟩ := ho.row GId.len
    rw [hn]
    rw [hn] at ho
    have hS5 : Below w.heap.size w wn ∧ NB wn w.heap.size ⟨s0, s1, s2⟩ A n c ⟨p0, p1, p2, p3, p4, p5, p6⟩ ∧ IB wn (w.heap.size + 1) ⟨i0, i1, i2⟩ ∧ CB wn (w.heap.size + 1 + 1) ⟨a0, a1, a2, a3, a4, a5, a6⟩ := ⟨beln hS.1 hbn, hS.2.1.next hbn, hS.2.2.1.next hbn, hS.2.2.2.next hbn⟩
    go_simp
    refine hK _ _ hS5 ?_
    clear hK K
    try simp only [Act.put, List.setIfInBounds_toArray, List.set_cons_zero, List.set_cons_succ]
    obtain ⟨v9, w9, hrun9, hown9, hg9, hlow9⟩ := OwnI.lit ho hbn.size ⟨s0, s1, s2⟩ (by rw [hn]; omega)
    have hb9 := (hbn.alloc hbn.size (.cells #[.int .i64 s0, .int .i64 s1, .int .i64 s2] 25)).grown hg9 (by simp; have := hbn.size; simp at this; omega) hlow9
    have hbl := hbn.alloc hbn.size (.cells #[.int .i64 s0, .int .i64 s1, .int .i64 s2] 25)
    refine wpGT_call (by simp only [List.getElem?_toArray, List.getElem?_cons_succ, List.getElem?_cons_zero]; rfl) (by rfl) fun K hK => ?_
    go_simp
    refine hK _ _ ⟨beln hS.1 hbl, hS.2.1.next hbl, hS.2.2.1.next hbl, hS.2.2.2.next hbl⟩ ?_
    clear hK K
    try simp only [Act.put, List.setIfInBounds_toArray, List.set_cons_zero, List.set_cons_succ]
    have hS9 : Below w.heap.size w w9 ∧ NB w9 w.heap.size ⟨s0, s1, s2⟩ A n c ⟨p0, p1, p2, p3, p4, p5, p6⟩ ∧ IB w9 (w.heap.size + 1) ⟨i0, i1, i2⟩ ∧ CB w9 (w.heap.size + 1 + 1) ⟨a0, a1, a2, a3, a4, a5, a6⟩ := ⟨beln hS.1 hb9, hS.2.1.next hb9, hS.2.2.1.next hb9, hS.2.2.2.next hb9⟩
    refine wpGT_call (by simp only [List.getElem?_toArray, List.getElem?_cons_succ, List.getElem?_cons_zero]; rfl) (by rfl) fun K hK => ?_
    refine oper_app10 (R := fun v W => v = v9 ∧ W = w9) ⟨v9, w9, hrun9, rfl, rfl⟩ rfl rfl rfl rfl ?_
    rintro v8 w8 ⟨rfl, rfl⟩
    obtain ⟨A9, c9, rfl, hc9, _, _⟩ := hown9.row GId.len
    rw [List.length_append, hn, List.length_singleton]
    rw [List.length_append, hn, List.length_singleton] at hown9 hc9
    refine hK _ _ hS9 ?_
    clear hK K
    try simp only [Act.put, List.setIfInBounds_toArray, List.set_cons_zero, List.set_cons_succ]
    iterate 1
      (first
        | (refine wpGT_float (v := ?_) (by simp only [List.getElem?_toArray, List.getElem?_cons_succ, List.getElem?_cons_zero]; rfl) (by rfl) ?_ ?_
           rotate_left
           · (intro W hW; obtain ⟨c0, c1, c2, c3, c4, c5, c6, c7, c8, c9, c10⟩ := NB.cells (hW.2.1); obtain ⟨j0, j1, j2⟩ := IB.cells (hW.2.2.1); obtain ⟨k0, k1, k2, k3, k4, k5, k6⟩ := CB.cells (hW.2.2.2); (try simp only at *); go_simp; try with_reducible rfl)
           simp only [Act.put, List.setIfInBounds_toArray, List.set_cons_zero, List.set_cons_succ])
        | (refine wpGT_skip (by simp only [List.getElem?_toArray, List.getElem?_cons_succ, List.getElem?_cons_zero]; rfl) (by rfl) ?_
           simp only [Act.put, List.setIfInBounds_toArray, List.set_cons_zero, List.set_cons_succ]))
    have HZ9 := (HZ4.out.next (Below.refl _ w4).drew).next hb9
    obtain ⟨z0, z1, z2, z3, z4, z5, z6, z7, z8, z9, z10⟩ := HZ9.cells
    have zf := HZ9.frz
    have zl := HZ9.lt
    simp only at z0 z1 z2 z3 z4 z5 z6 z7 z8 z9 z10
    have HSS : ∀ (W : World) j u, (Below w.heap.size w W ∧ NB W w.heap.size ⟨s0, s1, s2⟩ A n c ⟨p0, p1, p2, p3, p4, p5, p6⟩ ∧ IB W (w.heap.size + 1) ⟨i0, i1, i2⟩ ∧ CB W (w.heap.size + 1 + 1) ⟨a0, a1, a2, a3, a4, a5, a6⟩) → (Below w.heap.size w (W.setCell ⟨w.heap.size + 1 + 1 + 1, j, none⟩ u) ∧ NB (W.setCell ⟨w.heap.size + 1 + 1 + 1, j, none⟩ u) w.heap.size ⟨s0, s1, s2⟩ A n c ⟨p0, p1, p2, p3, p4, p5, p6⟩ ∧ IB (W.setCell ⟨w.heap.size + 1 + 1 + 1, j, none⟩ u) (w.heap.size + 1) ⟨i0, i1, i2⟩ ∧ CB (W.setCell ⟨w.heap.size + 1 + 1 + 1, j, none⟩ u) (w.heap.size + 1 + 1) ⟨a0, a1, a2, a3, a4, a5, a6⟩) := fun W j u h => ⟨h.1.setCell (p := ⟨w.heap.size + 1 + 1 + 1, j, none⟩) (by simp; omega) u, (Below.heap_setCell W ⟨w.heap.size + 1 + 1 + 1, j, none⟩ u w.heap.size (by simp; omega)).trans h.2.1, (Below.heap_setCell W ⟨w.heap.size + 1 + 1 + 1, j, none⟩ u (w.heap.size + 1) (by simp)).trans h.2.2.1, (Below.heap_setCell W ⟨w.heap.size + 1 + 1 + 1, j, none⟩ u (w.heap.size + 1 + 1) (by simp)).trans h.2.2.2⟩
    have hbase : w.heap.size + 1 + 1 + 1 < w4.heap.size := HZ4.out.lt
    have HSO : ∀ (W : World) j u, OwnG GId.cells 25 3 W w4.heap.size (.slice A9 (n + 1) c9) (xs ++ [⟨s0, s1, s2⟩]) → OwnG GId.cells 25 3 (W.setCell ⟨w.heap.size + 1 + 1 + 1, j, none⟩ u) w4.heap.size (.slice A9 (n + 1) c9) (xs ++ [⟨s0, s1, s2⟩]) := fun W j u h => h.setOther hbase j u
    have hown9' : OwnG GId.cells 25 3 w8 w4.heap.size (.slice A9 (n + 1) c9) (xs ++ [⟨s0, s1, s2⟩]) := hown9
    refine wpGT_call (by simp only [List.getElem?_toArray, List.getElem?_cons_succ, List.getElem?_cons_zero]; rfl) (by rfl) fun K hK => ?_
    go_simp
    refine hK _ _ ?_ ?_
    · repeat (refine HSS _ _ _ ?_)
      exact hS9
    clear hK K
    try simp only [Act.put, List.setIfInBounds_toArray, List.set_cons_zero, List.set_cons_succ]
    iterate 1
      (first
        | (refine wpGT_float (v := ?_) (by simp only [List.getElem?_toArray, List.getElem?_cons_succ, List.getElem?_cons_zero]; rfl) (by rfl) ?_ ?_
           rotate_left
           · (intro W hW; obtain ⟨c0, c1, c2, c3, c4, c5, c6, c7, c8, c9, c10⟩ := NB.cells (hW.2.1); obtain ⟨j0, j1, j2⟩ := IB.cells (hW.2.2.1); obtain ⟨k0, k1, k2, k3, k4, k5, k6⟩ := CB.cells (hW.2.2.2); (try simp only at *); go_simp; try with_reducible rfl)
           simp only [Act.put, List.setIfInBounds_toArray, List.set_cons_zero, List.set_cons_succ])
        | (refine wpGT_skip (by simp only [List.getElem?_toArray, List.getElem?_cons_succ, List.getElem?_cons_zero]; rfl) (by rfl) ?_
           simp only [Act.put, List.setIfInBounds_toArray, List.set_cons_zero, List.set_cons_succ]))
    refine wpGT_nil ?_
    clear hS9 HSS
    go_wp2
    refine bodyPost_ret (v := .tuple #[.agg #[.int .i64 i0, .int .i64 i1, .int .i64 i2, .slice A9 (n + 1) c9, .int .i64 a0, .int .i64 a1, .int .i64 a2, .int .i64 a3, .int .i64 a4, .int .i64 a5, .bool a6], .int .i64 0]) (by simp [results, Tryz.results44, go_sem, z0, z1, z2, z3, z4, z5, z6, z7, z8, z9, z10]) rfl ?_
    refine HF0.out _ _ _ hc9 ?_ ?_
    · refine OwnG.low (b := w4.heap.size) ?_ (by omega)
      · repeat (refine HSO _ _ _ ?_)
        exact hown9'
    · have hbw : Below w.heap.size w w8 := beln HB4.out.drew hb9
      repeat (refine HSC.out _ _ _ (by omega) ?_ _)
      exact hbw
  · refine wpOp_call (by simp only [List.getElem?_toArray, List.getElem?_cons_succ, List.getElem?_cons_zero]; rfl) (by rfl) fun K hK => ?_
    have hbl := belt (Below.refl _ w4.drew) (.cells #[.int .i64 s0, .int .i64 s1, .int .i64 s2] 25)
    go_simp
    refine hK _ _ ⟨beln hS.1 hbl, hS.2.1.next hbl, hS.2.2.1.next hbl, hS.2.2.2.next hbl⟩ ?_
    clear hK K
    try simp only [Act.put, List.setIfInBounds_toArray, List.set_cons_zero, List.set_cons_succ]
    refine wpGT_call (by simp only [List.getElem?_toArray, List.getElem?_cons_succ, List.getElem?_cons_zero]; rfl) (by rfl) fun K hK => ?_
    go_simp
    go_fit (HCP.out _ (beln hS.1 hbl))
    rintro e wn ⟨v, rfl, ho, hbn⟩
    obtain ⟨A5, c5', rfl, _, _, _⟩ := ho.row GId.len
    rw [hn]
    rw [hn] at ho
    have hb5 := beln hbl hbn
    have hS5 : Below w.heap.size w wn ∧ NB wn w.heap.size ⟨s0, s1, s2⟩ A n c ⟨p0, p1, p2, p3, p4, p5, p6⟩ ∧ IB wn (w.heap.size + 1) ⟨i0, i1, i2⟩ ∧ CB wn (w.heap.size + 1 + 1) ⟨a0, a1, a2, a3, a4, a5, a6⟩ := ⟨beln hS.1 hb5, hS.2.1.next hb5, hS.2.2.1.next hb5, hS.2.2.2.next hb5⟩
    go_simp
    refine hK _ _ hS5 ?_
    clear hK K
    try simp only [Act.put, List.setIfInBounds_toArray, List.set_cons_zero, List.set_cons_succ]
    have hlr := ((lit_id w4.drew ⟨s0, s1, s2⟩).keep (w' := wn) (fun g hg => hbn.block g (by simpa using hg)))
    obtain ⟨v9, w9, hrun9, hown9, hg9, _⟩ := OwnG.app elt_id GId.len GId.one ho 1 hlr (by have := hbn.size; exact this) (by unfold maxLen; simp; omega) (by simp; omega)
    have hlow9 : ∀ g, Value.ownBlock (.slice A5 n c5') = some g → (w4.drew.alloc (.cells #[.int .i64 s0, .int .i64 s1, .int .i64 s2] 25)).heap.size ≤ g := fun g e => (ho.lt g e).1
    have hb9 := beln hbl (hbn.grown hg9 hbn.size hlow9)
    have hS9 : Below w.heap.size w w9 ∧ NB w9 w.heap.size ⟨s0, s1, s2⟩ A n c ⟨p0, p1, p2, p3, p4, p5, p6⟩ ∧ IB w9 (w.heap.size + 1) ⟨i0, i1, i2⟩ ∧ CB w9 (w.heap.size + 1 + 1) ⟨a0, a1, a2, a3, a4, a5, a6⟩ := ⟨beln hS.1 hb9, hS.2.1.next hb9, hS.2.2.1.next hb9, hS.2.2.2.next hb9⟩
    refine wpGT_call (by simp only [List.getElem?_toArray, List.getElem?_cons_succ, List.getElem?_cons_zero]; rfl) (by rfl) fun K hK => ?_
    refine oper_app10 (R := fun v W => v = v9 ∧ W = w9) ⟨v9, w9, hrun9, rfl, rfl⟩ rfl rfl rfl rfl ?_
    rintro v8 w8 ⟨rfl, rfl⟩
    obtain ⟨A9, c9, rfl, hc9, _, _⟩ := hown9.row GId.len
    rw [List.length_append, hn, List.length_singleton]
    rw [List.length_append, hn, List.length_singleton] at hown9 hc9
    refine hK _ _ hS9 ?_
    clear hK K
    try simp only [Act.put, List.setIfInBounds_toArray, List.set_cons_zero, List.set_cons_succ]
    iterate 1
      (first
        | (refine wpGT_float (v := ?_) (by simp only [List.getElem?_toArray, List.getElem?_cons_succ, List.getElem?_cons_zero]; rfl) (by rfl) ?_ ?_
           rotate_left
           · (intro W hW; obtain ⟨c0, c1, c2, c3, c4, c5, c6, c7, c8, c9, c10⟩ := NB.cells (hW.2.1); obtain ⟨j0, j1, j2⟩ := IB.cells (hW.2.2.1); obtain ⟨k0, k1, k2, k3, k4, k5, k6⟩ := CB.cells (hW.2.2.2); (try simp only at *); go_simp; try with_reducible rfl)
           simp only [Act.put, List.setIfInBounds_toArray, List.set_cons_zero, List.set_cons_succ])
        | (refine wpGT_skip (by simp only [List.getElem?_toArray, List.getElem?_cons_succ, List.getElem?_cons_zero]; rfl) (by rfl) ?_
           simp only [Act.put, List.setIfInBounds_toArray, List.set_cons_zero, List.set_cons_succ]))
    have HZ9 := (HZ4.out.next (Below.refl _ w4).drew).next hb9
    obtain ⟨z0, z1, z2, z3, z4, z5, z6, z7, z8, z9, z10⟩ := HZ9.cells
    have zf := HZ9.frz
    have zl := HZ9.lt
    simp only at z0 z1 z2 z3 z4 z5 z6 z7 z8 z9 z10
    have HSS : ∀ (W : World) j u, (Below w.heap.size w W ∧ NB W w.heap.size ⟨s0, s1, s2⟩ A n c ⟨p0, p1, p2, p3, p4, p5, p6⟩ ∧ IB W (w.heap.size + 1) ⟨i0, i1, i2⟩ ∧ CB W (w.heap.size + 1 + 1) ⟨a0, a1, a2, a3, a4, a5, a6⟩) → (Below w.heap.size w (W.setCell ⟨w.heap.size + 1 + 1 + 1, j, none⟩ u) ∧ NB (W.setCell ⟨w.heap.size + 1 + 1 + 1, j, none⟩ u) w.heap.size ⟨s0, s1, s2⟩ A n c ⟨p0, p1, p2, p3, p4, p5, p6⟩ ∧ IB (W.setCell ⟨w.heap.size + 1 + 1 + 1, j, none⟩ u) (w.heap.size + 1) ⟨i0, i1, i2⟩ ∧ CB (W.setCell ⟨w.heap.size + 1 + 1 + 1, j, none⟩ u) (w.heap.size + 1 + 1) ⟨a0, a1, a2, a3, a4, a5, a6⟩) := fun W j u h => ⟨h.1.setCell (p := ⟨w.heap.size + 1 + 1 + 1, j, none⟩) (by simp; omega) u, (Below.heap_setCell W ⟨w.heap.size + 1 + 1 + 1, j, none⟩ u w.heap.size (by simp; omega)).trans h.2.1, (Below.heap_setCell W ⟨w.heap.size + 1 + 1 + 1, j, none⟩ u (w.heap.size + 1) (by simp)).trans h.2.2.1, (Below.heap_setCell W ⟨w.heap.size + 1 + 1 + 1, j, none⟩ u (w.heap.size + 1 + 1) (by simp)).trans h.2.2.2⟩
    have hbase : w.heap.size + 1 + 1 + 1 < w4.heap.size := HZ4.out.lt
    have HSO : ∀ (W : World) j u, OwnG GId.cells 25 3 W w4.heap.size (.slice A9 (n + 1) c9) (xs ++ [⟨s0, s1, s2⟩]) → OwnG GId.cells 25 3 (W.setCell ⟨w.heap.size + 1 + 1 + 1, j, none⟩ u) w4.heap.size (.slice A9 (n + 1) c9) (xs ++ [⟨s0, s1, s2⟩]) := fun W j u h => h.setOther hbase j u
    have hown9' : OwnG GId.cells 25 3 w8 w4.heap.size (.slice A9 (n + 1) c9) (xs ++ [⟨s0, s1, s2⟩]) := hown9.low (by simp)
    refine wpGT_call (by simp only [List.getElem?_toArray, List.getElem?_cons_succ, List.getElem?_cons_zero]; rfl) (by rfl) fun K hK => ?_
    go_simp
    refine hK _ _ ?_ ?_
    · repeat (refine HSS _ _ _ ?_)
      exact hS9
    clear hK K
    try simp only [Act.put, List.setIfInBounds_toArray, List.set_cons_zero, List.set_cons_succ]
    iterate 1
      (first
        | (refine wpGT_float (v := ?_) (by simp only [List.getElem?_toArray, List.getElem?_cons_succ, List.getElem?_cons_zero]; rfl) (by rfl) ?_ ?_
           rotate_left
           · (intro W hW; obtain ⟨c0, c1, c2, c3, c4, c5, c6, c7, c8, c9, c10⟩ := NB.cells (hW.2.1); obtain ⟨j0, j1, j2⟩ := IB.cells (hW.2.2.1); obtain ⟨k0, k1, k2, k3, k4, k5, k6⟩ := CB.cells (hW.2.2.2); (try simp only at *); go_simp; try with_reducible rfl)
           simp only [Act.put, List.setIfInBounds_toArray, List.set_cons_zero, List.set_cons_succ])
        | (refine wpGT_skip (by simp only [List.getElem?_toArray, List.getElem?_cons_succ, List.getElem?_cons_zero]; rfl) (by rfl) ?_
           simp only [Act.put, List.setIfInBounds_toArray, List.set_cons_zero, List.set_cons_succ]))
    refine wpGT_nil ?_
    clear hS9 HSS
    go_wp2
    refine bodyPost_ret (v := .tuple #[.agg #[.int .i64 i0, .int .i64 i1, .int .i64 i2, .slice A9 (n + 1) c9, .int .i64 a0, .int .i64 a1, .int .i64 a2, .int .i64 a3, .int .i64 a4, .int .i64 a5, .bool a6], .int .i64 0]) (by simp [results, Tryz.results44, go_sem, z0, z1, z2, z3, z4, z5, z6, z7, z8, z9, z10]) rfl ?_
    refine HF0.out _ _ _ hc9 ?_ ?_
    · refine OwnG.low (b := w4.heap.size) ?_ (by omega)
      · repeat (refine HSO _ _ _ ?_)
        exact hown9'
    · have hbw : Below w.heap.size w w8 := beln HB4.out.drew hb9
      repeat (refine HSC.out _ _ _ (by omega) ?_ _)
      exact hbw
end Go.Proofs.YtndppbfdcceflaaGreatDoor
