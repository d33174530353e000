/-
  The calls of the laws of sets, at sets that came back.
  Conditions: at most 1000 facts of at most 12 arguments each.
  The reference's Right: a fact is well formed.
  Conditions: a fact has at most 2^40 arguments.
-/
import Derived.Test.YtolkceibbefhfaaGreatDoorMa32
import Derived.Test.YtolkceibbefhfaaGreatDoorMa33
import Derived.Test.YtolkceibbefhfaaGreatDoorMa31
import Derived.Test.YtolkceibbefhfaaGreatDoorMa29
import Derived.Test.YtolkceibbefhfaaGreatDoorMa22
import Derived.Deep.DeepFit
namespace Go.Proofs.YtolkceibbefhfaaGreatDoor
open Go.RowKit Go.Shelf

/-- A slice that holds few facts, each small. -/
structure SetL (w : World) (v : Value) (fs : List GFact) (n : Nat) : Prop where
  ex : ∃ ss, SetV w v ss fs
  few : fs.length ≤ n
  args : ∀ f ∈ fs, f.args.length ≤ 12
  kinds : ∀ f ∈ fs, KindsWf f.args
theorem SetL.next {w w' : World} {v : Value} {fs : List GFact} {n : Nat} (h : SetL w v fs n) (hb : Below w.heap.size w w') : SetL w' v fs n := by
  obtain ⟨ss, hs⟩ := h.ex
  exact ⟨⟨ss, hs.next hb⟩, h.few, h.args, h.kinds⟩
/-- A fact that is small, asx it lies in memory. -/
structure FactS (w : World) (s : SFact) (f : GFact) : Prop where
  hold : FHold w w.heap.size s f
  small : SmallF f
  kinds : KindsWf f.args
theorem FactS.next {w w' : World} {s : SFact} {f : GFact} (h : FactS w s f) (hb : Below w.heap.size w w') : FactS w' s f := ⟨h.hold.next (Nat.le_refl _) hb, h.small, h.kinds⟩
theorem SetV.slice {w : World} {v : Value} {ss : List SFact} {fs : List GFact} (h : SetV w v ss fs) : ∃ A c, v = .slice A fs.length c := by
  obtain ⟨A, c, e, _⟩ := h.frow
  exact ⟨A, c, e⟩
def InsS (fs : List GFact) (f : GFact) (n : Nat) (w : World) (e : Ending) (w' : World) : Prop :=
  ∃ A, ∃ c : Nat, ∃ fs' : List GFact, e = .returned (.tuple #[.slice A fs'.length c, .int .i64 0]) ∧ SetL w' (.slice A fs'.length c) fs' (n + 1) ∧ StrictF fs' ∧ (∀ g, g ∈ fs' ↔ g ∈ fs ∨ g = f) ∧ Below w.heap.size w w'
def InsG (fs : List GFact) (f : GFact) (n : Nat) (w : World) (e : Ending) (w' : World) : Prop :=
  (gwfF f = false ∧ e = .returned (.tuple #[.slice none 0 0, .int .i64 63]) ∧ Below w.heap.size w w') ∨ (gwfF f = true ∧ InsS fs f n w e w')
theorem insertG (v : Value) (fs : List GFact) (n : Nat) (s : SFact) (f : GFact) (w : World) (hS : SetL w v fs n) (hn : n ≤ 1000) (hf : FactS w s f) (hP : Pow w) :
    Calls Tryz.prog 9 #[v, .agg #[.string ⟨s.rel.toArray⟩, .slice s.A s.n s.c]] w (InsG fs f n w) := by
  obtain ⟨ss, hs⟩ := hS.ex
  have hn' := hS.few
  refine (insert_any v ss fs s f w hs hf.hold (by have := hf.small.rel; omega) (fun v hv => by have := hf.small.word v hv; omega) (by omega) (fun g hg => by have := hS.args g hg; omega) (by have := hf.small.args; omega) hP).mono ?_
  rintro e w' (⟨h1, rfl, h2⟩ | ⟨h1, v', ss', fs', rfl, _, h3, h4, h5, h6, h7⟩)
  · exact .inl ⟨h1, rfl, h2⟩
  · obtain ⟨A, c, rfl⟩ := h3.slice
    exact .inr ⟨h1, A, c, fs', rfl, ⟨⟨ss', h3⟩, by omega, fun g hg => by
      rcases (h5 g).1 hg with h | rfl
      · exact hS.args g h
      · exact hf.small.args, fun g hg => by
      rcases (h5 g).1 hg with h | rfl
      · exact hS.kinds g h
      · exact hf.kinds⟩, h4, h5, h7⟩
theorem insertS (v : Value) (fs : List GFact) (n : Nat) (s : SFact) (f : GFact) (w : World) (hS : SetL w v fs n) (hn : n ≤ 1000) (hf : FactS w s f) (hP : Pow w) (hw : gwfF f = true) :
    Calls Tryz.prog 9 #[v, .agg #[.string ⟨s.rel.toArray⟩, .slice s.A s.n s.c]] w (InsS fs f n w) := by
  refine (insertG v fs n s f w hS hn hf hP).mono ?_
  rintro e w' (⟨h1, _⟩ | ⟨_, h⟩)
  · rw [hw] at h1; cases h1
  · exact h
def RemS (fs : List GFact) (f : GFact) (n : Nat) (w : World) (e : Ending) (w' : World) : Prop :=
  ∃ A, ∃ c : Nat, ∃ fs' : List GFact, e = .returned (.tuple #[.slice A fs'.length c, .bool (fs.any (isF f))]) ∧ SetL w' (.slice A fs'.length c) fs' n ∧ StrictF fs' ∧ (∀ g, g ∈ fs' ↔ g ∈ fs ∧ g ≠ f) ∧ Below w.heap.size w w'
theorem removeS (v : Value) (fs : List GFact) (n : Nat) (s : SFact) (f : GFact) (w : World) (hS : SetL w v fs n) (hn : n ≤ 1000) (hf : FactS w s f) :
    Calls Tryz.prog 11 #[v, .agg #[.string ⟨s.rel.toArray⟩, .slice s.A s.n s.c]] w (RemS fs f n w) := by
  obtain ⟨ss, hs⟩ := hS.ex
  have hn' := hS.few
  refine (remove_any v ss fs s f w hs hf.hold (by omega) (fun g hg => by have := hS.args g hg; omega)).mono ?_
  rintro e w' ⟨v', ss', fs', rfl, _, h3, h4, h5, h6, h7⟩
  obtain ⟨A, c, rfl⟩ := h3.slice
  exact ⟨A, c, fs', rfl, ⟨⟨ss', h3⟩, by omega, fun g hg => hS.args g ((h5 g).1 hg).1, fun g hg => hS.kinds g ((h5 g).1 hg).1⟩, h4, h5, h7⟩
theorem containsS (A : Option Addr) (c : Nat) (fs : List GFact) (n : Nat) (s : SFact) (f : GFact) (w : World) (hS : SetL w (.slice A fs.length c) fs n) (hn : n ≤ 1000) (hf : FHold w w.heap.size s f) :
    Calls Tryz.prog 16 #[.slice A fs.length c, .agg #[.string ⟨s.rel.toArray⟩, .slice s.A s.n s.c]] w fun e w' => e = .returned (.bool (fs.any (isF f))) ∧ Below w.heap.size w w' := by
  obtain ⟨ss, hs⟩ := hS.ex
  have hn' := hS.few
  obtain ⟨A', c', e, hr⟩ := hs.frow
  cases e
  exact fcontains_any f s ss fs A c w hf hr (by omega)
theorem sameS (va vb : Value) (fa fb : List GFact) (n m : Nat) (w : World) (ha : SetL w va fa n) (hb : SetL w vb fb m) (hn : n ≤ 1000) :
    Calls Tryz.prog 15 #[va, vb] w (SameEnd fa fb w) := by
  obtain ⟨sa, h1⟩ := ha.ex
  obtain ⟨sb, h2⟩ := hb.ex
  exact rSame_any va vb sa sb fa fb w h1 h2 (by have := ha.few; omega) ha.kinds hb.kinds
theorem sameT (va vb : Value) (fa fb : List GFact) (n m : Nat) (w : World) (ha : SetL w va fa n) (hb : SetL w vb fb m) (hn : n ≤ 1000) (he : fa = fb) :
    Calls Tryz.prog 15 #[va, vb] w fun e w' => e = .returned (.bool true) ∧ Below w.heap.size w w' := by
  refine (sameS va vb fa fb n m w ha hb hn).mono ?_
  rintro e w' ⟨⟨b, rfl, hq⟩, h⟩
  rw [hq.2 he]
  exact ⟨rfl, h⟩
end Go.Proofs.YtolkceibbefhfaaGreatDoor


namespace Go.Proofs.YtolkceibbefhfaaGreatDoor
open Go.RowKit Go.Shelf

set_option maxRecDepth 50000 in
set_option maxHeartbeats 1000000 in
theorem rRightValue_any (v : GVal) (w : World) (hl : v.word.length ≤ 65536) :
    Calls Tryz.prog 43 #[v.val] w fun e w' => e = .returned (.bool (gwfV v)) ∧ Below w.heap.size w w' := by
  obtain ⟨kd, n, l⟩ := v
  simp only at hl
  unfold GVal.val
  have hsz : (⟨l.toArray⟩ : ByteArray).size = l.length := ba_size l
  have HP := Lib.hid fun W => rPlain_any l W (by unfold maxLen; omega)
  have HB := Lib.hid (bel_lit (Below.refl w.heap.size w) (.cells #[.int .i64 kd, .int .i64 n, .string ⟨l.toArray⟩] 40))
  by_cases h1 : kd = 1
  · subst h1
    have HF : Hid (gwfV ⟨1, n, l⟩ = l.isEmpty) := Lib.hid rfl
    cases l with
    | nil =>
      go_enter Tryz.func43, Tryz.ntmps43
      go_wp2
      go_ret
      exact ⟨ret_bool (by rw [HF.out]; rfl), HB.out⟩
    | cons c r =>
      go_enter Tryz.func43, Tryz.ntmps43
      go_wp2
      go_ret
      exact ⟨ret_bool (by rw [HF.out]; rfl), HB.out⟩
  by_cases h2 : kd = 2
  · subst h2
    have HF : Hid (gwfV ⟨2, n, l⟩ = (decide (n = 0) && (decide (1 ≤ l.length) && decide (l.length ≤ 24)) && l.all isStr)) := Lib.hid rfl
    by_cases h0 : n = 0
    · subst h0
      cases l with
      | nil =>
        go_enter Tryz.func43, Tryz.ntmps43
        go_wp2
        go_ret
        exact ⟨ret_bool (by rw [HF.out]; rfl), HB.out⟩
      | cons c r =>
        by_cases h3 : (c :: r).length ≤ 24
        · generalize hq : (c :: r).all isStr = q at *
          have HQ := Lib.hid hq
          clear hq
          have f3 : decide (((c :: r).length : Int) ≤ 24) = true := by simp at h3 ⊢; omega
          have g3 : ((c :: r).length : Int) ≤ 24 := by omega
          go_enter Tryz.func43, Tryz.ntmps43
          go_wp2_with fail
          go_fit (HP.out _)
          rintro e w1 ⟨rfl, rfl⟩
          go_wp2
          go_ret
          exact ⟨ret_bool (by rw [HF.out]; simp at h3 ⊢; omega), HB.out⟩
        · have f3 : decide (((c :: r).length : Int) ≤ 24) = false := by simp at h3 ⊢; omega
          have g3 : ¬ ((c :: r).length : Int) ≤ 24 := by omega
          go_enter Tryz.func43, Tryz.ntmps43
          go_wp2
          go_ret
          exact ⟨ret_bool (by rw [HF.out]; simp at h3 ⊢; omega), HB.out⟩
    · have f0 : (n == 0) = false := by simpa using h0
      go_enter Tryz.func43, Tryz.ntmps43
      go_wp2
      go_ret
      exact ⟨ret_bool (by rw [HF.out]; simp [h0]), HB.out⟩
  · have HF : Hid (gwfV ⟨kd, n, l⟩ = false) := Lib.hid (by simp [gwfV, h1, h2])
    have f1 : (kd == 1) = false := by simpa using h1
    have f2 : (kd == 2) = false := by simpa using h2
    go_enter Tryz.func43, Tryz.ntmps43
    go_wp2
    go_ret
    exact ⟨ret_bool HF.out.symm, HB.out⟩

set_option maxRecDepth 50000 in
set_option maxHeartbeats 1000000 in
theorem rRight_any (f : GFact) (s : SFact) (w : World) (hf : FHold w w.heap.size s f) (hr : f.rel.length ≤ 65536) (hs : ∀ v ∈ f.args, v.word.length ≤ 65536) :
    Calls Tryz.prog 20 #[.agg #[.string ⟨s.rel.toArray⟩, .slice s.A s.n s.c]] w fun e w' => e = .returned (.bool (gwfF f)) ∧ Below w.heap.size w w' := by
  obtain ⟨sr, A, sn, ca⟩ := s
  obtain ⟨r, vs⟩ := f
  have e1 := hf.rel
  have e2 := hf.n
  have hx := hf.few
  have hA := hf.row
  simp only at *
  subst e1 e2
  clear hf
  have HF : Hid (gwfF ⟨sr, vs⟩ = (nameB sr && decide (1 ≤ vs.length) && decide (vs.length ≤ 8) && vs.all gwfV)) := Lib.hid rfl
  have hb0 := bel_lit (Below.refl w.heap.size w) (.cells #[.string ⟨sr.toArray⟩, .slice A vs.length ca] 25)
  have HB := Lib.hid hb0
  have HN := Lib.hid fun W => rIsName_any sr W (by unfold maxLen; omega)
  have HA := Lib.hid ((hA.below (Nat.le_refl _) hb0).wide hb0.size)
  have HS := Lib.hid hs
  have hk0 := heap_alloc_new w (.cells #[.string ⟨sr.toArray⟩, .slice A vs.length ca] 25)
  have HK := Lib.hid hk0
  clear hA hs hb0 hk0
  have hws : (w.alloc (.cells #[.string ⟨sr.toArray⟩, .slice A vs.length ca] 25)).heap.size = w.heap.size + 1 := by simp
  generalize gwfF ⟨sr, vs⟩ = gf at *
  go_enter Tryz.func20, Tryz.ntmps20
  go_wp2
  generalize w.alloc (.cells #[.string ⟨sr.toArray⟩, .slice A vs.length ca] 25) = W0 at *
  have hnot : ∀ (x : Bool) (w : World), (Op.unary .not (.bool x)).run Tryz.prog w = .ok (.bool (!x)) w := fun _ _ => rfl
  go_loopw [3] (fun vi wr => ∃ k : Nat, vi = .int .i64 k ∧ k ≤ vs.length ∧ Hid ((vs.take k).all gwfV = true) ∧ Hid (Below W0.heap.size W0 wr)) (fun vi _ => vs.length - (intOf vi).toNat)
  case atStart => exact ⟨0, rfl, Nat.zero_le _, Lib.hid rfl, Lib.hid (Below.refl _ _)⟩
  case round =>
    obtain ⟨k, rfl, hk, HT, HW⟩ := hrel
    have hkr := (HW.out.block w.heap.size (by omega)).trans HK.out
    have z0 : wr.cell? ⟨w.heap.size, 0, none⟩ = some (.string ⟨sr.toArray⟩) := by rw [Lib.cell_of_heap hkr]; rfl
    have z1 : wr.cell? ⟨w.heap.size, 1, none⟩ = some (.slice A vs.length ca) := by rw [Lib.cell_of_heap hkr]; rfl
    clear hkr
    have HFB := Lib.hid (bel_next HB.out HW.out)
    rcases Nat.lt_or_ge k vs.length with hlt | hge
    · obtain ⟨b1, o1, rfl, hb1, x0, x1, x2⟩ := (HA.out.below (Nat.le_refl _) HW.out).val3 hlt
      have hsz := HW.out.size
      have hl1 : b1 < wr.heap.size := by omega
      have HSN := Lib.hid fun h => allV_snoc hlt HT.out h
      have HAF := Lib.hid fun h => allV_fail hlt h
      have HC := Lib.hid fun W => rRightValue_any vs[k] W (HS.out _ (List.getElem_mem hlt))
      generalize vs[k] = v at *
      obtain ⟨xk, xi, xw⟩ := v
      simp only [GVal.val] at *
      generalize gwfV ⟨xk, xi, xw⟩ = q at *
      go_wp2_with fail
      go_fit (HC.out _)
      rintro e w1 ⟨rfl, hb3⟩
      have HN := Lib.hid (bel_next HW.out hb3)
      have HN2 := Lib.hid (bel_next HFB.out hb3)
      clear hb3
      cases q
      · have HF2 := Lib.hid (HAF.out rfl)
        go_wp2
        go_ret
        exact ⟨ret_bool (by rw [HF.out, HF2.out]; simp), HN2.out⟩
      · have HS2 := Lib.hid (HSN.out rfl)
        go_wp2
        go_roundw
        case rel => exact ⟨k + 1, by go_num, by omega, HS2, HN⟩
        case measure => simp [intOf]; omega
    · have hall := HT.out
      rw [List.take_of_length_le hge] at hall
      have HAL := Lib.hid hall
      clear hall
      cases hnm : nameB sr
      · rw [hnm] at HN HF
        go_wp2_with fail
        go_fit (HN.out _)
        rintro e w1 ⟨rfl, rfl⟩
        go_wp2
        go_ret
        exact ⟨ret_bool (by rw [HF.out]; rfl), HFB.out⟩
      · rw [hnm] at HN HF
        have f1 : decide ((1 : Int) ≤ (vs.length : Int)) = decide (1 ≤ vs.length) := by congr 1; simp; omega
        go_wp2_with fail
        go_fit (HN.out _)
        rintro e w1 ⟨rfl, rfl⟩
        by_cases h1 : 1 ≤ vs.length
        · by_cases h2 : vs.length ≤ 8
          · have f8 : decide ((vs.length : Int) ≤ 8) = true := by simp; omega
            have g8 : (vs.length : Int) ≤ 8 := by omega
            have g1 : (1 : Int) ≤ (vs.length : Int) := by omega
            go_wp2
            go_ret
            exact ⟨ret_bool (by rw [HF.out, HAL.out]; simp [h1, h2]), HFB.out⟩
          · have f8 : decide ((vs.length : Int) ≤ 8) = false := by simp; omega
            have g8 : ¬ (vs.length : Int) ≤ 8 := by omega
            have g1 : (1 : Int) ≤ (vs.length : Int) := by omega
            go_wp2
            go_ret
            exact ⟨ret_bool (by rw [HF.out, HAL.out]; simp [h1, h2]), HFB.out⟩
        · have h0 : vs.length = 0 := by omega
          have H1 : Hid (decide (1 ≤ vs.length) = false) := Lib.hid (decide_eq_false h1)
          rw [H1.out] at HF
          rw [h0] at *
          go_wp2
          go_ret
          exact ⟨ret_bool (by rw [HF.out]; simp), HFB.out⟩
end Go.Proofs.YtolkceibbefhfaaGreatDoor
