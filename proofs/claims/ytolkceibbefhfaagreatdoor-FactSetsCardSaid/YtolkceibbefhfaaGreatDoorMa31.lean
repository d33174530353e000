/-
  Well-formed facts and membership: facts.wellFormed, facts.Contains.
  Conditions: the table of powers of ten lies as the program's text writes it; words have at most 65536 bytes, facts at most 2^40 arguments.
  facts.Insert: a fact that is not well formed is refused; else the set with it comes back.
  Conditions: the list has at most 8000 facts, each of at most 1000000 arguments; the table of powers of ten lies as the program's text writes it; words have at most 65536 bytes.
-/
import Derived.Test.YtolkceibbefhfaaGreatDoorMa30
import Derived.Test.YtolkceibbefhfaaGreatDoorMa27
namespace Go.Proofs.YtolkceibbefhfaaGreatDoor
open Go.RowKit Go.Shelf

set_option maxRecDepth 50000 in
theorem wfClosure_any (v : GVal) (w : World) (hl : v.word.length ≤ 65536) (hP : Pow w) :
    Calls Tryz.prog 53 #[v.val] w fun e w' => e = .returned (.bool (!gwfV v)) ∧ Below w.heap.size w w' := by
  have HB := Lib.hid (bel_lit (Below.refl w.heap.size w) (.cells #[.int .i64 v.kind, .int .i64 v.int, .string ⟨v.word.toArray⟩] 40))
  have HW := Lib.hid (wellFormedValue_any v _ hl (hP.next HB.out))
  clear hP
  obtain ⟨kd, n, l⟩ := v
  simp only [GVal.val] at *
  generalize gwfV ⟨kd, n, l⟩ = g at *
  go_enter Tryz.func53, Tryz.ntmps53
  go_wp2_with fail
  refine HW.out.mono ?_
  rintro e w1 ⟨rfl, hb1⟩
  have hnot : ∀ (x : Bool) (w : World), (Op.unary .not (.bool x)).run Tryz.prog w = .ok (.bool (!x)) w := fun _ _ => rfl
  go_wp2
  go_ret
  exact ⟨rfl, bel_next HB.out hb1⟩
theorem allV_snoc {vs : List GVal} {k : Nat} (h : k < vs.length) (ha : (vs.take k).all gwfV = true) (hw : gwfV vs[k] = true) : (vs.take (k + 1)).all gwfV = true := by
  rw [List.take_succ_eq_append_getElem h, List.all_append, ha]; simp [hw]
theorem allV_fail {vs : List GVal} {k : Nat} (h : k < vs.length) (hw : gwfV vs[k] = false) : vs.all gwfV = false := by
  rw [List.all_eq_false]
  exact ⟨_, List.getElem_mem h, by rw [hw]; simp⟩
set_option maxRecDepth 50000 in
set_option maxHeartbeats 1000000 in
theorem indexV_any (vs : List GVal) (A : Option Addr) (c : Nat) (w : World) (hA : GRow GVal.cells 3 w w.heap.size A vs) (hn : vs.length ≤ 1099511627776) (hs : ∀ v ∈ vs, v.word.length ≤ 65536) (hP : Pow w) :
    Calls Tryz.prog 76 #[.slice A vs.length c, .func (.func 53) #[] #[]] w fun e w' => (∃ r : Int, e = .returned (.int .i64 r) ∧ decide (0 ≤ r) = !vs.all gwfV) ∧ Below w.heap.size w w' := by
  have HA := Lib.hid hA
  have HS := Lib.hid hs
  have HP := Lib.hid hP
  clear hA hs hP
  go_enter Tryz.func76, Tryz.ntmps76
  go_wp2
  go_loopw [8] (fun vi wr => ∃ k : Nat, vi = .int .i64 k ∧ k ≤ vs.length ∧ Hid ((vs.take k).all gwfV = true) ∧ Hid (Below w.heap.size w wr)) (fun vi _ => vs.length - (intOf vi).toNat)
  case atStart => exact ⟨0, rfl, Nat.zero_le _, Lib.hid rfl, Lib.hid (Below.refl _ _)⟩
  case round =>
    obtain ⟨k, rfl, hk, HT, HW⟩ := hrel
    rcases Nat.lt_or_ge k vs.length with hlt | hge
    · obtain ⟨b1, o1, rfl, hb1, x0, x1, x2⟩ := (HA.out.below (Nat.le_refl _) HW.out).val3 hlt
      have hv := HS.out vs[k] (List.getElem_mem hlt)
      have HAS := Lib.hid fun h => allV_snoc hlt HT.out h
      have HAF := Lib.hid fun h => allV_fail hlt h
      have hsz := HW.out.size
      have hl1 : b1 < wr.heap.size := by omega
      have HC := Lib.hid (wfClosure_any vs[k] wr hv (HP.out.next HW.out))
      generalize vs[k] = x at *
      obtain ⟨xk, xi, xw⟩ := x
      simp only [GVal.val] at *
      generalize gwfV ⟨xk, xi, xw⟩ = g at *
      go_wp2_with fail
      refine HC.out.mono ?_
      rintro e w1 ⟨rfl, hb3⟩
      have HN := Lib.hid (bel_next HW.out hb3)
      clear hb3
      cases g
      · have HF := Lib.hid (HAF.out rfl)
        go_wp2
        go_ret
        refine ⟨⟨_, rfl, ?_⟩, HN.out⟩
        rw [HF.out]
        simp
      · have HS2 := Lib.hid (HAS.out rfl)
        go_wp2
        go_roundw
        case rel => exact ⟨k + 1, by go_num, by omega, HS2, HN⟩
        case measure => simp [intOf]; omega
    · go_wp2
      go_ret
      refine ⟨⟨_, rfl, ?_⟩, HW.out⟩
      have := HT.out
      rw [List.take_of_length_le hge] at this
      rw [this]
      rfl
set_option maxRecDepth 50000 in
theorem containsV_any (vs : List GVal) (A : Option Addr) (c : Nat) (w : World) (hA : GRow GVal.cells 3 w w.heap.size A vs) (hn : vs.length ≤ 1099511627776) (hs : ∀ v ∈ vs, v.word.length ≤ 65536) (hP : Pow w) :
    Calls Tryz.prog 52 #[.slice A vs.length c, .func (.func 53) #[] #[]] w fun e w' => e = .returned (.bool (!vs.all gwfV)) ∧ Below w.heap.size w w' := by
  have HI := Lib.hid (indexV_any vs A c w hA hn hs hP)
  clear hA hs hP
  generalize vs.all gwfV = g at *
  go_enter Tryz.func52, Tryz.ntmps52
  go_wp2_with fail
  refine HI.out.mono ?_
  rintro e w1 ⟨⟨r, rfl, hr⟩, hb⟩
  have HR := Lib.hid hr
  have HB := Lib.hid hb
  clear hr hb HI
  go_wp2
  go_ret
  exact ⟨ret_bool HR.out, HB.out⟩

/-- A well-formed fact. -/
def gwfF (f : GFact) : Bool := nameB f.rel && decide (1 ≤ f.args.length) && decide (f.args.length ≤ 8) && f.args.all gwfV
set_option maxRecDepth 50000 in
set_option maxHeartbeats 1000000 in
theorem fwellFormed_any (f : GFact) (A : Option Addr) (c : Nat) (w : World) (hA : GRow GVal.cells 3 w w.heap.size A f.args) (hr : f.rel.length ≤ 65536) (hn : f.args.length ≤ 1099511627776) (hs : ∀ v ∈ f.args, v.word.length ≤ 65536) (hP : Pow w) :
    Calls Tryz.prog 26 #[factV f.rel A f.args.length c] w fun e w' => e = .returned (.bool (gwfF f)) ∧ Below w.heap.size w w' := by
  obtain ⟨r, vs⟩ := f
  simp only at *
  have HF : Hid (gwfF ⟨r, vs⟩ = (nameB r && decide (1 ≤ vs.length) && decide (vs.length ≤ 8) && vs.all gwfV)) := Lib.hid rfl
  have HB := Lib.hid (bel_lit (Below.refl w.heap.size w) (.cells #[.string ⟨r.toArray⟩, .slice A vs.length c] 25))
  have HN := Lib.hid fun W => isName_any r W (by unfold maxLen; omega)
  have HC := Lib.hid (containsV_any vs A c (w.alloc (.cells #[.string ⟨r.toArray⟩, .slice A vs.length c] 25)) ((hA.below (Nat.le_refl _) HB.out).wide HB.out.size) hn hs (hP.next HB.out))
  clear hA hs hP
  simp only [factV]
  generalize gwfF ⟨r, vs⟩ = gf at *
  generalize vs.all gwfV = g at *
  have hnot : ∀ (x : Bool) (w : World), (Op.unary .not (.bool x)).run Tryz.prog w = .ok (.bool (!x)) w := fun _ _ => rfl
  cases hnm : nameB r
  · rw [hnm] at HN HF
    go_enter Tryz.func26, Tryz.ntmps26
    go_wp2_with fail
    refine (HN.out _).mono ?_
    rintro e w1 ⟨rfl, rfl⟩
    go_wp2
    go_ret
    exact ⟨ret_bool (by rw [HF.out]; rfl), HB.out⟩
  rw [hnm] at HN HF
  by_cases h1 : 1 ≤ vs.length
  · by_cases h2 : vs.length ≤ 8
    · go_enter Tryz.func26, Tryz.ntmps26
      go_wp2_with fail
      refine (HN.out _).mono ?_
      rintro e w1 ⟨rfl, rfl⟩
      go_wp2_with fail
      refine HC.out.mono ?_
      rintro e w1 ⟨rfl, hb1⟩
      go_wp2
      go_ret
      exact ⟨ret_bool (by rw [HF.out]; simp [h1, h2]), bel_next HB.out hb1⟩
    · go_enter Tryz.func26, Tryz.ntmps26
      go_wp2_with fail
      refine (HN.out _).mono ?_
      rintro e w1 ⟨rfl, rfl⟩
      go_wp2
      go_ret
      exact ⟨ret_bool (by rw [HF.out]; simp [h2]), HB.out⟩
  · go_enter Tryz.func26, Tryz.ntmps26
    go_wp2_with fail
    refine (HN.out _).mono ?_
    rintro e w1 ⟨rfl, rfl⟩
    go_wp2
    go_ret
    exact ⟨ret_bool (by rw [HF.out]; simp [h1]), HB.out⟩
end Go.Proofs.YtolkceibbefhfaaGreatDoor


namespace Go.Proofs.YtolkceibbefhfaaGreatDoor
open Go.RowKit Go.Shelf

def InsertEnd (fa : List GFact) (f : GFact) (w : World) (e : Ending) (w' : World) : Prop :=
  (gwfF f = false ∧ e = .returned (.tuple #[.slice none 0 0, .int .i64 63]) ∧ Below w.heap.size w w') ∨
  (gwfF f = true ∧ ∃ v, ∃ ss : List SFact, ∃ fs : List GFact, e = .returned (.tuple #[v, .int .i64 0]) ∧ OwnG SFact.cells 25 2 w' w.heap.size v ss ∧ SetV w' v ss fs ∧ StrictF fs ∧ (∀ g, g ∈ fs ↔ g ∈ fa ∨ g = f) ∧ fs.length ≤ fa.length + 1 ∧ Below w.heap.size w w')
theorem setV_one (w : World) (s : SFact) (f : GFact) (h : FHold w w.heap.size s f) : SetV (w.alloc (.cells #[.string ⟨s.rel.toArray⟩, .slice s.A s.n s.c] 25)) (.slice (some ⟨w.heap.size, 0, none⟩) 1 1) [s] [f] := by
  refine ⟨.inr ⟨⟨w.heap.size, 0, none⟩, 1, rfl, GRow.lit SFact.len w 25 [s] _ rfl (by unfold maxLen; simp)⟩, rfl, fun i h1 _ => ?_⟩
  have h0 : i = 0 := by simp at h1; omega
  subst h0
  exact h.next (Nat.le_refl _) (bel_lit (Below.refl _ _) _)
set_option maxRecDepth 50000 in
set_option maxHeartbeats 1000000 in
theorem insert_any (va : Value) (sa : List SFact) (fa : List GFact) (s : SFact) (f : GFact) (w : World) (ha : SetV w va sa fa) (hf : FHold w w.heap.size s f) (hr : f.rel.length ≤ 65536) (hw : ∀ v ∈ f.args, v.word.length ≤ 65536) (hn : fa.length ≤ 8000) (hargs : ∀ g ∈ fa, g.args.length ≤ 1000000) (hfa : f.args.length ≤ 1000000) (hP : Pow w) :
    Calls Tryz.prog 9 #[va, .agg #[.string ⟨s.rel.toArray⟩, .slice s.A s.n s.c]] w (InsertEnd fa f w) := by
  have hb0 := bel_lit (Below.refl w.heap.size w) (.cells #[.string ⟨s.rel.toArray⟩, .slice s.A s.n s.c] 25)
  have hf0 := hf.next (Nat.le_refl _) hb0
  have hwf := fwellFormed_any f s.A s.c (w.alloc (.cells #[.string ⟨s.rel.toArray⟩, .slice s.A s.n s.c] 25)) hf0.row hr hf.few hw (hP.next hb0)
  unfold factV at hwf
  rw [← hf.rel, ← hf.n] at hwf
  have HWF := Lib.hid hwf
  have HUN := Lib.hid fun W (hW : Below w.heap.size w W) => union_facts va _ sa [s] fa [f] _ ((ha.next hW).next (bel_lit (Below.refl W.heap.size W) (.cells #[.string ⟨s.rel.toArray⟩, .slice s.A s.n s.c] 25))) (setV_one W s f (hf.next (Nat.le_refl _) hW)) (by simp; omega) (fun g hg => by rcases hg with h | h; exact hargs g h; simp at h; subst h; exact hfa)
  have HB0 := Lib.hid hb0
  have hnot : ∀ (x : Bool) (w : World), (Op.unary .not (.bool x)).run Tryz.prog w = .ok (.bool (!x)) w := fun _ _ => rfl
  clear ha hf hf0 hwf hb0 hw hargs hP hr hfa
  generalize hgq : gwfF f = q at *
  obtain ⟨sr, sA, sn, sc⟩ := s
  simp only at *
  cases q
  · go_enter Tryz.func9, Tryz.ntmps9
    go_wp2_with fail
    go_fit HWF.out
    rintro e w1 ⟨rfl, hb1⟩
    have HE := Lib.hid (show InsertEnd fa f w (.returned (.tuple #[.slice none 0 0, .int .i64 63])) w1 from .inl ⟨hgq, rfl, bel_next HB0.out hb1⟩)
    clear hb1 hgq
    go_wp2
    go_ret2
    exact HE.out
  · go_enter Tryz.func9, Tryz.ntmps9
    go_wp2_with fail
    go_fit HWF.out
    rintro e w1 ⟨rfl, hb1⟩
    have hk1 : w1.heap[w.heap.size]? = some (.cells #[.string ⟨sr.toArray⟩, .slice sA sn sc] 25 (0, 0)) := (hb1.block _ (by simp)).trans (heap_alloc_new w _)
    have y0 : w1.cell? ⟨w.heap.size, 0, none⟩ = some (.string ⟨sr.toArray⟩) := by rw [Lib.cell_of_heap hk1]; rfl
    have y1 : w1.cell? ⟨w.heap.size, 1, none⟩ = some (.slice sA sn sc) := by rw [Lib.cell_of_heap hk1]; rfl
    have HB1 := Lib.hid (bel_next HB0.out hb1)
    have HU := Lib.hid (HUN.out w1 HB1.out)
    have hsz := HB1.out.size
    clear hb1 hk1
    go_wp2_with fail
    go_fit HU.out
    rintro e w2 ⟨v, ss, fs, rfl, h1, h2, h3, h4, h5, h6⟩
    have HE := Lib.hid (show InsertEnd fa f w (.returned (.tuple #[v, .int .i64 0])) w2 from .inr ⟨hgq, v, ss, fs, rfl, h1.base (by simp; omega), h2, h3, fun g => by rw [h4 g]; simp, by simpa using h5, bel_alloc HB1.out h6⟩)
    obtain ⟨A, c, rfl, hl, hm, _⟩ := h1.row SFact.len
    have hss : ss.length ≤ 8192 := by rw [h2.len]; simp at h5; omega
    have fss : decide ((8192 : Int) < (ss.length : Int)) = false := by simp; omega
    have gss : ¬ (8192 : Int) < (ss.length : Int) := by omega
    clear h1 h2 h3 h4 h5 h6 hgq y0 y1
    go_wp2
    go_ret2
    exact HE.out
end Go.Proofs.YtolkceibbefhfaaGreatDoor
