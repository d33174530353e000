/-
  Well-formed facts and membership: facts.wellFormed, facts.Contains.
  Conditions: the table of powers of ten lies as the program's text writes it; words have at most 65536 bytes, facts at most 2^40 arguments.
  Membership: facts.Contains.
  Conditions: facts have at most 2^40 arguments.
  The text of a set of one fact: facts.Format.
  Conditions: the fact is well formed, its argument list is no nil slice; the table of powers of ten lies as the program's text writes it.
-/
import Derived.Test.YtmodjokoggmnaaaGreatDoorMa15
import Derived.Test.YtmodjokoggmnaaaGreatDoorMa14
namespace Go.Proofs.YtmodjokoggmnaaaGreatDoor

open Go.RowKit Go.Shelf

set_option maxRecDepth 50000 in
theorem wfClosure_any (v : GVal) (w : World) (hl : v.word.length ≤ 65536) (hP : Pow w) :
    Calls Tryz.prog 65 #[v.val] w fun e w' => e = .returned (.bool (!gwfV v)) ∧ Below w.heap.size w w' := by
  have HB := Lib.hid (bel_lit (Below.refl w.heap.size w) (.cells #[.int .i64 v.kind, .int .i64 v.int, .string ⟨v.word.toArray⟩] 40))
  have HW := Lib.hid (wellFormedValue_any v _ hl (hP.next HB.out))
  clear hP
  obtain ⟨kd, n, l⟩ := v
  simp only [GVal.val] at *
  generalize gwfV ⟨kd, n, l⟩ = g at *
  go_enter Tryz.func65, Tryz.ntmps65
  go_wp2_with fail
  refine HW.out.mono ?_
  rintro e w1 ⟨rfl, hb1⟩
  have hnot : ∀ (x : Bool) (w : World), (Op.unary .not (.bool x)).run Tryz.prog w = .ok (.bool (!x)) w := fun _ _ => rfl
  go_wp2
  go_ret
  exact ⟨rfl, bel_next HB.out hb1⟩
theorem allV_snoc {vs : List GVal} {k : Nat} (h : k < vs.length) (ha : (vs.take k).all gwfV = true) (hw : gwfV vs[k] = true) : (vs.take (k + 1)).all gwfV = true := by
  rw [List.take_succ_eq_append_getElem h, List.all_append, ha]; simp [hw]
theorem allV_fail {vs : List GVal} {k : Nat} (h : k < vs.length) (hw : gwfV vs[k] = false) : vs.all gwfV = false := by
  rw [List.all_eq_false]
  exact ⟨_, List.getElem_mem h, by rw [hw]; simp⟩
set_option maxRecDepth 50000 in
set_option maxHeartbeats 1000000 in
theorem indexV_any (vs : List GVal) (A : Option Addr) (c : Nat) (w : World) (hA : GRow GVal.cells 3 w w.heap.size A vs) (hn : vs.length ≤ 1099511627776) (hs : ∀ v ∈ vs, v.word.length ≤ 65536) (hP : Pow w) :
    Calls Tryz.prog 102 #[.slice A vs.length c, .func (.func 65) #[] #[]] w fun e w' => (∃ r : Int, e = .returned (.int .i64 r) ∧ decide (0 ≤ r) = !vs.all gwfV) ∧ Below w.heap.size w w' := by
  have HA := Lib.hid hA
  have HS := Lib.hid hs
  have HP := Lib.hid hP
  clear hA hs hP
  go_enter Tryz.func102, Tryz.ntmps102
  go_wp2
  go_loopw [8] (fun vi wr => ∃ k : Nat, vi = .int .i64 k ∧ k ≤ vs.length ∧ Hid ((vs.take k).all gwfV = true) ∧ Hid (Below w.heap.size w wr)) (fun vi _ => vs.length - (intOf vi).toNat)
  case atStart => exact ⟨0, rfl, Nat.zero_le _, Lib.hid rfl, Lib.hid (Below.refl _ _)⟩
  case round =>
    obtain ⟨k, rfl, hk, HT, HW⟩ := hrel
    rcases Nat.lt_or_ge k vs.length with hlt | hge
    · obtain ⟨b1, o1, rfl, hb1, x0, x1, x2⟩ := (HA.out.below (Nat.le_refl _) HW.out).val3 hlt
      have hv := HS.out vs[k] (List.getElem_mem hlt)
      have HAS := Lib.hid fun h => allV_snoc hlt HT.out h
      have HAF := Lib.hid fun h => allV_fail hlt h
      have hsz := HW.out.size
      have hl1 : b1 < wr.heap.size := by omega
      have HC := Lib.hid (wfClosure_any vs[k] wr hv (HP.out.next HW.out))
      generalize vs[k] = x at *
      obtain ⟨xk, xi, xw⟩ := x
      simp only [GVal.val] at *
      generalize gwfV ⟨xk, xi, xw⟩ = g at *
      go_wp2_with fail
      refine HC.out.mono ?_
      rintro e w1 ⟨rfl, hb3⟩
      have HN := Lib.hid (bel_next HW.out hb3)
      clear hb3
      cases g
      · have HF := Lib.hid (HAF.out rfl)
        go_wp2
        go_ret
        refine ⟨⟨_, rfl, ?_⟩, HN.out⟩
        rw [HF.out]
        simp
      · have HS2 := Lib.hid (HAS.out rfl)
        go_wp2
        go_roundw
        case rel => exact ⟨k + 1, by go_num, by omega, HS2, HN⟩
        case measure => simp [intOf]; omega
    · go_wp2
      go_ret
      refine ⟨⟨_, rfl, ?_⟩, HW.out⟩
      have := HT.out
      rw [List.take_of_length_le hge] at this
      rw [this]
      rfl
set_option maxRecDepth 50000 in
theorem containsV_any (vs : List GVal) (A : Option Addr) (c : Nat) (w : World) (hA : GRow GVal.cells 3 w w.heap.size A vs) (hn : vs.length ≤ 1099511627776) (hs : ∀ v ∈ vs, v.word.length ≤ 65536) (hP : Pow w) :
    Calls Tryz.prog 64 #[.slice A vs.length c, .func (.func 65) #[] #[]] w fun e w' => e = .returned (.bool (!vs.all gwfV)) ∧ Below w.heap.size w w' := by
  have HI := Lib.hid (indexV_any vs A c w hA hn hs hP)
  clear hA hs hP
  generalize vs.all gwfV = g at *
  go_enter Tryz.func64, Tryz.ntmps64
  go_wp2_with fail
  refine HI.out.mono ?_
  rintro e w1 ⟨⟨r, rfl, hr⟩, hb⟩
  have HR := Lib.hid hr
  have HB := Lib.hid hb
  clear hr hb HI
  go_wp2
  go_ret
  exact ⟨ret_bool HR.out, HB.out⟩

/-- A well-formed fact. -/
def gwfF (f : GFact) : Bool := nameB f.rel && decide (1 ≤ f.args.length) && decide (f.args.length ≤ 8) && f.args.all gwfV
set_option maxRecDepth 50000 in
set_option maxHeartbeats 1000000 in
theorem fwellFormed_any (f : GFact) (A : Option Addr) (c : Nat) (w : World) (hA : GRow GVal.cells 3 w w.heap.size A f.args) (hr : f.rel.length ≤ 65536) (hn : f.args.length ≤ 1099511627776) (hs : ∀ v ∈ f.args, v.word.length ≤ 65536) (hP : Pow w) :
    Calls Tryz.prog 34 #[factV f.rel A f.args.length c] w fun e w' => e = .returned (.bool (gwfF f)) ∧ Below w.heap.size w w' := by
  obtain ⟨r, vs⟩ := f
  simp only at *
  have HF : Hid (gwfF ⟨r, vs⟩ = (nameB r && decide (1 ≤ vs.length) && decide (vs.length ≤ 8) && vs.all gwfV)) := Lib.hid rfl
  have HB := Lib.hid (bel_lit (Below.refl w.heap.size w) (.cells #[.string ⟨r.toArray⟩, .slice A vs.length c] 37))
  have HN := Lib.hid fun W => isName_any r W (by unfold maxLen; omega)
  have HC := Lib.hid (containsV_any vs A c (w.alloc (.cells #[.string ⟨r.toArray⟩, .slice A vs.length c] 37)) ((hA.below (Nat.le_refl _) HB.out).wide HB.out.size) hn hs (hP.next HB.out))
  clear hA hs hP
  simp only [factV]
  generalize gwfF ⟨r, vs⟩ = gf at *
  generalize vs.all gwfV = g at *
  have hnot : ∀ (x : Bool) (w : World), (Op.unary .not (.bool x)).run Tryz.prog w = .ok (.bool (!x)) w := fun _ _ => rfl
  cases hnm : nameB r
  · rw [hnm] at HN HF
    go_enter Tryz.func34, Tryz.ntmps34
    go_wp2_with fail
    refine (HN.out _).mono ?_
    rintro e w1 ⟨rfl, rfl⟩
    go_wp2
    go_ret
    exact ⟨ret_bool (by rw [HF.out]; rfl), HB.out⟩
  rw [hnm] at HN HF
  by_cases h1 : 1 ≤ vs.length
  · by_cases h2 : vs.length ≤ 8
    · go_enter Tryz.func34, Tryz.ntmps34
      go_wp2_with fail
      refine (HN.out _).mono ?_
      rintro e w1 ⟨rfl, rfl⟩
      go_wp2_with fail
      refine HC.out.mono ?_
      rintro e w1 ⟨rfl, hb1⟩
      go_wp2
      go_ret
      exact ⟨ret_bool (by rw [HF.out]; simp [h1, h2]), bel_next HB.out hb1⟩
    · go_enter Tryz.func34, Tryz.ntmps34
      go_wp2_with fail
      refine (HN.out _).mono ?_
      rintro e w1 ⟨rfl, rfl⟩
      go_wp2
      go_ret
      exact ⟨ret_bool (by rw [HF.out]; simp [h2]), HB.out⟩
  · go_enter Tryz.func34, Tryz.ntmps34
    go_wp2_with fail
    refine (HN.out _).mono ?_
    rintro e w1 ⟨rfl, rfl⟩
    go_wp2
    go_ret
    exact ⟨ret_bool (by rw [HF.out]; simp [h1]), HB.out⟩
end Go.Proofs.YtmodjokoggmnaaaGreatDoor


namespace Go.Proofs.YtmodjokoggmnaaaGreatDoor

open Go.RowKit Go.Shelf

/-- The fact s, asx it lies in memory, is f. -/
structure FHold (w : World) (B : Nat) (s : SFact) (f : GFact) : Prop where
  rel : s.rel = f.rel
  n : s.n = f.args.length
  row : GRow GVal.cells 3 w B s.A f.args
  few : f.args.length ≤ 1099511627776
theorem FHold.below {w w' : World} {B B' : Nat} {s : SFact} {f : GFact} (h : FHold w B s f) (hB : B ≤ B') (hb : Below B' w w') : FHold w' B s f := ⟨h.rel, h.n, h.row.below hB hb, h.few⟩
theorem FHold.wide {w : World} {B B' : Nat} {s : SFact} {f : GFact} (h : FHold w B s f) (hB : B ≤ B') : FHold w B' s f := ⟨h.rel, h.n, h.row.wide hB, h.few⟩
theorem FHold.next {w w' : World} {B : Nat} {s : SFact} {f : GFact} (h : FHold w B s f) (hB : B ≤ w.heap.size) (hb : Below w.heap.size w w') : FHold w' w'.heap.size s f := (h.below hB hb).wide (Nat.le_trans hB hb.size)
/-- The slice with address A holds the facts fs, asx ss. -/
structure FRow (w : World) (B : Nat) (A : Option Addr) (ss : List SFact) (fs : List GFact) : Prop where
  row : GRow SFact.cells 2 w B A ss
  len : ss.length = fs.length
  each : ∀ i (h1 : i < ss.length) (h2 : i < fs.length), FHold w B ss[i] fs[i]
theorem FRow.below {w w' : World} {B B' : Nat} {A : Option Addr} {ss : List SFact} {fs : List GFact} (h : FRow w B A ss fs) (hB : B ≤ B') (hb : Below B' w w') : FRow w' B A ss fs := ⟨h.row.below hB hb, h.len, fun i h1 h2 => (h.each i h1 h2).below hB hb⟩
theorem FRow.wide {w : World} {B B' : Nat} {A : Option Addr} {ss : List SFact} {fs : List GFact} (h : FRow w B A ss fs) (hB : B ≤ B') : FRow w B' A ss fs := ⟨h.row.wide hB, h.len, fun i h1 h2 => (h.each i h1 h2).wide hB⟩
theorem FRow.next {w w' : World} {B : Nat} {A : Option Addr} {ss : List SFact} {fs : List GFact} (h : FRow w B A ss fs) (hB : B ≤ w.heap.size) (hb : Below w.heap.size w w') : FRow w' w'.heap.size A ss fs := (h.below hB hb).wide (Nat.le_trans hB hb.size)
theorem GRow.fact2 {w : World} {B : Nat} {A : Option Addr} {ss : List SFact} (h : GRow SFact.cells 2 w B A ss) {i : Nat} (hi : i < ss.length) : ∃ b off, A = some ⟨b, off, none⟩ ∧ b < B ∧
    w.cell? ⟨b, off + i * 2, none⟩ = some (.string ⟨ss[i].rel.toArray⟩) ∧ w.cell? ⟨b, off + i * 2 + 1, none⟩ = some (.slice ss[i].A ss[i].n ss[i].c) := by
  obtain ⟨b, off, e, hb, hc⟩ := h (by omega)
  exact ⟨b, off, e, hb, hc i hi 0 _ rfl, hc i hi 1 _ rfl⟩
def isF (f g : GFact) : Bool := decide (cmpF f g = 0)
set_option maxRecDepth 50000 in
set_option maxHeartbeats 1000000 in
theorem containsC_any (f g : GFact) (s t : SFact) (bx : Nat) (w : World) (h0 : w.cell? ⟨bx, 0, none⟩ = some (.string ⟨s.rel.toArray⟩)) (h1 : w.cell? ⟨bx, 1, none⟩ = some (.slice s.A s.n s.c)) (hf : FHold w w.heap.size s f) (hg : FHold w w.heap.size t g) :
    Calls Tryz.prog 47 #[.agg #[.string ⟨t.rel.toArray⟩, .slice t.A t.n t.c], .pointer (some ⟨bx, 0, none⟩)] w fun e w' => e = .returned (.bool (isF f g)) ∧ Below w.heap.size w w' := by
  obtain ⟨sr, sA, sn, sc⟩ := s
  obtain ⟨tr, tA, tn, tc⟩ := t
  have e1 := hf.rel
  have e2 := hf.n
  have e3 := hg.rel
  have e4 := hg.n
  simp only at *
  subst e1 e2 e3 e4
  have HB := Lib.hid (bel_lit (Below.refl w.heap.size w) (.cells #[.string ⟨g.rel.toArray⟩, .slice tA g.args.length tc] 37))
  have HC := Lib.hid (compare_any f g sA tA sc tc (w.alloc (.cells #[.string ⟨g.rel.toArray⟩, .slice tA g.args.length tc] 37)) ((hf.row.below (Nat.le_refl _) HB.out).wide HB.out.size) ((hg.row.below (Nat.le_refl _) HB.out).wide HB.out.size) hf.few hg.few)
  have HD : Hid (isF f g = decide (cmpF f g = 0)) := Lib.hid rfl
  have hbx := World.block_lt_of_cell? w _ h0
  simp only at hbx
  simp only [factV] at HC
  generalize isF f g = q at *
  generalize cmpF f g = k at *
  clear hf hg
  go_enter Tryz.func47, Tryz.ntmps47
  go_wp2_with fail
  refine HC.out.mono ?_
  rintro e w1 ⟨rfl, hb1⟩
  have HN := Lib.hid (bel_next HB.out hb1)
  clear hb1
  by_cases hk : k = 0
  · have fk : (k == 0) = true := by simp [hk]
    go_wp2
    go_ret
    exact ⟨ret_bool (by rw [HD.out]; simp [hk]), HN.out⟩
  · have fk : (k == 0) = false := by simp [hk]
    go_wp2
    go_ret
    exact ⟨ret_bool (by rw [HD.out]; simp [hk]), HN.out⟩
theorem anyF_snoc {f : GFact} {fs : List GFact} {k : Nat} (h : k < fs.length) (ha : (fs.take k).any (isF f) = false) (hw : isF f fs[k] = false) : (fs.take (k + 1)).any (isF f) = false := by
  rw [List.take_succ_eq_append_getElem h, List.any_append, ha]; simp [hw]
theorem anyF_hit {f : GFact} {fs : List GFact} {k : Nat} (h : k < fs.length) (hw : isF f fs[k] = true) : fs.any (isF f) = true := List.any_eq_true.2 ⟨_, List.getElem_mem h, hw⟩
set_option maxRecDepth 50000 in
set_option maxHeartbeats 1000000 in
theorem indexF_any (f : GFact) (s : SFact) (bx : Nat) (ss : List SFact) (fs : List GFact) (A : Option Addr) (c : Nat) (w : World) (hx : w.heap[bx]? = some (.cells #[.string ⟨s.rel.toArray⟩, .slice s.A s.n s.c] 37 (0, 0))) (hf : FHold w w.heap.size s f) (hA : FRow w w.heap.size A ss fs) (hn : fs.length ≤ 1099511627776) :
    Calls Tryz.prog 77 #[.slice A fs.length c, .func (.func 47) #[] #[.pointer (some ⟨bx, 0, none⟩)]] w fun e w' => (∃ r : Int, e = .returned (.int .i64 r) ∧ decide (0 ≤ r) = fs.any (isF f)) ∧ Below w.heap.size w w' := by
  have HA := Lib.hid hA
  have HFH := Lib.hid hf
  have HX := Lib.hid hx
  have hlen := hA.len
  have hbx : bx < w.heap.size := by
    rcases Nat.lt_or_ge bx w.heap.size with h1 | h1
    · exact h1
    · rw [Array.getElem?_eq_none h1] at hx; cases hx
  clear hA hf hx
  go_enter Tryz.func77, Tryz.ntmps77
  go_wp2
  go_loopw [8] (fun vi wr => ∃ k : Nat, vi = .int .i64 k ∧ k ≤ fs.length ∧ Hid ((fs.take k).any (isF f) = false) ∧ Hid (Below w.heap.size w wr)) (fun vi _ => fs.length - (intOf vi).toNat)
  case atStart => exact ⟨0, rfl, Nat.zero_le _, Lib.hid rfl, Lib.hid (Below.refl _ _)⟩
  case round =>
    obtain ⟨k, rfl, hk, HT, HW⟩ := hrel
    rcases Nat.lt_or_ge k fs.length with hlt | hge
    · have hls : k < ss.length := by omega
      obtain ⟨b1, o1, rfl, hb1, x0, x1⟩ := (HA.out.row.below (Nat.le_refl _) HW.out).fact2 hls
      have HAS := Lib.hid fun h => anyF_snoc hlt HT.out h
      have HAF := Lib.hid fun h => anyF_hit (f := f) hlt h
      have hsz := HW.out.size
      have hl1 : b1 < wr.heap.size := by omega
      have hx' := (HW.out.block bx hbx).trans HX.out
      have HC := Lib.hid (containsC_any f fs[k] s ss[k] bx wr (by rw [Lib.cell_of_heap hx']; rfl) (by rw [Lib.cell_of_heap hx']; rfl) (HFH.out.next (Nat.le_refl _) HW.out) ((HA.out.each k hls hlt).next (Nat.le_refl _) HW.out))
      clear hx'
      generalize fs[k] = x at *
      generalize ss[k] = y at *
      obtain ⟨yr, yA, yn, yc⟩ := y
      simp only at *
      generalize isF f x = g at *
      go_wp2_with fail
      refine HC.out.mono ?_
      rintro e w1 ⟨rfl, hb3⟩
      have HN := Lib.hid (bel_next HW.out hb3)
      clear hb3
      cases g
      · have HS2 := Lib.hid (HAS.out rfl)
        go_wp2
        go_roundw
        case rel => exact ⟨k + 1, by go_num, by omega, HS2, HN⟩
        case measure => simp [intOf]; omega
      · have HF := Lib.hid (HAF.out rfl)
        go_wp2
        go_ret
        refine ⟨⟨_, rfl, ?_⟩, HN.out⟩
        rw [HF.out]
        simp
    · go_wp2
      go_ret
      refine ⟨⟨_, rfl, ?_⟩, HW.out⟩
      have := HT.out
      rw [List.take_of_length_le hge] at this
      rw [this]
      rfl
set_option maxRecDepth 50000 in
theorem containsF_any (f : GFact) (s : SFact) (bx : Nat) (ss : List SFact) (fs : List GFact) (A : Option Addr) (c : Nat) (w : World) (hx : w.heap[bx]? = some (.cells #[.string ⟨s.rel.toArray⟩, .slice s.A s.n s.c] 37 (0, 0))) (hf : FHold w w.heap.size s f) (hA : FRow w w.heap.size A ss fs) (hn : fs.length ≤ 1099511627776) :
    Calls Tryz.prog 46 #[.slice A fs.length c, .func (.func 47) #[] #[.pointer (some ⟨bx, 0, none⟩)]] w fun e w' => e = .returned (.bool (fs.any (isF f))) ∧ Below w.heap.size w w' := by
  have HI := Lib.hid (indexF_any f s bx ss fs A c w hx hf hA hn)
  clear hA hf hx
  generalize fs.any (isF f) = g at *
  go_enter Tryz.func46, Tryz.ntmps46
  go_wp2_with fail
  refine HI.out.mono ?_
  rintro e w1 ⟨⟨r, rfl, hr⟩, hb⟩
  have HR := Lib.hid hr
  have HB := Lib.hid hb
  clear hr hb HI
  go_wp2
  go_ret
  exact ⟨ret_bool HR.out, HB.out⟩
set_option maxRecDepth 50000 in
theorem fcontains_any (f : GFact) (s : SFact) (ss : List SFact) (fs : List GFact) (A : Option Addr) (c : Nat) (w : World) (hf : FHold w w.heap.size s f) (hA : FRow w w.heap.size A ss fs) (hn : fs.length ≤ 1099511627776) :
    Calls Tryz.prog 19 #[.slice A fs.length c, .agg #[.string ⟨s.rel.toArray⟩, .slice s.A s.n s.c]] w fun e w' => e = .returned (.bool (fs.any (isF f))) ∧ Below w.heap.size w w' := by
  have HB := Lib.hid (bel_lit (Below.refl w.heap.size w) (.cells #[.string ⟨s.rel.toArray⟩, .slice s.A s.n s.c] 37))
  have HC := Lib.hid (containsF_any f s w.heap.size ss fs A c (w.alloc (.cells #[.string ⟨s.rel.toArray⟩, .slice s.A s.n s.c] 37)) (heap_alloc_new w _) (hf.next (Nat.le_refl _) HB.out) (hA.next (Nat.le_refl _) HB.out) hn)
  clear hf hA
  generalize fs.any (isF f) = g at *
  have hmf : ∀ (fn : Fn) (first cap : Array Value) (w : World), (Instr.makeFunc fn first cap).run Tryz.prog w = .ok (.func fn first cap) w := fun _ _ _ _ => rfl
  go_enter Tryz.func19, Tryz.ntmps19
  go_wp2_with fail
  refine HC.out.mono ?_
  rintro e w1 ⟨rfl, hb1⟩
  go_wp2
  go_ret
  exact ⟨rfl, bel_next HB.out hb1⟩
end Go.Proofs.YtmodjokoggmnaaaGreatDoor


namespace Go.Proofs.YtmodjokoggmnaaaGreatDoor

open Go.RowKit Go.Shelf

def argsT : List GVal → List UInt8
  | [] => []
  | v :: r => vtextL v ++ r.flatMap fun v => 44 :: 32 :: vtextL v
theorem argsT_snoc (a : List GVal) (v : GVal) : argsT (a ++ [v]) = if a = [] then vtextL v else argsT a ++ 44 :: 32 :: vtextL v := by
  cases a with
  | nil => simp [argsT]
  | cons b r => simp [argsT]
theorem argsT_take {vs : List GVal} {k : Nat} (h : k < vs.length) : argsT (vs.take (k + 1)) = if k = 0 then vtextL vs[k] else argsT (vs.take k) ++ 44 :: 32 :: vtextL vs[k] := by
  rw [List.take_succ_eq_append_getElem h, argsT_snoc]
  by_cases h0 : k = 0
  · subst h0; simp
  · rw [if_neg h0, if_neg]
    intro he
    have := congrArg List.length he
    rw [List.length_take, List.length_nil] at this
    omega
theorem argsT_len : ∀ (vs : List GVal), (∀ v ∈ vs, (vtextL v).length ≤ 70000) → (argsT vs).length ≤ vs.length * 70002 := by
  have key : ∀ (vs : List GVal), (∀ v ∈ vs, (vtextL v).length ≤ 70000) → (vs.flatMap fun v => 44 :: 32 :: vtextL v).length ≤ vs.length * 70002 := by
    intro vs
    induction vs with
    | nil => intro _; simp
    | cons v r ih =>
      intro h
      have h1 := h v List.mem_cons_self
      have h2 := ih fun x hx => h x (List.mem_cons_of_mem _ hx)
      rw [List.flatMap_cons, List.length_append, List.length_cons, List.length_cons, List.length_cons]
      omega
  intro vs h
  cases vs with
  | nil => simp [argsT]
  | cons v r =>
    have h1 := h v List.mem_cons_self
    have h2 := key r fun x hx => h x (List.mem_cons_of_mem _ hx)
    show (vtextL v ++ _).length ≤ _
    rw [List.length_append, List.length_cons]
    omega
def factText (f : GFact) : List UInt8 := f.rel ++ [40] ++ argsT f.args ++ [41, 46, 10]
theorem OwnG.kept {α : Type} {enc : α → List Value} {T : TypeId} {k : Nat} {w w' : World} {base b : Nat} {v : Value} {l : List α} (h : OwnG enc T k w base v l) (hT : T ≠ 5) (hb : b < base) (hk : Kept b w w') : OwnG enc T k w' base v l := by
  refine ⟨h.1, ?_⟩
  rcases h.2 with hh | ⟨g, cap, cur, hv, hbs, hh, rest⟩
  · exact .inl hh
  · exact .inr ⟨g, cap, cur, hv, hbs, hk g _ hh (by simp; omega) (by rintro c fz he; cases he; exact hT rfl), rest⟩
def ValAt (w : World) (N : Nat) (v : GVal) : Prop := w.heap[N]? = some (.cells #[.int .i64 v.kind, .int .i64 v.int, .string ⟨v.word.toArray⟩] 40 (0, 0))
theorem ValAt.kept {w w' : World} {N b : Nat} {v : GVal} (h : ValAt w N v) (hk : Kept b w w') (hne : N ≠ b) : ValAt w' N v := hk N _ h (by simp; omega) (by rintro c fz he; cases he)
theorem ValAt.cells {w : World} {N : Nat} {v : GVal} (h : ValAt w N v) : w.cell? ⟨N, 0, none⟩ = some (.int .i64 v.kind) ∧ w.cell? ⟨N, 1, none⟩ = some (.int .i64 v.int) ∧ w.cell? ⟨N, 2, none⟩ = some (.string ⟨v.word.toArray⟩) := by
  unfold ValAt at h
  refine ⟨?_, ?_, ?_⟩ <;> (rw [Lib.cell_of_heap h]; rfl)

set_option maxRecDepth 50000 in
set_option maxHeartbeats 2000000 in
theorem fformat_one (f : GFact) (s : SFact) (A : Addr) (c : Nat) (w : World) (h : GRow SFact.cells 2 w w.heap.size (some A) [s]) (hf : FHold w w.heap.size s f) (hA : s.A ≠ none) (hwf : gwfF f = true) (hr : f.rel.length ≤ 65536) (hi : ∀ v ∈ f.args, v.word.length ≤ 65536 ∧ -9223372036854775808 ≤ v.int ∧ v.int ≤ 9223372036854775807 ∧ (vtextL v).length ≤ 70000) (hP : Pow w) :
    Calls Tryz.prog 10 #[.slice (some A) 1 c] w fun e w' => e = .returned (.string ⟨(factText f).toArray⟩) ∧ Below w.heap.size w w' := by
  obtain ⟨r, vs⟩ := f
  obtain ⟨sr, sA, sn, sc⟩ := s
  have e1 := hf.rel
  have e2 := hf.n
  simp only at e1 e2 hr hi hA
  subst e1 e2
  have h8 : vs.length ≤ 8 := by have := hwf; simp [gwfF] at this; omega
  have HB0 := Lib.hid (bld_new w)
  have hb0 := bel_lit (Below.refl w.heap.size w) (.cells #[.pointer none, .slice none 0 0] 69)
  have HSO := Lib.hid (setOf_one ⟨sr, sA, vs.length, sc⟩ vs A c (w.alloc (.cells #[.pointer none, .slice none 0 0] 69)) (h.next hb0) rfl hA (hf.row.next hb0) (by omega))
  have HW := Lib.hid fun W (hW : Below w.heap.size w W) A' c' (hA' : GRow GVal.cells 3 W W.heap.size A' vs) => fwellFormed_any ⟨sr, vs⟩ A' c' W hA' hr (by simp; omega) (fun v hv => (hi v hv).1) (hP.next hW)
  simp only [hwf, factV] at HW
  have HV := Lib.hid fun W (hW : Below w.heap.size w W) v (hv : v ∈ vs) => valueText_any v W (hi v hv).1 (hi v hv).2.1 (hi v hv).2.2.1 (hP.next hW)
  have HL := Lib.hid fun v hv => (hi v hv).2.2.2
  have hqe : (⟨sr.toArray⟩ ++ ⟨#[40]⟩ : ByteArray) = ⟨(sr ++ [40]).toArray⟩ := ByteArray.ext (by simp [ByteArray.data_append])
  have hws : (w.alloc (.cells #[.pointer none, .slice none 0 0] 69)).heap.size = w.heap.size + 1 := by simp
  have HFT : Hid (factText ⟨sr, vs⟩ = sr ++ [40] ++ argsT vs ++ [41, 46, 10]) := Lib.hid rfl
  clear h hf hP hi hA hb0 hwf
  generalize factText ⟨sr, vs⟩ = ft at *
  go_enter Tryz.func10, Tryz.ntmps10
  go_wp2_with fail
  refine HSO.out.mono ?_
  rintro e w2 ⟨v2, A6, n6, c6, rfl, ho6, hv6, hb6⟩
  obtain ⟨g, cap, rfl, hg0, hg1, hc1, hcm, hr6⟩ := ho6.nonnil SFact.len
  obtain ⟨A7, c7, e7, hc7, hm7, hr7⟩ := hv6.row GVal.len
  cases e7
  rw [hws] at hg0 hv6
  obtain ⟨b6, o6, eA, _, x0, x1⟩ := hr6.fact2 (i := 0) (by simp)
  cases eA
  simp only [Nat.zero_mul, Nat.zero_add, List.getElem_cons_zero] at x0 x1
  have HBL2 := Lib.hid (HB0.out.next hb6)
  have HBW2 := Lib.hid (bel_alloc (Below.refl _ w) hb6)
  have hz2 : w.heap.size < w2.heap.size := by have := hb6.size; rw [hws] at this; omega
  have HV6 := Lib.hid hv6
  have HR7 := Lib.hid hr7
  simp only [List.length_nil, Nat.zero_add]
  clear ho6 hv6 hb6 hr6 hr7 HSO HB0 hws
  go_wp2
  go_loopw [11] (fun vi wr => (vi = .int .i64 0 ∧ wr = w2) ∨ (vi = .int .i64 1 ∧ Hid (Bld wr w.heap.size w.heap.size ft) ∧ Hid (Below w.heap.size w wr))) (fun vi _ => 1 - (intOf vi).toNat)
  case atStart => exact .inl ⟨rfl, rfl⟩
  case round =>
    rcases hrel with ⟨rfl, hw⟩ | ⟨rfl, HLT, HBW⟩
    · subst hw
      have HB3 := Lib.hid (bel_lit HBW2.out (.cells #[.string ⟨sr.toArray⟩, .slice A6 vs.length c6] 37))
      have HWc := Lib.hid (HW.out _ HB3.out A6 c6 (HR7.out.next (bel_lit (Below.refl _ _) _)))
      go_wp2_with fail
      refine HWc.out.mono ?_
      rintro e w3 ⟨rfl, hb3⟩
      have hfx : w3.heap[wr.heap.size]? = some (.cells #[.string ⟨sr.toArray⟩, .slice A6 vs.length c6] 37 (0, 0)) := (hb3.block _ (by simp)).trans (heap_alloc_new wr _)
      have y0 : w3.cell? ⟨wr.heap.size, 0, none⟩ = some (.string ⟨sr.toArray⟩) := by rw [Lib.cell_of_heap hfx]; rfl
      have HFX := Lib.hid hfx
      have HBL3 := Lib.hid ((HBL2.out.alloc _).next hb3)
      have HBW3 := Lib.hid (bel_alloc HBW2.out hb3)
      have HV3 := Lib.hid ((HV6.out.alloc _).next hb3)
      have hz3 := HBW3.out.size
      clear hfx hb3 HWc
      go_wp2_with fail
      refine (bld_str _ _ _ (sr ++ [40]) _ HBL3.out (by simp; omega) (by omega)).mono ?_
      rintro e w4 ⟨rfl, hbl4, hb4, hk4⟩
      have hfx4 := hk4 _ _ HFX.out (by simp; omega) (by rintro c fz he; cases he)
      have y1 : w4.cell? ⟨wr.heap.size, 1, none⟩ = some (.slice A6 vs.length c6) := by rw [Lib.cell_of_heap hfx4]; rfl
      rw [List.nil_append] at hbl4
      have HBL4 := Lib.hid hbl4
      have HV4 := Lib.hid (HV3.out.kept (by decide) (Nat.lt_succ_self _) hk4)
      have HBW4 := Lib.hid (HBW3.out.trans hb4)
      clear hfx4 hbl4 hb4 hk4 y0
      go_wp2
      go_loopw [25] (fun vi wx => ∃ k : Nat, vi = .int .i64 k ∧ k ≤ vs.length ∧ Hid (Bld wx w.heap.size w.heap.size (sr ++ [40] ++ argsT (vs.take k))) ∧ Hid (OwnG GVal.cells 40 3 wx (w.heap.size + 1) (.slice A6 vs.length c6) vs) ∧ Hid (Below w.heap.size w wx)) (fun vi _ => vs.length - (intOf vi).toNat)
      case atStart => exact ⟨0, rfl, Nat.zero_le _, Lib.hid (by simpa [argsT] using HBL4.out), HV4, HBW4⟩
      case round =>
        obtain ⟨k, rfl, hk, HLk, HVk, HWk⟩ := hrel
        have hzz : w.heap.size < wr.heap.size := by
          rcases HLk.out with h | h
          · exact h.lt
          · exact h.lt
        rcases Nat.lt_or_ge k vs.length with hlt | hge
        · obtain ⟨A8, c8, e8, _, _, hr8⟩ := HVk.out.row GVal.len
          cases e8
          obtain ⟨b1, o1, rfl, hb1, x0, x1, x2⟩ := hr8.val3 hlt
          have HVT := Lib.hid fun W hW => HV.out W hW vs[k] (List.getElem_mem hlt)
          have hvl := HL.out vs[k] (List.getElem_mem hlt)
          have HJ := Lib.hid (argsT_take hlt)
          have hjl : (argsT (vs.take k)).length ≤ 560016 := by
            have h1 := argsT_len (vs.take k) (fun v hv => HL.out v (List.mem_of_mem_take hv))
            rw [List.length_take] at h1
            have h2 : min k vs.length * 70002 ≤ 8 * 70002 := Nat.mul_le_mul_right _ (by omega)
            omega
          generalize vs[k] = v at *
          obtain ⟨vk, vi, vw⟩ := v
          simp only [GVal.val] at x0 x1 x2 HVT
          generalize vtextL ⟨vk, vi, vw⟩ = vt at *
          have HVA : Hid (ValAt (wr.alloc (.cells #[.int .i64 vk, .int .i64 vi, .string ⟨vw.toArray⟩] 40)) wr.heap.size ⟨vk, vi, vw⟩) := Lib.hid (heap_alloc_new wr _)
          have HLa := Lib.hid (HLk.out.alloc (.cells #[.int .i64 vk, .int .i64 vi, .string ⟨vw.toArray⟩] 40))
          have HVa := Lib.hid (HVk.out.alloc (.cells #[.int .i64 vk, .int .i64 vi, .string ⟨vw.toArray⟩] 40))
          have HWa := Lib.hid (bel_lit HWk.out (.cells #[.int .i64 vk, .int .i64 vi, .string ⟨vw.toArray⟩] 40))
          clear hr8
          by_cases hk0 : k = 0
          · have fk : decide ((0 : Int) < (k : Int)) = false := by simp; omega
            have fk2 : ¬ 0 < k := by omega
            have HJ0 : Hid (argsT (vs.take (k + 1)) = vt) := Lib.hid (by rw [HJ.out, if_pos hk0])
            have HJE : Hid (argsT (vs.take k) = []) := Lib.hid (by rw [hk0]; rfl)
            have HT := Lib.hid (HVT.out _ HWa.out)
            clear hk0
            go_wp2_with fail
            refine HT.out.mono ?_
            rintro e w5 ⟨rfl, hb5⟩
            have HL5 := Lib.hid (HLa.out.next hb5)
            have HV5 := Lib.hid (HVa.out.next hb5)
            have HW5 := Lib.hid (bel_next HWa.out hb5)
            have hz5 := HW5.out.size
            clear hb5 HT
            go_wp2_with fail
            refine (bld_str _ _ _ vt _ HL5.out (by simp; omega) (by omega)).mono ?_
            rintro e w6 ⟨rfl, hbl6, hb6, hk6⟩
            have HL6 : Hid (Bld w6 w.heap.size w.heap.size (sr ++ [40] ++ argsT (vs.take (k + 1)))) := Lib.hid (by rw [HJ0.out]; rw [HJE.out, List.append_nil] at hbl6; exact hbl6)
            have HV6 := Lib.hid (HV5.out.kept (by decide) (Nat.lt_succ_self _) hk6)
            have HW6 := Lib.hid (HW5.out.trans hb6)
            clear hbl6 hb6 hk6
            go_wp2
            go_roundw
            case rel => exact ⟨k + 1, by go_num, by omega, HL6, HV6, HW6⟩
            case measure => simp [intOf]; omega
          · have fk : decide ((0 : Int) < (k : Int)) = true := by simp; omega
            have fk2 : 0 < k := by omega
            have HJ0 : Hid (argsT (vs.take (k + 1)) = argsT (vs.take k) ++ 44 :: 32 :: vt) := Lib.hid (by rw [HJ.out, if_neg hk0])
            clear hk0
            go_wp2_with fail
            refine (bld_str _ _ _ [44, 32] _ HLa.out (by simp; omega) (by simp; omega)).mono ?_
            rintro e w5 ⟨rfl, hbl5, hb5, hk5⟩
            obtain ⟨y0, y1, y2⟩ := (HVA.out.kept hk5 (by omega)).cells
            simp only at y0 y1 y2
            have HL5 := Lib.hid hbl5
            have HV5 := Lib.hid (HVa.out.kept (by decide) (Nat.lt_succ_self _) hk5)
            have HW5 := Lib.hid (HWa.out.trans hb5)
            have HT := Lib.hid (HVT.out _ HW5.out)
            have hz5 := HW5.out.size
            clear hbl5 hb5 hk5 x0 x1 x2
            go_wp2_with fail
            refine HT.out.mono ?_
            rintro e w6 ⟨rfl, hb6⟩
            have HL6 := Lib.hid (HL5.out.next hb6)
            have HV6 := Lib.hid (HV5.out.next hb6)
            have HW6 := Lib.hid (bel_next HW5.out hb6)
            have hz6 := HW6.out.size
            clear hb6 HT
            go_wp2_with fail
            refine (bld_str _ _ _ vt _ HL6.out (by simp; omega) (by omega)).mono ?_
            rintro e w7 ⟨rfl, hbl7, hb7, hk7⟩
            have HL7 : Hid (Bld w7 w.heap.size w.heap.size (sr ++ [40] ++ argsT (vs.take (k + 1)))) := Lib.hid (by rw [HJ0.out]; simpa using hbl7)
            have HV7 := Lib.hid (HV6.out.kept (by decide) (Nat.lt_succ_self _) hk7)
            have HW7 := Lib.hid (HW6.out.trans hb7)
            clear hbl7 hb7 hk7
            go_wp2
            go_roundw
            case rel => exact ⟨k + 1, by go_num, by omega, HL7, HV7, HW7⟩
            case measure => simp [intOf]; omega
        · have hjl : (argsT (vs.take k)).length ≤ 560016 := by
            have h1 := argsT_len (vs.take k) (fun v hv => HL.out v (List.mem_of_mem_take hv))
            rw [List.length_take] at h1
            have h2 : min k vs.length * 70002 ≤ 8 * 70002 := Nat.mul_le_mul_right _ (by omega)
            omega
          have HTK : Hid (argsT (vs.take k) = argsT vs) := Lib.hid (by rw [List.take_of_length_le hge])
          go_wp2_with fail
          refine (bld_str _ _ _ [41, 46, 10] _ HLk.out (by simp; omega) (by omega)).mono ?_
          rintro e w6 ⟨rfl, hbl6, hb6, hk6⟩
          have HL6 : Hid (Bld w6 w.heap.size w.heap.size ft) := Lib.hid (by rw [HFT.out, ← HTK.out]; exact hbl6)
          have HW6 := Lib.hid (HWk.out.trans hb6)
          clear hbl6 hb6 hk6
          go_wp2
          go_roundw
          case rel => exact .inr ⟨by go_num, HL6, HW6⟩
          case measure => simp [intOf]
    · have hz := HBW.out.size
      go_wp2_with fail
      refine (bld_string _ _ _ _ HLT.out (by omega)).mono ?_
      rintro e w5 ⟨rfl, hb5⟩
      have HB5 := Lib.hid (HBW.out.trans hb5)
      clear hb5
      go_wp2
      go_ret
      exact ⟨rfl, HB5.out⟩
end Go.Proofs.YtmodjokoggmnaaaGreatDoor
