/-
  Membership: facts.Contains.
  Conditions: facts have at most 2^40 arguments.
  Facts in a row, with what they are; equal neighbours; the closure that merged hands to slices.CompactFunc.
  Conditions: as each theorem says.
-/
import Derived.Test.YtolkceibbefhfaaGreatDoorMa21
import Derived.Test.YtolkceibbefhfaaGreatDoorMa14
import Derived.Test.YtolkceibbefhfaaGreatDoorMa20
import Derived.Deep.DeepFit
namespace Go.Proofs.YtolkceibbefhfaaGreatDoor
open Go.RowKit Go.Shelf

/-- The fact s, asx it lies in memory, is f. -/
structure FHold (w : World) (B : Nat) (s : SFact) (f : GFact) : Prop where
  rel : s.rel = f.rel
  n : s.n = f.args.length
  row : GRow GVal.cells 3 w B s.A f.args
  few : f.args.length ≤ 1099511627776
theorem FHold.below {w w' : World} {B B' : Nat} {s : SFact} {f : GFact} (h : FHold w B s f) (hB : B ≤ B') (hb : Below B' w w') : FHold w' B s f := ⟨h.rel, h.n, h.row.below hB hb, h.few⟩
theorem FHold.wide {w : World} {B B' : Nat} {s : SFact} {f : GFact} (h : FHold w B s f) (hB : B ≤ B') : FHold w B' s f := ⟨h.rel, h.n, h.row.wide hB, h.few⟩
theorem FHold.next {w w' : World} {B : Nat} {s : SFact} {f : GFact} (h : FHold w B s f) (hB : B ≤ w.heap.size) (hb : Below w.heap.size w w') : FHold w' w'.heap.size s f := (h.below hB hb).wide (Nat.le_trans hB hb.size)
/-- The slice with address A holds the facts fs, asx ss. -/
structure FRow (w : World) (B : Nat) (A : Option Addr) (ss : List SFact) (fs : List GFact) : Prop where
  row : GRow SFact.cells 2 w B A ss
  len : ss.length = fs.length
  each : ∀ i (h1 : i < ss.length) (h2 : i < fs.length), FHold w B ss[i] fs[i]
theorem FRow.below {w w' : World} {B B' : Nat} {A : Option Addr} {ss : List SFact} {fs : List GFact} (h : FRow w B A ss fs) (hB : B ≤ B') (hb : Below B' w w') : FRow w' B A ss fs := ⟨h.row.below hB hb, h.len, fun i h1 h2 => (h.each i h1 h2).below hB hb⟩
theorem FRow.wide {w : World} {B B' : Nat} {A : Option Addr} {ss : List SFact} {fs : List GFact} (h : FRow w B A ss fs) (hB : B ≤ B') : FRow w B' A ss fs := ⟨h.row.wide hB, h.len, fun i h1 h2 => (h.each i h1 h2).wide hB⟩
theorem FRow.next {w w' : World} {B : Nat} {A : Option Addr} {ss : List SFact} {fs : List GFact} (h : FRow w B A ss fs) (hB : B ≤ w.heap.size) (hb : Below w.heap.size w w') : FRow w' w'.heap.size A ss fs := (h.below hB hb).wide (Nat.le_trans hB hb.size)
theorem GRow.fact2 {w : World} {B : Nat} {A : Option Addr} {ss : List SFact} (h : GRow SFact.cells 2 w B A ss) {i : Nat} (hi : i < ss.length) : ∃ b off, A = some ⟨b, off, none⟩ ∧ b < B ∧
    w.cell? ⟨b, off + i * 2, none⟩ = some (.string ⟨ss[i].rel.toArray⟩) ∧ w.cell? ⟨b, off + i * 2 + 1, none⟩ = some (.slice ss[i].A ss[i].n ss[i].c) := by
  obtain ⟨b, off, e, hb, hc⟩ := h (by omega)
  exact ⟨b, off, e, hb, hc i hi 0 _ rfl, hc i hi 1 _ rfl⟩
def isF (f g : GFact) : Bool := decide (cmpF f g = 0)
set_option maxRecDepth 50000 in
set_option maxHeartbeats 1000000 in
theorem containsC_any (f g : GFact) (s t : SFact) (bx : Nat) (w : World) (h0 : w.cell? ⟨bx, 0, none⟩ = some (.string ⟨s.rel.toArray⟩)) (h1 : w.cell? ⟨bx, 1, none⟩ = some (.slice s.A s.n s.c)) (hf : FHold w w.heap.size s f) (hg : FHold w w.heap.size t g) :
    Calls Tryz.prog 41 #[.agg #[.string ⟨t.rel.toArray⟩, .slice t.A t.n t.c], .pointer (some ⟨bx, 0, none⟩)] w fun e w' => e = .returned (.bool (isF f g)) ∧ Below w.heap.size w w' := by
  obtain ⟨sr, sA, sn, sc⟩ := s
  obtain ⟨tr, tA, tn, tc⟩ := t
  have e1 := hf.rel
  have e2 := hf.n
  have e3 := hg.rel
  have e4 := hg.n
  simp only at *
  subst e1 e2 e3 e4
  have HB := Lib.hid (bel_lit (Below.refl w.heap.size w) (.cells #[.string ⟨g.rel.toArray⟩, .slice tA g.args.length tc] 25))
  have HC := Lib.hid (compare_any f g sA tA sc tc (w.alloc (.cells #[.string ⟨g.rel.toArray⟩, .slice tA g.args.length tc] 25)) ((hf.row.below (Nat.le_refl _) HB.out).wide HB.out.size) ((hg.row.below (Nat.le_refl _) HB.out).wide HB.out.size) hf.few hg.few)
  have HD : Hid (isF f g = decide (cmpF f g = 0)) := Lib.hid rfl
  have hbx := World.block_lt_of_cell? w _ h0
  simp only at hbx
  simp only [factV] at HC
  generalize isF f g = q at *
  generalize cmpF f g = k at *
  clear hf hg
  go_enter Tryz.func41, Tryz.ntmps41
  go_wp2_with fail
  refine HC.out.mono ?_
  rintro e w1 ⟨rfl, hb1⟩
  have HN := Lib.hid (bel_next HB.out hb1)
  clear hb1
  by_cases hk : k = 0
  · have fk : (k == 0) = true := by simp [hk]
    go_wp2
    go_ret
    exact ⟨ret_bool (by rw [HD.out]; simp [hk]), HN.out⟩
  · have fk : (k == 0) = false := by simp [hk]
    go_wp2
    go_ret
    exact ⟨ret_bool (by rw [HD.out]; simp [hk]), HN.out⟩
theorem anyF_snoc {f : GFact} {fs : List GFact} {k : Nat} (h : k < fs.length) (ha : (fs.take k).any (isF f) = false) (hw : isF f fs[k] = false) : (fs.take (k + 1)).any (isF f) = false := by
  rw [List.take_succ_eq_append_getElem h, List.any_append, ha]; simp [hw]
theorem anyF_hit {f : GFact} {fs : List GFact} {k : Nat} (h : k < fs.length) (hw : isF f fs[k] = true) : fs.any (isF f) = true := List.any_eq_true.2 ⟨_, List.getElem_mem h, hw⟩
set_option maxRecDepth 50000 in
set_option maxHeartbeats 1000000 in
theorem indexF_any (f : GFact) (s : SFact) (bx : Nat) (ss : List SFact) (fs : List GFact) (A : Option Addr) (c : Nat) (w : World) (hx : w.heap[bx]? = some (.cells #[.string ⟨s.rel.toArray⟩, .slice s.A s.n s.c] 25 (0, 0))) (hf : FHold w w.heap.size s f) (hA : FRow w w.heap.size A ss fs) (hn : fs.length ≤ 1099511627776) :
    Calls Tryz.prog 63 #[.slice A fs.length c, .func (.func 41) #[] #[.pointer (some ⟨bx, 0, none⟩)]] w fun e w' => (∃ r : Int, e = .returned (.int .i64 r) ∧ decide (0 ≤ r) = fs.any (isF f)) ∧ Below w.heap.size w w' := by
  have HA := Lib.hid hA
  have HFH := Lib.hid hf
  have HX := Lib.hid hx
  have hlen := hA.len
  have hbx : bx < w.heap.size := by
    rcases Nat.lt_or_ge bx w.heap.size with h1 | h1
    · exact h1
    · rw [Array.getElem?_eq_none h1] at hx; cases hx
  clear hA hf hx
  go_enter Tryz.func63, Tryz.ntmps63
  go_wp2
  go_loopw [8] (fun vi wr => ∃ k : Nat, vi = .int .i64 k ∧ k ≤ fs.length ∧ Hid ((fs.take k).any (isF f) = false) ∧ Hid (Below w.heap.size w wr)) (fun vi _ => fs.length - (intOf vi).toNat)
  case atStart => exact ⟨0, rfl, Nat.zero_le _, Lib.hid rfl, Lib.hid (Below.refl _ _)⟩
  case round =>
    obtain ⟨k, rfl, hk, HT, HW⟩ := hrel
    rcases Nat.lt_or_ge k fs.length with hlt | hge
    · have hls : k < ss.length := by omega
      obtain ⟨b1, o1, rfl, hb1, x0, x1⟩ := (HA.out.row.below (Nat.le_refl _) HW.out).fact2 hls
      have HAS := Lib.hid fun h => anyF_snoc hlt HT.out h
      have HAF := Lib.hid fun h => anyF_hit (f := f) hlt h
      have hsz := HW.out.size
      have hl1 : b1 < wr.heap.size := by omega
      have hx' := (HW.out.block bx hbx).trans HX.out
      have HC := Lib.hid (containsC_any f fs[k] s ss[k] bx wr (by rw [Lib.cell_of_heap hx']; rfl) (by rw [Lib.cell_of_heap hx']; rfl) (HFH.out.next (Nat.le_refl _) HW.out) ((HA.out.each k hls hlt).next (Nat.le_refl _) HW.out))
      clear hx'
      generalize fs[k] = x at *
      generalize ss[k] = y at *
      obtain ⟨yr, yA, yn, yc⟩ := y
      simp only at *
      generalize isF f x = g at *
      go_wp2_with fail
      refine HC.out.mono ?_
      rintro e w1 ⟨rfl, hb3⟩
      have HN := Lib.hid (bel_next HW.out hb3)
      clear hb3
      cases g
      · have HS2 := Lib.hid (HAS.out rfl)
        go_wp2
        go_roundw
        case rel => exact ⟨k + 1, by go_num, by omega, HS2, HN⟩
        case measure => simp [intOf]; omega
      · have HF := Lib.hid (HAF.out rfl)
        go_wp2
        go_ret
        refine ⟨⟨_, rfl, ?_⟩, HN.out⟩
        rw [HF.out]
        simp
    · go_wp2
      go_ret
      refine ⟨⟨_, rfl, ?_⟩, HW.out⟩
      have := HT.out
      rw [List.take_of_length_le hge] at this
      rw [this]
      rfl
set_option maxRecDepth 50000 in
theorem containsF_any (f : GFact) (s : SFact) (bx : Nat) (ss : List SFact) (fs : List GFact) (A : Option Addr) (c : Nat) (w : World) (hx : w.heap[bx]? = some (.cells #[.string ⟨s.rel.toArray⟩, .slice s.A s.n s.c] 25 (0, 0))) (hf : FHold w w.heap.size s f) (hA : FRow w w.heap.size A ss fs) (hn : fs.length ≤ 1099511627776) :
    Calls Tryz.prog 40 #[.slice A fs.length c, .func (.func 41) #[] #[.pointer (some ⟨bx, 0, none⟩)]] w fun e w' => e = .returned (.bool (fs.any (isF f))) ∧ Below w.heap.size w w' := by
  have HI := Lib.hid (indexF_any f s bx ss fs A c w hx hf hA hn)
  clear hA hf hx
  generalize fs.any (isF f) = g at *
  go_enter Tryz.func40, Tryz.ntmps40
  go_wp2_with fail
  refine HI.out.mono ?_
  rintro e w1 ⟨⟨r, rfl, hr⟩, hb⟩
  have HR := Lib.hid hr
  have HB := Lib.hid hb
  clear hr hb HI
  go_wp2
  go_ret
  exact ⟨ret_bool HR.out, HB.out⟩
set_option maxRecDepth 50000 in
theorem fcontains_any (f : GFact) (s : SFact) (ss : List SFact) (fs : List GFact) (A : Option Addr) (c : Nat) (w : World) (hf : FHold w w.heap.size s f) (hA : FRow w w.heap.size A ss fs) (hn : fs.length ≤ 1099511627776) :
    Calls Tryz.prog 16 #[.slice A fs.length c, .agg #[.string ⟨s.rel.toArray⟩, .slice s.A s.n s.c]] w fun e w' => e = .returned (.bool (fs.any (isF f))) ∧ Below w.heap.size w w' := by
  have HB := Lib.hid (bel_lit (Below.refl w.heap.size w) (.cells #[.string ⟨s.rel.toArray⟩, .slice s.A s.n s.c] 25))
  have HC := Lib.hid (containsF_any f s w.heap.size ss fs A c (w.alloc (.cells #[.string ⟨s.rel.toArray⟩, .slice s.A s.n s.c] 25)) (heap_alloc_new w _) (hf.next (Nat.le_refl _) HB.out) (hA.next (Nat.le_refl _) HB.out) hn)
  clear hf hA
  generalize fs.any (isF f) = g at *
  have hmf : ∀ (fn : Fn) (first cap : Array Value) (w : World), (Instr.makeFunc fn first cap).run Tryz.prog w = .ok (.func fn first cap) w := fun _ _ _ _ => rfl
  go_enter Tryz.func16, Tryz.ntmps16
  go_wp2_with fail
  refine HC.out.mono ?_
  rintro e w1 ⟨rfl, hb1⟩
  go_wp2
  go_ret
  exact ⟨rfl, bel_next HB.out hb1⟩
end Go.Proofs.YtolkceibbefhfaaGreatDoor


namespace Go.Proofs.YtolkceibbefhfaaGreatDoor
open Go.RowKit Go.Shelf

/-- A fact asx it lies in memory, with what it is; w0: a world in which its arguments lie. -/
def Elem (w0 : World) : Type := { p : SFact × GFact // FHold w0 w0.heap.size p.1 p.2 }
instance (w0 : World) : Inhabited (Elem w0) := ⟨⟨(⟨[], none, 0, 0⟩, ⟨[], []⟩), ⟨rfl, rfl, GRow.nil, by simp⟩⟩⟩
def Elem.sf {w0 : World} (x : Elem w0) : SFact := x.1.1
def Elem.enc {w0 : World} (x : Elem w0) : List Value := x.sf.cells
def Elem.fact {w0 : World} (x : Elem w0) : GFact := x.1.2
def Elem.cf {w0 : World} (x y : Elem w0) : Int := cmpF x.fact y.fact
def Elem.val {w0 : World} (x : Elem w0) : Value := .agg #[.string ⟨x.sf.rel.toArray⟩, .slice x.sf.A x.sf.n x.sf.c]
theorem Elem.len {w0 : World} (x : Elem w0) : x.enc.length = 2 := rfl
theorem Elem.one {w0 : World} (x : Elem w0) : ∀ u ∈ x.enc, u.oneCell' = true := SFact.one x.sf
theorem Elem.hold {w0 w : World} (x : Elem w0) (hb : Below w0.heap.size w0 w) : FHold w w.heap.size x.sf x.fact := x.2.next (Nat.le_refl _) hb
/-- The closure that union hands on. -/
theorem unionE_gr {w0 : World} (x y : Elem w0) (w : World) (hb : Below w0.heap.size w0 w) :
    Calls Tryz.prog 56 #[x.val, y.val] w fun e w' => e = .returned (.int .i64 (Elem.cf x y)) ∧ Gr w w' := by
  have hx := x.hold hb
  have hy := y.hold hb
  have h := unionC_gr x.fact y.fact x.sf.A y.sf.A x.sf.c y.sf.c w hx.row hy.row hx.few hy.few
  unfold Elem.val
  rw [hx.rel, hx.n, hy.rel, hy.n]
  exact h
def eqE {w0 : World} (x y : Elem w0) : Bool := decide (Elem.cf x y = 0)
set_option maxRecDepth 50000 in
set_option maxHeartbeats 1000000 in
theorem mergedC_gr {w0 : World} (x y : Elem w0) (bx : Nat) (w : World) (hb : Below w0.heap.size w0 w) (hx : w.cell? ⟨bx, 0, none⟩ = some (.func (.func 56) #[] #[])) :
    Calls Tryz.prog 81 #[x.val, y.val, .pointer (some ⟨bx, 0, none⟩)] w fun e w' => e = .returned (.bool (eqE x y)) ∧ Gr w w' := by
  have HB := Lib.hid (gr_lit (gr_lit (Gr.refl w) (.cells #[.string ⟨x.sf.rel.toArray⟩, .slice x.sf.A x.sf.n x.sf.c] 25)) (.cells #[.string ⟨y.sf.rel.toArray⟩, .slice y.sf.A y.sf.n y.sf.c] 25))
  have HC := Lib.hid (unionE_gr x y _ (bel_next hb HB.out.bel))
  have HD : Hid (eqE x y = decide (Elem.cf x y = 0)) := Lib.hid rfl
  have hbx := World.block_lt_of_cell? w _ hx
  simp only at hbx
  unfold Elem.val at *
  generalize eqE x y = q at *
  generalize Elem.cf x y = k at *
  generalize x.sf = s at *
  generalize y.sf = t at *
  obtain ⟨sr, sA, sn, sc⟩ := s
  obtain ⟨tr, tA, tn, tc⟩ := t
  simp only at *
  clear hb
  go_enter Tryz.func81, Tryz.ntmps81
  go_wp2_with fail
  go_fit HC.out
  rintro e w1 ⟨rfl, hb1⟩
  have HN := Lib.hid (gr_next HB.out hb1)
  clear hb1
  by_cases hk : k = 0
  · have fk : (k == 0) = true := by simp [hk]
    go_wp2
    go_ret
    exact ⟨ret_bool (by rw [HD.out]; simp [hk]), HN.out⟩
  · have fk : (k == 0) = false := by simp [hk]
    go_wp2
    go_ret
    exact ⟨ret_bool (by rw [HD.out]; simp [hk]), HN.out⟩

/-- Of equal neighbours the first is kept. -/
def compFrom {w0 : World} : Elem w0 → List (Elem w0) → List (Elem w0)
  | _, [] => []
  | p, y :: r => if eqE y p then compFrom y r else y :: compFrom y r
def compE {w0 : World} : List (Elem w0) → List (Elem w0)
  | [] => []
  | x :: r => x :: compFrom x r
theorem compFrom_snoc {w0 : World} : ∀ (r : List (Elem w0)) (p q y : Elem w0), (p :: r).getLast? = some q → compFrom p (r ++ [y]) = compFrom p r ++ if eqE y q then [] else [y]
  | [], p, q, y, h => by
    simp at h
    subst h
    simp only [List.nil_append, compFrom]
  | z :: r, p, q, y, h => by
    have h' : (z :: r).getLast? = some q := by simpa [List.getLast?_cons_cons] using h
    have ih := compFrom_snoc r z q y h'
    show (if eqE z p then compFrom z (r ++ [y]) else z :: compFrom z (r ++ [y])) = (if eqE z p then compFrom z r else z :: compFrom z r) ++ _
    rw [ih]
    by_cases e : eqE z p = true
    · rw [if_pos e, if_pos e]
    · rw [if_neg e, if_neg e]; rfl
theorem compE_step {w0 : World} {es : List (Elem w0)} {k : Nat} (h0 : 1 ≤ k) (h : k < es.length) :
    compE (es.take (k + 1)) = if eqE es[k] (es[k - 1]'(by omega)) then compE (es.take k) else compE (es.take k) ++ [es[k]] := by
  rw [List.take_succ_eq_append_getElem h]
  cases es with
  | nil => simp at h
  | cons x r =>
    obtain ⟨m, rfl⟩ : ∃ m, k = m + 1 := ⟨k - 1, by omega⟩
    have hm : m < r.length := by simpa using h
    simp only [List.take_succ_cons, List.cons_append]
    have hl : (x :: r.take m).getLast? = some ((x :: r)[m]'(by simp; omega)) := by
      rw [List.getLast?_eq_getElem?]
      have e : (x :: r.take m).length - 1 = m := by simp; omega
      rw [e, ← List.take_succ_cons, List.getElem?_take_of_lt (by omega), List.getElem?_eq_getElem]
    show x :: compFrom x (r.take m ++ [_]) = _
    rw [compFrom_snoc _ _ _ _ hl]
    simp only [Nat.add_sub_cancel]
    by_cases e : eqE (x :: r)[m + 1] ((x :: r)[m]'(by simp; omega)) = true
    · rw [if_pos e, if_pos e]; simp [compE]
    · rw [if_neg e, if_neg e]; simp [compE]
theorem compE_one {w0 : World} {es : List (Elem w0)} (h : 1 ≤ es.length) : compE (es.take 1) = es.take 1 := by
  cases es with
  | nil => simp at h
  | cons x r => simp [compE, compFrom]
/-- Ascending elements without equal neighbours ascend strictly; no fact is lost. -/
theorem compFrom_mem {w0 : World} : ∀ (r : List (Elem w0)) (p : Elem w0) (f : GFact), (f = p.fact ∨ ∃ x ∈ compFrom p r, x.fact = f) ↔ (f = p.fact ∨ ∃ x ∈ r, x.fact = f)
  | [], p, f => by simp [compFrom]
  | y :: r, p, f => by
    have ih := compFrom_mem r y f
    unfold compFrom
    by_cases e : eqE y p = true
    · rw [if_pos e]
      have hyp : y.fact = p.fact := (ord_fact.z _ _).1 (of_decide_eq_true e)
      rw [← hyp, ih]
      constructor
      · rintro (h | ⟨x, hx, h⟩)
        · exact .inl h
        · exact .inr ⟨x, List.mem_cons_of_mem _ hx, h⟩
      · rintro (h | ⟨x, hx, h⟩)
        · exact .inl h
        · rcases List.mem_cons.1 hx with rfl | hx
          · exact .inl h.symm
          · exact .inr ⟨x, hx, h⟩
    · rw [if_neg e]
      constructor
      · rintro (h | ⟨x, hx, h⟩)
        · exact .inl h
        · rcases List.mem_cons.1 hx with rfl | hx
          · exact .inr ⟨x, List.mem_cons_self, h⟩
          · rcases ih.1 (.inr ⟨x, hx, h⟩) with h1 | ⟨z, hz, h1⟩
            · exact .inr ⟨y, List.mem_cons_self, h1.symm⟩
            · exact .inr ⟨z, List.mem_cons_of_mem _ hz, h1⟩
      · rintro (h | ⟨x, hx, h⟩)
        · exact .inl h
        · rcases List.mem_cons.1 hx with rfl | hx
          · exact .inr ⟨x, List.mem_cons_self, h⟩
          · rcases ih.2 (.inr ⟨x, hx, h⟩) with h1 | ⟨z, hz, h1⟩
            · exact .inr ⟨y, List.mem_cons_self, h1.symm⟩
            · exact .inr ⟨z, List.mem_cons_of_mem _ hz, h1⟩
theorem compE_mem {w0 : World} (es : List (Elem w0)) (f : GFact) : (∃ x ∈ compE es, x.fact = f) ↔ ∃ x ∈ es, x.fact = f := by
  cases es with
  | nil => simp [compE]
  | cons p r =>
    have := compFrom_mem r p f
    simp only [compE, List.mem_cons, exists_eq_or_imp]
    rw [eq_comm (a := p.fact)]
    exact this
def SortedE {w0 : World} (es : List (Elem w0)) : Prop := es.Pairwise fun x y => Elem.cf x y ≤ 0
def StrictF (fs : List GFact) : Prop := fs.Pairwise fun x y => cmpF x y < 0
theorem compFrom_strict {w0 : World} : ∀ (r : List (Elem w0)) (p : Elem w0), SortedE (p :: r) → StrictF (p.fact :: (compFrom p r).map Elem.fact)
  | [], p, _ => by simp [compFrom, StrictF]
  | y :: r, p, h => by
    have h1 := List.pairwise_cons.1 h
    have ih := compFrom_strict r y h1.2
    have ih1 := List.pairwise_cons.1 ih
    unfold compFrom
    by_cases e : eqE y p = true
    · rw [if_pos e]
      have hyp : y.fact = p.fact := (ord_fact.z _ _).1 (of_decide_eq_true e)
      rw [← hyp]; exact ih
    · rw [if_neg e]
      have hle := h1.1 y List.mem_cons_self
      have hlt : cmpF p.fact y.fact < 0 := by
        have hn : ¬ cmpF y.fact p.fact = 0 := fun hc => e (decide_eq_true hc)
        have := ord_fact.n p.fact y.fact
        have hle' : cmpF p.fact y.fact ≤ 0 := hle
        omega
      rw [List.map_cons]
      refine List.pairwise_cons.2 ⟨fun z hz => ?_, ih⟩
      rcases List.mem_cons.1 hz with rfl | hz
      · exact hlt
      · exact ord_fact.t _ _ _ hlt (ih1.1 z hz)
theorem compE_strict {w0 : World} {es : List (Elem w0)} (h : SortedE es) : StrictF ((compE es).map Elem.fact) := by
  cases es with
  | nil => simp [compE, StrictF]
  | cons p r => exact compFrom_strict r p h
theorem compE_len {w0 : World} : ∀ (es : List (Elem w0)), (compE es).length ≤ es.length := by
  have key : ∀ (r : List (Elem w0)) (p : Elem w0), (compFrom p r).length ≤ r.length := by
    intro r
    induction r with
    | nil => intro p; simp [compFrom]
    | cons y r ih =>
      intro p
      unfold compFrom
      split
      · have := ih y; simp; omega
      · have := ih y; simp; omega
  intro es
  cases es with
  | nil => simp [compE]
  | cons p r => have := key r p; simp [compE]; omega
end Go.Proofs.YtolkceibbefhfaaGreatDoor
