/-
  Membership: facts.Contains.
  Conditions: facts have at most 2^40 arguments.
-/
import Derived.Test.YtfmajccblnmglaaGreatDoorFpz
namespace Go.Proofs.YtfmajccblnmglaaGreatDoor
open Go.RowKit Go.Shelf

/-- The fact s, as it lies in memory, is f. -/
structure FHold (w : World) (B : Nat) (s : SFact) (f : GFact) : Prop where
  rel : s.rel = f.rel
  n : s.n = f.args.length
  row : GRow GVal.cells 3 w B s.A f.args
  few : f.args.length ≤ 1099511627776
theorem FHold.below {w w' : World} {B B' : Nat} {s : SFact} {f : GFact} (h : FHold w B s f) (hB : B ≤ B') (hb : Below B' w w') : FHold w' B s f := ⟨h.rel, h.n, h.row.below hB hb, h.few⟩
theorem FHold.wide {w : World} {B B' : Nat} {s : SFact} {f : GFact} (h : FHold w B s f) (hB : B ≤ B') : FHold w B' s f := ⟨h.rel, h.n, h.row.wide hB, h.few⟩
theorem FHold.next {w w' : World} {B : Nat} {s : SFact} {f : GFact} (h : FHold w B s f) (hB : B ≤ w.heap.size) (hb : Below w.heap.size w w') : FHold w' w'.heap.size s f := (h.below hB hb).wide (Nat.le_trans hB hb.size)
/-- The slice with address A holds the facts fs, as ss. -/
structure FRow (w : World) (B : Nat) (A : Option Addr) (ss : List SFact) (fs : List GFact) : Prop where
  row : GRow SFact.cells 2 w B A ss
  len : ss.length = fs.length
  each : ∀ i (h1 : i < ss.length) (h2 : i < fs.length), FHold w B ss[i] fs[i]
theorem FRow.below {w w' : World} {B B' : Nat} {A : Option Addr} {ss : List SFact} {fs : List GFact} (h : FRow w B A ss fs) (hB : B ≤ B') (hb : Below B' w w') : FRow w' B A ss fs := ⟨h.row.below hB hb, h.len, fun i h1 h2 => (h.each i h1 h2).below hB hb⟩
theorem FRow.wide {w : World} {B B' : Nat} {A : Option Addr} {ss : List SFact} {fs : List GFact} (h : FRow w B A ss fs) (hB : B ≤ B') : FRow w B' A ss fs := ⟨h.row.wide hB, h.len, fun i h1 h2 => (h.each i h1 h2).wide hB⟩
theorem FRow.next {w w' : World} {B : Nat} {A : Option Addr} {ss : List SFact} {fs : List GFact} (h : FRow w B A ss fs) (hB : B ≤ w.heap.size) (hb : Below w.heap.size w w') : FRow w' w'.heap.size A ss fs := (h.below hB hb).wide (Nat.le_trans hB hb.size)
theorem GRow.fact2 {w : World} {B : Nat} {A : Option Addr} {ss : List SFact} (h : GRow SFact.cells 2 w B A ss) {i : Nat} (hi : i < ss.length) : ∃ b off, A = some ⟨b, off, none⟩ ∧ b < B ∧
    w.cell? ⟨b, off + i * 2, none⟩ = some (.string ⟨ss[i].rel.toArray⟩) ∧ w.cell? ⟨b, off + i * 2 + 1, none⟩ = some (.slice ss[i].A ss[i].n ss[i].c) := by
  obtain ⟨b, off, e, hb, hc⟩ := h (by omega)
  exact ⟨b, off, e, hb, hc i hi 0 _ rfl, hc i hi 1 _ rfl⟩
def isF (f g : GFact) : Bool := decide (cmpF f g = 0)
set_option maxRecDepth 50000 in
set_option maxHeartbeats 1000000 in
theorem containsC_any (f g : GFact) (s t : SFact) (bx : Nat) (w : World) (h0 : w.cell? ⟨bx, 0, none⟩ = some (.string ⟨s.rel.toArray⟩)) (h1 : w.cell? ⟨bx, 1, none⟩ = some (.slice s.A s.n s.c)) (hf : FHold w w.heap.size s f) (hg : FHold w w.heap.size t g) :
    Calls Tryz.prog 41 #[.agg #[.string ⟨t.rel.toArray⟩, .slice t.A t.n t.c], .pointer (some ⟨bx, 0, none⟩)] w fun e w' => e = .returned (.bool (isF f g)) ∧ Below w.heap.size w w' := by
  obtain ⟨sr, sA, sn, sc⟩ := s
  obtain ⟨tr, tA, tn, tc⟩ := t
  have e1 := hf.rel
  have e2 := hf.n
  have e3 := hg.rel
  have e4 := hg.n
  simp only at *
  subst e1 e2 e3 e4
  have HB := Lib.hid (bel_lit (Below.refl w.heap.size w) (.cells #[.string ⟨g.rel.toArray⟩, .slice tA g.args.length tc] 25))
  have HC := Lib.hid (compare_any f g sA tA sc tc (w.alloc (.cells #[.string ⟨g.rel.toArray⟩, .slice tA g.args.length tc] 25)) ((hf.row.below (Nat.le_refl _) HB.out).wide HB.out.size) ((hg.row.below (Nat.le_refl _) HB.out).wide HB.out.size) hf.few hg.few)
  have HD : Hid (isF f g = decide (cmpF f g = 0)) := Lib.hid rfl
  have hbx := World.block_lt_of_cell? w _ h0
  simp only at hbx
  simp only [factV] at HC
  generalize isF f g = q at *
  generalize cmpF f g = k at *
  clear hf hg
  go_enter Tryz.func41, Tryz.ntmps41
  go_wp2_with fail
  refine HC.out.mono ?_
  rintro e w1 ⟨rfl, hb1⟩
  have HN := Lib.hid (bel_next HB.out hb1)
  clear hb1
  by_cases hk : k = 0
  · have fk : (k == 0) = true := by simp [hk]
    go_wp2
    go_ret
    exact ⟨ret_bool (by rw [HD.out]; simp [hk]), HN.out⟩
  · have fk : (k == 0) = false := by simp [hk]
    go_wp2
    go_ret
    exact ⟨ret_bool (by rw [HD.out]; simp [hk]), HN.out⟩
theorem anyF_snoc {f : GFact} {fs : List GFact} {k : Nat} (h : k < fs.length) (ha : (fs.take k).any (isF f) = false) (hw : isF f fs[k] = false) : (fs.take (k + 1)).any (isF f) = false := by
  rw [List.take_succ_eq_append_getElem h, List.any_append, ha]; simp [hw]
theorem anyF_hit {f : GFact} {fs : List GFact} {k : Nat} (h : k < fs.length) (hw : isF f fs[k] = true) : fs.any (isF f) = true := List.any_eq_true.2 ⟨_, List.getElem_mem h, hw⟩
set_option maxRecDepth 50000 in
set_option maxHeartbeats 1000000 in
theorem indexF_any (f : GFact) (s : SFact) (bx : Nat) (ss : List SFact) (fs : List GFact) (A : Option Addr) (c : Nat) (w : World) (hx : w.heap[bx]? = some (.cells #[.string ⟨s.rel.toArray⟩, .slice s.A s.n s.c] 25 (0, 0))) (hf : FHold w w.heap.size s f) (hA : FRow w w.heap.size A ss fs) (hn : fs.length ≤ 1099511627776) :
    Calls Tryz.prog 63 #[.slice A fs.length c, .func (.func 41) #[] #[.pointer (some ⟨bx, 0, none⟩)]] w fun e w' => (∃ r : Int, e = .returned (.int .i64 r) ∧ decide (0 ≤ r) = fs.any (isF f)) ∧ Below w.heap.size w w' := by
  have HA := Lib.hid hA
  have HFH := Lib.hid hf
  have HX := Lib.hid hx
  have hlen := hA.len
  have hbx : bx < w.heap.size := by
    rcases Nat.lt_or_ge bx w.heap.size with h1 | h1
    · exact h1
    · rw [Array.getElem?_eq_none h1] at hx; cases hx
  clear hA hf hx
  go_enter Tryz.func63, Tryz.ntmps63
  go_wp2
  go_loopw [8] (fun vi wr => ∃ k : Nat, vi = .int .i64 k ∧ k ≤ fs.length ∧ Hid ((fs.take k).any (isF f) = false) ∧ Hid (Below w.heap.size w wr)) (fun vi _ => fs.length - (intOf vi).toNat)
  case atStart => exact ⟨0, rfl, Nat.zero_le _, Lib.hid rfl, Lib.hid (Below.refl _ _)⟩
  case round =>
    obtain ⟨k, rfl, hk, HT, HW⟩ := hrel
    rcases Nat.lt_or_ge k fs.length with hlt | hge
    · have hls : k < ss.length := by omega
      obtain ⟨b1, o1, rfl, hb1, x0, x1⟩ := (HA.out.row.below (Nat.le_refl _) HW.out).fact2 hls
      have HAS := Lib.hid fun h => anyF_snoc hlt HT.out h
      have HAF := Lib.hid fun h => anyF_hit (f := f) hlt h
      have hsz := HW.out.size
      have hl1 : b1 < wr.heap.size := by omega
      have hx' := (HW.out.block bx hbx).trans HX.out
      have HC := Lib.hid (containsC_any f fs[k] s ss[k] bx wr (by rw [Lib.cell_of_heap hx']; rfl) (by rw [Lib.cell_of_heap hx']; rfl) (HFH.out.next (Nat.le_refl _) HW.out) ((HA.out.each k hls hlt).next (Nat.le_refl _) HW.out))
      clear hx'
      generalize fs[k] = x at *
      generalize ss[k] = y at *
      obtain ⟨yr, yA, yn, yc⟩ := y
      simp only at *
      generalize isF f x = g at *
      go_wp2_with fail
      refine HC.out.mono ?_
      rintro e w1 ⟨rfl, hb3⟩
      have HN := Lib.hid (bel_next HW.out hb3)
      clear hb3
      cases g
      · have HS2 := Lib.hid (HAS.out rfl)
        go_wp2
        go_roundw
        case rel => exact ⟨k + 1, by go_num, by omega, HS2, HN⟩
        case measure => simp [intOf]; omega
      · have HF := Lib.hid (HAF.out rfl)
        go_wp2
        go_ret
        refine ⟨⟨_, rfl, ?_⟩, HN.out⟩
        rw [HF.out]
        simp
    · go_wp2
      go_ret
      refine ⟨⟨_, rfl, ?_⟩, HW.out⟩
      have := HT.out
      rw [List.take_of_length_le hge] at this
      rw [this]
      rfl
set_option maxRecDepth 50000 in
theorem containsF_any (f : GFact) (s : SFact) (bx : Nat) (ss : List SFact) (fs : List GFact) (A : Option Addr) (c : Nat) (w : World) (hx : w.heap[bx]? = some (.cells #[.string ⟨s.rel.toArray⟩, .slice s.A s.n s.c] 25 (0, 0))) (hf : FHold w w.heap.size s f) (hA : FRow w w.heap.size A ss fs) (hn : fs.length ≤ 1099511627776) :
    Calls Tryz.prog 40 #[.slice A fs.length c, .func (.func 41) #[] #[.pointer (some ⟨bx, 0, none⟩)]] w fun e w' => e = .returned (.bool (fs.any (isF f))) ∧ Below w.heap.size w w' := by
  have HI := Lib.hid (indexF_any f s bx ss fs A c w hx hf hA hn)
  clear hA hf hx
  generalize fs.any (isF f) = g at *
  go_enter Tryz.func40, Tryz.ntmps40
  go_wp2_with fail
  refine HI.out.mono ?_
  rintro e w1 ⟨⟨r, rfl, hr⟩, hb⟩
  have HR := Lib.hid hr
  have HB := Lib.hid hb
  clear hr hb HI
  go_wp2
  go_ret
  exact ⟨ret_bool HR.out, HB.out⟩
set_option maxRecDepth 50000 in
theorem fcontains_any (f : GFact) (s : SFact) (ss : List SFact) (fs : List GFact) (A : Option Addr) (c : Nat) (w : World) (hf : FHold w w.heap.size s f) (hA : FRow w w.heap.size A ss fs) (hn : fs.length ≤ 1099511627776) :
    Calls Tryz.prog 16 #[.slice A fs.length c, .agg #[.string ⟨s.rel.toArray⟩, .slice s.A s.n s.c]] w fun e w' => e = .returned (.bool (fs.any (isF f))) ∧ Below w.heap.size w w' := by
  have HB := Lib.hid (bel_lit (Below.refl w.heap.size w) (.cells #[.string ⟨s.rel.toArray⟩, .slice s.A s.n s.c] 25))
  have HC := Lib.hid (containsF_any f s w.heap.size ss fs A c (w.alloc (.cells #[.string ⟨s.rel.toArray⟩, .slice s.A s.n s.c] 25)) (heap_alloc_new w _) (hf.next (Nat.le_refl _) HB.out) (hA.next (Nat.le_refl _) HB.out) hn)
  clear hf hA
  generalize fs.any (isF f) = g at *
  have hmf : ∀ (fn : Fn) (first cap : Array Value) (w : World), (Instr.makeFunc fn first cap).run Tryz.prog w = .ok (.func fn first cap) w := fun _ _ _ _ => rfl
  go_enter Tryz.func16, Tryz.ntmps16
  go_wp2_with fail
  refine HC.out.mono ?_
  rintro e w1 ⟨rfl, hb1⟩
  go_wp2
  go_ret
  exact ⟨rfl, bel_next HB.out hb1⟩
end Go.Proofs.YtfmajccblnmglaaGreatDoor
