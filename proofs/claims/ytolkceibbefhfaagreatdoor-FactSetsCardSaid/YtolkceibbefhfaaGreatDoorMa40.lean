/-
  facts.Select in terms of plain facts, and the closure that it hands on.
  Conditions: the list has at most 1000000 facts, each of at most 1000000 arguments.
  The reference's Contains, Remove and Select.
  Conditions: at most 990 facts; kinds are ints of the language.
-/
import Derived.Test.YtolkceibbefhfaaGreatDoorMa28
import Derived.Test.YtolkceibbefhfaaGreatDoorMa39
namespace Go.Proofs.YtolkceibbefhfaaGreatDoor
open Go.RowKit Go.Shelf

/-- What Select asks. -/
def selB (r : List UInt8) (n : Int) (f : GFact) : Bool := decide (f.rel = r) && decide ((f.args.length : Int) = n)
set_option maxRecDepth 50000 in
set_option maxHeartbeats 1000000 in
theorem selectC_any (r : List UInt8) (n : Int) (g : GFact) (t : SFact) (bx by' : Nat) (w : World) (h0 : w.cell? ⟨bx, 0, none⟩ = some (.string ⟨r.toArray⟩)) (h1 : w.cell? ⟨by', 0, none⟩ = some (.int .i64 n)) (hg : FHold w w.heap.size t g) :
    Calls Tryz.prog 42 #[.agg #[.string ⟨t.rel.toArray⟩, .slice t.A t.n t.c], .pointer (some ⟨bx, 0, none⟩), .pointer (some ⟨by', 0, none⟩)] w fun e w' => e = .returned (.bool (selB r n g)) ∧ Below w.heap.size w w' := by
  obtain ⟨tr, tA, tn, tc⟩ := t
  have e3 := hg.rel
  have e4 := hg.n
  simp only at *
  subst e3 e4
  have HB := Lib.hid (bel_lit (Below.refl w.heap.size w) (.cells #[.string ⟨g.rel.toArray⟩, .slice tA g.args.length tc] 25))
  have HD : Hid (selB r n g = (decide (g.rel = r) && decide ((g.args.length : Int) = n))) := Lib.hid rfl
  have hb0 := World.block_lt_of_cell? w _ h0
  have hb1 := World.block_lt_of_cell? w _ h1
  simp only at hb0 hb1
  clear hg
  by_cases hr : g.rel = r
  · subst hr
    generalize g.rel = gr at *
    generalize g.args.length = gn at *
    by_cases hn : (gn : Int) = n
    · have q2 : ((gn : Int) == n) = true := by simp [hn]
      have HN := Lib.hid hn
      clear hn
      go_enter Tryz.func42, Tryz.ntmps42
      go_wp2
      go_ret
      exact ⟨ret_bool (by rw [HD.out]; simp [HN.out]), HB.out⟩
    · have q2 : ((gn : Int) == n) = false := by simp [hn]
      have HN := Lib.hid hn
      clear hn
      go_enter Tryz.func42, Tryz.ntmps42
      go_wp2
      go_ret
      exact ⟨ret_bool (by rw [HD.out]; simp [HN.out]), HB.out⟩
  · have q1 : (g.rel == r) = false := by simp [hr]
    have HR := Lib.hid hr
    clear hr
    generalize g.rel = gr at *
    go_enter Tryz.func42, Tryz.ntmps42
    go_wp2
    go_ret
    exact ⟨ret_bool (by rw [HD.out]; simp [HR.out]), HB.out⟩
def keepS {w0 : World} (r : List UInt8) (n : Int) (es : List (Elem w0)) : List (Elem w0) := es.filter fun x => selB r n x.fact
theorem keepS_step {w0 : World} {r : List UInt8} {n : Int} {es : List (Elem w0)} {k : Nat} (h : k < es.length) : keepS r n (es.take (k + 1)) = if selB r n es[k].fact then keepS r n (es.take k) ++ [es[k]] else keepS r n (es.take k) := by
  unfold keepS
  rw [List.take_succ_eq_append_getElem h, List.filter_append]
  cases hq : selB r n es[k].fact
  · simp [hq]
  · simp [hq]
theorem keepS_len {w0 : World} (r : List UInt8) (n : Int) (es : List (Elem w0)) : (keepS r n es).length ≤ es.length := List.length_filter_le _ _
def SelS {w0 : World} (r : List UInt8) (n : Int) (es : List (Elem w0)) (e : Ending) (w' : World) : Prop := ∃ v, e = .returned v ∧ OwnG Elem.enc 25 2 w' w0.heap.size v (keepS r n es) ∧ Below w0.heap.size w0 w'
set_option maxRecDepth 50000 in
set_option maxHeartbeats 1000000 in
theorem selectedS_any {w0 : World} (va : Value) (es : List (Elem w0)) (r : List UInt8) (n : Int) (bx by' : Nat) (hva : RowV w0 va (es.map Elem.sf)) (hx : w0.cell? ⟨bx, 0, none⟩ = some (.string ⟨r.toArray⟩)) (hy : w0.cell? ⟨by', 0, none⟩ = some (.int .i64 n)) (hn : es.length ≤ 1000000) :
    Calls Tryz.prog 30 #[va, .func (.func 42) #[] #[.pointer (some ⟨bx, 0, none⟩), .pointer (some ⟨by', 0, none⟩)]] w0 (SelS r n es) := by
  have hbx := World.block_lt_of_cell? w0 _ hx
  have hby := World.block_lt_of_cell? w0 _ hy
  simp only at hbx hby
  obtain ⟨A, c, rfl, hrow⟩ : ∃ A c, va = .slice A es.length c ∧ GRow SFact.cells 2 w0 w0.heap.size A (es.map Elem.sf) := by
    rcases hva with ⟨rfl, h⟩ | ⟨ad, c, rfl, h⟩
    · have : es = [] := by cases es with | nil => rfl | cons x r => simp at h
      subst this
      exact ⟨none, 0, rfl, GRow.nil⟩
    · exact ⟨some ad, c, by rw [List.length_map], h⟩
  have HR := Lib.hid hrow
  have HX := Lib.hid hx
  have HY := Lib.hid hy
  clear hva hrow hx hy
  go_enter Tryz.func30, Tryz.ntmps30
  go_wp2
  go_loopw [5, 10] (fun vl vi wr => ∃ k : Nat, vi = .int .i64 k ∧ k ≤ es.length ∧ Hid (OwnG Elem.enc 25 2 wr w0.heap.size vl (keepS r n (es.take k))) ∧ Hid (Below w0.heap.size w0 wr)) (fun _ vi _ => es.length - (intOf vi).toNat)
  case atStart => exact ⟨0, rfl, Nat.zero_le _, Lib.hid (OwnG.nil _ _), Lib.hid (Below.refl _ _)⟩
  case round =>
    obtain ⟨k, rfl, hk, HOl, HBr⟩ := hrel
    rcases Nat.lt_or_ge k es.length with hlt | hge
    · have hlm : k < (es.map Elem.sf).length := by rw [List.length_map]; exact hlt
      obtain ⟨b1, o1, rfl, hb1, x0, x1⟩ := (HR.out.below (Nat.le_refl _) HBr.out).fact2 hlm
      have hem : (es.map Elem.sf)[k] = es[k].sf := by simp
      rw [hem] at x0 x1
      have HKS := Lib.hid (keepS_step (r := r) (n := n) hlt)
      have hkl := keepS_len r n (es.take k)
      rw [List.length_take] at hkl
      obtain ⟨Al, cl, rfl, hll, hml, _⟩ := HOl.out.row Elem.len
      have hzb : b1 < wr.heap.size := by have := HBr.out.size; omega
      have hbl := bel_lit (Below.refl wr.heap.size wr) (.cells #[.string ⟨es[k].sf.rel.toArray⟩, .slice es[k].sf.A es[k].sf.n es[k].sf.c] 25)
      have hB2 := bel_next HBr.out hbl
      have hx2 := (hB2.cell (p := ⟨bx, 0, none⟩) hbx).trans HX.out
      have hy2 := (hB2.cell (p := ⟨by', 0, none⟩) hby).trans HY.out
      have HC := Lib.hid (selectC_any r n es[k].fact es[k].sf bx by' _ hx2 hy2 (es[k].hold hB2))
      have HB2 := Lib.hid hB2
      have HAP := Lib.hid fun (W : World) (hW : Below wr.heap.size wr W) => OwnG.app elt_fact Elem.len Elem.one ((HOl.out.next hW).alloc (.cells #[.string ⟨es[k].sf.rel.toArray⟩, .slice es[k].sf.A es[k].sf.n es[k].sf.c] 25)) 1 (GRow.lit Elem.len W 25 [es[k]] #[.string ⟨es[k].sf.rel.toArray⟩, .slice es[k].sf.A es[k].sf.n es[k].sf.c] rfl (by unfold maxLen; simp)) (by have h1 := hW.size; have h2 := HBr.out.size; simp; omega) (by unfold maxLen; simp; omega) (by simp; omega)
      have HBL := Lib.hid hbl
      clear hem hB2 hx2 hy2 hbl
      cases hq : selB r n es[k].fact
      · rw [hq] at HC HKS
        rw [if_neg (by simp)] at HKS
        clear hq HAP
        generalize es[k] = x at *
        generalize x.sf = sx at *
        obtain ⟨xr, xA, xn, xc⟩ := sx
        simp only at *
        go_wp2_with fail
        go_fit HC.out
        rintro e w1 ⟨rfl, hb3⟩
        have HB3 := Lib.hid (bel_next HB2.out hb3)
        have HO3 : Hid (OwnG Elem.enc 25 2 w1 w0.heap.size (.slice Al (keepS r n (es.take k)).length cl) (keepS r n (es.take (k + 1)))) := Lib.hid (by rw [HKS.out]; exact HOl.out.next (bel_next HBL.out hb3))
        clear hb3 HC x0 x1
        go_wp2
        go_roundw
        case rel => exact ⟨k + 1, by go_num, by omega, HO3, HB3⟩
        case measure => simp [intOf]; omega
      · rw [hq] at HC HKS
        rw [if_pos rfl] at HKS
        clear hq
        generalize es[k] = x at *
        generalize x.sf = sx at *
        obtain ⟨xr, xA, xn, xc⟩ := sx
        simp only at *
        go_wp2_with fail
        go_fit HC.out
        rintro e w1 ⟨rfl, hb3⟩
        have hk1 : w1.heap[wr.heap.size]? = some (.cells #[.string ⟨xr.toArray⟩, .slice xA xn xc] 25 (0, 0)) := (hb3.block _ (by simp)).trans (heap_alloc_new wr _)
        have y0 : w1.cell? ⟨wr.heap.size, 0, none⟩ = some (.string ⟨xr.toArray⟩) := by rw [Lib.cell_of_heap hk1]; rfl
        have y1 : w1.cell? ⟨wr.heap.size, 1, none⟩ = some (.slice xA xn xc) := by rw [Lib.cell_of_heap hk1]; rfl
        obtain ⟨v8, w8, hrun8, hown8, hgr8, _⟩ := HAP.out w1 (bel_next HBL.out hb3)
        have HB3 := Lib.hid (bel_next HB2.out hb3)
        have HB8 := Lib.hid ((bel_lit HB3.out _).grown hgr8 (by have := HB3.out.size; simp; omega) (fun g hg => (HOl.out.lt g hg).1))
        have HO8 : Hid (OwnG Elem.enc 25 2 w8 w0.heap.size v8 (keepS r n (es.take (k + 1)))) := Lib.hid (by rw [HKS.out]; exact hown8)
        obtain ⟨A8, c8, rfl, _, _, _⟩ := hown8.row Elem.len
        have HR8 := Lib.hid hrun8
        clear hrun8 hown8 hgr8 hb3 hk1 HAP HC x0 x1
        simp only [List.length_cons, List.length_nil, List.length_append, Nat.zero_add] at HR8
        go_wp2_with (at_builtin; refine wpList_gapp HR8.out rfl rfl rfl rfl rfl ?_)
        go_roundw
        case rel => exact ⟨k + 1, by go_num, by omega, by simpa using HO8, HB8⟩
        case measure => simp [intOf]; omega
    · have HKE : Hid (keepS r n (es.take k) = keepS r n es) := Lib.hid (by rw [List.take_of_length_le hge])
      go_wp2
      go_ret
      refine ⟨_, rfl, ?_, HBr.out⟩
      rw [← HKE.out]
      exact HOl.out
theorem keepS_mem {w0 : World} (r : List UInt8) (n : Int) (es : List (Elem w0)) (g : GFact) : g ∈ (keepS r n es).map Elem.fact ↔ g ∈ es.map Elem.fact ∧ selB r n g = true := by
  rw [List.mem_map, List.mem_map]
  constructor
  · rintro ⟨x, hx, rfl⟩
    have h := List.mem_filter.1 hx
    exact ⟨⟨x, h.1, rfl⟩, h.2⟩
  · rintro ⟨⟨x, hx, rfl⟩, hne⟩
    exact ⟨x, List.mem_filter.2 ⟨hx, hne⟩, rfl⟩
def SelectEnd (fa : List GFact) (r : List UInt8) (n : Int) (w : World) (e : Ending) (w' : World) : Prop :=
  ∃ v, ∃ ss : List SFact, ∃ fs : List GFact, e = .returned v ∧ SetV w' v ss fs ∧ StrictF fs ∧ (∀ g, g ∈ fs ↔ g ∈ fa ∧ selB r n g = true) ∧ fs.length ≤ fa.length ∧ Below w.heap.size w w'
set_option maxRecDepth 50000 in
set_option maxHeartbeats 1000000 in
theorem select_any (va : Value) (sa : List SFact) (fa : List GFact) (r : List UInt8) (n : Int) (w : World) (ha : SetV w va sa fa) (hn : fa.length ≤ 1000000) (hargs : ∀ g ∈ fa, g.args.length ≤ 1000000) :
    Calls Tryz.prog 18 #[va, .string ⟨r.toArray⟩, .int .i64 n] w (SelectEnd fa r n w) := by
  have hb0 := bel_lit (bel_lit (Below.refl w.heap.size w) (.cells #[.string ⟨r.toArray⟩] 9)) (.cells #[.int .i64 n] 3)
  have ha0 := ha.next hb0
  obtain ⟨es, e1, e2⟩ := elems_of sa fa ha0.len ha0.each
  have hle : es.length = fa.length := by rw [← e2, List.length_map]
  have k0 : ((w.alloc (.cells #[.string ⟨r.toArray⟩] 9)).alloc (.cells #[.int .i64 n] 3)).cell? ⟨w.heap.size, 0, none⟩ = some (.string ⟨r.toArray⟩) := by
    rw [Lib.cell_of_heap ((Below.heap_alloc _ _ _ (by simp)).trans (heap_alloc_new w _))]; rfl
  have k1 : ((w.alloc (.cells #[.string ⟨r.toArray⟩] 9)).alloc (.cells #[.int .i64 n] 3)).cell? ⟨w.heap.size + 1, 0, none⟩ = some (.int .i64 n) := by
    have h := heap_alloc_new (w.alloc (.cells #[.string ⟨r.toArray⟩] 9)) (.cells #[.int .i64 n] 3)
    rw [show (w.alloc (.cells #[.string ⟨r.toArray⟩] 9)).heap.size = w.heap.size + 1 by simp] at h
    rw [Lib.cell_of_heap h]; rfl
  have HSL := Lib.hid (selectedS_any va es r n w.heap.size (w.heap.size + 1) (by rw [e1]; exact ha0.row) k0 k1 (by omega))
  have HB0 := Lib.hid hb0
  have HE2 := Lib.hid e2
  have HAR := Lib.hid hargs
  obtain ⟨A0, c0, rfl⟩ : ∃ A c, va = .slice A es.length c := by
    rcases ha.row with ⟨rfl, h⟩ | ⟨ad, c, rfl, _⟩
    · have : es.length = 0 := by rw [hle, ← ha.len, h]; rfl
      exact ⟨none, 0, by rw [this]⟩
    · exact ⟨some ad, c, by rw [ha.len, hle]⟩
  have HLE := Lib.hid hle
  have hne : es.length ≤ 1000000 := by omega
  have hkl := keepS_len r n es
  clear ha ha0 hb0 e1 e2 hargs hle k0 k1
  have hmf : ∀ (fn : Fn) (first cap : Array Value) (w : World), (Instr.makeFunc fn first cap).run Tryz.prog w = .ok (.func fn first cap) w := fun _ _ _ _ => rfl
  go_enter Tryz.func18, Tryz.ntmps18
  go_wp2_with fail
  go_fit HSL.out
  rintro e w1 ⟨v1, rfl, ho1, hb1⟩
  have hos := own_sf ho1
  have hset : SetV w1 v1 ((keepS r n es).map Elem.sf) ((keepS r n es).map Elem.fact) := ⟨hos.rowV, by simp, fun i h1 h2 => by
    have := (keepS r n es)[i]'(by simpa using h1) |>.hold hb1
    simpa using this⟩
  have HSO := Lib.hid (setOf_facts v1 _ _ w1 hset (by rw [List.length_map]; omega) (fun g hg => HAR.out g (by have := ((keepS_mem r n es g).1 hg).1; rw [HE2.out] at this; exact this)))
  obtain ⟨A1, c1, rfl, _, _, _⟩ := ho1.row Elem.len
  have HB1 := Lib.hid (bel_next HB0.out hb1)
  clear ho1 hos hset hb1 HSL
  go_wp2_with fail
  go_fit HSO.out
  rintro e w2 ⟨v, ss, fs, rfl, h1, h2, h3, h4, h5, h6⟩
  have HE := Lib.hid (show SelectEnd fa r n w (.returned v) w2 from ⟨v, ss, fs, rfl, h2, h3, fun g => by rw [h4 g, ← HE2.out]; simpa using keepS_mem r n es g, by have := HLE.out; simp at h5; omega, bel_next HB1.out h6⟩)
  clear h1 h2 h3 h4 h5 h6 HSO
  go_wp2
  go_ret
  exact HE.out
end Go.Proofs.YtolkceibbefhfaaGreatDoor


namespace Go.Proofs.YtolkceibbefhfaaGreatDoor
open Go.RowKit Go.Shelf

section
variable {w0 : World}
theorem anyE_snoc {es : List (Elem w0)} {f : GFact} {k : Nat} (h : k < es.length) (ha : (FactsE (es.take k)).any (isF f) = false) (hc : cmpF es[k].fact f ≠ 0) : (FactsE (es.take (k + 1))).any (isF f) = false := by
  rw [any_isF_false] at ha ⊢
  intro hm
  rcases (factsE_take h f).1 hm with h1 | h1
  · exact ha h1
  · exact hc ((ord_fact.z _ _).2 h1.symm)
theorem anyE_hit {es : List (Elem w0)} {f : GFact} {k : Nat} (h : k < es.length) (hc : cmpF es[k].fact f = 0) : (FactsE es).any (isF f) = true := by
  rw [any_isF]
  have e : f = es[k].fact := ((ord_fact.z _ _).1 hc).symm
  rw [e]
  exact List.mem_map.2 ⟨es[k], List.getElem_mem h, rfl⟩
set_option maxRecDepth 50000 in
set_option maxHeartbeats 1000000 in
theorem rContains_any (es : List (Elem w0)) (x : Elem w0) (A : Option Addr) (c : Nat) (w : World) (hb : Below w0.heap.size w0 w) (hr : RowE w A c es) (hn : es.length ≤ 990) (hkx : KindsWf x.fact.args) :
    Calls Tryz.prog 17 #[.slice A es.length c, .agg #[.string ⟨x.sf.rel.toArray⟩, .slice x.sf.A x.sf.n x.sf.c]] w fun e w' => e = .returned (.bool ((FactsE es).any (isF x.fact))) ∧ Below w.heap.size w w' := by
  generalize hW1 : w.alloc (objF x.sf) = W1
  have hb1 : Below w.heap.size w W1 := by rw [← hW1]; exact bel_lit (Below.refl _ _) _
  have bx : BoxF W1 w.heap.size x.sf := by rw [← hW1]; exact BoxF.new w x.sf
  have HX := Lib.hid bx
  have HB1 := Lib.hid hb1
  have HB0 := Lib.hid (bel_next hb hb1)
  have HR := Lib.hid (hr.next hb1)
  have HKX := Lib.hid hkx
  have hw1 : W1.heap.size = w.heap.size + 1 := by rw [← hW1]; simp
  clear hb hr hb1 bx hkx
  simp only [objF] at hW1
  go_enter Tryz.func17, Tryz.ntmps17
  go_upto_region 1 with fail
  clear hW1
  go_wp2
  go_loopw [5] (fun vi wr => ∃ k : Nat, vi = .int .i64 k ∧ k ≤ es.length ∧ Hid ((FactsE (es.take k)).any (isF x.fact) = false) ∧ Hid (Below W1.heap.size W1 wr)) (fun vi _ => es.length - (intOf vi).toNat)
  case atStart => exact ⟨0, rfl, Nat.zero_le _, Lib.hid rfl, Lib.hid (Below.refl _ _)⟩
  case round =>
    obtain ⟨k, rfl, hk, HT, HW⟩ := hrel
    rcases Nat.lt_or_ge k es.length with hlt | hge
    · have HFA := Lib.hid fun h => anyE_hit (f := x.fact) hlt h
      have HFS := Lib.hid fun h => anyE_snoc hlt HT.out h
      obtain ⟨b1, o1, rfl, hb1, x0, x1⟩ := (HR.out.row.below (Nat.le_refl _) HW.out).elem2 hlt
      have hxr := HX.out.next HW.out
      have e0 := hxr.c0
      have e1 := hxr.c1
      have hsz := HW.out.size
      have hl1 : b1 < wr.heap.size := by omega
      have HC := Lib.hid fun W (hW : Below wr.heap.size wr W) => rCompare_any es[k].fact x.fact es[k].sf x.sf W (es[k].hold (bel_next (bel_next HB0.out HW.out) hW)) (x.hold (bel_next (bel_next HB0.out HW.out) hW)) (HR.out.kinds _ (List.mem_map.2 ⟨es[k], List.getElem_mem hlt, rfl⟩)) HKX.out
      generalize es[k] = y at *
      generalize hcc : cmpF y.fact x.fact = cc at *
      have HCC := Lib.hid hcc
      have HKS : Hid (∀ W W' : World, (Below wr.heap.size wr W ∧ W.cell? ⟨b1, o1 + k * 2, none⟩ = some (.string ⟨y.sf.rel.toArray⟩) ∧ W.cell? ⟨b1, o1 + k * 2 + 1, none⟩ = some (.slice y.sf.A y.sf.n y.sf.c) ∧ W.cell? ⟨w.heap.size, 0, none⟩ = some (.string ⟨x.sf.rel.toArray⟩) ∧ W.cell? ⟨w.heap.size, 1, none⟩ = some (.slice x.sf.A x.sf.n x.sf.c)) → Below W.heap.size W W' →
          (Below wr.heap.size wr W' ∧ W'.cell? ⟨b1, o1 + k * 2, none⟩ = some (.string ⟨y.sf.rel.toArray⟩) ∧ W'.cell? ⟨b1, o1 + k * 2 + 1, none⟩ = some (.slice y.sf.A y.sf.n y.sf.c) ∧ W'.cell? ⟨w.heap.size, 0, none⟩ = some (.string ⟨x.sf.rel.toArray⟩) ∧ W'.cell? ⟨w.heap.size, 1, none⟩ = some (.slice x.sf.A x.sf.n x.sf.c))) := Lib.hid fun W W' h hb => by
        obtain ⟨h0, h1, h2, h3, h4⟩ := h
        have key : ∀ {N j : Nat} {v : Value}, W.cell? ⟨N, j, none⟩ = some v → W'.cell? ⟨N, j, none⟩ = some v := fun {N j v} h => (hb.cell (p := ⟨N, j, none⟩) (World.block_lt_of_cell? W _ h)).trans h
        exact ⟨bel_next h0 hb, key h1, key h2, key h3, key h4⟩
      have hS4 := HKS.out wr wr.drew ⟨Below.refl _ _, x0, x1, e0, e1⟩ ((Below.refl _ _).drew)
      clear x0 x1 e0 e1 hxr hcc
      go_upto_region 4 with fail
      go_region_held3 (fun W => Below wr.heap.size wr W ∧ W.cell? ⟨b1, o1 + k * 2, none⟩ = some (.string ⟨y.sf.rel.toArray⟩) ∧ W.cell? ⟨b1, o1 + k * 2 + 1, none⟩ = some (.slice y.sf.A y.sf.n y.sf.c) ∧ W.cell? ⟨w.heap.size, 0, none⟩ = some (.string ⟨x.sf.rel.toArray⟩) ∧ W.cell? ⟨w.heap.size, 1, none⟩ = some (.slice x.sf.A x.sf.n x.sf.c))
        (assumption)
        (first | (go_at_call 14; go_fit (HC.out _ (And.left (by assumption))); rintro e w1 ⟨rfl, hbn⟩; have hSn := HKS.out _ _ (by assumption) hbn))
      have HN := Lib.hid (bel_next HW.out hSn.1)
      have HNF := Lib.hid (bel_next HB1.out HN.out)
      clear hSn HKS HC
      by_cases hc : cc = 0
      · have fc : (cc == 0) = true := by simp [hc]
        have HQ := Lib.hid (HFA.out hc)
        go_wp2
        go_ret
        exact ⟨ret_bool (by rw [HQ.out]), HNF.out⟩
      · have fc : (cc == 0) = false := by simp [hc]
        have HQ := Lib.hid (HFS.out hc)
        go_wp2
        go_roundw
        case rel => exact ⟨k + 1, by go_num, by omega, HQ, HN⟩
        case measure => simp [intOf]; omega
    · have HQ : Hid ((FactsE es).any (isF x.fact) = false) := Lib.hid (by have := HT.out; rw [List.take_of_length_le hge] at this; exact this)
      have HNF := Lib.hid (bel_next HB1.out HW.out)
      go_wp2
      go_ret
      exact ⟨ret_bool (by rw [HQ.out]), HNF.out⟩
theorem sub_strict {xs' es : List (Elem w0)} (h : xs'.Sublist es) (hs : StrictF (FactsE es)) : StrictF (FactsE xs') := List.Pairwise.sublist (h.map _) hs
def RRemEnd (es : List (Elem w0)) (f : GFact) (w : World) (e : Ending) (w' : World) : Prop :=
  ∃ A, ∃ c : Nat, ∃ es' : List (Elem w0), e = .returned (.tuple #[.slice A es'.length c, .bool ((FactsE es).any (isF f))]) ∧ RowE w' A c es' ∧ StrictF (FactsE es') ∧ (∀ g, g ∈ FactsE es' ↔ g ∈ FactsE es ∧ g ≠ f) ∧ es'.length ≤ es.length ∧ Below w.heap.size w w'
theorem any_congr {a b : List GFact} (h : ∀ g, g ∈ a ↔ g ∈ b) (f : GFact) : a.any (isF f) = b.any (isF f) := by
  cases hq : b.any (isF f)
  · rw [any_isF_false] at hq ⊢; rw [h]; exact hq
  · rw [any_isF] at hq ⊢; rw [h]; exact hq
set_option maxRecDepth 50000 in
set_option maxHeartbeats 1000000 in
theorem rRemove_any (es0 : List (Elem w0)) (x : Elem w0) (A0 : Option Addr) (c0 : Nat) (w : World) (hb : Below w0.heap.size w0 w) (hr : RowE w A0 c0 es0) (hn : es0.length ≤ 990) (hkx : KindsWf x.fact.args) :
    Calls Tryz.prog 12 #[.slice A0 es0.length c0, .agg #[.string ⟨x.sf.rel.toArray⟩, .slice x.sf.A x.sf.n x.sf.c]] w (RRemEnd es0 x.fact w) := by
  generalize hW1 : w.alloc (objF x.sf) = W0
  have hb1 : Below w.heap.size w W0 := by rw [← hW1]; exact bel_lit (Below.refl _ _) _
  have bx : BoxF W0 w.heap.size x.sf := by rw [← hW1]; exact BoxF.new w x.sf
  have hw0 : W0.heap.size = w.heap.size + 1 := by rw [← hW1]; simp
  have HSE := Lib.hid (rSet_any es0 A0 c0 W0 (bel_next hb hb1) (hr.next hb1) hn)
  have HKX := Lib.hid hkx
  have HBX := Lib.hid bx
  have HB00 := Lib.hid (bel_next hb hb1)
  have HBW := Lib.hid hb1
  have HK0 := Lib.hid hr.kinds
  clear hb hr hb1 bx hkx
  simp only [objF] at hW1
  go_enter Tryz.func12, Tryz.ntmps12
  go_upto_region 2 with fail
  clear hW1
  go_wp2_with fail
  go_fit HSE.out
  rintro e W1 ⟨A, c, es, rfl, h1, h2, h3, h4, h5⟩
  have HR := Lib.hid h1
  have HST := Lib.hid h2
  have HME := Lib.hid h3
  have HB0 := Lib.hid (bel_next HB00.out h5)
  have HB1 := Lib.hid (bel_next HBW.out h5)
  have HX := Lib.hid (HBX.out.next h5)
  have hw1 : w.heap.size + 1 ≤ W1.heap.size := by have := h5.size; omega
  clear h1 h2 h3 h5 HSE
  go_wp2
  go_loopw [6, 8] (fun vl vi wr => ∃ k : Nat, vi = .int .i64 k ∧ k ≤ es.length ∧ Hid (OwnG Elem.enc 25 2 wr W1.heap.size vl (keepE x.fact (es.take k))) ∧ Hid (Below W1.heap.size W1 wr)) (fun _ vi _ => es.length - (intOf vi).toNat)
  case atStart => exact ⟨0, rfl, Nat.zero_le _, Lib.hid (OwnG.nil _ _), Lib.hid (Below.refl _ _)⟩
  case round =>
    obtain ⟨k, rfl, hk, HO, HW⟩ := hrel
    have hkl := keepE_len x.fact (es.take k)
    rw [List.length_take] at hkl
    obtain ⟨Al, cl, rfl, hll, hml, _⟩ := HO.out.row Elem.len
    rcases Nat.lt_or_ge k es.length with hlt | hge
    · have HKE := Lib.hid (keepE_step (f := x.fact) hlt)
      obtain ⟨b1, o1, rfl, hb1, x0, x1⟩ := (HR.out.row.below (Nat.le_refl _) HW.out).elem2 hlt
      have hxr := HX.out.next HW.out
      have e0 := hxr.c0
      have e1 := hxr.c1
      have hsz := HW.out.size
      have hl1 : b1 < wr.heap.size := by omega
      have HC := Lib.hid fun W (hW : Below wr.heap.size wr W) => rCompare_any es[k].fact x.fact es[k].sf x.sf W (es[k].hold (bel_next (bel_next HB0.out HW.out) hW)) (x.hold (bel_next (bel_next HB0.out HW.out) hW)) (HR.out.kinds _ (List.mem_map.2 ⟨es[k], List.getElem_mem hlt, rfl⟩)) HKX.out
      generalize es[k] = y at *
      generalize hcc : cmpF y.fact x.fact = cc at *
      have HCC := Lib.hid hcc
      have HKS : Hid (∀ W W' : World, (Below wr.heap.size wr W ∧ W.cell? ⟨b1, o1 + k * 2, none⟩ = some (.string ⟨y.sf.rel.toArray⟩) ∧ W.cell? ⟨b1, o1 + k * 2 + 1, none⟩ = some (.slice y.sf.A y.sf.n y.sf.c) ∧ W.cell? ⟨w.heap.size, 0, none⟩ = some (.string ⟨x.sf.rel.toArray⟩) ∧ W.cell? ⟨w.heap.size, 1, none⟩ = some (.slice x.sf.A x.sf.n x.sf.c)) → Below W.heap.size W W' →
          (Below wr.heap.size wr W' ∧ W'.cell? ⟨b1, o1 + k * 2, none⟩ = some (.string ⟨y.sf.rel.toArray⟩) ∧ W'.cell? ⟨b1, o1 + k * 2 + 1, none⟩ = some (.slice y.sf.A y.sf.n y.sf.c) ∧ W'.cell? ⟨w.heap.size, 0, none⟩ = some (.string ⟨x.sf.rel.toArray⟩) ∧ W'.cell? ⟨w.heap.size, 1, none⟩ = some (.slice x.sf.A x.sf.n x.sf.c))) := Lib.hid fun W W' h hb => by
        obtain ⟨h0, h1, h2, h3, h4⟩ := h
        have key : ∀ {N j : Nat} {v : Value}, W.cell? ⟨N, j, none⟩ = some v → W'.cell? ⟨N, j, none⟩ = some v := fun {N j v} h => (hb.cell (p := ⟨N, j, none⟩) (World.block_lt_of_cell? W _ h)).trans h
        exact ⟨bel_next h0 hb, key h1, key h2, key h3, key h4⟩
      have hS4 := HKS.out wr wr.drew ⟨Below.refl _ _, x0, x1, e0, e1⟩ ((Below.refl _ _).drew)
      clear x0 x1 e0 e1 hxr hcc
      go_upto_region 6 with fail
      go_region_held3 (fun W => Below wr.heap.size wr W ∧ W.cell? ⟨b1, o1 + k * 2, none⟩ = some (.string ⟨y.sf.rel.toArray⟩) ∧ W.cell? ⟨b1, o1 + k * 2 + 1, none⟩ = some (.slice y.sf.A y.sf.n y.sf.c) ∧ W.cell? ⟨w.heap.size, 0, none⟩ = some (.string ⟨x.sf.rel.toArray⟩) ∧ W.cell? ⟨w.heap.size, 1, none⟩ = some (.slice x.sf.A x.sf.n x.sf.c))
        (assumption)
        (first | (go_at_call 14; go_fit (HC.out _ (And.left (by assumption))); rintro e w1 ⟨rfl, hbn⟩; have hSn := HKS.out _ _ (by assumption) hbn))
      have hp0 := hSn.2.1
      have hp1 := hSn.2.2.1
      have HN := Lib.hid (bel_next HW.out hSn.1)
      have HO1 := Lib.hid (HO.out.next hSn.1)
      have hbw : b1 < w1.heap.size := by have := hSn.1.size; omega
      clear hSn HKS HC
      by_cases hc : cc = 0
      · have fc : (cc != 0) = false := by simp [hc]
        have hy : isF x.fact y.fact = true := (isF_iff _ _).2 ((ord_fact.z _ _).1 (HCC.out.trans hc)).symm
        rw [hy, if_pos rfl] at HKE
        have HO2 : Hid (OwnG Elem.enc 25 2 w1 W1.heap.size (.slice Al (keepE x.fact (es.take k)).length cl) (keepE x.fact (es.take (k + 1)))) := Lib.hid (by rw [HKE.out]; exact HO1.out)
        clear hy hp0 hp1
        go_wp2
        go_roundw
        case rel => exact ⟨k + 1, by go_num, by omega, HO2, HN⟩
        case measure => simp [intOf]; omega
      · have fc : (cc != 0) = true := by simp [hc]
        have hy : isF x.fact y.fact = false := by
          cases hq : isF x.fact y.fact
          · rfl
          · exact absurd (HCC.out.symm.trans ((ord_fact.z _ _).2 ((isF_iff _ _).1 hq).symm)) hc
        rw [hy, if_neg (by simp)] at HKE
        obtain ⟨v8, w8, hrun8, hown8, hgr8, _⟩ := OwnG.app elt_fact Elem.len Elem.one (HO1.out.alloc (.cells #[.string ⟨y.sf.rel.toArray⟩, .slice y.sf.A y.sf.n y.sf.c] 25)) 1 (GRow.lit Elem.len w1 25 [y] #[.string ⟨y.sf.rel.toArray⟩, .slice y.sf.A y.sf.n y.sf.c] rfl (by unfold maxLen; simp)) (by have h1 := HN.out.size; simp; omega) (by unfold maxLen; simp; omega) (by simp; omega)
        have HB8 := Lib.hid ((bel_lit HN.out _).grown hgr8 (by have := HN.out.size; simp; omega) (fun g hg => (HO1.out.lt g hg).1))
        have HO8 : Hid (OwnG Elem.enc 25 2 w8 W1.heap.size v8 (keepE x.fact (es.take (k + 1)))) := Lib.hid (by rw [HKE.out]; exact hown8)
        obtain ⟨A8, c8, rfl, _, _, _⟩ := hown8.row Elem.len
        have HR8 := Lib.hid hrun8
        clear hrun8 hown8 hgr8 hy
        simp only [List.length_cons, List.length_nil, List.length_append, Nat.zero_add] at HR8
        go_wp2_with (at_builtin; refine wpList_gapp HR8.out rfl rfl rfl rfl rfl ?_)
        go_roundw
        case rel => exact ⟨k + 1, by go_num, by omega, by simpa using HO8, HB8⟩
        case measure => simp [intOf]; omega
    · have hke : keepE x.fact (es.take k) = keepE x.fact es := by rw [List.take_of_length_le hge]
      obtain ⟨A9, c9, h9, hre⟩ := HO.out.rowE (fun f hf => by
        rw [hke] at hf
        exact HR.out.kinds f ((keepE_mem x.fact es f).1 hf).1)
      cases h9
      rw [hke] at hre
      have HEND : Hid (RRemEnd es0 x.fact w (.returned (.tuple #[.slice Al (keepE x.fact es).length cl, .bool (decide ((keepE x.fact es).length < es.length))])) wr) := Lib.hid ⟨Al, cl, keepE x.fact es, by rw [keepE_any]; show _ = _; rw [any_congr (a := es.map Elem.fact) HME.out x.fact], hre, sub_strict List.filter_sublist HST.out, fun g => by rw [show g ∈ FactsE (keepE x.fact es) ↔ g ∈ es.map Elem.fact ∧ g ≠ x.fact from keepE_mem x.fact es g]; rw [show g ∈ es.map Elem.fact ↔ g ∈ FactsE es0 from HME.out g], by have := keepE_len x.fact es; omega, bel_next HB1.out HW.out⟩
      rw [hke] at *
      clear hre hke
      go_wp2
      go_ret2
      simpa using HEND.out
def RSelEnd (es : List (Elem w0)) (r : List UInt8) (n : Int) (w : World) (e : Ending) (w' : World) : Prop :=
  ∃ A, ∃ c : Nat, ∃ es' : List (Elem w0), e = .returned (.slice A es'.length c) ∧ RowE w' A c es' ∧ StrictF (FactsE es') ∧ (∀ g, g ∈ FactsE es' ↔ g ∈ FactsE es ∧ selB r n g = true) ∧ es'.length ≤ es.length ∧ Below w.heap.size w w'
set_option maxRecDepth 50000 in
set_option maxHeartbeats 1000000 in
theorem rSelect_any (es0 : List (Elem w0)) (r : List UInt8) (n : Int) (A0 : Option Addr) (c0 : Nat) (w : World) (hb : Below w0.heap.size w0 w) (hr : RowE w A0 c0 es0) (hn : es0.length ≤ 990) :
    Calls Tryz.prog 19 #[.slice A0 es0.length c0, .string ⟨r.toArray⟩, .int .i64 n] w (RSelEnd es0 r n w) := by
  have HSE := Lib.hid (rSet_any es0 A0 c0 w hb hr hn)
  have HB00 := Lib.hid hb
  have HK0 := Lib.hid hr.kinds
  clear hb hr
  go_enter Tryz.func19, Tryz.ntmps19
  go_wp2_with fail
  go_fit HSE.out
  rintro e W1 ⟨A, c, es, rfl, h1, h2, h3, h4, h5⟩
  have HR := Lib.hid h1
  have HST := Lib.hid h2
  have HME := Lib.hid h3
  have HB0 := Lib.hid (bel_next HB00.out h5)
  have HB1 := Lib.hid h5
  clear h1 h2 h3 h5 HSE
  go_wp2
  go_loopw [7, 9] (fun vl vi wr => ∃ k : Nat, vi = .int .i64 k ∧ k ≤ es.length ∧ Hid (OwnG Elem.enc 25 2 wr W1.heap.size vl (keepS r n (es.take k))) ∧ Hid (Below W1.heap.size W1 wr)) (fun _ vi _ => es.length - (intOf vi).toNat)
  case atStart => exact ⟨0, rfl, Nat.zero_le _, Lib.hid (OwnG.nil _ _), Lib.hid (Below.refl _ _)⟩
  case round =>
    obtain ⟨k, rfl, hk, HO, HW⟩ := hrel
    have hkl := keepS_len r n (es.take k)
    rw [List.length_take] at hkl
    obtain ⟨Al, cl, rfl, hll, hml, _⟩ := HO.out.row Elem.len
    rcases Nat.lt_or_ge k es.length with hlt | hge
    · have HKE := Lib.hid (keepS_step (r := r) (n := n) hlt)
      obtain ⟨b1, o1, rfl, hb1, x0, x1⟩ := (HR.out.row.below (Nat.le_refl _) HW.out).elem2 hlt
      have hsz := HW.out.size
      have hl1 : b1 < wr.heap.size := by omega
      have hrl : es[k].sf.rel = es[k].fact.rel := es[k].2.rel
      have hnn : es[k].sf.n = es[k].fact.args.length := es[k].2.n
      have HAP := Lib.hid (OwnG.app elt_fact Elem.len Elem.one (HO.out.alloc (.cells #[.string ⟨es[k].sf.rel.toArray⟩, .slice es[k].sf.A es[k].sf.n es[k].sf.c] 25)) 1 (GRow.lit Elem.len wr 25 [es[k]] #[.string ⟨es[k].sf.rel.toArray⟩, .slice es[k].sf.A es[k].sf.n es[k].sf.c] rfl (by unfold maxLen; simp)) (by have h1 := HW.out.size; simp; omega) (by unfold maxLen; simp; omega) (by simp; omega))
      have HD : Hid (selB r n es[k].fact = (decide (es[k].fact.rel = r) && decide ((es[k].fact.args.length : Int) = n))) := Lib.hid rfl
      rw [hrl] at x0
      rw [hnn] at x1
      rw [hrl, hnn] at HAP
      generalize es[k] = y at *
      clear hrl hnn
      generalize y.sf.A = sA at *
      generalize y.sf.c = sc at *
      by_cases hr : y.fact.rel = r
      · subst hr
        by_cases hm : (y.fact.args.length : Int) = n
        · have q2 : ((y.fact.args.length : Int) == n) = true := by simp [hm]
          have hsel : selB y.fact.rel n y.fact = true := by rw [HD.out]; simp [hm]
          clear hm
          rw [hsel, if_pos rfl] at HKE
          obtain ⟨v8, w8, hrun8, hown8, hgr8, _⟩ := HAP.out
          have HB8 := Lib.hid ((bel_lit HW.out _).grown hgr8 (by have := HW.out.size; simp; omega) (fun g hg => (HO.out.lt g hg).1))
          have HO8 : Hid (OwnG Elem.enc 25 2 w8 W1.heap.size v8 (keepS y.fact.rel n (es.take (k + 1)))) := Lib.hid (by rw [HKE.out]; exact hown8)
          obtain ⟨A8, c8, rfl, _, _, _⟩ := hown8.row Elem.len
          have HR8 := Lib.hid hrun8
          clear hrun8 hown8 hgr8 hsel
          simp only [List.length_cons, List.length_nil, List.length_append, Nat.zero_add] at HR8
          go_wp2_with (at_builtin; refine wpList_gapp HR8.out rfl rfl rfl rfl rfl ?_)
          go_roundw
          case rel => exact ⟨k + 1, by go_num, by omega, by simpa using HO8, HB8⟩
          case measure => simp [intOf]; omega
        · have q2 : ((y.fact.args.length : Int) == n) = false := by simp [hm]
          have hsel : selB y.fact.rel n y.fact = false := by rw [HD.out]; simp [hm]
          clear hm
          rw [hsel, if_neg (by simp)] at HKE
          have HO2 : Hid (OwnG Elem.enc 25 2 wr W1.heap.size (.slice Al (keepS y.fact.rel n (es.take k)).length cl) (keepS y.fact.rel n (es.take (k + 1)))) := Lib.hid (by rw [HKE.out]; exact HO.out)
          clear hsel HAP
          go_wp2
          go_roundw
          case rel => exact ⟨k + 1, by go_num, by omega, HO2, HW⟩
          case measure => simp [intOf]; omega
      · have q1 : (y.fact.rel == r) = false := by simp [hr]
        have hsel : selB r n y.fact = false := by rw [HD.out]; simp [hr]
        clear hr
        rw [hsel, if_neg (by simp)] at HKE
        have HO2 : Hid (OwnG Elem.enc 25 2 wr W1.heap.size (.slice Al (keepS r n (es.take k)).length cl) (keepS r n (es.take (k + 1)))) := Lib.hid (by rw [HKE.out]; exact HO.out)
        clear hsel HAP
        go_wp2
        go_roundw
        case rel => exact ⟨k + 1, by go_num, by omega, HO2, HW⟩
        case measure => simp [intOf]; omega
    · have hke : keepS r n (es.take k) = keepS r n es := by rw [List.take_of_length_le hge]
      obtain ⟨A9, c9, h9, hre⟩ := HO.out.rowE (fun f hf => by
        rw [hke] at hf
        exact HR.out.kinds f ((keepS_mem r n es f).1 hf).1)
      cases h9
      rw [hke] at hre
      have HEND : Hid (RSelEnd es0 r n w (.returned (.slice Al (keepS r n es).length cl)) wr) := Lib.hid ⟨Al, cl, keepS r n es, rfl, hre, sub_strict List.filter_sublist HST.out, fun g => by rw [show g ∈ FactsE (keepS r n es) ↔ g ∈ es.map Elem.fact ∧ selB r n g = true from keepS_mem r n es g]; rw [show g ∈ es.map Elem.fact ↔ g ∈ FactsE es0 from HME.out g], by have := keepS_len r n es; omega, bel_next HB1.out HW.out⟩
      rw [hke] at *
      clear hre hke
      go_wp2
      go_ret
      exact HEND.out
end
end Go.Proofs.YtolkceibbefhfaaGreatDoor
