/-
  The set of a list of one fact: facts.union, setOf.
  Conditions: the list has one fact, which has at most 1000000 arguments, in a slice that is not nil.
  facts.Parse at a text of one fact whose arguments are numbers.
  Conditions: the text's tokens are those of such a fact; strconv.ErrRange lies as the program's start lays it.
  The contracts of the reference's Plain and Text.
  Conditions: the token's text is one of the language's strings; its value is one of a uint64.
-/
import Derived.Test.YtmodjokoggmnaaaGreatDoorMa13
import Derived.Test.YtmodjokoggmnaaaGreatDoorMa11
import Derived.RegionTactic
import Derived.Deep.RegionHeld3
namespace Go.Proofs.YtmodjokoggmnaaaGreatDoor

open Go.RowKit Go.Shelf

def OneSet (f : SFact) (vs : List GVal) (w : World) (e : Ending) (w' : World) : Prop :=
  ∃ v A n c, e = .returned v ∧ OwnG SFact.cells 37 2 w' w.heap.size v [⟨f.rel, A, n, c⟩] ∧ OwnG GVal.cells 40 3 w' w.heap.size (.slice A n c) vs ∧ Below w.heap.size w w'
def UnionRel (f : SFact) (vs : List GVal) (w : World) (g cap : Nat) (vi : Value) (wr : World) : Prop :=
  (vi = .int .i64 0 ∧ OwnG SFact.cells 37 2 wr w.heap.size (.slice (some ⟨g, 0, none⟩) 1 cap) [f] ∧ Below w.heap.size w wr) ∨
  (vi = .int .i64 1 ∧ ∃ A n c, OwnG SFact.cells 37 2 wr w.heap.size (.slice (some ⟨g, 0, none⟩) 1 cap) [⟨f.rel, A, n, c⟩] ∧ OwnG GVal.cells 40 3 wr w.heap.size (.slice A n c) vs ∧ Below w.heap.size w wr)
/-- A store into the second cell of the one fact of an own row. -/
theorem OwnG.setArgs {w : World} {base g cap : Nat} {f : SFact} {A : Option Addr} {n c : Nat} (h : OwnG SFact.cells 37 2 w base (.slice (some ⟨g, 0, none⟩) 1 cap) [f]) :
    OwnG SFact.cells 37 2 (w.setCell ⟨g, 1, none⟩ (.slice A n c)) base (.slice (some ⟨g, 0, none⟩) 1 cap) [⟨f.rel, A, n, c⟩] := by
  refine ⟨rfl, ?_⟩
  rcases h.2 with ⟨hh, _⟩ | ⟨g', cap', cur, e, hb, hh, hn, hm, hs, ht⟩
  · cases hh
  · cases e
    have hlen : 2 ≤ cur.size := by rw [hs]; simp at hn; omega
    refine .inr ⟨g, cap, cur.set! 1 (.slice A n c), rfl, hb, by simp [World.setCell, Array.getElem?_modify, hh], hn, hm, by simp [hs], ?_⟩
    obtain ⟨l⟩ := cur
    match l, hlen, ht with
    | a :: b :: r, _, ht =>
      simp [gcells, SFact.cells] at ht ⊢
      exact ht.1
theorem OwnG.other {α : Type} {enc : α → List Value} {T : TypeId} {k : Nat} {w : World} {base : Nat} {v : Value} {l : List α} (h : OwnG enc T k w base v l) (a : Addr) (u : Value) (ha : v.ownBlock ≠ some a.block) : OwnG enc T k (w.setCell a u) base v l :=
  h.keep fun g hg => Below.heap_setCell _ _ _ g (by intro e; apply ha; rw [hg, e])
/-- Two own rows of different element types lie in different blocks. -/
theorem own_apart {w : World} {b1 b2 : Nat} {v1 v2 : Value} {vs : List GVal} {fs : List SFact} (h1 : OwnG GVal.cells 40 3 w b1 v1 vs) (h2 : OwnG SFact.cells 37 2 w b2 v2 fs) : ∀ g, v2.ownBlock = some g → v1.ownBlock ≠ some g := by
  intro g hg hg1
  rcases h1.2 with ⟨rfl, _⟩ | ⟨g1, c1, cur1, rfl, _, hh1, _⟩
  · simp [Value.ownBlock] at hg1
  · rcases h2.2 with ⟨rfl, _⟩ | ⟨g2, c2, cur2, rfl, _, hh2, _⟩
    · simp [Value.ownBlock] at hg
    · simp [Value.ownBlock] at hg hg1
      subst hg hg1
      rw [hh1] at hh2
      simp at hh2
set_option maxRecDepth 50000 in
set_option maxHeartbeats 1000000 in
theorem union_one (f : SFact) (vs : List GVal) (A : Addr) (c : Nat) (w : World) (h : GRow SFact.cells 2 w w.heap.size (some A) [f]) (hn : f.n = vs.length) (hA : f.A ≠ none) (hv : GRow GVal.cells 3 w w.heap.size f.A vs) (hl : vs.length ≤ 1000000) :
    Calls Tryz.prog 54 #[.slice (some A) 1 c, .slice none 0 0] w (OneSet f vs w) := by
  have HM := Lib.hid (merged_one f A c w h)
  have HV := Lib.hid hv
  have HCL := Lib.hid fun W (hW : Below w.heap.size w W) => cloneV_any vs f.A f.c W ((hv.below (Nat.le_refl _) hW).wide hW.size) hA hl
  clear h hv hA
  obtain ⟨fr, fA, fn, fc⟩ := f
  simp only at *
  subst hn
  go_enter Tryz.func54, Tryz.ntmps54
  go_wp2_with fail
  refine HM.out.mono ?_
  rintro e w1 ⟨⟨v1, rfl, ho1⟩, hb1⟩
  obtain ⟨g, cap, rfl, hg0, hg1, hc1, hcm, hr1⟩ := ho1.nonnil SFact.len
  simp only [List.length_nil, Nat.zero_add] at *
  have HO1 := Lib.hid ho1
  have HB1 := Lib.hid hb1
  clear ho1 hb1 hr1 HM
  go_wp2
  go_loopw [13] (fun vi wr => UnionRel ⟨fr, fA, vs.length, fc⟩ vs w g cap vi wr) (fun vi _ => 1 - (intOf vi).toNat)
  case atStart => exact .inl ⟨rfl, HO1.out, HB1.out⟩
  case round =>
    rcases hrel with ⟨rfl, ho, hb⟩ | ⟨rfl, A3, n3, c3, ho, hv3, hb⟩
    · obtain ⟨g', cap', e', _, hgw, _, _, hr⟩ := ho.nonnil SFact.len
      cases e'
      obtain ⟨b, off, e2, _, hc⟩ := hr (by simp)
      cases e2
      have x0 := hc 0 (by simp) 0 _ rfl
      have x1 := hc 0 (by simp) 1 _ rfl
      simp only [Nat.zero_mul, Nat.zero_add, Nat.add_zero] at x0 x1
      have HO := Lib.hid ho
      have HB := Lib.hid hb
      have HC := Lib.hid (HCL.out _ (bel_lit hb (.cells #[.string ⟨fr.toArray⟩, .slice fA vs.length fc] 37)))
      clear ho hb hr hc
      go_wp2_with fail
      refine HC.out.mono ?_
      rintro e w2 ⟨⟨v2, rfl, hv2⟩, hb2⟩
      obtain ⟨A2, c2, rfl, _, _, _⟩ := hv2.row GVal.len
      have hbase : w.heap.size ≤ (wr.alloc (.cells #[.string ⟨fr.toArray⟩, .slice fA vs.length fc] 37)).heap.size := by have := HB.out.size; simp; omega
      have HO2 := Lib.hid ((HO.out.alloc (.cells #[.string ⟨fr.toArray⟩, .slice fA vs.length fc] 37)).next hb2)
      have HV2 := Lib.hid (hv2.base hbase)
      have HB2 := Lib.hid (bel_alloc HB.out hb2)
      have hz : wr.heap.size < w2.heap.size := by have := hb2.size; simp at this; omega
      have y1 : w2.cell? ⟨g, 1, none⟩ = some (.slice fA vs.length fc) := (hb2.cell (p := ⟨g, 1, none⟩) (by simp; omega)).trans (by rw [World.cell?_of_block (a := ⟨g, 1, none⟩) (Below.heap_alloc wr _ g hgw)]; exact x1)
      have hfz : w2.frozen? ⟨g, 1, none⟩ = false := by
        rcases HO2.out.2 with ⟨hh, _⟩ | ⟨g', cap', cur, e3, _, hh, _⟩
        · cases hh
        · cases e3; exact Lib.frozen_of_heap hh 1
      have HAP := Lib.hid (own_apart HV2.out HO2.out g rfl)
      clear hv2 hb2 hbase
      go_wp2
      go_roundw
      case rel => exact .inr ⟨by go_num, A2, vs.length, c2, HO2.out.setArgs, HV2.out.other _ _ HAP.out, HB2.out.setCell hg0 _⟩
      case measure => simp [intOf]
    · have HO := Lib.hid ho
      have HV3 := Lib.hid hv3
      have HB := Lib.hid hb
      clear ho hv3 hb
      go_wp2
      go_ret
      exact ⟨_, A3, n3, c3, rfl, HO.out, HV3.out, HB.out⟩
theorem setOf_one (f : SFact) (vs : List GVal) (A : Addr) (c : Nat) (w : World) (h : GRow SFact.cells 2 w w.heap.size (some A) [f]) (hn : f.n = vs.length) (hA : f.A ≠ none) (hv : GRow GVal.cells 3 w w.heap.size f.A vs) (hl : vs.length ≤ 1000000) :
    Calls Tryz.prog 23 #[.slice (some A) 1 c] w (OneSet f vs w) := by
  have HU := Lib.hid (union_one f vs A c w h hn hA hv hl)
  clear h hn hA hv hl
  go_enter Tryz.func23, Tryz.ntmps23
  go_wp2_with fail
  refine HU.out.mono ?_
  rintro e w1 ⟨v, A1, n1, c1, rfl, h1, h2, h3⟩
  go_wp2
  go_ret
  exact ⟨_, A1, n1, c1, rfl, h1, h2, h3⟩
end Go.Proofs.YtmodjokoggmnaaaGreatDoor


namespace Go.Proofs.YtmodjokoggmnaaaGreatDoor

open Go.RowKit Go.Shelf

def OneParsed (r : List UInt8) (vs : List Int) (w : World) (e : Ending) (w' : World) : Prop :=
  ∃ v A n c, e = .returned (.tuple #[v, .agg #[.int .i64 0, .int .i64 0], .int .i64 0]) ∧ OwnG SFact.cells 37 2 w' w.heap.size v [⟨r, A, n, c⟩] ∧ OwnG GVal.cells 40 3 w' w.heap.size (.slice A n c) (vs.map gnum) ∧ Below w.heap.size w w'
set_option maxRecDepth 50000 in
set_option maxHeartbeats 1000000 in
theorem parse_one (l : List UInt8) (toks : List Tok) (hs : scan l = .ok toks) (r : List UInt8) (vs : List Int) (hl : l.length ≤ 65536) (ht : ∀ x y : Int, FactToks r vs (toks.map Tok.g ++ [⟨0, [], 0, x, y⟩])) (w : World) (hG : Glob w) :
    Calls Tryz.prog 7 #[.string ⟨l.toArray⟩] w (OneParsed r vs w) := by
  have htl : toks.length = 2 * vs.length + 3 := by have := (ht 0 0).len; simp at this; omega
  have h8 := (ht 0 0).args.eight
  have hSC := scan_any l (w.alloc (.cells #[.int .i64 0, .int .i64 0] 26)) (hG.next (bel_lit (Below.refl _ w) _)) (by unfold maxLen; omega)
  rw [hs] at hSC
  have HS := Lib.hid hSC
  have HT := Lib.hid ht
  have HE := Lib.hid fun W => endPos_some l W hl
  clear hSC ht hG hs
  go_enter Tryz.func7, Tryz.ntmps7
  go_wp2_with fail
  refine HS.out.mono ?_
  rintro e w1 ⟨v1, rfl, hown1, hb1⟩
  obtain ⟨A1, c1, rfl, _, _⟩ := hown1.row
  have HO1 := Lib.hid hown1
  have HB1 := Lib.hid (bel_alloc (Below.refl _ w) hb1)
  have k1 : w1.heap[w.heap.size]? = some (.cells #[.int .i64 0, .int .i64 0] 26 (0, 0)) := (hb1.block _ (by simp)).trans (heap_alloc_new w _)
  have HK1 := Lib.hid k1
  have hz1 : w.heap.size < w1.heap.size := by have := hb1.size; simp at this; omega
  clear hown1 hb1 k1
  go_wp2_with fail
  refine (HE.out _).mono ?_
  rintro e w2 ⟨⟨x, y, rfl⟩, hb2⟩
  have HB2 := Lib.hid hb2
  have hz2 : w1.heap.size < w2.heap.size := by have := hb2.size; simp at this; omega
  have hown2 : OwnG GTok.cells 52 5 w2 (w.heap.size + 1) (.slice A1 (toks.map Tok.g).length c1) (toks.map Tok.g) := by
    have h1 : OwnG GTok.cells 52 5 w1 (w.heap.size + 1 + 1) (.slice A1 (toks.map Tok.g).length c1) (toks.map Tok.g) := by
      have h := HO1.out
      have e : (w.alloc (.cells #[.int .i64 0, .int .i64 0] 26)).heap.size + 1 = w.heap.size + 1 + 1 := by simp
      rw [e] at h
      exact h
    exact ((h1.alloc _).next hb2).base (by omega)
  have hlit := GRow.lit GTok.len5 w2 52 [⟨0, [], 0, x, y⟩] #[.int .i64 0, .string ⟨#[]⟩, .int .u64 0, .int .i64 x, .int .i64 y] rfl (by unfold maxLen; simp)
  obtain ⟨v3, w3, hrun3, hown3, hgr3, _⟩ := OwnG.app elt_tok GTok.len5 cells_one (hown2.alloc (.cells #[.int .i64 0, .string ⟨#[]⟩, .int .u64 0, .int .i64 x, .int .i64 y] 52)) 1 hlit (by simp; omega) (by unfold maxLen; simp; omega) (by simp; omega)
  obtain ⟨A3, c3, rfl, hc3, hm3, hr3⟩ := hown3.row GTok.len5
  have HRUN := Lib.hid hrun3
  have hl3 : (toks.map Tok.g ++ [(⟨0, [], 0, x, y⟩ : GTok)]).length = 2 * vs.length + 4 := by simp; omega
  have hl1 : (toks.map Tok.g).length = 2 * vs.length + 3 := by simp; omega
  have HB3 := Lib.hid (below_of_own (bel_lit (bel_next (bel_lit HB1.out _) hb2) _) hgr3 (fun g hg => by have := (hown2.lt g hg).1; omega))
  have hs3 := hgr3.size
  rw [hl3, hl1] at HRUN
  have hps : PS (w3.alloc (.cells #[.slice A3 (2 * vs.length + 4) c3] 54)) w3.heap.size (toks.map Tok.g ++ [⟨0, [], 0, x, y⟩]) :=
    ⟨A3, c3, by rw [hl3]; exact heap_alloc_new w3 _, hc3, hm3, hr3.below (Nat.le_refl _) ((Below.refl _ w3).alloc (Nat.le_refl _) _)⟩
  have HF := Lib.hid (facts_one w3.heap.size r vs _ _ hps (HT.out x y))
  have hk3 : w3.heap[w.heap.size]? = some (.cells #[.int .i64 0, .int .i64 0] 26 (0, 0)) := by
    rw [hgr3.block _ (by simp; omega) (by intro e; have := (hown2.lt _ e.symm).1; omega), Below.heap_alloc _ _ _ (by omega), hb2.block _ (by simp; omega), Below.heap_alloc _ _ _ hz1]
    exact HK1.out
  have HK3 := Lib.hid hk3
  simp only [List.length_singleton] at HRUN
  clear hown2 hlit hrun3 hown3 hgr3 hr3 hps hb2 hk3 hl3 hl1 hc3 hm3
  go_wp2_with (at_builtin; refine wpList_gapp HRUN.out rfl rfl rfl rfl rfl ?_)
  refine HF.out.mono ?_
  rintro e w4 ⟨v4, A4, n4, c4, rfl, ho4, hv4, hg4⟩
  obtain ⟨g4, cap4, rfl, _, _, _, _, hr4⟩ := ho4.nonnil SFact.len
  obtain ⟨A5, c5, e5, _, _, hr5⟩ := hv4.row GVal.len
  cases e5
  have h1 := (HT.out 0 0).args.one
  have hA : A4 ≠ none := by
    intro e
    subst e
    obtain ⟨b, off, e, _⟩ := hr5 (by simp; omega)
    cases e
  have HU := Lib.hid (setOf_one ⟨r, A4, (vs.map gnum).length, c4⟩ (vs.map gnum) ⟨g4, 0, none⟩ cap4 w4 hr4 rfl hA hr5 (by simp; omega))
  have hs4 := hg4.size
  have hsa : (w3.alloc (.cells #[.slice A3 (2 * vs.length + 4) c3] 54)).heap.size = w3.heap.size + 1 := by simp
  have hw3 : w.heap.size < w3.heap.size := by simp at hs3; omega
  have HB4 := Lib.hid (bel_gb (bel_lit HB3.out _) (by omega) hg4)
  have HK4 : Hid (w4.heap[w.heap.size]? = some (.cells #[.int .i64 0, .int .i64 0] 26 (0, 0))) := Lib.hid (by
    rw [hg4.block _ (by omega) (by simp; omega), Below.heap_alloc _ _ _ hw3]
    exact HK3.out)
  rw [hsa] at hs4
  clear ho4 hv4 hr4 hr5 hg4 hA h1 hsa hs3
  simp only [List.length_nil, Nat.zero_add]
  go_wp2_with fail
  refine HU.out.mono ?_
  rintro e w5 ⟨v5, A6, n6, c6, rfl, ho6, hv6, hb6⟩
  have hs6 := hb6.size
  have k5 : w5.heap[w.heap.size]? = some (.cells #[.int .i64 0, .int .i64 0] 26 (0, 0)) := (hb6.block _ (by omega)).trans HK4.out
  have z0 := Lib.frozen_of_heap k5 0
  have z1 := Lib.frozen_of_heap k5 1
  have q0 : w5.cell? ⟨w.heap.size, 0, none⟩ = some (.int .i64 0) := by rw [Lib.cell_of_heap k5]; rfl
  have q1 : w5.cell? ⟨w.heap.size, 1, none⟩ = some (.int .i64 0) := by rw [Lib.cell_of_heap k5]; rfl
  obtain ⟨g7, cap7, rfl, hg7, _, _, _, _⟩ := ho6.nonnil SFact.len
  have hn7 : Value.ownBlock (.slice (some ⟨g7, 0, none⟩) ([] : List SFact).length.succ cap7) ≠ some w.heap.size := by simp [Value.ownBlock]; omega
  have hn6 : Value.ownBlock (.slice A6 n6 c6) ≠ some w.heap.size := by intro e; have := (hv6.lt _ e).1; omega
  have HO6 := Lib.hid (((ho6.base (b' := w.heap.size) (by omega)).other ⟨w.heap.size, 0, none⟩ (.int .i64 0) (by simp [Value.ownBlock]; omega)).other ⟨w.heap.size, 1, none⟩ (.int .i64 0) (by simp [Value.ownBlock]; omega))
  have HV6 := Lib.hid (((hv6.base (b' := w.heap.size) (by omega)).other ⟨w.heap.size, 0, none⟩ (.int .i64 0) hn6).other ⟨w.heap.size, 1, none⟩ (.int .i64 0) hn6)
  have HB6 := Lib.hid ((((bel_next HB4.out hb6).setCell (p := ⟨w.heap.size, 0, none⟩) (Nat.le_refl _) (.int .i64 0))).setCell (p := ⟨w.heap.size, 1, none⟩) (Nat.le_refl _) (.int .i64 0))
  clear k5 hn6 hn7 ho6 hv6 hb6
  go_wp2
  exact bodyPost_ret (v := .tuple #[.slice (some ⟨g7, 0, none⟩) 1 cap7, .agg #[.int .i64 0, .int .i64 0], .int .i64 0]) (by simp [results, Tryz.results7, go_sem, q0, q1]) rfl ⟨_, A6, n6, c6, rfl, HO6.out, HV6.out, HB6.out⟩
end Go.Proofs.YtmodjokoggmnaaaGreatDoor


namespace Go.Proofs.YtmodjokoggmnaaaGreatDoor

open Go.RowKit Go.Shelf

set_option maxHeartbeats 1000000 in
theorem rPlain_any (l : List UInt8) (w : World) (hl : l.length ≤ maxLen) : Calls Tryz.prog 72 #[.string ⟨l.toArray⟩] w fun e w' => e = .returned (.bool (l.all isStr)) ∧ w = w' := by
  unfold maxLen at hl
  have hsz : (⟨l.toArray⟩ : ByteArray).size = l.length := ba_size l
  go_enter Tryz.func72, Tryz.ntmps72
  go_wp2
  go_loop [3] (fun i => ∃ k : Nat, k ≤ l.length ∧ i = .int .i64 k ∧ Hid ((l.take k).all isStr = true)) (fun i => l.length - (intOf i).toNat)
  case atStart => exact ⟨0, Nat.zero_le _, rfl, Lib.hid rfl⟩
  case round =>
    obtain ⟨k, hk, rfl, HA⟩ := hrel
    rcases Nat.lt_or_ge k l.length with hlt | hge
    · have hb := byte_bd l[k]
      have hx : (⟨l.toArray⟩ : ByteArray)[k]'(by rw [hsz]; exact hlt) = l[k] := rfl
      have HT := Lib.hid (all_take isStr l k hlt)
      have HC := Lib.hid fun W => rplain_any _ W hb.1 hb.2
      cases hd : strI ((l[k].toNat : Int))
      · have HS := Lib.hid (all_stop isStr l k hlt hd)
        rw [hd] at HC
        clear hd
        go_wp2_with (go_at_call 106; refine (HC.out _).mono ?_; rintro e w' ⟨rfl, rfl⟩)
        go_ret
        exact ⟨ret_bool (by rw [HS.out]), rfl⟩
      · have HS : Hid ((l.take (k + 1)).all isStr = true) := Lib.hid (by rw [HT.out, HA.out]; exact hd)
        rw [hd] at HC
        clear hd
        go_wp2_with (go_at_call 106; refine (HC.out _).mono ?_; rintro e w' ⟨rfl, rfl⟩)
        go_round
        case rel => exact ⟨k + 1, by omega, by go_num, HS⟩
        case measure => simp [intOf]; omega
    · have HS : Hid (l.all isStr = true) := Lib.hid (by have := HA.out; rwa [List.take_of_length_le hge] at this)
      go_wp2
      go_ret
      exact ⟨ret_bool (by rw [HS.out]), rfl⟩

theorem mark_self (l : List UInt8) (hne : l ≠ []) : (markOf l == l) = punct l := by
  rw [Bool.eq_iff_iff, beq_iff_eq]
  constructor
  · intro h
    unfold markOf at h
    split at h
    · rename_i h2; rw [← h]; exact h2.2
    · split at h
      · rename_i h2; rw [← h]; exact h2
      · exact absurd h.symm hne
  · intro h
    have hm := punct_mem l h
    have hlen : l.length = 1 ∨ l.length = 2 := by
      have : ∀ x ∈ marks2 ++ marks1.map (fun c => [c]), x.length = 1 ∨ x.length = 2 := by decide
      exact this l hm
    unfold markOf
    rcases hlen with h1 | h1
    · rw [if_neg (by omega), List.take_of_length_le (by omega), if_pos h]
    · rw [List.take_of_length_le (by omega), if_pos ⟨by omega, h⟩]

def TextEnd (t : GTok) (w : World) (e : Ending) (w' : World) : Prop := ∃ x : List UInt8, e = .returned (.tuple #[.string ⟨x.toArray⟩, .bool (wf t)]) ∧ (wf t = true → x = txt t) ∧ Below w.heap.size w w'
theorem quot_eq (l : List UInt8) : (⟨#[34]⟩ ++ ⟨l.toArray⟩ ++ ⟨#[34]⟩ : ByteArray) = ⟨(34 :: (l ++ [34])).toArray⟩ := by
  apply ByteArray.ext
  simp [ByteArray.data_append]
end Go.Proofs.YtmodjokoggmnaaaGreatDoor
