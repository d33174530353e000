/-
  facts.Parse at a text of one fact whose arguments are numbers.
  Conditions: the text's tokens are those of such a fact; strconv.ErrRange lies as the program's start lays it.
-/
import Derived.Test.YtfmajccblnmglaaGreatDoorFun
namespace Go.Proofs.YtfmajccblnmglaaGreatDoor
open Go.RowKit Go.Shelf

def OneParsed (r : List UInt8) (vs : List Int) (w : World) (e : Ending) (w' : World) : Prop :=
  ∃ v A n c, e = .returned (.tuple #[v, .agg #[.int .i64 0, .int .i64 0], .int .i64 0]) ∧ OwnG SFact.cells 25 2 w' w.heap.size v [⟨r, A, n, c⟩] ∧ OwnG GVal.cells 40 3 w' w.heap.size (.slice A n c) (vs.map gnum) ∧ Below w.heap.size w w'
set_option maxRecDepth 50000 in
set_option maxHeartbeats 1000000 in
theorem parse_one (l : List UInt8) (toks : List Tok) (hs : scan l = .ok toks) (r : List UInt8) (vs : List Int) (hl : l.length ≤ 65536) (ht : ∀ x y : Int, FactToks r vs (toks.map Tok.g ++ [⟨0, [], 0, x, y⟩])) (w : World) (hG : Glob w) :
    Calls Tryz.prog 21 #[.string ⟨l.toArray⟩] w (OneParsed r vs w) := by
  have htl : toks.length = 2 * vs.length + 3 := by have := (ht 0 0).len; simp at this; omega
  have h8 := (ht 0 0).args.eight
  have hSC := scan_any l (w.alloc (.cells #[.int .i64 0, .int .i64 0] 45)) (hG.next (bel_lit (Below.refl _ w) _)) (by unfold maxLen; omega)
  rw [hs] at hSC
  have HS := Lib.hid hSC
  have HT := Lib.hid ht
  have HE := Lib.hid fun W => endPos_some l W hl
  clear hSC ht hG hs
  go_enter Tryz.func21, Tryz.ntmps21
  go_wp2_with fail
  refine HS.out.mono ?_
  rintro e w1 ⟨v1, rfl, hown1, hb1⟩
  obtain ⟨A1, c1, rfl, _, _⟩ := hown1.row
  have HO1 := Lib.hid hown1
  have HB1 := Lib.hid (bel_alloc (Below.refl _ w) hb1)
  have k1 : w1.heap[w.heap.size]? = some (.cells #[.int .i64 0, .int .i64 0] 45 (0, 0)) := (hb1.block _ (by simp)).trans (heap_alloc_new w _)
  have HK1 := Lib.hid k1
  have hz1 : w.heap.size < w1.heap.size := by have := hb1.size; simp at this; omega
  clear hown1 hb1 k1
  go_wp2_with fail
  refine (HE.out _).mono ?_
  rintro e w2 ⟨⟨x, y, rfl⟩, hb2⟩
  have HB2 := Lib.hid hb2
  have hz2 : w1.heap.size < w2.heap.size := by have := hb2.size; simp at this; omega
  have hown2 : OwnG GTok.cells 70 5 w2 (w.heap.size + 1) (.slice A1 (toks.map Tok.g).length c1) (toks.map Tok.g) := by
    have h1 : OwnG GTok.cells 70 5 w1 (w.heap.size + 1 + 1) (.slice A1 (toks.map Tok.g).length c1) (toks.map Tok.g) := by
      have h := HO1.out
      have e : (w.alloc (.cells #[.int .i64 0, .int .i64 0] 45)).heap.size + 1 = w.heap.size + 1 + 1 := by simp
      rw [e] at h
      exact h
    exact ((h1.alloc _).next hb2).base (by omega)
  have hlit := GRow.lit GTok.len5 w2 70 [⟨0, [], 0, x, y⟩] #[.int .i64 0, .string ⟨#[]⟩, .int .u64 0, .int .i64 x, .int .i64 y] rfl (by unfold maxLen; simp)
  obtain ⟨v3, w3, hrun3, hown3, hgr3, _⟩ := OwnG.app elt_tok GTok.len5 cells_one (hown2.alloc (.cells #[.int .i64 0, .string ⟨#[]⟩, .int .u64 0, .int .i64 x, .int .i64 y] 70)) 1 hlit (by simp; omega) (by unfold maxLen; simp; omega) (by simp; omega)
  obtain ⟨A3, c3, rfl, hc3, hm3, hr3⟩ := hown3.row GTok.len5
  have HRUN := Lib.hid hrun3
  have hl3 : (toks.map Tok.g ++ [(⟨0, [], 0, x, y⟩ : GTok)]).length = 2 * vs.length + 4 := by simp; omega
  have hl1 : (toks.map Tok.g).length = 2 * vs.length + 3 := by simp; omega
  have HB3 := Lib.hid (below_of_own (bel_lit (bel_next (bel_lit HB1.out _) hb2) _) hgr3 (fun g hg => by have := (hown2.lt g hg).1; omega))
  have hs3 := hgr3.size
  rw [hl3, hl1] at HRUN
  have hps : PS (w3.alloc (.cells #[.slice A3 (2 * vs.length + 4) c3] 72)) w3.heap.size (toks.map Tok.g ++ [⟨0, [], 0, x, y⟩]) :=
    ⟨A3, c3, by rw [hl3]; exact heap_alloc_new w3 _, hc3, hm3, hr3.below (Nat.le_refl _) ((Below.refl _ w3).alloc (Nat.le_refl _) _)⟩
  have HF := Lib.hid (facts_one w3.heap.size r vs _ _ hps (HT.out x y))
  have hk3 : w3.heap[w.heap.size]? = some (.cells #[.int .i64 0, .int .i64 0] 45 (0, 0)) := by
    rw [hgr3.block _ (by simp; omega) (by intro e; have := (hown2.lt _ e.symm).1; omega), Below.heap_alloc _ _ _ (by omega), hb2.block _ (by simp; omega), Below.heap_alloc _ _ _ hz1]
    exact HK1.out
  have HK3 := Lib.hid hk3
  simp only [List.length_singleton] at HRUN
  clear hown2 hlit hrun3 hown3 hgr3 hr3 hps hb2 hk3 hl3 hl1 hc3 hm3
  go_wp2_with (at_builtin; refine wpList_gapp HRUN.out rfl rfl rfl rfl rfl ?_)
  refine HF.out.mono ?_
  rintro e w4 ⟨v4, A4, n4, c4, rfl, ho4, hv4, hg4⟩
  obtain ⟨g4, cap4, rfl, _, _, _, _, hr4⟩ := ho4.nonnil SFact.len
  obtain ⟨A5, c5, e5, _, _, hr5⟩ := hv4.row GVal.len
  cases e5
  have h1 := (HT.out 0 0).args.one
  have hA : A4 ≠ none := by
    intro e
    subst e
    obtain ⟨b, off, e, _⟩ := hr5 (by simp; omega)
    cases e
  have HU := Lib.hid (setOf_one ⟨r, A4, (vs.map gnum).length, c4⟩ (vs.map gnum) ⟨g4, 0, none⟩ cap4 w4 hr4 rfl hA hr5 (by simp; omega))
  have hs4 := hg4.size
  have hsa : (w3.alloc (.cells #[.slice A3 (2 * vs.length + 4) c3] 72)).heap.size = w3.heap.size + 1 := by simp
  have hw3 : w.heap.size < w3.heap.size := by simp at hs3; omega
  have HB4 := Lib.hid (bel_gb (bel_lit HB3.out _) (by omega) hg4)
  have HK4 : Hid (w4.heap[w.heap.size]? = some (.cells #[.int .i64 0, .int .i64 0] 45 (0, 0))) := Lib.hid (by
    rw [hg4.block _ (by omega) (by simp; omega), Below.heap_alloc _ _ _ hw3]
    exact HK3.out)
  rw [hsa] at hs4
  clear ho4 hv4 hr4 hr5 hg4 hA h1 hsa hs3
  simp only [List.length_nil, Nat.zero_add]
  go_wp2_with fail
  refine HU.out.mono ?_
  rintro e w5 ⟨v5, A6, n6, c6, rfl, ho6, hv6, hb6⟩
  have hs6 := hb6.size
  have k5 : w5.heap[w.heap.size]? = some (.cells #[.int .i64 0, .int .i64 0] 45 (0, 0)) := (hb6.block _ (by omega)).trans HK4.out
  have z0 := Lib.frozen_of_heap k5 0
  have z1 := Lib.frozen_of_heap k5 1
  have q0 : w5.cell? ⟨w.heap.size, 0, none⟩ = some (.int .i64 0) := by rw [Lib.cell_of_heap k5]; rfl
  have q1 : w5.cell? ⟨w.heap.size, 1, none⟩ = some (.int .i64 0) := by rw [Lib.cell_of_heap k5]; rfl
  obtain ⟨g7, cap7, rfl, hg7, _, _, _, _⟩ := ho6.nonnil SFact.len
  have hn7 : Value.ownBlock (.slice (some ⟨g7, 0, none⟩) ([] : List SFact).length.succ cap7) ≠ some w.heap.size := by simp [Value.ownBlock]; omega
  have hn6 : Value.ownBlock (.slice A6 n6 c6) ≠ some w.heap.size := by intro e; have := (hv6.lt _ e).1; omega
  have HO6 := Lib.hid (((ho6.base (b' := w.heap.size) (by omega)).other ⟨w.heap.size, 0, none⟩ (.int .i64 0) (by simp [Value.ownBlock]; omega)).other ⟨w.heap.size, 1, none⟩ (.int .i64 0) (by simp [Value.ownBlock]; omega))
  have HV6 := Lib.hid (((hv6.base (b' := w.heap.size) (by omega)).other ⟨w.heap.size, 0, none⟩ (.int .i64 0) hn6).other ⟨w.heap.size, 1, none⟩ (.int .i64 0) hn6)
  have HB6 := Lib.hid ((((bel_next HB4.out hb6).setCell (p := ⟨w.heap.size, 0, none⟩) (Nat.le_refl _) (.int .i64 0))).setCell (p := ⟨w.heap.size, 1, none⟩) (Nat.le_refl _) (.int .i64 0))
  clear k5 hn6 hn7 ho6 hv6 hb6
  go_wp2
  exact bodyPost_ret (v := .tuple #[.slice (some ⟨g7, 0, none⟩) 1 cap7, .agg #[.int .i64 0, .int .i64 0], .int .i64 0]) (by simp [results, Tryz.results21, go_sem, q0, q1]) rfl ⟨_, A6, n6, c6, rfl, HO6.out, HV6.out, HB6.out⟩
end Go.Proofs.YtfmajccblnmglaaGreatDoor
