/-
  facts.Parse at a text of one fact whose arguments are numbers.
  Conditions: the text's tokens are those of such a fact; strconv.ErrRange lies as the program's start lays it.
  The contracts of the reference's Plain and Text.
  Conditions: the token's text is one of the language's strings; its value is one of a uint64.
  The contracts of strings.Builder's writing methods at this program (whose copy check is cut at its panic): a builder in a block of the call's own.
  Conditions: what it holds takes at most 2^47 bytes.
-/
import Derived.Test.YtmodjokoggmnaaaGreatDoorMa13
import Derived.Test.YtmodjokoggmnaaaGreatDoorMa11
import Derived.RegionTactic
import Derived.Deep.RegionHeld3
import Derived.Test.YtmodjokoggmnaaaGreatDoorMa3
import Derived.Test.YtmodjokoggmnaaaGreatDoorMa5
import Derived.Lib.OthersKept
import Derived.Lib.AppendStr
import Derived.Laws.Externs
namespace Go.Proofs.YtmodjokoggmnaaaGreatDoor

open Go.RowKit Go.Shelf

def OneParsed (r : List UInt8) (vs : List Int) (w : World) (e : Ending) (w' : World) : Prop :=
  ∃ v A n c, e = .returned (.tuple #[v, .agg #[.int .i64 0, .int .i64 0], .int .i64 0]) ∧ OwnG SFact.cells 37 2 w' w.heap.size v [⟨r, A, n, c⟩] ∧ OwnG GVal.cells 40 3 w' w.heap.size (.slice A n c) (vs.map gnum) ∧ Below w.heap.size w w'
set_option maxRecDepth 50000 in
set_option maxHeartbeats 1000000 in
theorem parse_one (l : List UInt8) (toks : List Tok) (hs : scan l = .ok toks) (r : List UInt8) (vs : List Int) (hl : l.length ≤ 65536) (ht : ∀ x y : Int, FactToks r vs (toks.map Tok.g ++ [⟨0, [], 0, x, y⟩])) (w : World) (hG : Glob w) :
    Calls Tryz.prog 7 #[.string ⟨l.toArray⟩] w (OneParsed r vs w) := by
  have htl : toks.length = 2 * vs.length + 3 := by have := (ht 0 0).len; simp at this; omega
  have h8 := (ht 0 0).args.eight
  have hSC := scan_any l (w.alloc (.cells #[.int .i64 0, .int .i64 0] 26)) (hG.next (bel_lit (Below.refl _ w) _)) (by unfold maxLen; omega)
  rw [hs] at hSC
  have HS := Lib.hid hSC
  have HT := Lib.hid ht
  have HE := Lib.hid fun W => endPos_some l W hl
  clear hSC ht hG hs
  go_enter Tryz.func7, Tryz.ntmps7
  go_wp2_with fail
  refine HS.out.mono ?_
  rintro e w1 ⟨v1, rfl, hown1, hb1⟩
  obtain ⟨A1, c1, rfl, _, _⟩ := hown1.row
  have HO1 := Lib.hid hown1
  have HB1 := Lib.hid (bel_alloc (Below.refl _ w) hb1)
  have k1 : w1.heap[w.heap.size]? = some (.cells #[.int .i64 0, .int .i64 0] 26 (0, 0)) := (hb1.block _ (by simp)).trans (heap_alloc_new w _)
  have HK1 := Lib.hid k1
  have hz1 : w.heap.size < w1.heap.size := by have := hb1.size; simp at this; omega
  clear hown1 hb1 k1
  go_wp2_with fail
  refine (HE.out _).mono ?_
  rintro e w2 ⟨⟨x, y, rfl⟩, hb2⟩
  have HB2 := Lib.hid hb2
  have hz2 : w1.heap.size < w2.heap.size := by have := hb2.size; simp at this; omega
  have hown2 : OwnG GTok.cells 52 5 w2 (w.heap.size + 1) (.slice A1 (toks.map Tok.g).length c1) (toks.map Tok.g) := by
    have h1 : OwnG GTok.cells 52 5 w1 (w.heap.size + 1 + 1) (.slice A1 (toks.map Tok.g).length c1) (toks.map Tok.g) := by
      have h := HO1.out
      have e : (w.alloc (.cells #[.int .i64 0, .int .i64 0] 26)).heap.size + 1 = w.heap.size + 1 + 1 := by simp
      rw [e] at h
      exact h
    exact ((h1.alloc _).next hb2).base (by omega)
  have hlit := GRow.lit GTok.len5 w2 52 [⟨0, [], 0, x, y⟩] #[.int .i64 0, .string ⟨#[]⟩, .int .u64 0, .int .i64 x, .int .i64 y] rfl (by unfold maxLen; simp)
  obtain ⟨v3, w3, hrun3, hown3, hgr3, _⟩ := OwnG.app elt_tok GTok.len5 cells_one (hown2.alloc (.cells #[.int .i64 0, .string ⟨#[]⟩, .int .u64 0, .int .i64 x, .int .i64 y] 52)) 1 hlit (by simp; omega) (by unfold maxLen; simp; omega) (by simp; omega)
  obtain ⟨A3, c3, rfl, hc3, hm3, hr3⟩ := hown3.row GTok.len5
  have HRUN := Lib.hid hrun3
  have hl3 : (toks.map Tok.g ++ [(⟨0, [], 0, x, y⟩ : GTok)]).length = 2 * vs.length + 4 := by simp; omega
  have hl1 : (toks.map Tok.g).length = 2 * vs.length + 3 := by simp; omega
  have HB3 := Lib.hid (below_of_own (bel_lit (bel_next (bel_lit HB1.out _) hb2) _) hgr3 (fun g hg => by have := (hown2.lt g hg).1; omega))
  have hs3 := hgr3.size
  rw [hl3, hl1] at HRUN
  have hps : PS (w3.alloc (.cells #[.slice A3 (2 * vs.length + 4) c3] 54)) w3.heap.size (toks.map Tok.g ++ [⟨0, [], 0, x, y⟩]) :=
    ⟨A3, c3, by rw [hl3]; exact heap_alloc_new w3 _, hc3, hm3, hr3.below (Nat.le_refl _) ((Below.refl _ w3).alloc (Nat.le_refl _) _)⟩
  have HF := Lib.hid (facts_one w3.heap.size r vs _ _ hps (HT.out x y))
  have hk3 : w3.heap[w.heap.size]? = some (.cells #[.int .i64 0, .int .i64 0] 26 (0, 0)) := by
    rw [hgr3.block _ (by simp; omega) (by intro e; have := (hown2.lt _ e.symm).1; omega), Below.heap_alloc _ _ _ (by omega), hb2.block _ (by simp; omega), Below.heap_alloc _ _ _ hz1]
    exact HK1.out
  have HK3 := Lib.hid hk3
  simp only [List.length_singleton] at HRUN
  clear hown2 hlit hrun3 hown3 hgr3 hr3 hps hb2 hk3 hl3 hl1 hc3 hm3
  go_wp2_with (at_builtin; refine wpList_gapp HRUN.out rfl rfl rfl rfl rfl ?_)
  refine HF.out.mono ?_
  rintro e w4 ⟨v4, A4, n4, c4, rfl, ho4, hv4, hg4⟩
  obtain ⟨g4, cap4, rfl, _, _, _, _, hr4⟩ := ho4.nonnil SFact.len
  obtain ⟨A5, c5, e5, _, _, hr5⟩ := hv4.row GVal.len
  cases e5
  have h1 := (HT.out 0 0).args.one
  have hA : A4 ≠ none := by
    intro e
    subst e
    obtain ⟨b, off, e, _⟩ := hr5 (by simp; omega)
    cases e
  have HU := Lib.hid (setOf_one ⟨r, A4, (vs.map gnum).length, c4⟩ (vs.map gnum) ⟨g4, 0, none⟩ cap4 w4 hr4 rfl hA hr5 (by simp; omega))
  have hs4 := hg4.size
  have hsa : (w3.alloc (.cells #[.slice A3 (2 * vs.length + 4) c3] 54)).heap.size = w3.heap.size + 1 := by simp
  have hw3 : w.heap.size < w3.heap.size := by simp at hs3; omega
  have HB4 := Lib.hid (bel_gb (bel_lit HB3.out _) (by omega) hg4)
  have HK4 : Hid (w4.heap[w.heap.size]? = some (.cells #[.int .i64 0, .int .i64 0] 26 (0, 0))) := Lib.hid (by
    rw [hg4.block _ (by omega) (by simp; omega), Below.heap_alloc _ _ _ hw3]
    exact HK3.out)
  rw [hsa] at hs4
  clear ho4 hv4 hr4 hr5 hg4 hA h1 hsa hs3
  simp only [List.length_nil, Nat.zero_add]
  go_wp2_with fail
  refine HU.out.mono ?_
  rintro e w5 ⟨v5, A6, n6, c6, rfl, ho6, hv6, hb6⟩
  have hs6 := hb6.size
  have k5 : w5.heap[w.heap.size]? = some (.cells #[.int .i64 0, .int .i64 0] 26 (0, 0)) := (hb6.block _ (by omega)).trans HK4.out
  have z0 := Lib.frozen_of_heap k5 0
  have z1 := Lib.frozen_of_heap k5 1
  have q0 : w5.cell? ⟨w.heap.size, 0, none⟩ = some (.int .i64 0) := by rw [Lib.cell_of_heap k5]; rfl
  have q1 : w5.cell? ⟨w.heap.size, 1, none⟩ = some (.int .i64 0) := by rw [Lib.cell_of_heap k5]; rfl
  obtain ⟨g7, cap7, rfl, hg7, _, _, _, _⟩ := ho6.nonnil SFact.len
  have hn7 : Value.ownBlock (.slice (some ⟨g7, 0, none⟩) ([] : List SFact).length.succ cap7) ≠ some w.heap.size := by simp [Value.ownBlock]; omega
  have hn6 : Value.ownBlock (.slice A6 n6 c6) ≠ some w.heap.size := by intro e; have := (hv6.lt _ e).1; omega
  have HO6 := Lib.hid (((ho6.base (b' := w.heap.size) (by omega)).other ⟨w.heap.size, 0, none⟩ (.int .i64 0) (by simp [Value.ownBlock]; omega)).other ⟨w.heap.size, 1, none⟩ (.int .i64 0) (by simp [Value.ownBlock]; omega))
  have HV6 := Lib.hid (((hv6.base (b' := w.heap.size) (by omega)).other ⟨w.heap.size, 0, none⟩ (.int .i64 0) hn6).other ⟨w.heap.size, 1, none⟩ (.int .i64 0) hn6)
  have HB6 := Lib.hid ((((bel_next HB4.out hb6).setCell (p := ⟨w.heap.size, 0, none⟩) (Nat.le_refl _) (.int .i64 0))).setCell (p := ⟨w.heap.size, 1, none⟩) (Nat.le_refl _) (.int .i64 0))
  clear k5 hn6 hn7 ho6 hv6 hb6
  go_wp2
  exact bodyPost_ret (v := .tuple #[.slice (some ⟨g7, 0, none⟩) 1 cap7, .agg #[.int .i64 0, .int .i64 0], .int .i64 0]) (by simp [results, Tryz.results7, go_sem, q0, q1]) rfl ⟨_, A6, n6, c6, rfl, HO6.out, HV6.out, HB6.out⟩
end Go.Proofs.YtmodjokoggmnaaaGreatDoor


namespace Go.Proofs.YtmodjokoggmnaaaGreatDoor

open Go.RowKit Go.Shelf

set_option maxHeartbeats 1000000 in
theorem rPlain_any (l : List UInt8) (w : World) (hl : l.length ≤ maxLen) : Calls Tryz.prog 72 #[.string ⟨l.toArray⟩] w fun e w' => e = .returned (.bool (l.all isStr)) ∧ w = w' := by
  unfold maxLen at hl
  have hsz : (⟨l.toArray⟩ : ByteArray).size = l.length := ba_size l
  go_enter Tryz.func72, Tryz.ntmps72
  go_wp2
  go_loop [3] (fun i => ∃ k : Nat, k ≤ l.length ∧ i = .int .i64 k ∧ Hid ((l.take k).all isStr = true)) (fun i => l.length - (intOf i).toNat)
  case atStart => exact ⟨0, Nat.zero_le _, rfl, Lib.hid rfl⟩
  case round =>
    obtain ⟨k, hk, rfl, HA⟩ := hrel
    rcases Nat.lt_or_ge k l.length with hlt | hge
    · have hb := byte_bd l[k]
      have hx : (⟨l.toArray⟩ : ByteArray)[k]'(by rw [hsz]; exact hlt) = l[k] := rfl
      have HT := Lib.hid (all_take isStr l k hlt)
      have HC := Lib.hid fun W => rplain_any _ W hb.1 hb.2
      cases hd : strI ((l[k].toNat : Int))
      · have HS := Lib.hid (all_stop isStr l k hlt hd)
        rw [hd] at HC
        clear hd
        go_wp2_with (go_at_call 106; refine (HC.out _).mono ?_; rintro e w' ⟨rfl, rfl⟩)
        go_ret
        exact ⟨ret_bool (by rw [HS.out]), rfl⟩
      · have HS : Hid ((l.take (k + 1)).all isStr = true) := Lib.hid (by rw [HT.out, HA.out]; exact hd)
        rw [hd] at HC
        clear hd
        go_wp2_with (go_at_call 106; refine (HC.out _).mono ?_; rintro e w' ⟨rfl, rfl⟩)
        go_round
        case rel => exact ⟨k + 1, by omega, by go_num, HS⟩
        case measure => simp [intOf]; omega
    · have HS : Hid (l.all isStr = true) := Lib.hid (by have := HA.out; rwa [List.take_of_length_le hge] at this)
      go_wp2
      go_ret
      exact ⟨ret_bool (by rw [HS.out]), rfl⟩

theorem mark_self (l : List UInt8) (hne : l ≠ []) : (markOf l == l) = punct l := by
  rw [Bool.eq_iff_iff, beq_iff_eq]
  constructor
  · intro h
    unfold markOf at h
    split at h
    · rename_i h2; rw [← h]; exact h2.2
    · split at h
      · rename_i h2; rw [← h]; exact h2
      · exact absurd h.symm hne
  · intro h
    have hm := punct_mem l h
    have hlen : l.length = 1 ∨ l.length = 2 := by
      have : ∀ x ∈ marks2 ++ marks1.map (fun c => [c]), x.length = 1 ∨ x.length = 2 := by decide
      exact this l hm
    unfold markOf
    rcases hlen with h1 | h1
    · rw [if_neg (by omega), List.take_of_length_le (by omega), if_pos h]
    · rw [List.take_of_length_le (by omega), if_pos ⟨by omega, h⟩]

def TextEnd (t : GTok) (w : World) (e : Ending) (w' : World) : Prop := ∃ x : List UInt8, e = .returned (.tuple #[.string ⟨x.toArray⟩, .bool (wf t)]) ∧ (wf t = true → x = txt t) ∧ Below w.heap.size w w'
theorem quot_eq (l : List UInt8) : (⟨#[34]⟩ ++ ⟨l.toArray⟩ ++ ⟨#[34]⟩ : ByteArray) = ⟨(34 :: (l ++ [34])).toArray⟩ := by
  apply ByteArray.ext
  simp [ByteArray.data_append]
end Go.Proofs.YtmodjokoggmnaaaGreatDoor


namespace Go.Proofs.YtmodjokoggmnaaaGreatDoor

open Go.RowKit Go.Shelf

theorem b_size : (Tryz.prog.info? 69).map (·.size) = some 2 := by kernel_rfl
theorem b_lies : liesAt Tryz.prog Tryz.prog.depth 69 (2 / Tryz.prog.cellsOf 69) 0 69 1 = true := by kernel_rfl
theorem b_byte : (Tryz.prog.info? 5).map (fun i => (i.zero, i.size, i.bytes)) = some (some (.int .u8 0), 1, 1) := by kernel_rfl

/-- The block b (one of the call's own, from B on) is a builder that holds the bytes l. -/
def Bld (w : World) (B b : Nat) (l : List UInt8) : Prop := Lib.IsBuilder 69 5 B b (Lib.byteCells l) w
/-- Blocks that are neither the builder nor a row of bytes stay. -/
def Kept (b : Nat) (w w' : World) : Prop := Lib.OthersKept 5 (some b) w w'

set_option maxRecDepth 50000 in
set_option maxHeartbeats 1000000 in
theorem copy_used (b : Nat) (w : World) (h0 : w.cell? ⟨b, 0, none⟩ = some (.pointer (some ⟨b, 0, none⟩))) :
    Calls Tryz.prog 67 #[.pointer (some ⟨b, 0, none⟩)] w fun e w' => e = .returned (.tuple #[]) ∧ w = w' := by
  obtain ⟨j, hj, _⟩ := Option.map_eq_some_iff.1 b_size
  go_enter Tryz.func67, Tryz.ntmps67
  go_wp2
  rw [Lib.run_neq_ptr_same w _ Tryz.underlying66 hj]
  go_wp2
  go_end0
  exact ⟨rfl, rfl⟩
set_option maxRecDepth 50000 in
set_option maxHeartbeats 1000000 in
theorem copy_fresh (b : Nat) (w : World) (h0 : w.cell? ⟨b, 0, none⟩ = some (.pointer none)) (hsh : w.shape? b = some (69, 2)) (hfz : w.frozen? ⟨b, 0, none⟩ = false) :
    Calls Tryz.prog 67 #[.pointer (some ⟨b, 0, none⟩)] w fun e w' => e = .returned (.tuple #[]) ∧ w' = w.setCell ⟨b, 0, none⟩ (.pointer (some ⟨b, 0, none⟩)) := by
  obtain ⟨j, hj, hjs⟩ := Option.map_eq_some_iff.1 b_size
  have r1 := Lib.run_to_unsafe w ⟨b, 0, none⟩ Tryz.underlying66 Tryz.underlying119 hj (by rw [hjs]; decide) hsh (Nat.zero_lt_succ 1)
  have r2 := Lib.run_from_unsafe w ⟨b, 0, none⟩ Tryz.underlying119 Tryz.underlying66 hj hsh b_lies
  have r3 : (callFunc 103 #[.pointer (some ⟨b, 0, none⟩)]).run Tryz.prog w = .ok (.value (.pointer (some ⟨b, 0, none⟩))) w := by
    rw [run_callFunc_extern Tryz.func103 (by kernel_rfl) (by kernel_rfl) (by kernel_rfl) (e := Extern.AbiNoEscape.same) (by kernel_rfl), Lib.run_noEscape]; rfl
  go_enter Tryz.func67, Tryz.ntmps67
  go_wp2
  go_end0
  exact ⟨rfl, rfl⟩
theorem copy_any (B b : Nat) (bs : List Value) (w : World) (h : Lib.IsBuilder 69 5 B b bs w) :
    Calls Tryz.prog 67 #[.pointer (some ⟨b, 0, none⟩)] w fun e w' => e = .returned (.tuple #[]) ∧ Lib.BuilderAt 69 5 B b (.pointer (some ⟨b, 0, none⟩)) bs w' ∧ Below B w w' ∧ Kept b w w' := by
  rcases h with h | h
  · refine (copy_fresh b w h.cell0 h.shape h.frozen0).mono ?_
    rintro e w' ⟨rfl, rfl⟩
    exact ⟨rfl, h.used _, (Below.refl B w).setCell (p := ⟨b, 0, none⟩) h.1 _, (Lib.OthersKept.refl _ _ w).setCell ⟨b, 0, none⟩ rfl _⟩
  · refine (copy_used b w h.cell0).mono ?_
    rintro e w' ⟨rfl, rfl⟩
    exact ⟨rfl, h, Below.refl B _, Lib.OthersKept.refl _ _ _⟩
theorem row_kind {w : World} {B : Nat} {e : TypeId} {v : Value} {n : Nat} {xs : List Value} (h : w.ownsRow B e 1 v n xs) : ∀ g, v.ownBlock = some g → ∃ c fz, w.heap[g]? = some (.cells c e fz) := by
  intro g hg
  rcases h.2 with ⟨hv, _⟩ | ⟨g', cap, cur, hv, _, hh, _⟩
  · rw [hv] at hg; simp [Value.ownBlock] at hg
  · rw [hv] at hg
    simp [Value.ownBlock] at hg
    subst hg
    exact ⟨_, _, hh⟩
set_option maxRecDepth 50000 in
set_option maxHeartbeats 1000000 in
theorem bld_str (B b : Nat) (l s : List UInt8) (w : World) (h : Bld w B b l) (hlen : l.length + s.length ≤ 140737488355328) (hBw : B ≤ w.heap.size) :
    Calls Tryz.prog 35 #[.pointer (some ⟨b, 0, none⟩), .string ⟨s.toArray⟩] w fun e w' => e = .returned (.tuple #[.int .i64 s.length, .nilIface]) ∧ Bld w' B b (l ++ s) ∧ Below B w w' ∧ Kept b w w' := by
  obtain ⟨i0, hi, hz0, hz1, hz2⟩ := info_parts b_byte
  have hbl : (Lib.byteCells l).length = l.length := Lib.byteCells_length l
  have hsz : (⟨s.toArray⟩ : ByteArray).size = s.length := ba_size s
  have HC := Lib.hid (copy_any B b _ w h)
  clear h
  go_enter Tryz.func35, Tryz.ntmps35
  go_wp2_with fail
  refine HC.out.mono ?_
  rintro e w1 ⟨rfl, ⟨hB, v, hbk, hown, hne⟩, hb1, hk1⟩
  have c1 : w1.cell? ⟨b, 1, none⟩ = some v := by rw [Lib.cell_of_heap hbk]; rfl
  have HB1 := Lib.hid hb1
  have HK1 := Lib.hid hk1
  have HBK := Lib.hid hbk
  have HOWN := Lib.hid hown
  have HNE := Lib.hid hne
  have hs1 := hb1.size
  clear hb1 hk1 hbk hown hne HC
  go_wp2_with (at_builtin; refine Lib.wpList_append_own_string _ rfl _ _ 67 9 rfl B 5 i0 Tryz.underlying67 Tryz.underlying9 hi hz0 hz1 hz2 _ _ _ rfl HOWN.out ⟨s.toArray⟩ rfl ?c3 ?c4 ?c5 ?_)
  case c3 => unfold maxLen; omega
  case c4 => omega
  case c5 => omega
  intro v' w2 hown' hgrow _
  have hlt : b < w1.heap.size := by
    rcases Nat.lt_or_ge b w1.heap.size with h' | h'
    · exact h'
    · have := HBK.out; simp [Array.getElem?_eq_none h'] at this
  have hb2 : w2.heap[b]? = some (.cells #[.pointer (some ⟨b, 0, none⟩), v] 69 (0, 0)) := by
    rw [hgrow.block b hlt (fun e => HNE.out e.symm)]
    exact HBK.out
  have d1 : w2.cell? ⟨b, 1, none⟩ = some v := by rw [Lib.cell_of_heap hb2]; rfl
  have f1 : w2.frozen? ⟨b, 1, none⟩ = false := Lib.frozen_of_heap hb2 1
  have HQ := Lib.hid hown'
  have HG := Lib.hid hgrow
  have HB2 := Lib.hid hb2
  obtain ⟨ao, n', cap, rfl⟩ : ∃ ao n' cap, v' = .slice ao n' cap := by
    rcases hown'.2 with ⟨hv, _⟩ | ⟨g, cap, cur, hv, _⟩
    · exact ⟨_, _, _, hv⟩
    · exact ⟨_, _, _, hv⟩
  clear hown' hgrow hb2
  go_wp2
  go_ret2
  refine ⟨rfl, .inr ?_, ?_, ?_⟩
  · refine Lib.BuilderAt.put (T := 69) (e := 5) hB HB2.out (bs' := Lib.byteCells (l ++ s)) ?_ (by decide)
    have := HQ.out
    rw [Lib.strCells_eq] at this
    simpa [Lib.byteCells, hsz] using this
  · exact (HB1.out.grown HG.out (by omega) (fun k hk => (HOWN.out.lt k hk).1)).setCell (p := ⟨b, 1, none⟩) hB _
  · exact (HK1.out.grown HG.out (row_kind HOWN.out)).setCell ⟨b, 1, none⟩ rfl _
set_option maxRecDepth 50000 in
set_option maxHeartbeats 1000000 in
theorem bld_byte (B b : Nat) (l : List UInt8) (c : UInt8) (w : World) (h : Bld w B b l) (hlen : l.length + 1 ≤ 140737488355328) (hBw : B ≤ w.heap.size) :
    Calls Tryz.prog 132 #[.pointer (some ⟨b, 0, none⟩), .int .u8 c.toNat] w fun e w' => e = .returned .nilIface ∧ Bld w' B b (l ++ [c]) ∧ Below B w w' ∧ Kept b w w' := by
  obtain ⟨i0, hi, hz0, hz1, hz2⟩ := info_parts b_byte
  have hbl : (Lib.byteCells l).length = l.length := Lib.byteCells_length l
  have HC := Lib.hid (copy_any B b _ w h)
  clear h
  go_enter Tryz.func132, Tryz.ntmps132
  go_wp2_with fail
  refine HC.out.mono ?_
  rintro e w1 ⟨rfl, ⟨hB, v, hbk, hown, hne⟩, hb1, hk1⟩
  have c1 : w1.cell? ⟨b, 1, none⟩ = some v := by rw [Lib.cell_of_heap hbk]; rfl
  have HB1 := Lib.hid hb1
  have HK1 := Lib.hid hk1
  have HBK := Lib.hid hbk
  have HOWN := Lib.hid hown
  have HNE := Lib.hid hne
  have hs1 := hb1.size
  have hlt : b < w1.heap.size := by
    rcases Nat.lt_or_ge b w1.heap.size with h' | h'
    · exact h'
    · simp [Array.getElem?_eq_none h'] at hbk
  clear hb1 hk1 hbk hown hne HC
  go_wp2_with (at_builtin; refine wpList_append_own _ rfl _ _ 67 rfl B 5 i0 (.int .u8 0) 1 1 Tryz.underlying67 hi hz0 hz1 hz2 rfl (by decide) _ _ _ rfl (HOWN.out.alloc _) ⟨w1.heap.size, 0, none⟩ 1 1 [.int .u8 c.toNat] rfl rfl ?c1 ?c2 ?c3 ?c4 ?c5 ?_)
  case c1 =>
    intro j u hj
    match j, hj with
    | 0, hj => simp at hj; subst hj; simp [Addr.add]
  case c2 => intro u hu; simp at hu; subst hu; rfl
  case c3 => unfold maxLen; omega
  case c4 => omega
  case c5 => simp; omega
  intro v' w2 hown' hgrow _
  have hb2 : w2.heap[b]? = some (.cells #[.pointer (some ⟨b, 0, none⟩), v] 69 (0, 0)) := by
    rw [hgrow.block b (by simp; omega) (fun e => HNE.out e.symm), Lib.alloc_old w1 _ b hlt]
    exact HBK.out
  have d1 : w2.cell? ⟨b, 1, none⟩ = some v := by rw [Lib.cell_of_heap hb2]; rfl
  have f1 : w2.frozen? ⟨b, 1, none⟩ = false := Lib.frozen_of_heap hb2 1
  have HQ := Lib.hid hown'
  have HG := Lib.hid hgrow
  have HB2 := Lib.hid hb2
  obtain ⟨ao, n', cap, rfl⟩ : ∃ ao n' cap, v' = .slice ao n' cap := by
    rcases hown'.2 with ⟨hv, _⟩ | ⟨g, cap, cur, hv, _⟩
    · exact ⟨_, _, _, hv⟩
    · exact ⟨_, _, _, hv⟩
  clear hown' hgrow hb2
  go_wp2
  go_ret
  refine ⟨rfl, .inr ?_, ?_, ?_⟩
  · refine Lib.BuilderAt.put (T := 69) (e := 5) hB HB2.out (bs' := Lib.byteCells (l ++ [c])) ?_ (by decide)
    have := HQ.out
    simpa [Lib.byteCells] using this
  · exact ((HB1.out.alloc (by omega) _).grown HG.out (by simp; omega) (fun k hk => (HOWN.out.lt k hk).1)).setCell (p := ⟨b, 1, none⟩) hB _
  · exact ((HK1.out.alloc _).grown HG.out (row_kind (HOWN.out.alloc _))).setCell ⟨b, 1, none⟩ rfl _
theorem bld_string (B b : Nat) (l : List UInt8) (w : World) (h : Bld w B b l) (hBw : B ≤ w.heap.size) :
    Calls Tryz.prog 37 #[.pointer (some ⟨b, 0, none⟩)] w fun e w' => e = .returned (.string ⟨l.toArray⟩) ∧ Below B w w' := Tryz.Builder_String_any B b l w h hBw
theorem bld_new (w : World) : Bld (w.alloc (.cells #[.pointer none, .slice none 0 0] 69)) w.heap.size w.heap.size [] :=
  .inl ⟨Nat.le_refl _, .slice none 0 0, heap_alloc_new w _, World.ownsRow_nil _ _ _ _, by simp [Value.ownBlock]⟩
theorem Bld.alloc {w : World} {B b : Nat} {l : List UInt8} (h : Bld w B b l) (o : Obj) : Bld (w.alloc o) B b l := by
  rcases h with ⟨hB, v, hb, ho, hn⟩ | ⟨hB, v, hb, ho, hn⟩
  · exact .inl ⟨hB, v, (Lib.alloc_old w _ b (by rcases Nat.lt_or_ge b w.heap.size with h' | h'; exact h'; simp [Array.getElem?_eq_none h'] at hb)).trans hb, ho.alloc o, hn⟩
  · exact .inr ⟨hB, v, (Lib.alloc_old w _ b (by rcases Nat.lt_or_ge b w.heap.size with h' | h'; exact h'; simp [Array.getElem?_eq_none h'] at hb)).trans hb, ho.alloc o, hn⟩
end Go.Proofs.YtmodjokoggmnaaaGreatDoor
