/-
  The contracts of strings.Builder's writing methods at this program (whose copy check is cut at its panic): a builder in a block of the call's own.
  Conditions: what it holds takes at most 2^47 bytes.
  The contract of hwlex.Format: the tokens' text, or the empty string if one of them is not well formed.
  Conditions: at most 65536 tokens, each of at most 65536 bytes, each value one of a uint64; the table of powers of ten lies as the program's text writes it.
  Well-formed values, and the text of a value: facts.quoted, nameSized, wellFormedValue, valueText.
  Conditions: the table of powers of ten lies as the program's text writes it; a word has at most 65536 bytes.
-/
import Derived.Test.YtmodjokoggmnaaaGreatDoorMa3
import Derived.Test.YtmodjokoggmnaaaGreatDoorMa5
import Derived.Lib.OthersKept
import Derived.Lib.AppendStr
import Derived.Laws.Externs
import Derived.Test.YtmodjokoggmnaaaGreatDoorMa14
import Derived.Test.YtmodjokoggmnaaaGreatDoorMa6
import Derived.Test.YtmodjokoggmnaaaGreatDoorMa9
namespace Go.Proofs.YtmodjokoggmnaaaGreatDoor

open Go.RowKit Go.Shelf

theorem b_size : (Tryz.prog.info? 69).map (·.size) = some 2 := by kernel_rfl
theorem b_lies : liesAt Tryz.prog Tryz.prog.depth 69 (2 / Tryz.prog.cellsOf 69) 0 69 1 = true := by kernel_rfl
theorem b_byte : (Tryz.prog.info? 5).map (fun i => (i.zero, i.size, i.bytes)) = some (some (.int .u8 0), 1, 1) := by kernel_rfl

/-- The block b (one of the call's own, from B on) is a builder that holds the bytes l. -/
def Bld (w : World) (B b : Nat) (l : List UInt8) : Prop := Lib.IsBuilder 69 5 B b (Lib.byteCells l) w
/-- Blocks that are neither the builder nor a row of bytes stay. -/
def Kept (b : Nat) (w w' : World) : Prop := Lib.OthersKept 5 (some b) w w'

set_option maxRecDepth 50000 in
set_option maxHeartbeats 1000000 in
theorem copy_used (b : Nat) (w : World) (h0 : w.cell? ⟨b, 0, none⟩ = some (.pointer (some ⟨b, 0, none⟩))) :
    Calls Tryz.prog 67 #[.pointer (some ⟨b, 0, none⟩)] w fun e w' => e = .returned (.tuple #[]) ∧ w = w' := by
  obtain ⟨j, hj, _⟩ := Option.map_eq_some_iff.1 b_size
  go_enter Tryz.func67, Tryz.ntmps67
  go_wp2
  rw [Lib.run_neq_ptr_same w _ Tryz.underlying66 hj]
  go_wp2
  go_end0
  exact ⟨rfl, rfl⟩
set_option maxRecDepth 50000 in
set_option maxHeartbeats 1000000 in
theorem copy_fresh (b : Nat) (w : World) (h0 : w.cell? ⟨b, 0, none⟩ = some (.pointer none)) (hsh : w.shape? b = some (69, 2)) (hfz : w.frozen? ⟨b, 0, none⟩ = false) :
    Calls Tryz.prog 67 #[.pointer (some ⟨b, 0, none⟩)] w fun e w' => e = .returned (.tuple #[]) ∧ w' = w.setCell ⟨b, 0, none⟩ (.pointer (some ⟨b, 0, none⟩)) := by
  obtain ⟨j, hj, hjs⟩ := Option.map_eq_some_iff.1 b_size
  have r1 := Lib.run_to_unsafe w ⟨b, 0, none⟩ Tryz.underlying66 Tryz.underlying119 hj (by rw [hjs]; decide) hsh (Nat.zero_lt_succ 1)
  have r2 := Lib.run_from_unsafe w ⟨b, 0, none⟩ Tryz.underlying119 Tryz.underlying66 hj hsh b_lies
  have r3 : (callFunc 103 #[.pointer (some ⟨b, 0, none⟩)]).run Tryz.prog w = .ok (.value (.pointer (some ⟨b, 0, none⟩))) w := by
    rw [run_callFunc_extern Tryz.func103 (by kernel_rfl) (by kernel_rfl) (by kernel_rfl) (e := Extern.AbiNoEscape.same) (by kernel_rfl), Lib.run_noEscape]; rfl
  go_enter Tryz.func67, Tryz.ntmps67
  go_wp2
  go_end0
  exact ⟨rfl, rfl⟩
theorem copy_any (B b : Nat) (bs : List Value) (w : World) (h : Lib.IsBuilder 69 5 B b bs w) :
    Calls Tryz.prog 67 #[.pointer (some ⟨b, 0, none⟩)] w fun e w' => e = .returned (.tuple #[]) ∧ Lib.BuilderAt 69 5 B b (.pointer (some ⟨b, 0, none⟩)) bs w' ∧ Below B w w' ∧ Kept b w w' := by
  rcases h with h | h
  · refine (copy_fresh b w h.cell0 h.shape h.frozen0).mono ?_
    rintro e w' ⟨rfl, rfl⟩
    exact ⟨rfl, h.used _, (Below.refl B w).setCell (p := ⟨b, 0, none⟩) h.1 _, (Lib.OthersKept.refl _ _ w).setCell ⟨b, 0, none⟩ rfl _⟩
  · refine (copy_used b w h.cell0).mono ?_
    rintro e w' ⟨rfl, rfl⟩
    exact ⟨rfl, h, Below.refl B _, Lib.OthersKept.refl _ _ _⟩
theorem row_kind {w : World} {B : Nat} {e : TypeId} {v : Value} {n : Nat} {xs : List Value} (h : w.ownsRow B e 1 v n xs) : ∀ g, v.ownBlock = some g → ∃ c fz, w.heap[g]? = some (.cells c e fz) := by
  intro g hg
  rcases h.2 with ⟨hv, _⟩ | ⟨g', cap, cur, hv, _, hh, _⟩
  · rw [hv] at hg; simp [Value.ownBlock] at hg
  · rw [hv] at hg
    simp [Value.ownBlock] at hg
    subst hg
    exact ⟨_, _, hh⟩
set_option maxRecDepth 50000 in
set_option maxHeartbeats 1000000 in
theorem bld_str (B b : Nat) (l s : List UInt8) (w : World) (h : Bld w B b l) (hlen : l.length + s.length ≤ 140737488355328) (hBw : B ≤ w.heap.size) :
    Calls Tryz.prog 35 #[.pointer (some ⟨b, 0, none⟩), .string ⟨s.toArray⟩] w fun e w' => e = .returned (.tuple #[.int .i64 s.length, .nilIface]) ∧ Bld w' B b (l ++ s) ∧ Below B w w' ∧ Kept b w w' := by
  obtain ⟨i0, hi, hz0, hz1, hz2⟩ := info_parts b_byte
  have hbl : (Lib.byteCells l).length = l.length := Lib.byteCells_length l
  have hsz : (⟨s.toArray⟩ : ByteArray).size = s.length := ba_size s
  have HC := Lib.hid (copy_any B b _ w h)
  clear h
  go_enter Tryz.func35, Tryz.ntmps35
  go_wp2_with fail
  refine HC.out.mono ?_
  rintro e w1 ⟨rfl, ⟨hB, v, hbk, hown, hne⟩, hb1, hk1⟩
  have c1 : w1.cell? ⟨b, 1, none⟩ = some v := by rw [Lib.cell_of_heap hbk]; rfl
  have HB1 := Lib.hid hb1
  have HK1 := Lib.hid hk1
  have HBK := Lib.hid hbk
  have HOWN := Lib.hid hown
  have HNE := Lib.hid hne
  have hs1 := hb1.size
  clear hb1 hk1 hbk hown hne HC
  go_wp2_with (at_builtin; refine Lib.wpList_append_own_string _ rfl _ _ 67 9 rfl B 5 i0 Tryz.underlying67 Tryz.underlying9 hi hz0 hz1 hz2 _ _ _ rfl HOWN.out ⟨s.toArray⟩ rfl ?c3 ?c4 ?c5 ?_)
  case c3 => unfold maxLen; omega
  case c4 => omega
  case c5 => omega
  intro v' w2 hown' hgrow _
  have hlt : b < w1.heap.size := by
    rcases Nat.lt_or_ge b w1.heap.size with h' | h'
    · exact h'
    · have := HBK.out; simp [Array.getElem?_eq_none h'] at this
  have hb2 : w2.heap[b]? = some (.cells #[.pointer (some ⟨b, 0, none⟩), v] 69 (0, 0)) := by
    rw [hgrow.block b hlt (fun e => HNE.out e.symm)]
    exact HBK.out
  have d1 : w2.cell? ⟨b, 1, none⟩ = some v := by rw [Lib.cell_of_heap hb2]; rfl
  have f1 : w2.frozen? ⟨b, 1, none⟩ = false := Lib.frozen_of_heap hb2 1
  have HQ := Lib.hid hown'
  have HG := Lib.hid hgrow
  have HB2 := Lib.hid hb2
  obtain ⟨ao, n', cap, rfl⟩ : ∃ ao n' cap, v' = .slice ao n' cap := by
    rcases hown'.2 with ⟨hv, _⟩ | ⟨g, cap, cur, hv, _⟩
    · exact ⟨_, _, _, hv⟩
    · exact ⟨_, _, _, hv⟩
  clear hown' hgrow hb2
  go_wp2
  go_ret2
  refine ⟨rfl, .inr ?_, ?_, ?_⟩
  · refine Lib.BuilderAt.put (T := 69) (e := 5) hB HB2.out (bs' := Lib.byteCells (l ++ s)) ?_ (by decide)
    have := HQ.out
    rw [Lib.strCells_eq] at this
    simpa [Lib.byteCells, hsz] using this
  · exact (HB1.out.grown HG.out (by omega) (fun k hk => (HOWN.out.lt k hk).1)).setCell (p := ⟨b, 1, none⟩) hB _
  · exact (HK1.out.grown HG.out (row_kind HOWN.out)).setCell ⟨b, 1, none⟩ rfl _
set_option maxRecDepth 50000 in
set_option maxHeartbeats 1000000 in
theorem bld_byte (B b : Nat) (l : List UInt8) (c : UInt8) (w : World) (h : Bld w B b l) (hlen : l.length + 1 ≤ 140737488355328) (hBw : B ≤ w.heap.size) :
    Calls Tryz.prog 132 #[.pointer (some ⟨b, 0, none⟩), .int .u8 c.toNat] w fun e w' => e = .returned .nilIface ∧ Bld w' B b (l ++ [c]) ∧ Below B w w' ∧ Kept b w w' := by
  obtain ⟨i0, hi, hz0, hz1, hz2⟩ := info_parts b_byte
  have hbl : (Lib.byteCells l).length = l.length := Lib.byteCells_length l
  have HC := Lib.hid (copy_any B b _ w h)
  clear h
  go_enter Tryz.func132, Tryz.ntmps132
  go_wp2_with fail
  refine HC.out.mono ?_
  rintro e w1 ⟨rfl, ⟨hB, v, hbk, hown, hne⟩, hb1, hk1⟩
  have c1 : w1.cell? ⟨b, 1, none⟩ = some v := by rw [Lib.cell_of_heap hbk]; rfl
  have HB1 := Lib.hid hb1
  have HK1 := Lib.hid hk1
  have HBK := Lib.hid hbk
  have HOWN := Lib.hid hown
  have HNE := Lib.hid hne
  have hs1 := hb1.size
  have hlt : b < w1.heap.size := by
    rcases Nat.lt_or_ge b w1.heap.size with h' | h'
    · exact h'
    · simp [Array.getElem?_eq_none h'] at hbk
  clear hb1 hk1 hbk hown hne HC
  go_wp2_with (at_builtin; refine wpList_append_own _ rfl _ _ 67 rfl B 5 i0 (.int .u8 0) 1 1 Tryz.underlying67 hi hz0 hz1 hz2 rfl (by decide) _ _ _ rfl (HOWN.out.alloc _) ⟨w1.heap.size, 0, none⟩ 1 1 [.int .u8 c.toNat] rfl rfl ?c1 ?c2 ?c3 ?c4 ?c5 ?_)
  case c1 =>
    intro j u hj
    match j, hj with
    | 0, hj => simp at hj; subst hj; simp [Addr.add]
  case c2 => intro u hu; simp at hu; subst hu; rfl
  case c3 => unfold maxLen; omega
  case c4 => omega
  case c5 => simp; omega
  intro v' w2 hown' hgrow _
  have hb2 : w2.heap[b]? = some (.cells #[.pointer (some ⟨b, 0, none⟩), v] 69 (0, 0)) := by
    rw [hgrow.block b (by simp; omega) (fun e => HNE.out e.symm), Lib.alloc_old w1 _ b hlt]
    exact HBK.out
  have d1 : w2.cell? ⟨b, 1, none⟩ = some v := by rw [Lib.cell_of_heap hb2]; rfl
  have f1 : w2.frozen? ⟨b, 1, none⟩ = false := Lib.frozen_of_heap hb2 1
  have HQ := Lib.hid hown'
  have HG := Lib.hid hgrow
  have HB2 := Lib.hid hb2
  obtain ⟨ao, n', cap, rfl⟩ : ∃ ao n' cap, v' = .slice ao n' cap := by
    rcases hown'.2 with ⟨hv, _⟩ | ⟨g, cap, cur, hv, _⟩
    · exact ⟨_, _, _, hv⟩
    · exact ⟨_, _, _, hv⟩
  clear hown' hgrow hb2
  go_wp2
  go_ret
  refine ⟨rfl, .inr ?_, ?_, ?_⟩
  · refine Lib.BuilderAt.put (T := 69) (e := 5) hB HB2.out (bs' := Lib.byteCells (l ++ [c])) ?_ (by decide)
    have := HQ.out
    simpa [Lib.byteCells] using this
  · exact ((HB1.out.alloc (by omega) _).grown HG.out (by simp; omega) (fun k hk => (HOWN.out.lt k hk).1)).setCell (p := ⟨b, 1, none⟩) hB _
  · exact ((HK1.out.alloc _).grown HG.out (row_kind (HOWN.out.alloc _))).setCell ⟨b, 1, none⟩ rfl _
theorem bld_string (B b : Nat) (l : List UInt8) (w : World) (h : Bld w B b l) (hBw : B ≤ w.heap.size) :
    Calls Tryz.prog 37 #[.pointer (some ⟨b, 0, none⟩)] w fun e w' => e = .returned (.string ⟨l.toArray⟩) ∧ Below B w w' := Tryz.Builder_String_any B b l w h hBw
theorem bld_new (w : World) : Bld (w.alloc (.cells #[.pointer none, .slice none 0 0] 69)) w.heap.size w.heap.size [] :=
  .inl ⟨Nat.le_refl _, .slice none 0 0, heap_alloc_new w _, World.ownsRow_nil _ _ _ _, by simp [Value.ownBlock]⟩
theorem Bld.alloc {w : World} {B b : Nat} {l : List UInt8} (h : Bld w B b l) (o : Obj) : Bld (w.alloc o) B b l := by
  rcases h with ⟨hB, v, hb, ho, hn⟩ | ⟨hB, v, hb, ho, hn⟩
  · exact .inl ⟨hB, v, (Lib.alloc_old w _ b (by rcases Nat.lt_or_ge b w.heap.size with h' | h'; exact h'; simp [Array.getElem?_eq_none h'] at hb)).trans hb, ho.alloc o, hn⟩
  · exact .inr ⟨hB, v, (Lib.alloc_old w _ b (by rcases Nat.lt_or_ge b w.heap.size with h' | h'; exact h'; simp [Array.getElem?_eq_none h'] at hb)).trans hb, ho.alloc o, hn⟩
end Go.Proofs.YtmodjokoggmnaaaGreatDoor


namespace Go.Proofs.YtmodjokoggmnaaaGreatDoor

open Go.RowKit Go.Shelf

/-- Tokens that are few and short. -/
def Few (ts : List GTok) : Prop := ts.length ≤ 65536 ∧ ∀ t ∈ ts, t.text.length ≤ 65536 ∧ 0 ≤ t.value ∧ t.value < 18446744073709551616
theorem txt_len (t : GTok) (h : t.text.length ≤ 65536) (h0 : 0 ≤ t.value) (h1 : t.value < 18446744073709551616) : (txt t).length ≤ 65538 := by
  unfold txt
  split
  · have := (isDec t.value.toNat (by omega)).len; omega
  · split
    · simp; omega
    · omega
theorem tail_len : ∀ (ts : List GTok), (∀ t ∈ ts, t.text.length ≤ 65536 ∧ 0 ≤ t.value ∧ t.value < 18446744073709551616) → (tailT ts).length ≤ ts.length * 65539 := by
  intro ts
  induction ts with
  | nil => intro _; simp [tailT]
  | cons t r ih =>
    intro h
    obtain ⟨h1, h2, h3⟩ := h t List.mem_cons_self
    have := ih fun x hx => h x (List.mem_cons_of_mem _ hx)
    have := txt_len t h1 h2 h3
    have e : tailT (t :: r) = 32 :: (txt t ++ tailT r) := by simp [tailT]
    rw [e]; simp; omega
theorem join_len (ts : List GTok) (h : ∀ t ∈ ts, t.text.length ≤ 65536 ∧ 0 ≤ t.value ∧ t.value < 18446744073709551616) : (joinT ts).length ≤ ts.length * 65539 := by
  cases ts with
  | nil => simp [joinT]
  | cons t r =>
    obtain ⟨h1, h2, h3⟩ := h t List.mem_cons_self
    have := tail_len r fun x hx => h x (List.mem_cons_of_mem _ hx)
    have := txt_len t h1 h2 h3
    show (txt t ++ tailT r).length ≤ _
    simp; omega
theorem Bld.next {w w' : World} {B b : Nat} {l : List UInt8} (h : Bld w B b l) (hb : Below w.heap.size w w') : Bld w' B b l := by
  have key : ∀ p, Lib.BuilderAt 69 5 B b p (Lib.byteCells l) w → Lib.BuilderAt 69 5 B b p (Lib.byteCells l) w' := by
    rintro p ⟨hB, v, hbk, hown, hne⟩
    have hlt : ∀ g o, w.heap[g]? = some o → g < w.heap.size := fun g o hg => by
      rcases Nat.lt_or_ge g w.heap.size with h' | h'
      · exact h'
      · simp [Array.getElem?_eq_none h'] at hg
    refine ⟨hB, v, (hb.block b (hlt b _ hbk)).trans hbk, ⟨hown.1, ?_⟩, hne⟩
    rcases hown.2 with hh | ⟨g, cap, cur, hv, hbs, hh, rest⟩
    · exact .inl hh
    · exact .inr ⟨g, cap, cur, hv, hbs, (hb.block g (hlt g _ hh)).trans hh, rest⟩
  rcases h with h | h
  · exact .inl (key _ h)
  · exact .inr (key _ h)
theorem all_snoc {ts : List GTok} {k : Nat} (h : k < ts.length) (ha : (ts.take k).all wf = true) (hw : wf ts[k] = true) : (ts.take (k + 1)).all wf = true := by
  rw [List.take_succ_eq_append_getElem h, List.all_append, ha]; simp [hw]
theorem all_fail {ts : List GTok} {k : Nat} (h : k < ts.length) (hw : wf ts[k] = false) : fmtL ts = [] := by
  unfold fmtL
  rw [if_neg]
  intro hh
  rw [List.all_eq_true] at hh
  rw [hh _ (List.getElem_mem h)] at hw
  cases hw
theorem fmt_done {ts : List GTok} {k : Nat} (h : ts.length ≤ k) (ha : (ts.take k).all wf = true) : fmtL ts = joinT (ts.take k) := by
  rw [List.take_of_length_le h] at ha ⊢
  unfold fmtL; rw [if_pos ha]
/-- A token's block. -/
def TokAt (w : World) (N : Nat) (t : GTok) : Prop := w.heap[N]? = some (.cells #[.int .i64 t.kind, .string ⟨t.text.toArray⟩, .int .u64 t.value, .int .i64 t.line, .int .i64 t.col] 52 (0, 0))
theorem TokAt.kept {w w' : World} {N b : Nat} {t : GTok} (h : TokAt w N t) (hk : Kept b w w') (hne : N ≠ b) : TokAt w' N t := hk N _ h (by simp; omega) (by rintro c fz he; cases he)

set_option maxRecDepth 50000 in
set_option maxHeartbeats 2000000 in
theorem format_any (ts : List GTok) (A : Option Addr) (cap : Nat) (w : World) (hA : TRow w w.heap.size A ts) (hF : Few ts) (hP : Pow w) :
    Calls Tryz.prog 105 #[.slice A ts.length cap] w fun e w' => e = .returned (.string ⟨(fmtL ts).toArray⟩) ∧ Below w.heap.size w w' := by
  have HA := Lib.hid hA
  have HP := Lib.hid hP
  have HX := Lib.hid hF.2
  have hn := hF.1
  have HB0 := Lib.hid (bld_new w)
  clear hA hP hF
  go_enter Tryz.func105, Tryz.ntmps105
  go_wp2
  go_loopw [8] (fun vi wr => ∃ k : Nat, vi = .int .i64 k ∧ k ≤ ts.length ∧ Hid (Bld wr w.heap.size w.heap.size (joinT (ts.take k))) ∧ Hid (Below w.heap.size w wr) ∧ Hid ((ts.take k).all wf = true)) (fun vi _ => ts.length - (intOf vi).toNat)
  case atStart => exact ⟨0, rfl, Nat.zero_le _, HB0, Lib.hid ((Below.refl _ _).alloc (Nat.le_refl _) _), Lib.hid rfl⟩
  case round =>
    obtain ⟨k, rfl, hk, HL, HW, HAL⟩ := hrel
    rcases Nat.lt_or_ge k ts.length with hlt | hge
    · obtain ⟨b1, o1, rfl, hb1, x0, x1, x2, x3, x4⟩ := (HA.out.below (Nat.le_refl _) HW.out).cells5 hlt
      have hx := HX.out ts[k] (List.getElem_mem hlt)
      have HJ := Lib.hid (joinT_take hlt)
      have hjl : (joinT (ts.take k)).length ≤ 65536 * 65539 := by
        have h1 := join_len (ts.take k) (fun t ht => HX.out t (List.mem_of_mem_take ht))
        rw [List.length_take] at h1
        have h2 : min k ts.length * 65539 ≤ 65536 * 65539 := Nat.mul_le_mul_right _ (by omega)
        exact Nat.le_trans h1 h2
      have HAS := Lib.hid fun h => all_snoc hlt HAL.out h
      have HAF := Lib.hid fun h => all_fail hlt h
      generalize ts[k] = t at *
      obtain ⟨kd, tx, v, ln, cl⟩ := t
      simp only at x0 x1 x2 x3 x4
      obtain ⟨hx1, hx2, hx3⟩ := hx
      simp only at hx1 hx2 hx3
      have hwz : w.heap.size < wr.heap.size := by
        rcases HL.out with h | h
        · exact h.lt
        · exact h.lt
      have HWF := Lib.hid fun W => wellFormed_any ⟨kd, tx, v, ln, cl⟩ W (by unfold maxLen; exact Nat.le_trans hx1 (by decide))
      unfold GTok.val at HWF
      simp only at HWF
      have HT0 : Hid (TokAt (wr.alloc (.cells #[.int .i64 kd, .string ⟨tx.toArray⟩, .int .u64 v, .int .i64 ln, .int .i64 cl] 52)) wr.heap.size ⟨kd, tx, v, ln, cl⟩) := Lib.hid (heap_alloc_new wr _)
      have hzb : b1 < wr.heap.size := by omega
      have HLW := Lib.hid (HL.out.alloc (.cells #[.int .i64 kd, .string ⟨tx.toArray⟩, .int .u64 v, .int .i64 ln, .int .i64 cl] 52))
      cases hw : wf ⟨kd, tx, v, ln, cl⟩
      · have HFL := Lib.hid (HAF.out hw)
        rw [hw] at HWF
        clear hw
        go_wp2_with fail
        refine (HWF.out _).mono ?_
        rintro e w2 ⟨rfl, hb2⟩
        go_wp2
        go_ret
        exact ⟨by rw [HFL.out]; rfl, bel_alloc HW.out hb2⟩
      · have HALL := Lib.hid (HAS.out hw)
        rw [hw] at HWF
        clear hw
        go_wp2_with fail
        refine (HWF.out _).mono ?_
        rintro e w2 ⟨rfl, hb2⟩
        have HT := Lib.hid (show TokAt w2 wr.heap.size ⟨kd, tx, v, ln, cl⟩ from (hb2.block _ (by simp)).trans HT0.out)
        have HBL := Lib.hid (HLW.out.next hb2)
        have HBW := Lib.hid (bel_alloc HW.out hb2)
        have hs2 : wr.heap.size < w2.heap.size := by have := hb2.size; simp at this; omega
        clear hb2 x0 x1 x2 x3 x4
        by_cases hk0 : k = 0
        · have HJ0 := HJ.out
          rw [if_pos hk0] at HJ0
          have HJL : Hid (joinT (ts.take k) = []) := Lib.hid (by rw [hk0]; rfl)
          rw [HJL.out] at HBL
          have HJ := Lib.hid HJ0
          clear HJ0
          have fk : decide ((0 : Int) < (k : Int)) = false := by simp; omega
          have fk2 : ¬ 0 < k := by omega
          have c0 : w2.cell? ⟨wr.heap.size, 0, none⟩ = some (.int .i64 kd) := by have := HT.out; unfold TokAt at this; simp [World.cell?, this]
          have c1 : w2.cell? ⟨wr.heap.size, 1, none⟩ = some (.string ⟨tx.toArray⟩) := by have := HT.out; unfold TokAt at this; simp [World.cell?, this]
          have c2 : w2.cell? ⟨wr.heap.size, 2, none⟩ = some (.int .u64 v) := by have := HT.out; unfold TokAt at this; simp [World.cell?, this]
          have hzW : w.heap.size ≤ w2.heap.size := HBW.out.size
          by_cases h2 : kd = 2
          · obtain ⟨vn, rfl⟩ : ∃ n : Nat, v = (n : Int) := ⟨v.toNat, by omega⟩
            subst h2
            have HFU := Lib.hid (formatUint_any vn (by omega) _ (HP.out.next HBW.out))
            have HTX : Hid (txt ⟨2, tx, vn, ln, cl⟩ = decL vn) := Lib.hid rfl
            have hdl := (isDec vn (by omega)).len
            go_wp2_with fail
            refine HFU.out.mono ?_
            rintro e w5 ⟨rfl, hb5⟩
            have HB5 := Lib.hid hb5
            have hs5 := hb5.size
            clear hb5
            go_wp2_with fail
            refine (bld_str _ _ _ (decL vn) _ (HBL.out.next HB5.out) (by simp only [List.length_nil]; omega) (by omega)).mono ?_
            rintro e w6 ⟨rfl, hbl6, hb6, hk6⟩
            have HL6 : Hid (Bld w6 w.heap.size w.heap.size (joinT (ts.take (k + 1)))) := Lib.hid (by rw [HJ.out, HTX.out]; exact hbl6)
            have HB6 := Lib.hid ((bel_next HBW.out HB5.out).trans hb6)
            clear hbl6 hb6 hk6 c0 c1 c2
            go_wp2
            go_roundw
            case rel => exact ⟨k + 1, by go_num, by omega, HL6, HB6, HALL⟩
            case measure => simp [intOf]; omega
          have f2 : (kd == 2) = false := by simpa using h2
          by_cases h3 : kd = 3
          · subst h3
            have HTX : Hid (txt ⟨3, tx, v, ln, cl⟩ = 34 :: (tx ++ [34])) := Lib.hid rfl
            have hqe := quot_eq tx
            go_wp2_with fail
            refine (bld_str _ _ _ (34 :: (tx ++ [34])) _ HBL.out (by simp only [List.length_nil]; simp; omega) hzW).mono ?_
            rintro e w6 ⟨rfl, hbl6, hb6, hk6⟩
            have HL6 : Hid (Bld w6 w.heap.size w.heap.size (joinT (ts.take (k + 1)))) := Lib.hid (by rw [HJ.out, HTX.out]; exact hbl6)
            have HB6 := Lib.hid (HBW.out.trans hb6)
            clear hbl6 hb6 hk6 c0 c1 c2 hqe
            go_wp2
            go_roundw
            case rel => exact ⟨k + 1, by go_num, by omega, HL6, HB6, HALL⟩
            case measure => simp [intOf]; omega
          have f3 : (kd == 3) = false := by simpa using h3
          have HTX : Hid (txt ⟨kd, tx, v, ln, cl⟩ = tx) := Lib.hid (by simp [txt, h2, h3])
          go_wp2_with fail
          refine (bld_str _ _ _ tx _ HBL.out (by simp only [List.length_nil]; omega) hzW).mono ?_
          rintro e w6 ⟨rfl, hbl6, hb6, hk6⟩
          have HL6 : Hid (Bld w6 w.heap.size w.heap.size (joinT (ts.take (k + 1)))) := Lib.hid (by rw [HJ.out, HTX.out]; exact hbl6)
          have HB6 := Lib.hid (HBW.out.trans hb6)
          clear hbl6 hb6 hk6 c0 c1 c2
          go_wp2
          go_roundw
          case rel => exact ⟨k + 1, by go_num, by omega, HL6, HB6, HALL⟩
          case measure => simp [intOf]; omega
        · have HJ0 := HJ.out
          rw [if_neg hk0] at HJ0
          have HJ := Lib.hid HJ0
          clear HJ0
          have fk : decide ((0 : Int) < (k : Int)) = true := by simp; omega
          have fk2 : 0 < k := by omega
          go_wp2_with fail
          refine (bld_byte _ _ _ 32 _ HBL.out (by omega) (by omega)).mono ?_
          rintro e w3 ⟨rfl, hbl3, hb3, hk3⟩
          have HT3 := Lib.hid (HT.out.kept hk3 (by omega))
          have HBW3 := Lib.hid (HBW.out.trans hb3)
          have HBL3 := Lib.hid hbl3
          clear HT HBW HBL hbl3 hb3 hk3
          have HT := HT3
          have HBW := HBW3
          have HBL := HBL3
          clear HT3 HBW3 HBL3
          have c0 : w3.cell? ⟨wr.heap.size, 0, none⟩ = some (.int .i64 kd) := by have := HT.out; unfold TokAt at this; simp [World.cell?, this]
          have c1 : w3.cell? ⟨wr.heap.size, 1, none⟩ = some (.string ⟨tx.toArray⟩) := by have := HT.out; unfold TokAt at this; simp [World.cell?, this]
          have c2 : w3.cell? ⟨wr.heap.size, 2, none⟩ = some (.int .u64 v) := by have := HT.out; unfold TokAt at this; simp [World.cell?, this]
          have hzW : w.heap.size ≤ w3.heap.size := HBW.out.size
          by_cases h2 : kd = 2
          · obtain ⟨vn, rfl⟩ : ∃ n : Nat, v = (n : Int) := ⟨v.toNat, by omega⟩
            subst h2
            have HFU := Lib.hid (formatUint_any vn (by omega) _ (HP.out.next HBW.out))
            have HTX : Hid (txt ⟨2, tx, vn, ln, cl⟩ = decL vn) := Lib.hid rfl
            have hdl := (isDec vn (by omega)).len
            go_wp2_with fail
            refine HFU.out.mono ?_
            rintro e w5 ⟨rfl, hb5⟩
            have HB5 := Lib.hid hb5
            have hs5 := hb5.size
            clear hb5
            go_wp2_with fail
            refine (bld_str _ _ _ (decL vn) _ (HBL.out.next HB5.out) (by simp only [List.length_append, List.length_cons, List.length_nil]; omega) (by omega)).mono ?_
            rintro e w6 ⟨rfl, hbl6, hb6, hk6⟩
            have HL6 : Hid (Bld w6 w.heap.size w.heap.size (joinT (ts.take (k + 1)))) := Lib.hid (by rw [HJ.out, HTX.out]; rw [List.append_assoc] at hbl6; exact hbl6)
            have HB6 := Lib.hid ((bel_next HBW.out HB5.out).trans hb6)
            clear hbl6 hb6 hk6 c0 c1 c2
            go_wp2
            go_roundw
            case rel => exact ⟨k + 1, by go_num, by omega, HL6, HB6, HALL⟩
            case measure => simp [intOf]; omega
          have f2 : (kd == 2) = false := by simpa using h2
          by_cases h3 : kd = 3
          · subst h3
            have HTX : Hid (txt ⟨3, tx, v, ln, cl⟩ = 34 :: (tx ++ [34])) := Lib.hid rfl
            have hqe := quot_eq tx
            go_wp2_with fail
            refine (bld_str _ _ _ (34 :: (tx ++ [34])) _ HBL.out (by simp only [List.length_append, List.length_cons, List.length_nil]; simp; omega) hzW).mono ?_
            rintro e w6 ⟨rfl, hbl6, hb6, hk6⟩
            have HL6 : Hid (Bld w6 w.heap.size w.heap.size (joinT (ts.take (k + 1)))) := Lib.hid (by rw [HJ.out, HTX.out]; rw [List.append_assoc] at hbl6; exact hbl6)
            have HB6 := Lib.hid (HBW.out.trans hb6)
            clear hbl6 hb6 hk6 c0 c1 c2 hqe
            go_wp2
            go_roundw
            case rel => exact ⟨k + 1, by go_num, by omega, HL6, HB6, HALL⟩
            case measure => simp [intOf]; omega
          have f3 : (kd == 3) = false := by simpa using h3
          have HTX : Hid (txt ⟨kd, tx, v, ln, cl⟩ = tx) := Lib.hid (by simp [txt, h2, h3])
          go_wp2_with fail
          refine (bld_str _ _ _ tx _ HBL.out (by simp only [List.length_append, List.length_cons, List.length_nil]; omega) hzW).mono ?_
          rintro e w6 ⟨rfl, hbl6, hb6, hk6⟩
          have HL6 : Hid (Bld w6 w.heap.size w.heap.size (joinT (ts.take (k + 1)))) := Lib.hid (by rw [HJ.out, HTX.out]; rw [List.append_assoc] at hbl6; exact hbl6)
          have HB6 := Lib.hid (HBW.out.trans hb6)
          clear hbl6 hb6 hk6 c0 c1 c2
          go_wp2
          go_roundw
          case rel => exact ⟨k + 1, by go_num, by omega, HL6, HB6, HALL⟩
          case measure => simp [intOf]; omega
    · have HFD := Lib.hid (fmt_done hge HAL.out)
      have hzW : w.heap.size ≤ wr.heap.size := HW.out.size
      go_wp2_with fail
      refine (bld_string _ _ _ _ HL.out hzW).mono ?_
      rintro e w2 ⟨rfl, hb2⟩
      have HB2 := Lib.hid (HW.out.trans hb2)
      clear hb2
      go_wp2
      go_ret
      exact ⟨by rw [HFD.out]; rfl, HB2.out⟩
end Go.Proofs.YtmodjokoggmnaaaGreatDoor


namespace Go.Proofs.YtmodjokoggmnaaaGreatDoor

open Go.RowKit Go.Shelf

def strTok (l : List UInt8) : GTok := ⟨3, l, 0, 0, 0⟩
def quoteL (l : List UInt8) : List UInt8 := if l.all isStr then 34 :: (l ++ [34]) else []
theorem quoteL_eq (l : List UInt8) : fmtL [strTok l] = quoteL l := by
  simp [fmtL, quoteL, wf, strTok, joinT, tailT, txt]
set_option maxRecDepth 50000 in
set_option maxHeartbeats 1000000 in
theorem quoted_any (l : List UInt8) (w : World) (hl : l.length ≤ 65536) (hP : Pow w) :
    Calls Tryz.prog 69 #[.string ⟨l.toArray⟩] w fun e w' => e = .returned (.string ⟨(quoteL l).toArray⟩) ∧ Below w.heap.size w w' := by
  have hb := bel_lit (Below.refl w.heap.size w) (.cells #[.int .i64 3, .string ⟨l.toArray⟩, .int .u64 0, .int .i64 0, .int .i64 0] 52)
  have hF := format_any [strTok l] (some ⟨w.heap.size, 0, none⟩) 1 (w.alloc (.cells #[.int .i64 3, .string ⟨l.toArray⟩, .int .u64 0, .int .i64 0, .int .i64 0] 52)) (GRow.lit GTok.len5 w 52 [strTok l] #[.int .i64 3, .string ⟨l.toArray⟩, .int .u64 0, .int .i64 0, .int .i64 0] rfl (by unfold maxLen; simp)) ⟨by simp, fun t ht => by simp at ht; subst ht; exact ⟨hl, by simp [strTok], by simp [strTok]⟩⟩ (hP.next hb)
  rw [quoteL_eq] at hF
  have HF := Lib.hid hF
  have HB := Lib.hid hb
  clear hF hb hP
  go_enter Tryz.func69, Tryz.ntmps69
  go_wp2_with fail
  refine HF.out.mono ?_
  rintro e w1 ⟨rfl, hb1⟩
  go_wp2
  go_ret
  exact ⟨rfl, bel_next HB.out hb1⟩

def sizedB (l : List UInt8) : Bool := decide (1 ≤ l.length) && decide (l.length ≤ 24)
theorem nameSized_any (l : List UInt8) (w : World) (hl : l.length ≤ maxLen) :
    Calls Tryz.prog 89 #[.string ⟨l.toArray⟩] w fun e w' => e = .returned (.bool (sizedB l)) ∧ w = w' := by
  have hsz : (⟨l.toArray⟩ : ByteArray).size = l.length := ba_size l
  unfold maxLen at hl
  have HS : Hid (sizedB l = (decide (1 ≤ l.length) && decide (l.length ≤ 24))) := Lib.hid rfl
  by_cases h1 : 1 ≤ l.length
  · by_cases h2 : l.length ≤ 24
    · go_enter Tryz.func89, Tryz.ntmps89
      go_wp2
      go_ret
      exact ⟨ret_bool (by rw [HS.out]; simp [h1, h2]; omega), rfl⟩
    · go_enter Tryz.func89, Tryz.ntmps89
      go_wp2
      go_ret
      exact ⟨ret_bool (by rw [HS.out]; simp [h1, h2]; omega), rfl⟩
  · go_enter Tryz.func89, Tryz.ntmps89
    go_wp2
    go_ret
    exact ⟨ret_bool (by rw [HS.out]; simp [h1]), rfl⟩

/-- A well-formed value. -/
def gwfV (v : GVal) : Bool := if v.kind = 1 then v.word.isEmpty else if v.kind = 2 then decide (v.int = 0) && sizedB v.word && v.word.all isStr else false
theorem quote_ne (l : List UInt8) : (quoteL l = []) ↔ l.all isStr = false := by
  unfold quoteL
  by_cases h : l.all isStr = true
  · rw [if_pos h, h]; simp
  · rw [if_neg h]; simp at h ⊢; exact h
set_option maxRecDepth 50000 in
set_option maxHeartbeats 1000000 in
theorem wellFormedValue_any (v : GVal) (w : World) (hl : v.word.length ≤ 65536) (hP : Pow w) :
    Calls Tryz.prog 66 #[v.val] w fun e w' => e = .returned (.bool (gwfV v)) ∧ Below w.heap.size w w' := by
  obtain ⟨kd, n, l⟩ := v
  simp only at hl
  unfold GVal.val
  have hsz : (⟨l.toArray⟩ : ByteArray).size = l.length := ba_size l
  have HN := Lib.hid fun W => nameSized_any l W (by unfold maxLen; omega)
  have HQ := Lib.hid fun W (hb : Below w.heap.size w W) => quoted_any l W hl (hP.next hb)
  have HE := Lib.hid (quote_ne l)
  clear hP
  by_cases h1 : kd = 1
  · subst h1
    have HF : Hid (gwfV ⟨1, n, l⟩ = l.isEmpty) := Lib.hid rfl
    cases l with
    | nil =>
      go_enter Tryz.func66, Tryz.ntmps66
      go_wp2
      go_ret
      exact ⟨ret_bool (by rw [HF.out]; rfl), (Below.refl _ _).alloc (Nat.le_refl _) _⟩
    | cons c r =>
      go_enter Tryz.func66, Tryz.ntmps66
      go_wp2
      go_ret
      exact ⟨ret_bool (by rw [HF.out]; rfl), (Below.refl _ _).alloc (Nat.le_refl _) _⟩
  by_cases h2 : kd = 2
  · subst h2
    have HF : Hid (gwfV ⟨2, n, l⟩ = (decide (n = 0) && sizedB l && l.all isStr)) := Lib.hid rfl
    by_cases h0 : n = 0
    · subst h0
      have HB := Lib.hid (bel_lit (Below.refl w.heap.size w) (.cells #[.int .i64 2, .int .i64 0, .string ⟨l.toArray⟩] 40))
      cases hs : sizedB l
      · rw [hs] at HN HF
        go_enter Tryz.func66, Tryz.ntmps66
        go_wp2_with fail
        refine (HN.out _).mono ?_
        rintro e w1 ⟨rfl, rfl⟩
        go_wp2
        go_ret
        exact ⟨ret_bool (by rw [HF.out]; rfl), HB.out⟩
      · rw [hs] at HN HF
        generalize quoteL l = q at *
        cases ha : l.all isStr
        · rw [ha] at HE HF
          obtain rfl : q = [] := HE.out.2 rfl
          go_enter Tryz.func66, Tryz.ntmps66
          go_wp2_with fail
          refine (HN.out _).mono ?_
          rintro e w1 ⟨rfl, rfl⟩
          go_wp2_with fail
          refine (HQ.out _ HB.out).mono ?_
          rintro e w1 ⟨rfl, hb1⟩
          go_wp2
          go_ret
          exact ⟨ret_bool (by rw [HF.out]; rfl), bel_next HB.out hb1⟩
        · rw [ha] at HE HF
          obtain ⟨c, r, rfl⟩ : ∃ c r, q = c :: r := by
            cases q with
            | nil => have := HE.out.1 rfl; cases this
            | cons c r => exact ⟨c, r, rfl⟩
          go_enter Tryz.func66, Tryz.ntmps66
          go_wp2_with fail
          refine (HN.out _).mono ?_
          rintro e w1 ⟨rfl, rfl⟩
          go_wp2_with fail
          refine (HQ.out _ HB.out).mono ?_
          rintro e w1 ⟨rfl, hb1⟩
          go_wp2
          go_ret
          exact ⟨ret_bool (by rw [HF.out]; rfl), bel_next HB.out hb1⟩
    · have f0 : (n == 0) = false := by simpa using h0
      go_enter Tryz.func66, Tryz.ntmps66
      go_wp2
      go_ret
      exact ⟨ret_bool (by rw [HF.out]; simp [h0]), (Below.refl _ _).alloc (Nat.le_refl _) _⟩
  · have HF : Hid (gwfV ⟨kd, n, l⟩ = false) := Lib.hid (by simp [gwfV, h1, h2])
    have f1 : (kd == 1) = false := by simpa using h1
    have f2 : (kd == 2) = false := by simpa using h2
    go_enter Tryz.func66, Tryz.ntmps66
    go_wp2
    go_ret
    exact ⟨ret_bool HF.out.symm, (Below.refl _ _).alloc (Nat.le_refl _) _⟩

/-- The text of a value. -/
def vtextL (v : GVal) : List UInt8 := if v.kind = 1 then Lib.itoa v.int else if nameB v.word then v.word else quoteL v.word
set_option maxRecDepth 50000 in
set_option maxHeartbeats 1000000 in
theorem valueText_any (v : GVal) (w : World) (hl : v.word.length ≤ 65536) (h0 : -9223372036854775808 ≤ v.int) (h1 : v.int ≤ 9223372036854775807) (hP : Pow w) :
    Calls Tryz.prog 36 #[v.val] w fun e w' => e = .returned (.string ⟨(vtextL v).toArray⟩) ∧ Below w.heap.size w w' := by
  obtain ⟨kd, n, l⟩ := v
  simp only at hl h0 h1
  unfold GVal.val
  have HB := Lib.hid (bel_lit (Below.refl w.heap.size w) (.cells #[.int .i64 kd, .int .i64 n, .string ⟨l.toArray⟩] 40))
  have HI := Lib.hid (Tryz.strconv_FormatInt_10 n h0 h1 _ (hP.next HB.out))
  have HQ := Lib.hid (quoted_any l _ hl (hP.next HB.out))
  have HN := Lib.hid fun W => isName_any l W (by unfold maxLen; omega)
  clear hP
  by_cases hk : kd = 1
  · subst hk
    have HF : Hid (vtextL ⟨1, n, l⟩ = Lib.itoa n) := Lib.hid rfl
    go_enter Tryz.func36, Tryz.ntmps36
    go_wp2_with fail
    refine HI.out.mono ?_
    rintro e w1 ⟨rfl, k, os, rfl⟩
    go_wp2
    go_ret
    exact ⟨by rw [HF.out]; rfl, bel_next HB.out (Lib.below_grow _ _ (Nat.le_refl _) k os)⟩
  · have f1 : (kd == 1) = false := by simpa using hk
    cases hn : nameB l
    · rw [hn] at HN
      have HF : Hid (vtextL ⟨kd, n, l⟩ = quoteL l) := Lib.hid (by simp [vtextL, hk, hn])
      generalize quoteL l = q at *
      go_enter Tryz.func36, Tryz.ntmps36
      go_wp2_with fail
      refine (HN.out _).mono ?_
      rintro e w1 ⟨rfl, rfl⟩
      go_wp2_with fail
      refine HQ.out.mono ?_
      rintro e w1 ⟨rfl, hb1⟩
      go_wp2
      go_ret
      exact ⟨by rw [HF.out]; rfl, bel_next HB.out hb1⟩
    · rw [hn] at HN
      have HF : Hid (vtextL ⟨kd, n, l⟩ = l) := Lib.hid (by simp [vtextL, hk, hn])
      go_enter Tryz.func36, Tryz.ntmps36
      go_wp2_with fail
      refine (HN.out _).mono ?_
      rintro e w1 ⟨rfl, rfl⟩
      go_wp2
      go_ret
      exact ⟨by rw [HF.out]; rfl, HB.out⟩
end Go.Proofs.YtmodjokoggmnaaaGreatDoor
