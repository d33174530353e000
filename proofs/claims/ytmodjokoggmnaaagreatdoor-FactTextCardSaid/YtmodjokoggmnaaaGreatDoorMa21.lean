/-
  A strings.Builder whose buffer lies above all that was there in an earlier world: what was there stays, but for the builder's own block.
  Conditions: what it holds takes at most 2^47 bytes.
  The grammar of facts over tokens, as plain functions; the parser's first error, sized names, marks, whatever the tokens.
  Conditions: the tokens end with one of kind 0, and no other has that kind; words and strings have at most 65536 bytes.
  The parser of facts: negative, whatever the tokens.
  Conditions: the tokens end with one of kind 0, and no other has that kind.
-/
import Derived.Test.YtmodjokoggmnaaaGreatDoorMa16
import Derived.Test.YtmodjokoggmnaaaGreatDoorMa20
import Derived.Test.YtmodjokoggmnaaaGreatDoorMa11
import Derived.Test.YtmodjokoggmnaaaGreatDoorMa12
import Derived.Deep.DeepFit
namespace Go.Proofs.YtmodjokoggmnaaaGreatDoor
open Go.RowKit Go.Shelf

/-- The block N is a builder that holds l; all that was there in wb, but N, is there still. -/
def Bld2 (wb w : World) (N : Nat) (l : List UInt8) : Prop :=
  N < wb.heap.size ∧ wb.grownBy w (some N) ∧ ∃ p v, w.heap[N]? = some (.cells #[p, v] 69 (0, 0)) ∧ (p = .pointer none ∨ p = .pointer (some ⟨N, 0, none⟩)) ∧ w.ownsRow wb.heap.size 5 1 v (Lib.byteCells l).length (Lib.byteCells l)
theorem heap_lt {w : World} {N : Nat} {o : Obj} (h : w.heap[N]? = some o) : N < w.heap.size := by
  rcases Nat.lt_or_ge N w.heap.size with h1 | h1
  · exact h1
  · rw [Array.getElem?_eq_none h1] at h; cases h
theorem Bld2.start {w : World} {N : Nat} (h : w.heap[N]? = some (.cells #[.pointer none, .slice none 0 0] 69 (0, 0))) : Bld2 w w N [] :=
  ⟨heap_lt h, gb_refl w, _, _, h, .inl rfl, World.ownsRow_nil _ _ _ _⟩
theorem gb_next {p : Option Nat} {w w1 w2 : World} (h1 : w.grownBy w1 p) (h2 : Below w1.heap.size w1 w2) : w.grownBy w2 p :=
  ⟨h2.os.trans h1.os, h2.tape.trans h1.tape, h2.output.trans h1.output, Nat.le_trans h1.size h2.size, fun k hk hne => (h2.block k (Nat.lt_of_lt_of_le hk h1.size)).trans (h1.block k hk hne)⟩
theorem Bld2.next {wb w w' : World} {N : Nat} {l : List UInt8} (h : Bld2 wb w N l) (hb : Below w.heap.size w w') : Bld2 wb w' N l := by
  obtain ⟨h1, h2, p, v, h3, h4, h5⟩ := h
  refine ⟨h1, gb_next h2 hb, p, v, (hb.block N (heap_lt h3)).trans h3, h4, ?_⟩
  exact (OwnG.next (enc := fun x : Value => [x]) (l := Lib.byteCells l) (show OwnG (fun x : Value => [x]) 5 1 w wb.heap.size v (Lib.byteCells l) by unfold OwnG gcells; rw [List.flatMap_singleton']; exact h5) hb |> fun h => by unfold OwnG gcells at h; rw [List.flatMap_singleton'] at h; exact h)
theorem Bld2.bld {wb w : World} {N : Nat} {l : List UInt8} (h : Bld2 wb w N l) : Bld w N N l := by
  obtain ⟨h1, h2, p, v, h3, h4, h5⟩ := h
  have ho : w.ownsRow N 5 1 v (Lib.byteCells l).length (Lib.byteCells l) := by
    refine ⟨h5.1, ?_⟩
    rcases h5.2 with hh | ⟨g, cap, cur, hv, hg, rest⟩
    · exact .inl hh
    · exact .inr ⟨g, cap, cur, hv, by omega, rest⟩
  have hn : v.ownBlock ≠ some N := Lib.ownBlock_ne h5 h3 (by decide)
  rcases h4 with rfl | rfl
  · exact .inl ⟨Nat.le_refl _, v, h3, ho, hn⟩
  · exact .inr ⟨Nat.le_refl _, v, h3, ho, hn⟩
theorem gb_cellN {w : World} {N j : Nat} {v : Value} : w.grownBy (w.setCell ⟨N, j, none⟩ v) (some N) :=
  ⟨rfl, rfl, rfl, by simp [World.setCell], fun k _ hk => Below.heap_setCell _ _ _ _ (fun e => hk (by simp [e]))⟩
theorem copy_two (wb : World) (N : Nat) (l : List UInt8) (w : World) (h : Bld2 wb w N l) :
    Calls Tryz.prog 67 #[.pointer (some ⟨N, 0, none⟩)] w fun e w' => e = .returned (.tuple #[]) ∧ w'.heap.size = w.heap.size ∧ (∃ v, w'.heap[N]? = some (.cells #[.pointer (some ⟨N, 0, none⟩), v] 69 (0, 0)) ∧ w'.ownsRow wb.heap.size 5 1 v (Lib.byteCells l).length (Lib.byteCells l) ∧ v.ownBlock ≠ some N) ∧ w.grownBy w' (some N) ∧ Kept N w w' := by
  obtain ⟨h1, h2, p, v, h3, h4, h5⟩ := h
  have hn : v.ownBlock ≠ some N := Lib.ownBlock_ne h5 h3 (by decide)
  rcases h4 with rfl | rfl
  · refine (copy_fresh N w (by rw [Lib.cell_of_heap h3]; rfl) (by simp [World.shape?, h3]) (Lib.frozen_of_heap h3 0)).mono ?_
    rintro e w' ⟨rfl, rfl⟩
    refine ⟨rfl, by simp [World.setCell], ⟨v, (two_set0 h3 _), ?_, hn⟩, gb_cellN, (Lib.OthersKept.refl _ _ w).setCell ⟨N, 0, none⟩ rfl _⟩
    exact h5.kept (row := some N) gb_cellN (Or.inr hn)
  · refine (copy_used N w (by rw [Lib.cell_of_heap h3]; rfl)).mono ?_
    rintro e w' ⟨rfl, rfl⟩
    exact ⟨rfl, rfl, ⟨v, h3, h5, hn⟩, gb_refl _, Lib.OthersKept.refl _ _ _⟩
/-- An append to the buffer: all that was there in wb, but N, stays. -/
theorem gb_buf {wb w w' : World} {N : Nat} {row : Option Nat} (h : wb.grownBy w (some N)) (hg : w.grownBy w' row) (hr : ∀ k, row = some k → wb.heap.size ≤ k) : wb.grownBy w' (some N) :=
  ⟨hg.os.trans h.os, hg.tape.trans h.tape, hg.output.trans h.output, Nat.le_trans h.size hg.size, fun k hk hne => (hg.block k (Nat.lt_of_lt_of_le hk h.size) (fun e => by have := hr k e.symm; omega)).trans (h.block k hk hne)⟩
set_option maxRecDepth 50000 in
set_option maxHeartbeats 1000000 in
theorem bld_str2 (wb : World) (N : Nat) (l s : List UInt8) (w : World) (h : Bld2 wb w N l) (hlen : l.length + s.length ≤ 140737488355328) :
    Calls Tryz.prog 35 #[.pointer (some ⟨N, 0, none⟩), .string ⟨s.toArray⟩] w fun e w' => e = .returned (.tuple #[.int .i64 s.length, .nilIface]) ∧ Bld2 wb w' N (l ++ s) ∧ Kept N w w' ∧ Below N w w' := by
  obtain ⟨i0, hi, hz0, hz1, hz2⟩ := info_parts b_byte
  have hbl : (Lib.byteCells l).length = l.length := Lib.byteCells_length l
  have hsz : (⟨s.toArray⟩ : ByteArray).size = s.length := ba_size s
  have HC := Lib.hid (copy_two wb N l w h)
  have hnb := h.1
  have HGB := Lib.hid h.2.1
  have hwz : wb.heap.size ≤ w.heap.size := h.2.1.size
  clear h
  go_enter Tryz.func35, Tryz.ntmps35
  go_wp2_with fail
  refine HC.out.mono ?_
  rintro e w1 ⟨rfl, hw1, ⟨v, hbk, hown, hne⟩, hg1, hk1⟩
  have c1 : w1.cell? ⟨N, 1, none⟩ = some v := by rw [Lib.cell_of_heap hbk]; rfl
  have HG1 := Lib.hid hg1
  have HK1 := Lib.hid hk1
  have HBK := Lib.hid hbk
  have HOWN := Lib.hid hown
  have HNE := Lib.hid hne
  clear hg1 hk1 hbk hown hne HC
  go_wp2_with (at_builtin; refine Lib.wpList_append_own_string _ rfl _ _ 67 9 rfl wb.heap.size 5 i0 Tryz.underlying67 Tryz.underlying9 hi hz0 hz1 hz2 _ _ _ rfl HOWN.out ⟨s.toArray⟩ rfl ?c3 ?c4 ?c5 ?_)
  case c3 => unfold maxLen; omega
  case c4 => omega
  case c5 => omega
  intro v' w2 hown' hgrow _
  have hlt : N < w1.heap.size := by omega
  have hb2 : w2.heap[N]? = some (.cells #[.pointer (some ⟨N, 0, none⟩), v] 69 (0, 0)) := by
    rw [hgrow.block N hlt (fun e => HNE.out e.symm)]
    exact HBK.out
  have d1 : w2.cell? ⟨N, 1, none⟩ = some v := by rw [Lib.cell_of_heap hb2]; rfl
  have f1 : w2.frozen? ⟨N, 1, none⟩ = false := Lib.frozen_of_heap hb2 1
  have HQ := Lib.hid hown'
  have HG := Lib.hid hgrow
  have HB2 := Lib.hid hb2
  obtain ⟨ao, n', cap, rfl⟩ : ∃ ao n' cap, v' = .slice ao n' cap := by
    rcases hown'.2 with ⟨hv, _⟩ | ⟨g, cap, cur, hv, _⟩
    · exact ⟨_, _, _, hv⟩
    · exact ⟨_, _, _, hv⟩
  clear hown' hgrow hb2
  go_wp2
  go_ret2
  have hbuf : ∀ k, v.ownBlock = some k → wb.heap.size ≤ k := fun k hk => (HOWN.out.lt k hk).1
  refine ⟨rfl, ⟨hnb, ?_, _, _, two_set1 HB2.out _, .inr rfl, ?_⟩, ?_, ?_⟩
  · exact gb_trans (gb_buf (gb_trans HGB.out HG1.out) HG.out hbuf) gb_cellN
  · have hq := HQ.out
    rw [Lib.strCells_eq] at hq
    have hq2 : w2.ownsRow wb.heap.size 5 1 (.slice ao n' cap) (Lib.byteCells (l ++ s)).length (Lib.byteCells (l ++ s)) := by simpa [Lib.byteCells, hsz] using hq
    exact hq2.kept (row := some N) gb_cellN (Or.inr (Lib.ownBlock_ne hq2 HB2.out (by decide)))
  · exact (HK1.out.grown HG.out (row_kind HOWN.out)).setCell ⟨N, 1, none⟩ rfl _
  · refine (Below.grown (B := N) (w := w1) ⟨HG1.out.os, HG1.out.tape, HG1.out.output, HG1.out.size, fun k hk => HG1.out.block k (by omega) (by intro e; cases e; omega)⟩ HG.out (by omega) (fun k hk => by have := hbuf k hk; omega)).setCell (p := ⟨N, 1, none⟩) (Nat.le_refl _) _

/-- A set of facts stays where a builder grows. -/
theorem noStrB {w : World} {N j : Nat} {v : Value} {s : ByteArray} (h : w.heap[N]? = some (.cells #[.pointer none, .slice none 0 0] 69 (0, 0))) (hc : w.cell? ⟨N, j, none⟩ = some v) : v ≠ .string s := by
  rw [Lib.cell_of_heap h] at hc
  match j with
  | 0 => simp at hc; rw [← hc]; simp
  | 1 => simp at hc; rw [← hc]; simp
  | j + 2 => simp at hc
theorem FRow.gbN {w w' : World} {N : Nat} {A : Option Addr} {ss : List SFact} {fs : List GFact} (h : FRow w w.heap.size A ss fs) (hb : w.heap[N]? = some (.cells #[.pointer none, .slice none 0 0] 69 (0, 0))) (hg : w.grownBy w' (some N)) : FRow w' w'.heap.size A ss fs := by
  refine ⟨fun hn => ?_, h.len, fun i h1 h2 => ?_⟩
  · refine h.row.gb (fun b off e hbn => ?_) hg hn
    subst hbn
    obtain ⟨b', off', e', _, hc⟩ := h.row hn
    rw [e] at e'
    cases e'
    exact noStrB hb (hc 0 hn 0 _ rfl) rfl
  · have hh := h.each i h1 h2
    refine ⟨hh.rel, hh.n, fun hn => ?_, hh.few⟩
    refine hh.row.gb (fun b off e hbn => ?_) hg hn
    subst hbn
    obtain ⟨b', off', e', _, hc⟩ := hh.row hn
    rw [e] at e'
    cases e'
    exact noStrB hb (hc 0 hn 2 _ rfl) rfl
end Go.Proofs.YtmodjokoggmnaaaGreatDoor


namespace Go.Proofs.YtmodjokoggmnaaaGreatDoor
open Go.RowKit Go.Shelf

/-- A token that a text has: a word, number, string or mark. -/
structure TokW (t : GTok) : Prop where
  kind : t.kind = 1 ∨ t.kind = 2 ∨ t.kind = 3 ∨ t.kind = 4
  low : 0 ≤ t.value
  high : t.value ≤ 18446744073709551615
  text : t.text.length ≤ 65536
/-- Tokens, and one of kind 0 behind the last. -/
def TEnds : List GTok → Prop
  | [] => False
  | [t] => t.kind = 0 ∧ t.text = []
  | t :: u :: ts => TokW t ∧ TEnds (u :: ts)
theorem TEnds.zero {t : GTok} {ts : List GTok} (h : TEnds (t :: ts)) (hk : t.kind = 0) : ts = [] := by
  cases ts with
  | nil => rfl
  | cons u r => rcases h.1.kind with e | e | e | e <;> omega
theorem TEnds.more {t : GTok} {ts : List GTok} (h : TEnds (t :: ts)) (hk : t.kind ≠ 0) : TokW t ∧ ∃ u r, ts = u :: r ∧ TEnds (u :: r) := by
  cases ts with
  | nil => exact absurd h.1 hk
  | cons u r => exact ⟨h.1, u, r, rfl, h.2⟩
theorem TEnds.kinds {t : GTok} {ts : List GTok} (h : TEnds (t :: ts)) : t.kind = 0 ∨ t.kind = 1 ∨ t.kind = 2 ∨ t.kind = 3 ∨ t.kind = 4 := by
  cases ts with
  | nil => exact .inl h.1
  | cons u r => exact .inr h.1.kind
theorem TEnds.text {t : GTok} {ts : List GTok} (h : TEnds (t :: ts)) : t.text.length ≤ 65536 := by
  cases ts with
  | nil => rw [h.2]; simp
  | cons u r => exact h.1.text
def sizedP (l : List UInt8) : Bool := decide (1 ≤ l.length) && decide (l.length ≤ 24)
def errArg (t : GTok) : Int :=
  if t.kind = 2 ∧ 9223372036854775807 < t.value then 6
  else if (t.kind = 1 ∨ t.kind = 3) ∧ sizedP t.text = false then 63
  else if (t.kind = 4 ∧ t.text ≠ [45]) ∨ t.kind = 0 then 50 else 0
def z0V : GVal := ⟨0, 0, []⟩
def pNeg : List GTok → Int × GVal × List GTok
  | [] => (50, z0V, [])
  | t :: ts => if t.kind ≠ 2 then (50, z0V, t :: ts) else if 9223372036854775808 < t.value then (6, z0V, t :: ts) else (0, ⟨1, -t.value, []⟩, ts)
def pArg (room : Bool) : List GTok → Int × GVal × List GTok
  | [] => (50, z0V, [])
  | t :: ts => if errArg t ≠ 0 then (errArg t, z0V, t :: ts) else if room = false then (15, z0V, t :: ts)
      else if t.kind = 4 then pNeg ts else if t.kind = 2 then (0, ⟨1, t.value, []⟩, ts) else (0, ⟨2, 0, t.text⟩, ts)
def pRel (room : Bool) : List GTok → Int × List UInt8 × List GTok
  | [] => (50, [], [])
  | t :: ts => if t.kind ≠ 1 then (50, [], t :: ts) else if sizedP t.text = false then (63, [], t :: ts) else if room = false then (15, [], t :: ts) else (0, t.text, ts)
def tMark (s : List UInt8) (t : GTok) : Bool := decide (t.kind = 4) && decide (t.text = s)
def pArgs : Nat → List GVal → List GTok → Int × List GVal × List GTok
  | 0, _, ts => (50, [], ts)
  | n + 1, args, ts =>
    match pArg (decide (args.length < 8)) ts with
    | (e, v, ts1) => if e ≠ 0 then (e, [], ts1) else
      match ts1 with
      | [] => (50, args ++ [v], [])
      | t :: ts2 => if tMark [44] t then pArgs n (args ++ [v]) ts2 else if tMark [41] t = false then (50, args ++ [v], t :: ts2) else
        match ts2 with
        | [] => (50, args ++ [v], [])
        | u :: ts3 => if tMark [46] u then (0, args ++ [v], ts3) else (50, args ++ [v], u :: ts3)
def pArguments (n : Nat) : List GTok → Int × List GVal × List GTok
  | [] => (50, [], [])
  | t :: ts => if tMark [40] t then pArgs n [] ts else (50, [], t :: ts)
def pFacts : Nat → List GFact → List GTok → Int × List GFact × List GTok
  | 0, _, ts => (50, [], ts)
  | n + 1, l, ts =>
    match ts with
    | [] => (0, l, [])
    | t :: r => if t.kind = 0 then (0, l, t :: r) else
      match pRel (decide (l.length < 8192)) (t :: r) with
      | (e, q, ts1) => if e ≠ 0 then (e, [], ts1) else
        match pArguments ts1.length ts1 with
        | (e2, vs, ts2) => if e2 ≠ 0 then (e2, [], ts2) else pFacts n (l ++ [⟨q, vs⟩]) ts2
theorem sizedP_any (l : List UInt8) (w : World) (h : l.length ≤ 65536) :
    Calls Tryz.prog 89 #[.string ⟨l.toArray⟩] w fun e w' => e = .returned (.bool (sizedP l)) ∧ w = w' := by
  have hsz : (⟨l.toArray⟩ : ByteArray).size = l.length := ba_size l
  have HD : Hid (sizedP l = (decide (1 ≤ l.length) && decide (l.length ≤ 24))) := Lib.hid rfl
  by_cases h1 : 1 ≤ l.length
  · have f1 : decide ((1 : Int) ≤ (l.length : Int)) = true := by simp; omega
    have g1 : (1 : Int) ≤ (l.length : Int) := by omega
    have H1 := Lib.hid h1
    clear h1
    by_cases h2 : l.length ≤ 24
    · have f2 : decide ((l.length : Int) ≤ 24) = true := by simp; omega
      have g2 : (l.length : Int) ≤ 24 := by omega
      have H2 := Lib.hid h2
      clear h2
      go_enter Tryz.func89, Tryz.ntmps89
      go_wp2
      go_ret
      exact ⟨ret_bool (by rw [HD.out, decide_eq_true H1.out, decide_eq_true H2.out]; rfl), rfl⟩
    · have f2 : decide ((l.length : Int) ≤ 24) = false := by simp; omega
      have g2 : ¬ (l.length : Int) ≤ 24 := by omega
      have H2 := Lib.hid h2
      clear h2
      go_enter Tryz.func89, Tryz.ntmps89
      go_wp2
      go_ret
      exact ⟨ret_bool (by rw [HD.out, decide_eq_true H1.out, decide_eq_false H2.out]; rfl), rfl⟩
  · have h0 : l = [] := List.eq_nil_of_length_eq_zero (by omega)
    subst h0
    go_enter Tryz.func89, Tryz.ntmps89
    go_wp2
    go_ret
    exact ⟨rfl, rfl⟩
set_option maxRecDepth 50000 in
set_option maxHeartbeats 1000000 in
theorem firstError_any (t : GTok) (w : World) (hk : t.kind = 0 ∨ t.kind = 1 ∨ t.kind = 2 ∨ t.kind = 3 ∨ t.kind = 4) (hl : t.text.length ≤ 65536) :
    Calls Tryz.prog 117 #[t.val] w fun e w' => e = .returned (.int .i64 (errArg t)) ∧ Below w.heap.size w w' := by
  obtain ⟨tk, tt, tv, tl, tc⟩ := t
  have HD : Hid (errArg ⟨tk, tt, tv, tl, tc⟩ = if tk = 2 ∧ 9223372036854775807 < tv then 6 else if (tk = 1 ∨ tk = 3) ∧ sizedP tt = false then 63 else if (tk = 4 ∧ tt ≠ [45]) ∨ tk = 0 then 50 else 0) := Lib.hid rfl
  have HN := Lib.hid fun W => sizedP_any tt W hl
  have HB := Lib.hid (bel_lit (Below.refl w.heap.size w) (.cells #[.int .i64 tk, .string ⟨tt.toArray⟩, .int .u64 tv, .int .i64 tl, .int .i64 tc] 52))
  simp only [GTok.val] at *
  generalize errArg ⟨tk, tt, tv, tl, tc⟩ = er at *
  rcases hk with rfl | rfl | rfl | rfl | rfl
  · go_enter Tryz.func117, Tryz.ntmps117
    go_wp2
    go_ret
    exact ⟨ret_int (by rw [HD.out]; simp), HB.out⟩
  · generalize hs : sizedP tt = q at *
    have HS := Lib.hid hs
    clear hs
    cases q
    all_goals
      go_enter Tryz.func117, Tryz.ntmps117
      go_wp2_with fail
      go_fit (HN.out _)
      rintro e w1 ⟨rfl, rfl⟩
      go_wp2
      go_ret
      exact ⟨ret_int (by rw [HD.out]; simp), HB.out⟩
  · by_cases hv : 9223372036854775807 < tv
    · have f1 : decide (9223372036854775807 < tv) = true := by simp [hv]
      go_enter Tryz.func117, Tryz.ntmps117
      go_wp2
      go_ret
      exact ⟨ret_int (by rw [HD.out]; simp [hv]), HB.out⟩
    · have f1 : decide (9223372036854775807 < tv) = false := by simp [hv]
      go_enter Tryz.func117, Tryz.ntmps117
      go_wp2
      go_ret
      exact ⟨ret_int (by rw [HD.out]; simp [hv]), HB.out⟩
  · generalize hs : sizedP tt = q at *
    have HS := Lib.hid hs
    clear hs
    cases q
    all_goals
      go_enter Tryz.func117, Tryz.ntmps117
      go_wp2_with fail
      go_fit (HN.out _)
      rintro e w1 ⟨rfl, rfl⟩
      go_wp2
      go_ret
      exact ⟨ret_int (by rw [HD.out]; simp), HB.out⟩
  · by_cases hm : tt = [45]
    · subst hm
      go_enter Tryz.func117, Tryz.ntmps117
      go_wp2
      go_ret
      exact ⟨ret_int (by rw [HD.out]; simp), HB.out⟩
    · have f1 : (tt == [45]) = false := by simp [hm]
      have f2 : (tt != [45]) = true := by simp [hm]
      have HM := Lib.hid hm
      clear hm
      go_enter Tryz.func117, Tryz.ntmps117
      go_wp2
      go_ret
      exact ⟨ret_int (by rw [HD.out]; simp [HM.out]), HB.out⟩
set_option maxRecDepth 50000 in
set_option maxHeartbeats 1000000 in
/-- marks(s) where the next token is no such mark. -/
theorem mark_no (p : Nat) (ss : List (List UInt8)) (s : List UInt8) (N : Nat) (n : Nat) (t : GTok) (ts : List GTok) (w : World) (h : PS w p (t :: ts)) (hs : w.cell? ⟨N, 0, none⟩ = some (.string ⟨s.toArray⟩)) (hn : n = ss.length + 1) (hn2 : n ≤ 2) (hk : tMark s t = false) (he : TEnds (t :: ts)) :
    Calls Tryz.prog 91 #[.pointer (some ⟨p, 0, none⟩), .slice (some ⟨N, 0, none⟩) n n] w fun e w' => e = .returned (.int .i64 50) ∧ PS w' p (t :: ts) ∧ w.grownBy w' (some p) := by
  have HPS := Lib.hid h
  obtain ⟨b, off, cp, hbp, hpw, hc1, hc2, hh, hcp, hfz, hr, x0, x1, x2, x3, x4⟩ := h.open
  have hkk := he.kinds
  obtain ⟨tk, tt, tv, tl, tc⟩ := t
  simp only at hkk x0 x1 x2 x3 x4
  have hbw : b < w.heap.size := by omega
  have hm : tk ≠ 4 ∨ tt ≠ s := by
    unfold tMark at hk
    simp at hk
    by_cases h4 : tk = 4
    · exact .inr (hk h4)
    · exact .inl h4
  clear h hh hr hk he
  rcases (by omega : n = 1 ∨ n = 2) with rfl | rfl
  all_goals
    clear hn hn2
    rcases hm with hm | hm
    · have f1 : (tk != 4) = true := by simp [hm]
      go_enter Tryz.func91, Tryz.ntmps91
      go_wp2
      go_loopw [10] (fun vi wr => vi = .int .i64 0 ∧ wr = w) (fun _ _ => 0)
      case atStart => exact ⟨rfl, rfl⟩
      case round =>
        rename_i wr
        obtain ⟨rfl, rfl⟩ := hrel
        go_wp2
        go_ret
        exact ⟨rfl, HPS.out.lit _, gb_lit (gb_refl _) _⟩
    · have f1 : (tt == s) = false := by simp [hm]
      have f2 : (tt != s) = true := by simp [hm]
      rcases hkk with rfl | rfl | rfl | rfl | rfl
      all_goals
        go_enter Tryz.func91, Tryz.ntmps91
        go_wp2
        go_loopw [10] (fun vi wr => vi = .int .i64 0 ∧ wr = w) (fun _ _ => 0)
        case atStart => exact ⟨rfl, rfl⟩
        case round =>
          rename_i wr
          obtain ⟨rfl, rfl⟩ := hrel
          go_wp2
          go_ret
          exact ⟨rfl, HPS.out.lit _, gb_lit (gb_refl _) _⟩
end Go.Proofs.YtmodjokoggmnaaaGreatDoor


namespace Go.Proofs.YtmodjokoggmnaaaGreatDoor
open Go.RowKit Go.Shelf

theorem neg_wrap {v : Int} (h0 : 0 ≤ v) (h1 : v ≤ 9223372036854775808) : wrap64 (IntKind.u64.wrap (-v)) = -v := by
  by_cases hv : v = 0
  · subst hv; decide +kernel
  · have e : IntKind.u64.wrap (-v) = 18446744073709551616 - v := by
      show (-v) % 18446744073709551616 = _
      omega
    rw [e]
    unfold wrap64
    omega
theorem fnumw_any (v : Int) (w : World) :
    Calls Tryz.prog 119 #[.int .u64 v] w fun e w' => e = .returned (GVal.val ⟨1, wrap64 v, []⟩) ∧ Below w.heap.size w w' := by
  go_enter Tryz.func119, Tryz.ntmps119
  go_wp2
  exact bodyPost_ret (v := GVal.val ⟨1, wrap64 v, []⟩) (by simp [results, Tryz.results119, go_sem, GVal.val]) rfl ⟨rfl, bel_lit (Below.refl _ _) _⟩
theorem fword_any (l : List UInt8) (w : World) :
    Calls Tryz.prog 120 #[.string ⟨l.toArray⟩] w fun e w' => e = .returned (GVal.val ⟨2, 0, l⟩) ∧ Below w.heap.size w w' := by
  go_enter Tryz.func120, Tryz.ntmps120
  go_wp2
  exact bodyPost_ret (v := GVal.val ⟨2, 0, l⟩) (by simp [results, Tryz.results120, go_sem, GVal.val]) rfl ⟨rfl, bel_lit (Below.refl _ _) _⟩
/-- The block N is a result of the type Value that nothing has been stored into. -/
def ResV (W : World) (N : Nat) : Prop := W.heap[N]? = some (.cells #[.int .i64 0, .int .i64 0, .string ⟨#[]⟩] 40 (0, 0))
theorem ResV.new (w : World) : ResV (w.alloc (.cells #[.int .i64 0, .int .i64 0, .string ⟨#[]⟩] 40)) w.heap.size := heap_alloc_new w _
theorem ResV.lt {W : World} {N : Nat} (h : ResV W N) : N < W.heap.size := by
  unfold ResV at h
  rcases Nat.lt_or_ge N W.heap.size with h1 | h1
  · exact h1
  · rw [Array.getElem?_eq_none h1] at h; cases h
theorem ResV.next {W W' : World} {N : Nat} (h : ResV W N) (hb : Below W.heap.size W W') : ResV W' N := (hb.block N h.lt).trans h
theorem ResV.gb {W W' : World} {N p : Nat} (h : ResV W N) (hb : W.grownBy W' (some p)) (hp : N ≠ p) : ResV W' N := (hb.block N h.lt (by intro e; cases e; exact hp rfl)).trans h
theorem ResV.lit {W : World} {N : Nat} (h : ResV W N) (o : Obj) : ResV (W.alloc o) N := h.next ((Below.refl _ _).alloc (Nat.le_refl _) o)
theorem ResV.facts {W : World} {N : Nat} (h : ResV W N) : W.cell? ⟨N, 0, none⟩ = some (.int .i64 0) ∧ W.cell? ⟨N, 1, none⟩ = some (.int .i64 0) ∧ W.cell? ⟨N, 2, none⟩ = some (.string ⟨#[]⟩) ∧ W.frozen? ⟨N, 0, none⟩ = false ∧ W.frozen? ⟨N, 1, none⟩ = false ∧ W.frozen? ⟨N, 2, none⟩ = false := by
  unfold ResV at h
  exact ⟨by rw [Lib.cell_of_heap h]; rfl, by rw [Lib.cell_of_heap h]; rfl, by rw [Lib.cell_of_heap h]; rfl, Lib.frozen_of_heap h 0, Lib.frozen_of_heap h 1, Lib.frozen_of_heap h 2⟩
/-- How a method of the parser ends that yields a value. -/
def ValEnd (r : Int × GVal × List GTok) (p : Nat) (w : World) (e : Ending) (w' : World) : Prop :=
  e = .returned (.tuple #[r.2.1.val, .int .i64 r.1]) ∧ PS w' p r.2.2 ∧ w.grownBy w' (some p)
theorem PS.res {w : World} {p N : Nat} {ts : List GTok} (h : PS w p ts) (hN : p < N) (a b c : Value) : PS (((w.setCell ⟨N, 0, none⟩ a).setCell ⟨N, 1, none⟩ b).setCell ⟨N, 2, none⟩ c) p ts := ((h.other _ _ hN).other _ _ hN).other _ _ hN
theorem gb_res {q : Option Nat} {w w1 : World} (h : w.grownBy w1 q) (N : Nat) (hN : w.heap.size ≤ N) (a b c : Value) : w.grownBy (((w1.setCell ⟨N, 0, none⟩ a).setCell ⟨N, 1, none⟩ b).setCell ⟨N, 2, none⟩ c) q := gb_new (gb_new (gb_new h _ _ hN) _ _ hN) _ _ hN
set_option maxRecDepth 50000 in
set_option maxHeartbeats 1000000 in
theorem negative_any (p : Nat) (t : GTok) (ts : List GTok) (w : World) (h : PS w p (t :: ts)) (he : TEnds (t :: ts)) :
    Calls Tryz.prog 118 #[.pointer (some ⟨p, 0, none⟩)] w (ValEnd (pNeg (t :: ts)) p w) := by
  have HPS := Lib.hid h
  obtain ⟨b, off, cp, hbp, hpw, hc1, hc2, hh, hcp, hfz, hr, x0, x1, x2, x3, x4⟩ := h.open
  have hkk := he.kinds
  have HEN := Lib.hid he
  have HRV := Lib.hid (ResV.new w)
  have hbw : b < w.heap.size := by omega
  have HD : Hid (pNeg (t :: ts) = if t.kind ≠ 2 then (50, z0V, t :: ts) else if 9223372036854775808 < t.value then (6, z0V, t :: ts) else (0, ⟨1, -t.value, []⟩, ts)) := Lib.hid rfl
  clear h hh hr he
  by_cases h2 : t.kind = 2
  case neg =>
    rw [if_pos h2] at HD
    rw [HD.out]
    clear HD HEN
    obtain ⟨tk, tt, tv, tl, tc⟩ := t
    simp only at h2 hkk x0 x1 x2 x3 x4
    have f1 : (tk != 2) = true := by simp [h2]
    clear hkk
    go_enter Tryz.func118, Tryz.ntmps118
    go_wp2
    refine bodyPost_ret (v := .tuple #[z0V.val, .int .i64 50]) (by simp [results, Tryz.results118, go_sem, GVal.val, z0V]) rfl ⟨rfl, ?_, ?_⟩
    · exact (HPS.out.lit _).lit _
    · exact gb_lit (gb_lit (gb_refl _) _) _
  case pos =>
    rw [if_neg (by simp [h2])] at HD
    by_cases hv : 9223372036854775808 < t.value
    · rw [if_pos hv] at HD
      rw [HD.out]
      clear HD HEN
      obtain ⟨tk, tt, tv, tl, tc⟩ := t
      simp only at h2 hkk x0 x1 x2 x3 x4 hv
      subst h2
      have f1 : decide (9223372036854775808 < tv) = true := by simp [hv]
      clear hkk
      go_enter Tryz.func118, Tryz.ntmps118
      go_wp2
      refine bodyPost_ret (v := .tuple #[z0V.val, .int .i64 6]) (by simp [results, Tryz.results118, go_sem, GVal.val, z0V]) rfl ⟨rfl, ?_, ?_⟩
      · exact (HPS.out.lit _).lit _
      · exact gb_lit (gb_lit (gb_refl _) _) _
    · rw [if_neg hv] at HD
      rw [HD.out]
      obtain ⟨hw, u, r, rfl, _⟩ := HEN.out.more (by omega)
      have hlo := hw.low
      have HT := Lib.hid fun W => take_any p t u r W
      clear HD HEN hw
      obtain ⟨tk, tt, tv, tl, tc⟩ := t
      simp only [GTok.val] at *
      subst h2
      have f1 : decide (9223372036854775808 < tv) = false := by simp [hv]
      have HN := Lib.hid fun W => fnumw_any (IntKind.u64.wrap (-tv)) W
      rw [neg_wrap hlo (by omega)] at HN
      simp only [GVal.val] at HN
      have hfl : ∀ W : World, (Instr.field 52 (.agg #[.int .i64 2, .string ⟨tt.toArray⟩, .int .u64 tv, .int .i64 tl, .int .i64 tc]) 2).run Tryz.prog W = .ok (.int .u64 tv) W := fun W => by kernel_rfl
      clear hkk hlo
      go_enter Tryz.func118, Tryz.ntmps118
      go_wp2_with fail
      go_fit (HT.out _ ((HPS.out.lit _).lit _))
      rintro e w2 ⟨rfl, hps2, hg2⟩
      have HP2 := Lib.hid hps2
      have HG2 := Lib.hid (gb_trans (gb_lit (gb_lit (gb_refl _) _) _) hg2)
      have HR2 := Lib.hid ((HRV.out.lit _).gb hg2 (by omega))
      have hs2 := hg2.size
      clear hps2 hg2
      go_wp2_with fail
      go_fit (HN.out _)
      rintro e w3 ⟨rfl, hb3⟩
      have HP3 := Lib.hid (HP2.out.next hb3)
      have HG3 := Lib.hid (gb_trans HG2.out (gb_bel hb3))
      obtain ⟨q0, q1, q2, z0, z1, z2⟩ := (HR2.out.next hb3).facts
      have hs3 : w.heap.size < w3.heap.size := by have := hb3.size; simp at hs2; omega
      clear hb3 HT HN hs2
      go_wp2
      refine bodyPost_ret (v := .tuple #[GVal.val ⟨1, -tv, []⟩, .int .i64 0]) (by simp [results, Tryz.results118, go_sem, GVal.val, q0, q1, q2]) rfl ⟨rfl, ?_, ?_⟩
      · exact HP3.out.res hpw _ _ _
      · exact gb_res HG3.out _ (Nat.le_refl _) _ _ _
end Go.Proofs.YtmodjokoggmnaaaGreatDoor
