/-
  The reference's Contains, Remove and Select.
  Conditions: at most 990 facts; kinds are ints of the language.
  The reference's Parse of facts: the walk.
  Conditions: the text has at most 65536 bytes.
  facts.Parse, whatever the text.
  Conditions: strconv.ErrRange lies as the program's start lays it.
-/
import Derived.Test.YtmodjokoggmnaaaGreatDoorMa36
import Derived.Test.YtmodjokoggmnaaaGreatDoorMa31
import Derived.Deep.DeepCutAuto
import Derived.Test.YtmodjokoggmnaaaGreatDoorMa24
import Derived.Test.YtmodjokoggmnaaaGreatDoorMa20
import Derived.Test.YtmodjokoggmnaaaGreatDoorMa34
import Derived.RegionTactic
namespace Go.Proofs.YtmodjokoggmnaaaGreatDoor

open Go.RowKit Go.Shelf

section

variable {w0 : World}

theorem anyE_snoc {es : List (Elem w0)} {f : GFact} {k : Nat} (h : k < es.length) (ha : (FactsE (es.take k)).any (isF f) = false) (hc : cmpF es[k].fact f ≠ 0) : (FactsE (es.take (k + 1))).any (isF f) = false := by
  rw [any_isF_false] at ha ⊢
  intro hm
  rcases (factsE_take h f).1 hm with h1 | h1
  · exact ha h1
  · exact hc ((ord_fact.z _ _).2 h1.symm)
theorem anyE_hit {es : List (Elem w0)} {f : GFact} {k : Nat} (h : k < es.length) (hc : cmpF es[k].fact f = 0) : (FactsE es).any (isF f) = true := by
  rw [any_isF]
  have e : f = es[k].fact := ((ord_fact.z _ _).1 hc).symm
  rw [e]
  exact List.mem_map.2 ⟨es[k], List.getElem_mem h, rfl⟩
theorem sub_strict {xs' es : List (Elem w0)} (h : xs'.Sublist es) (hs : StrictF (FactsE es)) : StrictF (FactsE xs') := List.Pairwise.sublist (h.map _) hs
def RRemEnd (es : List (Elem w0)) (f : GFact) (w : World) (e : Ending) (w' : World) : Prop :=
  ∃ A, ∃ c : Nat, ∃ es' : List (Elem w0), e = .returned (.tuple #[.slice A es'.length c, .bool ((FactsE es).any (isF f))]) ∧ RowE w' A c es' ∧ StrictF (FactsE es') ∧ (∀ g, g ∈ FactsE es' ↔ g ∈ FactsE es ∧ g ≠ f) ∧ es'.length ≤ es.length ∧ Below w.heap.size w w'
theorem any_congr {a b : List GFact} (h : ∀ g, g ∈ a ↔ g ∈ b) (f : GFact) : a.any (isF f) = b.any (isF f) := by
  cases hq : b.any (isF f)
  · rw [any_isF_false] at hq ⊢; rw [h]; exact hq
  · rw [any_isF] at hq ⊢; rw [h]; exact hq
def RSelEnd (es : List (Elem w0)) (r : List UInt8) (n : Int) (w : World) (e : Ending) (w' : World) : Prop :=
  ∃ A, ∃ c : Nat, ∃ es' : List (Elem w0), e = .returned (.slice A es'.length c) ∧ RowE w' A c es' ∧ StrictF (FactsE es') ∧ (∀ g, g ∈ FactsE es' ↔ g ∈ FactsE es ∧ selB r n g = true) ∧ es'.length ≤ es.length ∧ Below w.heap.size w w'
end

end Go.Proofs.YtmodjokoggmnaaaGreatDoor


namespace Go.Proofs.YtmodjokoggmnaaaGreatDoor
open Go.RowKit Go.Shelf

/-- A fact under construction: its relation, and the slice of its arguments. -/
def FacV (W : World) (N : Nat) (nm : List UInt8) (va : Value) : Prop := W.heap[N]? = some (.cells #[.string ⟨nm.toArray⟩, va] 37 (0, 0))
theorem FacV.lt {W : World} {N : Nat} {nm : List UInt8} {va : Value} (h : FacV W N nm va) : N < W.heap.size := by
  unfold FacV at h
  rcases Nat.lt_or_ge N W.heap.size with h1 | h1
  · exact h1
  · rw [Array.getElem?_eq_none h1] at h; cases h
theorem FacV.next {W W' : World} {N : Nat} {nm : List UInt8} {va : Value} (h : FacV W N nm va) (hb : Below W.heap.size W W') : FacV W' N nm va := (hb.block N h.lt).trans h
theorem FacV.gb {W W' : World} {N p : Nat} {nm : List UInt8} {va : Value} (h : FacV W N nm va) (hb : W.grownBy W' (some p)) (hp : N ≠ p) : FacV W' N nm va := (hb.block N h.lt (by intro e; cases e; exact hp rfl)).trans h
theorem FacV.facts {W : World} {N : Nat} {nm : List UInt8} {va : Value} (h : FacV W N nm va) : W.cell? ⟨N, 0, none⟩ = some (.string ⟨nm.toArray⟩) ∧ W.cell? ⟨N, 1, none⟩ = some va ∧ W.frozen? ⟨N, 1, none⟩ = false := by
  unfold FacV at h
  exact ⟨by rw [Lib.cell_of_heap h]; rfl, by rw [Lib.cell_of_heap h]; rfl, Lib.frozen_of_heap h 1⟩
theorem FacV.set {W : World} {N : Nat} {nm : List UInt8} {va : Value} (h : FacV W N nm va) (v : Value) : FacV (W.setCell ⟨N, 1, none⟩ v) N nm v := (heap_setCell_same W N 1 #[.string ⟨nm.toArray⟩, va] _ v h).trans rfl
def parM (p : Nat) (W : World) : Nat := match W.cell? ⟨p, 2, none⟩, W.cell? ⟨p, 5, none⟩ with
  | some (.int _ i), some (.int _ e) => 2 * (70001 - i.toNat) + (if e = 0 then 1 else 0)
  | _, _ => 0
theorem parM_rps {p : Nat} {W : World} {l : List UInt8} {gs : List GTok} {s : RS} (h : RPS W p l gs s) : parM p W = 2 * (70001 - s.i) + (if s.e = 0 then 1 else 0) := by
  obtain ⟨A, cap, hp, c0, c1, c2, c3, c4, c5, _⟩ := h.open
  unfold parM
  rw [c2, c5]
  simp
theorem failR_keep {l : List UInt8} {gs : List GTok} {s : RS} (j er : Int) (h : s.e ≠ 0) : failR l gs s j er = s := by unfold failR; rw [if_neg h]
theorem peek_no {gs : List GTok} {s : RS} (k : Int) (tx : List UInt8) (h : s.e ≠ 0) : peekR gs s k tx = false := by unfold peekR; simp [h]
theorem need_i (l : List UInt8) (gs : List GTok) (s : RS) (k : Int) (tx : List UInt8) (hs : s.i ≤ gs.length) : (needR l gs s k tx).i ≤ gs.length ∧ s.i ≤ (needR l gs s k tx).i ∧ ((needR l gs s k tx).e = 0 → s.e = 0) := by
  unfold needR
  cases h : peekR gs s k tx
  · rw [if_neg (by simp), failR_i]
    exact ⟨hs, Nat.le_refl _, fun he => absurd he (failR_e l gs s s.i 50 (by omega))⟩
  · rw [if_pos rfl]
    have := peek_lt h
    exact ⟨this.2, Nat.le_succ _, fun _ => this.1⟩
theorem any_mono (l : List UInt8) (gs : List GTok) (s : RS) (k : Int) : s.i ≤ (anyS l gs s k).i ∧ ((anyS l gs s k).e = 0 → s.e = 0) := by
  unfold anyS
  cases h : kindR gs s k
  · rw [if_neg (by simp), failR_i]
    exact ⟨Nat.le_refl _, fun he => absurd he (failR_e l gs s s.i 50 (by omega))⟩
  · rw [if_pos rfl]
    exact ⟨Nat.le_succ _, fun _ => (kind_lt h).1⟩
theorem fail_zero {l : List UInt8} {gs : List GTok} {s : RS} {j er : Int} (h : er ≠ 0) (he : (failR l gs s j er).e = 0) : False := failR_e l gs s j er h he
theorem name_mono (l : List UInt8) (gs : List GTok) (s : RS) (k : Int) : s.i ≤ (nameR l gs s k).i ∧ ((nameR l gs s k).e = 0 → s.e = 0 ∧ s.i + 1 ≤ (nameR l gs s k).i) := by
  obtain ⟨h1, h2⟩ := any_mono l gs s k
  unfold nameR
  split
  · rw [failR_i]
    exact ⟨h1, fun he => (fail_zero (by omega) he).elim⟩
  · exact ⟨h1, fun he => ⟨h2 he, by have := (anyS_i l gs s k he).2; omega⟩⟩
theorem take_mono (gs : List GTok) (s : RS) (k : Int) (tx : List UInt8) : s.i ≤ (takeR gs s k tx).i := by
  unfold takeR
  split
  · exact Nat.le_succ _
  · exact Nat.le_refl _
theorem int_le (l : List UInt8) (gs : List GTok) (s : RS) (hs : s.i ≤ gs.length) : (intR l gs s).2.i ≤ gs.length ∧ s.i ≤ (intR l gs s).2.i := by
  have h1 := any_le l gs (takeR gs s 4 [45]) 2 (take_le gs s 4 [45] hs)
  have h2 := (any_mono l gs (takeR gs s 4 [45]) 2).1
  have h3 := take_mono gs s 4 [45]
  unfold intR
  split
  · exact ⟨h1, by show s.i ≤ (anyS l gs (takeR gs s 4 [45]) 2).i; omega⟩
  · split
    · exact ⟨h1, by show s.i ≤ (anyS l gs (takeR gs s 4 [45]) 2).i; omega⟩
    · show (failR l gs _ _ 6).i ≤ _ ∧ s.i ≤ (failR l gs _ _ 6).i
      rw [failR_i]
      exact ⟨h1, by omega⟩
theorem arg_le (l : List UInt8) (gs : List GTok) (s : RS) (hs : s.i ≤ gs.length) : (argR l gs s).2.i ≤ gs.length ∧ s.i ≤ (argR l gs s).2.i := by
  unfold argR
  split
  · exact int_le l gs s hs
  · split
    · show (if _ then failR l gs _ _ 63 else _).i ≤ _ ∧ s.i ≤ (if _ then failR l gs _ _ 63 else _).i
      have h1 := name_le l gs s (kd gs s) hs
      have h2 := (name_mono l gs s (kd gs s)).1
      split
      · rw [failR_i]; exact ⟨h1, h2⟩
      · exact ⟨h1, h2⟩
    · show (failR l gs s s.i 50).i ≤ _ ∧ s.i ≤ (failR l gs s s.i 50).i
      rw [failR_i]
      exact ⟨hs, Nat.le_refl _⟩
/-- The state behind an argument, and what the loop makes of it. -/
def midS (l : List UInt8) (gs : List GTok) (s : RS) (n : Nat) : RS := if 8 ≤ n ∧ peekR gs s 4 [45] = true then failR l gs s s.i 15 else s
def endS (l : List UInt8) (gs : List GTok) (s : RS) (n : Nat) : RS := if 8 ≤ n then failR l gs (argR l gs (midS l gs s n)).2 s.i 15 else (argR l gs (midS l gs s n)).2
theorem rArgsR_step (l : List UInt8) (gs : List GTok) (n : Nat) (s : RS) (a : List GVal) (he : s.e = 0) : rArgsR l gs (n + 1) s a =
    if peekR gs (endS l gs s a.length) 4 [44] then rArgsR l gs n (takeR gs (endS l gs s a.length) 4 [44]) (a ++ [(argR l gs (midS l gs s a.length)).1]) else (endS l gs s a.length, a ++ [(argR l gs (midS l gs s a.length)).1]) := by
  rw [rArgsR, if_neg (by simp [he])]
  rfl
theorem rArgsR_stop (l : List UInt8) (gs : List GTok) (n : Nat) (s : RS) (a : List GVal) (he : s.e ≠ 0) : rArgsR l gs n s a = (s, a) := by
  cases n with
  | zero => rfl
  | succ n => rw [rArgsR, if_pos he]
theorem mid_i (l : List UInt8) (gs : List GTok) (s : RS) (n : Nat) : (midS l gs s n).i = s.i := by
  unfold midS
  split
  · exact failR_i _ _ _ _ _
  · rfl
theorem endS_le (l : List UInt8) (gs : List GTok) (s : RS) (n : Nat) (hs : s.i ≤ gs.length) : (endS l gs s n).i ≤ gs.length ∧ s.i ≤ (endS l gs s n).i := by
  have h := arg_le l gs (midS l gs s n) (by rw [mid_i]; exact hs)
  rw [mid_i] at h
  unfold endS
  split
  · rw [failR_i]; exact h
  · exact h
theorem end_eight (l : List UInt8) (gs : List GTok) (s : RS) (n : Nat) (h : 8 ≤ n) : (endS l gs s n).e ≠ 0 := by
  unfold endS
  rw [if_pos h]
  exact failR_e _ _ _ _ _ (by omega)
/-- Where the loop over the arguments stands: the fact under construction, and what the rest of the loop comes to. -/
def InnI (l : List UInt8) (gs : List GTok) (r : RS × List GVal) (p F : Nat) (nm : List UInt8) (wb : World) (v7 : Value) (wr : World) : Prop :=
  ∃ m s a A c, v7 = .pointer (some ⟨F, 0, none⟩) ∧ RPS wr p l gs s ∧ FacV wr F nm (.slice A a.length c) ∧ OwnG GVal.cells 40 3 wr (F + 1) (.slice A a.length c) a ∧ a.length ≤ 8 ∧ s.i ≤ gs.length ∧ gs.length + 1 ≤ m + s.i ∧ rArgsR l gs m s a = r ∧ wb.grownBy wr (some p)
def OutI (l : List UInt8) (gs : List GTok) (r : RS × List GFact) (p : Nat) (wo : World) (vo : Value) (wr : World) : Prop :=
  ∃ n s fs ss, RPS wr p l gs s ∧ ListI wo wr p vo ss fs ∧ s.i ≤ gs.length ∧ (s.e = 0 → fs.length ≤ s.i) ∧ fs.length ≤ gs.length + 1 ∧ (∀ f ∈ fs, f.args.length ≤ 9) ∧ gs.length + 1 ≤ n + s.i ∧ rFactsR l gs n s fs = r ∧ wo.grownBy wr (some p)
/-- How Parse ends: the state, and the set of the list that was read. -/
def RParseEnd (r : RS × List GFact) (w : World) (e : Ending) (w' : World) : Prop :=
  (r.1.e ≠ 0 ∧ e = .returned (.tuple #[.slice none 0 0, .agg #[.int .i64 r.1.x, .int .i64 r.1.y], .int .i64 r.1.e]) ∧ Below w.heap.size w w') ∨
  (r.1.e = 0 ∧ ∃ v ss fs', e = .returned (.tuple #[v, .agg #[.int .i64 0, .int .i64 0], .int .i64 0]) ∧ SetV w' v ss fs' ∧ StrictF fs' ∧ (∀ f, f ∈ fs' ↔ f ∈ r.2) ∧ fs'.length ≤ r.2.length ∧ Below w.heap.size w w')
end Go.Proofs.YtmodjokoggmnaaaGreatDoor


namespace Go.Proofs.YtmodjokoggmnaaaGreatDoor
open Go.RowKit Go.Shelf

/-- What parsing comes to: an error with its position, or the list of facts. -/
inductive PRes where
  | no (x y e : Int)
  | ok (fs : List GFact)
def pAll (l : List UInt8) : PRes :=
  match scan l with
  | .no x y e => .no x y e
  | .ok toks =>
    match pFacts (toks.map Tok.g ++ [endTok l]).length [] (toks.map Tok.g ++ [endTok l]) with
    | (e, fs, ts) => if e = 0 then .ok fs else
      match ts with
      | [] => .no 0 0 e
      | t :: _ => .no t.line t.col e
def ParseEnd (l : List UInt8) (w : World) (e : Ending) (w' : World) : Prop :=
  match pAll l with
  | .no x y er => er ≠ 0 ∧ e = .returned (.tuple #[.slice none 0 0, .agg #[.int .i64 x, .int .i64 y], .int .i64 er]) ∧ Below w.heap.size w w'
  | .ok fs => fs.length ≤ 8192 ∧ (∀ f ∈ fs, f.args.length ≤ 8) ∧ ∃ v ss fs', e = .returned (.tuple #[v, .agg #[.int .i64 0, .int .i64 0], .int .i64 0]) ∧ SetV w' v ss fs' ∧ StrictF fs' ∧ (∀ f, f ∈ fs' ↔ f ∈ fs) ∧ fs'.length ≤ fs.length ∧ Below w.heap.size w w'
def PosV (W : World) (N : Nat) : Prop := W.heap[N]? = some (.cells #[.int .i64 0, .int .i64 0] 26 (0, 0))
theorem PosV.lt {W : World} {N : Nat} (h : PosV W N) : N < W.heap.size := by
  unfold PosV at h
  rcases Nat.lt_or_ge N W.heap.size with h1 | h1
  · exact h1
  · rw [Array.getElem?_eq_none h1] at h; cases h
theorem PosV.next {W W' : World} {N : Nat} (h : PosV W N) (hb : Below W.heap.size W W') : PosV W' N := (hb.block N h.lt).trans h
theorem PosV.facts {W : World} {N : Nat} (h : PosV W N) : W.cell? ⟨N, 0, none⟩ = some (.int .i64 0) ∧ W.cell? ⟨N, 1, none⟩ = some (.int .i64 0) ∧ W.frozen? ⟨N, 0, none⟩ = false ∧ W.frozen? ⟨N, 1, none⟩ = false := by
  unfold PosV at h
  exact ⟨by rw [Lib.cell_of_heap h]; rfl, by rw [Lib.cell_of_heap h]; rfl, Lib.frozen_of_heap h 0, Lib.frozen_of_heap h 1⟩
theorem PosV.noStr {W : World} {N j : Nat} {s : ByteArray} (h : PosV W N) : W.cell? ⟨N, j, none⟩ ≠ some (.string s) := by
  unfold PosV at h
  rw [Lib.cell_of_heap h]
  match j with
  | 0 => simp
  | 1 => simp
  | j + 2 => simp
theorem PosV.keep {W : World} {N : Nat} (x y : Value) {b : Nat} (hb : b ≠ N) : ((W.setCell ⟨N, 0, none⟩ x).setCell ⟨N, 1, none⟩ y).heap[b]? = W.heap[b]? :=
  (Below.heap_setCell _ _ _ b (by exact hb)).trans (Below.heap_setCell _ _ _ b (by exact hb))
theorem SetV.pos {W : World} {N : Nat} {v : Value} {ss : List SFact} {fs : List GFact} (h : SetV W v ss fs) (hp : PosV W N) (x y : Value) : SetV ((W.setCell ⟨N, 0, none⟩ x).setCell ⟨N, 1, none⟩ y) v ss fs := by
  refine ⟨?_, h.len, fun i h1 h2 => ?_⟩
  · rcases h.row with hr | ⟨ad, c, e, hr⟩
    · exact .inl hr
    · refine .inr ⟨ad, c, e, fun hn => ?_⟩
      obtain ⟨b, off, e2, hlt, hc⟩ := hr hn
      have hbn : b ≠ N := fun e3 => by
        subst e3
        exact hp.noStr (hc 0 hn 0 _ rfl)
      exact ⟨b, off, e2, by simpa using hlt, fun i hi j u hu => (World.cell?_of_block (a := ⟨b, off + (i * 2 + j), none⟩) (PosV.keep x y hbn)).trans (hc i hi j u hu)⟩
  · have hh := h.each i h1 h2
    refine ⟨hh.rel, hh.n, fun hn => ?_, hh.few⟩
    obtain ⟨b, off, e2, hlt, hc⟩ := hh.row hn
    have hbn : b ≠ N := fun e3 => by
      subst e3
      exact hp.noStr (hc 0 hn 2 _ rfl)
    exact ⟨b, off, e2, by simpa using hlt, fun i hi j u hu => (World.cell?_of_block (a := ⟨b, off + (i * 3 + j), none⟩) (PosV.keep x y hbn)).trans (hc i hi j u hu)⟩
theorem lex_count : ∀ (l : List UInt8) (k : Nat) (p : Nat × Nat) (ts : List Tok), lex k p l = .ok ts → ts.length ≤ l.length
  | [], k, p, ts, h => by
    rw [lex_nil] at h
    injection h with h
    subst h
    simp
  | c :: r, k + 1, p, ts, h => by
    rw [lex] at h
    have := lex_count r k _ ts h
    simp; omega
  | c :: r, 0, p, ts, h => by
    rw [lex] at h
    cases hs : step (c :: r) with
    | skip n =>
      rw [hs] at h
      have := lex_count r _ _ ts h
      simp; omega
    | tok kd tx v n =>
      rw [hs] at h
      simp only at h
      cases hl : lex (n - 1) (adv1 p c) r with
      | ok us =>
        rw [hl] at h
        injection h with h
        subst h
        have := lex_count r _ _ us hl
        simp; omega
      | no x y e => rw [hl] at h; cases h
    | err e => rw [hs] at h; cases h
theorem scan_count {l : List UInt8} {ts : List Tok} (h : scan l = .ok ts) : ts.length ≤ 65536 := by
  have h0 := (scan_tokB h).1
  unfold scan at h
  rw [if_neg (by omega)] at h
  have := lex_count l 0 _ ts h
  omega
set_option maxRecDepth 50000 in
set_option maxHeartbeats 1000000 in
theorem parse_any (l : List UInt8) (w : World) (hl : l.length ≤ maxLen) (hG : Glob w) :
    Calls Tryz.prog 7 #[.string ⟨l.toArray⟩] w (ParseEnd l w) := by
  have hSC := scan_any l (w.alloc (.cells #[.int .i64 0, .int .i64 0] 26)) (hG.next (bel_lit (Below.refl _ w) _)) hl
  have HPV : Hid (PosV (w.alloc (.cells #[.int .i64 0, .int .i64 0] 26)) w.heap.size) := Lib.hid (heap_alloc_new w _)
  cases hsc : scan l with
  | no x y er =>
    rw [hsc] at hSC
    unfold ScanEnd at hSC
    simp only at hSC
    have he0 := scan_err hsc
    have hne : (er : Int) ≠ 0 := by omega
    have HPA : Hid (pAll l = .no x y er) := Lib.hid (by unfold pAll; rw [hsc])
    have HNE := Lib.hid hne
    have HS := Lib.hid hSC
    generalize (er : Int) = ei at *
    generalize (x : Int) = xi at *
    generalize (y : Int) = yi at *
    have f1 : (ei != 0) = true := by simp [HNE.out]
    clear hSC hG hsc he0 hne
    go_enter Tryz.func7, Tryz.ntmps7
    go_wp2_with fail
    go_fit HS.out
    rintro e w1 ⟨rfl, hb1⟩
    have HB1 := Lib.hid (bel_alloc (Below.refl _ w) hb1)
    obtain ⟨q0, q1, z0, z1⟩ := (HPV.out.next hb1).facts
    have hz1 : w.heap.size < w1.heap.size := (HPV.out.next hb1).lt
    have HBF : Hid (Below w.heap.size w (((w1.setCell ⟨w.heap.size, 0, none⟩ (.int .i64 xi)).setCell ⟨w.heap.size, 1, none⟩ (.int .i64 yi)).alloc (.cells #[.int .i64 xi, .int .i64 yi] 26)).drew) := Lib.hid ((bel_lit ((HB1.out.setCell (p := ⟨w.heap.size, 0, none⟩) (Nat.le_refl _) _).setCell (p := ⟨w.heap.size, 1, none⟩) (Nat.le_refl _) _) _).drew)
    clear hb1 HS HPV
    go_upto_region 3 with fail
    go_region
    go_wp2
    refine bodyPost_ret (v := .tuple #[.slice none 0 0, .agg #[.int .i64 xi, .int .i64 yi], .int .i64 ei]) (by simp [results, Tryz.results7, go_sem, q0, q1, hz1]) rfl ?_
    unfold ParseEnd
    rw [HPA.out]
    exact ⟨HNE.out, rfl, HBF.out⟩
  | ok toks =>
    rw [hsc] at hSC
    unfold ScanEnd at hSC
    simp only at hSC
    have hl16 := (scan_tokB hsc).1
    have htl := scan_count hsc
    have HS := Lib.hid hSC
    have HE := Lib.hid fun W => endPos_any l W hl16
    have HTE := Lib.hid (scan_ends hsc)
    have HPA : Hid (pAll l = match pFacts (toks.map Tok.g ++ [endTok l]).length [] (toks.map Tok.g ++ [endTok l]) with
      | (e, fs, ts) => if e = 0 then .ok fs else match ts with | [] => .no 0 0 e | t :: _ => .no t.line t.col e) := Lib.hid (by unfold pAll; rw [hsc])
    have HET : Hid (endTok l = ⟨0, [], 0, (endTok l).line, (endTok l).col⟩) := Lib.hid rfl
    generalize endTok l = et at *
    obtain ⟨ek, etx, ev, x, y⟩ := et
    have het := HET.out
    simp only at het HE
    injection het with k1 k2 k3
    subst k1 k2 k3
    clear hSC hG hsc HET hl16
    go_enter Tryz.func7, Tryz.ntmps7
    go_wp2_with fail
    go_fit HS.out
    rintro e w1 ⟨v1, rfl, hown1, hb1⟩
    obtain ⟨A1, c1, rfl, _, _⟩ := hown1.row
    have HO1 := Lib.hid hown1
    have HB1 := Lib.hid (bel_alloc (Below.refl _ w) hb1)
    have HK1 := Lib.hid (HPV.out.next hb1)
    have hz1 : w.heap.size < w1.heap.size := (HPV.out.next hb1).lt
    clear hown1 hb1 HPV
    go_wp2_with fail
    go_fit (HE.out _)
    rintro e w2 ⟨rfl, hb2⟩
    have HB2 := Lib.hid hb2
    have hz2 : w1.heap.size < w2.heap.size := by have := hb2.size; simp at this; omega
    have hown2 : OwnG GTok.cells 52 5 w2 (w.heap.size + 1) (.slice A1 (toks.map Tok.g).length c1) (toks.map Tok.g) := by
      have h1 : OwnG GTok.cells 52 5 w1 (w.heap.size + 1 + 1) (.slice A1 (toks.map Tok.g).length c1) (toks.map Tok.g) := by
        have h := HO1.out
        have e : (w.alloc (.cells #[.int .i64 0, .int .i64 0] 26)).heap.size + 1 = w.heap.size + 1 + 1 := by simp
        rw [e] at h
        exact h
      exact ((h1.alloc _).next hb2).base (by omega)
    have hlit := GRow.lit GTok.len5 w2 52 [⟨0, [], 0, x, y⟩] #[.int .i64 0, .string ⟨#[]⟩, .int .u64 0, .int .i64 x, .int .i64 y] rfl (by unfold maxLen; simp)
    obtain ⟨v3, w3, hrun3, hown3, hgr3, _⟩ := OwnG.app elt_tok GTok.len5 cells_one (hown2.alloc (.cells #[.int .i64 0, .string ⟨#[]⟩, .int .u64 0, .int .i64 x, .int .i64 y] 52)) 1 hlit (by simp; omega) (by unfold maxLen; simp; omega) (by simp; omega)
    obtain ⟨A3, c3, rfl, hc3, hm3, hr3⟩ := hown3.row GTok.len5
    have HRUN := Lib.hid hrun3
    have HB3 := Lib.hid (below_of_own (bel_lit (bel_next (bel_lit HB1.out _) hb2) _) hgr3 (fun g hg => by have := (hown2.lt g hg).1; omega))
    have hs3 := hgr3.size
    have hk3 : PosV w3 w.heap.size := by
      unfold PosV
      rw [hgr3.block _ (by simp; omega) (by intro e; have := (hown2.lt _ e.symm).1; omega), Below.heap_alloc _ _ _ (by omega), hb2.block _ (by simp; omega), Below.heap_alloc _ _ _ hz1]
      exact HK1.out
    have hw3 : w.heap.size < w3.heap.size := hk3.lt
    have HK3 := Lib.hid hk3
    have HTX : Hid (TEnds (toks.map Tok.g ++ [(⟨0, [], 0, x, y⟩ : GTok)])) := HTE
    obtain ⟨t0, ts0, het0⟩ : ∃ t0 ts0, toks.map Tok.g ++ [(⟨0, [], 0, x, y⟩ : GTok)] = t0 :: ts0 := by
      cases hq : toks.map Tok.g ++ [(⟨0, [], 0, x, y⟩ : GTok)] with
      | nil => simp at hq
      | cons a b => exact ⟨a, b, rfl⟩
    rw [het0] at HPA HTX hrun3 hc3 hr3
    have HRUN2 := HRUN
    rw [het0] at HRUN2
    have hps : PS (w3.alloc (.cells #[.slice A3 (t0 :: ts0).length c3] 54)) w3.heap.size (t0 :: ts0) :=
      ⟨A3, c3, heap_alloc_new w3 _, hc3, hm3, hr3.below (Nat.le_refl _) ((Below.refl _ w3).alloc (Nat.le_refl _) _)⟩
    have HF := Lib.hid (facts_all w3.heap.size t0 ts0 _ hps HTX.out)
    generalize pFacts (t0 :: ts0).length [] (t0 :: ts0) = r at *
    obtain ⟨re, rfs, rts⟩ := r
    unfold FactsE2 at HF
    simp only at HF HPA
    simp only [List.length_singleton] at HRUN2
    rw [show (toks.map Tok.g).length = toks.length by simp] at HRUN2
    generalize (t0 :: ts0).length = tn at *
    clear hown2 hlit hrun3 hown3 hgr3 hr3 hps hb2 hk3 hc3 hm3 HRUN het0 hs3 HTE HTX
    have hsa : (w3.alloc (.cells #[.slice A3 tn c3] 54)).heap.size = w3.heap.size + 1 := by simp
    go_wp2_with (at_builtin; refine wpList_gapp HRUN2.out rfl rfl rfl rfl rfl ?_)
    go_fit HF.out
    rintro e w4 ⟨v4, ss4, rfl, hset4, hl4, ha4, hends4, hps4, hg4⟩
    obtain ⟨A4, c4, rfl⟩ := hset4.slice
    have HB4 := Lib.hid (bel_gb (bel_lit HB3.out _) (by omega) hg4)
    have HK4 : Hid (PosV w4 w.heap.size) := Lib.hid (by
      unfold PosV
      rw [hg4.block _ (by omega) (by simp; omega), Below.heap_alloc _ _ _ hw3]
      exact HK3.out)
    have hw4 : w.heap.size < w4.heap.size := HK4.out.lt
    by_cases hre : re = 0
    · subst hre
      have HPA2 : Hid (pAll l = .ok rfs) := Lib.hid (by rw [HPA.out, if_pos rfl])
      have HU := Lib.hid (setOf_facts (.slice A4 rfs.length c4) ss4 rfs w4 hset4 (by omega) (fun f hf => by have := ha4 f hf; omega))
      have HA4 := Lib.hid ha4
      clear hset4 ha4 hends4 hps4 hg4 HPA HF hsa
      go_wp2_with fail
      go_fit HU.out
      rintro e w5 ⟨v5, ss5, fs5, rfl, ho5, hset5, hst5, hm5, hl5, hb5⟩
      obtain ⟨A5, c5, rfl⟩ := hset5.slice
      obtain ⟨q0, q1, z0, z1⟩ := (HK4.out.next hb5).facts
      have HEND : Hid (ParseEnd l w (.returned (.tuple #[.slice A5 fs5.length c5, .agg #[.int .i64 0, .int .i64 0], .int .i64 0])) ((w5.setCell ⟨w.heap.size, 0, none⟩ (.int .i64 0)).setCell ⟨w.heap.size, 1, none⟩ (.int .i64 0))) := Lib.hid (by
        unfold ParseEnd
        rw [HPA2.out]
        exact ⟨hl4, HA4.out, _, ss5, fs5, rfl, hset5.pos (HK4.out.next hb5) _ _, hst5, fun f => by rw [hm5 f]; simp, by simpa using hl5, ((bel_next HB4.out hb5).setCell (p := ⟨w.heap.size, 0, none⟩) (Nat.le_refl _) _).setCell (p := ⟨w.heap.size, 1, none⟩) (Nat.le_refl _) _⟩)
      clear ho5 hset5 hst5 hm5 hl5 hb5 HU
      go_wp2
      refine bodyPost_ret (v := .tuple #[.slice A5 fs5.length c5, .agg #[.int .i64 0, .int .i64 0], .int .i64 0]) (by simp [results, Tryz.results7, go_sem, q0, q1]) rfl ?_
      exact HEND.out
    · have f1 : (re != 0) = true := by simp [hre]
      cases rts with
      | nil => exact hends4.elim
      | cons t tr =>
      have HPA2 : Hid (pAll l = .no t.line t.col re) := Lib.hid (by rw [HPA.out, if_neg hre])
      have HNE := Lib.hid hre
      obtain ⟨b, off, cp, hbp, hpw, hc1, hc2, hh, hcp, hfz, hr, x0, x1, x2, x3, x4⟩ := hps4.open
      have hbw : b < w4.heap.size := by omega
      obtain ⟨q0, q1, z0, z1⟩ := HK4.out.facts
      obtain ⟨tk, tt, tv, tln, tcl⟩ := t
      simp only at x0 x1 x2 x3 x4
      have hbn : b ≠ w.heap.size := by
        intro e
        subst e
        exact HK4.out.noStr x1
      have HEND : Hid (∀ W, Below w.heap.size w W → ParseEnd l w (.returned (.tuple #[.slice none 0 0, .agg #[.int .i64 tln, .int .i64 tcl], .int .i64 re])) W) := Lib.hid fun W hW => by
        unfold ParseEnd
        rw [HPA2.out]
        exact ⟨HNE.out, rfl, hW⟩
      have HBF := Lib.hid (((HB4.out.setCell (p := ⟨w.heap.size, 0, none⟩) (Nat.le_refl _) (.int .i64 tln)).setCell (p := ⟨w.heap.size, 1, none⟩) (Nat.le_refl _) (.int .i64 tcl)).drew)
      clear hset4 ha4 hends4 hps4 hg4 HPA HF hsa hre hh hr
      go_upto_region 7 with fail
      go_region
      go_wp2
      refine bodyPost_ret (v := .tuple #[.slice none 0 0, .agg #[.int .i64 tln, .int .i64 tcl], .int .i64 re]) (by simp [results, Tryz.results7, go_sem, q0, q1]) rfl ?_
      exact HEND.out _ HBF.out
end Go.Proofs.YtmodjokoggmnaaaGreatDoor
