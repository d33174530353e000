/-
  The reference's Parse of facts: the walk.
  Conditions: the text has at most 65536 bytes.
  facts.Parse, whatever the text.
  Conditions: strconv.ErrRange lies as the program's start lays it.
  The reference's Parse of facts: the walk.
  Conditions: the text has at most 3000 bytes.
-/
import Derived.Test.YtmodjokoggmnaaaGreatDoorMa31
import Derived.Test.YtmodjokoggmnaaaGreatDoorMa36
import Derived.Deep.DeepCutAuto
import Derived.Test.YtmodjokoggmnaaaGreatDoorMa23
import Derived.Test.YtmodjokoggmnaaaGreatDoorMa20
import Derived.Test.YtmodjokoggmnaaaGreatDoorMa33
import Derived.RegionTactic
namespace Go.Proofs.YtmodjokoggmnaaaGreatDoor
open Go.RowKit Go.Shelf

/-- A fact under construction: its relation, and the slice of its arguments. -/
def FacV (W : World) (N : Nat) (nm : List UInt8) (va : Value) : Prop := W.heap[N]? = some (.cells #[.string ⟨nm.toArray⟩, va] 37 (0, 0))
theorem FacV.lt {W : World} {N : Nat} {nm : List UInt8} {va : Value} (h : FacV W N nm va) : N < W.heap.size := by
  unfold FacV at h
  rcases Nat.lt_or_ge N W.heap.size with h1 | h1
  · exact h1
  · rw [Array.getElem?_eq_none h1] at h; cases h
theorem FacV.next {W W' : World} {N : Nat} {nm : List UInt8} {va : Value} (h : FacV W N nm va) (hb : Below W.heap.size W W') : FacV W' N nm va := (hb.block N h.lt).trans h
theorem FacV.gb {W W' : World} {N p : Nat} {nm : List UInt8} {va : Value} (h : FacV W N nm va) (hb : W.grownBy W' (some p)) (hp : N ≠ p) : FacV W' N nm va := (hb.block N h.lt (by intro e; cases e; exact hp rfl)).trans h
theorem FacV.facts {W : World} {N : Nat} {nm : List UInt8} {va : Value} (h : FacV W N nm va) : W.cell? ⟨N, 0, none⟩ = some (.string ⟨nm.toArray⟩) ∧ W.cell? ⟨N, 1, none⟩ = some va ∧ W.frozen? ⟨N, 1, none⟩ = false := by
  unfold FacV at h
  exact ⟨by rw [Lib.cell_of_heap h]; rfl, by rw [Lib.cell_of_heap h]; rfl, Lib.frozen_of_heap h 1⟩
theorem FacV.set {W : World} {N : Nat} {nm : List UInt8} {va : Value} (h : FacV W N nm va) (v : Value) : FacV (W.setCell ⟨N, 1, none⟩ v) N nm v := (heap_setCell_same W N 1 #[.string ⟨nm.toArray⟩, va] _ v h).trans rfl
def parM (p : Nat) (W : World) : Nat := match W.cell? ⟨p, 2, none⟩, W.cell? ⟨p, 5, none⟩ with
  | some (.int _ i), some (.int _ e) => 2 * (70001 - i.toNat) + (if e = 0 then 1 else 0)
  | _, _ => 0
theorem parM_rps {p : Nat} {W : World} {l : List UInt8} {gs : List GTok} {s : RS} (h : RPS W p l gs s) : parM p W = 2 * (70001 - s.i) + (if s.e = 0 then 1 else 0) := by
  obtain ⟨A, cap, hp, c0, c1, c2, c3, c4, c5, _⟩ := h.open
  unfold parM
  rw [c2, c5]
  simp
theorem failR_keep {l : List UInt8} {gs : List GTok} {s : RS} (j er : Int) (h : s.e ≠ 0) : failR l gs s j er = s := by unfold failR; rw [if_neg h]
theorem peek_no {gs : List GTok} {s : RS} (k : Int) (tx : List UInt8) (h : s.e ≠ 0) : peekR gs s k tx = false := by unfold peekR; simp [h]
theorem need_i (l : List UInt8) (gs : List GTok) (s : RS) (k : Int) (tx : List UInt8) (hs : s.i ≤ gs.length) : (needR l gs s k tx).i ≤ gs.length ∧ s.i ≤ (needR l gs s k tx).i ∧ ((needR l gs s k tx).e = 0 → s.e = 0) := by
  unfold needR
  cases h : peekR gs s k tx
  · rw [if_neg (by simp), failR_i]
    exact ⟨hs, Nat.le_refl _, fun he => absurd he (failR_e l gs s s.i 50 (by omega))⟩
  · rw [if_pos rfl]
    have := peek_lt h
    exact ⟨this.2, Nat.le_succ _, fun _ => this.1⟩
theorem any_mono (l : List UInt8) (gs : List GTok) (s : RS) (k : Int) : s.i ≤ (anyS l gs s k).i ∧ ((anyS l gs s k).e = 0 → s.e = 0) := by
  unfold anyS
  cases h : kindR gs s k
  · rw [if_neg (by simp), failR_i]
    exact ⟨Nat.le_refl _, fun he => absurd he (failR_e l gs s s.i 50 (by omega))⟩
  · rw [if_pos rfl]
    exact ⟨Nat.le_succ _, fun _ => (kind_lt h).1⟩
theorem fail_zero {l : List UInt8} {gs : List GTok} {s : RS} {j er : Int} (h : er ≠ 0) (he : (failR l gs s j er).e = 0) : False := failR_e l gs s j er h he
theorem name_mono (l : List UInt8) (gs : List GTok) (s : RS) (k : Int) : s.i ≤ (nameR l gs s k).i ∧ ((nameR l gs s k).e = 0 → s.e = 0 ∧ s.i + 1 ≤ (nameR l gs s k).i) := by
  obtain ⟨h1, h2⟩ := any_mono l gs s k
  unfold nameR
  split
  · rw [failR_i]
    exact ⟨h1, fun he => (fail_zero (by omega) he).elim⟩
  · exact ⟨h1, fun he => ⟨h2 he, by have := (anyS_i l gs s k he).2; omega⟩⟩
theorem take_mono (gs : List GTok) (s : RS) (k : Int) (tx : List UInt8) : s.i ≤ (takeR gs s k tx).i := by
  unfold takeR
  split
  · exact Nat.le_succ _
  · exact Nat.le_refl _
theorem int_le (l : List UInt8) (gs : List GTok) (s : RS) (hs : s.i ≤ gs.length) : (intR l gs s).2.i ≤ gs.length ∧ s.i ≤ (intR l gs s).2.i := by
  have h1 := any_le l gs (takeR gs s 4 [45]) 2 (take_le gs s 4 [45] hs)
  have h2 := (any_mono l gs (takeR gs s 4 [45]) 2).1
  have h3 := take_mono gs s 4 [45]
  unfold intR
  split
  · exact ⟨h1, by show s.i ≤ (anyS l gs (takeR gs s 4 [45]) 2).i; omega⟩
  · split
    · exact ⟨h1, by show s.i ≤ (anyS l gs (takeR gs s 4 [45]) 2).i; omega⟩
    · show (failR l gs _ _ 6).i ≤ _ ∧ s.i ≤ (failR l gs _ _ 6).i
      rw [failR_i]
      exact ⟨h1, by omega⟩
theorem arg_le (l : List UInt8) (gs : List GTok) (s : RS) (hs : s.i ≤ gs.length) : (argR l gs s).2.i ≤ gs.length ∧ s.i ≤ (argR l gs s).2.i := by
  unfold argR
  split
  · exact int_le l gs s hs
  · split
    · show (if _ then failR l gs _ _ 63 else _).i ≤ _ ∧ s.i ≤ (if _ then failR l gs _ _ 63 else _).i
      have h1 := name_le l gs s (kd gs s) hs
      have h2 := (name_mono l gs s (kd gs s)).1
      split
      · rw [failR_i]; exact ⟨h1, h2⟩
      · exact ⟨h1, h2⟩
    · show (failR l gs s s.i 50).i ≤ _ ∧ s.i ≤ (failR l gs s s.i 50).i
      rw [failR_i]
      exact ⟨hs, Nat.le_refl _⟩
/-- The state behind an argument, and what the loop makes of it. -/
def midS (l : List UInt8) (gs : List GTok) (s : RS) (n : Nat) : RS := if 8 ≤ n ∧ peekR gs s 4 [45] = true then failR l gs s s.i 15 else s
def endS (l : List UInt8) (gs : List GTok) (s : RS) (n : Nat) : RS := if 8 ≤ n then failR l gs (argR l gs (midS l gs s n)).2 s.i 15 else (argR l gs (midS l gs s n)).2
theorem rArgsR_step (l : List UInt8) (gs : List GTok) (n : Nat) (s : RS) (a : List GVal) (he : s.e = 0) : rArgsR l gs (n + 1) s a =
    if peekR gs (endS l gs s a.length) 4 [44] then rArgsR l gs n (takeR gs (endS l gs s a.length) 4 [44]) (a ++ [(argR l gs (midS l gs s a.length)).1]) else (endS l gs s a.length, a ++ [(argR l gs (midS l gs s a.length)).1]) := by
  rw [rArgsR, if_neg (by simp [he])]
  rfl
theorem rArgsR_stop (l : List UInt8) (gs : List GTok) (n : Nat) (s : RS) (a : List GVal) (he : s.e ≠ 0) : rArgsR l gs n s a = (s, a) := by
  cases n with
  | zero => rfl
  | succ n => rw [rArgsR, if_pos he]
theorem mid_i (l : List UInt8) (gs : List GTok) (s : RS) (n : Nat) : (midS l gs s n).i = s.i := by
  unfold midS
  split
  · exact failR_i _ _ _ _ _
  · rfl
theorem endS_le (l : List UInt8) (gs : List GTok) (s : RS) (n : Nat) (hs : s.i ≤ gs.length) : (endS l gs s n).i ≤ gs.length ∧ s.i ≤ (endS l gs s n).i := by
  have h := arg_le l gs (midS l gs s n) (by rw [mid_i]; exact hs)
  rw [mid_i] at h
  unfold endS
  split
  · rw [failR_i]; exact h
  · exact h
theorem end_eight (l : List UInt8) (gs : List GTok) (s : RS) (n : Nat) (h : 8 ≤ n) : (endS l gs s n).e ≠ 0 := by
  unfold endS
  rw [if_pos h]
  exact failR_e _ _ _ _ _ (by omega)
/-- Where the loop over the arguments stands: the fact under construction, and what the rest of the loop comes to. -/
def InnI (l : List UInt8) (gs : List GTok) (r : RS × List GVal) (p F : Nat) (nm : List UInt8) (wb : World) (v7 : Value) (wr : World) : Prop :=
  ∃ m s a A c, v7 = .pointer (some ⟨F, 0, none⟩) ∧ RPS wr p l gs s ∧ FacV wr F nm (.slice A a.length c) ∧ OwnG GVal.cells 40 3 wr (F + 1) (.slice A a.length c) a ∧ a.length ≤ 8 ∧ s.i ≤ gs.length ∧ gs.length + 1 ≤ m + s.i ∧ rArgsR l gs m s a = r ∧ wb.grownBy wr (some p)
def OutI (l : List UInt8) (gs : List GTok) (r : RS × List GFact) (p : Nat) (wo : World) (vo : Value) (wr : World) : Prop :=
  ∃ n s fs ss, RPS wr p l gs s ∧ ListI wo wr p vo ss fs ∧ s.i ≤ gs.length ∧ (s.e = 0 → fs.length ≤ s.i) ∧ fs.length ≤ gs.length + 1 ∧ (∀ f ∈ fs, f.args.length ≤ 9) ∧ gs.length + 1 ≤ n + s.i ∧ rFactsR l gs n s fs = r ∧ wo.grownBy wr (some p)
/-- How Parse ends: the state, and the set of the list that was read. -/
def RParseEnd (r : RS × List GFact) (w : World) (e : Ending) (w' : World) : Prop :=
  (r.1.e ≠ 0 ∧ e = .returned (.tuple #[.slice none 0 0, .agg #[.int .i64 r.1.x, .int .i64 r.1.y], .int .i64 r.1.e]) ∧ Below w.heap.size w w') ∨
  (r.1.e = 0 ∧ ∃ v ss fs', e = .returned (.tuple #[v, .agg #[.int .i64 0, .int .i64 0], .int .i64 0]) ∧ SetV w' v ss fs' ∧ StrictF fs' ∧ (∀ f, f ∈ fs' ↔ f ∈ r.2) ∧ fs'.length ≤ r.2.length ∧ Below w.heap.size w w')
end Go.Proofs.YtmodjokoggmnaaaGreatDoor


namespace Go.Proofs.YtmodjokoggmnaaaGreatDoor
open Go.RowKit Go.Shelf

/-- What parsing comes to: an error with its position, or the list of facts. -/
inductive PRes where
  | no (x y e : Int)
  | ok (fs : List GFact)
def pAll (l : List UInt8) : PRes :=
  match scan l with
  | .no x y e => .no x y e
  | .ok toks =>
    match pFacts (toks.map Tok.g ++ [endTok l]).length [] (toks.map Tok.g ++ [endTok l]) with
    | (e, fs, ts) => if e = 0 then .ok fs else
      match ts with
      | [] => .no 0 0 e
      | t :: _ => .no t.line t.col e
def ParseEnd (l : List UInt8) (w : World) (e : Ending) (w' : World) : Prop :=
  match pAll l with
  | .no x y er => er ≠ 0 ∧ e = .returned (.tuple #[.slice none 0 0, .agg #[.int .i64 x, .int .i64 y], .int .i64 er]) ∧ Below w.heap.size w w'
  | .ok fs => fs.length ≤ 8192 ∧ (∀ f ∈ fs, f.args.length ≤ 8) ∧ ∃ v ss fs', e = .returned (.tuple #[v, .agg #[.int .i64 0, .int .i64 0], .int .i64 0]) ∧ SetV w' v ss fs' ∧ StrictF fs' ∧ (∀ f, f ∈ fs' ↔ f ∈ fs) ∧ fs'.length ≤ fs.length ∧ Below w.heap.size w w'
def PosV (W : World) (N : Nat) : Prop := W.heap[N]? = some (.cells #[.int .i64 0, .int .i64 0] 26 (0, 0))
theorem PosV.lt {W : World} {N : Nat} (h : PosV W N) : N < W.heap.size := by
  unfold PosV at h
  rcases Nat.lt_or_ge N W.heap.size with h1 | h1
  · exact h1
  · rw [Array.getElem?_eq_none h1] at h; cases h
theorem PosV.next {W W' : World} {N : Nat} (h : PosV W N) (hb : Below W.heap.size W W') : PosV W' N := (hb.block N h.lt).trans h
theorem PosV.facts {W : World} {N : Nat} (h : PosV W N) : W.cell? ⟨N, 0, none⟩ = some (.int .i64 0) ∧ W.cell? ⟨N, 1, none⟩ = some (.int .i64 0) ∧ W.frozen? ⟨N, 0, none⟩ = false ∧ W.frozen? ⟨N, 1, none⟩ = false := by
  unfold PosV at h
  exact ⟨by rw [Lib.cell_of_heap h]; rfl, by rw [Lib.cell_of_heap h]; rfl, Lib.frozen_of_heap h 0, Lib.frozen_of_heap h 1⟩
theorem PosV.noStr {W : World} {N j : Nat} {s : ByteArray} (h : PosV W N) : W.cell? ⟨N, j, none⟩ ≠ some (.string s) := by
  unfold PosV at h
  rw [Lib.cell_of_heap h]
  match j with
  | 0 => simp
  | 1 => simp
  | j + 2 => simp
theorem PosV.keep {W : World} {N : Nat} (x y : Value) {b : Nat} (hb : b ≠ N) : ((W.setCell ⟨N, 0, none⟩ x).setCell ⟨N, 1, none⟩ y).heap[b]? = W.heap[b]? :=
  (Below.heap_setCell _ _ _ b (by exact hb)).trans (Below.heap_setCell _ _ _ b (by exact hb))
theorem SetV.pos {W : World} {N : Nat} {v : Value} {ss : List SFact} {fs : List GFact} (h : SetV W v ss fs) (hp : PosV W N) (x y : Value) : SetV ((W.setCell ⟨N, 0, none⟩ x).setCell ⟨N, 1, none⟩ y) v ss fs := by
  refine ⟨?_, h.len, fun i h1 h2 => ?_⟩
  · rcases h.row with hr | ⟨ad, c, e, hr⟩
    · exact .inl hr
    · refine .inr ⟨ad, c, e, fun hn => ?_⟩
      obtain ⟨b, off, e2, hlt, hc⟩ := hr hn
      have hbn : b ≠ N := fun e3 => by
        subst e3
        exact hp.noStr (hc 0 hn 0 _ rfl)
      exact ⟨b, off, e2, by simpa using hlt, fun i hi j u hu => (World.cell?_of_block (a := ⟨b, off + (i * 2 + j), none⟩) (PosV.keep x y hbn)).trans (hc i hi j u hu)⟩
  · have hh := h.each i h1 h2
    refine ⟨hh.rel, hh.n, fun hn => ?_, hh.few⟩
    obtain ⟨b, off, e2, hlt, hc⟩ := hh.row hn
    have hbn : b ≠ N := fun e3 => by
      subst e3
      exact hp.noStr (hc 0 hn 2 _ rfl)
    exact ⟨b, off, e2, by simpa using hlt, fun i hi j u hu => (World.cell?_of_block (a := ⟨b, off + (i * 3 + j), none⟩) (PosV.keep x y hbn)).trans (hc i hi j u hu)⟩
theorem lex_count : ∀ (l : List UInt8) (k : Nat) (p : Nat × Nat) (ts : List Tok), lex k p l = .ok ts → ts.length ≤ l.length
  | [], k, p, ts, h => by
    rw [lex_nil] at h
    injection h with h
    subst h
    simp
  | c :: r, k + 1, p, ts, h => by
    rw [lex] at h
    have := lex_count r k _ ts h
    simp; omega
  | c :: r, 0, p, ts, h => by
    rw [lex] at h
    cases hs : step (c :: r) with
    | skip n =>
      rw [hs] at h
      have := lex_count r _ _ ts h
      simp; omega
    | tok kd tx v n =>
      rw [hs] at h
      simp only at h
      cases hl : lex (n - 1) (adv1 p c) r with
      | ok us =>
        rw [hl] at h
        injection h with h
        subst h
        have := lex_count r _ _ us hl
        simp; omega
      | no x y e => rw [hl] at h; cases h
    | err e => rw [hs] at h; cases h
theorem scan_count {l : List UInt8} {ts : List Tok} (h : scan l = .ok ts) : ts.length ≤ 65536 := by
  have h0 := (scan_tokB h).1
  unfold scan at h
  rw [if_neg (by omega)] at h
  have := lex_count l 0 _ ts h
  omega
set_option maxRecDepth 50000 in
set_option maxHeartbeats 1000000 in
theorem parse_any (l : List UInt8) (w : World) (hl : l.length ≤ maxLen) (hG : Glob w) :
    Calls Tryz.prog 7 #[.string ⟨l.toArray⟩] w (ParseEnd l w) := by
  have hSC := scan_any l (w.alloc (.cells #[.int .i64 0, .int .i64 0] 26)) (hG.next (bel_lit (Below.refl _ w) _)) hl
  have HPV : Hid (PosV (w.alloc (.cells #[.int .i64 0, .int .i64 0] 26)) w.heap.size) := Lib.hid (heap_alloc_new w _)
  cases hsc : scan l with
  | no x y er =>
    rw [hsc] at hSC
    unfold ScanEnd at hSC
    simp only at hSC
    have he0 := scan_err hsc
    have hne : (er : Int) ≠ 0 := by omega
    have HPA : Hid (pAll l = .no x y er) := Lib.hid (by unfold pAll; rw [hsc])
    have HNE := Lib.hid hne
    have HS := Lib.hid hSC
    generalize (er : Int) = ei at *
    generalize (x : Int) = xi at *
    generalize (y : Int) = yi at *
    have f1 : (ei != 0) = true := by simp [HNE.out]
    clear hSC hG hsc he0 hne
    go_enter Tryz.func7, Tryz.ntmps7
    go_wp2_with fail
    go_fit HS.out
    rintro e w1 ⟨rfl, hb1⟩
    have HB1 := Lib.hid (bel_alloc (Below.refl _ w) hb1)
    obtain ⟨q0, q1, z0, z1⟩ := (HPV.out.next hb1).facts
    have hz1 : w.heap.size < w1.heap.size := (HPV.out.next hb1).lt
    have HBF : Hid (Below w.heap.size w (((w1.setCell ⟨w.heap.size, 0, none⟩ (.int .i64 xi)).setCell ⟨w.heap.size, 1, none⟩ (.int .i64 yi)).alloc (.cells #[.int .i64 xi, .int .i64 yi] 26)).drew) := Lib.hid ((bel_lit ((HB1.out.setCell (p := ⟨w.heap.size, 0, none⟩) (Nat.le_refl _) _).setCell (p := ⟨w.heap.size, 1, none⟩) (Nat.le_refl _) _) _).drew)
    clear hb1 HS HPV
    go_upto_region 3 with fail
    go_region
    go_wp2
    refine bodyPost_ret (v := .tuple #[.slice none 0 0, .agg #[.int .i64 xi, .int .i64 yi], .int .i64 ei]) (by simp [results, Tryz.results7, go_sem, q0, q1, hz1]) rfl ?_
    unfold ParseEnd
    rw [HPA.out]
    exact ⟨HNE.out, rfl, HBF.out⟩
  | ok toks =>
    rw [hsc] at hSC
    unfold ScanEnd at hSC
    simp only at hSC
    have hl16 := (scan_tokB hsc).1
    have htl := scan_count hsc
    have HS := Lib.hid hSC
    have HE := Lib.hid fun W => endPos_any l W hl16
    have HTE := Lib.hid (scan_ends hsc)
    have HPA : Hid (pAll l = match pFacts (toks.map Tok.g ++ [endTok l]).length [] (toks.map Tok.g ++ [endTok l]) with
      | (e, fs, ts) => if e = 0 then .ok fs else match ts with | [] => .no 0 0 e | t :: _ => .no t.line t.col e) := Lib.hid (by unfold pAll; rw [hsc])
    have HET : Hid (endTok l = ⟨0, [], 0, (endTok l).line, (endTok l).col⟩) := Lib.hid rfl
    generalize endTok l = et at *
    obtain ⟨ek, etx, ev, x, y⟩ := et
    have het := HET.out
    simp only at het HE
    injection het with k1 k2 k3
    subst k1 k2 k3
    clear hSC hG hsc HET hl16
    go_enter Tryz.func7, Tryz.ntmps7
    go_wp2_with fail
    go_fit HS.out
    rintro e w1 ⟨v1, rfl, hown1, hb1⟩
    obtain ⟨A1, c1, rfl, _, _⟩ := hown1.row
    have HO1 := Lib.hid hown1
    have HB1 := Lib.hid (bel_alloc (Below.refl _ w) hb1)
    have HK1 := Lib.hid (HPV.out.next hb1)
    have hz1 : w.heap.size < w1.heap.size := (HPV.out.next hb1).lt
    clear hown1 hb1 HPV
    go_wp2_with fail
    go_fit (HE.out _)
    rintro e w2 ⟨rfl, hb2⟩
    have HB2 := Lib.hid hb2
    have hz2 : w1.heap.size < w2.heap.size := by have := hb2.size; simp at this; omega
    have hown2 : OwnG GTok.cells 52 5 w2 (w.heap.size + 1) (.slice A1 (toks.map Tok.g).length c1) (toks.map Tok.g) := by
      have h1 : OwnG GTok.cells 52 5 w1 (w.heap.size + 1 + 1) (.slice A1 (toks.map Tok.g).length c1) (toks.map Tok.g) := by
        have h := HO1.out
        have e : (w.alloc (.cells #[.int .i64 0, .int .i64 0] 26)).heap.size + 1 = w.heap.size + 1 + 1 := by simp
        rw [e] at h
        exact h
      exact ((h1.alloc _).next hb2).base (by omega)
    have hlit := GRow.lit GTok.len5 w2 52 [⟨0, [], 0, x, y⟩] #[.int .i64 0, .string ⟨#[]⟩, .int .u64 0, .int .i64 x, .int .i64 y] rfl (by unfold maxLen; simp)
    obtain ⟨v3, w3, hrun3, hown3, hgr3, _⟩ := OwnG.app elt_tok GTok.len5 cells_one (hown2.alloc (.cells #[.int .i64 0, .string ⟨#[]⟩, .int .u64 0, .int .i64 x, .int .i64 y] 52)) 1 hlit (by simp; omega) (by unfold maxLen; simp; omega) (by simp; omega)
    obtain ⟨A3, c3, rfl, hc3, hm3, hr3⟩ := hown3.row GTok.len5
    have HRUN := Lib.hid hrun3
    have HB3 := Lib.hid (below_of_own (bel_lit (bel_next (bel_lit HB1.out _) hb2) _) hgr3 (fun g hg => by have := (hown2.lt g hg).1; omega))
    have hs3 := hgr3.size
    have hk3 : PosV w3 w.heap.size := by
      unfold PosV
      rw [hgr3.block _ (by simp; omega) (by intro e; have := (hown2.lt _ e.symm).1; omega), Below.heap_alloc _ _ _ (by omega), hb2.block _ (by simp; omega), Below.heap_alloc _ _ _ hz1]
      exact HK1.out
    have hw3 : w.heap.size < w3.heap.size := hk3.lt
    have HK3 := Lib.hid hk3
    have HTX : Hid (TEnds (toks.map Tok.g ++ [(⟨0, [], 0, x, y⟩ : GTok)])) := HTE
    obtain ⟨t0, ts0, het0⟩ : ∃ t0 ts0, toks.map Tok.g ++ [(⟨0, [], 0, x, y⟩ : GTok)] = t0 :: ts0 := by
      cases hq : toks.map Tok.g ++ [(⟨0, [], 0, x, y⟩ : GTok)] with
      | nil => simp at hq
      | cons a b => exact ⟨a, b, rfl⟩
    rw [het0] at HPA HTX hrun3 hc3 hr3
    have HRUN2 := HRUN
    rw [het0] at HRUN2
    have hps : PS (w3.alloc (.cells #[.slice A3 (t0 :: ts0).length c3] 54)) w3.heap.size (t0 :: ts0) :=
      ⟨A3, c3, heap_alloc_new w3 _, hc3, hm3, hr3.below (Nat.le_refl _) ((Below.refl _ w3).alloc (Nat.le_refl _) _)⟩
    have HF := Lib.hid (facts_all w3.heap.size t0 ts0 _ hps HTX.out)
    generalize pFacts (t0 :: ts0).length [] (t0 :: ts0) = r at *
    obtain ⟨re, rfs, rts⟩ := r
    unfold FactsE2 at HF
    simp only at HF HPA
    simp only [List.length_singleton] at HRUN2
    rw [show (toks.map Tok.g).length = toks.length by simp] at HRUN2
    generalize (t0 :: ts0).length = tn at *
    clear hown2 hlit hrun3 hown3 hgr3 hr3 hps hb2 hk3 hc3 hm3 HRUN het0 hs3 HTE HTX
    have hsa : (w3.alloc (.cells #[.slice A3 tn c3] 54)).heap.size = w3.heap.size + 1 := by simp
    go_wp2_with (at_builtin; refine wpList_gapp HRUN2.out rfl rfl rfl rfl rfl ?_)
    go_fit HF.out
    rintro e w4 ⟨v4, ss4, rfl, hset4, hl4, ha4, hends4, hps4, hg4⟩
    obtain ⟨A4, c4, rfl⟩ := hset4.slice
    have HB4 := Lib.hid (bel_gb (bel_lit HB3.out _) (by omega) hg4)
    have HK4 : Hid (PosV w4 w.heap.size) := Lib.hid (by
      unfold PosV
      rw [hg4.block _ (by omega) (by simp; omega), Below.heap_alloc _ _ _ hw3]
      exact HK3.out)
    have hw4 : w.heap.size < w4.heap.size := HK4.out.lt
    by_cases hre : re = 0
    · subst hre
      have HPA2 : Hid (pAll l = .ok rfs) := Lib.hid (by rw [HPA.out, if_pos rfl])
      have HU := Lib.hid (setOf_facts (.slice A4 rfs.length c4) ss4 rfs w4 hset4 (by omega) (fun f hf => by have := ha4 f hf; omega))
      have HA4 := Lib.hid ha4
      clear hset4 ha4 hends4 hps4 hg4 HPA HF hsa
      go_wp2_with fail
      go_fit HU.out
      rintro e w5 ⟨v5, ss5, fs5, rfl, ho5, hset5, hst5, hm5, hl5, hb5⟩
      obtain ⟨A5, c5, rfl⟩ := hset5.slice
      obtain ⟨q0, q1, z0, z1⟩ := (HK4.out.next hb5).facts
      have HEND : Hid (ParseEnd l w (.returned (.tuple #[.slice A5 fs5.length c5, .agg #[.int .i64 0, .int .i64 0], .int .i64 0])) ((w5.setCell ⟨w.heap.size, 0, none⟩ (.int .i64 0)).setCell ⟨w.heap.size, 1, none⟩ (.int .i64 0))) := Lib.hid (by
        unfold ParseEnd
        rw [HPA2.out]
        exact ⟨hl4, HA4.out, _, ss5, fs5, rfl, hset5.pos (HK4.out.next hb5) _ _, hst5, fun f => by rw [hm5 f]; simp, by simpa using hl5, ((bel_next HB4.out hb5).setCell (p := ⟨w.heap.size, 0, none⟩) (Nat.le_refl _) _).setCell (p := ⟨w.heap.size, 1, none⟩) (Nat.le_refl _) _⟩)
      clear ho5 hset5 hst5 hm5 hl5 hb5 HU
      go_wp2
      refine bodyPost_ret (v := .tuple #[.slice A5 fs5.length c5, .agg #[.int .i64 0, .int .i64 0], .int .i64 0]) (by simp [results, Tryz.results7, go_sem, q0, q1]) rfl ?_
      exact HEND.out
    · have f1 : (re != 0) = true := by simp [hre]
      cases rts with
      | nil => exact hends4.elim
      | cons t tr =>
      have HPA2 : Hid (pAll l = .no t.line t.col re) := Lib.hid (by rw [HPA.out, if_neg hre])
      have HNE := Lib.hid hre
      obtain ⟨b, off, cp, hbp, hpw, hc1, hc2, hh, hcp, hfz, hr, x0, x1, x2, x3, x4⟩ := hps4.open
      have hbw : b < w4.heap.size := by omega
      obtain ⟨q0, q1, z0, z1⟩ := HK4.out.facts
      obtain ⟨tk, tt, tv, tln, tcl⟩ := t
      simp only at x0 x1 x2 x3 x4
      have hbn : b ≠ w.heap.size := by
        intro e
        subst e
        exact HK4.out.noStr x1
      have HEND : Hid (∀ W, Below w.heap.size w W → ParseEnd l w (.returned (.tuple #[.slice none 0 0, .agg #[.int .i64 tln, .int .i64 tcl], .int .i64 re])) W) := Lib.hid fun W hW => by
        unfold ParseEnd
        rw [HPA2.out]
        exact ⟨HNE.out, rfl, hW⟩
      have HBF := Lib.hid (((HB4.out.setCell (p := ⟨w.heap.size, 0, none⟩) (Nat.le_refl _) (.int .i64 tln)).setCell (p := ⟨w.heap.size, 1, none⟩) (Nat.le_refl _) (.int .i64 tcl)).drew)
      clear hset4 ha4 hends4 hps4 hg4 HPA HF hsa hre hh hr
      go_upto_region 7 with fail
      go_region
      go_wp2
      refine bodyPost_ret (v := .tuple #[.slice none 0 0, .agg #[.int .i64 tln, .int .i64 tcl], .int .i64 re]) (by simp [results, Tryz.results7, go_sem, q0, q1]) rfl ?_
      exact HEND.out _ HBF.out
end Go.Proofs.YtmodjokoggmnaaaGreatDoor


namespace Go.Proofs.YtmodjokoggmnaaaGreatDoor
open Go.RowKit Go.Shelf

theorem int_kind (l : List UInt8) (gs : List GTok) (s : RS) : KindsWf [(argR l gs s).1] := by
  intro v hv
  simp at hv
  subst hv
  unfold argR
  split
  · show (Lit.int .i64 1).wf = true; decide
  · split
    · show (Lit.int .i64 2).wf = true; decide
    · show (Lit.int .i64 0).wf = true; decide
theorem RowE.setV {w0 w : World} {A : Option Addr} {c : Nat} {es : List (Elem w0)} (h : RowE w A c es) (hb : Below w0.heap.size w0 w) : SetV w (.slice A es.length c) (es.map Elem.sf) (FactsE es) := by
  refine SetV.elems hb ?_
  cases A with
  | none =>
    have h0 := h.nilc rfl
    have := h.le
    have he : es = [] := List.eq_nil_of_length_eq_zero (by omega)
    subst he
    exact .inl ⟨by rw [h0]; rfl, rfl⟩
  | some ad =>
    refine .inr ⟨ad, c, by rw [List.length_map], fun hn0 => ?_⟩
    rw [List.length_map] at hn0
    obtain ⟨b, off, e, hlt, hc⟩ := h.row hn0
    refine ⟨b, off, e, hlt, fun i hi j u hu => ?_⟩
    rw [List.length_map] at hi
    rw [List.getElem_map] at hu
    exact hc i hi j u hu
theorem open_le {l : List UInt8} (hl : l.length ≤ 3000) : (openG l).length ≤ 3000 ∧ (openS l).i = 0 := by
  unfold openG openS
  cases hsc : scan l with
  | ok toks =>
    unfold scan at hsc
    rw [if_neg (by omega)] at hsc
    have := lex_count l 0 _ toks hsc
    simp
    omega
  | no x y e => simp
theorem RPS.own {W W' : World} {q : Option Nat} {p : Nat} {l : List UInt8} {gs : List GTok} {s : RS} (h : RPS W p l gs s) (hg : W.grownBy W' q) (hq : ∀ g, q = some g → p < g) : RPS W' p l gs s := by
  have hlt := h.lt
  obtain ⟨A6, c6, h6, hr6⟩ := h
  exact ⟨A6, c6, (hg.block p hlt (by intro e; have := hq p e.symm; omega)).trans h6, hr6.keep fun g hg' => hg.block g (by omega) (by intro e; have := hq g e.symm; omega)⟩
def ValV (W : World) (N : Nat) (v : GVal) : Prop := W.heap[N]? = some (.cells #[.int .i64 v.kind, .int .i64 v.int, .string ⟨v.word.toArray⟩] 40 (0, 0))
theorem ValV.lt {W : World} {N : Nat} {v : GVal} (h : ValV W N v) : N < W.heap.size := by
  rcases Nat.lt_or_ge N W.heap.size with hlt | hge
  · exact hlt
  · have : W.heap[N]? = none := by simp; omega
    unfold ValV at h
    rw [this] at h
    cases h
theorem ValV.gb {W W' : World} {N p : Nat} {v : GVal} (h : ValV W N v) (hb : W.grownBy W' (some p)) (hp : N ≠ p) : ValV W' N v := (hb.block N h.lt (by intro e; cases e; exact hp rfl)).trans h
theorem ValV.facts {W : World} {N : Nat} {v : GVal} (h : ValV W N v) : W.cell? ⟨N, 0, none⟩ = some (.int .i64 v.kind) ∧ W.cell? ⟨N, 1, none⟩ = some (.int .i64 v.int) ∧ W.cell? ⟨N, 2, none⟩ = some (.string ⟨v.word.toArray⟩) := by
  refine ⟨?_, ?_, ?_⟩ <;> (unfold World.cell?; rw [show W.heap[N]? = _ from h]; rfl)
theorem take_no {gs : List GTok} {s : RS} {k : Int} {tx : List UInt8} (h : peekR gs s k tx = false) : takeR gs s k tx = s := by unfold takeR; rw [h]; rfl
theorem take_yes {gs : List GTok} {s : RS} {k : Int} {tx : List UInt8} (h : peekR gs s k tx = true) : (takeR gs s k tx).i = s.i + 1 ∧ (takeR gs s k tx).e = s.e := by unfold takeR; rw [h]; exact ⟨rfl, rfl⟩
def InnJ (l : List UInt8) (gs : List GTok) (r : RS × List GVal) (p F K : Nat) (nm : List UInt8) (wb : World) (v7 : Value) (wr : World) : Prop :=
  ∃ m s a A c, v7 = .pointer (some ⟨F, 0, none⟩) ∧ RPS wr p l gs s ∧ FacV wr F nm (.slice A a.length c) ∧ OwnG GVal.cells 40 3 wr (F + 1) (.slice A a.length c) a ∧ a.length ≤ 8 ∧ s.i ≤ gs.length ∧ gs.length + 1 ≤ m + s.i ∧ rArgsR l gs m s a = r ∧ wb.grownBy wr (some p) ∧ K ≤ s.i ∧ (s.e = 0 → K + 1 ≤ s.i) ∧ KindsWf a
def OutJ (l : List UInt8) (gs : List GTok) (r : RS × List GFact) (p : Nat) (wo : World) (vo : Value) (wr : World) : Prop :=
  ∃ n s fs ss, RPS wr p l gs s ∧ ListI wo wr p vo ss fs ∧ s.i ≤ gs.length ∧ (s.e = 0 → fs.length ≤ s.i) ∧ fs.length ≤ gs.length + 1 ∧ (∀ f ∈ fs, f.args.length ≤ 9 ∧ KindsWf f.args) ∧ (s.e = 0 → gs.length + 1 ≤ n + s.i) ∧ rFactsR l gs n s fs = r ∧ wo.grownBy wr (some p)
theorem rFactsR_go (l : List UInt8) (gs : List GTok) (n : Nat) (s : RS) (o : List GFact) (he : s.e = 0) (hd : doneR gs s = false) (h8 : o.length < 8192) : rFactsR l gs (n + 1) s o =
    rFactsR l gs n (needR l gs (needR l gs (rArgsR l gs (gs.length + 1) (needR l gs (nameR l gs s 1) 4 [40]) []).1 4 [41]) 4 [46]) (o ++ [⟨(anyT gs s 1).text, (rArgsR l gs (gs.length + 1) (needR l gs (nameR l gs s 1) 4 [40]) []).2⟩]) := by
  rw [rFactsR, if_pos ⟨he, hd⟩]
  simp only
  rw [if_neg (by omega : ¬ 8192 ≤ o.length)]
theorem rFactsR_stop (l : List UInt8) (gs : List GTok) (n : Nat) (s : RS) (o : List GFact) (h : ¬ (s.e = 0 ∧ doneR gs s = false)) : rFactsR l gs n s o = (s, o) := by
  cases n with
  | zero => rfl
  | succ n => rw [rFactsR, if_neg h]
theorem ListI.rowE {w wr : World} {p : Nat} {vl : Value} {ss : List SFact} {fs : List GFact} (h : ListI w wr p vl ss fs) (hk : ∀ f ∈ fs, KindsWf f.args) : ∃ es : List (Elem wr), ∃ A c, FactsE es = fs ∧ es.length = fs.length ∧ vl = .slice A es.length c ∧ RowE wr A c es := by
  obtain ⟨es, e1, e2⟩ := elems_of ss fs h.len (fun i h1 h2 => (h.each i h1 h2).1)
  have hel : es.length = fs.length := by rw [← e2, List.length_map]
  obtain ⟨A, c, e, h1, h2, h3⟩ := h.own.row SFact.len
  refine ⟨es, A, c, e2, hel, by rw [e, hel, h.len], ⟨?_, by rw [hel, ← h.len]; exact h1, fun hA => ?_, h2, fun f hf => hk f (by rw [← e2]; exact hf)⟩⟩
  · rw [← e1] at h3
    intro h0
    obtain ⟨b, off, e, hlt, hc⟩ := h3 (by simpa using h0)
    exact ⟨b, off, e, hlt, fun i hi j u hu => hc i (by simpa using hi) j u (by rw [List.getElem_map]; exact hu)⟩
  · rcases h.own.2 with ⟨hv, h0⟩ | ⟨g, cap, cur, hv, _⟩
    · rw [e] at hv; injection hv
    · rw [e, hA] at hv; cases hv
set_option maxRecDepth 50000 in
set_option maxHeartbeats 4000000 in
theorem rParse_any (l : List UInt8) (w : World) (hl : l.length ≤ 3000) :
    Calls Tryz.prog 8 #[.string ⟨l.toArray⟩] w (RParseEnd (rFactsR l (openG l) ((openG l).length + 1) (openS l) []) w) := by
  have hl6 : l.length ≤ 65536 := by omega
  have HOP := Lib.hid (rOpen_any l (w.alloc (.cells #[.int .i64 0, .int .i64 0] 26)) hl6)
  unfold OpenEnd at HOP
  obtain ⟨hg3, hs0⟩ := open_le hl
  generalize openG l = gs at *
  generalize openS l = s0 at *
  generalize hr : rFactsR l gs (gs.length + 1) s0 [] = r
  have HR := Lib.hid hr
  have HPV : Hid (PosV (w.alloc (.cells #[.int .i64 0, .int .i64 0] 26)) w.heap.size) := Lib.hid (heap_alloc_new w _)
  have hnot : ∀ (x : Bool) (w : World), (Op.unary .not (.bool x)).run Tryz.prog w = .ok (.bool (!x)) w := fun _ _ => rfl
  have hsa : (w.alloc (.cells #[.int .i64 0, .int .i64 0] 26)).heap.size = w.heap.size + 1 := by simp
  clear hr
  go_enter Tryz.func8, Tryz.ntmps8
  go_wp2_with fail
  go_fit HOP.out
  rintro e wo ⟨p, rfl, hp0, hps, hbo⟩
  have hpo : p < wo.heap.size := hps.lt
  have hpN : w.heap.size < p := by omega
  have HPS := Lib.hid hps
  have HPO := Lib.hid (HPV.out.next hbo)
  have HBO := Lib.hid (bel_alloc (Below.refl _ w) hbo)
  clear hps hbo HOP hp0 hsa HPV
  go_wp2
  go_loopw [6] (fun vo wr => OutJ l gs r p wo vo wr) (fun _ wr => parM p wr)
  case atStart => exact ⟨_, s0, [], [], HPS.out, ListI.nil _ _ _, by omega, fun _ => by simp, by simp, fun f hf => by simp at hf, fun _ => Nat.le_add_right _ _, HR.out, gb_refl _⟩
  case round =>
    obtain ⟨n, s, fs, ss, hps, hli, hsi, hfi, hfl, hfa, hn, hrf, hgb⟩ := hrel
    have HPS := Lib.hid hps
    have HLI := Lib.hid hli
    have HFA := Lib.hid hfa
    have HGB := Lib.hid hgb
    have HSL := Lib.hid hli.len
    have hgs := hgb.size
    have HK := Lib.hid fun W (hW : RPS W p l gs s) => (rOK_reads hW).calls
    have HDN := Lib.hid fun W (hW : RPS W p l gs s) => (rDone_reads hW).calls
    have HMW := Lib.hid (parM_rps hps)
    obtain ⟨Ao, co, rfl, _, _, _⟩ := hli.own.row SFact.len
    clear hps hli hfa hgb
    by_cases he : s.e = 0
    case neg =>
      have he' : (s.e == 0) = false := by simp [he]
      rw [rFactsR_stop l gs n s fs (fun h => he h.1)] at hrf
      have HRF := Lib.hid hrf
      have HNE := Lib.hid he
      have HK1 := Lib.hid (HK.out _ HPS.out)
      rw [he'] at HK1
      clear hrf he hfi hfl
      go_wp2_with fail
      go_fit HK1.out
      rintro e w1 ⟨rfl, hb1⟩
      have HP1 := Lib.hid (HPS.out.next hb1)
      have HG1 := Lib.hid (gb_trans HGB.out (gb_bel hb1))
      have HK2 := Lib.hid (HK.out _ HP1.out)
      rw [he'] at HK2
      clear hb1
      go_wp2_with fail
      go_fit HK2.out
      rintro e w2 ⟨rfl, hb2⟩
      have HP2 := Lib.hid (HP1.out.next hb2)
      have HG2 := Lib.hid (gb_trans HG1.out (gb_bel hb2))
      have HPV2 : Hid (PosV w2 w.heap.size) := Lib.hid ((HG2.out.block _ HPO.out.lt (by intro e; cases e; omega)).trans HPO.out)
      obtain ⟨A, cap, hp, c0, c1, c2, c3, c4, c5, hrw, hf, hh⟩ := HP2.out.open
      obtain ⟨q0, q1, z0, z1⟩ := HPV2.out.facts
      have hw2 : w.heap.size < w2.heap.size := HPV2.out.lt
      have hne : p ≠ w.heap.size := by omega
      have HB2 := Lib.hid (bel_gb HBO.out (by omega) HG2.out)
      have HBF := Lib.hid (((HB2.out.setCell (p := ⟨w.heap.size, 0, none⟩) (Nat.le_refl _) (.int .i64 s.x)).setCell (p := ⟨w.heap.size, 1, none⟩) (Nat.le_refl _) (.int .i64 s.y)).drew)
      clear hb2 hrw hf hh HK HDN HK1 HK2
      go_upto_region 21 with fail
      go_region
      go_wp2
      refine bodyPost_ret (v := .tuple #[.slice none 0 0, .agg #[.int .i64 s.x, .int .i64 s.y], .int .i64 s.e]) (by simp [results, Tryz.results8, go_sem, q0, q1]) rfl ?_
      rw [← HRF.out]
      exact .inl ⟨HNE.out, rfl, HBF.out⟩
    have he' : (s.e == 0) = true := by simp [he]
    have HE := Lib.hid he
    have HK1 := Lib.hid (HK.out _ HPS.out)
    rw [he'] at HK1
    cases hd : doneR gs s
    case true =>
      rw [rFactsR_stop l gs n s fs (fun h => by rw [hd] at h; cases h.2)] at hrf
      have HRF := Lib.hid hrf
      clear hrf
      go_wp2_with fail
      go_fit HK1.out
      rintro e w1 ⟨rfl, hb1⟩
      have HP1 := Lib.hid (HPS.out.next hb1)
      have HG1 := Lib.hid (gb_trans HGB.out (gb_bel hb1))
      have HL1 := Lib.hid (HLI.out.gb hpo (gb_bel hb1))
      have HD1 := Lib.hid (HDN.out _ HP1.out)
      rw [hd] at HD1
      clear hb1
      go_wp2_with fail
      go_fit HD1.out
      rintro e w2 ⟨rfl, hb2⟩
      have HP2 := Lib.hid (HP1.out.next hb2)
      have HG2 := Lib.hid (gb_trans HG1.out (gb_bel hb2))
      have HL2 := Lib.hid (HL1.out.gb hpo (gb_bel hb2))
      have HK2 := Lib.hid (HK.out _ HP2.out)
      rw [he'] at HK2
      clear hb2
      go_wp2_with fail
      go_fit HK2.out
      rintro e w3 ⟨rfl, hb3⟩
      have HG3 := Lib.hid (gb_trans HG2.out (gb_bel hb3))
      have hl3 := HL2.out.gb hpo (gb_bel hb3)
      have HPV3 : Hid (PosV w3 w.heap.size) := Lib.hid ((HG3.out.block _ HPO.out.lt (by intro e; cases e; omega)).trans HPO.out)
      have HB3 := Lib.hid (bel_gb HBO.out (by omega) HG3.out)
      obtain ⟨es, A, c, hee, hel, hvl, hre⟩ := hl3.rowE (fun f hf => (HFA.out f hf).2)
      have HST := Lib.hid (rSet_any es A c w3 (Below.refl _ _) hre (by omega))
      have hssl := hl3.len
      have hv : Value.slice Ao ss.length co = .slice A es.length c := hvl
      have HEE := Lib.hid hee
      injection hv with i1 i2 i3
      subst i1 i3
      rw [← i2] at HST
      clear hb3 hl3 hre hvl HK HDN HK1 HK2 HD1 hssl hee i2
      go_wp2_with fail
      go_fit HST.out
      rintro e w4 ⟨A4, c4, es4, rfl, h1, h2, h3, h4, h5⟩
      have hset : SetV w4 (.slice A4 es4.length c4) (es4.map Elem.sf) (FactsE es4) := h1.setV h5
      obtain ⟨q0, q1, z0, z1⟩ := (HPV3.out.next h5).facts
      have HEND : Hid (RParseEnd r w (.returned (.tuple #[.slice A4 es4.length c4, .agg #[.int .i64 0, .int .i64 0], .int .i64 0])) ((w4.setCell ⟨w.heap.size, 0, none⟩ (.int .i64 0)).setCell ⟨w.heap.size, 1, none⟩ (.int .i64 0))) := Lib.hid (.inr ⟨by rw [← HRF.out]; exact HE.out, _, _, FactsE es4, rfl, hset.pos (HPV3.out.next h5) _ _, h2, fun f => by rw [h3 f, HEE.out, ← HRF.out], by rw [← HRF.out]; simp [FactsE]; omega, ((bel_next HB3.out h5).setCell (p := ⟨w.heap.size, 0, none⟩) (Nat.le_refl _) _).setCell (p := ⟨w.heap.size, 1, none⟩) (Nat.le_refl _) _⟩)
      clear h1 h2 h3 h4 h5 hset HST
      go_wp2
      refine bodyPost_ret (v := .tuple #[.slice A4 es4.length c4, .agg #[.int .i64 0, .int .i64 0], .int .i64 0]) (by simp [results, Tryz.results8, go_sem, q0, q1]) rfl ?_
      exact HEND.out
    case false =>
      have hil : s.i < gs.length := by
        unfold doneR at hd
        simp at hd
        omega
      have h8 : fs.length < 8192 := by have := hfi he; omega
      have f8 : decide ((8192 : Int) ≤ (ss.length : Int)) = false := by have := HSL.out; simp; omega
      have g8 : ¬ (8192 : Int) ≤ (ss.length : Int) := by have := HSL.out; omega
      obtain ⟨n, rfl⟩ : ∃ m, n = m + 1 := ⟨n - 1, by have := hn he; omega⟩
      have HN := Lib.hid (hn he)
      clear hn
      rw [rFactsR_go l gs n s fs he hd h8] at hrf
      have hn1 := name_mono l gs s 1
      have hnl := name_le l gs s 1 hsi
      have hq1 := need_i l gs (nameR l gs s 1) 4 [40] hnl
      have HNM := Lib.hid fun W (hW : RPS W p l gs s) => rName_any p l gs s 1 W hW hl6 (by omega) hsi
      have HND := Lib.hid fun W (hW : RPS W p l gs (nameR l gs s 1)) => rNeed_any p l gs (nameR l gs s 1) 4 [40] W hW hl6 (by omega)
      have HFI := Lib.hid (hfi he)
      generalize nameR l gs s 1 = s1 at *
      generalize needR l gs s1 4 [40] = s3 at *
      generalize (anyT gs s 1).text = nm at *
      generalize hr1 : rArgsR l gs (gs.length + 1) s3 [] = r1 at *
      have HR1 := Lib.hid hr1
      have HRF := Lib.hid hrf
      have hk3 : s.i ≤ s3.i := by omega
      have HK3 : Hid (s3.e = 0 → s.i + 1 ≤ s3.i) := Lib.hid fun h => by have := (hn1.2 (hq1.2.2 h)).2; omega
      have HS3 := Lib.hid hq1.1
      clear hr1 hrf hn1 hfi he
      go_wp2_with fail
      go_fit HK1.out
      rintro e w1 ⟨rfl, hb1⟩
      have HP1 := Lib.hid (HPS.out.next hb1)
      have HG1 := Lib.hid (gb_trans HGB.out (gb_bel hb1))
      have HL1 := Lib.hid (HLI.out.gb hpo (gb_bel hb1))
      have HD1 := Lib.hid (HDN.out _ HP1.out)
      rw [hd] at HD1
      clear hb1 hd
      go_wp2_with fail
      go_fit HD1.out
      rintro e w2 ⟨rfl, hb2⟩
      have HP2 := Lib.hid (HP1.out.next hb2)
      have HG2 := Lib.hid (gb_trans HG1.out (gb_bel hb2))
      have HL2 := Lib.hid (HL1.out.gb hpo (gb_bel hb2))
      clear hb2
      go_wp2_with fail
      go_fit (HNM.out _ HP2.out)
      rintro e wb ⟨rfl, hps, hg3⟩
      have hpb : p < wb.heap.size := hps.lt
      have HPB := Lib.hid (hps.next (Below.alloc (Below.refl wb.heap.size wb) (Nat.le_refl _) (.cells #[.string ⟨nm.toArray⟩, .slice none 0 0] 37)))
      have HGB3 := Lib.hid (gb_trans HG2.out hg3)
      have HLB := Lib.hid (HL2.out.gb hpo hg3)
      have HFB : Hid (FacV (wb.alloc (.cells #[.string ⟨nm.toArray⟩, .slice none 0 0] 37)) wb.heap.size nm (.slice none 0 0)) := Lib.hid (heap_alloc_new wb _)
      have HGA := Lib.hid (gb_lit (gb_refl (p := some p) wb) (.cells #[.string ⟨nm.toArray⟩, .slice none 0 0] 37))
      clear hps hg3 HK1 HD1 HK HDN
      go_wp2_with fail
      go_fit (HND.out _ HPB.out)
      rintro e wi ⟨rfl, hps, hg4⟩
      have HPI := Lib.hid hps
      have HGI := Lib.hid (gb_trans HGA.out hg4)
      have HFV := Lib.hid (HFB.out.gb hg4 (by omega))
      clear hps hg4 HND HNM HPB HFB
      generalize hF : wb.heap.size = F at *
      go_wp2
      go_loopw [8] (fun _ wr => InnJ l gs r1 p F s.i nm wb (.pointer (some ⟨F, 0, none⟩)) wr) (fun _ wr => parM p wr)
      case atStart => exact ⟨gs.length + 1, s3, [], none, 0, rfl, HPI.out, HFV.out, OwnG.nil _ _, by simp, HS3.out, Nat.le_add_right _ _, HR1.out, HGI.out, hk3, HK3.out, fun v hv => by simp at hv⟩
      case round =>
        obtain ⟨m, t, a, A, c, _, hps, hfv, hown, ha8, hti, hm, hra, hgr, hkt, hkt2, hka⟩ := hrel
        have HPT := Lib.hid hps
        have HFT := Lib.hid hfv
        have HOT := Lib.hid hown
        have HGT := Lib.hid hgr
        have HKA := Lib.hid hka
        have HKT2 := Lib.hid hkt2
        have HMT := Lib.hid (parM_rps hps)
        have HTK := Lib.hid (rOK_reads hps).calls
        clear hps hfv hown hgr hka hkt2
        by_cases het : t.e = 0
        case neg =>
          have het' : (t.e == 0) = false := by simp [het]
          rw [rArgsR_stop l gs m t a het] at hra
          have HRX := Lib.hid hra
          rw [het'] at HTK
          have HXE : Hid (t.e = 0 → s.i + 1 ≤ t.i) := Lib.hid fun h => absurd h het
          clear hra het
          go_wp2_with fail
          go_fit HTK.out
          rintro e x1 ⟨rfl, hb1⟩
          have HPX := Lib.hid (HPT.out.next hb1)
          have HFX := Lib.hid (HFT.out.next hb1)
          have HOX := Lib.hid (HOT.out.next hb1)
          have HGX := Lib.hid (gb_trans HGT.out (gb_bel hb1))
          clear hb1 HTK
          have ht1 := need_i l gs t 4 [41] hti
          have ht2 := need_i l gs (needR l gs t 4 [41]) 4 [46] ht1.1
          have HN1 := Lib.hid fun W (hW : RPS W p l gs t) => rNeed_any p l gs t 4 [41] W hW hl6 (by omega)
          have HN2 := Lib.hid fun W (hW : RPS W p l gs (needR l gs t 4 [41])) => rNeed_any p l gs (needR l gs t 4 [41]) 4 [46] W hW hl6 (by omega)
          have hrf := HRF.out
          rw [← HRX.out] at hrf
          simp only at hrf
          have HRF2 := Lib.hid hrf
          have HEND2 : Hid ((needR l gs (needR l gs t 4 [41]) 4 [46]).e = 0 → s.i + 1 ≤ (needR l gs (needR l gs t 4 [41]) 4 [46]).i) := Lib.hid fun h => by have := HXE.out (ht1.2.2 (ht2.2.2 h)); omega
          have hi2 : s.i ≤ (needR l gs (needR l gs t 4 [41]) 4 [46]).i := by omega
          have hi3 := ht2.1
          clear hrf ht2
          go_wp2_with fail
          go_fit (HN1.out _ HPX.out)
          rintro e y1 ⟨rfl, hps, hg⟩
          have HPY := Lib.hid hps
          have HFY := Lib.hid (HFX.out.gb hg (by omega))
          have HOY := Lib.hid (HOX.out.gb (by omega) hg)
          have HGY := Lib.hid (gb_trans HGX.out hg)
          clear hps hg HN1
          go_wp2_with fail
          go_fit (HN2.out _ HPY.out)
          rintro e y2 ⟨rfl, hps, hg⟩
          have HPZ := Lib.hid hps
          have HFZ := Lib.hid (HFY.out.gb hg (by omega))
          have HOZ := Lib.hid (HOY.out.gb (by omega) hg)
          have HGZ := Lib.hid (gb_trans HGY.out hg)
          have HLZ := Lib.hid (HLB.out.gb hpo HGZ.out)
          clear hps hg HN2
          obtain ⟨d0, d1, _⟩ := HFZ.out.facts
          obtain ⟨Ax, cx, hax, _, _, hrx⟩ := HOZ.out.row GVal.len
          injection hax with i1 i2 i3
          subst i1 i3
          have hs2 : F < y2.heap.size := HFZ.out.lt
          have hlit := GRow.lit SFact.len y2 37 [⟨nm, A, a.length, c⟩] #[.string ⟨nm.toArray⟩, .slice A a.length c] rfl (by unfold maxLen; simp)
          obtain ⟨v', y3, hrun, hown3, hgr3, hob⟩ := OwnG.app elt_fact SFact.len SFact.one (HLZ.out.own.alloc (.cells #[.string ⟨nm.toArray⟩, .slice A a.length c] 37)) 1 hlit (by have := HGZ.out.size; have := HGB3.out.size; simp; omega) (by have := HSL.out; unfold maxLen; simp; omega) (by have := HSL.out; simp; omega)
          have hap : ∀ o : Option Nat, (∀ g, o = some g → g ≤ F) → Apart o ⟨nm, A, a.length, c⟩ ⟨nm, a⟩ := fun o ho h0 b off e e2 => by
            have h1 := ho _ e2
            rcases HOZ.out.2 with ⟨hv, h00⟩ | ⟨g, cap, cur, hv, hbs, _⟩
            · simp at h0; omega
            · simp only at e
              rw [e] at hv
              cases hv
              omega
          have HL3 := Lib.hid (HLZ.out.step (s := ⟨nm, A, a.length, c⟩) (f := ⟨nm, a⟩) (bel_lit (Below.refl _ y2) _) hgr3 hown3 hob ⟨rfl, rfl, hrx.next (bel_lit (Below.refl y2.heap.size y2) _), by simp; omega⟩ (hap _ fun g hg => by have := (HLB.out.own.lt g hg).2; omega) (hap _ fun g hg => by cases hg; omega))
          have hq : ∀ g, Value.ownBlock (.slice Ao ss.length co) = some g → wo.heap.size ≤ g := fun g hg => (HLB.out.own.lt g hg).1
          have HG3 := Lib.hid (gb_own (gb_lit (gb_trans HGB3.out HGZ.out) (.cells #[.string ⟨nm.toArray⟩, .slice A a.length c] 37)) hgr3 hq)
          have HP3 : Hid (RPS y3 p l gs (needR l gs (needR l gs t 4 [41]) 4 [46])) := Lib.hid (by
            obtain ⟨A6, c6, h6, hr6⟩ := HPZ.out
            refine ⟨A6, c6, (hgr3.block p (by have := HPZ.out.lt; simp; omega) (by intro e; have := hq p e.symm; omega)).trans ((Below.heap_alloc _ _ p HPZ.out.lt).trans h6), hr6.keep fun g hg => (hgr3.block g (by have := HPZ.out.lt; simp; omega) (by intro e; have := hq g e.symm; omega)).trans (Below.heap_alloc _ _ g (by have := HPZ.out.lt; omega))⟩)
          obtain ⟨A3, cap3, rfl, _, _, _⟩ := hown3.row SFact.len
          have HRUN := Lib.hid hrun
          have HM3 := Lib.hid (parM_rps HP3.out)
          simp only [List.length_singleton, List.length_append] at HRUN HL3
          clear hlit hrun hown3 hgr3 hob hap hq hrx
          go_wp2_with (at_builtin; refine wpList_gapp HRUN.out rfl rfl rfl rfl rfl ?_)
          go_roundw
          case rel => exact ⟨n, _, fs ++ [⟨nm, a⟩], _, HP3.out, HL3.out, hi3, fun h => by have := HEND2.out h; have := HFI.out; simp; omega, by have := HFI.out; simp; omega, fun f hf => by
            rcases List.mem_append.1 hf with h | h
            · exact HFA.out f h
            · simp at h; subst h; exact ⟨by simp; omega, HKA.out⟩, fun h => by have := HEND2.out h; have := HN.out; omega, HRF2.out, HG3.out⟩
          case measure =>
            rw [HM3.out, HMW.out, if_pos HE.out]
            have := HEND2.out
            split
            · have := this (by assumption); omega
            · omega
        have het' : (t.e == 0) = true := by simp [het]
        rw [het'] at HTK
        have HET := Lib.hid het
        obtain ⟨m, rfl⟩ : ∃ k, m = k + 1 := ⟨m - 1, by omega⟩
        rw [rArgsR_step l gs m t a het] at hra
        have HRA := Lib.hid hra
        clear hra het
        have hal := arg_le l gs (midS l gs t a.length) (by rw [mid_i]; exact hti)
        have HKV := Lib.hid (int_kind l gs (midS l gs t a.length))
        by_cases hlt : a.length < 8
        case pos =>
          have f8' : decide ((8 : Int) ≤ (a.length : Int)) = false := by simp; omega
          have g8' : ¬ (8 : Int) ≤ (a.length : Int) := by omega
          have hmid : midS l gs t a.length = t := by unfold midS; rw [if_neg (by omega)]
          have hend : endS l gs t a.length = (argR l gs t).2 := by unfold endS; rw [if_neg (by omega), hmid]
          rw [hend] at HRA
          clear hend
          rw [hmid] at HRA hal HKV
          have HAR := Lib.hid fun W (hW : RPS W p l gs t) => rArgument_any p l gs t W hW hl6 (by omega) hti
          have hms := (rfl : t.i = t.i)
          rw [hms] at hal
          generalize argR l gs t = q at *
          obtain ⟨⟨vk, vi, vw⟩, sx⟩ := q
          simp only [GVal.val] at HRA HAR hal HKV
          generalize sx = s9 at *
          have HTA := Lib.hid fun W (hW : RPS W p l gs s9) => rTake_any p l gs s9 4 [44] W hW (by omega)
          have hl8 : (a ++ [(⟨vk, vi, vw⟩ : GVal)]).length = a.length + 1 := by simp
          have HKA2 : Hid (KindsWf (a ++ [⟨vk, vi, vw⟩])) := Lib.hid fun v hv => (List.mem_append.1 hv).elim (HKA.out v) (HKV.out v)
          clear hmid hms HKV
          go_wp2_with fail
          go_fit HTK.out
          rintro e x1 ⟨rfl, hb1⟩
          have HPX := Lib.hid (HPT.out.next hb1)
          have HFX := Lib.hid (HFT.out.next hb1)
          have HOX := Lib.hid (HOT.out.next hb1)
          have HGX := Lib.hid (gb_trans HGT.out (gb_bel hb1))
          clear hb1 HTK
          obtain ⟨d0, d1, _⟩ := HFX.out.facts
          obtain ⟨_, _, _, c0, c1, c2, c3, c4, c5, _, _, _⟩ := HPX.out.open
          go_wp2_with fail
          go_fit (HAR.out _ HPX.out)
          rintro e x2 ⟨rfl, hps, hg⟩
          have HPY := Lib.hid (hps.next (bel_lit (Below.refl _ x2) (.cells #[.int .i64 vk, .int .i64 vi, .string ⟨vw.toArray⟩] 40)))
          have HFY := Lib.hid ((HFX.out.gb hg (by omega)).next (bel_lit (Below.refl _ x2) (.cells #[.int .i64 vk, .int .i64 vi, .string ⟨vw.toArray⟩] 40)))
          have HOY := Lib.hid ((HOX.out.gb (by omega) hg).alloc (.cells #[.int .i64 vk, .int .i64 vi, .string ⟨vw.toArray⟩] 40))
          have HGY := Lib.hid (gb_lit (gb_trans HGX.out hg) (.cells #[.int .i64 vk, .int .i64 vi, .string ⟨vw.toArray⟩] 40))
          have HVY : Hid (ValV (x2.alloc (.cells #[.int .i64 vk, .int .i64 vi, .string ⟨vw.toArray⟩] 40)) x2.heap.size ⟨vk, vi, vw⟩) := Lib.hid (heap_alloc_new x2 _)
          have hx2 : F + 1 ≤ x2.heap.size := by have := HGX.out.size; have := hg.size; have := HFX.out.lt; omega
          have hx3 : (x2.alloc (.cells #[.int .i64 vk, .int .i64 vi, .string ⟨vw.toArray⟩] 40)).heap.size = x2.heap.size + 1 := by simp
          clear hps hg HAR c0 c1 c2 c3 c4 c5 d0 d1
          obtain ⟨d0, d1, _⟩ := HFY.out.facts
          have HPZ := HPY
          have HFZ := HFY
          have HOZ := HOY
          have HGZ := HGY
          have HVZ := HVY
          obtain ⟨d0, d1, d2⟩ := HFZ.out.facts
          obtain ⟨z0, z1, z2⟩ := HVZ.out.facts
          simp only at z0 z1 z2
          have hlit := GRow.lit GVal.len (x2.alloc (.cells #[.int .i64 vk, .int .i64 vi, .string ⟨vw.toArray⟩] 40)) 40 [(⟨vk, vi, vw⟩ : GVal)] #[.int .i64 vk, .int .i64 vi, .string ⟨vw.toArray⟩] rfl (by unfold maxLen; simp)
          obtain ⟨v', w3, hrun, hown3, hgr3, _⟩ := OwnG.app elt_val GVal.len GVal.one (HOZ.out.alloc (.cells #[.int .i64 vk, .int .i64 vi, .string ⟨vw.toArray⟩] 40)) 1 hlit (by have := HFZ.out.lt; simp; omega) (by unfold maxLen; simp; omega) (by simp; omega)
          have hq : ∀ g, Value.ownBlock (.slice A a.length c) = some g → F + 1 ≤ g := fun g hg => (HOZ.out.lt g hg).1
          generalize hA2 : a ++ [(⟨vk, vi, vw⟩ : GVal)] = a2 at *
          obtain ⟨A3, cap3, rfl, _, _, _⟩ := hown3.row GVal.len
          have HPQ : Hid (RPS (w3.setCell ⟨F, 1, none⟩ (.slice A3 a2.length cap3)) p l gs s9) := Lib.hid (((HPZ.out.next (bel_lit (Below.refl _ _) (.cells #[.int .i64 vk, .int .i64 vi, .string ⟨vw.toArray⟩] 40))).own hgr3 (fun g hg => by have := hq g hg; omega)).other _ _ (by show p < F; omega))
          have hfz := HFZ.out.next (bel_lit (Below.refl _ _) (.cells #[.int .i64 vk, .int .i64 vi, .string ⟨vw.toArray⟩] 40))
          have hf3 : FacV w3 F nm (.slice A a.length c) := (hgr3.block F hfz.lt (by intro e; have := hq F e.symm; omega)).trans hfz
          have HFQ := Lib.hid (hf3.set (.slice A3 a2.length cap3))
          have HOQ := Lib.hid (hown3.keep fun g hg => heap_setCell_other w3 ⟨F, 1, none⟩ g (.slice A3 a2.length cap3) (by have := (hown3.lt g hg).1; show g ≠ F; omega))
          have HGQ := Lib.hid (gb_new (gb_own (gb_lit HGZ.out (.cells #[.int .i64 vk, .int .i64 vi, .string ⟨vw.toArray⟩] 40)) hgr3 (fun g hg => by have := hq g hg; omega)) ⟨F, 1, none⟩ (.slice A3 a2.length cap3) (by show wb.heap.size ≤ F; omega))
          obtain ⟨_, _, f2⟩ := hf3.facts
          have HRUN := Lib.hid hrun
          simp only [List.length_singleton] at HRUN
          rw [hx3] at HRUN
          have HL8 := Lib.hid hl8
          clear hl8 hlit hrun hown3 hgr3 hq hfz hf3
          go_wp2_with (at_builtin; refine wpList_gapp HRUN.out rfl rfl rfl rfl rfl ?_)
          have HTC := Lib.hid (HTA.out _ HPQ.out)
          clear HTA
          cases hpk : peekR gs s9 4 [44]
          case true =>
            rw [hpk, if_pos rfl] at HRA
            rw [hpk] at HTC
            have htk := take_yes hpk
            have he9 : s9.e = 0 := by
              by_cases h : s9.e = 0
              · exact h
              · rw [peek_no 4 [44] h] at hpk; cases hpk
            have htl := take_le gs s9 4 [44] hal.1
            clear hpk
            go_wp2_with fail
            go_fit HTC.out
            rintro e y1 ⟨rfl, hps, hg⟩
            have HP6 := Lib.hid hps
            have HF6 := Lib.hid (HFQ.out.gb hg (by omega))
            have HO6 := Lib.hid (HOQ.out.gb (by omega) hg)
            have HG6 := Lib.hid (gb_trans HGQ.out hg)
            have HM6 := Lib.hid (parM_rps hps)
            clear hps hg
            go_wp2
            go_roundw
            case rel => exact ⟨m, _, a2, A3, cap3, rfl, HP6.out, HF6.out, HO6.out, by rw [HL8.out]; omega, htl, by omega, HRA.out, HG6.out, by omega, fun _ => by omega, HKA2.out⟩
            case measure =>
              rw [HM6.out, HMT.out, if_pos HET.out, htk.1]
              split <;> omega
          case false =>
            rw [hpk, if_neg (by simp)] at HRA
            rw [hpk, take_no hpk] at HTC
            have HRX : Hid ((s9, a2) = r1) := HRA
            have HXE : Hid (s9.e = 0 → s.i + 1 ≤ s9.i) := Lib.hid fun _ => by have := HKT2.out HET.out; omega
            have ha9 : a2.length ≤ 9 := by rw [HL8.out]; omega
            have h9i := hal.1
            clear hpk
            go_wp2_with fail
            go_fit HTC.out
            rintro e y0 ⟨rfl, hps, hg⟩
            have HPX := Lib.hid hps
            have HFX := Lib.hid (HFQ.out.gb hg (by omega))
            have HOX := Lib.hid (HOQ.out.gb (by omega) hg)
            have HGX := Lib.hid (gb_trans HGQ.out hg)
            clear hps hg HTC
            have ht1 := need_i l gs s9 4 [41] h9i
            have ht2 := need_i l gs (needR l gs s9 4 [41]) 4 [46] ht1.1
            have HN1 := Lib.hid fun W (hW : RPS W p l gs s9) => rNeed_any p l gs s9 4 [41] W hW hl6 (by omega)
            have HN2 := Lib.hid fun W (hW : RPS W p l gs (needR l gs s9 4 [41])) => rNeed_any p l gs (needR l gs s9 4 [41]) 4 [46] W hW hl6 (by omega)
            have hrf := HRF.out
            rw [← HRX.out] at hrf
            simp only at hrf
            have HRF2 := Lib.hid hrf
            have HEND2 : Hid ((needR l gs (needR l gs s9 4 [41]) 4 [46]).e = 0 → s.i + 1 ≤ (needR l gs (needR l gs s9 4 [41]) 4 [46]).i) := Lib.hid fun h => by have := HXE.out (ht1.2.2 (ht2.2.2 h)); omega
            have hi2 : s.i ≤ (needR l gs (needR l gs s9 4 [41]) 4 [46]).i := by omega
            have hi3 := ht2.1
            clear hrf ht2
            go_wp2_with fail
            go_fit (HN1.out _ HPX.out)
            rintro e y1 ⟨rfl, hps, hg⟩
            have HPY := Lib.hid hps
            have HFY := Lib.hid (HFX.out.gb hg (by omega))
            have HOY := Lib.hid (HOX.out.gb (by omega) hg)
            have HGY := Lib.hid (gb_trans HGX.out hg)
            clear hps hg HN1
            go_wp2_with fail
            go_fit (HN2.out _ HPY.out)
            rintro e y2 ⟨rfl, hps, hg⟩
            have HPZ := Lib.hid hps
            have HFZ := Lib.hid (HFY.out.gb hg (by omega))
            have HOZ := Lib.hid (HOY.out.gb (by omega) hg)
            have HGZ := Lib.hid (gb_trans HGY.out hg)
            have HLZ := Lib.hid (HLB.out.gb hpo HGZ.out)
            clear hps hg HN2
            obtain ⟨d0, d1, _⟩ := HFZ.out.facts
            obtain ⟨Ax, cx, hax, _, _, hrx⟩ := HOZ.out.row GVal.len
            injection hax with i1 i2 i3
            subst i1 i3
            have hs2 : F < y2.heap.size := HFZ.out.lt
            have hlit := GRow.lit SFact.len y2 37 [⟨nm, A3, a2.length, cap3⟩] #[.string ⟨nm.toArray⟩, .slice A3 a2.length cap3] rfl (by unfold maxLen; simp)
            obtain ⟨v', y3, hrun, hown3, hgr3, hob⟩ := OwnG.app elt_fact SFact.len SFact.one (HLZ.out.own.alloc (.cells #[.string ⟨nm.toArray⟩, .slice A3 a2.length cap3] 37)) 1 hlit (by have := HGZ.out.size; have := HGB3.out.size; simp; omega) (by have := HSL.out; unfold maxLen; simp; omega) (by have := HSL.out; simp; omega)
            have hap : ∀ o : Option Nat, (∀ g, o = some g → g ≤ F) → Apart o ⟨nm, A3, a2.length, cap3⟩ ⟨nm, a2⟩ := fun o ho h0 b off e e2 => by
              have h1 := ho _ e2
              rcases HOZ.out.2 with ⟨hv, h00⟩ | ⟨g, cap, cur, hv, hbs, _⟩
              · simp at h0; omega
              · simp only at e
                rw [e] at hv
                cases hv
                omega
            have HL3 := Lib.hid (HLZ.out.step (s := ⟨nm, A3, a2.length, cap3⟩) (f := ⟨nm, a2⟩) (bel_lit (Below.refl _ y2) _) hgr3 hown3 hob ⟨rfl, rfl, hrx.next (bel_lit (Below.refl y2.heap.size y2) _), by simp; omega⟩ (hap _ fun g hg => by have := (HLB.out.own.lt g hg).2; omega) (hap _ fun g hg => by cases hg; omega))
            have hq : ∀ g, Value.ownBlock (.slice Ao ss.length co) = some g → wo.heap.size ≤ g := fun g hg => (HLB.out.own.lt g hg).1
            have HG3 := Lib.hid (gb_own (gb_lit (gb_trans HGB3.out HGZ.out) (.cells #[.string ⟨nm.toArray⟩, .slice A3 a2.length cap3] 37)) hgr3 hq)
            have HP3 : Hid (RPS y3 p l gs (needR l gs (needR l gs s9 4 [41]) 4 [46])) := Lib.hid (by
              obtain ⟨A6, c6, h6, hr6⟩ := HPZ.out
              refine ⟨A6, c6, (hgr3.block p (by have := HPZ.out.lt; simp; omega) (by intro e; have := hq p e.symm; omega)).trans ((Below.heap_alloc _ _ p HPZ.out.lt).trans h6), hr6.keep fun g hg => (hgr3.block g (by have := HPZ.out.lt; simp; omega) (by intro e; have := hq g e.symm; omega)).trans (Below.heap_alloc _ _ g (by have := HPZ.out.lt; omega))⟩)
            obtain ⟨A3, cap3, rfl, _, _, _⟩ := hown3.row SFact.len
            have HRUN := Lib.hid hrun
            have HM3 := Lib.hid (parM_rps HP3.out)
            simp only [List.length_singleton, List.length_append] at HRUN HL3
            clear hlit hrun hown3 hgr3 hob hap hq hrx
            go_wp2_with (at_builtin; refine wpList_gapp HRUN.out rfl rfl rfl rfl rfl ?_)
            go_roundw
            case rel => exact ⟨n, _, fs ++ [⟨nm, a2⟩], _, HP3.out, HL3.out, hi3, fun h => by have := HEND2.out h; have := HFI.out; simp; omega, by have := HFI.out; simp; omega, fun f hf => by
              rcases List.mem_append.1 hf with h | h
              · exact HFA.out f h
              · simp at h; subst h; exact ⟨by simp; omega, HKA2.out⟩, fun h => by have := HEND2.out h; have := HN.out; omega, HRF2.out, HG3.out⟩
            case measure =>
              rw [HM3.out, HMW.out, if_pos HE.out]
              have := HEND2.out
              split
              · have := this (by assumption); omega
              · omega
        cases hpe : peekR gs t 4 [45]
        case true =>
          have f8' : decide ((8 : Int) ≤ (a.length : Int)) = true := by simp; omega
          have g8' : (8 : Int) ≤ (a.length : Int) := by omega
          have hmid : midS l gs t a.length = (failR l gs t t.i 15) := by unfold midS; rw [if_pos ⟨by omega, hpe⟩]
          have hend : endS l gs t a.length = failR l gs (argR l gs (failR l gs t t.i 15)).2 t.i 15 := by unfold endS; rw [if_pos (by omega), hmid]
          rw [hend] at HRA
          clear hend
          have HFL1 := Lib.hid fun W (hW : RPS W p l gs t) => rFail_any p l gs t t.i 15 W hW hl6 (fun _ => by omega)
          rw [hmid] at HRA hal HKV
          have HAR := Lib.hid fun W (hW : RPS W p l gs (failR l gs t t.i 15)) => rArgument_any p l gs (failR l gs t t.i 15) W hW hl6 (by omega) (by rw [failR_i]; exact hti)
          have hms := failR_i l gs t t.i 15
          rw [hms] at hal
          generalize argR l gs (failR l gs t t.i 15) = q at *
          obtain ⟨⟨vk, vi, vw⟩, sx⟩ := q
          simp only [GVal.val] at HRA HAR hal HKV
          have HFL2 := Lib.hid fun W (hW : RPS W p l gs sx) => rFail_any p l gs sx t.i 15 W hW hl6 (fun _ => by omega)
          have h9e := failR_e l gs sx t.i 15 (by omega)
          have h9 := failR_i l gs sx t.i 15
          generalize failR l gs sx t.i 15 = s9 at *
          rw [← h9] at hal
          clear h9
          have HTA := Lib.hid fun W (hW : RPS W p l gs s9) => rTake_any p l gs s9 4 [44] W hW (by omega)
          have hl8 : (a ++ [(⟨vk, vi, vw⟩ : GVal)]).length = a.length + 1 := by simp
          have HKA2 : Hid (KindsWf (a ++ [⟨vk, vi, vw⟩])) := Lib.hid fun v hv => (List.mem_append.1 hv).elim (HKA.out v) (HKV.out v)
          clear hmid hms HKV
          go_wp2_with fail
          go_fit HTK.out
          rintro e x1 ⟨rfl, hb1⟩
          have HPX := Lib.hid (HPT.out.next hb1)
          have HFX := Lib.hid (HFT.out.next hb1)
          have HOX := Lib.hid (HOT.out.next hb1)
          have HGX := Lib.hid (gb_trans HGT.out (gb_bel hb1))
          clear hb1 HTK
          obtain ⟨d0, d1, _⟩ := HFX.out.facts
          obtain ⟨_, _, _, c0, c1, c2, c3, c4, c5, _, _, _⟩ := HPX.out.open
          have HPK := Lib.hid (rPeek_calls 4 [45] HPX.out)
          rw [hpe] at HPK
          go_wp2_with fail
          go_fit HPK.out
          rintro e xa ⟨rfl, hb1⟩
          have HPX := Lib.hid (HPX.out.next hb1)
          have HFX := Lib.hid (HFX.out.next hb1)
          have HOX := Lib.hid (HOX.out.next hb1)
          have HGX := Lib.hid (gb_trans HGX.out (gb_bel hb1))
          clear hb1 HPK d0 d1 c0 c1 c2 c3 c4 c5
          obtain ⟨d0, d1, _⟩ := HFX.out.facts
          obtain ⟨_, _, _, c0, c1, c2, c3, c4, c5, _, _, _⟩ := HPX.out.open
          go_wp2_with fail
          go_fit (HFL1.out _ HPX.out)
          rintro e xb ⟨rfl, hps, hg⟩
          have HPX := Lib.hid hps
          have HFX := Lib.hid (HFX.out.gb hg (by omega))
          have HOX := Lib.hid (HOX.out.gb (by omega) hg)
          have HGX := Lib.hid (gb_trans HGX.out hg)
          clear hps hg d0 d1 c0 c1 c2 c3 c4 c5
          obtain ⟨d0, d1, _⟩ := HFX.out.facts
          obtain ⟨_, _, _, c0, c1, c2, c3, c4, c5, _, _, _⟩ := HPX.out.open
          go_wp2_with fail
          go_fit (HAR.out _ HPX.out)
          rintro e x2 ⟨rfl, hps, hg⟩
          have HPY := Lib.hid (hps.next (bel_lit (Below.refl _ x2) (.cells #[.int .i64 vk, .int .i64 vi, .string ⟨vw.toArray⟩] 40)))
          have HFY := Lib.hid ((HFX.out.gb hg (by omega)).next (bel_lit (Below.refl _ x2) (.cells #[.int .i64 vk, .int .i64 vi, .string ⟨vw.toArray⟩] 40)))
          have HOY := Lib.hid ((HOX.out.gb (by omega) hg).alloc (.cells #[.int .i64 vk, .int .i64 vi, .string ⟨vw.toArray⟩] 40))
          have HGY := Lib.hid (gb_lit (gb_trans HGX.out hg) (.cells #[.int .i64 vk, .int .i64 vi, .string ⟨vw.toArray⟩] 40))
          have HVY : Hid (ValV (x2.alloc (.cells #[.int .i64 vk, .int .i64 vi, .string ⟨vw.toArray⟩] 40)) x2.heap.size ⟨vk, vi, vw⟩) := Lib.hid (heap_alloc_new x2 _)
          have hx2 : F + 1 ≤ x2.heap.size := by have := HGX.out.size; have := hg.size; have := HFX.out.lt; omega
          have hx3 : (x2.alloc (.cells #[.int .i64 vk, .int .i64 vi, .string ⟨vw.toArray⟩] 40)).heap.size = x2.heap.size + 1 := by simp
          clear hps hg HAR c0 c1 c2 c3 c4 c5 d0 d1
          obtain ⟨d0, d1, _⟩ := HFY.out.facts
          go_wp2_with fail
          go_fit (HFL2.out _ HPY.out)
          rintro e x4 ⟨rfl, hps, hg⟩
          have HPZ := Lib.hid hps
          have HFZ := Lib.hid (HFY.out.gb hg (by omega))
          have HOZ := Lib.hid (HOY.out.gb (by omega) hg)
          have HGZ := Lib.hid (gb_trans HGY.out hg)
          have HVZ := Lib.hid (HVY.out.gb hg (by omega))
          clear hps hg d0 d1
          obtain ⟨d0, d1, d2⟩ := HFZ.out.facts
          obtain ⟨z0, z1, z2⟩ := HVZ.out.facts
          simp only at z0 z1 z2
          have hlit := GRow.lit GVal.len x4 40 [(⟨vk, vi, vw⟩ : GVal)] #[.int .i64 vk, .int .i64 vi, .string ⟨vw.toArray⟩] rfl (by unfold maxLen; simp)
          obtain ⟨v', w3, hrun, hown3, hgr3, _⟩ := OwnG.app elt_val GVal.len GVal.one (HOZ.out.alloc (.cells #[.int .i64 vk, .int .i64 vi, .string ⟨vw.toArray⟩] 40)) 1 hlit (by have := HFZ.out.lt; simp; omega) (by unfold maxLen; simp; omega) (by simp; omega)
          have hq : ∀ g, Value.ownBlock (.slice A a.length c) = some g → F + 1 ≤ g := fun g hg => (HOZ.out.lt g hg).1
          generalize hA2 : a ++ [(⟨vk, vi, vw⟩ : GVal)] = a2 at *
          obtain ⟨A3, cap3, rfl, _, _, _⟩ := hown3.row GVal.len
          have HPQ : Hid (RPS (w3.setCell ⟨F, 1, none⟩ (.slice A3 a2.length cap3)) p l gs s9) := Lib.hid (((HPZ.out.next (bel_lit (Below.refl _ _) (.cells #[.int .i64 vk, .int .i64 vi, .string ⟨vw.toArray⟩] 40))).own hgr3 (fun g hg => by have := hq g hg; omega)).other _ _ (by show p < F; omega))
          have hfz := HFZ.out.next (bel_lit (Below.refl _ _) (.cells #[.int .i64 vk, .int .i64 vi, .string ⟨vw.toArray⟩] 40))
          have hf3 : FacV w3 F nm (.slice A a.length c) := (hgr3.block F hfz.lt (by intro e; have := hq F e.symm; omega)).trans hfz
          have HFQ := Lib.hid (hf3.set (.slice A3 a2.length cap3))
          have HOQ := Lib.hid (hown3.keep fun g hg => heap_setCell_other w3 ⟨F, 1, none⟩ g (.slice A3 a2.length cap3) (by have := (hown3.lt g hg).1; show g ≠ F; omega))
          have HGQ := Lib.hid (gb_new (gb_own (gb_lit HGZ.out (.cells #[.int .i64 vk, .int .i64 vi, .string ⟨vw.toArray⟩] 40)) hgr3 (fun g hg => by have := hq g hg; omega)) ⟨F, 1, none⟩ (.slice A3 a2.length cap3) (by show wb.heap.size ≤ F; omega))
          obtain ⟨_, _, f2⟩ := hf3.facts
          have HRUN := Lib.hid hrun
          simp only [List.length_singleton] at HRUN
          have HL8 := Lib.hid hl8
          clear hl8 hlit hrun hown3 hgr3 hq hfz hf3
          go_wp2_with (at_builtin; refine wpList_gapp HRUN.out rfl rfl rfl rfl rfl ?_)
          have HTC := Lib.hid (HTA.out _ HPQ.out)
          clear HTA
          have hpk : peekR gs s9 4 [44] = false := peek_no 4 [44] h9e
          clear h9e
          rw [hpk, if_neg (by simp)] at HRA
          rw [hpk, take_no hpk] at HTC
          have HRX : Hid ((s9, a2) = r1) := HRA
          have HXE : Hid (s9.e = 0 → s.i + 1 ≤ s9.i) := Lib.hid fun _ => by have := HKT2.out HET.out; omega
          have ha9 : a2.length ≤ 9 := by rw [HL8.out]; omega
          have h9i := hal.1
          clear hpk
          go_wp2_with fail
          go_fit HTC.out
          rintro e y0 ⟨rfl, hps, hg⟩
          have HPX := Lib.hid hps
          have HFX := Lib.hid (HFQ.out.gb hg (by omega))
          have HOX := Lib.hid (HOQ.out.gb (by omega) hg)
          have HGX := Lib.hid (gb_trans HGQ.out hg)
          clear hps hg HTC
          have ht1 := need_i l gs s9 4 [41] h9i
          have ht2 := need_i l gs (needR l gs s9 4 [41]) 4 [46] ht1.1
          have HN1 := Lib.hid fun W (hW : RPS W p l gs s9) => rNeed_any p l gs s9 4 [41] W hW hl6 (by omega)
          have HN2 := Lib.hid fun W (hW : RPS W p l gs (needR l gs s9 4 [41])) => rNeed_any p l gs (needR l gs s9 4 [41]) 4 [46] W hW hl6 (by omega)
          have hrf := HRF.out
          rw [← HRX.out] at hrf
          simp only at hrf
          have HRF2 := Lib.hid hrf
          have HEND2 : Hid ((needR l gs (needR l gs s9 4 [41]) 4 [46]).e = 0 → s.i + 1 ≤ (needR l gs (needR l gs s9 4 [41]) 4 [46]).i) := Lib.hid fun h => by have := HXE.out (ht1.2.2 (ht2.2.2 h)); omega
          have hi2 : s.i ≤ (needR l gs (needR l gs s9 4 [41]) 4 [46]).i := by omega
          have hi3 := ht2.1
          clear hrf ht2
          go_wp2_with fail
          go_fit (HN1.out _ HPX.out)
          rintro e y1 ⟨rfl, hps, hg⟩
          have HPY := Lib.hid hps
          have HFY := Lib.hid (HFX.out.gb hg (by omega))
          have HOY := Lib.hid (HOX.out.gb (by omega) hg)
          have HGY := Lib.hid (gb_trans HGX.out hg)
          clear hps hg HN1
          go_wp2_with fail
          go_fit (HN2.out _ HPY.out)
          rintro e y2 ⟨rfl, hps, hg⟩
          have HPZ := Lib.hid hps
          have HFZ := Lib.hid (HFY.out.gb hg (by omega))
          have HOZ := Lib.hid (HOY.out.gb (by omega) hg)
          have HGZ := Lib.hid (gb_trans HGY.out hg)
          have HLZ := Lib.hid (HLB.out.gb hpo HGZ.out)
          clear hps hg HN2
          obtain ⟨d0, d1, _⟩ := HFZ.out.facts
          obtain ⟨Ax, cx, hax, _, _, hrx⟩ := HOZ.out.row GVal.len
          injection hax with i1 i2 i3
          subst i1 i3
          have hs2 : F < y2.heap.size := HFZ.out.lt
          have hlit := GRow.lit SFact.len y2 37 [⟨nm, A3, a2.length, cap3⟩] #[.string ⟨nm.toArray⟩, .slice A3 a2.length cap3] rfl (by unfold maxLen; simp)
          obtain ⟨v', y3, hrun, hown3, hgr3, hob⟩ := OwnG.app elt_fact SFact.len SFact.one (HLZ.out.own.alloc (.cells #[.string ⟨nm.toArray⟩, .slice A3 a2.length cap3] 37)) 1 hlit (by have := HGZ.out.size; have := HGB3.out.size; simp; omega) (by have := HSL.out; unfold maxLen; simp; omega) (by have := HSL.out; simp; omega)
          have hap : ∀ o : Option Nat, (∀ g, o = some g → g ≤ F) → Apart o ⟨nm, A3, a2.length, cap3⟩ ⟨nm, a2⟩ := fun o ho h0 b off e e2 => by
            have h1 := ho _ e2
            rcases HOZ.out.2 with ⟨hv, h00⟩ | ⟨g, cap, cur, hv, hbs, _⟩
            · simp at h0; omega
            · simp only at e
              rw [e] at hv
              cases hv
              omega
          have HL3 := Lib.hid (HLZ.out.step (s := ⟨nm, A3, a2.length, cap3⟩) (f := ⟨nm, a2⟩) (bel_lit (Below.refl _ y2) _) hgr3 hown3 hob ⟨rfl, rfl, hrx.next (bel_lit (Below.refl y2.heap.size y2) _), by simp; omega⟩ (hap _ fun g hg => by have := (HLB.out.own.lt g hg).2; omega) (hap _ fun g hg => by cases hg; omega))
          have hq : ∀ g, Value.ownBlock (.slice Ao ss.length co) = some g → wo.heap.size ≤ g := fun g hg => (HLB.out.own.lt g hg).1
          have HG3 := Lib.hid (gb_own (gb_lit (gb_trans HGB3.out HGZ.out) (.cells #[.string ⟨nm.toArray⟩, .slice A3 a2.length cap3] 37)) hgr3 hq)
          have HP3 : Hid (RPS y3 p l gs (needR l gs (needR l gs s9 4 [41]) 4 [46])) := Lib.hid (by
            obtain ⟨A6, c6, h6, hr6⟩ := HPZ.out
            refine ⟨A6, c6, (hgr3.block p (by have := HPZ.out.lt; simp; omega) (by intro e; have := hq p e.symm; omega)).trans ((Below.heap_alloc _ _ p HPZ.out.lt).trans h6), hr6.keep fun g hg => (hgr3.block g (by have := HPZ.out.lt; simp; omega) (by intro e; have := hq g e.symm; omega)).trans (Below.heap_alloc _ _ g (by have := HPZ.out.lt; omega))⟩)
          obtain ⟨A3, cap3, rfl, _, _, _⟩ := hown3.row SFact.len
          have HRUN := Lib.hid hrun
          have HM3 := Lib.hid (parM_rps HP3.out)
          simp only [List.length_singleton, List.length_append] at HRUN HL3
          clear hlit hrun hown3 hgr3 hob hap hq hrx
          go_wp2_with (at_builtin; refine wpList_gapp HRUN.out rfl rfl rfl rfl rfl ?_)
          go_roundw
          case rel => exact ⟨n, _, fs ++ [⟨nm, a2⟩], _, HP3.out, HL3.out, hi3, fun h => by have := HEND2.out h; have := HFI.out; simp; omega, by have := HFI.out; simp; omega, fun f hf => by
            rcases List.mem_append.1 hf with h | h
            · exact HFA.out f h
            · simp at h; subst h; exact ⟨by simp; omega, HKA2.out⟩, fun h => by have := HEND2.out h; have := HN.out; omega, HRF2.out, HG3.out⟩
          case measure =>
            rw [HM3.out, HMW.out, if_pos HE.out]
            have := HEND2.out
            split
            · have := this (by assumption); omega
            · omega
        case false =>
          have f8' : decide ((8 : Int) ≤ (a.length : Int)) = true := by simp; omega
          have g8' : (8 : Int) ≤ (a.length : Int) := by omega
          have hmid : midS l gs t a.length = t := by unfold midS; rw [if_neg (by simp [hpe])]
          have hend : endS l gs t a.length = failR l gs (argR l gs t).2 t.i 15 := by unfold endS; rw [if_pos (by omega), hmid]
          rw [hend] at HRA
          clear hend
          rw [hmid] at HRA hal HKV
          have HAR := Lib.hid fun W (hW : RPS W p l gs t) => rArgument_any p l gs t W hW hl6 (by omega) hti
          have hms := (rfl : t.i = t.i)
          rw [hms] at hal
          generalize argR l gs t = q at *
          obtain ⟨⟨vk, vi, vw⟩, sx⟩ := q
          simp only [GVal.val] at HRA HAR hal HKV
          have HFL2 := Lib.hid fun W (hW : RPS W p l gs sx) => rFail_any p l gs sx t.i 15 W hW hl6 (fun _ => by omega)
          have h9e := failR_e l gs sx t.i 15 (by omega)
          have h9 := failR_i l gs sx t.i 15
          generalize failR l gs sx t.i 15 = s9 at *
          rw [← h9] at hal
          clear h9
          have HTA := Lib.hid fun W (hW : RPS W p l gs s9) => rTake_any p l gs s9 4 [44] W hW (by omega)
          have hl8 : (a ++ [(⟨vk, vi, vw⟩ : GVal)]).length = a.length + 1 := by simp
          have HKA2 : Hid (KindsWf (a ++ [⟨vk, vi, vw⟩])) := Lib.hid fun v hv => (List.mem_append.1 hv).elim (HKA.out v) (HKV.out v)
          clear hmid hms HKV
          go_wp2_with fail
          go_fit HTK.out
          rintro e x1 ⟨rfl, hb1⟩
          have HPX := Lib.hid (HPT.out.next hb1)
          have HFX := Lib.hid (HFT.out.next hb1)
          have HOX := Lib.hid (HOT.out.next hb1)
          have HGX := Lib.hid (gb_trans HGT.out (gb_bel hb1))
          clear hb1 HTK
          obtain ⟨d0, d1, _⟩ := HFX.out.facts
          obtain ⟨_, _, _, c0, c1, c2, c3, c4, c5, _, _, _⟩ := HPX.out.open
          have HPK := Lib.hid (rPeek_calls 4 [45] HPX.out)
          rw [hpe] at HPK
          go_wp2_with fail
          go_fit HPK.out
          rintro e xa ⟨rfl, hb1⟩
          have HPX := Lib.hid (HPX.out.next hb1)
          have HFX := Lib.hid (HFX.out.next hb1)
          have HOX := Lib.hid (HOX.out.next hb1)
          have HGX := Lib.hid (gb_trans HGX.out (gb_bel hb1))
          clear hb1 HPK d0 d1 c0 c1 c2 c3 c4 c5
          obtain ⟨d0, d1, _⟩ := HFX.out.facts
          obtain ⟨_, _, _, c0, c1, c2, c3, c4, c5, _, _, _⟩ := HPX.out.open
          go_wp2_with fail
          go_fit (HAR.out _ HPX.out)
          rintro e x2 ⟨rfl, hps, hg⟩
          have HPY := Lib.hid (hps.next (bel_lit (Below.refl _ x2) (.cells #[.int .i64 vk, .int .i64 vi, .string ⟨vw.toArray⟩] 40)))
          have HFY := Lib.hid ((HFX.out.gb hg (by omega)).next (bel_lit (Below.refl _ x2) (.cells #[.int .i64 vk, .int .i64 vi, .string ⟨vw.toArray⟩] 40)))
          have HOY := Lib.hid ((HOX.out.gb (by omega) hg).alloc (.cells #[.int .i64 vk, .int .i64 vi, .string ⟨vw.toArray⟩] 40))
          have HGY := Lib.hid (gb_lit (gb_trans HGX.out hg) (.cells #[.int .i64 vk, .int .i64 vi, .string ⟨vw.toArray⟩] 40))
          have HVY : Hid (ValV (x2.alloc (.cells #[.int .i64 vk, .int .i64 vi, .string ⟨vw.toArray⟩] 40)) x2.heap.size ⟨vk, vi, vw⟩) := Lib.hid (heap_alloc_new x2 _)
          have hx2 : F + 1 ≤ x2.heap.size := by have := HGX.out.size; have := hg.size; have := HFX.out.lt; omega
          have hx3 : (x2.alloc (.cells #[.int .i64 vk, .int .i64 vi, .string ⟨vw.toArray⟩] 40)).heap.size = x2.heap.size + 1 := by simp
          clear hps hg HAR c0 c1 c2 c3 c4 c5 d0 d1
          obtain ⟨d0, d1, _⟩ := HFY.out.facts
          go_wp2_with fail
          go_fit (HFL2.out _ HPY.out)
          rintro e x4 ⟨rfl, hps, hg⟩
          have HPZ := Lib.hid hps
          have HFZ := Lib.hid (HFY.out.gb hg (by omega))
          have HOZ := Lib.hid (HOY.out.gb (by omega) hg)
          have HGZ := Lib.hid (gb_trans HGY.out hg)
          have HVZ := Lib.hid (HVY.out.gb hg (by omega))
          clear hps hg d0 d1
          obtain ⟨d0, d1, d2⟩ := HFZ.out.facts
          obtain ⟨z0, z1, z2⟩ := HVZ.out.facts
          simp only at z0 z1 z2
          have hlit := GRow.lit GVal.len x4 40 [(⟨vk, vi, vw⟩ : GVal)] #[.int .i64 vk, .int .i64 vi, .string ⟨vw.toArray⟩] rfl (by unfold maxLen; simp)
          obtain ⟨v', w3, hrun, hown3, hgr3, _⟩ := OwnG.app elt_val GVal.len GVal.one (HOZ.out.alloc (.cells #[.int .i64 vk, .int .i64 vi, .string ⟨vw.toArray⟩] 40)) 1 hlit (by have := HFZ.out.lt; simp; omega) (by unfold maxLen; simp; omega) (by simp; omega)
          have hq : ∀ g, Value.ownBlock (.slice A a.length c) = some g → F + 1 ≤ g := fun g hg => (HOZ.out.lt g hg).1
          generalize hA2 : a ++ [(⟨vk, vi, vw⟩ : GVal)] = a2 at *
          obtain ⟨A3, cap3, rfl, _, _, _⟩ := hown3.row GVal.len
          have HPQ : Hid (RPS (w3.setCell ⟨F, 1, none⟩ (.slice A3 a2.length cap3)) p l gs s9) := Lib.hid (((HPZ.out.next (bel_lit (Below.refl _ _) (.cells #[.int .i64 vk, .int .i64 vi, .string ⟨vw.toArray⟩] 40))).own hgr3 (fun g hg => by have := hq g hg; omega)).other _ _ (by show p < F; omega))
          have hfz := HFZ.out.next (bel_lit (Below.refl _ _) (.cells #[.int .i64 vk, .int .i64 vi, .string ⟨vw.toArray⟩] 40))
          have hf3 : FacV w3 F nm (.slice A a.length c) := (hgr3.block F hfz.lt (by intro e; have := hq F e.symm; omega)).trans hfz
          have HFQ := Lib.hid (hf3.set (.slice A3 a2.length cap3))
          have HOQ := Lib.hid (hown3.keep fun g hg => heap_setCell_other w3 ⟨F, 1, none⟩ g (.slice A3 a2.length cap3) (by have := (hown3.lt g hg).1; show g ≠ F; omega))
          have HGQ := Lib.hid (gb_new (gb_own (gb_lit HGZ.out (.cells #[.int .i64 vk, .int .i64 vi, .string ⟨vw.toArray⟩] 40)) hgr3 (fun g hg => by have := hq g hg; omega)) ⟨F, 1, none⟩ (.slice A3 a2.length cap3) (by show wb.heap.size ≤ F; omega))
          obtain ⟨_, _, f2⟩ := hf3.facts
          have HRUN := Lib.hid hrun
          simp only [List.length_singleton] at HRUN
          have HL8 := Lib.hid hl8
          clear hl8 hlit hrun hown3 hgr3 hq hfz hf3
          go_wp2_with (at_builtin; refine wpList_gapp HRUN.out rfl rfl rfl rfl rfl ?_)
          have HTC := Lib.hid (HTA.out _ HPQ.out)
          clear HTA
          have hpk : peekR gs s9 4 [44] = false := peek_no 4 [44] h9e
          clear h9e
          rw [hpk, if_neg (by simp)] at HRA
          rw [hpk, take_no hpk] at HTC
          have HRX : Hid ((s9, a2) = r1) := HRA
          have HXE : Hid (s9.e = 0 → s.i + 1 ≤ s9.i) := Lib.hid fun _ => by have := HKT2.out HET.out; omega
          have ha9 : a2.length ≤ 9 := by rw [HL8.out]; omega
          have h9i := hal.1
          clear hpk
          go_wp2_with fail
          go_fit HTC.out
          rintro e y0 ⟨rfl, hps, hg⟩
          have HPX := Lib.hid hps
          have HFX := Lib.hid (HFQ.out.gb hg (by omega))
          have HOX := Lib.hid (HOQ.out.gb (by omega) hg)
          have HGX := Lib.hid (gb_trans HGQ.out hg)
          clear hps hg HTC
          have ht1 := need_i l gs s9 4 [41] h9i
          have ht2 := need_i l gs (needR l gs s9 4 [41]) 4 [46] ht1.1
          have HN1 := Lib.hid fun W (hW : RPS W p l gs s9) => rNeed_any p l gs s9 4 [41] W hW hl6 (by omega)
          have HN2 := Lib.hid fun W (hW : RPS W p l gs (needR l gs s9 4 [41])) => rNeed_any p l gs (needR l gs s9 4 [41]) 4 [46] W hW hl6 (by omega)
          have hrf := HRF.out
          rw [← HRX.out] at hrf
          simp only at hrf
          have HRF2 := Lib.hid hrf
          have HEND2 : Hid ((needR l gs (needR l gs s9 4 [41]) 4 [46]).e = 0 → s.i + 1 ≤ (needR l gs (needR l gs s9 4 [41]) 4 [46]).i) := Lib.hid fun h => by have := HXE.out (ht1.2.2 (ht2.2.2 h)); omega
          have hi2 : s.i ≤ (needR l gs (needR l gs s9 4 [41]) 4 [46]).i := by omega
          have hi3 := ht2.1
          clear hrf ht2
          go_wp2_with fail
          go_fit (HN1.out _ HPX.out)
          rintro e y1 ⟨rfl, hps, hg⟩
          have HPY := Lib.hid hps
          have HFY := Lib.hid (HFX.out.gb hg (by omega))
          have HOY := Lib.hid (HOX.out.gb (by omega) hg)
          have HGY := Lib.hid (gb_trans HGX.out hg)
          clear hps hg HN1
          go_wp2_with fail
          go_fit (HN2.out _ HPY.out)
          rintro e y2 ⟨rfl, hps, hg⟩
          have HPZ := Lib.hid hps
          have HFZ := Lib.hid (HFY.out.gb hg (by omega))
          have HOZ := Lib.hid (HOY.out.gb (by omega) hg)
          have HGZ := Lib.hid (gb_trans HGY.out hg)
          have HLZ := Lib.hid (HLB.out.gb hpo HGZ.out)
          clear hps hg HN2
          obtain ⟨d0, d1, _⟩ := HFZ.out.facts
          obtain ⟨Ax, cx, hax, _, _, hrx⟩ := HOZ.out.row GVal.len
          injection hax with i1 i2 i3
          subst i1 i3
          have hs2 : F < y2.heap.size := HFZ.out.lt
          have hlit := GRow.lit SFact.len y2 37 [⟨nm, A3, a2.length, cap3⟩] #[.string ⟨nm.toArray⟩, .slice A3 a2.length cap3] rfl (by unfold maxLen; simp)
          obtain ⟨v', y3, hrun, hown3, hgr3, hob⟩ := OwnG.app elt_fact SFact.len SFact.one (HLZ.out.own.alloc (.cells #[.string ⟨nm.toArray⟩, .slice A3 a2.length cap3] 37)) 1 hlit (by have := HGZ.out.size; have := HGB3.out.size; simp; omega) (by have := HSL.out; unfold maxLen; simp; omega) (by have := HSL.out; simp; omega)
          have hap : ∀ o : Option Nat, (∀ g, o = some g → g ≤ F) → Apart o ⟨nm, A3, a2.length, cap3⟩ ⟨nm, a2⟩ := fun o ho h0 b off e e2 => by
            have h1 := ho _ e2
            rcases HOZ.out.2 with ⟨hv, h00⟩ | ⟨g, cap, cur, hv, hbs, _⟩
            · simp at h0; omega
            · simp only at e
              rw [e] at hv
              cases hv
              omega
          have HL3 := Lib.hid (HLZ.out.step (s := ⟨nm, A3, a2.length, cap3⟩) (f := ⟨nm, a2⟩) (bel_lit (Below.refl _ y2) _) hgr3 hown3 hob ⟨rfl, rfl, hrx.next (bel_lit (Below.refl y2.heap.size y2) _), by simp; omega⟩ (hap _ fun g hg => by have := (HLB.out.own.lt g hg).2; omega) (hap _ fun g hg => by cases hg; omega))
          have hq : ∀ g, Value.ownBlock (.slice Ao ss.length co) = some g → wo.heap.size ≤ g := fun g hg => (HLB.out.own.lt g hg).1
          have HG3 := Lib.hid (gb_own (gb_lit (gb_trans HGB3.out HGZ.out) (.cells #[.string ⟨nm.toArray⟩, .slice A3 a2.length cap3] 37)) hgr3 hq)
          have HP3 : Hid (RPS y3 p l gs (needR l gs (needR l gs s9 4 [41]) 4 [46])) := Lib.hid (by
            obtain ⟨A6, c6, h6, hr6⟩ := HPZ.out
            refine ⟨A6, c6, (hgr3.block p (by have := HPZ.out.lt; simp; omega) (by intro e; have := hq p e.symm; omega)).trans ((Below.heap_alloc _ _ p HPZ.out.lt).trans h6), hr6.keep fun g hg => (hgr3.block g (by have := HPZ.out.lt; simp; omega) (by intro e; have := hq g e.symm; omega)).trans (Below.heap_alloc _ _ g (by have := HPZ.out.lt; omega))⟩)
          obtain ⟨A3, cap3, rfl, _, _, _⟩ := hown3.row SFact.len
          have HRUN := Lib.hid hrun
          have HM3 := Lib.hid (parM_rps HP3.out)
          simp only [List.length_singleton, List.length_append] at HRUN HL3
          clear hlit hrun hown3 hgr3 hob hap hq hrx
          go_wp2_with (at_builtin; refine wpList_gapp HRUN.out rfl rfl rfl rfl rfl ?_)
          go_roundw
          case rel => exact ⟨n, _, fs ++ [⟨nm, a2⟩], _, HP3.out, HL3.out, hi3, fun h => by have := HEND2.out h; have := HFI.out; simp; omega, by have := HFI.out; simp; omega, fun f hf => by
            rcases List.mem_append.1 hf with h | h
            · exact HFA.out f h
            · simp at h; subst h; exact ⟨by simp; omega, HKA2.out⟩, fun h => by have := HEND2.out h; have := HN.out; omega, HRF2.out, HG3.out⟩
          case measure =>
            rw [HM3.out, HMW.out, if_pos HE.out]
            have := HEND2.out
            split
            · have := this (by assumption); omega
            · omega
end Go.Proofs.YtmodjokoggmnaaaGreatDoor
