/-
  The parser of facts: its tokens, take, nameSized, marks.
  Conditions: the last token is never taken.
  The parser of facts at a number, at a relation, at the arguments of a fact: where the text is as the grammar asks, its arguments numbers.
  Conditions: as each theorem says.
  The parser of facts at the arguments of a fact that are all numbers.
  Conditions: one to eight numbers below 2^63; a token is left behind the fact.
-/
import Derived.Test.YtmodjokoggmnaaaGreatDoorMa9
import Derived.Test.YtmodjokoggmnaaaGreatDoorMa10
import Derived.Test.YtmodjokoggmnaaaGreatDoorMa11
namespace Go.Proofs.YtmodjokoggmnaaaGreatDoor

open Go.RowKit Go.Shelf

theorem GTok.len5 (t : GTok) : t.cells.length = 5 := rfl
theorem elt_tok : Elt 46 52 5 48 := Elt.of (.agg #[.int .i64 0, .string ⟨#[]⟩, .int .u64 0, .int .i64 0, .int .i64 0]) Tryz.underlying46 (by kernel_rfl) rfl (by decide)
/-- The parser in block p has the tokens ts left. -/
def PS (w : World) (p : Nat) (ts : List GTok) : Prop := ∃ A cap, w.heap[p]? = some (.cells #[.slice A ts.length cap] 54 (0, 0)) ∧ ts.length ≤ cap ∧ cap ≤ maxLen ∧ GRow GTok.cells 5 w p A ts
theorem PS.lt {w : World} {p : Nat} {ts : List GTok} (h : PS w p ts) : p < w.heap.size := by
  obtain ⟨A, cap, hh, _⟩ := h
  rcases Nat.lt_or_ge p w.heap.size with h1 | h1
  · exact h1
  · rw [Array.getElem?_eq_none h1] at hh; cases hh
theorem PS.next {w w' : World} {p : Nat} {ts : List GTok} (h : PS w p ts) (hb : Below w.heap.size w w') : PS w' p ts := by
  have hp := h.lt
  obtain ⟨A, cap, hh, h1, h2, h3⟩ := h
  exact ⟨A, cap, (hb.block p hp).trans hh, h1, h2, h3.keep fun g hg => hb.block g (by omega)⟩
/-- What lies in memory for a walk that looks at the first token. -/
theorem PS.open {w : World} {p : Nat} {t : GTok} {ts : List GTok} (h : PS w p (t :: ts)) : ∃ b off cap, b < p ∧ p < w.heap.size ∧ ts.length + 1 ≤ cap ∧ cap ≤ maxLen ∧ w.heap[p]? = some (.cells #[.slice (some ⟨b, off, none⟩) (ts.length + 1) cap] 54 (0, 0)) ∧
    w.cell? ⟨p, 0, none⟩ = some (.slice (some ⟨b, off, none⟩) (ts.length + 1) cap) ∧ w.frozen? ⟨p, 0, none⟩ = false ∧ GRow GTok.cells 5 w p (some ⟨b, off, none⟩) (t :: ts) ∧
    w.cell? ⟨b, off, none⟩ = some (.int .i64 t.kind) ∧ w.cell? ⟨b, off + 1, none⟩ = some (.string ⟨t.text.toArray⟩) ∧ w.cell? ⟨b, off + 2, none⟩ = some (.int .u64 t.value) ∧ w.cell? ⟨b, off + 3, none⟩ = some (.int .i64 t.line) ∧ w.cell? ⟨b, off + 4, none⟩ = some (.int .i64 t.col) := by
  have hp := h.lt
  obtain ⟨A, cap, hh, h1, h2, h3⟩ := h
  obtain ⟨b, off, rfl, hb, hc⟩ := h3 (by simp)
  have c := fun j u hu => hc 0 (by simp) j u hu
  simp only [Nat.zero_mul, Nat.zero_add, List.getElem_cons_zero] at c
  exact ⟨b, off, cap, hb, hp, by simpa using h1, h2, by simpa using hh, by rw [Lib.cell_of_heap hh]; rfl, Lib.frozen_of_heap hh 0, h3, c 0 _ rfl, c 1 _ rfl, c 2 _ rfl, c 3 _ rfl, c 4 _ rfl⟩
theorem gb_set (w : World) (p : Nat) (v : Value) : w.grownBy (w.setCell ⟨p, 0, none⟩ v) (some p) := ⟨rfl, rfl, rfl, by simp, fun k _ hk => Below.heap_setCell _ _ _ k (fun e => hk (by rw [e]))⟩
theorem gb_lit {p : Option Nat} {w w1 : World} (h : w.grownBy w1 p) (o : Obj) : w.grownBy (w1.alloc o) p :=
  ⟨h.os, h.tape, h.output, by have := h.size; simp; omega, fun k hk hne => (Below.heap_alloc w1 o k (by have := h.size; omega)).trans (h.block k hk hne)⟩
theorem PS.set {w : World} {p : Nat} {old : Value} {A : Option Addr} {cap : Nat} {ts : List GTok} (hh : w.heap[p]? = some (.cells #[old] 54 (0, 0))) (h1 : ts.length ≤ cap) (h2 : cap ≤ maxLen) (hr : GRow GTok.cells 5 w p A ts) :
    PS (w.setCell ⟨p, 0, none⟩ (.slice A ts.length cap)) p ts :=
  ⟨A, cap, by simp [World.setCell, Array.getElem?_modify, hh], h1, h2, hr.keep fun g hg => Below.heap_setCell _ _ _ _ (fun e => by simp at e; omega)⟩
theorem PS.lit {w : World} {p : Nat} {ts : List GTok} (h : PS w p ts) (o : Obj) : PS (w.alloc o) p ts := h.next ((Below.refl _ _).alloc (Nat.le_refl _) o)
set_option maxRecDepth 50000 in
set_option maxHeartbeats 1000000 in
theorem take_any (p : Nat) (t u : GTok) (ts : List GTok) (w : World) (h : PS w p (t :: u :: ts)) :
    Calls Tryz.prog 90 #[.pointer (some ⟨p, 0, none⟩)] w fun e w' => e = .returned t.val ∧ PS w' p (u :: ts) ∧ w.grownBy w' (some p) := by
  obtain ⟨b, off, cap, hb, hp, hc1, hc2, hh, hcp, hfz, hr, x0, x1, x2, x3, x4⟩ := h.open
  have HH := Lib.hid hh
  have HR := Lib.hid hr
  obtain ⟨tk, tt, tv, tl, tc⟩ := t
  simp only [GTok.val] at *
  have hbw : b < w.heap.size := by omega
  have hbp : b ≠ p := by omega
  have hn1 : ¬ cap = 1 := by simp at hc1; omega
  have hn2 : ¬ (1 : Int) = (cap : Int) := by omega
  simp only [List.length_cons] at hc1 hcp
  unfold maxLen at hc2
  clear hh hr h
  go_enter Tryz.func90, Tryz.ntmps90
  go_wp2
  refine bodyPost_ret (v := .agg #[.int .i64 tk, .string ⟨tt.toArray⟩, .int .u64 tv, .int .i64 tl, .int .i64 tc]) (by simp [results, Tryz.results90, go_sem]) rfl ⟨rfl, ?_, ?_⟩
  · exact ((PS.set HH.out (by simp; omega) (by unfold maxLen; omega) HR.out.tail).lit _).lit _
  · exact gb_lit (gb_lit (gb_set _ _ _) _) _
theorem nameSized_yes (l : List UInt8) (w : World) (h1 : 1 ≤ l.length) (h2 : l.length ≤ 24) :
    Calls Tryz.prog 89 #[.string ⟨l.toArray⟩] w fun e w' => e = .returned (.bool true) ∧ w = w' := by
  have hsz : (⟨l.toArray⟩ : ByteArray).size = l.length := ba_size l
  go_enter Tryz.func89, Tryz.ntmps89
  go_wp2
  go_ret
  exact ⟨ret_bool (by simp; omega), rfl⟩
def encS (s : List UInt8) : List Value := [.string ⟨s.toArray⟩]
def MarkRel (ss : List (List UInt8)) (ts : List GTok) (p : Nat) (w : World) (vi : Value) (wr : World) : Prop := ∃ k : Nat, vi = .int .i64 k ∧ k ≤ ss.length ∧ PS wr p (ts.drop k) ∧ w.grownBy wr (some p)
theorem GRow.gb {α : Type} {enc : α → List Value} {k : Nat} {w w' : World} {A : Option Addr} {xs : List α} {p : Nat} (h : GRow enc k w w.heap.size A xs) (hp : ∀ b off, A = some ⟨b, off, none⟩ → b ≠ p) (hg : w.grownBy w' (some p)) : GRow enc k w' w'.heap.size A xs := fun hn => by
  obtain ⟨b, off, rfl, hlt, hc⟩ := h hn
  refine ⟨b, off, rfl, Nat.lt_of_lt_of_le hlt hg.size, fun i hi j u hu => (World.cell?_of_block (a := ⟨b, off + (i * k + j), none⟩) (hg.block b hlt ?_)).trans (hc i hi j u hu)⟩
  intro e; cases e; exact hp _ _ rfl rfl
set_option maxRecDepth 50000 in
set_option maxHeartbeats 1000000 in
/-- marks(ss..) where the next tokens are these marks, and one is left. -/
theorem marks_hit (p : Nat) (ss : List (List UInt8)) (A : Option Addr) (cap : Nat) (ts : List GTok) (w : World) (h : PS w p ts) (hs : GRow encS 1 w w.heap.size A ss) (hp : ∀ b off, A = some ⟨b, off, none⟩ → b ≠ p)
    (hl : ss.length < ts.length) (hs8 : ss.length ≤ 1000) (hit : ∀ i (h1 : i < ss.length) (h2 : i < ts.length), ts[i].kind = 4 ∧ ts[i].text = ss[i]) :
    Calls Tryz.prog 91 #[.pointer (some ⟨p, 0, none⟩), .slice A ss.length cap] w fun e w' => e = .returned (.int .i64 0) ∧ PS w' p (ts.drop ss.length) ∧ w.grownBy w' (some p) := by
  have HS := Lib.hid hs
  have HIT := Lib.hid hit
  have HP := Lib.hid hp
  have H0 := Lib.hid h
  clear hs hit hp h
  go_enter Tryz.func91, Tryz.ntmps91
  go_wp2
  go_loopw [10] (fun vi wr => MarkRel ss ts p w vi wr) (fun vi _ => ss.length - (intOf vi).toNat)
  case atStart => exact ⟨0, rfl, by omega, by simpa using H0.out, gb_refl _⟩
  case round =>
    rename_i wr
    obtain ⟨k, rfl, hk, hps, hgb⟩ := hrel
    rcases Nat.lt_or_ge k ss.length with hlt | hge
    · obtain ⟨tk4, ttx⟩ := HIT.out k hlt (by omega)
      have hd : ts.drop k = ts[k] :: ts[k + 1] :: ts.drop (k + 2) := by rw [List.drop_eq_getElem_cons (by omega), List.drop_eq_getElem_cons (by omega)]
      have HD1 : Hid (ts.drop (k + 1) = ts[k + 1] :: ts.drop (k + 2)) := Lib.hid (List.drop_eq_getElem_cons (by omega))
      rw [hd] at hps
      have HPS := Lib.hid hps
      obtain ⟨b, off, cp, hbp, hpw, hc1, hc2, hh, hcp, hfz, hr, x0, x1, x2, x3, x4⟩ := hps.open
      have hgsz := hgb.size
      obtain ⟨sb, so, rfl, hsb, hsc⟩ := (HS.out.gb HP.out hgb) (by omega)
      have y0 := hsc k hlt 0 _ rfl
      simp only [Nat.mul_one, Nat.add_zero] at y0
      rw [← ttx] at y0
      have HTK := Lib.hid (take_any p ts[k] ts[k + 1] (ts.drop (k + 2)))
      generalize ts[k + 1] = u at *
      generalize ts[k] = t at *
      obtain ⟨tk, tt, tv, tl, tc⟩ := t
      simp only at tk4 x0 x1 x2 x3 x4 y0
      subst tk4
      have HG := Lib.hid hgb
      have hbw : b < wr.heap.size := by omega
      have ftt : (tt != tt) = false := by simp
      clear hps hd hh hr hgb hsc ttx
      simp only [List.length_cons] at hcp hc1
      go_wp2_with fail
      refine (HTK.out _ (HPS.out.lit _)).mono ?_
      rintro e w1 ⟨rfl, hps1, hg1⟩
      have HP1 := Lib.hid hps1
      have HG1 := Lib.hid (gb_trans (gb_lit HG.out _) hg1)
      clear hps1 hg1
      go_wp2
      go_roundw
      case rel => exact ⟨k + 1, by go_num, by omega, by rw [HD1.out]; exact HP1.out, HG1.out⟩
      case measure => simp [intOf]; omega
    · have HPS := Lib.hid hps
      have HG := Lib.hid hgb
      clear hps hgb
      go_wp2
      go_ret
      exact ⟨rfl, by rw [show ss.length = k by omega]; exact HPS.out, HG.out⟩
set_option maxRecDepth 50000 in
set_option maxHeartbeats 1000000 in
/-- marks(s) where the next token is another mark. -/
theorem marks_miss (p : Nat) (s : List UInt8) (N : Nat) (t : GTok) (ts : List GTok) (w : World) (h : PS w p (t :: ts)) (hs : w.cell? ⟨N, 0, none⟩ = some (.string ⟨s.toArray⟩)) (hk : t.kind = 4) (ht : t.text ≠ s) :
    Calls Tryz.prog 91 #[.pointer (some ⟨p, 0, none⟩), .slice (some ⟨N, 0, none⟩) 1 1] w fun e w' => e = .returned (.int .i64 50) ∧ PS w' p (t :: ts) ∧ w.grownBy w' (some p) := by
  have HPS := Lib.hid h
  obtain ⟨b, off, cp, hbp, hpw, hc1, hc2, hh, hcp, hfz, hr, x0, x1, x2, x3, x4⟩ := h.open
  obtain ⟨tk, tt, tv, tl, tc⟩ := t
  simp only at hk ht x0 x1 x2 x3 x4
  subst hk
  have hbw : b < w.heap.size := by omega
  have ftt : (tt == s) = false := by simp [ht]
  clear h hh hr
  go_enter Tryz.func91, Tryz.ntmps91
  go_wp2
  go_loopw [10] (fun vi wr => vi = .int .i64 0 ∧ wr = w) (fun _ _ => 0)
  case atStart => exact ⟨rfl, rfl⟩
  case round =>
    rename_i wr
    obtain ⟨rfl, rfl⟩ := hrel
    go_wp2
    go_ret
    exact ⟨rfl, HPS.out.lit _, gb_lit (gb_refl _) _⟩
end Go.Proofs.YtmodjokoggmnaaaGreatDoor


namespace Go.Proofs.YtmodjokoggmnaaaGreatDoor

open Go.RowKit Go.Shelf

theorem firstError_num (t : GTok) (w : World) (hk : t.kind = 2) (h0 : 0 ≤ t.value) (h1 : t.value ≤ 9223372036854775807) :
    Calls Tryz.prog 117 #[t.val] w fun e w' => e = .returned (.int .i64 0) ∧ Below w.heap.size w w' := by
  obtain ⟨tk, tt, tv, tl, tc⟩ := t
  simp only [GTok.val] at *
  subst hk
  have hf : decide (tv > 9223372036854775807) = false := by simp; omega
  have hf2 : ¬ tv > 9223372036854775807 := by omega
  go_enter Tryz.func117, Tryz.ntmps117
  go_wp2
  go_ret
  exact ⟨rfl, bel_lit (Below.refl _ _) _⟩
theorem fnum_any (v : Int) (w : World) (h0 : 0 ≤ v) (h1 : v ≤ 9223372036854775807) :
    Calls Tryz.prog 119 #[.int .u64 v] w fun e w' => e = .returned (GVal.val ⟨1, v, []⟩) ∧ Below w.heap.size w w' := by
  have hw : IntKind.i64.wrap v = v := IntWalk.i64_in _ (by omega)
  go_enter Tryz.func119, Tryz.ntmps119
  go_wp2
  exact bodyPost_ret (v := GVal.val ⟨1, v, []⟩) (by simp [results, Tryz.results119, go_sem, GVal.val]) rfl ⟨rfl, bel_lit (Below.refl _ _) _⟩
theorem gb_new {q : Option Nat} {w w1 : World} (h : w.grownBy w1 q) (a : Addr) (v : Value) (ha : w.heap.size ≤ a.block) : w.grownBy (w1.setCell a v) q :=
  ⟨h.os, h.tape, h.output, by have := h.size; simp; omega, fun k hk hne => (Below.heap_setCell _ _ _ k (by omega)).trans (h.block k hk hne)⟩
theorem PS.other {w : World} {p : Nat} {ts : List GTok} (h : PS w p ts) (a : Addr) (v : Value) (ha : p < a.block) : PS (w.setCell a v) p ts := by
  obtain ⟨A, cap, hh, h1, h2, h3⟩ := h
  exact ⟨A, cap, (Below.heap_setCell _ _ _ p (by omega)).trans hh, h1, h2, h3.keep fun g hg => Below.heap_setCell _ _ _ g (by omega)⟩
set_option maxRecDepth 50000 in
set_option maxHeartbeats 1000000 in
theorem argument_num (p : Nat) (t u : GTok) (ts : List GTok) (w : World) (h : PS w p (t :: u :: ts)) (hk : t.kind = 2) (h0 : 0 ≤ t.value) (h1 : t.value ≤ 9223372036854775807) :
    Calls Tryz.prog 92 #[.pointer (some ⟨p, 0, none⟩), .bool true] w fun e w' => e = .returned (.tuple #[GVal.val ⟨1, t.value, []⟩, .int .i64 0]) ∧ PS w' p (u :: ts) ∧ w.grownBy w' (some p) := by
  have HPS := Lib.hid h
  obtain ⟨b, off, cp, hbp, hpw, hc1, hc2, hh, hcp, hfz, hr, x0, x1, x2, x3, x4⟩ := h.open
  have HF := Lib.hid fun W => firstError_num t W hk h0 h1
  have HN := Lib.hid fun W => fnum_any t.value W h0 h1
  have HT := Lib.hid fun W => take_any p t u ts W
  obtain ⟨tk, tt, tv, tl, tc⟩ := t
  simp only [GTok.val, GVal.val] at *
  subst hk
  have hbw : b < w.heap.size := by omega
  clear h hh hr
  go_enter Tryz.func92, Tryz.ntmps92
  go_wp2_with fail
  refine (HF.out _).mono ?_
  rintro e w1 ⟨rfl, hb1⟩
  have HB1 := Lib.hid (bel_alloc (Below.refl w.heap.size w) hb1)
  have hs1 := HB1.out.size
  have HB0 := Lib.hid hb1
  have hz : w.heap.size < w1.heap.size := by have := hb1.size; simp at this; omega
  clear hb1
  go_wp2_with fail
  refine (HT.out _ (HPS.out.next HB1.out)).mono ?_
  rintro e w2 ⟨rfl, hps2, hg2⟩
  have HP2 := Lib.hid hps2
  have HG2 := Lib.hid hg2
  have hs2 := hg2.size
  clear hps2 hg2
  go_wp2_with fail
  refine (HN.out _).mono ?_
  rintro e w3 ⟨rfl, hb3⟩
  have HP3 := Lib.hid ((HP2.out.lit _).next hb3)
  have HG3 := Lib.hid (gb_trans (gb_trans (gb_bel HB1.out) HG2.out) (gb_trans (gb_lit (gb_refl _) _) (gb_bel hb3)))
  have hs3 : w2.heap.size + 1 ≤ w3.heap.size := by have := hb3.size; simp at this; omega
  have k0 : w3.heap[w.heap.size]? = some (.cells #[.int .i64 0, .int .i64 0, .string ⟨#[]⟩] 40 (0, 0)) := by
    rw [hb3.block _ (by simp; omega), Below.heap_alloc _ _ _ (by omega), HG2.out.block _ (by omega) (by intro e; cases e; omega), HB0.out.block _ (by simp)]
    exact heap_alloc_new w _
  have z0 := Lib.frozen_of_heap k0 0
  have z1 := Lib.frozen_of_heap k0 1
  have z2 := Lib.frozen_of_heap k0 2
  have q0 : w3.cell? ⟨w.heap.size, 0, none⟩ = some (.int .i64 0) := by rw [Lib.cell_of_heap k0]; rfl
  have q1 : w3.cell? ⟨w.heap.size, 1, none⟩ = some (.int .i64 0) := by rw [Lib.cell_of_heap k0]; rfl
  have q2 : w3.cell? ⟨w.heap.size, 2, none⟩ = some (.string ⟨#[]⟩) := by rw [Lib.cell_of_heap k0]; rfl
  have HK := Lib.hid k0
  clear hb3 k0
  go_wp2
  refine bodyPost_ret (v := .tuple #[GVal.val ⟨1, tv, []⟩, .int .i64 0]) (by simp [results, Tryz.results92, go_sem, GVal.val, q0, q1, q2]) rfl ⟨rfl, ?_, ?_⟩
  · exact ((HP3.out.other _ _ hpw).other _ _ hpw).other _ _ hpw
  · exact gb_new (gb_new (gb_new HG3.out _ _ (Nat.le_refl _)) _ _ (Nat.le_refl _)) _ _ (Nat.le_refl _)
set_option maxRecDepth 50000 in
set_option maxHeartbeats 1000000 in
theorem relation_any (p : Nat) (t u : GTok) (ts : List GTok) (w : World) (h : PS w p (t :: u :: ts)) (hk : t.kind = 1) (h1 : 1 ≤ t.text.length) (h2 : t.text.length ≤ 24) :
    Calls Tryz.prog 52 #[.pointer (some ⟨p, 0, none⟩), .bool true] w fun e w' => e = .returned (.tuple #[.string ⟨t.text.toArray⟩, .int .i64 0]) ∧ PS w' p (u :: ts) ∧ w.grownBy w' (some p) := by
  have HPS := Lib.hid h
  obtain ⟨b, off, cp, hbp, hpw, hc1, hc2, hh, hcp, hfz, hr, x0, x1, x2, x3, x4⟩ := h.open
  have HN := Lib.hid fun W => nameSized_yes t.text W h1 h2
  have HT := Lib.hid fun W => take_any p t u ts W
  obtain ⟨tk, tt, tv, tl, tc⟩ := t
  simp only [GTok.val] at *
  subst hk
  have hbw : b < w.heap.size := by omega
  have hfl : ∀ W : World, (Instr.field 52 (.agg #[.int .i64 1, .string ⟨tt.toArray⟩, .int .u64 tv, .int .i64 tl, .int .i64 tc]) 1).run Tryz.prog W = .ok (.string ⟨tt.toArray⟩) W := fun W => by kernel_rfl
  clear h hh hr h1 h2
  go_enter Tryz.func52, Tryz.ntmps52
  go_wp2_with fail
  refine (HN.out _).mono ?_
  rintro e w1 ⟨rfl, rfl⟩
  go_wp2_with fail
  refine (HT.out _ (HPS.out.lit _)).mono ?_
  rintro e w2 ⟨rfl, hps2, hg2⟩
  have HP2 := Lib.hid hps2
  have HG2 := Lib.hid (gb_trans (gb_lit (gb_refl _) _) hg2)
  clear hps2 hg2
  go_wp2
  go_ret2
  exact ⟨rfl, HP2.out, HG2.out⟩
end Go.Proofs.YtmodjokoggmnaaaGreatDoor


namespace Go.Proofs.YtmodjokoggmnaaaGreatDoor

open Go.RowKit Go.Shelf

theorem OwnG.gb {α : Type} {enc : α → List Value} {T : TypeId} {k : Nat} {w w' : World} {base p : Nat} {v : Value} {l : List α} (h : OwnG enc T k w base v l) (hp : p < base) (hg : w.grownBy w' (some p)) : OwnG enc T k w' base v l :=
  h.keep fun g hgv => by
    obtain ⟨h1, h2⟩ := h.lt g hgv
    exact hg.block g h2 (by intro e; cases e; omega)
theorem GRow.lit {α : Type} {enc : α → List Value} {k : Nat} (hk : ∀ x, (enc x).length = k) (w : World) (T : TypeId) (xs : List α) (cs : Array Value) (hcs : cs.toList = gcells enc xs) (hm : xs.length ≤ maxLen) :
    GRow enc k (w.alloc (.cells cs T)) (w.alloc (.cells cs T)).heap.size (some ⟨w.heap.size, 0, none⟩) xs := by
  obtain ⟨A, cap, e, _, _, hr⟩ := (OwnG.lit (T := T) hk w w.heap.size xs cs hcs (Nat.le_refl _) hm).row hk
  cases e; exact hr
theorem encS_len (s : List UInt8) : (encS s).length = 1 := rfl
/-- A mark's literal slice, and marks over it. -/
theorem mark1_hit (p : Nat) (s : List UInt8) (t : GTok) (ts : List GTok) (w : World) (h : PS w p (t :: ts)) (hne : ts ≠ []) (hk : t.kind = 4) (hx : t.text = s) :
    Calls Tryz.prog 91 #[.pointer (some ⟨p, 0, none⟩), .slice (some ⟨w.heap.size, 0, none⟩) 1 1] (w.alloc (.cells #[.string ⟨s.toArray⟩] 9)) fun e w' => e = .returned (.int .i64 0) ∧ PS w' p ts ∧ w.grownBy w' (some p) := by
  have hpw := h.lt
  refine (marks_hit p [s] (some ⟨w.heap.size, 0, none⟩) 1 (t :: ts) _ (h.lit _) (GRow.lit encS_len w 9 [s] _ rfl (by unfold maxLen; simp)) (by intro b off e; cases e; omega) (by cases ts with | nil => exact absurd rfl hne | cons _ _ => simp) (by simp) (fun i h1 h2 => by
    obtain rfl : i = 0 := by simp at h1; omega
    exact ⟨hk, hx⟩)).mono ?_
  rintro e w' ⟨rfl, h1, h2⟩
  exact ⟨rfl, h1, gb_trans (gb_lit (gb_refl _) _) h2⟩
theorem mark2_hit (p : Nat) (s s2 : List UInt8) (t t2 : GTok) (ts : List GTok) (w : World) (h : PS w p (t :: t2 :: ts)) (hne : ts ≠ []) (hk : t.kind = 4) (hx : t.text = s) (hk2 : t2.kind = 4) (hx2 : t2.text = s2) :
    Calls Tryz.prog 91 #[.pointer (some ⟨p, 0, none⟩), .slice (some ⟨w.heap.size, 0, none⟩) 2 2] (w.alloc (.cells #[.string ⟨s.toArray⟩, .string ⟨s2.toArray⟩] 9)) fun e w' => e = .returned (.int .i64 0) ∧ PS w' p ts ∧ w.grownBy w' (some p) := by
  have hpw := h.lt
  refine (marks_hit p [s, s2] (some ⟨w.heap.size, 0, none⟩) 2 (t :: t2 :: ts) _ (h.lit _) (GRow.lit encS_len w 9 [s, s2] _ rfl (by unfold maxLen; simp)) (by intro b off e; cases e; omega) (by cases ts with | nil => exact absurd rfl hne | cons _ _ => simp) (by simp) (fun i h1 h2 => by
    rcases (by simp at h1; omega : i = 0 ∨ i = 1) with rfl | rfl
    · exact ⟨hk, hx⟩
    · exact ⟨hk2, hx2⟩)).mono ?_
  rintro e w' ⟨rfl, h1, h2⟩
  exact ⟨rfl, h1, gb_trans (gb_lit (gb_refl _) _) h2⟩
theorem mark1_miss (p : Nat) (s : List UInt8) (t : GTok) (ts : List GTok) (w : World) (h : PS w p (t :: ts)) (hk : t.kind = 4) (hx : t.text ≠ s) :
    Calls Tryz.prog 91 #[.pointer (some ⟨p, 0, none⟩), .slice (some ⟨w.heap.size, 0, none⟩) 1 1] (w.alloc (.cells #[.string ⟨s.toArray⟩] 9)) fun e w' => e = .returned (.int .i64 50) ∧ PS w' p (t :: ts) ∧ w.grownBy w' (some p) := by
  refine (marks_miss p s w.heap.size t ts _ (h.lit _) (by go_simp) hk hx).mono ?_
  rintro e w' ⟨rfl, h1, h2⟩
  exact ⟨rfl, h1, gb_trans (gb_lit (gb_refl _) _) h2⟩
/-- The tokens of the arguments: "(", n numbers with "," between, ")", ".", and one more at least. -/
structure ArgToks (vs : List Int) (ts : List GTok) : Prop where
  len : 2 * vs.length + 2 < ts.length
  one : 1 ≤ vs.length
  eight : vs.length ≤ 8
  bd : ∀ v ∈ vs, 0 ≤ v ∧ v ≤ 9223372036854775807
  lpar : ∀ h : 0 < ts.length, ts[0].kind = 4 ∧ ts[0].text = [40]
  num : ∀ i (h : i < vs.length) (h2 : 2 * i + 1 < ts.length), ts[2 * i + 1].kind = 2 ∧ ts[2 * i + 1].value = vs[i]
  com : ∀ i (_ : i + 1 < vs.length) (h2 : 2 * i + 2 < ts.length), ts[2 * i + 2].kind = 4 ∧ ts[2 * i + 2].text = [44]
  rpar : ∀ h : 2 * vs.length < ts.length, ts[2 * vs.length].kind = 4 ∧ ts[2 * vs.length].text = [41]
  dot : ∀ h : 2 * vs.length + 1 < ts.length, ts[2 * vs.length + 1].kind = 4 ∧ ts[2 * vs.length + 1].text = [46]
theorem gb_own {p : Nat} {q : Option Nat} {w w1 w2 : World} (h : w.grownBy w1 (some p)) (h2 : w1.grownBy w2 q) (hq : ∀ g, q = some g → w.heap.size ≤ g) : w.grownBy w2 (some p) :=
  ⟨h2.os.trans h.os, h2.tape.trans h.tape, h2.output.trans h.output, Nat.le_trans h.size h2.size, fun k hk hne => (h2.block k (Nat.lt_of_lt_of_le hk h.size) (by intro e; have := hq k e.symm; omega)).trans (h.block k hk hne)⟩
theorem PS.own {w w' : World} {p : Nat} {q : Option Nat} {ts : List GTok} (h : PS w p ts) (h2 : w.grownBy w' q) (hq : ∀ g, q = some g → p < g) : PS w' p ts := by
  have hp := h.lt
  obtain ⟨A, cap, hh, h1, h3, h4⟩ := h
  exact ⟨A, cap, (h2.block p hp (by intro e; have := hq p e.symm; omega)).trans hh, h1, h3, h4.keep fun g hg => h2.block g (by omega) (by intro e; have := hq g e.symm; omega)⟩
def gnum (v : Int) : GVal := ⟨1, v, []⟩
def ArgRel (vs : List Int) (ts : List GTok) (p : Nat) (w : World) (va vm : Value) (wr : World) : Prop :=
  ∃ k : Nat, k ≤ vs.length ∧ vm = .bool (decide (k < vs.length)) ∧ OwnG GVal.cells 40 3 wr w.heap.size va ((vs.take k).map gnum) ∧ PS wr p (ts.drop (if k < vs.length then 2 * k + 1 else 2 * vs.length)) ∧ w.grownBy wr (some p)
def ArgMeas (n : Nat) (va vm : Value) : Nat := match va, vm with
  | .slice _ l _, .bool b => 2 * (n - l) + (if b then 1 else 0)
  | _, _ => 0

set_option maxRecDepth 50000 in
set_option maxHeartbeats 1000000 in
theorem arguments_nums (p : Nat) (vs : List Int) (ts : List GTok) (w : World) (h : PS w p ts) (ht : ArgToks vs ts) :
    Calls Tryz.prog 53 #[.pointer (some ⟨p, 0, none⟩)] w fun e w' => ∃ v, e = .returned (.tuple #[v, .int .i64 0]) ∧ OwnG GVal.cells 40 3 w' w.heap.size v (vs.map gnum) ∧ PS w' p (ts.drop (2 * vs.length + 2)) ∧ w.grownBy w' (some p) := by
  have hl := ht.len
  have ho := ht.one
  have h8 := ht.eight
  have hpw := h.lt
  have HT := Lib.hid ht
  have hd0 : ts = ts[0] :: ts.drop 1 := by rw [← List.drop_eq_getElem_cons (by omega)]; rfl
  have HM := Lib.hid (mark1_hit p [40] ts[0] (ts.drop 1) w (by rw [← hd0]; exact h) (by intro e; have := congrArg List.length e; simp at this; omega) (ht.lpar (by omega)).1 (ht.lpar (by omega)).2)
  clear hd0
  clear ht h
  go_enter Tryz.func53, Tryz.ntmps53
  go_wp2_with fail
  refine HM.out.mono ?_
  rintro e w1 ⟨rfl, hps1, hg1⟩
  have HP1 := Lib.hid hps1
  have HG1 := Lib.hid hg1
  have hd1 : decide (0 < vs.length) = true := by simp; omega
  clear hps1 hg1 HM
  go_wp2
  go_loopw [5, 6] (fun va vm wr => ArgRel vs ts p w va vm wr) (fun va vm _ => ArgMeas vs.length va vm)
  case atStart => exact ⟨0, by omega, by rw [hd1], OwnG.nil _ _, by rw [if_pos (by omega)]; exact HP1.out, HG1.out⟩
  case round =>
    rename_i wr
    obtain ⟨k, hk, rfl, hown, hps, hgb⟩ := hrel
    have HO := Lib.hid hown
    have HPS := Lib.hid hps
    have HG := Lib.hid hgb
    have hgs := hgb.size
    obtain ⟨A, cap, rfl, hcap, hcm, hrow⟩ := hown.row GVal.len
    clear hown hps hgb hrow
    rcases Nat.lt_or_ge k vs.length with hlt | hge
    · have hdk : decide (k < vs.length) = true := by simp [hlt]
      rw [hdk]
      rw [if_pos hlt] at HPS
      have hd : ts.drop (2 * k + 1) = ts[2 * k + 1] :: ts[2 * k + 2] :: ts.drop (2 * k + 3) := by rw [List.drop_eq_getElem_cons (by omega), List.drop_eq_getElem_cons (by omega)]
      have HD2 : Hid (ts.drop (2 * k + 2) = ts[2 * k + 2] :: ts.drop (2 * k + 3)) := Lib.hid (List.drop_eq_getElem_cons (by omega))
      rw [hd] at HPS
      obtain ⟨nk, nv⟩ := HT.out.num k hlt (by omega)
      obtain ⟨bd0, bd1⟩ := HT.out.bd vs[k] (List.getElem_mem hlt)
      have HARG := Lib.hid (argument_num p ts[2 * k + 1] ts[2 * k + 2] (ts.drop (2 * k + 3)) wr HPS.out nk (by rw [nv]; exact bd0) (by rw [nv]; exact bd1))
      rw [nv] at HARG
      have HNE : Hid (k + 1 < vs.length → ts.drop (2 * k + 3) ≠ []) := Lib.hid fun _ e => by have := congrArg List.length e; simp at this; omega
      have HC1 : Hid (k + 1 < vs.length → ts[2 * k + 2].kind = 4 ∧ ts[2 * k + 2].text = [44]) := Lib.hid fun h => HT.out.com k h (by omega)
      have HC2 : Hid (k + 1 = vs.length → ts[2 * k + 2].kind = 4 ∧ ts[2 * k + 2].text = [41]) := Lib.hid fun h => by
        have := HT.out.rpar (by omega)
        have e : 2 * vs.length = 2 * k + 2 := by omega
        simp only [e] at this
        exact this
      have HTK : Hid ((vs.take k).map gnum ++ [gnum vs[k]] = (vs.take (k + 1)).map gnum) := Lib.hid (by rw [List.take_succ_eq_append_getElem hlt, List.map_append]; rfl)
      clear hd nk nv
      have hln : ((vs.take k).map gnum).length = k := by simp; omega
      generalize ts[2 * k + 2] = u at *
      generalize vs[k] = x at *
      rw [hln] at HO hcap
      rw [hln]
      have hk8 : k < 8 := by omega
      have hk8i : (k : Int) < 8 := by omega
      have hd8 : decide ((k : Int) < 8) = true := by simp; omega
      have HLN := Lib.hid hln
      clear hln
      simp only [GVal.val] at HARG
      go_wp2_with fail
      refine HARG.out.mono ?_
      rintro e w1 ⟨rfl, hps1, hg1⟩
      have hown2 := ((HO.out.gb hpw hg1).alloc (.cells #[.int .i64 1, .int .i64 x, .string ⟨#[]⟩] 40)).alloc (.cells #[.int .i64 1, .int .i64 x, .string ⟨#[]⟩] 40)
      have hlit := GRow.lit GVal.len (w1.alloc (.cells #[.int .i64 1, .int .i64 x, .string ⟨#[]⟩] 40)) 40 [gnum x] #[.int .i64 1, .int .i64 x, .string ⟨#[]⟩] rfl (by unfold maxLen; simp)
      have hs1 := hg1.size
      obtain ⟨v', w3, hrun, hown3, hgr3, _⟩ := OwnG.app elt_val GVal.len GVal.one hown2 1 hlit (by simp; omega) (by rw [HLN.out]; unfold maxLen; simp; omega) (by rw [HLN.out]; simp; omega)
      have hq : ∀ g, Value.ownBlock (.slice A k cap) = some g → w.heap.size ≤ g := fun g hg => (HO.out.lt g hg).1
      have HG3 := Lib.hid (gb_own (gb_trans HG.out (gb_lit (gb_lit hg1 _) _)) hgr3 hq)
      have HP3 := Lib.hid (((hps1.lit _).lit _).own hgr3 (fun g hg => by have := hq g hg; omega))
      rw [HTK.out] at hown3
      obtain ⟨A3, cap3, rfl, _, _, _⟩ := hown3.row GVal.len
      have hl3 : ((vs.take (k + 1)).map gnum).length = k + 1 := by simp; omega
      have HO3 := Lib.hid hown3
      rw [hl3] at hrun HO3
      have HL3 := Lib.hid hl3
      have HRUN := Lib.hid hrun
      clear hps1 hg1 hown2 hlit hrun hown3 hgr3 hq hl3
      have eN : (w1.alloc (.cells #[.int .i64 1, .int .i64 x, .string ⟨#[]⟩] 40)).heap.size = w1.heap.size + 1 := by simp
      rw [eN] at HRUN
      clear eN
      go_wp2_with (at_builtin; refine wpList_gapp HRUN.out rfl rfl rfl rfl rfl ?_)
      by_cases hlast : k + 1 < vs.length
      · obtain ⟨uk, ux⟩ := HC1.out hlast
        have HMK := Lib.hid (mark1_hit p [44] u (ts.drop (2 * k + 3)) w3 HP3.out (HNE.out hlast) uk ux)
        have hdl : decide (k + 1 < vs.length) = true := by simp [hlast]
        clear uk ux
        go_wp2_with fail
        refine HMK.out.mono ?_
        rintro e w4 ⟨rfl, hps4, hg4⟩
        have HO4 := Lib.hid (HO3.out.gb hpw hg4)
        have HP4 := Lib.hid hps4
        have HG4 := Lib.hid (gb_trans HG3.out hg4)
        clear hps4 hg4
        go_wp2
        go_roundw
        case rel => exact ⟨k + 1, by omega, by rw [hdl], HO4.out, by rw [if_pos hlast]; exact HP4.out, HG4.out⟩
        case measure => simp [ArgMeas]; omega
      · obtain ⟨uk, ux⟩ := HC2.out (by omega)
        have HMK := Lib.hid (mark1_miss p [44] u (ts.drop (2 * k + 3)) w3 HP3.out uk (by rw [ux]; decide))
        have hdl : decide (k + 1 < vs.length) = false := by simp; omega
        clear uk ux
        go_wp2_with fail
        refine HMK.out.mono ?_
        rintro e w4 ⟨rfl, hps4, hg4⟩
        have HO4 := Lib.hid (HO3.out.gb hpw hg4)
        have HP4 := Lib.hid hps4
        have HG4 := Lib.hid (gb_trans HG3.out hg4)
        clear hps4 hg4
        go_wp2
        go_roundw
        case rel => exact ⟨k + 1, by omega, by rw [hdl], HO4.out, by rw [if_neg hlast, show 2 * vs.length = 2 * k + 2 by omega, HD2.out]; exact HP4.out, HG4.out⟩
        case measure => simp [ArgMeas]; omega
    · have hdk : decide (k < vs.length) = false := by simp; omega
      rw [hdk]
      rw [if_neg (by omega)] at HPS
      have hd : ts.drop (2 * vs.length) = ts[2 * vs.length] :: ts[2 * vs.length + 1] :: ts.drop (2 * vs.length + 2) := by rw [List.drop_eq_getElem_cons (by omega), List.drop_eq_getElem_cons (by omega)]
      rw [hd] at HPS
      obtain ⟨k1, x1⟩ := HT.out.rpar (by omega)
      obtain ⟨k2, x2⟩ := HT.out.dot (by omega)
      have HMK := Lib.hid (mark2_hit p [41] [46] _ _ _ wr HPS.out (by intro e; have := congrArg List.length e; simp at this; omega) k1 x1 k2 x2)
      have HTA : Hid ((vs.take k).map gnum = vs.map gnum) := Lib.hid (by rw [List.take_of_length_le (by omega)])
      clear hd k1 x1 k2 x2
      have hln : ((vs.take k).map gnum).length = k := by simp; omega
      rw [hln] at HO
      rw [hln]
      clear hln
      go_wp2_with fail
      refine HMK.out.mono ?_
      rintro e w4 ⟨rfl, hps4, hg4⟩
      have HO4 := Lib.hid (HO.out.gb hpw hg4)
      go_wp2
      go_ret2
      exact ⟨_, rfl, by rw [← HTA.out]; exact HO4.out, hps4, gb_trans HG.out hg4⟩
end Go.Proofs.YtmodjokoggmnaaaGreatDoor
