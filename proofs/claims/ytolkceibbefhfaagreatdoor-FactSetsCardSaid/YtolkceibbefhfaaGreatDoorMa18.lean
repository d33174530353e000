/-
  The parser of facts: its tokens, take, nameSized, marks.
  Conditions: the last token is never taken.
  The parser of facts at a number, at a relation, at the arguments of a fact: where the text is as the grammar asks, its arguments numbers.
  Conditions: as each theorem says.
-/
import Derived.Test.YtolkceibbefhfaaGreatDoorMa13
import Derived.Test.YtolkceibbefhfaaGreatDoorMa15
import Derived.Test.YtolkceibbefhfaaGreatDoorMa17
namespace Go.Proofs.YtolkceibbefhfaaGreatDoor
open Go.RowKit Go.Shelf

theorem GTok.len5 (t : GTok) : t.cells.length = 5 := rfl
theorem elt_tok : Elt 64 70 5 48 := Elt.of (.agg #[.int .i64 0, .string ⟨#[]⟩, .int .u64 0, .int .i64 0, .int .i64 0]) Tryz.underlying64 (by kernel_rfl) rfl (by decide)
/-- The parser in block p has the tokens ts left. -/
def PS (w : World) (p : Nat) (ts : List GTok) : Prop := ∃ A cap, w.heap[p]? = some (.cells #[.slice A ts.length cap] 72 (0, 0)) ∧ ts.length ≤ cap ∧ cap ≤ maxLen ∧ GRow GTok.cells 5 w p A ts
theorem PS.lt {w : World} {p : Nat} {ts : List GTok} (h : PS w p ts) : p < w.heap.size := by
  obtain ⟨A, cap, hh, _⟩ := h
  rcases Nat.lt_or_ge p w.heap.size with h1 | h1
  · exact h1
  · rw [Array.getElem?_eq_none h1] at hh; cases hh
theorem PS.next {w w' : World} {p : Nat} {ts : List GTok} (h : PS w p ts) (hb : Below w.heap.size w w') : PS w' p ts := by
  have hp := h.lt
  obtain ⟨A, cap, hh, h1, h2, h3⟩ := h
  exact ⟨A, cap, (hb.block p hp).trans hh, h1, h2, h3.keep fun g hg => hb.block g (by omega)⟩
/-- What lies in memory for a walk that looks at the first token. -/
theorem PS.open {w : World} {p : Nat} {t : GTok} {ts : List GTok} (h : PS w p (t :: ts)) : ∃ b off cap, b < p ∧ p < w.heap.size ∧ ts.length + 1 ≤ cap ∧ cap ≤ maxLen ∧ w.heap[p]? = some (.cells #[.slice (some ⟨b, off, none⟩) (ts.length + 1) cap] 72 (0, 0)) ∧
    w.cell? ⟨p, 0, none⟩ = some (.slice (some ⟨b, off, none⟩) (ts.length + 1) cap) ∧ w.frozen? ⟨p, 0, none⟩ = false ∧ GRow GTok.cells 5 w p (some ⟨b, off, none⟩) (t :: ts) ∧
    w.cell? ⟨b, off, none⟩ = some (.int .i64 t.kind) ∧ w.cell? ⟨b, off + 1, none⟩ = some (.string ⟨t.text.toArray⟩) ∧ w.cell? ⟨b, off + 2, none⟩ = some (.int .u64 t.value) ∧ w.cell? ⟨b, off + 3, none⟩ = some (.int .i64 t.line) ∧ w.cell? ⟨b, off + 4, none⟩ = some (.int .i64 t.col) := by
  have hp := h.lt
  obtain ⟨A, cap, hh, h1, h2, h3⟩ := h
  obtain ⟨b, off, rfl, hb, hc⟩ := h3 (by simp)
  have c := fun j u hu => hc 0 (by simp) j u hu
  simp only [Nat.zero_mul, Nat.zero_add, List.getElem_cons_zero] at c
  exact ⟨b, off, cap, hb, hp, by simpa using h1, h2, by simpa using hh, by rw [Lib.cell_of_heap hh]; rfl, Lib.frozen_of_heap hh 0, h3, c 0 _ rfl, c 1 _ rfl, c 2 _ rfl, c 3 _ rfl, c 4 _ rfl⟩
theorem gb_set (w : World) (p : Nat) (v : Value) : w.grownBy (w.setCell ⟨p, 0, none⟩ v) (some p) := ⟨rfl, rfl, rfl, by simp, fun k _ hk => Below.heap_setCell _ _ _ k (fun e => hk (by rw [e]))⟩
theorem gb_lit {p : Option Nat} {w w1 : World} (h : w.grownBy w1 p) (o : Obj) : w.grownBy (w1.alloc o) p :=
  ⟨h.os, h.tape, h.output, by have := h.size; simp; omega, fun k hk hne => (Below.heap_alloc w1 o k (by have := h.size; omega)).trans (h.block k hk hne)⟩
theorem PS.set {w : World} {p : Nat} {old : Value} {A : Option Addr} {cap : Nat} {ts : List GTok} (hh : w.heap[p]? = some (.cells #[old] 72 (0, 0))) (h1 : ts.length ≤ cap) (h2 : cap ≤ maxLen) (hr : GRow GTok.cells 5 w p A ts) :
    PS (w.setCell ⟨p, 0, none⟩ (.slice A ts.length cap)) p ts :=
  ⟨A, cap, by simp [World.setCell, Array.getElem?_modify, hh], h1, h2, hr.keep fun g hg => Below.heap_setCell _ _ _ _ (fun e => by simp at e; omega)⟩
theorem PS.lit {w : World} {p : Nat} {ts : List GTok} (h : PS w p ts) (o : Obj) : PS (w.alloc o) p ts := h.next ((Below.refl _ _).alloc (Nat.le_refl _) o)
set_option maxRecDepth 50000 in
set_option maxHeartbeats 1000000 in
theorem take_any (p : Nat) (t u : GTok) (ts : List GTok) (w : World) (h : PS w p (t :: u :: ts)) :
    Calls Tryz.prog 98 #[.pointer (some ⟨p, 0, none⟩)] w fun e w' => e = .returned t.val ∧ PS w' p (u :: ts) ∧ w.grownBy w' (some p) := by
  obtain ⟨b, off, cap, hb, hp, hc1, hc2, hh, hcp, hfz, hr, x0, x1, x2, x3, x4⟩ := h.open
  have HH := Lib.hid hh
  have HR := Lib.hid hr
  obtain ⟨tk, tt, tv, tl, tc⟩ := t
  simp only [GTok.val] at *
  have hbw : b < w.heap.size := by omega
  have hbp : b ≠ p := by omega
  have hn1 : ¬ cap = 1 := by simp at hc1; omega
  have hn2 : ¬ (1 : Int) = (cap : Int) := by omega
  simp only [List.length_cons] at hc1 hcp
  unfold maxLen at hc2
  clear hh hr h
  go_enter Tryz.func98, Tryz.ntmps98
  go_wp2
  refine bodyPost_ret (v := .agg #[.int .i64 tk, .string ⟨tt.toArray⟩, .int .u64 tv, .int .i64 tl, .int .i64 tc]) (by simp [results, Tryz.results98, go_sem]) rfl ⟨rfl, ?_, ?_⟩
  · exact ((PS.set HH.out (by simp; omega) (by unfold maxLen; omega) HR.out.tail).lit _).lit _
  · exact gb_lit (gb_lit (gb_set _ _ _) _) _
theorem nameSized_yes (l : List UInt8) (w : World) (h1 : 1 ≤ l.length) (h2 : l.length ≤ 24) :
    Calls Tryz.prog 77 #[.string ⟨l.toArray⟩] w fun e w' => e = .returned (.bool true) ∧ w = w' := by
  have hsz : (⟨l.toArray⟩ : ByteArray).size = l.length := ba_size l
  go_enter Tryz.func77, Tryz.ntmps77
  go_wp2
  go_ret
  exact ⟨ret_bool (by simp; omega), rfl⟩
def encS (s : List UInt8) : List Value := [.string ⟨s.toArray⟩]
def MarkRel (ss : List (List UInt8)) (ts : List GTok) (p : Nat) (w : World) (vi : Value) (wr : World) : Prop := ∃ k : Nat, vi = .int .i64 k ∧ k ≤ ss.length ∧ PS wr p (ts.drop k) ∧ w.grownBy wr (some p)
theorem GRow.gb {α : Type} {enc : α → List Value} {k : Nat} {w w' : World} {A : Option Addr} {xs : List α} {p : Nat} (h : GRow enc k w w.heap.size A xs) (hp : ∀ b off, A = some ⟨b, off, none⟩ → b ≠ p) (hg : w.grownBy w' (some p)) : GRow enc k w' w'.heap.size A xs := fun hn => by
  obtain ⟨b, off, rfl, hlt, hc⟩ := h hn
  refine ⟨b, off, rfl, Nat.lt_of_lt_of_le hlt hg.size, fun i hi j u hu => (World.cell?_of_block (a := ⟨b, off + (i * k + j), none⟩) (hg.block b hlt ?_)).trans (hc i hi j u hu)⟩
  intro e; cases e; exact hp _ _ rfl rfl
set_option maxRecDepth 50000 in
set_option maxHeartbeats 1000000 in
/-- marks(ss..) where the next tokens are these marks, and one is left. -/
theorem marks_hit (p : Nat) (ss : List (List UInt8)) (A : Option Addr) (cap : Nat) (ts : List GTok) (w : World) (h : PS w p ts) (hs : GRow encS 1 w w.heap.size A ss) (hp : ∀ b off, A = some ⟨b, off, none⟩ → b ≠ p)
    (hl : ss.length < ts.length) (hs8 : ss.length ≤ 1000) (hit : ∀ i (h1 : i < ss.length) (h2 : i < ts.length), ts[i].kind = 4 ∧ ts[i].text = ss[i]) :
    Calls Tryz.prog 99 #[.pointer (some ⟨p, 0, none⟩), .slice A ss.length cap] w fun e w' => e = .returned (.int .i64 0) ∧ PS w' p (ts.drop ss.length) ∧ w.grownBy w' (some p) := by
  have HS := Lib.hid hs
  have HIT := Lib.hid hit
  have HP := Lib.hid hp
  have H0 := Lib.hid h
  clear hs hit hp h
  go_enter Tryz.func99, Tryz.ntmps99
  go_wp2
  go_loopw [10] (fun vi wr => MarkRel ss ts p w vi wr) (fun vi _ => ss.length - (intOf vi).toNat)
  case atStart => exact ⟨0, rfl, by omega, by simpa using H0.out, gb_refl _⟩
  case round =>
    rename_i wr
    obtain ⟨k, rfl, hk, hps, hgb⟩ := hrel
    rcases Nat.lt_or_ge k ss.length with hlt | hge
    · obtain ⟨tk4, ttx⟩ := HIT.out k hlt (by omega)
      have hd : ts.drop k = ts[k] :: ts[k + 1] :: ts.drop (k + 2) := by rw [List.drop_eq_getElem_cons (by omega), List.drop_eq_getElem_cons (by omega)]
      have HD1 : Hid (ts.drop (k + 1) = ts[k + 1] :: ts.drop (k + 2)) := Lib.hid (List.drop_eq_getElem_cons (by omega))
      rw [hd] at hps
      have HPS := Lib.hid hps
      obtain ⟨b, off, cp, hbp, hpw, hc1, hc2, hh, hcp, hfz, hr, x0, x1, x2, x3, x4⟩ := hps.open
      have hgsz := hgb.size
      obtain ⟨sb, so, rfl, hsb, hsc⟩ := (HS.out.gb HP.out hgb) (by omega)
      have y0 := hsc k hlt 0 _ rfl
      simp only [Nat.mul_one, Nat.add_zero] at y0
      rw [← ttx] at y0
      have HTK := Lib.hid (take_any p ts[k] ts[k + 1] (ts.drop (k + 2)))
      generalize ts[k + 1] = u at *
      generalize ts[k] = t at *
      obtain ⟨tk, tt, tv, tl, tc⟩ := t
      simp only at tk4 x0 x1 x2 x3 x4 y0
      subst tk4
      have HG := Lib.hid hgb
      have hbw : b < wr.heap.size := by omega
      have ftt : (tt != tt) = false := by simp
      clear hps hd hh hr hgb hsc ttx
      simp only [List.length_cons] at hcp hc1
      go_wp2_with fail
      refine (HTK.out _ (HPS.out.lit _)).mono ?_
      rintro e w1 ⟨rfl, hps1, hg1⟩
      have HP1 := Lib.hid hps1
      have HG1 := Lib.hid (gb_trans (gb_lit HG.out _) hg1)
      clear hps1 hg1
      go_wp2
      go_roundw
      case rel => exact ⟨k + 1, by go_num, by omega, by rw [HD1.out]; exact HP1.out, HG1.out⟩
      case measure => simp [intOf]; omega
    · have HPS := Lib.hid hps
      have HG := Lib.hid hgb
      clear hps hgb
      go_wp2
      go_ret
      exact ⟨rfl, by rw [show ss.length = k by omega]; exact HPS.out, HG.out⟩
set_option maxRecDepth 50000 in
set_option maxHeartbeats 1000000 in
/-- marks(s) where the next token is another mark. -/
theorem marks_miss (p : Nat) (s : List UInt8) (N : Nat) (t : GTok) (ts : List GTok) (w : World) (h : PS w p (t :: ts)) (hs : w.cell? ⟨N, 0, none⟩ = some (.string ⟨s.toArray⟩)) (hk : t.kind = 4) (ht : t.text ≠ s) :
    Calls Tryz.prog 99 #[.pointer (some ⟨p, 0, none⟩), .slice (some ⟨N, 0, none⟩) 1 1] w fun e w' => e = .returned (.int .i64 50) ∧ PS w' p (t :: ts) ∧ w.grownBy w' (some p) := by
  have HPS := Lib.hid h
  obtain ⟨b, off, cp, hbp, hpw, hc1, hc2, hh, hcp, hfz, hr, x0, x1, x2, x3, x4⟩ := h.open
  obtain ⟨tk, tt, tv, tl, tc⟩ := t
  simp only at hk ht x0 x1 x2 x3 x4
  subst hk
  have hbw : b < w.heap.size := by omega
  have ftt : (tt == s) = false := by simp [ht]
  clear h hh hr
  go_enter Tryz.func99, Tryz.ntmps99
  go_wp2
  go_loopw [10] (fun vi wr => vi = .int .i64 0 ∧ wr = w) (fun _ _ => 0)
  case atStart => exact ⟨rfl, rfl⟩
  case round =>
    rename_i wr
    obtain ⟨rfl, rfl⟩ := hrel
    go_wp2
    go_ret
    exact ⟨rfl, HPS.out.lit _, gb_lit (gb_refl _) _⟩
end Go.Proofs.YtolkceibbefhfaaGreatDoor


namespace Go.Proofs.YtolkceibbefhfaaGreatDoor
open Go.RowKit Go.Shelf

theorem firstError_num (t : GTok) (w : World) (hk : t.kind = 2) (h0 : 0 ≤ t.value) (h1 : t.value ≤ 9223372036854775807) :
    Calls Tryz.prog 114 #[t.val] w fun e w' => e = .returned (.int .i64 0) ∧ Below w.heap.size w w' := by
  obtain ⟨tk, tt, tv, tl, tc⟩ := t
  simp only [GTok.val] at *
  subst hk
  have hf : decide (tv > 9223372036854775807) = false := by simp; omega
  have hf2 : ¬ tv > 9223372036854775807 := by omega
  go_enter Tryz.func114, Tryz.ntmps114
  go_wp2
  go_ret
  exact ⟨rfl, bel_lit (Below.refl _ _) _⟩
theorem fnum_any (v : Int) (w : World) (h0 : 0 ≤ v) (h1 : v ≤ 9223372036854775807) :
    Calls Tryz.prog 116 #[.int .u64 v] w fun e w' => e = .returned (GVal.val ⟨1, v, []⟩) ∧ Below w.heap.size w w' := by
  have hw : IntKind.i64.wrap v = v := IntWalk.i64_in _ (by omega)
  go_enter Tryz.func116, Tryz.ntmps116
  go_wp2
  exact bodyPost_ret (v := GVal.val ⟨1, v, []⟩) (by simp [results, Tryz.results116, go_sem, GVal.val]) rfl ⟨rfl, bel_lit (Below.refl _ _) _⟩
theorem gb_new {q : Option Nat} {w w1 : World} (h : w.grownBy w1 q) (a : Addr) (v : Value) (ha : w.heap.size ≤ a.block) : w.grownBy (w1.setCell a v) q :=
  ⟨h.os, h.tape, h.output, by have := h.size; simp; omega, fun k hk hne => (Below.heap_setCell _ _ _ k (by omega)).trans (h.block k hk hne)⟩
theorem PS.other {w : World} {p : Nat} {ts : List GTok} (h : PS w p ts) (a : Addr) (v : Value) (ha : p < a.block) : PS (w.setCell a v) p ts := by
  obtain ⟨A, cap, hh, h1, h2, h3⟩ := h
  exact ⟨A, cap, (Below.heap_setCell _ _ _ p (by omega)).trans hh, h1, h2, h3.keep fun g hg => Below.heap_setCell _ _ _ g (by omega)⟩
set_option maxRecDepth 50000 in
set_option maxHeartbeats 1000000 in
theorem argument_num (p : Nat) (t u : GTok) (ts : List GTok) (w : World) (h : PS w p (t :: u :: ts)) (hk : t.kind = 2) (h0 : 0 ≤ t.value) (h1 : t.value ≤ 9223372036854775807) :
    Calls Tryz.prog 100 #[.pointer (some ⟨p, 0, none⟩), .bool true] w fun e w' => e = .returned (.tuple #[GVal.val ⟨1, t.value, []⟩, .int .i64 0]) ∧ PS w' p (u :: ts) ∧ w.grownBy w' (some p) := by
  have HPS := Lib.hid h
  obtain ⟨b, off, cp, hbp, hpw, hc1, hc2, hh, hcp, hfz, hr, x0, x1, x2, x3, x4⟩ := h.open
  have HF := Lib.hid fun W => firstError_num t W hk h0 h1
  have HN := Lib.hid fun W => fnum_any t.value W h0 h1
  have HT := Lib.hid fun W => take_any p t u ts W
  obtain ⟨tk, tt, tv, tl, tc⟩ := t
  simp only [GTok.val, GVal.val] at *
  subst hk
  have hbw : b < w.heap.size := by omega
  clear h hh hr
  go_enter Tryz.func100, Tryz.ntmps100
  go_wp2_with fail
  refine (HF.out _).mono ?_
  rintro e w1 ⟨rfl, hb1⟩
  have HB1 := Lib.hid (bel_alloc (Below.refl w.heap.size w) hb1)
  have hs1 := HB1.out.size
  have HB0 := Lib.hid hb1
  have hz : w.heap.size < w1.heap.size := by have := hb1.size; simp at this; omega
  clear hb1
  go_wp2_with fail
  refine (HT.out _ (HPS.out.next HB1.out)).mono ?_
  rintro e w2 ⟨rfl, hps2, hg2⟩
  have HP2 := Lib.hid hps2
  have HG2 := Lib.hid hg2
  have hs2 := hg2.size
  clear hps2 hg2
  go_wp2_with fail
  refine (HN.out _).mono ?_
  rintro e w3 ⟨rfl, hb3⟩
  have HP3 := Lib.hid ((HP2.out.lit _).next hb3)
  have HG3 := Lib.hid (gb_trans (gb_trans (gb_bel HB1.out) HG2.out) (gb_trans (gb_lit (gb_refl _) _) (gb_bel hb3)))
  have hs3 : w2.heap.size + 1 ≤ w3.heap.size := by have := hb3.size; simp at this; omega
  have k0 : w3.heap[w.heap.size]? = some (.cells #[.int .i64 0, .int .i64 0, .string ⟨#[]⟩] 40 (0, 0)) := by
    rw [hb3.block _ (by simp; omega), Below.heap_alloc _ _ _ (by omega), HG2.out.block _ (by omega) (by intro e; cases e; omega), HB0.out.block _ (by simp)]
    exact heap_alloc_new w _
  have z0 := Lib.frozen_of_heap k0 0
  have z1 := Lib.frozen_of_heap k0 1
  have z2 := Lib.frozen_of_heap k0 2
  have q0 : w3.cell? ⟨w.heap.size, 0, none⟩ = some (.int .i64 0) := by rw [Lib.cell_of_heap k0]; rfl
  have q1 : w3.cell? ⟨w.heap.size, 1, none⟩ = some (.int .i64 0) := by rw [Lib.cell_of_heap k0]; rfl
  have q2 : w3.cell? ⟨w.heap.size, 2, none⟩ = some (.string ⟨#[]⟩) := by rw [Lib.cell_of_heap k0]; rfl
  have HK := Lib.hid k0
  clear hb3 k0
  go_wp2
  refine bodyPost_ret (v := .tuple #[GVal.val ⟨1, tv, []⟩, .int .i64 0]) (by simp [results, Tryz.results100, go_sem, GVal.val, q0, q1, q2]) rfl ⟨rfl, ?_, ?_⟩
  · exact ((HP3.out.other _ _ hpw).other _ _ hpw).other _ _ hpw
  · exact gb_new (gb_new (gb_new HG3.out _ _ (Nat.le_refl _)) _ _ (Nat.le_refl _)) _ _ (Nat.le_refl _)
set_option maxRecDepth 50000 in
set_option maxHeartbeats 1000000 in
theorem relation_any (p : Nat) (t u : GTok) (ts : List GTok) (w : World) (h : PS w p (t :: u :: ts)) (hk : t.kind = 1) (h1 : 1 ≤ t.text.length) (h2 : t.text.length ≤ 24) :
    Calls Tryz.prog 70 #[.pointer (some ⟨p, 0, none⟩), .bool true] w fun e w' => e = .returned (.tuple #[.string ⟨t.text.toArray⟩, .int .i64 0]) ∧ PS w' p (u :: ts) ∧ w.grownBy w' (some p) := by
  have HPS := Lib.hid h
  obtain ⟨b, off, cp, hbp, hpw, hc1, hc2, hh, hcp, hfz, hr, x0, x1, x2, x3, x4⟩ := h.open
  have HN := Lib.hid fun W => nameSized_yes t.text W h1 h2
  have HT := Lib.hid fun W => take_any p t u ts W
  obtain ⟨tk, tt, tv, tl, tc⟩ := t
  simp only [GTok.val] at *
  subst hk
  have hbw : b < w.heap.size := by omega
  have hfl : ∀ W : World, (Instr.field 70 (.agg #[.int .i64 1, .string ⟨tt.toArray⟩, .int .u64 tv, .int .i64 tl, .int .i64 tc]) 1).run Tryz.prog W = .ok (.string ⟨tt.toArray⟩) W := fun W => by kernel_rfl
  clear h hh hr h1 h2
  go_enter Tryz.func70, Tryz.ntmps70
  go_wp2_with fail
  refine (HN.out _).mono ?_
  rintro e w1 ⟨rfl, rfl⟩
  go_wp2_with fail
  refine (HT.out _ (HPS.out.lit _)).mono ?_
  rintro e w2 ⟨rfl, hps2, hg2⟩
  have HP2 := Lib.hid hps2
  have HG2 := Lib.hid (gb_trans (gb_lit (gb_refl _) _) hg2)
  clear hps2 hg2
  go_wp2
  go_ret2
  exact ⟨rfl, HP2.out, HG2.out⟩
end Go.Proofs.YtolkceibbefhfaaGreatDoor
