/-
  The reference's parser: Fail.
  Conditions: the text has at most 65536 bytes, the tokens are at most 70000.
  The reference's parser: Take, Need, Any, Name.
  Conditions: the text has at most 65536 bytes, the tokens are at most 70000.
  The reference's parser: Any, Name.
  Conditions: the text has at most 65536 bytes, the tokens are at most 70000.
-/
import Derived.Test.YtmodjokoggmnaaaGreatDoorMa24
namespace Go.Proofs.YtmodjokoggmnaaaGreatDoor
open Go.RowKit Go.Shelf

def P6 (w : World) (p : Nat) (a b c d e f : Value) : Prop := w.heap[p]? = some (.cells #[a, b, c, d, e, f] 62 (0, 0))
theorem P6.lt {w : World} {p : Nat} {a b c d e f : Value} (h : P6 w p a b c d e f) : p < w.heap.size := by
  unfold P6 at h
  rcases Nat.lt_or_ge p w.heap.size with h1 | h1
  · exact h1
  · rw [Array.getElem?_eq_none h1] at h; cases h
theorem P6.set2 {w : World} {p : Nat} {a b c d e f : Value} (h : P6 w p a b c d e f) (v : Value) : P6 (w.setCell ⟨p, 2, none⟩ v) p a b v d e f := (heap_setCell_same w p 2 #[a, b, c, d, e, f] _ v h).trans rfl
theorem P6.set3 {w : World} {p : Nat} {a b c d e f : Value} (h : P6 w p a b c d e f) (v : Value) : P6 (w.setCell ⟨p, 3, none⟩ v) p a b c v e f := (heap_setCell_same w p 3 #[a, b, c, d, e, f] _ v h).trans rfl
theorem P6.set4 {w : World} {p : Nat} {a b c d e f : Value} (h : P6 w p a b c d e f) (v : Value) : P6 (w.setCell ⟨p, 4, none⟩ v) p a b c d v f := (heap_setCell_same w p 4 #[a, b, c, d, e, f] _ v h).trans rfl
theorem P6.set5 {w : World} {p : Nat} {a b c d e f : Value} (h : P6 w p a b c d e f) (v : Value) : P6 (w.setCell ⟨p, 5, none⟩ v) p a b c d e v := (heap_setCell_same w p 5 #[a, b, c, d, e, f] _ v h).trans rfl
theorem P6.next {w w' : World} {p : Nat} {a b c d e f : Value} (h : P6 w p a b c d e f) (hb : Below w.heap.size w w') : P6 w' p a b c d e f := (hb.block p h.lt).trans h
theorem P6.facts {w : World} {p : Nat} {a b c d e f : Value} (h : P6 w p a b c d e f) : w.cell? ⟨p, 0, none⟩ = some a ∧ w.cell? ⟨p, 1, none⟩ = some b ∧ w.cell? ⟨p, 2, none⟩ = some c ∧ w.cell? ⟨p, 3, none⟩ = some d ∧ w.cell? ⟨p, 4, none⟩ = some e ∧ w.cell? ⟨p, 5, none⟩ = some f ∧
    w.frozen? ⟨p, 2, none⟩ = false ∧ w.frozen? ⟨p, 3, none⟩ = false ∧ w.frozen? ⟨p, 4, none⟩ = false ∧ w.frozen? ⟨p, 5, none⟩ = false := by
  unfold P6 at h
  exact ⟨by rw [Lib.cell_of_heap h]; rfl, by rw [Lib.cell_of_heap h]; rfl, by rw [Lib.cell_of_heap h]; rfl, by rw [Lib.cell_of_heap h]; rfl, by rw [Lib.cell_of_heap h]; rfl, by rw [Lib.cell_of_heap h]; rfl, Lib.frozen_of_heap h 2, Lib.frozen_of_heap h 3, Lib.frozen_of_heap h 4, Lib.frozen_of_heap h 5⟩
theorem RPS.six {w : World} {p : Nat} {l : List UInt8} {gs : List GTok} {s : RS} (h : RPS w p l gs s) : ∃ A cap, P6 w p (.string ⟨l.toArray⟩) (.slice A gs.length cap) (.int .i64 s.i) (.int .i64 s.x) (.int .i64 s.y) (.int .i64 s.e) ∧ GRow GTok.cells 5 w p A gs := h
theorem P6.rps {w : World} {p : Nat} {l : List UInt8} {gs : List GTok} {A : Option Addr} {cap i : Nat} {x y e : Int} (h : P6 w p (.string ⟨l.toArray⟩) (.slice A gs.length cap) (.int .i64 i) (.int .i64 x) (.int .i64 y) (.int .i64 e)) (hr : GRow GTok.cells 5 w p A gs) : RPS w p l gs ⟨i, x, y, e⟩ := ⟨A, cap, h, hr⟩
theorem row_set {w : World} {p : Nat} {A : Option Addr} {gs : List GTok} (h : GRow GTok.cells 5 w p A gs) (k : Nat) (v : Value) : GRow GTok.cells 5 (w.setCell ⟨p, k, none⟩ v) p A gs := h.keep fun g hg => Below.heap_setCell _ _ _ g (by show g ≠ p; omega)
theorem gb_setp {w w1 : World} {p : Nat} (h : w.grownBy w1 (some p)) (k : Nat) (v : Value) : w.grownBy (w1.setCell ⟨p, k, none⟩ v) (some p) :=
  ⟨h.os, h.tape, h.output, by have := h.size; simp; omega, fun g hg hne => (Below.heap_setCell _ _ _ g (by intro e; exact hne (by rw [e]))).trans (h.block g hg hne)⟩
theorem gb_drew {w w1 : World} {q : Option Nat} (h : w.grownBy w1 q) : w.grownBy w1.drew q := ⟨h.os, h.tape, h.output, h.size, h.block⟩
/-- Where the parser stands when a failure at token number j has been recorded. -/
def failR (l : List UInt8) (gs : List GTok) (s : RS) (j : Int) (er : Int) : RS :=
  if s.e = 0 then (match gs[j.toNat]? with | some t => ⟨s.i, t.line, t.col, er⟩ | none => ⟨s.i, (endTok l).line, (endTok l).col, er⟩) else s
/-- A method of the reference's parser ends with the value v, and the parser at s. -/
def REnd (v : Value) (s : RS) (p : Nat) (l : List UInt8) (gs : List GTok) (w : World) (e : Ending) (w' : World) : Prop := e = .returned v ∧ RPS w' p l gs s ∧ w.grownBy w' (some p)
set_option maxRecDepth 50000 in
set_option maxHeartbeats 1000000 in
theorem rFail_any (p : Nat) (l : List UInt8) (gs : List GTok) (s : RS) (j : Int) (er : Int) (w : World) (h : RPS w p l gs s) (hl : l.length ≤ 65536) (hj : s.e = 0 → 0 ≤ j) :
    Calls Tryz.prog 28 #[.pointer (some ⟨p, 0, none⟩), .int .i64 j, .int .i64 er] w (REnd (.tuple #[]) (failR l gs s j er) p l gs w) := by
  have HO := Lib.hid (rOK_reads h).calls
  have H0 := Lib.hid h
  have hnot : ∀ (x : Bool) (w : World), (Op.unary .not (.bool x)).run Tryz.prog w = .ok (.bool (!x)) w := fun _ _ => rfl
  have HD : Hid (failR l gs s j er = if s.e = 0 then (match gs[j.toNat]? with | some t => ⟨s.i, t.line, t.col, er⟩ | none => ⟨s.i, (endTok l).line, (endTok l).col, er⟩) else s) := Lib.hid rfl
  by_cases he : s.e = 0
  case neg =>
    have he' : (s.e == 0) = false := by simp [he]
    rw [if_neg he] at HD
    rw [HD.out]
    rw [he'] at HO
    clear he he' h hj
    go_enter Tryz.func28, Tryz.ntmps28
    go_wp2_with fail
    go_fit HO.out
    rintro e w1 ⟨rfl, hb1⟩
    have HN := Lib.hid (H0.out.next hb1)
    have HG := Lib.hid (gb_bel hb1 : w.grownBy w1 (some p))
    clear hb1
    go_wp2
    exact bodyPost_ret (v := .tuple #[]) (by simp [results, Tryz.results28, go_sem]) rfl ⟨rfl, HN.out, HG.out⟩
  have he' : (s.e == 0) = true := by simp [he]
  have hj0 := hj he
  rw [if_pos he] at HD
  rw [he'] at HO
  obtain ⟨A, cap, h6, hrow⟩ := h.six
  have H6 := Lib.hid h6
  have HR := Lib.hid hrow
  have HAT := Lib.hid fun W => at_any l hl W
  have hsz : (⟨l.toArray⟩ : ByteArray).size = l.length := ba_size l
  have HET : Hid (endTok l = ⟨0, [], 0, (adv (1, 1) l).1, (adv (1, 1) l).2⟩) := Lib.hid rfl
  have hpw := h6.lt
  generalize ((adv (1, 1) l).1 : Int) = ex at *
  generalize ((adv (1, 1) l).2 : Int) = ey at *
  clear he he' h hj h6 hrow H0
  go_enter Tryz.func28, Tryz.ntmps28
  go_wp2_with fail
  go_fit HO.out
  rintro e w1 ⟨rfl, hb1⟩
  have H61 := Lib.hid (H6.out.next hb1)
  have HR1 := Lib.hid (HR.out.keep fun g hg => hb1.block g (by omega))
  have HG1 := Lib.hid (gb_bel hb1 : w.grownBy w1 (some p))
  have hp1 : p < w1.heap.size := H61.out.lt
  obtain ⟨c0, c1, c2, c3, c4, c5, z2, z3, z4, z5⟩ := H61.out.facts
  clear hb1 HO
  go_upto_region 2 with fail
  have H62 := Lib.hid (H61.out.set5 (.int .i64 er))
  have HR2 := Lib.hid (row_set HR1.out 5 (.int .i64 er))
  have HG2 := Lib.hid (gb_setp HG1.out 5 (.int .i64 er))
  generalize w1.setCell ⟨p, 5, none⟩ (.int .i64 er) = w2 at *
  have hp2 : p < w2.heap.size := H62.out.lt
  clear c0 c1 c2 c3 c4 c5 z2 z3 z4 z5
  have HS : Hid (∀ W, Below w2.heap.size w2 W → W.cell? ⟨p, 0, none⟩ = some (.string ⟨l.toArray⟩)) := Lib.hid fun W hb => (H62.out.next hb).facts.1
  have hbd : Below w2.heap.size w2 w2.drew := (Below.refl _ _).drew
  have hS0 := HS.out w2.drew hbd
  go_region_held3 (fun W => W.cell? ⟨p, 0, none⟩ = some (.string ⟨l.toArray⟩))
    (assumption)
    (first | (go_at_call 57; go_fit (HAT.out _); rintro e w3 ⟨rfl, hb3⟩; have hb4 := bel_next hbd hb3; have hSn := HS.out w3 hb4; obtain ⟨d0, d1, d2, d3, d4, d5, y2, y3, y4, y5⟩ := (H62.out.next hb4).facts; have hp3 : p < w3.heap.size := (H62.out.next hb4).lt; have hS9 := (((H62.out.next hb4).set3 (.int .i64 ex)).set4 (.int .i64 ey)).facts.1))
  have H63 := Lib.hid (((H62.out.next hb4).set3 (.int .i64 ex)).set4 (.int .i64 ey))
  have HR3 := Lib.hid (row_set (row_set (HR2.out.keep fun g hg => hb4.block g (by omega)) 3 (.int .i64 ex)) 4 (.int .i64 ey))
  have HG3 := Lib.hid (gb_setp (gb_setp (gb_trans HG2.out (gb_bel hb4)) 3 (.int .i64 ex)) 4 (.int .i64 ey))
  generalize (w3.setCell ⟨p, 3, none⟩ (.int .i64 ex)).setCell ⟨p, 4, none⟩ (.int .i64 ey) = w5 at *
  have hp5 : p < w5.heap.size := H63.out.lt
  obtain ⟨c0, c1, c2, c3, c4, c5, z2, z3, z4, z5⟩ := H63.out.facts
  clear hbd hS0 hb3 hb4 hSn hS9 d0 d1 d2 d3 d4 d5 y2 y3 y4 y5
  rcases Nat.lt_or_ge j.toNat gs.length with hi | hi
  · have f1 : decide (j < (gs.length : Int)) = true := by simp; omega
    have g1 : j < (gs.length : Int) := by omega
    rw [List.getElem?_eq_getElem hi] at HD
    obtain ⟨b, off, rfl, hb, x0, x1, x2, x3, x4⟩ := HR3.out.tok5 hi
    have hbw : b < w5.heap.size := by omega
    have hbp : b ≠ p := by omega
    generalize gs[j.toNat] = t at *
    obtain ⟨tk, tt, tv, tl, tc⟩ := t
    simp only at HD x0 x1 x2 x3 x4
    have HF := Lib.hid (((H63.out.set3 (.int .i64 tl)).set4 (.int .i64 tc)).rps (row_set (row_set HR3.out 3 (.int .i64 tl)) 4 (.int .i64 tc)))
    have HGF := Lib.hid (gb_setp (gb_setp HG3.out 3 (.int .i64 tl)) 4 (.int .i64 tc))
    go_wp2
    refine bodyPost_ret (v := .tuple #[]) (by simp [results, Tryz.results28, go_sem]) rfl ⟨rfl, ?_, ?_⟩
    · rw [HD.out]; exact HF.out
    · exact HGF.out
  · have f1 : decide (j < (gs.length : Int)) = false := by simp; omega
    have g1 : ¬ j < (gs.length : Int) := by omega
    rw [List.getElem?_eq_none hi] at HD
    have HF := Lib.hid (H63.out.rps HR3.out)
    go_wp2
    refine bodyPost_ret (v := .tuple #[]) (by simp [results, Tryz.results28, go_sem]) rfl ⟨rfl, ?_, HG3.out⟩
    rw [HD.out, HET.out]
    exact HF.out
end Go.Proofs.YtmodjokoggmnaaaGreatDoor


namespace Go.Proofs.YtmodjokoggmnaaaGreatDoor
open Go.RowKit Go.Shelf

def takeR (gs : List GTok) (s : RS) (k : Int) (tx : List UInt8) : RS := if peekR gs s k tx then { s with i := s.i + 1 } else s
theorem rPeek_calls {p : Nat} {l : List UInt8} {gs : List GTok} {s : RS} {w : World} (k : Int) (tx : List UInt8) (h : RPS w p l gs s) : Calls Tryz.prog 30 #[.pointer (some ⟨p, 0, none⟩), .int .i64 k, .string ⟨tx.toArray⟩] w fun e w' => e = .returned (.bool (peekR gs s k tx)) ∧ Below w.heap.size w w' :=
  (rPeek_any p l gs s k tx w h).mono fun _ _ ⟨e, m, hm⟩ => ⟨e, by rw [hm]; exact bel_drewN _ _ _⟩
theorem rKind_calls {p : Nat} {l : List UInt8} {gs : List GTok} {s : RS} {w : World} (k : Int) (h : RPS w p l gs s) : Calls Tryz.prog 58 #[.pointer (some ⟨p, 0, none⟩), .int .i64 k] w fun e w' => e = .returned (.bool (kindR gs s k)) ∧ Below w.heap.size w w' :=
  (rKind_any p l gs s k w h).mono fun _ _ ⟨e, m, hm⟩ => ⟨e, by rw [hm]; exact bel_drewN _ _ _⟩
theorem peek_lt {gs : List GTok} {s : RS} {k : Int} {tx : List UInt8} (h : peekR gs s k tx = true) : s.e = 0 ∧ s.i < gs.length := by
  unfold peekR doneR at h
  simp at h
  exact ⟨h.1, h.2.1⟩
theorem kind_lt {gs : List GTok} {s : RS} {k : Int} (h : kindR gs s k = true) : s.e = 0 ∧ ∃ hi : s.i < gs.length, gs[s.i].kind = k := by
  unfold kindR doneR at h
  simp at h
  refine ⟨h.1, h.2.1, ?_⟩
  have h2 := h.2.2
  rw [List.getElem?_eq_getElem h.2.1] at h2
  simpa using h2
set_option maxRecDepth 50000 in
set_option maxHeartbeats 1000000 in
theorem rTake_any (p : Nat) (l : List UInt8) (gs : List GTok) (s : RS) (k : Int) (tx : List UInt8) (w : World) (h : RPS w p l gs s) (hg : gs.length ≤ 70000) :
    Calls Tryz.prog 32 #[.pointer (some ⟨p, 0, none⟩), .int .i64 k, .string ⟨tx.toArray⟩] w (REnd (.bool (peekR gs s k tx)) (takeR gs s k tx) p l gs w) := by
  have HP := Lib.hid (rPeek_calls k tx h)
  have HD : Hid (takeR gs s k tx = if peekR gs s k tx then { s with i := s.i + 1 } else s) := Lib.hid rfl
  have H0 := Lib.hid h
  cases hk : peekR gs s k tx
  · rw [hk] at HP HD
    rw [if_neg (by simp)] at HD
    rw [HD.out]
    clear h HD hk
    go_enter Tryz.func32, Tryz.ntmps32
    go_wp2_with fail
    go_fit HP.out
    rintro e w1 ⟨rfl, hb1⟩
    have HN := Lib.hid (H0.out.next hb1)
    have HG := Lib.hid (gb_bel hb1 : w.grownBy w1 (some p))
    clear hb1
    go_wp2
    go_ret
    exact ⟨rfl, HN.out, HG.out⟩
  · have hi := (peek_lt hk).2
    rw [hk] at HP HD
    rw [if_pos rfl] at HD
    rw [HD.out]
    obtain ⟨A, cap, h6, hrow⟩ := h.six
    have H6 := Lib.hid h6
    have HR := Lib.hid hrow
    have hpw := h6.lt
    generalize hsi : s.i = i at *
    clear h HD hk h6 hrow H0
    go_enter Tryz.func32, Tryz.ntmps32
    go_wp2_with fail
    go_fit HP.out
    rintro e w1 ⟨rfl, hb1⟩
    have H61 := Lib.hid (H6.out.next hb1)
    have hp1 : p < w1.heap.size := H61.out.lt
    obtain ⟨c0, c1, c2, c3, c4, c5, z2, z3, z4, z5⟩ := H61.out.facts
    have hw : IntKind.i64.wrap ((i : Int) + 1) = ((i + 1 : Nat) : Int) := (IntWalk.i64_in _ (by omega)).trans (by omega)
    have HF := Lib.hid ((H61.out.set2 (.int .i64 ((i + 1 : Nat) : Int))).rps (row_set (HR.out.keep fun g hg => hb1.block g (by omega)) 2 (.int .i64 ((i + 1 : Nat) : Int))))
    have HG := Lib.hid (gb_setp (gb_bel hb1 : w.grownBy w1 (some p)) 2 (.int .i64 ((i + 1 : Nat) : Int)))
    clear hb1
    go_wp2
    go_ret
    exact ⟨rfl, HF.out, HG.out⟩
def needR (l : List UInt8) (gs : List GTok) (s : RS) (k : Int) (tx : List UInt8) : RS := if peekR gs s k tx then { s with i := s.i + 1 } else failR l gs s s.i 50
set_option maxRecDepth 50000 in
set_option maxHeartbeats 1000000 in
theorem rNeed_any (p : Nat) (l : List UInt8) (gs : List GTok) (s : RS) (k : Int) (tx : List UInt8) (w : World) (h : RPS w p l gs s) (hl : l.length ≤ 65536) (hg : gs.length ≤ 70000) :
    Calls Tryz.prog 29 #[.pointer (some ⟨p, 0, none⟩), .int .i64 k, .string ⟨tx.toArray⟩] w (REnd (.tuple #[]) (needR l gs s k tx) p l gs w) := by
  have HT := Lib.hid (rTake_any p l gs s k tx w h hg)
  have HD : Hid (needR l gs s k tx = if peekR gs s k tx then { s with i := s.i + 1 } else failR l gs s s.i 50) := Lib.hid rfl
  have HTD : Hid (takeR gs s k tx = if peekR gs s k tx then { s with i := s.i + 1 } else s) := Lib.hid rfl
  have hnot : ∀ (x : Bool) (w : World), (Op.unary .not (.bool x)).run Tryz.prog w = .ok (.bool (!x)) w := fun _ _ => rfl
  cases hk : peekR gs s k tx
  · rw [hk] at HT HD HTD
    rw [if_neg (by simp)] at HD HTD
    rw [HTD.out] at HT
    rw [HD.out]
    have HF := Lib.hid fun W (hW : RPS W p l gs s) => rFail_any p l gs s s.i 50 W hW hl (fun _ => by omega)
    clear h HD HTD hk
    go_enter Tryz.func29, Tryz.ntmps29
    go_wp2_with fail
    go_fit HT.out
    rintro e w1 ⟨rfl, hps, hg1⟩
    have HP1 := Lib.hid hps
    have HG1 := Lib.hid hg1
    obtain ⟨A, cap, hp, c0, c1, c2, c3, c4, c5, hr, hf, hh⟩ := hps.open
    clear hps hg1 hr hf hh
    go_wp2_with fail
    go_fit (HF.out _ HP1.out)
    rintro e w2 ⟨rfl, hps, hg2⟩
    have HP2 := Lib.hid hps
    have HG2 := Lib.hid (gb_trans HG1.out hg2)
    clear hps hg2 c0 c1 c2 c3 c4 c5
    go_wp2
    exact bodyPost_ret (v := .tuple #[]) (by simp [results, Tryz.results29, go_sem]) rfl ⟨rfl, HP2.out, HG2.out⟩
  · rw [hk] at HT HD HTD
    rw [if_pos rfl] at HD HTD
    rw [HTD.out] at HT
    rw [HD.out]
    clear h HD HTD hk
    go_enter Tryz.func29, Tryz.ntmps29
    go_wp2_with fail
    go_fit HT.out
    rintro e w1 ⟨rfl, hps, hg1⟩
    have HP1 := Lib.hid hps
    have HG1 := Lib.hid hg1
    clear hps hg1
    go_wp2
    exact bodyPost_ret (v := .tuple #[]) (by simp [results, Tryz.results29, go_sem]) rfl ⟨rfl, HP1.out, HG1.out⟩
/-- Any: the token, and where the parser then stands. -/
def anyT (gs : List GTok) (s : RS) (k : Int) : GTok := if kindR gs s k then (gs[s.i]?).getD ⟨0, [], 0, 0, 0⟩ else ⟨0, [], 0, 0, 0⟩
def anyS (l : List UInt8) (gs : List GTok) (s : RS) (k : Int) : RS := if kindR gs s k then { s with i := s.i + 1 } else failR l gs s s.i 50
def TokV (W : World) (N : Nat) : Prop := W.heap[N]? = some (.cells #[.int .i64 0, .string ⟨#[]⟩, .int .u64 0, .int .i64 0, .int .i64 0] 52 (0, 0))
theorem TokV.new (w : World) : TokV (w.alloc (.cells #[.int .i64 0, .string ⟨#[]⟩, .int .u64 0, .int .i64 0, .int .i64 0] 52)) w.heap.size := heap_alloc_new w _
theorem TokV.lt {W : World} {N : Nat} (h : TokV W N) : N < W.heap.size := by
  unfold TokV at h
  rcases Nat.lt_or_ge N W.heap.size with h1 | h1
  · exact h1
  · rw [Array.getElem?_eq_none h1] at h; cases h
theorem TokV.next {W W' : World} {N : Nat} (h : TokV W N) (hb : Below W.heap.size W W') : TokV W' N := (hb.block N h.lt).trans h
theorem TokV.gb {W W' : World} {N p : Nat} (h : TokV W N) (hb : W.grownBy W' (some p)) (hp : N ≠ p) : TokV W' N := (hb.block N h.lt (by intro e; cases e; exact hp rfl)).trans h
theorem TokV.facts {W : World} {N : Nat} (h : TokV W N) : W.cell? ⟨N, 0, none⟩ = some (.int .i64 0) ∧ W.cell? ⟨N, 1, none⟩ = some (.string ⟨#[]⟩) ∧ W.cell? ⟨N, 2, none⟩ = some (.int .u64 0) ∧ W.cell? ⟨N, 3, none⟩ = some (.int .i64 0) ∧ W.cell? ⟨N, 4, none⟩ = some (.int .i64 0) ∧ (∀ j, W.frozen? ⟨N, j, none⟩ = false) := by
  unfold TokV at h
  exact ⟨by rw [Lib.cell_of_heap h]; rfl, by rw [Lib.cell_of_heap h]; rfl, by rw [Lib.cell_of_heap h]; rfl, by rw [Lib.cell_of_heap h]; rfl, by rw [Lib.cell_of_heap h]; rfl, fun j => Lib.frozen_of_heap h j⟩
theorem RPS.other {w : World} {p : Nat} {l : List UInt8} {gs : List GTok} {s : RS} (h : RPS w p l gs s) (a : Addr) (v : Value) (ha : p < a.block) : RPS (w.setCell a v) p l gs s := by
  obtain ⟨A, cap, hh, h3⟩ := h
  exact ⟨A, cap, (Below.heap_setCell _ _ _ p (by omega)).trans hh, h3.keep fun g hg => Below.heap_setCell _ _ _ g (by omega)⟩
end Go.Proofs.YtmodjokoggmnaaaGreatDoor


namespace Go.Proofs.YtmodjokoggmnaaaGreatDoor
open Go.RowKit Go.Shelf

def set5 (w : World) (N : Nat) (a b c d e : Value) : World := ((((w.setCell ⟨N, 0, none⟩ a).setCell ⟨N, 1, none⟩ b).setCell ⟨N, 2, none⟩ c).setCell ⟨N, 3, none⟩ d).setCell ⟨N, 4, none⟩ e
theorem RPS.set5 {w : World} {p N : Nat} {l : List UInt8} {gs : List GTok} {s : RS} (h : RPS w p l gs s) (hN : p < N) (a b c d e : Value) : RPS (set5 w N a b c d e) p l gs s := ((((h.other _ _ hN).other _ _ hN).other _ _ hN).other _ _ hN).other _ _ hN
theorem gb_set5 {q : Option Nat} {w w1 : World} (h : w.grownBy w1 q) (N : Nat) (hN : w.heap.size ≤ N) (a b c d e : Value) : w.grownBy (set5 w1 N a b c d e) q := gb_new (gb_new (gb_new (gb_new (gb_new h _ _ hN) _ _ hN) _ _ hN) _ _ hN) _ _ hN
theorem failR_e (l : List UInt8) (gs : List GTok) (s : RS) (j er : Int) (h : er ≠ 0) : (failR l gs s j er).e ≠ 0 := by
  unfold failR
  by_cases he : s.e = 0
  · rw [if_pos he]
    split
    · exact h
    · exact h
  · rw [if_neg he]; exact he
theorem anyS_i (l : List UInt8) (gs : List GTok) (s : RS) (k : Int) (h : (anyS l gs s k).e = 0) : kindR gs s k = true ∧ (anyS l gs s k).i = s.i + 1 := by
  unfold anyS at *
  cases hk : kindR gs s k
  · rw [hk, if_neg (by simp)] at h
    exact absurd h (failR_e l gs s s.i 50 (by omega))
  · rw [if_pos rfl]
    exact ⟨rfl, rfl⟩
set_option maxRecDepth 50000 in
set_option maxHeartbeats 1000000 in
theorem rAny_any (p : Nat) (l : List UInt8) (gs : List GTok) (s : RS) (k : Int) (w : World) (h : RPS w p l gs s) (hl : l.length ≤ 65536) (hg : gs.length ≤ 70000) :
    Calls Tryz.prog 56 #[.pointer (some ⟨p, 0, none⟩), .int .i64 k] w (REnd (anyT gs s k).val (anyS l gs s k) p l gs w) := by
  have HRV := Lib.hid (TokV.new w)
  have h1 := h.next (Below.alloc (Below.refl w.heap.size w) (Nat.le_refl _) (.cells #[.int .i64 0, .string ⟨#[]⟩, .int .u64 0, .int .i64 0, .int .i64 0] 52))
  have HK := Lib.hid (rKind_calls k h1)
  have H1 := Lib.hid h1
  have hpw := h.lt
  have HT : Hid (anyT gs s k = if kindR gs s k then (gs[s.i]?).getD ⟨0, [], 0, 0, 0⟩ else ⟨0, [], 0, 0, 0⟩) := Lib.hid rfl
  have HS : Hid (anyS l gs s k = if kindR gs s k then { s with i := s.i + 1 } else failR l gs s s.i 50) := Lib.hid rfl
  have hnot : ∀ (x : Bool) (w : World), (Op.unary .not (.bool x)).run Tryz.prog w = .ok (.bool (!x)) w := fun _ _ => rfl
  have HGL := Lib.hid (gb_lit (gb_refl (p := some p) w) (.cells #[.int .i64 0, .string ⟨#[]⟩, .int .u64 0, .int .i64 0, .int .i64 0] 52))
  have hsa : (w.alloc (.cells #[.int .i64 0, .string ⟨#[]⟩, .int .u64 0, .int .i64 0, .int .i64 0] 52)).heap.size = w.heap.size + 1 := by simp
  clear h h1
  cases hk : kindR gs s k
  · rw [hk] at HK HT HS
    rw [if_neg (by simp)] at HT HS
    rw [HT.out, HS.out]
    have HF := Lib.hid fun W (hW : RPS W p l gs s) => rFail_any p l gs s s.i 50 W hW hl (fun _ => by omega)
    clear HT HS hk
    go_enter Tryz.func56, Tryz.ntmps56
    go_wp2_with fail
    go_fit HK.out
    rintro e w1 ⟨rfl, hb1⟩
    have HP1 := Lib.hid (H1.out.next hb1)
    have HG1 := Lib.hid (gb_trans HGL.out (gb_bel hb1))
    have HR1 := Lib.hid (HRV.out.next hb1)
    obtain ⟨A, cap, hp, c0, c1, c2, c3, c4, c5, hr, hf, hh⟩ := HP1.out.open
    clear hb1 hr hf hh HK
    go_wp2_with fail
    go_fit (HF.out _ HP1.out)
    rintro e w2 ⟨rfl, hps, hg2⟩
    have HP2 := Lib.hid hps
    have HG2 := Lib.hid (gb_trans HG1.out hg2)
    obtain ⟨q0, q1, q2, q3, q4, z⟩ := (HR1.out.gb hg2 (by omega)).facts
    have hs2 : w.heap.size < w2.heap.size := (HR1.out.gb hg2 (by omega)).lt
    have z0 := z 0
    have z1 := z 1
    have z2 := z 2
    have z3 := z 3
    have z4 := z 4
    clear hps hg2 c0 c1 c2 c3 c4 c5 z HF
    go_wp2
    refine bodyPost_ret (v := .agg #[.int .i64 0, .string ⟨#[]⟩, .int .u64 0, .int .i64 0, .int .i64 0]) (by simp [results, Tryz.results56, go_sem, q0, q1, q2, q3, q4]) rfl ⟨rfl, ?_, ?_⟩
    · exact HP2.out.set5 hpw _ _ _ _ _
    · exact gb_set5 HG2.out _ (Nat.le_refl _) _ _ _ _ _
  · obtain ⟨_, hi, hkk⟩ := kind_lt hk
    rw [hk] at HK HT HS
    rw [if_pos rfl] at HT HS
    rw [List.getElem?_eq_getElem hi] at HT
    rw [HT.out, HS.out]
    obtain ⟨A, cap, h6, hrow⟩ := H1.out.six
    have H6 := Lib.hid h6
    have HR := Lib.hid hrow
    obtain ⟨b, off, rfl, hb, x0, x1, x2, x3, x4⟩ := hrow.tok5 hi
    simp only [Option.getD_some]
    have hit := hi
    generalize gs[s.i] = t at *
    generalize hsi : s.i = i at *
    have HX : Hid (∀ W : World, (w.alloc (.cells #[.int .i64 0, .string ⟨#[]⟩, .int .u64 0, .int .i64 0, .int .i64 0] 52)).heap[b]? = W.heap[b]? → W.cell? ⟨b, off + i * 5, none⟩ = some (.int .i64 t.kind) ∧ W.cell? ⟨b, off + i * 5 + 1, none⟩ = some (.string ⟨t.text.toArray⟩) ∧ W.cell? ⟨b, off + i * 5 + 2, none⟩ = some (.int .u64 t.value) ∧ W.cell? ⟨b, off + i * 5 + 3, none⟩ = some (.int .i64 t.line) ∧ W.cell? ⟨b, off + i * 5 + 4, none⟩ = some (.int .i64 t.col)) := Lib.hid fun W hb => by
      have key : ∀ j, W.cell? ⟨b, j, none⟩ = (w.alloc (.cells #[.int .i64 0, .string ⟨#[]⟩, .int .u64 0, .int .i64 0, .int .i64 0] 52)).cell? ⟨b, j, none⟩ := fun j => World.cell?_of_block (a := ⟨b, j, none⟩) hb.symm
      exact ⟨(key _).trans x0, (key _).trans x1, (key _).trans x2, (key _).trans x3, (key _).trans x4⟩
    obtain ⟨tk, tt, tv, tl, tc⟩ := t
    simp only [GTok.val] at *
    clear HT HS hk hkk h6 hrow H1 x0 x1 x2 x3 x4
    go_enter Tryz.func56, Tryz.ntmps56
    go_wp2_with fail
    go_fit HK.out
    rintro e w1 ⟨rfl, hb1⟩
    have H61 := Lib.hid (H6.out.next hb1)
    have HR1 := Lib.hid (HRV.out.next hb1)
    have HG1 := Lib.hid (gb_trans HGL.out (gb_bel hb1))
    have hp1 : p < w1.heap.size := H61.out.lt
    have hbk : (w.alloc (.cells #[.int .i64 0, .string ⟨#[]⟩, .int .u64 0, .int .i64 0, .int .i64 0] 52)).heap[b]? = w1.heap[b]? := (hb1.block b (by omega)).symm
    obtain ⟨c0, c1, c2, c3, c4, c5, z2, z3, z4, z5⟩ := H61.out.facts
    have hw : IntKind.i64.wrap ((i : Int) + 1) = ((i + 1 : Nat) : Int) := (IntWalk.i64_in _ (by omega)).trans (by omega)
    have HRW := Lib.hid (HR.out.keep (w' := w1) fun g hg => hb1.block g (by omega))
    clear hb1 HK
    go_upto_region 5 with fail
    have H62 := Lib.hid (H61.out.set2 (.int .i64 ((i : Int) + 1)))
    have HRW2 := Lib.hid (row_set HRW.out 2 (.int .i64 ((i : Int) + 1)))
    have HG2 := Lib.hid (gb_setp HG1.out 2 (.int .i64 ((i : Int) + 1)))
    have HT2 : Hid (TokV (w1.setCell ⟨p, 2, none⟩ (.int .i64 ((i : Int) + 1))) w.heap.size) := Lib.hid ((Below.heap_setCell _ _ _ _ (by show w.heap.size ≠ p; omega)).trans HR1.out)
    have hx2 : (w.alloc (.cells #[.int .i64 0, .string ⟨#[]⟩, .int .u64 0, .int .i64 0, .int .i64 0] 52)).heap[b]? = (w1.setCell ⟨p, 2, none⟩ (.int .i64 ((i : Int) + 1))).heap[b]? := hbk.trans (Below.heap_setCell _ _ _ _ (by show b ≠ p; omega)).symm
    obtain ⟨x0, x1, x2, x3, x4⟩ := HX.out _ hx2
    have hw2 : IntKind.i64.wrap ((i : Int) + 1 - 1) = (i : Int) := (IntWalk.i64_in _ (by omega)).trans (by omega)
    have hw3 : (i : Int) + 1 - 1 = i := by omega
    have HF := Lib.hid (show RPS _ p l gs ⟨i + 1, s.x, s.y, s.e⟩ from H62.out.rps HRW2.out)
    generalize w1.setCell ⟨p, 2, none⟩ (.int .i64 ((i : Int) + 1)) = w2 at *
    have hp2 : p < w2.heap.size := H62.out.lt
    have hbw : b < w2.heap.size := by omega
    have hs2 : w.heap.size < w2.heap.size := HT2.out.lt
    have hne : b ≠ w.heap.size := by omega
    have hne2 : p ≠ w.heap.size := by omega
    clear c0 c1 c2 c3 c4 c5 z2 z3 z4 z5 hw hbk hx2 hp1
    obtain ⟨c0, c1, c2, c3, c4, c5, _, _, _, _⟩ := H62.out.facts
    obtain ⟨q0, q1, q2, q3, q4, z⟩ := HT2.out.facts
    have z0 := z 0
    have z1 := z 1
    have z2 := z 2
    have z3 := z 3
    have z4 := z 4
    clear z
    have HPF := Lib.hid (HF.out.set5 hpw (.int .i64 tk) (.string ⟨tt.toArray⟩) (.int .u64 tv) (.int .i64 tl) (.int .i64 tc))
    have HGF := Lib.hid (gb_set5 HG2.out w.heap.size (Nat.le_refl _) (.int .i64 tk) (.string ⟨tt.toArray⟩) (.int .u64 tv) (.int .i64 tl) (.int .i64 tc))
    go_region
    go_wp2
    refine bodyPost_ret (v := .agg #[.int .i64 tk, .string ⟨tt.toArray⟩, .int .u64 tv, .int .i64 tl, .int .i64 tc]) (by simp [results, Tryz.results56, go_sem, q0, q1, q2, q3, q4]) rfl ⟨rfl, ?_, ?_⟩
    · exact HPF.out.next ((Below.refl _ _).drew)
    · exact gb_drew HGF.out
end Go.Proofs.YtmodjokoggmnaaaGreatDoor
