/-
  The reference's parser: its state, OK, Done, Peek, Kind.
  Conditions: none beyond the state.
  The contract of the reference's At at a text's end.
  Conditions: the text has at most 65536 bytes.
  The reference's parser: Fail.
  Conditions: the text has at most 65536 bytes, the tokens are at most 70000.
-/
import Derived.Test.YtmodjokoggmnaaaGreatDoorMa23
import Derived.Deep.QuietTactic
import Derived.Test.YtmodjokoggmnaaaGreatDoorMa9
import Derived.Test.YtmodjokoggmnaaaGreatDoorMa8
namespace Go.Proofs.YtmodjokoggmnaaaGreatDoor
open Go.RowKit Go.Shelf

/-- Where the reference's parser stands: the number of the next token, the position and the number of the first error. -/
structure RS where
  i : Nat
  x : Int
  y : Int
  e : Int
/-- The reference's parser in block p stands at s, over the tokens gs of the text l. -/
def RPS (w : World) (p : Nat) (l : List UInt8) (gs : List GTok) (s : RS) : Prop :=
  ∃ A cap, w.heap[p]? = some (.cells #[.string ⟨l.toArray⟩, .slice A gs.length cap, .int .i64 s.i, .int .i64 s.x, .int .i64 s.y, .int .i64 s.e] 62 (0, 0)) ∧ GRow GTok.cells 5 w p A gs
theorem RPS.lt {w : World} {p : Nat} {l : List UInt8} {gs : List GTok} {s : RS} (h : RPS w p l gs s) : p < w.heap.size := by
  obtain ⟨A, cap, hh, _⟩ := h
  rcases Nat.lt_or_ge p w.heap.size with h1 | h1
  · exact h1
  · rw [Array.getElem?_eq_none h1] at hh; cases hh
theorem RPS.next {w w' : World} {p : Nat} {l : List UInt8} {gs : List GTok} {s : RS} (h : RPS w p l gs s) (hb : Below w.heap.size w w') : RPS w' p l gs s := by
  have hp := h.lt
  obtain ⟨A, cap, hh, h3⟩ := h
  exact ⟨A, cap, (hb.block p hp).trans hh, h3.keep fun g hg => hb.block g (by omega)⟩
theorem RPS.open {w : World} {p : Nat} {l : List UInt8} {gs : List GTok} {s : RS} (h : RPS w p l gs s) : ∃ A cap, p < w.heap.size ∧ w.cell? ⟨p, 0, none⟩ = some (.string ⟨l.toArray⟩) ∧ w.cell? ⟨p, 1, none⟩ = some (.slice A gs.length cap) ∧ w.cell? ⟨p, 2, none⟩ = some (.int .i64 s.i) ∧
    w.cell? ⟨p, 3, none⟩ = some (.int .i64 s.x) ∧ w.cell? ⟨p, 4, none⟩ = some (.int .i64 s.y) ∧ w.cell? ⟨p, 5, none⟩ = some (.int .i64 s.e) ∧ GRow GTok.cells 5 w p A gs ∧ (∀ j, w.frozen? ⟨p, j, none⟩ = false) ∧
    w.heap[p]? = some (.cells #[.string ⟨l.toArray⟩, .slice A gs.length cap, .int .i64 s.i, .int .i64 s.x, .int .i64 s.y, .int .i64 s.e] 62 (0, 0)) := by
  have hp := h.lt
  obtain ⟨A, cap, hh, h3⟩ := h
  exact ⟨A, cap, hp, by rw [Lib.cell_of_heap hh]; rfl, by rw [Lib.cell_of_heap hh]; rfl, by rw [Lib.cell_of_heap hh]; rfl, by rw [Lib.cell_of_heap hh]; rfl, by rw [Lib.cell_of_heap hh]; rfl, by rw [Lib.cell_of_heap hh]; rfl, h3, fun j => Lib.frozen_of_heap hh j, hh⟩
theorem RPS.drewN {w : World} {p : Nat} {l : List UInt8} {gs : List GTok} {s : RS} (h : RPS w p l gs s) (n : Nat) : RPS (w.drewN n) p l gs s := h.next (bel_drewN _ w n)
theorem GRow.tok5 {w : World} {B : Nat} {A : Option Addr} {gs : List GTok} (h : GRow GTok.cells 5 w B A gs) {i : Nat} (hi : i < gs.length) : ∃ b off, A = some ⟨b, off, none⟩ ∧ b < B ∧
    w.cell? ⟨b, off + i * 5, none⟩ = some (.int .i64 gs[i].kind) ∧ w.cell? ⟨b, off + i * 5 + 1, none⟩ = some (.string ⟨gs[i].text.toArray⟩) ∧ w.cell? ⟨b, off + i * 5 + 2, none⟩ = some (.int .u64 gs[i].value) ∧ w.cell? ⟨b, off + i * 5 + 3, none⟩ = some (.int .i64 gs[i].line) ∧ w.cell? ⟨b, off + i * 5 + 4, none⟩ = some (.int .i64 gs[i].col) := by
  obtain ⟨b, off, e, hb, hc⟩ := h (by omega)
  exact ⟨b, off, e, hb, hc i hi 0 _ rfl, hc i hi 1 _ rfl, hc i hi 2 _ rfl, hc i hi 3 _ rfl, hc i hi 4 _ rfl⟩
/-- A call that only reads, seen from w, whatever has been drawn. -/
def Reads (f : FuncId) (args : Array Value) (v : Value) (w : World) : Prop := ∀ n, Calls Tryz.prog f args (w.drewN n) fun e w'' => e = .returned v ∧ ∃ m, w'' = w.drewN m
theorem Reads.of {f : FuncId} {args : Array Value} {v : Value} {w : World} (h : ∀ n, Calls Tryz.prog f args (w.drewN n) fun e w' => e = .returned v ∧ ∃ m, w' = (w.drewN n).drewN m) : Reads f args v w := fun n => Calls.quiet_of (h n)
theorem Reads.calls {f : FuncId} {args : Array Value} {v : Value} {w : World} (h : Reads f args v w) : Calls Tryz.prog f args w fun e w' => e = .returned v ∧ Below w.heap.size w w' :=
  (h 0).mono fun _ _ ⟨e, m, hm⟩ => ⟨e, by rw [hm]; exact bel_drewN _ _ _⟩
theorem rOK_any (p : Nat) (l : List UInt8) (gs : List GTok) (s : RS) (w : World) (h : RPS w p l gs s) :
    Calls Tryz.prog 25 #[.pointer (some ⟨p, 0, none⟩)] w fun e w' => e = .returned (.bool (s.e == 0)) ∧ ∃ m, w' = w.drewN m := by
  obtain ⟨A, cap, hp, c0, c1, c2, c3, c4, c5, hr, hf, hh⟩ := h.open
  clear h hr hf hh
  go_enter Tryz.func25, Tryz.ntmps25
  go_wp2
  go_ret
  exact ⟨rfl, 0, rfl⟩
theorem rOK_reads {p : Nat} {l : List UInt8} {gs : List GTok} {s : RS} {w : World} (h : RPS w p l gs s) : Reads 25 #[.pointer (some ⟨p, 0, none⟩)] (.bool (s.e == 0)) w :=
  Reads.of fun n => rOK_any p l gs s _ (h.drewN n)
def doneR (gs : List GTok) (s : RS) : Bool := decide (gs.length ≤ s.i)
theorem rDone_any (p : Nat) (l : List UInt8) (gs : List GTok) (s : RS) (w : World) (h : RPS w p l gs s) :
    Calls Tryz.prog 26 #[.pointer (some ⟨p, 0, none⟩)] w fun e w' => e = .returned (.bool (doneR gs s)) ∧ ∃ m, w' = w.drewN m := by
  obtain ⟨A, cap, hp, c0, c1, c2, c3, c4, c5, hr, hf, hh⟩ := h.open
  have HD : Hid (doneR gs s = decide (gs.length ≤ s.i)) := Lib.hid rfl
  clear h hr hf hh
  generalize doneR gs s = q at *
  generalize s.i = i at *
  by_cases hd : gs.length ≤ i
  · have f1 : decide ((gs.length : Int) ≤ (i : Int)) = true := by simp; omega
    have g1 : (gs.length : Int) ≤ (i : Int) := by omega
    have HQ := Lib.hid (decide_eq_true hd)
    clear hd
    go_enter Tryz.func26, Tryz.ntmps26
    go_upto_region 1 with fail
    go_quiet (fail)
    go_wp2
    go_ret
    exact ⟨ret_bool (by rw [HD.out, HQ.out]), _, rfl⟩
  · have f1 : decide ((gs.length : Int) ≤ (i : Int)) = false := by simp; omega
    have g1 : ¬ (gs.length : Int) ≤ (i : Int) := by omega
    have HQ := Lib.hid (decide_eq_false hd)
    clear hd
    go_enter Tryz.func26, Tryz.ntmps26
    go_upto_region 1 with fail
    go_quiet (fail)
    go_wp2
    go_ret
    exact ⟨ret_bool (by rw [HD.out, HQ.out]), _, rfl⟩
theorem rDone_reads {p : Nat} {l : List UInt8} {gs : List GTok} {s : RS} {w : World} (h : RPS w p l gs s) : Reads 26 #[.pointer (some ⟨p, 0, none⟩)] (.bool (doneR gs s)) w :=
  Reads.of fun n => rDone_any p l gs s _ (h.drewN n)
def kindR (gs : List GTok) (s : RS) (k : Int) : Bool := s.e == 0 && (!doneR gs s && (match gs[s.i]? with | some t => t.kind == k | none => false))
def peekR (gs : List GTok) (s : RS) (k : Int) (tx : List UInt8) : Bool := s.e == 0 && (!doneR gs s && (match gs[s.i]? with | some t => t.kind == k && t.text == tx | none => false))
set_option maxRecDepth 50000 in
set_option maxHeartbeats 1000000 in
theorem rKind_any (p : Nat) (l : List UInt8) (gs : List GTok) (s : RS) (k : Int) (w : World) (h : RPS w p l gs s) :
    Calls Tryz.prog 58 #[.pointer (some ⟨p, 0, none⟩), .int .i64 k] w fun e w' => e = .returned (.bool (kindR gs s k)) ∧ ∃ m, w' = w.drewN m := by
  obtain ⟨A, cap, hp, c0, c1, c2, c3, c4, c5, hr, hf, hh⟩ := h.open
  have HD : Hid (kindR gs s k = (s.e == 0 && (!doneR gs s && (match gs[s.i]? with | some t => t.kind == k | none => false)))) := Lib.hid rfl
  have HO := Lib.hid (rOK_reads h)
  have HN := Lib.hid (rDone_reads h)
  have HDO : Hid (doneR gs s = decide (gs.length ≤ s.i)) := Lib.hid rfl
  have hnot : ∀ (x : Bool) (w : World), (Op.unary .not (.bool x)).run Tryz.prog w = .ok (.bool (!x)) w := fun _ _ => rfl
  clear h hf hh
  generalize kindR gs s k = q at *
  by_cases he : s.e = 0
  case neg =>
    have he' : (s.e == 0) = false := by simp [he]
    rw [he'] at HD HO
    clear he he' hr
    go_enter Tryz.func58, Tryz.ntmps58
    go_upto_region 1 with fail
    go_quiet (first | exact HO.out _ | exact HN.out _)
    go_wp2
    go_ret
    exact ⟨ret_bool (by rw [HD.out]; rfl), _, rfl⟩
  have he' : (s.e == 0) = true := by simp [he]
  rw [he'] at HD HO
  rcases Nat.lt_or_ge s.i gs.length with hi | hi
  case inr =>
    have hd : doneR gs s = true := by rw [HDO.out]; simp [hi]
    rw [hd] at HD HN
    clear he he' hr hd
    go_enter Tryz.func58, Tryz.ntmps58
    go_upto_region 1 with fail
    go_quiet (first | exact HO.out _ | exact HN.out _)
    go_wp2
    go_ret
    exact ⟨ret_bool (by rw [HD.out]; rfl), _, rfl⟩
  have hd : doneR gs s = false := by rw [HDO.out]; simp; omega
  rw [hd, List.getElem?_eq_getElem hi] at HD
  rw [hd] at HN
  obtain ⟨b, off, rfl, hb, x0, x1, x2, x3, x4⟩ := hr.tok5 hi
  have hbw : b < w.heap.size := by omega
  simp only at HD
  generalize gs[s.i] = t at *
  obtain ⟨tk, tt, tv, tl, tc⟩ := t
  simp only at HD x0 x1
  generalize s.i = i at *
  clear he he' hr hd
  by_cases hk : tk = k
  · subst hk
    have f1 : (tk == tk) = true := by simp
    go_enter Tryz.func58, Tryz.ntmps58
    go_upto_region 1 with fail
    go_quiet (first | exact HO.out _ | exact HN.out _)
    go_wp2
    go_ret
    exact ⟨ret_bool (by rw [HD.out]; simp), _, rfl⟩
  · have f1 : (tk == k) = false := by simp [hk]
    have HK := Lib.hid f1
    clear hk
    go_enter Tryz.func58, Tryz.ntmps58
    go_upto_region 1 with fail
    go_quiet (first | exact HO.out _ | exact HN.out _)
    go_wp2
    go_ret
    exact ⟨ret_bool (by rw [HD.out, HK.out]; rfl), _, rfl⟩
set_option maxRecDepth 50000 in
set_option maxHeartbeats 1000000 in
theorem rPeek_any (p : Nat) (l : List UInt8) (gs : List GTok) (s : RS) (k : Int) (tx : List UInt8) (w : World) (h : RPS w p l gs s) :
    Calls Tryz.prog 30 #[.pointer (some ⟨p, 0, none⟩), .int .i64 k, .string ⟨tx.toArray⟩] w fun e w' => e = .returned (.bool (peekR gs s k tx)) ∧ ∃ m, w' = w.drewN m := by
  obtain ⟨A, cap, hp, c0, c1, c2, c3, c4, c5, hr, hf, hh⟩ := h.open
  have HD : Hid (peekR gs s k tx = (s.e == 0 && (!doneR gs s && (match gs[s.i]? with | some t => t.kind == k && t.text == tx | none => false)))) := Lib.hid rfl
  have HO := Lib.hid (rOK_reads h)
  have HN := Lib.hid (rDone_reads h)
  have HDO : Hid (doneR gs s = decide (gs.length ≤ s.i)) := Lib.hid rfl
  have hnot : ∀ (x : Bool) (w : World), (Op.unary .not (.bool x)).run Tryz.prog w = .ok (.bool (!x)) w := fun _ _ => rfl
  clear h hf hh
  generalize peekR gs s k tx = q at *
  by_cases he : s.e = 0
  case neg =>
    have he' : (s.e == 0) = false := by simp [he]
    rw [he'] at HD HO
    clear he he' hr
    go_enter Tryz.func30, Tryz.ntmps30
    go_upto_region 1 with fail
    go_quiet (first | exact HO.out _ | exact HN.out _)
    go_wp2
    go_ret
    exact ⟨ret_bool (by rw [HD.out]; rfl), _, rfl⟩
  have he' : (s.e == 0) = true := by simp [he]
  rw [he'] at HD HO
  rcases Nat.lt_or_ge s.i gs.length with hi | hi
  case inr =>
    have hd : doneR gs s = true := by rw [HDO.out]; simp [hi]
    rw [hd] at HD HN
    clear he he' hr hd
    go_enter Tryz.func30, Tryz.ntmps30
    go_upto_region 1 with fail
    go_quiet (first | exact HO.out _ | exact HN.out _)
    go_wp2
    go_ret
    exact ⟨ret_bool (by rw [HD.out]; rfl), _, rfl⟩
  have hd : doneR gs s = false := by rw [HDO.out]; simp; omega
  rw [hd, List.getElem?_eq_getElem hi] at HD
  rw [hd] at HN
  obtain ⟨b, off, rfl, hb, x0, x1, x2, x3, x4⟩ := hr.tok5 hi
  have hbw : b < w.heap.size := by omega
  simp only at HD
  generalize gs[s.i] = t at *
  obtain ⟨tk, tt, tv, tl, tc⟩ := t
  simp only at HD x0 x1
  generalize s.i = i at *
  clear he he' hr hd
  by_cases hk : tk = k
  · subst hk
    have f1 : (tk == tk) = true := by simp
    by_cases ht : tt = tx
    · subst ht
      have f2 : (tt == tt) = true := by simp
      go_enter Tryz.func30, Tryz.ntmps30
      go_upto_region 1 with fail
      go_quiet (first | exact HO.out _ | exact HN.out _)
      go_wp2
      go_ret
      exact ⟨ret_bool (by rw [HD.out]; simp), _, rfl⟩
    · have f2 : (tt == tx) = false := by simp [ht]
      have HT := Lib.hid f2
      clear ht
      go_enter Tryz.func30, Tryz.ntmps30
      go_upto_region 1 with fail
      go_quiet (first | exact HO.out _ | exact HN.out _)
      go_wp2
      go_ret
      exact ⟨ret_bool (by rw [HD.out, HT.out]; simp), _, rfl⟩
  · have f1 : (tk == k) = false := by simp [hk]
    have HK := Lib.hid f1
    clear hk
    go_enter Tryz.func30, Tryz.ntmps30
    go_upto_region 1 with fail
    go_quiet (first | exact HO.out _ | exact HN.out _)
    go_wp2
    go_ret
    exact ⟨ret_bool (by rw [HD.out, HK.out]; rfl), _, rfl⟩
end Go.Proofs.YtmodjokoggmnaaaGreatDoor


namespace Go.Proofs.YtmodjokoggmnaaaGreatDoor
open Go.RowKit Go.Shelf

set_option maxRecDepth 50000 in
set_option maxHeartbeats 1000000 in
theorem at_any (l : List UInt8) (hl : l.length ≤ 65536) (w : World) :
    Calls Tryz.prog 57 #[.string ⟨l.toArray⟩, .int .i64 l.length] w fun e w' => e = .returned (.agg #[.int .i64 (adv (1, 1) l).1, .int .i64 (adv (1, 1) l).2]) ∧ Below w.heap.size w w' := by
  have hsz : (⟨l.toArray⟩ : ByteArray).size = l.length := ba_size l
  go_enter Tryz.func57, Tryz.ntmps57
  go_wp2
  go_loopw [6] (fun vi wr => ∃ j x y : Nat, vi = .int .i64 j ∧ j ≤ l.length ∧ Hid (adv (1, 1) (l.take j) = (x, y)) ∧ Hid (wr.heap[w.heap.size]? = some (.cells #[.int .i64 0, .int .i64 0] 26 (0, 0))) ∧ Hid (wr.heap[w.heap.size + 1]? = some (.cells #[.int .i64 x, .int .i64 y] 26 (0, 0))) ∧ Hid (Below w.heap.size w wr))
    (fun vi _ => l.length + 1 - (intOf vi).toNat)
  case atStart =>
    refine ⟨0, 1, 1, rfl, Nat.zero_le _, rfl, ?_, ?_, Lib.hid (((Below.refl _ _).alloc (Nat.le_refl _) _).alloc (by simp) _)⟩
    · exact (Below.heap_alloc _ _ _ (by simp)).trans (heap_alloc_new w _)
    · have := heap_alloc_new (w.alloc (.cells #[.int .i64 0, .int .i64 0] 26)) (.cells #[.int .i64 1, .int .i64 1] 26)
      have e : (w.alloc (.cells #[.int .i64 0, .int .i64 0] 26)).heap.size = w.heap.size + 1 := by simp
      rw [e] at this; exact this
  case round =>
    obtain ⟨j, x, y, rfl, hj, HX, H0, H1, HB⟩ := hrel
    have bd := adv_bd (l.take j) (1, 1) (Nat.le_refl _) (Nat.le_refl _)
    rw [HX.out, List.length_take] at bd
    have bx : x ≤ 65537 := by have := bd.2.2.1; simp at this; omega
    have by' : y ≤ 65537 := by have := bd.2.2.2; simp at this; omega
    clear bd
    have d0 : wr.cell? ⟨w.heap.size + 1, 0, none⟩ = some (.int .i64 x) := by simp [World.cell?, H1.out]
    have d1 : wr.cell? ⟨w.heap.size + 1, 1, none⟩ = some (.int .i64 y) := by simp [World.cell?, H1.out]
    have z1 : ∀ i, wr.frozen? ⟨w.heap.size + 1, i, none⟩ = false := fun i => by simp [World.frozen?, H1.out]
    have c0 : wr.cell? ⟨w.heap.size, 0, none⟩ = some (.int .i64 0) := by simp [World.cell?, H0.out]
    have c1 : wr.cell? ⟨w.heap.size, 1, none⟩ = some (.int .i64 0) := by simp [World.cell?, H0.out]
    have z0 : ∀ i, wr.frozen? ⟨w.heap.size, i, none⟩ = false := fun i => by simp [World.frozen?, H0.out]
    rcases Nat.lt_or_ge j l.length with hjl | hge
    · have hx : (⟨l.toArray⟩ : ByteArray)[j]'(by rw [hsz]; exact hjl) = l[j] := rfl
      clear c0 c1 z0
      by_cases h10 : l[j].toNat = 10
      · have f10 : ((l[j].toNat : Int) == 10) = true := by simp; omega
        have HA : Hid (adv (1, 1) (l.take (j + 1)) = (x + 1, 1)) := Lib.hid (by rw [adv_step hjl, HX.out]; simp [adv1, show l[j] = 10 from UInt8.toNat_inj.1 h10])
        have HK := Lib.hid (two_set1 (two_set0 (two_set1 H1.out (.int .i64 ((y : Int) + 1))) (.int .i64 ((x : Int) + 1))) (.int .i64 1))
        go_wp2
        go_roundw
        case rel => exact ⟨j + 1, x + 1, 1, by go_num, by omega, HA, Lib.hid (by rw [Below.heap_setCell _ _ _ _ (by show w.heap.size ≠ w.heap.size + 1; omega), Below.heap_setCell _ _ _ _ (by show w.heap.size ≠ w.heap.size + 1; omega), Below.heap_setCell _ _ _ _ (by show w.heap.size ≠ w.heap.size + 1; omega)]; exact H0.out), HK, Lib.hid (((HB.out.setCell (Nat.le_succ _) _).setCell (Nat.le_succ _) _).setCell (Nat.le_succ _) _)⟩
        case measure => simp [intOf]; omega
      · have f10 : ((l[j].toNat : Int) == 10) = false := by simp; omega
        have HA : Hid (adv (1, 1) (l.take (j + 1)) = (x, y + 1)) := Lib.hid (by rw [adv_step hjl, HX.out]; simp [adv1]; exact fun h => h10 (by rw [h]; rfl))
        have HK := Lib.hid (two_set1 H1.out (.int .i64 ((y : Int) + 1)))
        go_wp2
        go_roundw
        case rel => exact ⟨j + 1, x, y + 1, by go_num, by omega, HA, Lib.hid (by rw [Below.heap_setCell _ _ _ _ (by show w.heap.size ≠ w.heap.size + 1; omega)]; exact H0.out), HK, Lib.hid (HB.out.setCell (Nat.le_succ _) _)⟩
        case measure => simp [intOf]; omega
    · have hjk : j = l.length := by omega
      subst hjk
      have HE : Hid (adv (1, 1) l = (x, y)) := Lib.hid (by have := HX.out; rwa [List.take_length] at this)
      go_wp2
      refine bodyPost_ret (v := .agg #[.int .i64 x, .int .i64 y]) (by simp [results, Tryz.results57, go_sem, c0, c1]) rfl ?_
      rw [HE.out]
      exact ⟨rfl, (HB.out.setCell (Nat.le_refl _) _).setCell (Nat.le_refl _) _⟩
end Go.Proofs.YtmodjokoggmnaaaGreatDoor


namespace Go.Proofs.YtmodjokoggmnaaaGreatDoor
open Go.RowKit Go.Shelf

def P6 (w : World) (p : Nat) (a b c d e f : Value) : Prop := w.heap[p]? = some (.cells #[a, b, c, d, e, f] 62 (0, 0))
theorem P6.lt {w : World} {p : Nat} {a b c d e f : Value} (h : P6 w p a b c d e f) : p < w.heap.size := by
  unfold P6 at h
  rcases Nat.lt_or_ge p w.heap.size with h1 | h1
  · exact h1
  · rw [Array.getElem?_eq_none h1] at h; cases h
theorem P6.set2 {w : World} {p : Nat} {a b c d e f : Value} (h : P6 w p a b c d e f) (v : Value) : P6 (w.setCell ⟨p, 2, none⟩ v) p a b v d e f := (heap_setCell_same w p 2 #[a, b, c, d, e, f] _ v h).trans rfl
theorem P6.set3 {w : World} {p : Nat} {a b c d e f : Value} (h : P6 w p a b c d e f) (v : Value) : P6 (w.setCell ⟨p, 3, none⟩ v) p a b c v e f := (heap_setCell_same w p 3 #[a, b, c, d, e, f] _ v h).trans rfl
theorem P6.set4 {w : World} {p : Nat} {a b c d e f : Value} (h : P6 w p a b c d e f) (v : Value) : P6 (w.setCell ⟨p, 4, none⟩ v) p a b c d v f := (heap_setCell_same w p 4 #[a, b, c, d, e, f] _ v h).trans rfl
theorem P6.set5 {w : World} {p : Nat} {a b c d e f : Value} (h : P6 w p a b c d e f) (v : Value) : P6 (w.setCell ⟨p, 5, none⟩ v) p a b c d e v := (heap_setCell_same w p 5 #[a, b, c, d, e, f] _ v h).trans rfl
theorem P6.next {w w' : World} {p : Nat} {a b c d e f : Value} (h : P6 w p a b c d e f) (hb : Below w.heap.size w w') : P6 w' p a b c d e f := (hb.block p h.lt).trans h
theorem P6.facts {w : World} {p : Nat} {a b c d e f : Value} (h : P6 w p a b c d e f) : w.cell? ⟨p, 0, none⟩ = some a ∧ w.cell? ⟨p, 1, none⟩ = some b ∧ w.cell? ⟨p, 2, none⟩ = some c ∧ w.cell? ⟨p, 3, none⟩ = some d ∧ w.cell? ⟨p, 4, none⟩ = some e ∧ w.cell? ⟨p, 5, none⟩ = some f ∧
    w.frozen? ⟨p, 2, none⟩ = false ∧ w.frozen? ⟨p, 3, none⟩ = false ∧ w.frozen? ⟨p, 4, none⟩ = false ∧ w.frozen? ⟨p, 5, none⟩ = false := by
  unfold P6 at h
  exact ⟨by rw [Lib.cell_of_heap h]; rfl, by rw [Lib.cell_of_heap h]; rfl, by rw [Lib.cell_of_heap h]; rfl, by rw [Lib.cell_of_heap h]; rfl, by rw [Lib.cell_of_heap h]; rfl, by rw [Lib.cell_of_heap h]; rfl, Lib.frozen_of_heap h 2, Lib.frozen_of_heap h 3, Lib.frozen_of_heap h 4, Lib.frozen_of_heap h 5⟩
theorem RPS.six {w : World} {p : Nat} {l : List UInt8} {gs : List GTok} {s : RS} (h : RPS w p l gs s) : ∃ A cap, P6 w p (.string ⟨l.toArray⟩) (.slice A gs.length cap) (.int .i64 s.i) (.int .i64 s.x) (.int .i64 s.y) (.int .i64 s.e) ∧ GRow GTok.cells 5 w p A gs := h
theorem P6.rps {w : World} {p : Nat} {l : List UInt8} {gs : List GTok} {A : Option Addr} {cap i : Nat} {x y e : Int} (h : P6 w p (.string ⟨l.toArray⟩) (.slice A gs.length cap) (.int .i64 i) (.int .i64 x) (.int .i64 y) (.int .i64 e)) (hr : GRow GTok.cells 5 w p A gs) : RPS w p l gs ⟨i, x, y, e⟩ := ⟨A, cap, h, hr⟩
theorem row_set {w : World} {p : Nat} {A : Option Addr} {gs : List GTok} (h : GRow GTok.cells 5 w p A gs) (k : Nat) (v : Value) : GRow GTok.cells 5 (w.setCell ⟨p, k, none⟩ v) p A gs := h.keep fun g hg => Below.heap_setCell _ _ _ g (by show g ≠ p; omega)
theorem gb_setp {w w1 : World} {p : Nat} (h : w.grownBy w1 (some p)) (k : Nat) (v : Value) : w.grownBy (w1.setCell ⟨p, k, none⟩ v) (some p) :=
  ⟨h.os, h.tape, h.output, by have := h.size; simp; omega, fun g hg hne => (Below.heap_setCell _ _ _ g (by intro e; exact hne (by rw [e]))).trans (h.block g hg hne)⟩
theorem gb_drew {w w1 : World} {q : Option Nat} (h : w.grownBy w1 q) : w.grownBy w1.drew q := ⟨h.os, h.tape, h.output, h.size, h.block⟩
/-- Where the parser stands when a failure at token number j has been recorded. -/
def failR (l : List UInt8) (gs : List GTok) (s : RS) (j : Int) (er : Int) : RS :=
  if s.e = 0 then (match gs[j.toNat]? with | some t => ⟨s.i, t.line, t.col, er⟩ | none => ⟨s.i, (endTok l).line, (endTok l).col, er⟩) else s
/-- A method of the reference's parser ends with the value v, and the parser at s. -/
def REnd (v : Value) (s : RS) (p : Nat) (l : List UInt8) (gs : List GTok) (w : World) (e : Ending) (w' : World) : Prop := e = .returned v ∧ RPS w' p l gs s ∧ w.grownBy w' (some p)
set_option maxRecDepth 50000 in
set_option maxHeartbeats 1000000 in
theorem rFail_any (p : Nat) (l : List UInt8) (gs : List GTok) (s : RS) (j : Int) (er : Int) (w : World) (h : RPS w p l gs s) (hl : l.length ≤ 65536) (hj : s.e = 0 → 0 ≤ j) :
    Calls Tryz.prog 28 #[.pointer (some ⟨p, 0, none⟩), .int .i64 j, .int .i64 er] w (REnd (.tuple #[]) (failR l gs s j er) p l gs w) := by
  have HO := Lib.hid (rOK_reads h).calls
  have H0 := Lib.hid h
  have hnot : ∀ (x : Bool) (w : World), (Op.unary .not (.bool x)).run Tryz.prog w = .ok (.bool (!x)) w := fun _ _ => rfl
  have HD : Hid (failR l gs s j er = if s.e = 0 then (match gs[j.toNat]? with | some t => ⟨s.i, t.line, t.col, er⟩ | none => ⟨s.i, (endTok l).line, (endTok l).col, er⟩) else s) := Lib.hid rfl
  by_cases he : s.e = 0
  case neg =>
    have he' : (s.e == 0) = false := by simp [he]
    rw [if_neg he] at HD
    rw [HD.out]
    rw [he'] at HO
    clear he he' h hj
    go_enter Tryz.func28, Tryz.ntmps28
    go_wp2_with fail
    go_fit HO.out
    rintro e w1 ⟨rfl, hb1⟩
    have HN := Lib.hid (H0.out.next hb1)
    have HG := Lib.hid (gb_bel hb1 : w.grownBy w1 (some p))
    clear hb1
    go_wp2
    exact bodyPost_ret (v := .tuple #[]) (by simp [results, Tryz.results28, go_sem]) rfl ⟨rfl, HN.out, HG.out⟩
  have he' : (s.e == 0) = true := by simp [he]
  have hj0 := hj he
  rw [if_pos he] at HD
  rw [he'] at HO
  obtain ⟨A, cap, h6, hrow⟩ := h.six
  have H6 := Lib.hid h6
  have HR := Lib.hid hrow
  have HAT := Lib.hid fun W => at_any l hl W
  have hsz : (⟨l.toArray⟩ : ByteArray).size = l.length := ba_size l
  have HET : Hid (endTok l = ⟨0, [], 0, (adv (1, 1) l).1, (adv (1, 1) l).2⟩) := Lib.hid rfl
  have hpw := h6.lt
  generalize ((adv (1, 1) l).1 : Int) = ex at *
  generalize ((adv (1, 1) l).2 : Int) = ey at *
  clear he he' h hj h6 hrow H0
  go_enter Tryz.func28, Tryz.ntmps28
  go_wp2_with fail
  go_fit HO.out
  rintro e w1 ⟨rfl, hb1⟩
  have H61 := Lib.hid (H6.out.next hb1)
  have HR1 := Lib.hid (HR.out.keep fun g hg => hb1.block g (by omega))
  have HG1 := Lib.hid (gb_bel hb1 : w.grownBy w1 (some p))
  have hp1 : p < w1.heap.size := H61.out.lt
  obtain ⟨c0, c1, c2, c3, c4, c5, z2, z3, z4, z5⟩ := H61.out.facts
  clear hb1 HO
  go_upto_region 2 with fail
  have H62 := Lib.hid (H61.out.set5 (.int .i64 er))
  have HR2 := Lib.hid (row_set HR1.out 5 (.int .i64 er))
  have HG2 := Lib.hid (gb_setp HG1.out 5 (.int .i64 er))
  generalize w1.setCell ⟨p, 5, none⟩ (.int .i64 er) = w2 at *
  have hp2 : p < w2.heap.size := H62.out.lt
  clear c0 c1 c2 c3 c4 c5 z2 z3 z4 z5
  have HS : Hid (∀ W, Below w2.heap.size w2 W → W.cell? ⟨p, 0, none⟩ = some (.string ⟨l.toArray⟩)) := Lib.hid fun W hb => (H62.out.next hb).facts.1
  have hbd : Below w2.heap.size w2 w2.drew := (Below.refl _ _).drew
  have hS0 := HS.out w2.drew hbd
  go_region_held3 (fun W => W.cell? ⟨p, 0, none⟩ = some (.string ⟨l.toArray⟩))
    (assumption)
    (first | (go_at_call 57; go_fit (HAT.out _); rintro e w3 ⟨rfl, hb3⟩; have hb4 := bel_next hbd hb3; have hSn := HS.out w3 hb4; obtain ⟨d0, d1, d2, d3, d4, d5, y2, y3, y4, y5⟩ := (H62.out.next hb4).facts; have hp3 : p < w3.heap.size := (H62.out.next hb4).lt; have hS9 := (((H62.out.next hb4).set3 (.int .i64 ex)).set4 (.int .i64 ey)).facts.1))
  have H63 := Lib.hid (((H62.out.next hb4).set3 (.int .i64 ex)).set4 (.int .i64 ey))
  have HR3 := Lib.hid (row_set (row_set (HR2.out.keep fun g hg => hb4.block g (by omega)) 3 (.int .i64 ex)) 4 (.int .i64 ey))
  have HG3 := Lib.hid (gb_setp (gb_setp (gb_trans HG2.out (gb_bel hb4)) 3 (.int .i64 ex)) 4 (.int .i64 ey))
  generalize (w3.setCell ⟨p, 3, none⟩ (.int .i64 ex)).setCell ⟨p, 4, none⟩ (.int .i64 ey) = w5 at *
  have hp5 : p < w5.heap.size := H63.out.lt
  obtain ⟨c0, c1, c2, c3, c4, c5, z2, z3, z4, z5⟩ := H63.out.facts
  clear hbd hS0 hb3 hb4 hSn hS9 d0 d1 d2 d3 d4 d5 y2 y3 y4 y5
  rcases Nat.lt_or_ge j.toNat gs.length with hi | hi
  · have f1 : decide (j < (gs.length : Int)) = true := by simp; omega
    have g1 : j < (gs.length : Int) := by omega
    rw [List.getElem?_eq_getElem hi] at HD
    obtain ⟨b, off, rfl, hb, x0, x1, x2, x3, x4⟩ := HR3.out.tok5 hi
    have hbw : b < w5.heap.size := by omega
    have hbp : b ≠ p := by omega
    generalize gs[j.toNat] = t at *
    obtain ⟨tk, tt, tv, tl, tc⟩ := t
    simp only at HD x0 x1 x2 x3 x4
    have HF := Lib.hid (((H63.out.set3 (.int .i64 tl)).set4 (.int .i64 tc)).rps (row_set (row_set HR3.out 3 (.int .i64 tl)) 4 (.int .i64 tc)))
    have HGF := Lib.hid (gb_setp (gb_setp HG3.out 3 (.int .i64 tl)) 4 (.int .i64 tc))
    go_wp2
    refine bodyPost_ret (v := .tuple #[]) (by simp [results, Tryz.results28, go_sem]) rfl ⟨rfl, ?_, ?_⟩
    · rw [HD.out]; exact HF.out
    · exact HGF.out
  · have f1 : decide (j < (gs.length : Int)) = false := by simp; omega
    have g1 : ¬ j < (gs.length : Int) := by omega
    rw [List.getElem?_eq_none hi] at HD
    have HF := Lib.hid (H63.out.rps HR3.out)
    go_wp2
    refine bodyPost_ret (v := .tuple #[]) (by simp [results, Tryz.results28, go_sem]) rfl ⟨rfl, ?_, HG3.out⟩
    rw [HD.out, HET.out]
    exact HF.out
end Go.Proofs.YtmodjokoggmnaaaGreatDoor
