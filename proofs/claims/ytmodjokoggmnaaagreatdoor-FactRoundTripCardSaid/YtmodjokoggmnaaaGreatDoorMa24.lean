/-
  What the scanner's tokens are; where a text ends.
  Conditions: the text has at most 65536 bytes.
  The reference's parser: its state, OK, Done, Peek, Kind.
  Conditions: none beyond the state.
  The contract of the reference's At at a text's end.
  Conditions: the text has at most 65536 bytes.
-/
import Derived.Test.YtmodjokoggmnaaaGreatDoorMa23
import Derived.Test.YtmodjokoggmnaaaGreatDoorMa5
import Derived.Deep.QuietTactic
import Derived.Test.YtmodjokoggmnaaaGreatDoorMa10
import Derived.Test.YtmodjokoggmnaaaGreatDoorMa8
namespace Go.Proofs.YtmodjokoggmnaaaGreatDoor
open Go.RowKit Go.Shelf

def TokB (n : Nat) (kd : Nat) (tx : List UInt8) (v : Nat) : Prop := (kd = 1 ∨ kd = 2 ∨ kd = 3 ∨ kd = 4) ∧ v < 18446744073709551616 ∧ tx.length ≤ n
theorem digits_lt {b s : Nat} {l : List UInt8} {v : Nat} (h : digits b s l = .val v) : v < 18446744073709551616 := by
  unfold digits at h
  split at h
  · cases h
  · split at h
    · injection h with h; omega
    · cases h
theorem num_lt {l : List UInt8} {v : Nat} (h : num l = .val v) : v < 18446744073709551616 := by
  unfold num at h
  simp only at h
  split at h
  · exact digits_lt h
  · split at h
    · cases h
    · exact digits_lt h
theorem first_tokB {l : List UInt8} {kd v n : Nat} {tx : List UInt8} (h : first l = .tok kd tx v n) : TokB l.length kd tx v := by
  cases l with
  | nil => cases h
  | cons c r =>
    unfold first at h
    simp only at h
    split at h
    · split at h
      · cases h
      · cases h
      · rename_i hv
        injection h with h1 h2 h3 h4
        subst h1 h2 h3
        exact ⟨.inr (.inl rfl), num_lt hv, by simp⟩
    · split at h
      · injection h with h1 h2 h3 h4
        subst h1 h2 h3
        exact ⟨.inl rfl, by omega, by rw [List.length_take]; omega⟩
      · split at h
        · unfold quoted at h
          split at h
          · injection h with h1 h2 h3 h4
            subst h1 h2 h3
            exact ⟨.inr (.inr (.inl rfl)), by omega, by rw [List.length_take]; simp; omega⟩
          · cases h
        · unfold marked at h
          split at h
          · injection h with h1 h2 h3 h4
            subst h1 h2 h3
            exact ⟨.inr (.inr (.inr rfl)), by omega, by rw [List.length_take]; omega⟩
          · split at h
            · injection h with h1 h2 h3 h4
              subst h1 h2 h3
              exact ⟨.inr (.inr (.inr rfl)), by omega, by rw [List.length_take]; omega⟩
            · cases h
theorem step_tokB {l : List UInt8} {kd v n : Nat} {tx : List UInt8} (h : step l = .tok kd tx v n) : TokB l.length kd tx v := by
  cases l with
  | nil => cases h
  | cons c r =>
    unfold step at h
    simp only at h
    split at h
    · cases h
    · split at h
      · cases h
      · exact first_tokB h
theorem lex_tokB : ∀ (l : List UInt8) (k : Nat) (p : Nat × Nat) (ts : List Tok), lex k p l = .ok ts → ∀ t ∈ ts, TokB l.length t.kind t.text t.value
  | [], k, p, ts, h => by
    rw [lex_nil] at h
    injection h with h
    subst h
    intro t ht
    cases ht
  | c :: r, k + 1, p, ts, h => by
    rw [lex] at h
    intro t ht
    obtain ⟨h1, h2, h3⟩ := lex_tokB r k _ ts h t ht
    exact ⟨h1, h2, by simp; omega⟩
  | c :: r, 0, p, ts, h => by
    rw [lex] at h
    cases hs : step (c :: r) with
    | skip n =>
      rw [hs] at h
      intro t ht
      obtain ⟨h1, h2, h3⟩ := lex_tokB r _ _ ts h t ht
      exact ⟨h1, h2, by simp; omega⟩
    | tok kd tx v n =>
      rw [hs] at h
      simp only at h
      cases hl : lex (n - 1) (adv1 p c) r with
      | ok us =>
        rw [hl] at h
        injection h with h
        subst h
        intro t ht
        rcases List.mem_cons.1 ht with rfl | ht
        · exact step_tokB hs
        · obtain ⟨h1, h2, h3⟩ := lex_tokB r _ _ us hl t ht
          exact ⟨h1, h2, by simp; omega⟩
      | no x y e => rw [hl] at h; cases h
    | err e => rw [hs] at h; cases h
theorem scan_tokB {l : List UInt8} {ts : List Tok} (h : scan l = .ok ts) : l.length ≤ 65536 ∧ ∀ t ∈ ts, TokW t.g := by
  unfold scan at h
  split at h
  · cases h
  · refine ⟨by omega, fun t ht => ?_⟩
    obtain ⟨h1, h2, h3⟩ := lex_tokB l 0 _ ts h t ht
    refine ⟨?_, ?_, ?_, ?_⟩
    · show (t.kind : Int) = 1 ∨ (t.kind : Int) = 2 ∨ (t.kind : Int) = 3 ∨ (t.kind : Int) = 4
      omega
    · show (0 : Int) ≤ (t.value : Int)
      omega
    · show (t.value : Int) ≤ 18446744073709551615
      omega
    · show t.text.length ≤ 65536
      omega
theorem first_err {l : List UInt8} {e : Nat} (h : first l = .err e) : e = 50 ∨ e = 6 := by
  cases l with
  | nil => injection h with h; omega
  | cons c r =>
    unfold first at h
    simp only at h
    split at h
    · split at h
      · injection h with h; omega
      · injection h with h; omega
      · cases h
    · split at h
      · cases h
      · split at h
        · unfold quoted at h
          split at h
          · cases h
          · injection h with h; omega
        · unfold marked at h
          split at h
          · cases h
          · split at h
            · cases h
            · injection h with h; omega
theorem lex_err : ∀ (l : List UInt8) (k : Nat) (p : Nat × Nat) (x y e : Nat), lex k p l = .no x y e → e = 50 ∨ e = 6
  | [], k, p, x, y, e, h => by rw [lex_nil] at h; cases h
  | c :: r, k + 1, p, x, y, e, h => by
    rw [lex] at h
    exact lex_err r k _ x y e h
  | c :: r, 0, p, x, y, e, h => by
    rw [lex] at h
    cases hs : step (c :: r) with
    | skip n => rw [hs] at h; exact lex_err r _ _ x y e h
    | tok kd tx v n =>
      rw [hs] at h
      simp only at h
      cases hl : lex (n - 1) (adv1 p c) r with
      | ok us => rw [hl] at h; cases h
      | no x' y' e' =>
        rw [hl] at h
        injection h with h1 h2 h3
        subst h3
        exact lex_err r _ _ x' y' e' hl
    | err e' =>
      rw [hs] at h
      injection h with h1 h2 h3
      subst h3
      unfold step at hs
      simp only at hs
      split at hs
      · cases hs
      · split at hs
        · cases hs
        · exact first_err hs
theorem scan_err {l : List UInt8} {x y e : Nat} (h : scan l = .no x y e) : e = 15 ∨ e = 50 ∨ e = 6 := by
  unfold scan at h
  split at h
  · injection h with h1 h2 h3; omega
  · exact .inr (lex_err l 0 _ x y e h)
/-- The token behind the last. -/
def endTok (l : List UInt8) : GTok := ⟨0, [], 0, (adv (1, 1) l).1, (adv (1, 1) l).2⟩
theorem ends_of : ∀ (gs : List GTok) (e : GTok), (∀ g ∈ gs, TokW g) → e.kind = 0 → e.text = [] → TEnds (gs ++ [e])
  | [], e, _, h1, h2 => ⟨h1, h2⟩
  | [g], e, h, h1, h2 => ⟨h g (by simp), h1, h2⟩
  | g :: g2 :: gs, e, h, h1, h2 => ⟨h g (by simp), ends_of (g2 :: gs) e (fun x hx => h x (List.mem_cons_of_mem _ hx)) h1 h2⟩
theorem scan_ends {l : List UInt8} {ts : List Tok} (h : scan l = .ok ts) : TEnds (ts.map Tok.g ++ [endTok l]) :=
  ends_of _ _ (fun g hg => by
    obtain ⟨t, ht, rfl⟩ := List.mem_map.1 hg
    exact (scan_tokB h).2 t ht) rfl rfl
theorem adv_end (l : List UInt8) : ∀ k, k ≤ l.length → ((adv (1, 1) (l.take k)).1 : Int) = 1 + ((l.take k).count 10 : Nat) ∧ ((adv (1, 1) (l.take k)).2 : Int) = k - Lib.lastIdx ⟨l.toArray⟩ 10 k
  | 0, _ => by simp [adv, Lib.lastIdx]
  | k + 1, hk => by
    obtain ⟨h1, h2⟩ := adv_end l k (by omega)
    have hlt : k < l.length := by omega
    rw [adv_step hlt, List.take_succ_eq_append_getElem hlt, List.count_append]
    have e2 : Lib.lastIdx ⟨l.toArray⟩ 10 (k + 1) = if ((l[k]).toNat : Int) = 10 then (k : Int) else Lib.lastIdx ⟨l.toArray⟩ 10 k := by
      show (if (((⟨l.toArray⟩ : ByteArray).data[k]!).toNat : Int) = 10 then (k : Int) else Lib.lastIdx ⟨l.toArray⟩ 10 k) = _
      have e3 : (⟨l.toArray⟩ : ByteArray).data[k]! = l[k] := by simp [hlt]
      rw [e3]
    rw [e2]
    generalize adv (1, 1) (l.take k) = q at *
    obtain ⟨x, y⟩ := q
    unfold adv1
    by_cases hc : l[k] = 10
    · have hn : ((l[k]).toNat : Int) = 10 := by rw [hc]; rfl
      rw [if_pos hc, if_pos hn, hc]
      simp at h1 h2 ⊢
      omega
    · have hn : ¬ ((l[k]).toNat : Int) = 10 := fun e => hc (UInt8.toNat_inj.1 (by show (l[k]).toNat = 10; omega))
      rw [if_neg hc, if_neg hn]
      have h0 : [l[k]].count 10 = 0 := by simp [hc]
      rw [h0]
      simp at h1 h2 ⊢
      omega
theorem endPos_any (l : List UInt8) (w : World) (hl : l.length ≤ 65536) :
    Calls Tryz.prog 21 #[.string ⟨l.toArray⟩] w fun e w' => e = .returned (.agg #[.int .i64 (endTok l).line, .int .i64 (endTok l).col]) ∧ Below w.heap.size w w' := by
  have hsz : (⟨l.toArray⟩ : ByteArray).size = l.length := ba_size l
  have H1 := Lib.hid (Tryz.strings_Count_one ⟨l.toArray⟩ 10)
  have H2 := Lib.hid (Tryz.strings_LastIndexByte ⟨l.toArray⟩ 10 (by rw [hsz]; omega))
  obtain ⟨a1, a2⟩ := adv_end l l.length (Nat.le_refl _)
  rw [List.take_length] at a1 a2
  have hbd := adv_bd l (1, 1) (by omega) (by omega)
  have e1 : (Lib.countByte (⟨l.toArray⟩ : ByteArray).data.toList 10 : Int) = (adv (1, 1) l).1 - 1 := by
    show ((l.count 10 : Nat) : Int) = _
    omega
  have e2 : Lib.lastIndexByte ⟨l.toArray⟩ 10 = (l.length : Int) - (adv (1, 1) l).2 := by
    unfold Lib.lastIndexByte
    rw [hsz]
    omega
  rw [e1] at H1
  rw [e2] at H2
  have HE : Hid (endTok l = ⟨0, [], 0, (adv (1, 1) l).1, (adv (1, 1) l).2⟩) := Lib.hid rfl
  clear a1 a2 e1 e2
  have hx : (adv (1, 1) l).1 ≤ 65537 := by simp at hbd; omega
  have hy : (adv (1, 1) l).2 ≤ 65537 := by simp at hbd; omega
  generalize (adv (1, 1) l).1 = x at *
  generalize (adv (1, 1) l).2 = y at *
  have w1 : wrap64 (1 + ((x : Int) - 1)) = x := by unfold wrap64; omega
  have w2 : wrap64 ((l.length : Int) - ((l.length : Int) - (y : Int))) = y := by unfold wrap64; omega
  generalize hc1 : (x : Int) - 1 = c1 at *
  generalize hc2 : (l.length : Int) - (y : Int) = c2 at *
  have W1 := Lib.hid w1
  have W2 := Lib.hid w2
  clear hc1 hc2 hbd w1 w2
  go_enter Tryz.func21, Tryz.ntmps21
  go_wp2_with fail
  refine (H1.out _).mono ?_
  rintro e w1 ⟨rfl, rfl⟩
  go_wp2_with fail
  refine (H2.out _).mono ?_
  rintro e w1 ⟨rfl, rfl⟩
  go_wp2
  have q1 : wrap64 (1 + c1) = x := W1.out
  have q2 : wrap64 ((l.length : Int) - c2) = y := W2.out
  exact bodyPost_ret (v := .agg #[.int .i64 (wrap64 (1 + c1)), .int .i64 (wrap64 ((l.length : Int) - c2))]) (by simp [results, Tryz.results21, go_sem]) rfl ⟨by rw [HE.out, q1, q2], bel_lit (Below.refl _ _) _⟩
end Go.Proofs.YtmodjokoggmnaaaGreatDoor


namespace Go.Proofs.YtmodjokoggmnaaaGreatDoor
open Go.RowKit Go.Shelf

/-- Where the reference's parser stands: the number of the next token, the position and the number of the first error. -/
structure RS where
  i : Nat
  x : Int
  y : Int
  e : Int
/-- The reference's parser in block p stands at s, over the tokens gs of the text l. -/
def RPS (w : World) (p : Nat) (l : List UInt8) (gs : List GTok) (s : RS) : Prop :=
  ∃ A cap, w.heap[p]? = some (.cells #[.string ⟨l.toArray⟩, .slice A gs.length cap, .int .i64 s.i, .int .i64 s.x, .int .i64 s.y, .int .i64 s.e] 62 (0, 0)) ∧ GRow GTok.cells 5 w p A gs
theorem RPS.lt {w : World} {p : Nat} {l : List UInt8} {gs : List GTok} {s : RS} (h : RPS w p l gs s) : p < w.heap.size := by
  obtain ⟨A, cap, hh, _⟩ := h
  rcases Nat.lt_or_ge p w.heap.size with h1 | h1
  · exact h1
  · rw [Array.getElem?_eq_none h1] at hh; cases hh
theorem RPS.next {w w' : World} {p : Nat} {l : List UInt8} {gs : List GTok} {s : RS} (h : RPS w p l gs s) (hb : Below w.heap.size w w') : RPS w' p l gs s := by
  have hp := h.lt
  obtain ⟨A, cap, hh, h3⟩ := h
  exact ⟨A, cap, (hb.block p hp).trans hh, h3.keep fun g hg => hb.block g (by omega)⟩
theorem RPS.open {w : World} {p : Nat} {l : List UInt8} {gs : List GTok} {s : RS} (h : RPS w p l gs s) : ∃ A cap, p < w.heap.size ∧ w.cell? ⟨p, 0, none⟩ = some (.string ⟨l.toArray⟩) ∧ w.cell? ⟨p, 1, none⟩ = some (.slice A gs.length cap) ∧ w.cell? ⟨p, 2, none⟩ = some (.int .i64 s.i) ∧
    w.cell? ⟨p, 3, none⟩ = some (.int .i64 s.x) ∧ w.cell? ⟨p, 4, none⟩ = some (.int .i64 s.y) ∧ w.cell? ⟨p, 5, none⟩ = some (.int .i64 s.e) ∧ GRow GTok.cells 5 w p A gs ∧ (∀ j, w.frozen? ⟨p, j, none⟩ = false) ∧
    w.heap[p]? = some (.cells #[.string ⟨l.toArray⟩, .slice A gs.length cap, .int .i64 s.i, .int .i64 s.x, .int .i64 s.y, .int .i64 s.e] 62 (0, 0)) := by
  have hp := h.lt
  obtain ⟨A, cap, hh, h3⟩ := h
  exact ⟨A, cap, hp, by rw [Lib.cell_of_heap hh]; rfl, by rw [Lib.cell_of_heap hh]; rfl, by rw [Lib.cell_of_heap hh]; rfl, by rw [Lib.cell_of_heap hh]; rfl, by rw [Lib.cell_of_heap hh]; rfl, by rw [Lib.cell_of_heap hh]; rfl, h3, fun j => Lib.frozen_of_heap hh j, hh⟩
theorem RPS.drewN {w : World} {p : Nat} {l : List UInt8} {gs : List GTok} {s : RS} (h : RPS w p l gs s) (n : Nat) : RPS (w.drewN n) p l gs s := h.next (bel_drewN _ w n)
theorem GRow.tok5 {w : World} {B : Nat} {A : Option Addr} {gs : List GTok} (h : GRow GTok.cells 5 w B A gs) {i : Nat} (hi : i < gs.length) : ∃ b off, A = some ⟨b, off, none⟩ ∧ b < B ∧
    w.cell? ⟨b, off + i * 5, none⟩ = some (.int .i64 gs[i].kind) ∧ w.cell? ⟨b, off + i * 5 + 1, none⟩ = some (.string ⟨gs[i].text.toArray⟩) ∧ w.cell? ⟨b, off + i * 5 + 2, none⟩ = some (.int .u64 gs[i].value) ∧ w.cell? ⟨b, off + i * 5 + 3, none⟩ = some (.int .i64 gs[i].line) ∧ w.cell? ⟨b, off + i * 5 + 4, none⟩ = some (.int .i64 gs[i].col) := by
  obtain ⟨b, off, e, hb, hc⟩ := h (by omega)
  exact ⟨b, off, e, hb, hc i hi 0 _ rfl, hc i hi 1 _ rfl, hc i hi 2 _ rfl, hc i hi 3 _ rfl, hc i hi 4 _ rfl⟩
/-- A call that only reads, seen from w, whatever has been drawn. -/
def Reads (f : FuncId) (args : Array Value) (v : Value) (w : World) : Prop := ∀ n, Calls Tryz.prog f args (w.drewN n) fun e w'' => e = .returned v ∧ ∃ m, w'' = w.drewN m
theorem Reads.of {f : FuncId} {args : Array Value} {v : Value} {w : World} (h : ∀ n, Calls Tryz.prog f args (w.drewN n) fun e w' => e = .returned v ∧ ∃ m, w' = (w.drewN n).drewN m) : Reads f args v w := fun n => Calls.quiet_of (h n)
theorem Reads.calls {f : FuncId} {args : Array Value} {v : Value} {w : World} (h : Reads f args v w) : Calls Tryz.prog f args w fun e w' => e = .returned v ∧ Below w.heap.size w w' :=
  (h 0).mono fun _ _ ⟨e, m, hm⟩ => ⟨e, by rw [hm]; exact bel_drewN _ _ _⟩
theorem rOK_any (p : Nat) (l : List UInt8) (gs : List GTok) (s : RS) (w : World) (h : RPS w p l gs s) :
    Calls Tryz.prog 25 #[.pointer (some ⟨p, 0, none⟩)] w fun e w' => e = .returned (.bool (s.e == 0)) ∧ ∃ m, w' = w.drewN m := by
  obtain ⟨A, cap, hp, c0, c1, c2, c3, c4, c5, hr, hf, hh⟩ := h.open
  clear h hr hf hh
  go_enter Tryz.func25, Tryz.ntmps25
  go_wp2
  go_ret
  exact ⟨rfl, 0, rfl⟩
theorem rOK_reads {p : Nat} {l : List UInt8} {gs : List GTok} {s : RS} {w : World} (h : RPS w p l gs s) : Reads 25 #[.pointer (some ⟨p, 0, none⟩)] (.bool (s.e == 0)) w :=
  Reads.of fun n => rOK_any p l gs s _ (h.drewN n)
def doneR (gs : List GTok) (s : RS) : Bool := decide (gs.length ≤ s.i)
theorem rDone_any (p : Nat) (l : List UInt8) (gs : List GTok) (s : RS) (w : World) (h : RPS w p l gs s) :
    Calls Tryz.prog 26 #[.pointer (some ⟨p, 0, none⟩)] w fun e w' => e = .returned (.bool (doneR gs s)) ∧ ∃ m, w' = w.drewN m := by
  obtain ⟨A, cap, hp, c0, c1, c2, c3, c4, c5, hr, hf, hh⟩ := h.open
  have HD : Hid (doneR gs s = decide (gs.length ≤ s.i)) := Lib.hid rfl
  clear h hr hf hh
  generalize doneR gs s = q at *
  generalize s.i = i at *
  by_cases hd : gs.length ≤ i
  · have f1 : decide ((gs.length : Int) ≤ (i : Int)) = true := by simp; omega
    have g1 : (gs.length : Int) ≤ (i : Int) := by omega
    have HQ := Lib.hid (decide_eq_true hd)
    clear hd
    go_enter Tryz.func26, Tryz.ntmps26
    go_upto_region 1 with fail
    go_quiet (fail)
    go_wp2
    go_ret
    exact ⟨ret_bool (by rw [HD.out, HQ.out]), _, rfl⟩
  · have f1 : decide ((gs.length : Int) ≤ (i : Int)) = false := by simp; omega
    have g1 : ¬ (gs.length : Int) ≤ (i : Int) := by omega
    have HQ := Lib.hid (decide_eq_false hd)
    clear hd
    go_enter Tryz.func26, Tryz.ntmps26
    go_upto_region 1 with fail
    go_quiet (fail)
    go_wp2
    go_ret
    exact ⟨ret_bool (by rw [HD.out, HQ.out]), _, rfl⟩
theorem rDone_reads {p : Nat} {l : List UInt8} {gs : List GTok} {s : RS} {w : World} (h : RPS w p l gs s) : Reads 26 #[.pointer (some ⟨p, 0, none⟩)] (.bool (doneR gs s)) w :=
  Reads.of fun n => rDone_any p l gs s _ (h.drewN n)
def kindR (gs : List GTok) (s : RS) (k : Int) : Bool := s.e == 0 && (!doneR gs s && (match gs[s.i]? with | some t => t.kind == k | none => false))
def peekR (gs : List GTok) (s : RS) (k : Int) (tx : List UInt8) : Bool := s.e == 0 && (!doneR gs s && (match gs[s.i]? with | some t => t.kind == k && t.text == tx | none => false))
set_option maxRecDepth 50000 in
set_option maxHeartbeats 1000000 in
theorem rKind_any (p : Nat) (l : List UInt8) (gs : List GTok) (s : RS) (k : Int) (w : World) (h : RPS w p l gs s) :
    Calls Tryz.prog 58 #[.pointer (some ⟨p, 0, none⟩), .int .i64 k] w fun e w' => e = .returned (.bool (kindR gs s k)) ∧ ∃ m, w' = w.drewN m := by
  obtain ⟨A, cap, hp, c0, c1, c2, c3, c4, c5, hr, hf, hh⟩ := h.open
  have HD : Hid (kindR gs s k = (s.e == 0 && (!doneR gs s && (match gs[s.i]? with | some t => t.kind == k | none => false)))) := Lib.hid rfl
  have HO := Lib.hid (rOK_reads h)
  have HN := Lib.hid (rDone_reads h)
  have HDO : Hid (doneR gs s = decide (gs.length ≤ s.i)) := Lib.hid rfl
  have hnot : ∀ (x : Bool) (w : World), (Op.unary .not (.bool x)).run Tryz.prog w = .ok (.bool (!x)) w := fun _ _ => rfl
  clear h hf hh
  generalize kindR gs s k = q at *
  by_cases he : s.e = 0
  case neg =>
    have he' : (s.e == 0) = false := by simp [he]
    rw [he'] at HD HO
    clear he he' hr
    go_enter Tryz.func58, Tryz.ntmps58
    go_upto_region 1 with fail
    go_quiet (first | exact HO.out _ | exact HN.out _)
    go_wp2
    go_ret
    exact ⟨ret_bool (by rw [HD.out]; rfl), _, rfl⟩
  have he' : (s.e == 0) = true := by simp [he]
  rw [he'] at HD HO
  rcases Nat.lt_or_ge s.i gs.length with hi | hi
  case inr =>
    have hd : doneR gs s = true := by rw [HDO.out]; simp [hi]
    rw [hd] at HD HN
    clear he he' hr hd
    go_enter Tryz.func58, Tryz.ntmps58
    go_upto_region 1 with fail
    go_quiet (first | exact HO.out _ | exact HN.out _)
    go_wp2
    go_ret
    exact ⟨ret_bool (by rw [HD.out]; rfl), _, rfl⟩
  have hd : doneR gs s = false := by rw [HDO.out]; simp; omega
  rw [hd, List.getElem?_eq_getElem hi] at HD
  rw [hd] at HN
  obtain ⟨b, off, rfl, hb, x0, x1, x2, x3, x4⟩ := hr.tok5 hi
  have hbw : b < w.heap.size := by omega
  simp only at HD
  generalize gs[s.i] = t at *
  obtain ⟨tk, tt, tv, tl, tc⟩ := t
  simp only at HD x0 x1
  generalize s.i = i at *
  clear he he' hr hd
  by_cases hk : tk = k
  · subst hk
    have f1 : (tk == tk) = true := by simp
    go_enter Tryz.func58, Tryz.ntmps58
    go_upto_region 1 with fail
    go_quiet (first | exact HO.out _ | exact HN.out _)
    go_wp2
    go_ret
    exact ⟨ret_bool (by rw [HD.out]; simp), _, rfl⟩
  · have f1 : (tk == k) = false := by simp [hk]
    have HK := Lib.hid f1
    clear hk
    go_enter Tryz.func58, Tryz.ntmps58
    go_upto_region 1 with fail
    go_quiet (first | exact HO.out _ | exact HN.out _)
    go_wp2
    go_ret
    exact ⟨ret_bool (by rw [HD.out, HK.out]; rfl), _, rfl⟩
set_option maxRecDepth 50000 in
set_option maxHeartbeats 1000000 in
theorem rPeek_any (p : Nat) (l : List UInt8) (gs : List GTok) (s : RS) (k : Int) (tx : List UInt8) (w : World) (h : RPS w p l gs s) :
    Calls Tryz.prog 30 #[.pointer (some ⟨p, 0, none⟩), .int .i64 k, .string ⟨tx.toArray⟩] w fun e w' => e = .returned (.bool (peekR gs s k tx)) ∧ ∃ m, w' = w.drewN m := by
  obtain ⟨A, cap, hp, c0, c1, c2, c3, c4, c5, hr, hf, hh⟩ := h.open
  have HD : Hid (peekR gs s k tx = (s.e == 0 && (!doneR gs s && (match gs[s.i]? with | some t => t.kind == k && t.text == tx | none => false)))) := Lib.hid rfl
  have HO := Lib.hid (rOK_reads h)
  have HN := Lib.hid (rDone_reads h)
  have HDO : Hid (doneR gs s = decide (gs.length ≤ s.i)) := Lib.hid rfl
  have hnot : ∀ (x : Bool) (w : World), (Op.unary .not (.bool x)).run Tryz.prog w = .ok (.bool (!x)) w := fun _ _ => rfl
  clear h hf hh
  generalize peekR gs s k tx = q at *
  by_cases he : s.e = 0
  case neg =>
    have he' : (s.e == 0) = false := by simp [he]
    rw [he'] at HD HO
    clear he he' hr
    go_enter Tryz.func30, Tryz.ntmps30
    go_upto_region 1 with fail
    go_quiet (first | exact HO.out _ | exact HN.out _)
    go_wp2
    go_ret
    exact ⟨ret_bool (by rw [HD.out]; rfl), _, rfl⟩
  have he' : (s.e == 0) = true := by simp [he]
  rw [he'] at HD HO
  rcases Nat.lt_or_ge s.i gs.length with hi | hi
  case inr =>
    have hd : doneR gs s = true := by rw [HDO.out]; simp [hi]
    rw [hd] at HD HN
    clear he he' hr hd
    go_enter Tryz.func30, Tryz.ntmps30
    go_upto_region 1 with fail
    go_quiet (first | exact HO.out _ | exact HN.out _)
    go_wp2
    go_ret
    exact ⟨ret_bool (by rw [HD.out]; rfl), _, rfl⟩
  have hd : doneR gs s = false := by rw [HDO.out]; simp; omega
  rw [hd, List.getElem?_eq_getElem hi] at HD
  rw [hd] at HN
  obtain ⟨b, off, rfl, hb, x0, x1, x2, x3, x4⟩ := hr.tok5 hi
  have hbw : b < w.heap.size := by omega
  simp only at HD
  generalize gs[s.i] = t at *
  obtain ⟨tk, tt, tv, tl, tc⟩ := t
  simp only at HD x0 x1
  generalize s.i = i at *
  clear he he' hr hd
  by_cases hk : tk = k
  · subst hk
    have f1 : (tk == tk) = true := by simp
    by_cases ht : tt = tx
    · subst ht
      have f2 : (tt == tt) = true := by simp
      go_enter Tryz.func30, Tryz.ntmps30
      go_upto_region 1 with fail
      go_quiet (first | exact HO.out _ | exact HN.out _)
      go_wp2
      go_ret
      exact ⟨ret_bool (by rw [HD.out]; simp), _, rfl⟩
    · have f2 : (tt == tx) = false := by simp [ht]
      have HT := Lib.hid f2
      clear ht
      go_enter Tryz.func30, Tryz.ntmps30
      go_upto_region 1 with fail
      go_quiet (first | exact HO.out _ | exact HN.out _)
      go_wp2
      go_ret
      exact ⟨ret_bool (by rw [HD.out, HT.out]; simp), _, rfl⟩
  · have f1 : (tk == k) = false := by simp [hk]
    have HK := Lib.hid f1
    clear hk
    go_enter Tryz.func30, Tryz.ntmps30
    go_upto_region 1 with fail
    go_quiet (first | exact HO.out _ | exact HN.out _)
    go_wp2
    go_ret
    exact ⟨ret_bool (by rw [HD.out, HK.out]; rfl), _, rfl⟩
end Go.Proofs.YtmodjokoggmnaaaGreatDoor


namespace Go.Proofs.YtmodjokoggmnaaaGreatDoor
open Go.RowKit Go.Shelf

set_option maxRecDepth 50000 in
set_option maxHeartbeats 1000000 in
theorem at_any (l : List UInt8) (hl : l.length ≤ 65536) (w : World) :
    Calls Tryz.prog 57 #[.string ⟨l.toArray⟩, .int .i64 l.length] w fun e w' => e = .returned (.agg #[.int .i64 (adv (1, 1) l).1, .int .i64 (adv (1, 1) l).2]) ∧ Below w.heap.size w w' := by
  have hsz : (⟨l.toArray⟩ : ByteArray).size = l.length := ba_size l
  go_enter Tryz.func57, Tryz.ntmps57
  go_wp2
  go_loopw [6] (fun vi wr => ∃ j x y : Nat, vi = .int .i64 j ∧ j ≤ l.length ∧ Hid (adv (1, 1) (l.take j) = (x, y)) ∧ Hid (wr.heap[w.heap.size]? = some (.cells #[.int .i64 0, .int .i64 0] 26 (0, 0))) ∧ Hid (wr.heap[w.heap.size + 1]? = some (.cells #[.int .i64 x, .int .i64 y] 26 (0, 0))) ∧ Hid (Below w.heap.size w wr))
    (fun vi _ => l.length + 1 - (intOf vi).toNat)
  case atStart =>
    refine ⟨0, 1, 1, rfl, Nat.zero_le _, rfl, ?_, ?_, Lib.hid (((Below.refl _ _).alloc (Nat.le_refl _) _).alloc (by simp) _)⟩
    · exact (Below.heap_alloc _ _ _ (by simp)).trans (heap_alloc_new w _)
    · have := heap_alloc_new (w.alloc (.cells #[.int .i64 0, .int .i64 0] 26)) (.cells #[.int .i64 1, .int .i64 1] 26)
      have e : (w.alloc (.cells #[.int .i64 0, .int .i64 0] 26)).heap.size = w.heap.size + 1 := by simp
      rw [e] at this; exact this
  case round =>
    obtain ⟨j, x, y, rfl, hj, HX, H0, H1, HB⟩ := hrel
    have bd := adv_bd (l.take j) (1, 1) (Nat.le_refl _) (Nat.le_refl _)
    rw [HX.out, List.length_take] at bd
    have bx : x ≤ 65537 := by have := bd.2.2.1; simp at this; omega
    have by' : y ≤ 65537 := by have := bd.2.2.2; simp at this; omega
    clear bd
    have d0 : wr.cell? ⟨w.heap.size + 1, 0, none⟩ = some (.int .i64 x) := by simp [World.cell?, H1.out]
    have d1 : wr.cell? ⟨w.heap.size + 1, 1, none⟩ = some (.int .i64 y) := by simp [World.cell?, H1.out]
    have z1 : ∀ i, wr.frozen? ⟨w.heap.size + 1, i, none⟩ = false := fun i => by simp [World.frozen?, H1.out]
    have c0 : wr.cell? ⟨w.heap.size, 0, none⟩ = some (.int .i64 0) := by simp [World.cell?, H0.out]
    have c1 : wr.cell? ⟨w.heap.size, 1, none⟩ = some (.int .i64 0) := by simp [World.cell?, H0.out]
    have z0 : ∀ i, wr.frozen? ⟨w.heap.size, i, none⟩ = false := fun i => by simp [World.frozen?, H0.out]
    rcases Nat.lt_or_ge j l.length with hjl | hge
    · have hx : (⟨l.toArray⟩ : ByteArray)[j]'(by rw [hsz]; exact hjl) = l[j] := rfl
      clear c0 c1 z0
      by_cases h10 : l[j].toNat = 10
      · have f10 : ((l[j].toNat : Int) == 10) = true := by simp; omega
        have HA : Hid (adv (1, 1) (l.take (j + 1)) = (x + 1, 1)) := Lib.hid (by rw [adv_step hjl, HX.out]; simp [adv1, show l[j] = 10 from UInt8.toNat_inj.1 h10])
        have HK := Lib.hid (two_set1 (two_set0 (two_set1 H1.out (.int .i64 ((y : Int) + 1))) (.int .i64 ((x : Int) + 1))) (.int .i64 1))
        go_wp2
        go_roundw
        case rel => exact ⟨j + 1, x + 1, 1, by go_num, by omega, HA, Lib.hid (by rw [Below.heap_setCell _ _ _ _ (by show w.heap.size ≠ w.heap.size + 1; omega), Below.heap_setCell _ _ _ _ (by show w.heap.size ≠ w.heap.size + 1; omega), Below.heap_setCell _ _ _ _ (by show w.heap.size ≠ w.heap.size + 1; omega)]; exact H0.out), HK, Lib.hid (((HB.out.setCell (Nat.le_succ _) _).setCell (Nat.le_succ _) _).setCell (Nat.le_succ _) _)⟩
        case measure => simp [intOf]; omega
      · have f10 : ((l[j].toNat : Int) == 10) = false := by simp; omega
        have HA : Hid (adv (1, 1) (l.take (j + 1)) = (x, y + 1)) := Lib.hid (by rw [adv_step hjl, HX.out]; simp [adv1]; exact fun h => h10 (by rw [h]; rfl))
        have HK := Lib.hid (two_set1 H1.out (.int .i64 ((y : Int) + 1)))
        go_wp2
        go_roundw
        case rel => exact ⟨j + 1, x, y + 1, by go_num, by omega, HA, Lib.hid (by rw [Below.heap_setCell _ _ _ _ (by show w.heap.size ≠ w.heap.size + 1; omega)]; exact H0.out), HK, Lib.hid (HB.out.setCell (Nat.le_succ _) _)⟩
        case measure => simp [intOf]; omega
    · have hjk : j = l.length := by omega
      subst hjk
      have HE : Hid (adv (1, 1) l = (x, y)) := Lib.hid (by have := HX.out; rwa [List.take_length] at this)
      go_wp2
      refine bodyPost_ret (v := .agg #[.int .i64 x, .int .i64 y]) (by simp [results, Tryz.results57, go_sem, c0, c1]) rfl ?_
      rw [HE.out]
      exact ⟨rfl, (HB.out.setCell (Nat.le_refl _) _).setCell (Nat.le_refl _) _⟩
end Go.Proofs.YtmodjokoggmnaaaGreatDoor
