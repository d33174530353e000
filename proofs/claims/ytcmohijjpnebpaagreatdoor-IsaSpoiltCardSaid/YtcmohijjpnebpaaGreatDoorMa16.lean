/-
  What the scanner's tokens are; where a text ends; the tokens of a text with one of kind 0 behind them.
  Conditions: the text has at most 65536 bytes.
  The assembler's methods keep, register, labelUse, target and immediate.
  Conditions: the tokens end with one of kind 0; the lists are short.
  The bytes of a program; isa.Encode, at whatever program.
  Conditions: the table of formats lies as the program's start lays it; the numbers are those of the language.
-/
import Derived.Test.YtcmohijjpnebpaaGreatDoorMa14
import Derived.Test.YtcmohijjpnebpaaGreatDoorMa6
import Derived.Test.YtcmohijjpnebpaaGreatDoorMa7
import Derived.Test.YtcmohijjpnebpaaGreatDoorMa15
import Derived.StillTailTactics
import Derived.Deep.RegionLaw
import Derived.Test.YtcmohijjpnebpaaGreatDoorMa8
import Derived.Test.YtcmohijjpnebpaaGreatDoorMa11
import Derived.Test.YtcmohijjpnebpaaGreatDoorMa13
import Derived.Deep.RegionHeld3
namespace Go.Proofs.YtcmohijjpnebpaaGreatDoor

open Go.RowKit Go.Shelf

theorem below_of_own {w w1 w2 : World} {q : Option Nat} (h : Below w.heap.size w w1) (h2 : w1.grownBy w2 q) (hq : ∀ g, q = some g → w.heap.size ≤ g) : Below w.heap.size w w2 := h.grown h2 h.size hq
theorem OwnG.base {α : Type} {enc : α → List Value} {T : TypeId} {k : Nat} {w : World} {b b' : Nat} {v : Value} {l : List α} (h : OwnG enc T k w b v l) (hb : b' ≤ b) : OwnG enc T k w b' v l := by
  refine ⟨h.1, ?_⟩
  rcases h.2 with hh | ⟨g, c, cur, e1, hbs, rest⟩
  · exact .inl hh
  · exact .inr ⟨g, c, cur, e1, by omega, rest⟩
theorem GTok.len5 (t : GTok) : t.cells.length = 5 := rfl
theorem elt_tok : Elt 42 47 5 48 := Elt.of (.agg #[.int .i64 0, .string ⟨#[]⟩, .int .u64 0, .int .i64 0, .int .i64 0]) Tryz.underlying42 (by kernel_rfl) rfl (by decide)
theorem GRow.lit {α : Type} {enc : α → List Value} {k : Nat} (hk : ∀ x, (enc x).length = k) (w : World) (T : TypeId) (xs : List α) (cs : Array Value) (hcs : cs.toList = gcells enc xs) (hm : xs.length ≤ maxLen) :
    GRow enc k (w.alloc (.cells cs T)) (w.alloc (.cells cs T)).heap.size (some ⟨w.heap.size, 0, none⟩) xs := by
  obtain ⟨A, cap, e, _, _, hr⟩ := (OwnG.lit (T := T) hk w w.heap.size xs cs hcs (Nat.le_refl _) hm).row hk
  cases e; exact hr
theorem gb_lit {p : Option Nat} {w w1 : World} (h : w.grownBy w1 p) (o : Obj) : w.grownBy (w1.alloc o) p :=
  ⟨h.os, h.tape, h.output, by have := h.size; simp; omega, fun k hk hne => (Below.heap_alloc w1 o k (by have := h.size; omega)).trans (h.block k hk hne)⟩
def TokB (n : Nat) (kd : Nat) (tx : List UInt8) (v : Nat) : Prop := (kd = 1 ∨ kd = 2 ∨ kd = 3 ∨ kd = 4) ∧ v < 18446744073709551616 ∧ tx.length ≤ n
theorem digits_lt {b s : Nat} {l : List UInt8} {v : Nat} (h : digits b s l = .val v) : v < 18446744073709551616 := by
  unfold digits at h
  split at h
  · cases h
  · split at h
    · injection h with h; omega
    · cases h
theorem num_lt {l : List UInt8} {v : Nat} (h : num l = .val v) : v < 18446744073709551616 := by
  unfold num at h
  simp only at h
  split at h
  · exact digits_lt h
  · split at h
    · cases h
    · exact digits_lt h
theorem first_tokB {l : List UInt8} {kd v n : Nat} {tx : List UInt8} (h : first l = .tok kd tx v n) : TokB l.length kd tx v := by
  cases l with
  | nil => cases h
  | cons c r =>
    unfold first at h
    simp only at h
    split at h
    · split at h
      · cases h
      · cases h
      · rename_i hv
        injection h with h1 h2 h3 h4
        subst h1 h2 h3
        exact ⟨.inr (.inl rfl), num_lt hv, by simp⟩
    · split at h
      · injection h with h1 h2 h3 h4
        subst h1 h2 h3
        exact ⟨.inl rfl, by omega, by rw [List.length_take]; omega⟩
      · split at h
        · unfold quoted at h
          split at h
          · injection h with h1 h2 h3 h4
            subst h1 h2 h3
            exact ⟨.inr (.inr (.inl rfl)), by omega, by rw [List.length_take]; simp; omega⟩
          · cases h
        · unfold marked at h
          split at h
          · injection h with h1 h2 h3 h4
            subst h1 h2 h3
            exact ⟨.inr (.inr (.inr rfl)), by omega, by rw [List.length_take]; omega⟩
          · split at h
            · injection h with h1 h2 h3 h4
              subst h1 h2 h3
              exact ⟨.inr (.inr (.inr rfl)), by omega, by rw [List.length_take]; omega⟩
            · cases h
theorem step_tokB {l : List UInt8} {kd v n : Nat} {tx : List UInt8} (h : step l = .tok kd tx v n) : TokB l.length kd tx v := by
  cases l with
  | nil => cases h
  | cons c r =>
    unfold step at h
    simp only at h
    split at h
    · cases h
    · split at h
      · cases h
      · exact first_tokB h
theorem lex_tokB : ∀ (l : List UInt8) (k : Nat) (p : Nat × Nat) (ts : List Tok), lex k p l = .ok ts → ∀ t ∈ ts, TokB l.length t.kind t.text t.value
  | [], k, p, ts, h => by
    rw [lex_nil] at h
    injection h with h
    subst h
    intro t ht
    cases ht
  | c :: r, k + 1, p, ts, h => by
    rw [lex] at h
    intro t ht
    obtain ⟨h1, h2, h3⟩ := lex_tokB r k _ ts h t ht
    exact ⟨h1, h2, by simp; omega⟩
  | c :: r, 0, p, ts, h => by
    rw [lex] at h
    cases hs : step (c :: r) with
    | skip n =>
      rw [hs] at h
      intro t ht
      obtain ⟨h1, h2, h3⟩ := lex_tokB r _ _ ts h t ht
      exact ⟨h1, h2, by simp; omega⟩
    | tok kd tx v n =>
      rw [hs] at h
      simp only at h
      cases hl : lex (n - 1) (adv1 p c) r with
      | ok us =>
        rw [hl] at h
        injection h with h
        subst h
        intro t ht
        rcases List.mem_cons.1 ht with rfl | ht
        · exact step_tokB hs
        · obtain ⟨h1, h2, h3⟩ := lex_tokB r _ _ us hl t ht
          exact ⟨h1, h2, by simp; omega⟩
      | no x y e => rw [hl] at h; cases h
    | err e => rw [hs] at h; cases h
theorem scan_tokB {l : List UInt8} {ts : List Tok} (h : scan l = .ok ts) : l.length ≤ 65536 ∧ ∀ t ∈ ts, TokW t.g := by
  unfold scan at h
  split at h
  · cases h
  · refine ⟨by omega, fun t ht => ?_⟩
    obtain ⟨h1, h2, h3⟩ := lex_tokB l 0 _ ts h t ht
    refine ⟨?_, ?_, ?_, ?_⟩
    · show (t.kind : Int) = 1 ∨ (t.kind : Int) = 2 ∨ (t.kind : Int) = 3 ∨ (t.kind : Int) = 4
      omega
    · show (0 : Int) ≤ (t.value : Int)
      omega
    · show (t.value : Int) ≤ 18446744073709551615
      omega
    · show t.text.length ≤ 65536
      omega
theorem first_err {l : List UInt8} {e : Nat} (h : first l = .err e) : e = 50 ∨ e = 6 := by
  cases l with
  | nil => injection h with h; omega
  | cons c r =>
    unfold first at h
    simp only at h
    split at h
    · split at h
      · injection h with h; omega
      · injection h with h; omega
      · cases h
    · split at h
      · cases h
      · split at h
        · unfold quoted at h
          split at h
          · cases h
          · injection h with h; omega
        · unfold marked at h
          split at h
          · cases h
          · split at h
            · cases h
            · injection h with h; omega
theorem lex_err : ∀ (l : List UInt8) (k : Nat) (p : Nat × Nat) (x y e : Nat), lex k p l = .no x y e → e = 50 ∨ e = 6
  | [], k, p, x, y, e, h => by rw [lex_nil] at h; cases h
  | c :: r, k + 1, p, x, y, e, h => by
    rw [lex] at h
    exact lex_err r k _ x y e h
  | c :: r, 0, p, x, y, e, h => by
    rw [lex] at h
    cases hs : step (c :: r) with
    | skip n => rw [hs] at h; exact lex_err r _ _ x y e h
    | tok kd tx v n =>
      rw [hs] at h
      simp only at h
      cases hl : lex (n - 1) (adv1 p c) r with
      | ok us => rw [hl] at h; cases h
      | no x' y' e' =>
        rw [hl] at h
        injection h with h1 h2 h3
        subst h3
        exact lex_err r _ _ x' y' e' hl
    | err e' =>
      rw [hs] at h
      injection h with h1 h2 h3
      subst h3
      unfold step at hs
      simp only at hs
      split at hs
      · cases hs
      · split at hs
        · cases hs
        · exact first_err hs
theorem scan_err {l : List UInt8} {x y e : Nat} (h : scan l = .no x y e) : e = 15 ∨ e = 50 ∨ e = 6 := by
  unfold scan at h
  split at h
  · injection h with h1 h2 h3; omega
  · exact .inr (lex_err l 0 _ x y e h)
/-- The token behind the last. -/
def endTok (l : List UInt8) : GTok := ⟨0, [], 0, (adv (1, 1) l).1, (adv (1, 1) l).2⟩
theorem ends_of : ∀ (gs : List GTok) (e : GTok), (∀ g ∈ gs, TokW g) → e.kind = 0 → e.text = [] → TEnds (gs ++ [e])
  | [], e, _, h1, h2 => ⟨h1, h2⟩
  | [g], e, h, h1, h2 => ⟨h g (by simp), h1, h2⟩
  | g :: g2 :: gs, e, h, h1, h2 => ⟨h g (by simp), ends_of (g2 :: gs) e (fun x hx => h x (List.mem_cons_of_mem _ hx)) h1 h2⟩
theorem scan_ends {l : List UInt8} {ts : List Tok} (h : scan l = .ok ts) : TEnds (ts.map Tok.g ++ [endTok l]) :=
  ends_of _ _ (fun g hg => by
    obtain ⟨t, ht, rfl⟩ := List.mem_map.1 hg
    exact (scan_tokB h).2 t ht) rfl rfl
theorem adv_end (l : List UInt8) : ∀ k, k ≤ l.length → ((adv (1, 1) (l.take k)).1 : Int) = 1 + ((l.take k).count 10 : Nat) ∧ ((adv (1, 1) (l.take k)).2 : Int) = k - Lib.lastIdx ⟨l.toArray⟩ 10 k
  | 0, _ => by simp [adv, Lib.lastIdx]
  | k + 1, hk => by
    obtain ⟨h1, h2⟩ := adv_end l k (by omega)
    have hlt : k < l.length := by omega
    rw [adv_step hlt, List.take_succ_eq_append_getElem hlt, List.count_append]
    have e2 : Lib.lastIdx ⟨l.toArray⟩ 10 (k + 1) = if ((l[k]).toNat : Int) = 10 then (k : Int) else Lib.lastIdx ⟨l.toArray⟩ 10 k := by
      show (if (((⟨l.toArray⟩ : ByteArray).data[k]!).toNat : Int) = 10 then (k : Int) else Lib.lastIdx ⟨l.toArray⟩ 10 k) = _
      have e3 : (⟨l.toArray⟩ : ByteArray).data[k]! = l[k] := by simp [hlt]
      rw [e3]
    rw [e2]
    generalize adv (1, 1) (l.take k) = q at *
    obtain ⟨x, y⟩ := q
    unfold adv1
    by_cases hc : l[k] = 10
    · have hn : ((l[k]).toNat : Int) = 10 := by rw [hc]; rfl
      rw [if_pos hc, if_pos hn, hc]
      simp at h1 h2 ⊢
      omega
    · have hn : ¬ ((l[k]).toNat : Int) = 10 := fun e => hc (UInt8.toNat_inj.1 (by show (l[k]).toNat = 10; omega))
      rw [if_neg hc, if_neg hn]
      have h0 : [l[k]].count 10 = 0 := by simp [hc]
      rw [h0]
      simp at h1 h2 ⊢
      omega
theorem lex_count : ∀ (l : List UInt8) (k : Nat) (p : Nat × Nat) (ts : List Tok), lex k p l = .ok ts → ts.length ≤ l.length
  | [], k, p, ts, h => by
    rw [lex_nil] at h
    injection h with h
    subst h
    simp
  | c :: r, k + 1, p, ts, h => by
    rw [lex] at h
    have := lex_count r k _ ts h
    simp; omega
  | c :: r, 0, p, ts, h => by
    rw [lex] at h
    cases hs : step (c :: r) with
    | skip n =>
      rw [hs] at h
      have := lex_count r _ _ ts h
      simp; omega
    | tok kd tx v n =>
      rw [hs] at h
      simp only at h
      cases hl : lex (n - 1) (adv1 p c) r with
      | ok us =>
        rw [hl] at h
        injection h with h
        subst h
        have := lex_count r _ _ us hl
        simp; omega
      | no x y e => rw [hl] at h; cases h
    | err e => rw [hs] at h; cases h
theorem scan_count {l : List UInt8} {ts : List Tok} (h : scan l = .ok ts) : ts.length ≤ 65536 := by
  have h0 := (scan_tokB h).1
  unfold scan at h
  rw [if_neg (by omega)] at h
  have := lex_count l 0 _ ts h
  omega
theorem endPos_any (l : List UInt8) (w : World) (hl : l.length ≤ 65536) :
    Calls Tryz.prog 44 #[.string ⟨l.toArray⟩] w fun e w' => e = .returned (.agg #[.int .i64 (endTok l).line, .int .i64 (endTok l).col]) ∧ Below w.heap.size w w' := by
  have hsz : (⟨l.toArray⟩ : ByteArray).size = l.length := ba_size l
  have H1 := Lib.hid (Tryz.strings_Count_one ⟨l.toArray⟩ 10)
  have H2 := Lib.hid (Tryz.strings_LastIndexByte ⟨l.toArray⟩ 10 (by rw [hsz]; omega))
  obtain ⟨a1, a2⟩ := adv_end l l.length (Nat.le_refl _)
  rw [List.take_length] at a1 a2
  have hbd := adv_bd l (1, 1) (by omega) (by omega)
  have e1 : (Lib.countByte (⟨l.toArray⟩ : ByteArray).data.toList 10 : Int) = (adv (1, 1) l).1 - 1 := by
    show ((l.count 10 : Nat) : Int) = _
    omega
  have e2 : Lib.lastIndexByte ⟨l.toArray⟩ 10 = (l.length : Int) - (adv (1, 1) l).2 := by
    unfold Lib.lastIndexByte
    rw [hsz]
    omega
  rw [e1] at H1
  rw [e2] at H2
  have HE : Hid (endTok l = ⟨0, [], 0, (adv (1, 1) l).1, (adv (1, 1) l).2⟩) := Lib.hid rfl
  clear a1 a2 e1 e2
  have hx : (adv (1, 1) l).1 ≤ 65537 := by simp at hbd; omega
  have hy : (adv (1, 1) l).2 ≤ 65537 := by simp at hbd; omega
  generalize (adv (1, 1) l).1 = x at *
  generalize (adv (1, 1) l).2 = y at *
  have w1 : wrap64 (1 + ((x : Int) - 1)) = x := by unfold wrap64; omega
  have w2 : wrap64 ((l.length : Int) - ((l.length : Int) - (y : Int))) = y := by unfold wrap64; omega
  generalize hc1 : (x : Int) - 1 = c1 at *
  generalize hc2 : (l.length : Int) - (y : Int) = c2 at *
  have W1 := Lib.hid w1
  have W2 := Lib.hid w2
  clear hc1 hc2 hbd w1 w2
  go_enter Tryz.func44, Tryz.ntmps44
  go_wp2_with fail
  refine (H1.out _).mono ?_
  rintro e w1 ⟨rfl, rfl⟩
  go_wp2_with fail
  refine (H2.out _).mono ?_
  rintro e w1 ⟨rfl, rfl⟩
  go_wp2
  have q1 : wrap64 (1 + c1) = x := W1.out
  have q2 : wrap64 ((l.length : Int) - c2) = y := W2.out
  exact bodyPost_ret (v := .agg #[.int .i64 (wrap64 (1 + c1)), .int .i64 (wrap64 ((l.length : Int) - c2))]) (by simp [results, Tryz.results44, go_sem]) rfl ⟨by rw [HE.out, q1, q2], bel_lit (Below.refl _ _) _⟩
end Go.Proofs.YtcmohijjpnebpaaGreatDoor


namespace Go.Proofs.YtcmohijjpnebpaaGreatDoor

open Go.RowKit

theorem step_gapp9 {S : TypeId} {ops : Array Oper} {o : Oper} {a : Act} {K : Act → World → Prop} {Q : Exit → Act → World → Prop} {E : Prop} {v y v' : Value} {W w' : World}
    (hrun : (Builtin.append_ #[S, S] S #[v, y]).run Tryz.prog W = .ok v' w') (hgd : o.guard = none) {s x : Operand}
    (ho : o.op = .call { callee := .builtin .append, args := #[s, x], argTypes := #[S, S] }) (hty : o.type = S) (hs : a.eval s = v) (hx : a.eval x = y)
    (h : K (a.put o.dst v') w') : if Region.wanted o (yielded ops a.tmps) = true then Oper.wp Tryz.prog o a W K Q else E := by
  have hw : Region.wanted o (yielded ops a.tmps) = true := by simp [Region.wanted, hgd]
  rw [if_pos hw]
  unfold Oper.wp execOp
  simp only [ho, hty, resolve, invoke, builtin, Sem.run_bind, Sem.run_pure, Result.andThen_ok, List.map_toArray, List.map_cons, List.map_nil, hs, hx, hrun]
  exact h
/-- A new list of open operands is stored. -/
theorem StX.setRefs {base p : Nat} {O : Nat → Prop} {w w3 : World} {s : ASt} {A : Option Addr} {c m : Nat} {pv ov nv : Value} {xs : List GRef} (h : StX base p O w s A c pv m ov) (hs : w.heap.size ≤ w3.heap.size)
    (hk : ∀ g, g < w.heap.size → ov.ownBlock ≠ some g → w3.heap[g]? = w.heap[g]?) (ho : OwnG GRef.cells 143 6 w3 base nv xs) (hob : ∀ g, nv.ownBlock = some g → ov.ownBlock = some g ∨ w.heap.size ≤ g) :
    St base p (fun g => O g ∨ nv.ownBlock = some g) (w3.setCell ⟨p, 3, none⟩ nv) { s with refs := xs } := by
  have hlt := h.lt
  have hml := h.mlt
  have hp3 : w3.heap[p]? = w.heap[p]? := hk p hlt.2 (fun e => h.hov.1 e)
  have hkp : ∀ g, g ≠ p → (w3.setCell ⟨p, 3, none⟩ nv).heap[g]? = w3.heap[g]? := fun g hg => Below.heap_setCell _ _ _ g hg
  have hno : ∀ g, O g → ov.ownBlock ≠ some g → nv.ownBlock ≠ some g := fun g hg hn e => by
    rcases hob g e with e2 | e2
    · exact hn e2
    · have := h.hi g hg; omega
  have hnp : nv.ownBlock ≠ some p := hno p h.op h.hov.1
  have hnm : nv.ownBlock ≠ some m := hno m h.om h.hov.2
  refine ⟨A, c, pv, m, nv, ?_⟩
  exact {
    lo := fun g hg => by rcases hg with h1 | h1; exact h.lo g h1; exact (ho.lt g h1).1
    hi := fun g hg => by
      rcases hg with h1 | h1
      · have := h.hi g h1; simp; omega
      · have := (ho.lt g h1).2; simpa using this
    bw := by have := h.bw; simp; omega
    op := .inl h.op
    om := .inl h.om
    opv := fun g hg => .inl (h.opv g hg)
    oov := fun g hg => .inr hg
    hmp := h.hmp
    hpv := h.hpv
    hov := ⟨hnp, hnm⟩
    hpo := fun g hg => hno g (h.opv g hg) (h.hpo g hg)
    hh := by rw [heap_set (hp3.trans h.hh)]; rfl
    hc := h.hc
    hm := h.hm
    ends := h.ends
    row := h.row.keep fun g hg => (hkp g (by omega)).trans (hk g (by have := h.bw; omega) (fun e => by have := h.lo g (h.oov g e); omega))
    prog := h.prog.keep fun g hg => (hkp g (fun e => h.hpv.1 (by rw [hg, e]))).trans (hk g (h.hi g (h.opv g hg)) (h.hpo g hg))
    refs := ho.keep fun g hg => hkp g (fun e => hnp (by rw [hg, e]))
    labs := h.labs.keep ((hkp m h.hmp).trans (hk m hml.2 h.hov.2)) }
/-- A new program is stored. -/
theorem StX.setProg {base p : Nat} {O : Nat → Prop} {w w3 : World} {s : ASt} {A : Option Addr} {c m : Nat} {pv ov nv : Value} {xs : List GIns} (h : StX base p O w s A c pv m ov) (hs : w.heap.size ≤ w3.heap.size)
    (hk : ∀ g, g < w.heap.size → pv.ownBlock ≠ some g → w3.heap[g]? = w.heap[g]?) (ho : OwnG GIns.cells 52 5 w3 base nv xs) (hob : ∀ g, nv.ownBlock = some g → pv.ownBlock = some g ∨ w.heap.size ≤ g) :
    St base p (fun g => O g ∨ nv.ownBlock = some g) (w3.setCell ⟨p, 1, none⟩ nv) { s with prog := xs } := by
  have hlt := h.lt
  have hml := h.mlt
  have hp3 : w3.heap[p]? = w.heap[p]? := hk p hlt.2 (fun e => h.hpv.1 e)
  have hkp : ∀ g, g ≠ p → (w3.setCell ⟨p, 1, none⟩ nv).heap[g]? = w3.heap[g]? := fun g hg => Below.heap_setCell _ _ _ g hg
  have hno : ∀ g, O g → pv.ownBlock ≠ some g → nv.ownBlock ≠ some g := fun g hg hn e => by
    rcases hob g e with e2 | e2
    · exact hn e2
    · have := h.hi g hg; omega
  have hnp : nv.ownBlock ≠ some p := hno p h.op h.hpv.1
  have hnm : nv.ownBlock ≠ some m := hno m h.om h.hpv.2
  refine ⟨A, c, nv, m, ov, ?_⟩
  exact {
    lo := fun g hg => by rcases hg with h1 | h1; exact h.lo g h1; exact (ho.lt g h1).1
    hi := fun g hg => by
      rcases hg with h1 | h1
      · have := h.hi g h1; simp; omega
      · have := (ho.lt g h1).2; simpa using this
    bw := by have := h.bw; simp; omega
    op := .inl h.op
    om := .inl h.om
    opv := fun g hg => .inr hg
    oov := fun g hg => .inl (h.oov g hg)
    hmp := h.hmp
    hpv := ⟨hnp, hnm⟩
    hov := h.hov
    hpo := fun g hg => fun e => hno g (h.oov g e) (fun e2 => h.hpo g e2 e) hg
    hh := by rw [heap_set (hp3.trans h.hh)]; rfl
    hc := h.hc
    hm := h.hm
    ends := h.ends
    row := h.row.keep fun g hg => (hkp g (by omega)).trans (hk g (by have := h.bw; omega) (fun e => by have := h.lo g (h.opv g e); omega))
    prog := ho.keep fun g hg => hkp g (fun e => hnp (by rw [hg, e]))
    refs := h.refs.keep fun g hg => (hkp g (fun e => h.hov.1 (by rw [hg, e]))).trans (hk g (h.hi g (h.oov g hg)) (fun e => h.hpo g e hg))
    labs := h.labs.keep ((hkp m h.hmp).trans (hk m hml.2 h.hpv.2)) }
theorem StX.small {base p : Nat} {O : Nat → Prop} {w : World} {s : ASt} {A : Option Addr} {c m : Nat} {pv ov : Value} (h : StX base p O w s A c pv m ov) : (∃ AP cP, pv = .slice AP s.prog.length cP) ∧ ∃ AO cO, ov = .slice AO s.refs.length cO := by
  obtain ⟨A1, c1, e1, _⟩ := h.prog.row GIns.len
  obtain ⟨A2, c2, e2, _⟩ := h.refs.row GRef.len
  exact ⟨⟨A1, c1, e1⟩, ⟨A2, c2, e2⟩⟩
set_option maxRecDepth 50000 in
set_option maxHeartbeats 1000000 in
theorem keep_any (base p : Nat) (O : Nat → Prop) (s : ASt) (t : GTok) (w : World) (h : St base p O w s) (hm : mu s ≤ 300000) :
    Calls Tryz.prog 160 #[.pointer (some ⟨p, 0, none⟩), t.tval] w fun e w' => e = .returned (.tuple #[]) ∧ ∃ O', St base p O' w' (aKeep t s) ∧ Fr w O w' O' := by
  have HS := Lib.hid h
  obtain ⟨A, c, pv, m, ov, hX⟩ := h
  have HX := Lib.hid hX
  obtain ⟨p0, p1, p2, p3, z0, z1, z2, z3⟩ := hX.cells
  obtain ⟨⟨AP, cP, hpv⟩, ⟨AO, cO, hov⟩⟩ := hX.small
  obtain ⟨hbp, hpw⟩ := hX.lt
  subst hpv hov
  have HSM : Hid (s.refs.length ≤ 300000) := Lib.hid (by unfold mu at hm; omega)
  have HMM := Lib.hid hm
  clear hX hm
  obtain ⟨tk, tt, tv, tl, tc⟩ := t
  simp only [GTok.tval] at *
  have HL : Hid (s.prog.length ≤ 300000) := Lib.hid (by have := HMM.out; unfold mu at this; omega)
  have hown := ((HX.out.refs.alloc (.cells #[.int .i64 tk, .string ⟨tt.toArray⟩, .int .u64 tv, .int .i64 tl, .int .i64 tc] 47)).next ((Below.refl _ _).drew)).alloc (.cells #[.int .i64 tk, .string ⟨tt.toArray⟩, .int .u64 tv, .int .i64 tl, .int .i64 tc, .int .i64 s.prog.length] 143)
  have hlit := GRow.lit GRef.len (w.alloc (.cells #[.int .i64 tk, .string ⟨tt.toArray⟩, .int .u64 tv, .int .i64 tl, .int .i64 tc] 47)).drew 143 [⟨⟨tk, tt, tv, tl, tc⟩, s.prog.length⟩] #[.int .i64 tk, .string ⟨tt.toArray⟩, .int .u64 tv, .int .i64 tl, .int .i64 tc, .int .i64 s.prog.length] rfl (by unfold maxLen; simp)
  obtain ⟨v', w3, hrun, hown3, hgr3, hob⟩ := OwnG.app elt_ref GRef.len GRef.one hown 1 hlit (by have := HX.out.bw; simp; omega) (by have := HSM.out; unfold maxLen; simp; omega) (by have := HSM.out; simp; omega)
  obtain ⟨A3, c3, hv3, _, _, _⟩ := hown3.row GRef.len
  have eN : (w.alloc (.cells #[.int .i64 tk, .string ⟨tt.toArray⟩, .int .u64 tv, .int .i64 tl, .int .i64 tc] 47)).drew.heap.size = w.heap.size + 1 := by simp
  have hk3 : w3.heap[p]? = w.heap[p]? := by
    rw [hgr3.block p (by simp; omega) (fun e => HX.out.hov.1 e.symm), Below.heap_alloc _ _ _ (by simp; omega)]
    exact Below.heap_alloc _ _ _ hpw
  have y3 : w3.cell? ⟨p, 3, none⟩ = some (.slice AO s.refs.length cO) := (World.cell?_of_block (a := ⟨p, 3, none⟩) hk3).trans p3
  have u3 : w3.frozen? ⟨p, 3, none⟩ = false := by
    have hh := hk3.trans HX.out.hh
    exact Lib.frozen_of_heap hh 3
  have hkk : ∀ g, g < w.heap.size → Value.ownBlock (.slice AO s.refs.length cO) ≠ some g → w3.heap[g]? = w.heap[g]? := fun g hg hn => by
    rw [hgr3.block g (by simp; omega) (fun e => hn e.symm), Below.heap_alloc _ _ _ (by simp; omega)]
    exact Below.heap_alloc _ _ _ hg
  have hoo : ∀ g, v'.ownBlock = some g → Value.ownBlock (.slice AO s.refs.length cO) = some g ∨ w.heap.size ≤ g := fun g hg => by
    rcases hob with e | e
    · exact .inl (e.symm.trans hg)
    · right; rw [hg] at e; injection e with e; simp at e; omega
  have hsz : w.heap.size ≤ w3.heap.size := by have := hgr3.size; simp at this; omega
  have hset := HX.out.setRefs hsz hkk hown3 hoo
  have hfr : Fr w O (w3.setCell ⟨p, 3, none⟩ v') (fun g => O g ∨ v'.ownBlock = some g) :=
    ⟨hgr3.os, hgr3.tape, hgr3.output, by simpa using hsz, fun g hg hO => (Below.heap_setCell _ _ _ g (fun e => by subst e; exact hO HX.out.op)).trans (hkk g hg (fun e => hO (HX.out.oov g e))), fun g hg => by
      rcases hg with h1 | h1
      · exact .inl h1
      · rcases hoo g h1 with h2 | h2
        · exact .inl (HX.out.oov g h2)
        · exact .inr h2⟩
  have HSET : Hid (St base p (fun g => O g ∨ v'.ownBlock = some g) (w3.setCell ⟨p, 3, none⟩ v') (aKeep ⟨tk, tt, tv, tl, tc⟩ s)) := Lib.hid hset
  have HFR := Lib.hid hfr
  clear hset hfr hkk hoo hsz
  have HRUN := Lib.hid hrun
  have HO3 := Lib.hid hown3
  have HG3 := Lib.hid hgr3
  have HOB := Lib.hid hob
  subst hv3
  rw [eN] at HRUN
  have hs3 := hgr3.size
  simp only [World.size_alloc] at hs3
  clear hown hlit hrun hown3 hgr3 hob hk3 eN
  have hll : (s.refs ++ [(⟨⟨tk, tt, tv, tl, tc⟩, s.prog.length⟩ : GRef)]).length = s.refs.length + 1 := by simp
  generalize (s.refs ++ [(⟨⟨tk, tt, tv, tl, tc⟩, s.prog.length⟩ : GRef)]).length = l3 at *
  simp only [List.length_singleton] at HRUN
  go_enter Tryz.func160, Tryz.ntmps160
  go_upto_region 1 with fail
  go_region_law (refine step_gapp9 HRUN.out rfl rfl rfl rfl rfl ?_)
  all_goals
    subst hll
    go_end0
    exact ⟨rfl, _, HSET.out, HFR.out⟩
end Go.Proofs.YtcmohijjpnebpaaGreatDoor


namespace Go.Proofs.YtcmohijjpnebpaaGreatDoor

open Go.RowKit

/-- A copy whose run is known by what it leaves, asx a step of a region that leaves its order open. -/
theorem step_copy_ex {ops : Array Oper} {o : Oper} {a : Act} {W : World} {K : Act → World → Prop} {Q : Exit → Act → World → Prop} {E : Prop} {v y : Value} {dT sT : TypeId} {R : World → Prop}
    (H : ∃ v' w', (Builtin.copy_ #[dT, sT] o.type #[v, y]).run Tryz.prog W = .ok v' w' ∧ R w') (hg : o.guard = none) {s x : Operand}
    (ho : o.op = .call { callee := .builtin .copy, args := #[s, x], argTypes := #[dT, sT] }) (hs : a.eval s = v) (hx : a.eval x = y) (hK : ∀ v' w', R w' → K (a.put o.dst v') w') :
    if Region.wanted o (yielded ops a.tmps) = true then Oper.wp Tryz.prog o a W K Q else E := by
  obtain ⟨v', w', hr, h2⟩ := H
  exact step_copy_run hr hg ho hs hx (hK _ _ h2)
theorem made_zeros (n : Nat) : madeCells (Value.int .u8 0).cells (n * 1) = (vals (zerosL n)).toArray := by
  show madeCells #[Value.int .u8 0] (n * 1) = _
  apply Array.ext
  · simp [madeCells, vals, zerosL]
  · intro i h1 h2
    simp [madeCells, vals, zerosL, Nat.mod_one]
theorem make_bytes (n : Nat) (hn : n ≤ 16777216) (W : World) : (Instr.makeSlice 23 (.int .i64 (n : Int)) (.int .i64 (n : Int))).run Tryz.prog W = .ok (.slice (some ⟨W.heap.size, 0, none⟩) n n) (W.alloc (.cells (vals (zerosL n)).toArray 5)) := by
  obtain ⟨i, hi, hz0, hz1, hz2⟩ := info_parts byte_info
  have h := run_make W 23 5 i _ Tryz.underlying23 hi hz0 .i64 .i64 (n : Int) (n : Int) (by omega) (by omega) (by rw [hz2]; omega) (by omega)
  rw [h, Int.toNat_natCast, hz1, made_zeros]
def b4 (x : GIns) : List UInt8 := [UInt8.ofNat x.op.toNat, UInt8.ofNat x.a.toNat, UInt8.ofNat x.b.toNat, UInt8.ofNat x.c.toNat]
def u32N (v : Int) : Nat := (v % 4294967296).toNat
def encB (x : GIns) : List UInt8 := b4 x ++ leB (u32N x.imm) 4
def encL (xs : List GIns) : List UInt8 := xs.flatMap encB
theorem length_encB (x : GIns) : (encB x).length = 8 := by unfold encB b4; simp [length_leB]
theorem length_encL (xs : List GIns) : (encL xs).length = 8 * xs.length := by
  induction xs with
  | nil => rfl
  | cons x r ih => show (encB x ++ encL r).length = _; rw [List.length_append, ih, length_encB, List.length_cons]; omega
theorem encL_snoc (xs : List GIns) (x : GIns) : encL (xs ++ [x]) = encL xs ++ encB x := by simp [encL]
theorem zerosL_split (a b : Nat) : zerosL (a + b) = zerosL a ++ zerosL b := by simp [zerosL, List.replicate_append_replicate]
theorem encL_first {xs : List GIns} {x : GIns} {k m : Nat} (hk : xs.length = k) : patch (encL xs ++ zerosL (8 * (m + 1))) (8 * k) (b4 x) = encL xs ++ (b4 x ++ zerosL (4 + 8 * m)) := by
  rw [show 8 * (m + 1) = 4 + (4 + 8 * m) by omega, zerosL_split]
  exact patch_mid (by rw [length_encL, hk]) rfl
theorem encL_second {xs : List GIns} {x : GIns} {k m : Nat} (hk : xs.length = k) : patch (encL xs ++ (b4 x ++ zerosL (4 + 8 * m))) (8 * k + 4) (leB (u32N x.imm) 4) = encL (xs ++ [x]) ++ zerosL (8 * m) := by
  rw [zerosL_split, ← List.append_assoc]
  rw [patch_mid (by rw [List.length_append, length_encL, hk]; rfl) (by rw [length_leB]; simp [zerosL])]
  rw [encL_snoc]
  simp [encB]
/-- The numbers of an instruction that fit into bytes. -/
structure ByteOk (x : GIns) : Prop where
  op : 0 ≤ x.op ∧ x.op < 256
  a : 0 ≤ x.a ∧ x.a < 256
  b : 0 ≤ x.b ∧ x.b < 256
  c : 0 ≤ x.c ∧ x.c < 256
theorem byte_ok {v : Int} (h : 0 ≤ v ∧ v < 256) : IntKind.u8.wrap v = v ∧ ((UInt8.ofNat v.toNat).toNat : Int) = v := by
  refine ⟨?_, ?_⟩
  · show v % 256 = v; omega
  · rw [UInt8.toNat_ofNat']; omega
theorem chkI_zero {x : GIns} {n : Nat} (h : chkI x n = 0) : ByteOk x := by
  unfold chkI at h
  by_cases h0 : x.op < 0 ∨ 28 ≤ x.op
  · rw [if_pos h0] at h; omega
  · rw [if_neg h0] at h
    unfold chkF at h
    generalize (fmtN x.op.toNat).2.1 = f at h
    by_cases h1 : (regB f 0 x.a && regB f 1 x.b && regB f 2 x.c) = false
    · rw [if_pos h1] at h; omega
    · have h2 : (regB f 0 x.a && regB f 1 x.b && regB f 2 x.c) = true := by
        cases hq : (regB f 0 x.a && regB f 1 x.b && regB f 2 x.c)
        · exact absurd hq h1
        · rfl
      simp only [regB, Bool.and_eq_true, decide_eq_true_eq] at h2
      obtain ⟨⟨⟨⟨a1, a2⟩, _⟩, ⟨⟨b1, b2⟩, _⟩⟩, ⟨⟨c1, c2⟩, _⟩⟩ := h2
      exact ⟨by omega, by omega, by omega, by omega⟩
theorem valL_zero {n : Nat} : ∀ {xs : List GIns}, valL n xs = 0 → ∀ x ∈ xs, chkI x n = 0
  | [], _, x, hx => absurd hx (by simp)
  | y :: r, h, x, hx => by
    rw [valL] at h
    by_cases h0 : chkI y n ≠ 0
    · rw [if_pos h0] at h; exact absurd h h0
    · rw [if_neg h0] at h
      rcases List.mem_cons.1 hx with h1 | h1
      · subst h1; omega
      · exact valL_zero h x h1
def EncEnd (ps : List GIns) (w : World) (e : Ending) (w' : World) : Prop :=
  Below w.heap.size w w' ∧ if valP ps = 0 then ∃ g, e = .returned (.tuple #[.slice (some ⟨g, 0, none⟩) (8 * ps.length : Nat) (8 * ps.length), .int .i64 0]) ∧ w.heap.size ≤ g ∧ Buf w' g (encL ps) else e = .returned (.tuple #[.slice none 0 0, .int .i64 (valP ps)])
set_option maxRecDepth 50000 in
set_option maxHeartbeats 8000000 in
theorem encode_any (ps : List GIns) (A : Option Addr) (c : Nat) (w : World) (hG : GlobF w) (h : GRow GIns.cells 5 w w.heap.size A ps) (hi : ∀ x ∈ ps, ImmOk x) :
    Calls Tryz.prog 11 #[.slice A ps.length c] w (EncEnd ps w) := by
  have HV := Lib.hid (validate_any ps A c w hG h hi)
  have HD : Hid (∀ e w', EncEnd ps w e w' ↔ (Below w.heap.size w w' ∧ if valP ps = 0 then ∃ g, e = .returned (.tuple #[.slice (some ⟨g, 0, none⟩) (8 * ps.length : Nat) (8 * ps.length), .int .i64 0]) ∧ w.heap.size ≤ g ∧ Buf w' g (encL ps) else e = .returned (.tuple #[.slice none 0 0, .int .i64 (valP ps)]))) := Lib.hid fun _ _ => Iff.rfl
  by_cases hv : valP ps = 0
  · have hn4 : ps.length ≤ 4096 ∧ 1 ≤ ps.length ∧ valL ps.length ps = 0 := by
      unfold valP at hv
      by_cases h0 : ps.length = 0 ∨ 4096 < ps.length
      · rw [if_pos h0] at hv; omega
      · rw [if_neg h0] at hv; exact ⟨by omega, by omega, hv⟩
    obtain ⟨hn1, hn0, hvl⟩ := hn4
    have HB := Lib.hid fun x hx => chkI_zero (valL_zero hvl x hx)
    have HI := Lib.hid hi
    have HRW := Lib.hid h
    rw [hv] at HV
    have HEND : Hid (∀ g w', Below w.heap.size w w' → w.heap.size ≤ g → Buf w' g (encL ps) → EncEnd ps w (.returned (.tuple #[.slice (some ⟨g, 0, none⟩) (8 * ps.length : Nat) (8 * ps.length), .int .i64 0])) w') := Lib.hid fun g w' hb hg hbf => (HD.out _ _).2 ⟨hb, by rw [if_pos hv]; exact ⟨g, rfl, hg, hbf⟩⟩
    generalize EncEnd ps w = EE at *
    clear hG h hi hv HD hvl
    have hmk := fun W => make_bytes (8 * ps.length) (by omega) W
    have hEi : ((8 * ps.length : Nat) : Int) = 8 * (ps.length : Int) := by omega
    rw [hEi] at hmk
    go_enter Tryz.func11, Tryz.ntmps11
    go_wp2_with fail
    go_fit HV.out
    rintro e w1 ⟨rfl, hb1⟩
    have HB1 := Lib.hid hb1
    clear hb1
    have HBF0 : Hid (Buf (w1.alloc (.cells (vals (zerosL (8 * ps.length))).toArray 5)) w1.heap.size (encL (ps.take 0) ++ zerosL (8 * (ps.length - 0)))) := Lib.hid (heap_alloc_new w1 _)
    have HFR0 : Hid (w1.grownBy (w1.alloc (.cells (vals (zerosL (8 * ps.length))).toArray 5)) (some w1.heap.size)) := Lib.hid (World.grownBy_alloc w1 _ _)
    have hg0 : w.heap.size ≤ w1.heap.size := HB1.out.size
    have HW1 := Lib.hid (HRW.out.next HB1.out)
    clear HRW
    generalize hgg : w1.heap.size = g at *
    go_wp2
    clear hmk hEi
    go_loopw [20] (fun vi wr => ∃ k : Nat, vi = .int .i64 k ∧ k ≤ ps.length ∧ Hid (Buf wr g (encL (ps.take k) ++ zerosL (8 * (ps.length - k)))) ∧ Hid (w1.grownBy wr (some g))) (fun vi _ => ps.length - (intOf vi).toNat)
    case atStart => exact ⟨0, rfl, by omega, HBF0, HFR0⟩
    case round =>
      obtain ⟨k, rfl, hk, HBF, HFR⟩ := hrel
      clear HBF0 HFR0
      rcases Nat.lt_or_ge k ps.length with hlt | hge
      · have f0 : decide ((k : Int) < ps.length) = true := by simp; omega
        have hgw : g < wr.heap.size := HBF.out.lt
        obtain ⟨b, off, rfl, hb, x0, x1, x2, x3, x4⟩ := (HW1.out.keep (w' := wr) (fun b hb => HFR.out.block b (by omega) (by intro e; cases e; omega))).ins hlt
        have HBO := Lib.hid (HB.out _ (List.getElem_mem hlt))
        have HIO := Lib.hid (HI.out _ (List.getElem_mem hlt))
        have HTK : Hid (ps.take (k + 1) = ps.take k ++ [ps[k]]) := Lib.hid (List.take_succ_eq_append_getElem hlt)
        have HLN : Hid ((ps.take k).length = k) := Lib.hid (by rw [List.length_take]; omega)
        obtain ⟨m, hm⟩ : ∃ m, ps.length - k = m + 1 := ⟨ps.length - k - 1, by omega⟩
        have hm2 : ps.length - (k + 1) = m := by omega
        rw [hm] at HBF
        generalize ps[k] = x at *
        have HE1 := Lib.hid (encL_first (x := x) (m := m) HLN.out)
        have HE2 := Lib.hid (encL_second (x := x) (m := m) HLN.out)
        rw [← HTK.out] at HE2
        generalize ps.take k = pk at *
        obtain ⟨xo, xa, xb, xc, xi⟩ := x
        simp only at x0 x1 x2 x3 x4
        have hbw : b < wr.heap.size := by omega
        have hk8 : wrap64 (8 * (k : Int)) = 8 * (k : Int) := IntWalk.wrap64_in _ (by omega)
        have hk8' : IntKind.i64.wrap (8 * (k : Int)) = 8 * (k : Int) := IntWalk.i64_in _ (by omega)
        have hcut2 : ∀ W : World, (Instr.sliceAt 23 (.slice (some ⟨g, 0, none⟩) (8 * ps.length) (8 * ps.length)) (some (.int .i64 (8 * (k : Int)))) none none).run Tryz.prog W = .ok (.slice (some ⟨g, 8 * k, none⟩) (8 * ps.length - 8 * k) (8 * ps.length - 8 * k)) W := fun W => by
          have h := cut_from (some ⟨g, 0, none⟩) (8 * ps.length) (8 * ps.length) (8 * k) (by omega) W
          rw [cutA_at g 0 _ _ (by omega), Nat.zero_add, show ((8 * k : Nat) : Int) = 8 * (k : Int) by omega] at h
          exact h
        have hcut : ∀ W : World, (Instr.slice 23 (.slice (some ⟨g, 0, none⟩) (8 * ps.length) (8 * ps.length)) (some (.int .i64 (8 * (k : Int)))) none none).run Tryz.prog W = .ok (.slice (some ⟨g, 8 * k, none⟩) (8 * ps.length - 8 * k) (8 * ps.length - 8 * k)) W := fun W => by
          have h := hcut2 W
          rw [run_sliceAt_slice _ _ _ _ _ _ byte_elem] at h
          exact h
        obtain ⟨v0, e0⟩ := byte_ok HBO.out.op
        obtain ⟨v1, e1⟩ := byte_ok HBO.out.a
        obtain ⟨v2, e2⟩ := byte_ok HBO.out.b
        obtain ⟨v3, e3⟩ := byte_ok HBO.out.c
        simp only at v0 v1 v2 v3 e0 e1 e2 e3
        have hbytes : vals (b4 ⟨xo, xa, xb, xc, xi⟩) = [.int .u8 xo, .int .u8 xa, .int .u8 xb, .int .u8 xc] := by
          show [Value.int .u8 _, Value.int .u8 _, Value.int .u8 _, Value.int .u8 _] = _
          simp only [e0, e1, e2, e3]
        have hW1 : w1.grownBy ((wr.alloc (.cells #[.int .i64 xo, .int .i64 xa, .int .i64 xb, .int .i64 xc, .int .i32 xi] 52)).drew.alloc (.cells #[.int .u8 xo, .int .u8 xa, .int .u8 xb, .int .u8 xc] 5)) (some g) := gb_trans (gb_trans HFR.out (gb_bel (((Below.refl _ wr).alloc (Nat.le_refl _) _).drew))) (World.grownBy_alloc _ _ _)
        have hbf2 : Buf ((wr.alloc (.cells #[.int .i64 xo, .int .i64 xa, .int .i64 xb, .int .i64 xc, .int .i32 xi] 52)).drew.alloc (.cells #[.int .u8 xo, .int .u8 xa, .int .u8 xb, .int .u8 xc] 5)) g (encL pk ++ zerosL (8 * (m + 1))) := by
          have h1 : Buf (wr.alloc (.cells #[.int .i64 xo, .int .i64 xa, .int .i64 xb, .int .i64 xc, .int .i32 xi] 52)) g (encL pk ++ zerosL (8 * (m + 1))) := HBF.out.below ((Below.refl _ wr).alloc (Nat.le_refl _) _)
          have h2 : Buf (wr.alloc (.cells #[.int .i64 xo, .int .i64 xa, .int .i64 xb, .int .i64 xc, .int .i32 xi] 52)).drew g (encL pk ++ zerosL (8 * (m + 1))) := h1
          exact h2.below ((Below.refl _ _).alloc (Nat.le_refl _) _)
        have hrow2 : Byt ((wr.alloc (.cells #[.int .i64 xo, .int .i64 xa, .int .i64 xb, .int .i64 xc, .int .i32 xi] 52)).drew.alloc (.cells #[.int .u8 xo, .int .u8 xa, .int .u8 xb, .int .u8 xc] 5)) (wr.heap.size + 1 + 1) (some ⟨wr.heap.size + 1, 0, none⟩) 4 (b4 ⟨xo, xa, xb, xc, xi⟩) := by
          have hr : RowAt ((wr.alloc (.cells #[.int .i64 xo, .int .i64 xa, .int .i64 xb, .int .i64 xc, .int .i32 xi] 52)).drew.alloc (.cells #[.int .u8 xo, .int .u8 xa, .int .u8 xb, .int .u8 xc] 5)) (wr.alloc (.cells #[.int .i64 xo, .int .i64 xa, .int .i64 xb, .int .i64 xc, .int .i32 xi] 52)).drew.heap.size (vals (b4 ⟨xo, xa, xb, xc, xi⟩)) := by
            unfold RowAt; rw [hbytes]; exact heap_alloc_new _ _
          have es : (wr.alloc (.cells #[.int .i64 xo, .int .i64 xa, .int .i64 xb, .int .i64 xc, .int .i32 xi] 52)).drew.heap.size = wr.heap.size + 1 := by simp
          rw [es] at hr
          exact hr.byt
        have hcp := hbf2.copy (o := 8 * k) (dLen := 8 * ps.length - 8 * k) (8 * ps.length - 8 * k) 4 hrow2 (D := some ⟨g, 8 * k, none⟩) (fun _ => rfl) (by rw [Nat.min_eq_left (by omega), List.length_append, length_encL, HLN.out]; simp [zerosL]; omega) 3
        rw [Nat.min_eq_left (by omega : 4 ≤ 8 * ps.length - 8 * k), List.take_of_length_le (by exact Nat.le_refl 4), HE1.out] at hcp
        have HCP := Lib.hid hcp
        have HB3 : Hid (Buf (bufW ((wr.alloc (.cells #[.int .i64 xo, .int .i64 xa, .int .i64 xb, .int .i64 xc, .int .i32 xi] 52)).alloc (.cells #[.int .u8 xo, .int .u8 xa, .int .u8 xb, .int .u8 xc] 5)).drew g (encL pk ++ (b4 ⟨xo, xa, xb, xc, xi⟩ ++ zerosL (4 + 8 * m)))) g (encL pk ++ (b4 ⟨xo, xa, xb, xc, xi⟩ ++ zerosL (4 + 8 * m)))) := Lib.hid (hbf2.set (encL pk ++ (b4 ⟨xo, xa, xb, xc, xi⟩ ++ zerosL (4 + 8 * m))))
        have HG3 : Hid (w1.grownBy (bufW ((wr.alloc (.cells #[.int .i64 xo, .int .i64 xa, .int .i64 xb, .int .i64 xc, .int .i32 xi] 52)).alloc (.cells #[.int .u8 xo, .int .u8 xa, .int .u8 xb, .int .u8 xc] 5)).drew g (encL pk ++ (b4 ⟨xo, xa, xb, xc, xi⟩ ++ zerosL (4 + 8 * m)))) (some g)) := Lib.hid (gb_trans hW1 (bufW_gb _ g (encL pk ++ (b4 ⟨xo, xa, xb, xc, xi⟩ ++ zerosL (4 + 8 * m)))))
        have hx3 : (bufW ((wr.alloc (.cells #[.int .i64 xo, .int .i64 xa, .int .i64 xb, .int .i64 xc, .int .i32 xi] 52)).drew.alloc (.cells #[.int .u8 xo, .int .u8 xa, .int .u8 xb, .int .u8 xc] 5)) g (encL pk ++ (b4 ⟨xo, xa, xb, xc, xi⟩ ++ zerosL (4 + 8 * m)))).cell? ⟨wr.heap.size, 4, none⟩ = some (.int .i32 xi) := by
          refine (World.cell?_of_block (a := ⟨wr.heap.size, 4, none⟩) ((bufW_gb _ _ _).block _ (by simp; omega) (fun e => by have h9 := Option.some.inj e; simp only at h9; omega))).trans ?_
          refine (World.cell?_of_block (a := ⟨wr.heap.size, 4, none⟩) (Below.heap_alloc _ _ _ (by simp))).trans ?_
          exact World.cell?_alloc_new _ _ _ _
        have HX3 : Hid ((bufW ((wr.alloc (.cells #[.int .i64 xo, .int .i64 xa, .int .i64 xb, .int .i64 xc, .int .i32 xi] 52)).alloc (.cells #[.int .u8 xo, .int .u8 xa, .int .u8 xb, .int .u8 xc] 5)).drew g (encL pk ++ (b4 ⟨xo, xa, xb, xc, xi⟩ ++ zerosL (4 + 8 * m)))).cell? ⟨wr.heap.size, 4, none⟩ = some (.int .i32 xi)) := Lib.hid hx3
        clear hW1 hbf2 hrow2 hcp hx3
        go_upto_region 9 with fail
        go_region_law (refine step_copy_run HCP.out rfl rfl rfl rfl ?_)
        all_goals
          generalize bufW ((wr.alloc (.cells #[.int .i64 xo, .int .i64 xa, .int .i64 xb, .int .i64 xc, .int .i32 xi] 52)).alloc (.cells #[.int .u8 xo, .int .u8 xa, .int .u8 xb, .int .u8 xc] 5)).drew g (encL pk ++ (b4 ⟨xo, xa, xb, xc, xi⟩ ++ zerosL (4 + 8 * m))) = w3 at *
          have HXS : Hid (∀ W W' : World, (w3.grownBy W (some g) ∧ W.cell? ⟨wr.heap.size, 4, none⟩ = some (.int .i32 xi)) → W.grownBy W' (some g) → (w3.grownBy W' (some g) ∧ W'.cell? ⟨wr.heap.size, 4, none⟩ = some (.int .i32 xi))) := Lib.hid fun W W' h hb => by
            have hb2 := hb.block wr.heap.size (World.block_lt_of_cell? W _ h.2) (fun e => by have h9 := Option.some.inj e; omega)
            exact ⟨gb_trans h.1 hb, (World.cell?_of_block (a := ⟨wr.heap.size, 4, none⟩) hb2).trans h.2⟩
          generalize hX : wr.heap.size = X at *
          have hcut3 : ∀ W : World, (Instr.sliceAt 23 (.slice (some ⟨g, 0, none⟩) (8 * ps.length) (8 * ps.length)) (some (.int .i64 (8 * (k : Int) + 4))) none none).run Tryz.prog W = .ok (.slice (some ⟨g, 8 * k + 4, none⟩) (8 * ps.length - (8 * k + 4)) (8 * ps.length - (8 * k + 4))) W := fun W => by
            have h := cut_from (some ⟨g, 0, none⟩) (8 * ps.length) (8 * ps.length) (8 * k + 4) (by omega) W
            rw [cutA_at g 0 _ _ (by omega), Nat.zero_add, show ((8 * k + 4 : Nat) : Int) = 8 * (k : Int) + 4 by omega] at h
            exact h
          have hcut4 : ∀ W : World, (Instr.slice 23 (.slice (some ⟨g, 0, none⟩) (8 * ps.length) (8 * ps.length)) (some (.int .i64 (8 * (k : Int) + 4))) none none).run Tryz.prog W = .ok (.slice (some ⟨g, 8 * k + 4, none⟩) (8 * ps.length - (8 * k + 4)) (8 * ps.length - (8 * k + 4))) W := fun W => by
            have h := hcut3 W
            rw [run_sliceAt_slice _ _ _ _ _ _ byte_elem] at h
            exact h
          have hk84 : wrap64 (8 * (k : Int) + 4) = 8 * (k : Int) + 4 := IntWalk.wrap64_in _ (by omega)
          have hk84' : IntKind.i64.wrap (8 * (k : Int) + 4) = 8 * (k : Int) + 4 := IntWalk.i64_in _ (by omega)
          have hu32 : IntKind.u32.wrap xi = (u32N xi : Int) := by
            show xi % 4294967296 = _
            unfold u32N; omega
          have hu4 : u32N xi < 4294967296 := by unfold u32N; omega
          have HAP := Lib.hid fun W => app32_any none 0 0 0 (u32N xi) [] W Byt.nil (Nat.zero_le _) (by omega) hu4
          have HCQ : Hid (∀ W ty g5, Buf W g (encL pk ++ (b4 ⟨xo, xa, xb, xc, xi⟩ ++ zerosL (4 + 8 * m))) → RowAt W g5 (vals ([] ++ leB (u32N xi) 4)) → ∃ v' w', (Builtin.copy_ #[23, 23] ty #[.slice (some ⟨g, 8 * k + 4, none⟩) (8 * ps.length - (8 * k + 4)) (8 * ps.length - (8 * k + 4)), .slice (some ⟨g5, 0, none⟩) 4 4]).run Tryz.prog W = .ok v' w' ∧ (Buf w' g (encL (ps.take (k + 1)) ++ zerosL (8 * m)) ∧ W.grownBy w' (some g))) := Lib.hid fun W ty g5 hbf hrow => by
            have hr4 := hrow.byt
            rw [List.nil_append, length_leB] at hr4
            have h := hbf.copy (o := 8 * k + 4) (dLen := 8 * ps.length - (8 * k + 4)) (8 * ps.length - (8 * k + 4)) 4 hr4 (D := some ⟨g, 8 * k + 4, none⟩) (fun _ => rfl) (by rw [Nat.min_eq_left (by omega), List.length_append, length_encL, HLN.out]; simp [zerosL, b4]; omega) ty
            rw [Nat.min_eq_left (by omega : 4 ≤ 8 * ps.length - (8 * k + 4)), List.take_of_length_le (by rw [length_leB]; exact Nat.le_refl 4), HE2.out] at h
            exact ⟨_, _, h, hbf.set _, bufW_gb _ _ _⟩
          generalize u32N xi = uv at *
          have hS3 : w3.grownBy w3.drew (some g) ∧ w3.drew.cell? ⟨X, 4, none⟩ = some (.int .i32 xi) := ⟨gb_bel ((Below.refl _ _).drew), HX3.out⟩
          have hB3 : Buf w3.drew g (encL pk ++ (b4 ⟨xo, xa, xb, xc, xi⟩ ++ zerosL (4 + 8 * m))) := HB3.out
          clear hcut hcut2 v0 v1 v2 v3 e0 e1 e2 e3 hbytes x0 x1 x2 x3 x4
          go_upto_region 10 with fail
          go_region_held3 (fun W => w3.grownBy W (some g) ∧ W.cell? ⟨X, 4, none⟩ = some (.int .i32 xi))
            (assumption)
            (first
              | (go_at_call 28; go_fit (HAP.out _); rintro e w5 ⟨g5, rfl, hg5, hr5, hb5⟩; have hSn := HXS.out _ _ (by assumption) (gb_bel hb5); have hB5 := Buf.below (by assumption) hb5)
              | (refine step_copy_ex (HCQ.out _ _ _ (by assumption) (by assumption)) rfl rfl rfl rfl ?_; rintro v8 w8 ⟨hb8, hg8⟩; have hS8 := HXS.out _ _ (by assumption) hg8))
          all_goals
            have HB8 : Hid (Buf w8 g (encL (ps.take (k + 1)) ++ zerosL (8 * (ps.length - (k + 1))))) := Lib.hid (by rw [hm2]; exact hb8)
            have HG8 := Lib.hid (gb_trans HG3.out hS8.1)
            clear hb8 hg8 hS8 hcut3 hcut4 hm hm2
            go_wp2
            go_round
            case rel => exact ⟨k + 1, by go_num, by omega, HB8, HG8⟩
            case measure => simp [intOf]; omega
      · have f0 : decide ((k : Int) < ps.length) = false := by simp; omega
        have hkn : k = ps.length := by omega
        have HF := Lib.hid HBF.out
        rw [hkn, List.take_length, Nat.sub_self] at HF
        have HEN := Lib.hid (HEND.out g wr (bel_gb HB1.out hg0 HFR.out) (by omega) (by have := HF.out; simpa [zerosL] using this))
        go_wp2
        exact HEN.out
  · have HE : Hid (∀ w', Below w.heap.size w w' → EncEnd ps w (.returned (.tuple #[.slice none 0 0, .int .i64 (valP ps)])) w') := Lib.hid fun w' hb => (HD.out _ _).2 ⟨hb, by rw [if_neg hv]⟩
    generalize valP ps = ev at *
    have f1 : (ev != 0) = true := by simp [hv]
    clear hG h hi HD
    generalize EncEnd ps w = EE at *
    go_enter Tryz.func11, Tryz.ntmps11
    go_wp2_with fail
    go_fit HV.out
    rintro e w1 ⟨rfl, hb1⟩
    have HB1 := Lib.hid hb1
    clear hb1
    go_wp2
    exact HE.out _ HB1.out
end Go.Proofs.YtcmohijjpnebpaaGreatDoor
