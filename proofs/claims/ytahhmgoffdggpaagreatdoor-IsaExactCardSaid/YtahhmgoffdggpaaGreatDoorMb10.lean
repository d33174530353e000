/-
  What the scanner's tokens are; where a text ends; the tokens of a text with one of kind 0 behind them.
  Conditions: the text has at most 65536 bytes.
  The assembler's methods keep, register, labelUse, target and immediate.
  Conditions: the tokens end with one of kind 0; the lists are short.
  The assembler's methods register and labelUse.
  Conditions: the tokens end with one of kind 0; the lists are short.
-/
import Derived.Test.YtahhmgoffdggpaaGreatDoorMb8
import Derived.Test.YtahhmgoffdggpaaGreatDoorMb6
import Derived.Test.YtahhmgoffdggpaaGreatDoorMb7
import Derived.Test.YtahhmgoffdggpaaGreatDoorMb9
import Derived.StillTailTactics
import Derived.Deep.RegionLaw
namespace Go.Proofs.YtahhmgoffdggpaaGreatDoor

open Go.RowKit Go.Shelf

theorem below_of_own {w w1 w2 : World} {q : Option Nat} (h : Below w.heap.size w w1) (h2 : w1.grownBy w2 q) (hq : ∀ g, q = some g → w.heap.size ≤ g) : Below w.heap.size w w2 := h.grown h2 h.size hq
theorem OwnG.base {α : Type} {enc : α → List Value} {T : TypeId} {k : Nat} {w : World} {b b' : Nat} {v : Value} {l : List α} (h : OwnG enc T k w b v l) (hb : b' ≤ b) : OwnG enc T k w b' v l := by
  refine ⟨h.1, ?_⟩
  rcases h.2 with hh | ⟨g, c, cur, e1, hbs, rest⟩
  · exact .inl hh
  · exact .inr ⟨g, c, cur, e1, by omega, rest⟩
theorem GTok.len5 (t : GTok) : t.cells.length = 5 := rfl
theorem elt_tok : Elt 74 80 5 48 := Elt.of (.agg #[.int .i64 0, .string ⟨#[]⟩, .int .u64 0, .int .i64 0, .int .i64 0]) Tryz.underlying74 (by kernel_rfl) rfl (by decide)
theorem GRow.lit {α : Type} {enc : α → List Value} {k : Nat} (hk : ∀ x, (enc x).length = k) (w : World) (T : TypeId) (xs : List α) (cs : Array Value) (hcs : cs.toList = gcells enc xs) (hm : xs.length ≤ maxLen) :
    GRow enc k (w.alloc (.cells cs T)) (w.alloc (.cells cs T)).heap.size (some ⟨w.heap.size, 0, none⟩) xs := by
  obtain ⟨A, cap, e, _, _, hr⟩ := (OwnG.lit (T := T) hk w w.heap.size xs cs hcs (Nat.le_refl _) hm).row hk
  cases e; exact hr
theorem gb_lit {p : Option Nat} {w w1 : World} (h : w.grownBy w1 p) (o : Obj) : w.grownBy (w1.alloc o) p :=
  ⟨h.os, h.tape, h.output, by have := h.size; simp; omega, fun k hk hne => (Below.heap_alloc w1 o k (by have := h.size; omega)).trans (h.block k hk hne)⟩
def TokB (n : Nat) (kd : Nat) (tx : List UInt8) (v : Nat) : Prop := (kd = 1 ∨ kd = 2 ∨ kd = 3 ∨ kd = 4) ∧ v < 18446744073709551616 ∧ tx.length ≤ n
theorem digits_lt {b s : Nat} {l : List UInt8} {v : Nat} (h : digits b s l = .val v) : v < 18446744073709551616 := by
  unfold digits at h
  split at h
  · cases h
  · split at h
    · injection h with h; omega
    · cases h
theorem num_lt {l : List UInt8} {v : Nat} (h : num l = .val v) : v < 18446744073709551616 := by
  unfold num at h
  simp only at h
  split at h
  · exact digits_lt h
  · split at h
    · cases h
    · exact digits_lt h
theorem first_tokB {l : List UInt8} {kd v n : Nat} {tx : List UInt8} (h : first l = .tok kd tx v n) : TokB l.length kd tx v := by
  cases l with
  | nil => cases h
  | cons c r =>
    unfold first at h
    simp only at h
    split at h
    · split at h
      · cases h
      · cases h
      · rename_i hv
        injection h with h1 h2 h3 h4
        subst h1 h2 h3
        exact ⟨.inr (.inl rfl), num_lt hv, by simp⟩
    · split at h
      · injection h with h1 h2 h3 h4
        subst h1 h2 h3
        exact ⟨.inl rfl, by omega, by rw [List.length_take]; omega⟩
      · split at h
        · unfold quoted at h
          split at h
          · injection h with h1 h2 h3 h4
            subst h1 h2 h3
            exact ⟨.inr (.inr (.inl rfl)), by omega, by rw [List.length_take]; simp; omega⟩
          · cases h
        · unfold marked at h
          split at h
          · injection h with h1 h2 h3 h4
            subst h1 h2 h3
            exact ⟨.inr (.inr (.inr rfl)), by omega, by rw [List.length_take]; omega⟩
          · split at h
            · injection h with h1 h2 h3 h4
              subst h1 h2 h3
              exact ⟨.inr (.inr (.inr rfl)), by omega, by rw [List.length_take]; omega⟩
            · cases h
theorem step_tokB {l : List UInt8} {kd v n : Nat} {tx : List UInt8} (h : step l = .tok kd tx v n) : TokB l.length kd tx v := by
  cases l with
  | nil => cases h
  | cons c r =>
    unfold step at h
    simp only at h
    split at h
    · cases h
    · split at h
      · cases h
      · exact first_tokB h
theorem lex_tokB : ∀ (l : List UInt8) (k : Nat) (p : Nat × Nat) (ts : List Tok), lex k p l = .ok ts → ∀ t ∈ ts, TokB l.length t.kind t.text t.value
  | [], k, p, ts, h => by
    rw [lex_nil] at h
    injection h with h
    subst h
    intro t ht
    cases ht
  | c :: r, k + 1, p, ts, h => by
    rw [lex] at h
    intro t ht
    obtain ⟨h1, h2, h3⟩ := lex_tokB r k _ ts h t ht
    exact ⟨h1, h2, by simp; omega⟩
  | c :: r, 0, p, ts, h => by
    rw [lex] at h
    cases hs : step (c :: r) with
    | skip n =>
      rw [hs] at h
      intro t ht
      obtain ⟨h1, h2, h3⟩ := lex_tokB r _ _ ts h t ht
      exact ⟨h1, h2, by simp; omega⟩
    | tok kd tx v n =>
      rw [hs] at h
      simp only at h
      cases hl : lex (n - 1) (adv1 p c) r with
      | ok us =>
        rw [hl] at h
        injection h with h
        subst h
        intro t ht
        rcases List.mem_cons.1 ht with rfl | ht
        · exact step_tokB hs
        · obtain ⟨h1, h2, h3⟩ := lex_tokB r _ _ us hl t ht
          exact ⟨h1, h2, by simp; omega⟩
      | no x y e => rw [hl] at h; cases h
    | err e => rw [hs] at h; cases h
theorem scan_tokB {l : List UInt8} {ts : List Tok} (h : scan l = .ok ts) : l.length ≤ 65536 ∧ ∀ t ∈ ts, TokW t.g := by
  unfold scan at h
  split at h
  · cases h
  · refine ⟨by omega, fun t ht => ?_⟩
    obtain ⟨h1, h2, h3⟩ := lex_tokB l 0 _ ts h t ht
    refine ⟨?_, ?_, ?_, ?_⟩
    · show (t.kind : Int) = 1 ∨ (t.kind : Int) = 2 ∨ (t.kind : Int) = 3 ∨ (t.kind : Int) = 4
      omega
    · show (0 : Int) ≤ (t.value : Int)
      omega
    · show (t.value : Int) ≤ 18446744073709551615
      omega
    · show t.text.length ≤ 65536
      omega
theorem first_err {l : List UInt8} {e : Nat} (h : first l = .err e) : e = 50 ∨ e = 6 := by
  cases l with
  | nil => injection h with h; omega
  | cons c r =>
    unfold first at h
    simp only at h
    split at h
    · split at h
      · injection h with h; omega
      · injection h with h; omega
      · cases h
    · split at h
      · cases h
      · split at h
        · unfold quoted at h
          split at h
          · cases h
          · injection h with h; omega
        · unfold marked at h
          split at h
          · cases h
          · split at h
            · cases h
            · injection h with h; omega
theorem lex_err : ∀ (l : List UInt8) (k : Nat) (p : Nat × Nat) (x y e : Nat), lex k p l = .no x y e → e = 50 ∨ e = 6
  | [], k, p, x, y, e, h => by rw [lex_nil] at h; cases h
  | c :: r, k + 1, p, x, y, e, h => by
    rw [lex] at h
    exact lex_err r k _ x y e h
  | c :: r, 0, p, x, y, e, h => by
    rw [lex] at h
    cases hs : step (c :: r) with
    | skip n => rw [hs] at h; exact lex_err r _ _ x y e h
    | tok kd tx v n =>
      rw [hs] at h
      simp only at h
      cases hl : lex (n - 1) (adv1 p c) r with
      | ok us => rw [hl] at h; cases h
      | no x' y' e' =>
        rw [hl] at h
        injection h with h1 h2 h3
        subst h3
        exact lex_err r _ _ x' y' e' hl
    | err e' =>
      rw [hs] at h
      injection h with h1 h2 h3
      subst h3
      unfold step at hs
      simp only at hs
      split at hs
      · cases hs
      · split at hs
        · cases hs
        · exact first_err hs
theorem scan_err {l : List UInt8} {x y e : Nat} (h : scan l = .no x y e) : e = 15 ∨ e = 50 ∨ e = 6 := by
  unfold scan at h
  split at h
  · injection h with h1 h2 h3; omega
  · exact .inr (lex_err l 0 _ x y e h)
/-- The token behind the last. -/
def endTok (l : List UInt8) : GTok := ⟨0, [], 0, (adv (1, 1) l).1, (adv (1, 1) l).2⟩
theorem ends_of : ∀ (gs : List GTok) (e : GTok), (∀ g ∈ gs, TokW g) → e.kind = 0 → e.text = [] → TEnds (gs ++ [e])
  | [], e, _, h1, h2 => ⟨h1, h2⟩
  | [g], e, h, h1, h2 => ⟨h g (by simp), h1, h2⟩
  | g :: g2 :: gs, e, h, h1, h2 => ⟨h g (by simp), ends_of (g2 :: gs) e (fun x hx => h x (List.mem_cons_of_mem _ hx)) h1 h2⟩
theorem scan_ends {l : List UInt8} {ts : List Tok} (h : scan l = .ok ts) : TEnds (ts.map Tok.g ++ [endTok l]) :=
  ends_of _ _ (fun g hg => by
    obtain ⟨t, ht, rfl⟩ := List.mem_map.1 hg
    exact (scan_tokB h).2 t ht) rfl rfl
theorem adv_end (l : List UInt8) : ∀ k, k ≤ l.length → ((adv (1, 1) (l.take k)).1 : Int) = 1 + ((l.take k).count 10 : Nat) ∧ ((adv (1, 1) (l.take k)).2 : Int) = k - Lib.lastIdx ⟨l.toArray⟩ 10 k
  | 0, _ => by simp [adv, Lib.lastIdx]
  | k + 1, hk => by
    obtain ⟨h1, h2⟩ := adv_end l k (by omega)
    have hlt : k < l.length := by omega
    rw [adv_step hlt, List.take_succ_eq_append_getElem hlt, List.count_append]
    have e2 : Lib.lastIdx ⟨l.toArray⟩ 10 (k + 1) = if ((l[k]).toNat : Int) = 10 then (k : Int) else Lib.lastIdx ⟨l.toArray⟩ 10 k := by
      show (if (((⟨l.toArray⟩ : ByteArray).data[k]!).toNat : Int) = 10 then (k : Int) else Lib.lastIdx ⟨l.toArray⟩ 10 k) = _
      have e3 : (⟨l.toArray⟩ : ByteArray).data[k]! = l[k] := by simp [hlt]
      rw [e3]
    rw [e2]
    generalize adv (1, 1) (l.take k) = q at *
    obtain ⟨x, y⟩ := q
    unfold adv1
    by_cases hc : l[k] = 10
    · have hn : ((l[k]).toNat : Int) = 10 := by rw [hc]; rfl
      rw [if_pos hc, if_pos hn, hc]
      simp at h1 h2 ⊢
      omega
    · have hn : ¬ ((l[k]).toNat : Int) = 10 := fun e => hc (UInt8.toNat_inj.1 (by show (l[k]).toNat = 10; omega))
      rw [if_neg hc, if_neg hn]
      have h0 : [l[k]].count 10 = 0 := by simp [hc]
      rw [h0]
      simp at h1 h2 ⊢
      omega
theorem lex_count : ∀ (l : List UInt8) (k : Nat) (p : Nat × Nat) (ts : List Tok), lex k p l = .ok ts → ts.length ≤ l.length
  | [], k, p, ts, h => by
    rw [lex_nil] at h
    injection h with h
    subst h
    simp
  | c :: r, k + 1, p, ts, h => by
    rw [lex] at h
    have := lex_count r k _ ts h
    simp; omega
  | c :: r, 0, p, ts, h => by
    rw [lex] at h
    cases hs : step (c :: r) with
    | skip n =>
      rw [hs] at h
      have := lex_count r _ _ ts h
      simp; omega
    | tok kd tx v n =>
      rw [hs] at h
      simp only at h
      cases hl : lex (n - 1) (adv1 p c) r with
      | ok us =>
        rw [hl] at h
        injection h with h
        subst h
        have := lex_count r _ _ us hl
        simp; omega
      | no x y e => rw [hl] at h; cases h
    | err e => rw [hs] at h; cases h
theorem scan_count {l : List UInt8} {ts : List Tok} (h : scan l = .ok ts) : ts.length ≤ 65536 := by
  have h0 := (scan_tokB h).1
  unfold scan at h
  rw [if_neg (by omega)] at h
  have := lex_count l 0 _ ts h
  omega
theorem endPos_any (l : List UInt8) (w : World) (hl : l.length ≤ 65536) :
    Calls Tryz.prog 35 #[.string ⟨l.toArray⟩] w fun e w' => e = .returned (.agg #[.int .i64 (endTok l).line, .int .i64 (endTok l).col]) ∧ Below w.heap.size w w' := by
  have hsz : (⟨l.toArray⟩ : ByteArray).size = l.length := ba_size l
  have H1 := Lib.hid (Tryz.strings_Count_one ⟨l.toArray⟩ 10)
  have H2 := Lib.hid (Tryz.strings_LastIndexByte ⟨l.toArray⟩ 10 (by rw [hsz]; omega))
  obtain ⟨a1, a2⟩ := adv_end l l.length (Nat.le_refl _)
  rw [List.take_length] at a1 a2
  have hbd := adv_bd l (1, 1) (by omega) (by omega)
  have e1 : (Lib.countByte (⟨l.toArray⟩ : ByteArray).data.toList 10 : Int) = (adv (1, 1) l).1 - 1 := by
    show ((l.count 10 : Nat) : Int) = _
    omega
  have e2 : Lib.lastIndexByte ⟨l.toArray⟩ 10 = (l.length : Int) - (adv (1, 1) l).2 := by
    unfold Lib.lastIndexByte
    rw [hsz]
    omega
  rw [e1] at H1
  rw [e2] at H2
  have HE : Hid (endTok l = ⟨0, [], 0, (adv (1, 1) l).1, (adv (1, 1) l).2⟩) := Lib.hid rfl
  clear a1 a2 e1 e2
  have hx : (adv (1, 1) l).1 ≤ 65537 := by simp at hbd; omega
  have hy : (adv (1, 1) l).2 ≤ 65537 := by simp at hbd; omega
  generalize (adv (1, 1) l).1 = x at *
  generalize (adv (1, 1) l).2 = y at *
  have w1 : wrap64 (1 + ((x : Int) - 1)) = x := by unfold wrap64; omega
  have w2 : wrap64 ((l.length : Int) - ((l.length : Int) - (y : Int))) = y := by unfold wrap64; omega
  generalize hc1 : (x : Int) - 1 = c1 at *
  generalize hc2 : (l.length : Int) - (y : Int) = c2 at *
  have W1 := Lib.hid w1
  have W2 := Lib.hid w2
  clear hc1 hc2 hbd w1 w2
  go_enter Tryz.func35, Tryz.ntmps35
  go_wp2_with fail
  refine (H1.out _).mono ?_
  rintro e w1 ⟨rfl, rfl⟩
  go_wp2_with fail
  refine (H2.out _).mono ?_
  rintro e w1 ⟨rfl, rfl⟩
  go_wp2
  have q1 : wrap64 (1 + c1) = x := W1.out
  have q2 : wrap64 ((l.length : Int) - c2) = y := W2.out
  exact bodyPost_ret (v := .agg #[.int .i64 (wrap64 (1 + c1)), .int .i64 (wrap64 ((l.length : Int) - c2))]) (by simp [results, Tryz.results35, go_sem]) rfl ⟨by rw [HE.out, q1, q2], bel_lit (Below.refl _ _) _⟩
end Go.Proofs.YtahhmgoffdggpaaGreatDoor


namespace Go.Proofs.YtahhmgoffdggpaaGreatDoor

open Go.RowKit

theorem step_gapp9 {S : TypeId} {ops : Array Oper} {o : Oper} {a : Act} {K : Act → World → Prop} {Q : Exit → Act → World → Prop} {E : Prop} {v y v' : Value} {W w' : World}
    (hrun : (Builtin.append_ #[S, S] S #[v, y]).run Tryz.prog W = .ok v' w') (hgd : o.guard = none) {s x : Operand}
    (ho : o.op = .call { callee := .builtin .append, args := #[s, x], argTypes := #[S, S] }) (hty : o.type = S) (hs : a.eval s = v) (hx : a.eval x = y)
    (h : K (a.put o.dst v') w') : if Region.wanted o (yielded ops a.tmps) = true then Oper.wp Tryz.prog o a W K Q else E := by
  have hw : Region.wanted o (yielded ops a.tmps) = true := by simp [Region.wanted, hgd]
  rw [if_pos hw]
  unfold Oper.wp execOp
  simp only [ho, hty, resolve, invoke, builtin, Sem.run_bind, Sem.run_pure, Result.andThen_ok, List.map_toArray, List.map_cons, List.map_nil, hs, hx, hrun]
  exact h
/-- A new list of open operands is stored. -/
theorem StX.setRefs {base p : Nat} {O : Nat → Prop} {w w3 : World} {s : ASt} {A : Option Addr} {c m : Nat} {pv ov nv : Value} {xs : List GRef} (h : StX base p O w s A c pv m ov) (hs : w.heap.size ≤ w3.heap.size)
    (hk : ∀ g, g < w.heap.size → ov.ownBlock ≠ some g → w3.heap[g]? = w.heap[g]?) (ho : OwnG GRef.cells 126 6 w3 base nv xs) (hob : ∀ g, nv.ownBlock = some g → ov.ownBlock = some g ∨ w.heap.size ≤ g) :
    St base p (fun g => O g ∨ nv.ownBlock = some g) (w3.setCell ⟨p, 3, none⟩ nv) { s with refs := xs } := by
  have hlt := h.lt
  have hml := h.mlt
  have hp3 : w3.heap[p]? = w.heap[p]? := hk p hlt.2 (fun e => h.hov.1 e)
  have hkp : ∀ g, g ≠ p → (w3.setCell ⟨p, 3, none⟩ nv).heap[g]? = w3.heap[g]? := fun g hg => Below.heap_setCell _ _ _ g hg
  have hno : ∀ g, O g → ov.ownBlock ≠ some g → nv.ownBlock ≠ some g := fun g hg hn e => by
    rcases hob g e with e2 | e2
    · exact hn e2
    · have := h.hi g hg; omega
  have hnp : nv.ownBlock ≠ some p := hno p h.op h.hov.1
  have hnm : nv.ownBlock ≠ some m := hno m h.om h.hov.2
  refine ⟨A, c, pv, m, nv, ?_⟩
  exact {
    lo := fun g hg => by rcases hg with h1 | h1; exact h.lo g h1; exact (ho.lt g h1).1
    hi := fun g hg => by
      rcases hg with h1 | h1
      · have := h.hi g h1; simp; omega
      · have := (ho.lt g h1).2; simpa using this
    bw := by have := h.bw; simp; omega
    op := .inl h.op
    om := .inl h.om
    opv := fun g hg => .inl (h.opv g hg)
    oov := fun g hg => .inr hg
    hmp := h.hmp
    hpv := h.hpv
    hov := ⟨hnp, hnm⟩
    hpo := fun g hg => hno g (h.opv g hg) (h.hpo g hg)
    hh := by rw [heap_set (hp3.trans h.hh)]; rfl
    hc := h.hc
    hm := h.hm
    ends := h.ends
    row := h.row.keep fun g hg => (hkp g (by omega)).trans (hk g (by have := h.bw; omega) (fun e => by have := h.lo g (h.oov g e); omega))
    prog := h.prog.keep fun g hg => (hkp g (fun e => h.hpv.1 (by rw [hg, e]))).trans (hk g (h.hi g (h.opv g hg)) (h.hpo g hg))
    refs := ho.keep fun g hg => hkp g (fun e => hnp (by rw [hg, e]))
    labs := h.labs.keep ((hkp m h.hmp).trans (hk m hml.2 h.hov.2)) }
/-- A new program is stored. -/
theorem StX.setProg {base p : Nat} {O : Nat → Prop} {w w3 : World} {s : ASt} {A : Option Addr} {c m : Nat} {pv ov nv : Value} {xs : List GIns} (h : StX base p O w s A c pv m ov) (hs : w.heap.size ≤ w3.heap.size)
    (hk : ∀ g, g < w.heap.size → pv.ownBlock ≠ some g → w3.heap[g]? = w.heap[g]?) (ho : OwnG GIns.cells 40 5 w3 base nv xs) (hob : ∀ g, nv.ownBlock = some g → pv.ownBlock = some g ∨ w.heap.size ≤ g) :
    St base p (fun g => O g ∨ nv.ownBlock = some g) (w3.setCell ⟨p, 1, none⟩ nv) { s with prog := xs } := by
  have hlt := h.lt
  have hml := h.mlt
  have hp3 : w3.heap[p]? = w.heap[p]? := hk p hlt.2 (fun e => h.hpv.1 e)
  have hkp : ∀ g, g ≠ p → (w3.setCell ⟨p, 1, none⟩ nv).heap[g]? = w3.heap[g]? := fun g hg => Below.heap_setCell _ _ _ g hg
  have hno : ∀ g, O g → pv.ownBlock ≠ some g → nv.ownBlock ≠ some g := fun g hg hn e => by
    rcases hob g e with e2 | e2
    · exact hn e2
    · have := h.hi g hg; omega
  have hnp : nv.ownBlock ≠ some p := hno p h.op h.hpv.1
  have hnm : nv.ownBlock ≠ some m := hno m h.om h.hpv.2
  refine ⟨A, c, nv, m, ov, ?_⟩
  exact {
    lo := fun g hg => by rcases hg with h1 | h1; exact h.lo g h1; exact (ho.lt g h1).1
    hi := fun g hg => by
      rcases hg with h1 | h1
      · have := h.hi g h1; simp; omega
      · have := (ho.lt g h1).2; simpa using this
    bw := by have := h.bw; simp; omega
    op := .inl h.op
    om := .inl h.om
    opv := fun g hg => .inr hg
    oov := fun g hg => .inl (h.oov g hg)
    hmp := h.hmp
    hpv := ⟨hnp, hnm⟩
    hov := h.hov
    hpo := fun g hg => fun e => hno g (h.oov g e) (fun e2 => h.hpo g e2 e) hg
    hh := by rw [heap_set (hp3.trans h.hh)]; rfl
    hc := h.hc
    hm := h.hm
    ends := h.ends
    row := h.row.keep fun g hg => (hkp g (by omega)).trans (hk g (by have := h.bw; omega) (fun e => by have := h.lo g (h.opv g e); omega))
    prog := ho.keep fun g hg => hkp g (fun e => hnp (by rw [hg, e]))
    refs := h.refs.keep fun g hg => (hkp g (fun e => h.hov.1 (by rw [hg, e]))).trans (hk g (h.hi g (h.oov g hg)) (fun e => h.hpo g e hg))
    labs := h.labs.keep ((hkp m h.hmp).trans (hk m hml.2 h.hpv.2)) }
theorem StX.small {base p : Nat} {O : Nat → Prop} {w : World} {s : ASt} {A : Option Addr} {c m : Nat} {pv ov : Value} (h : StX base p O w s A c pv m ov) : (∃ AP cP, pv = .slice AP s.prog.length cP) ∧ ∃ AO cO, ov = .slice AO s.refs.length cO := by
  obtain ⟨A1, c1, e1, _⟩ := h.prog.row GIns.len
  obtain ⟨A2, c2, e2, _⟩ := h.refs.row GRef.len
  exact ⟨⟨A1, c1, e1⟩, ⟨A2, c2, e2⟩⟩
set_option maxRecDepth 50000 in
set_option maxHeartbeats 1000000 in
theorem keep_any (base p : Nat) (O : Nat → Prop) (s : ASt) (t : GTok) (w : World) (h : St base p O w s) (hm : mu s ≤ 300000) :
    Calls Tryz.prog 142 #[.pointer (some ⟨p, 0, none⟩), t.tval] w fun e w' => e = .returned (.tuple #[]) ∧ ∃ O', St base p O' w' (aKeep t s) ∧ Fr w O w' O' := by
  have HS := Lib.hid h
  obtain ⟨A, c, pv, m, ov, hX⟩ := h
  have HX := Lib.hid hX
  obtain ⟨p0, p1, p2, p3, z0, z1, z2, z3⟩ := hX.cells
  obtain ⟨⟨AP, cP, hpv⟩, ⟨AO, cO, hov⟩⟩ := hX.small
  obtain ⟨hbp, hpw⟩ := hX.lt
  subst hpv hov
  have HSM : Hid (s.refs.length ≤ 300000) := Lib.hid (by unfold mu at hm; omega)
  have HMM := Lib.hid hm
  clear hX hm
  obtain ⟨tk, tt, tv, tl, tc⟩ := t
  simp only [GTok.tval] at *
  have HL : Hid (s.prog.length ≤ 300000) := Lib.hid (by have := HMM.out; unfold mu at this; omega)
  have hown := ((HX.out.refs.alloc (.cells #[.int .i64 tk, .string ⟨tt.toArray⟩, .int .u64 tv, .int .i64 tl, .int .i64 tc] 80)).next ((Below.refl _ _).drew)).alloc (.cells #[.int .i64 tk, .string ⟨tt.toArray⟩, .int .u64 tv, .int .i64 tl, .int .i64 tc, .int .i64 s.prog.length] 126)
  have hlit := GRow.lit GRef.len (w.alloc (.cells #[.int .i64 tk, .string ⟨tt.toArray⟩, .int .u64 tv, .int .i64 tl, .int .i64 tc] 80)).drew 126 [⟨⟨tk, tt, tv, tl, tc⟩, s.prog.length⟩] #[.int .i64 tk, .string ⟨tt.toArray⟩, .int .u64 tv, .int .i64 tl, .int .i64 tc, .int .i64 s.prog.length] rfl (by unfold maxLen; simp)
  obtain ⟨v', w3, hrun, hown3, hgr3, hob⟩ := OwnG.app elt_ref GRef.len GRef.one hown 1 hlit (by have := HX.out.bw; simp; omega) (by have := HSM.out; unfold maxLen; simp; omega) (by have := HSM.out; simp; omega)
  obtain ⟨A3, c3, hv3, _, _, _⟩ := hown3.row GRef.len
  have eN : (w.alloc (.cells #[.int .i64 tk, .string ⟨tt.toArray⟩, .int .u64 tv, .int .i64 tl, .int .i64 tc] 80)).drew.heap.size = w.heap.size + 1 := by simp
  have hk3 : w3.heap[p]? = w.heap[p]? := by
    rw [hgr3.block p (by simp; omega) (fun e => HX.out.hov.1 e.symm), Below.heap_alloc _ _ _ (by simp; omega)]
    exact Below.heap_alloc _ _ _ hpw
  have y3 : w3.cell? ⟨p, 3, none⟩ = some (.slice AO s.refs.length cO) := (World.cell?_of_block (a := ⟨p, 3, none⟩) hk3).trans p3
  have u3 : w3.frozen? ⟨p, 3, none⟩ = false := by
    have hh := hk3.trans HX.out.hh
    exact Lib.frozen_of_heap hh 3
  have hkk : ∀ g, g < w.heap.size → Value.ownBlock (.slice AO s.refs.length cO) ≠ some g → w3.heap[g]? = w.heap[g]? := fun g hg hn => by
    rw [hgr3.block g (by simp; omega) (fun e => hn e.symm), Below.heap_alloc _ _ _ (by simp; omega)]
    exact Below.heap_alloc _ _ _ hg
  have hoo : ∀ g, v'.ownBlock = some g → Value.ownBlock (.slice AO s.refs.length cO) = some g ∨ w.heap.size ≤ g := fun g hg => by
    rcases hob with e | e
    · exact .inl (e.symm.trans hg)
    · right; rw [hg] at e; injection e with e; simp at e; omega
  have hsz : w.heap.size ≤ w3.heap.size := by have := hgr3.size; simp at this; omega
  have hset := HX.out.setRefs hsz hkk hown3 hoo
  have hfr : Fr w O (w3.setCell ⟨p, 3, none⟩ v') (fun g => O g ∨ v'.ownBlock = some g) :=
    ⟨hgr3.os, hgr3.tape, hgr3.output, by simpa using hsz, fun g hg hO => (Below.heap_setCell _ _ _ g (fun e => by subst e; exact hO HX.out.op)).trans (hkk g hg (fun e => hO (HX.out.oov g e))), fun g hg => by
      rcases hg with h1 | h1
      · exact .inl h1
      · rcases hoo g h1 with h2 | h2
        · exact .inl (HX.out.oov g h2)
        · exact .inr h2⟩
  have HSET : Hid (St base p (fun g => O g ∨ v'.ownBlock = some g) (w3.setCell ⟨p, 3, none⟩ v') (aKeep ⟨tk, tt, tv, tl, tc⟩ s)) := Lib.hid hset
  have HFR := Lib.hid hfr
  clear hset hfr hkk hoo hsz
  have HRUN := Lib.hid hrun
  have HO3 := Lib.hid hown3
  have HG3 := Lib.hid hgr3
  have HOB := Lib.hid hob
  subst hv3
  rw [eN] at HRUN
  have hs3 := hgr3.size
  simp only [World.size_alloc] at hs3
  clear hown hlit hrun hown3 hgr3 hob hk3 eN
  have hll : (s.refs ++ [(⟨⟨tk, tt, tv, tl, tc⟩, s.prog.length⟩ : GRef)]).length = s.refs.length + 1 := by simp
  generalize (s.refs ++ [(⟨⟨tk, tt, tv, tl, tc⟩, s.prog.length⟩ : GRef)]).length = l3 at *
  simp only [List.length_singleton] at HRUN
  go_enter Tryz.func142, Tryz.ntmps142
  go_upto_region 1 with fail
  go_region_law (refine step_gapp9 HRUN.out rfl rfl rfl rfl rfl ?_)
  all_goals
    subst hll
    go_end0
    exact ⟨rfl, _, HSET.out, HFR.out⟩
end Go.Proofs.YtahhmgoffdggpaaGreatDoor


namespace Go.Proofs.YtahhmgoffdggpaaGreatDoor

open Go.RowKit

theorem new_cells {w w2 : World} {cs : Array Value} {T : TypeId} (hb : Below (w.alloc (.cells cs T)).heap.size (w.alloc (.cells cs T)) w2) (j : Nat) : w2.cell? ⟨w.heap.size, j, none⟩ = cs[j]? :=
  (World.cell?_of_block (a := ⟨w.heap.size, j, none⟩) (hb.block _ (by simp))).trans (World.cell?_alloc_new _ _ _ _)
theorem regNo_cast {s : List UInt8} : ((regNo s).getD 0 : Nat) = (regNo s).getD 0 := rfl
set_option maxRecDepth 50000 in
set_option maxHeartbeats 1000000 in
theorem areg_any (base p : Nat) (O : Nat → Prop) (s : ASt) (w : World) (h : St base p O w s) :
    Calls Tryz.prog 122 #[.pointer (some ⟨p, 0, none⟩)] w (MEnd base p O w s (fun v => .int .i64 v) (aReg s)) := by
  have HTK := Lib.hid (atake_any base p O s 1 w h (by decide))
  have HD : Hid (aReg s = (aTake 1 s).bind fun t s1 => match regNo t.text with
    | some n => .ok (n : Int) s1
    | none => thrAt t 50) := Lib.hid rfl
  have HBB := Lib.hid h.lo
  generalize aReg s = q at *
  generalize aTake 1 s = r at *
  clear h
  rcases r with ⟨t, s1⟩ | ⟨l, c, x⟩
  · have HTH := Lib.hid fun W => throw_any t 50 W
    have HRG := Lib.hid fun W => register_any t.text W
    have HD2 : Hid (q = match regNo t.text with
      | some n => .ok (n : Int) s1
      | none => thrAt t 50) := Lib.hid HD.out
    clear HD
    generalize regNo t.text = rn at *
    obtain ⟨tk, tt, tv, tl, tc⟩ := t
    simp only [GTok.tval] at HTH
    simp only at HRG HD2
    cases rn with
    | none =>
      have HQ : Hid (q = thrAt ⟨tk, tt, tv, tl, tc⟩ 50) := Lib.hid HD2.out
      simp only [Option.getD_none, Option.isSome_none] at HRG
      clear HD2
      go_enter Tryz.func122, Tryz.ntmps122
      go_wp2_with fail
      go_fit HTK.out
      rintro e w1 ⟨he, hmu, O1, hst1, hf1⟩
      simp only [GTok.tval] at he
      subst he
      have HF := Lib.hid (hf1.bel HBB.out.1 HBB.out.2.2)
      have HL1 := Lib.hid hst1.lo
      clear hmu hst1 hf1 HTK
      go_wp2_with fail
      go_fit (HRG.out _)
      rintro e w2 ⟨rfl, hb2⟩
      have hcell := new_cells hb2
      have y0 := hcell 0
      have y1 := hcell 1
      have y2 := hcell 2
      have y3 := hcell 3
      have y4 := hcell 4
      simp only [List.getElem?_toArray, List.getElem?_cons_zero, List.getElem?_cons_succ] at y0 y1 y2 y3 y4
      have HB2 := Lib.hid (bel_alloc (Below.refl _ w1) hb2)
      clear hb2 hcell
      go_wp2_with fail
      go_fit (HTH.out _)
      rintro e w3 ⟨rfl, hb3⟩
      have HB3 := Lib.hid (HF.out.trans ((bel_next HB2.out hb3).mono HL1.out.2.2))
      clear hb3
      go_wp2
      refine ⟨rfl, ?_⟩
      rw [HQ.out]
      exact ⟨rfl, HB3.out⟩
    | some n =>
      have HQ : Hid (q = .ok (n : Int) s1) := Lib.hid HD2.out
      simp only [Option.getD_some, Option.isSome_some] at HRG
      clear HD2
      go_enter Tryz.func122, Tryz.ntmps122
      go_wp2_with fail
      go_fit HTK.out
      rintro e w1 ⟨he, hmu, O1, hst1, hf1⟩
      simp only [GTok.tval] at he
      subst he
      have HST := Lib.hid hst1
      have HF := Lib.hid hf1
      have HM := Lib.hid hmu
      clear hmu hst1 hf1 HTK
      go_wp2_with fail
      go_fit (HRG.out _)
      rintro e w2 ⟨rfl, hb2⟩
      have HB2 := Lib.hid (bel_alloc (Below.refl _ w1) hb2)
      clear hb2
      go_wp2
      go_ret
      rw [HQ.out]
      exact ⟨rfl, HM.out, O1, HST.out.next HB2.out, HF.out.next HB2.out⟩
  · have HQ : Hid (q = .thr l c x) := Lib.hid HD.out
    go_enter Tryz.func122, Tryz.ntmps122
    go_wp2_with fail
    go_fit HTK.out
    rintro e w1 ⟨rfl, hb1⟩
    have HB1 := Lib.hid hb1
    clear hb1
    go_wp2
    refine ⟨rfl, ?_⟩
    rw [HQ.out]
    exact ⟨rfl, HB1.out⟩
theorem mu_keep (t : GTok) (s : ASt) : mu (aKeep t s) = mu s + 1 := by
  unfold mu aKeep
  simp only [List.length_append, List.length_singleton]
  omega
theorem take_mu {k : Int} {s s1 : ASt} {t : GTok} (h : aTake k s = .ok t s1) (hne : s.ts ≠ []) : mu s1 + 2 = mu s ∧ t = s.hd := by
  unfold aTake at h
  by_cases hk : s.hd.kind = k
  · rw [if_pos hk] at h
    injection h with h1 h2
    subst h2
    cases hts : s.ts with
    | nil => exact absurd hts hne
    | cons a r => exact ⟨mu_next hts, h1.symm⟩
  · rw [if_neg hk] at h; cases h
theorem St.ne {base p : Nat} {O : Nat → Prop} {w : World} {s : ASt} (h : St base p O w s) : s.ts ≠ [] := by
  obtain ⟨t, r, _, _, _, _, _, _, hts, _⟩ := h.get
  rw [hts]; exact List.cons_ne_nil _ _
set_option maxRecDepth 50000 in
set_option maxHeartbeats 1000000 in
theorem labelUse_any (base p : Nat) (O : Nat → Prop) (s : ASt) (w : World) (h : St base p O w s) (hm : mu s ≤ 300000) :
    Calls Tryz.prog 140 #[.pointer (some ⟨p, 0, none⟩)] w (MEnd base p O w s (fun _ => .tuple #[]) (aUse s)) := by
  have HTK := Lib.hid (atake_any base p O s 1 w h (by decide))
  have HTM := Lib.hid fun t s1 (e : aTake 1 s = .ok t s1) => take_mu e h.ne
  have HD : Hid (aUse s = (aTake 1 s).bind fun t s1 => if (regNo t.text).isSome then thrAt t 50 else .ok () (aKeep t s1)) := Lib.hid rfl
  have HBB := Lib.hid h.lo
  generalize aUse s = q at *
  generalize aTake 1 s = r at *
  clear h
  rcases r with ⟨t, s1⟩ | ⟨l, c, x⟩
  · have HTH := Lib.hid fun W => throw_any t 50 W
    have HRG := Lib.hid fun W => register_any t.text W
    have HM1 := Lib.hid (HTM.out t s1 rfl).1
    have HKP := Lib.hid fun O W (hW : St base p O W s1) => keep_any base p O s1 t W hW (by have := HM1.out; omega)
    have HD2 : Hid (q = if (regNo t.text).isSome then thrAt t 50 else .ok () (aKeep t s1)) := Lib.hid HD.out
    clear HD HTM hm
    generalize regNo t.text = rn at *
    obtain ⟨tk, tt, tv, tl, tc⟩ := t
    simp only [GTok.tval] at HTH HKP
    simp only at HRG HD2
    cases rn with
    | some n =>
      have HQ : Hid (q = thrAt ⟨tk, tt, tv, tl, tc⟩ 50) := Lib.hid HD2.out
      simp only [Option.getD_some, Option.isSome_some] at HRG
      clear HD2 HKP
      go_enter Tryz.func140, Tryz.ntmps140
      go_wp2_with fail
      go_fit HTK.out
      rintro e w1 ⟨he, hmu, O1, hst1, hf1⟩
      simp only [GTok.tval] at he
      subst he
      have HF := Lib.hid (hf1.bel HBB.out.1 HBB.out.2.2)
      have HL1 := Lib.hid hst1.lo
      clear hmu hst1 hf1 HTK
      go_wp2_with fail
      go_fit (HRG.out _)
      rintro e w2 ⟨rfl, hb2⟩
      have hcell := new_cells hb2
      have y0 := hcell 0
      have y1 := hcell 1
      have y2 := hcell 2
      have y3 := hcell 3
      have y4 := hcell 4
      simp only [List.getElem?_toArray, List.getElem?_cons_zero, List.getElem?_cons_succ] at y0 y1 y2 y3 y4
      have HB2 := Lib.hid (bel_alloc (Below.refl _ w1) hb2)
      clear hb2 hcell
      go_wp2_with fail
      go_fit (HTH.out _)
      rintro e w3 ⟨rfl, hb3⟩
      have HB3 := Lib.hid (HF.out.trans ((bel_next HB2.out hb3).mono HL1.out.2.2))
      clear hb3
      go_wp2
      refine ⟨rfl, ?_⟩
      rw [HQ.out]
      exact ⟨rfl, HB3.out⟩
    | none =>
      have HQ : Hid (q = .ok () (aKeep ⟨tk, tt, tv, tl, tc⟩ s1)) := Lib.hid HD2.out
      have HMK := Lib.hid (mu_keep ⟨tk, tt, tv, tl, tc⟩ s1)
      simp only [Option.getD_none, Option.isSome_none] at HRG
      clear HD2
      go_enter Tryz.func140, Tryz.ntmps140
      go_wp2_with fail
      go_fit HTK.out
      rintro e w1 ⟨he, hmu, O1, hst1, hf1⟩
      simp only [GTok.tval] at he
      subst he
      have HST := Lib.hid hst1
      have HF := Lib.hid hf1
      clear hmu hst1 hf1 HTK
      go_wp2_with fail
      go_fit (HRG.out _)
      rintro e w2 ⟨rfl, hb2⟩
      have hcell := new_cells hb2
      have y0 := hcell 0
      have y1 := hcell 1
      have y2 := hcell 2
      have y3 := hcell 3
      have y4 := hcell 4
      simp only [List.getElem?_toArray, List.getElem?_cons_zero, List.getElem?_cons_succ] at y0 y1 y2 y3 y4
      have HB2 := Lib.hid (bel_alloc (Below.refl _ w1) hb2)
      have HK3 := Lib.hid (HKP.out O1 w2 (HST.out.next HB2.out))
      clear hb2 hcell HKP
      go_wp2_with fail
      go_fit HK3.out
      rintro e w3 ⟨rfl, O3, hst3, hf3⟩
      have HST3 := Lib.hid hst3
      have HF3 := Lib.hid ((HF.out.next HB2.out).trans hf3)
      clear hst3 hf3 HK3
      go_wp2
      go_end0
      rw [HQ.out]
      exact ⟨rfl, by have := HM1.out; have := HMK.out; omega, O3, HST3.out, HF3.out⟩
  · have HQ : Hid (q = .thr l c x) := Lib.hid HD.out
    go_enter Tryz.func140, Tryz.ntmps140
    go_wp2_with fail
    go_fit HTK.out
    rintro e w1 ⟨rfl, hb1⟩
    have HB1 := Lib.hid hb1
    clear hb1
    go_wp2
    refine ⟨rfl, ?_⟩
    rw [HQ.out]
    exact ⟨rfl, HB1.out⟩
end Go.Proofs.YtahhmgoffdggpaaGreatDoor
