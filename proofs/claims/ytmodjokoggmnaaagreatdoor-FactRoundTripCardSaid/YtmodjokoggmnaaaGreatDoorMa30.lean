/-
  The contract of the reference's Scan: it returns the tokens that the plain mathematics gives, in new memory, or the position and the number of the first error.
  Conditions: none.
  What the loop of the reference's Scan knows, as plain mathematics: k bytes are read, the position there is x, y, the tokens so far are ts.
  Conditions: none.
  The contract of the reference's Scan: it returns the tokens that the plain mathematics gives, in new memory, or the position and the number of the first error.
  Conditions: none.
-/
import Derived.Test.YtmodjokoggmnaaaGreatDoorMa27
import Derived.Test.YtmodjokoggmnaaaGreatDoorMa29
import Derived.Test.YtmodjokoggmnaaaGreatDoorMa10
import Derived.RegionTactic
namespace Go.Proofs.YtmodjokoggmnaaaGreatDoor

open Go.RowKit Go.Shelf

/-- What stands in memory while the reference scans: the tokens ts, the result's place, the position. -/
structure RMid (w : World) (v : Value) (wr : World) (ts : List Tok) (x y : Nat) : Prop where
  own : OwnT wr (w.heap.size + 2) v (ts.map Tok.g)
  bel : Below w.heap.size w wr
  res : wr.heap[w.heap.size]? = some (.cells #[.int .i64 0, .int .i64 0] 26 (0, 0))
  pos : wr.heap[w.heap.size + 1]? = some (.cells #[.int .i64 x, .int .i64 y] 26 (0, 0))
theorem RMid.lt {w wr : World} {v : Value} {ts : List Tok} {x y : Nat} (h : RMid w v wr ts x y) : w.heap.size + 1 < wr.heap.size := by
  rcases Nat.lt_or_ge (w.heap.size + 1) wr.heap.size with h1 | h1
  · exact h1
  · have := h.pos; rw [Array.getElem?_eq_none h1] at this; cases this
theorem RMid.set {w wr : World} {v : Value} {ts : List Tok} {x y x2 y2 : Nat} (h : RMid w v wr ts x y) {wr2 : World} (hb : ∀ g, g ≠ w.heap.size + 1 → wr2.heap[g]? = wr.heap[g]?) (hB : Below w.heap.size w wr2) (hp : wr2.heap[w.heap.size + 1]? = some (.cells #[.int .i64 x2, .int .i64 y2] 26 (0, 0))) : RMid w v wr2 ts x2 y2 :=
  ⟨h.own.keep fun g hg _ => hb g (by omega), hB, (hb _ (by omega)).trans h.res, hp⟩
theorem RMid.below {w wr : World} {v : Value} {ts : List Tok} {x y : Nat} (h : RMid w v wr ts x y) {wr2 : World} (hb : Below wr.heap.size wr wr2) : RMid w v wr2 ts x y := by
  have hl := h.lt
  exact ⟨h.own.below (Nat.le_refl _) hb, bel_next h.bel hb, (hb.block _ (by omega)).trans h.res, (hb.block _ hl).trans h.pos⟩
theorem RMid.push {w w1 : World} {v : Value} {ts : List Tok} {x y : Nat} (h : RMid w v w1 ts x y) {v2 : Value} {w2 : World} {t : Tok} (hown : OwnT w2 (w.heap.size + 2) v2 (ts.map Tok.g ++ [t.g])) (hg : w1.grownBy w2 v.ownBlock) : RMid w v2 w2 (ts ++ [t]) x y := by
  have hl := h.lt
  have hblk : ∀ b, v.ownBlock = some b → w.heap.size + 2 ≤ b := fun b hb => (World.ownsRow.lt h.own b hb).1
  refine ⟨by rw [List.map_append]; exact hown, h.bel.grown hg (by omega) (fun b hb => by have := hblk b hb; omega), ?_, ?_⟩
  · exact (hg.block _ (by omega) (fun e => by have := hblk _ e.symm; omega)).trans h.res
  · exact (hg.block _ hl (fun e => by have := hblk _ e.symm; omega)).trans h.pos

/-! What the reference's end says of the token. -/
theorem end_word {d : List UInt8} {c : UInt8} {r : List UInt8} (hd : d = c :: r) (h1 : isLet c = true) : first d = .tok 1 (d.take (endOf d)) 0 (endOf d) ∧ 1 ≤ endOf d := by
  subst hd
  have hw : isWB c = true := by rw [wb_eq, h1]; rfl
  have hdg : isDig c = false := by
    cases h : isDig c with
    | false => rfl
    | true => rw [let_dig c h] at h1; cases h1
  have e : endOf (c :: r) = run isWB (c :: r) := by simp [endOf, hw]
  rw [e]
  exact ⟨by simp [first, hdg, hw], by rw [run_cons_pos hw]; omega⟩
theorem end_num {d : List UInt8} {c : UInt8} {r : List UInt8} (hd : d = c :: r) (h1 : isDig c = true) : 1 ≤ endOf d ∧ (numE (num (d.take (endOf d))) = 0 → first d = .tok 2 [] (numV (num (d.take (endOf d)))) (endOf d)) ∧ (numE (num (d.take (endOf d))) ≠ 0 → first d = .err (numE (num (d.take (endOf d))))) := by
  subst hd
  have hw : isWB c = true := by rw [wb_eq, h1]; simp
  have e : endOf (c :: r) = run isWB (c :: r) := by simp [endOf, hw]
  rw [e]
  refine ⟨by rw [run_cons_pos hw]; omega, fun h => ?_, fun h => ?_⟩
  · simp only [first, if_pos h1]
    cases hm : num ((c :: r).take (run isWB (c :: r))) with
    | bad => rw [hm] at h; simp [numE] at h
    | big => rw [hm] at h; simp [numE] at h
    | val v => rfl
  · simp only [first, if_pos h1]
    cases hm : num ((c :: r).take (run isWB (c :: r))) with
    | bad => rfl
    | big => rfl
    | val v => rw [hm] at h; simp [numE] at h
theorem end_str {d : List UInt8} {r : List UInt8} (hd : d = 34 :: r) : (endOf d = 0 ∧ first d = .err 50) ∨ (2 ≤ endOf d ∧ endOf d ≤ d.length ∧ first d = .tok 3 ((d.take (endOf d - 1)).drop 1) 0 (endOf d)) := by
  subst hd
  have e : endOf (34 :: r) = (match r.drop (run isStr r) with | 34 :: _ => run isStr r + 2 | _ => 0) := rfl
  have e2 : first (34 :: r) = quoted r := rfl
  rw [e, e2]
  unfold quoted
  cases hr : r.drop (run isStr r) with
  | nil => exact .inl ⟨rfl, rfl⟩
  | cons x s =>
    by_cases hx : x = 34
    · subst hx
      right
      have hl : run isStr r < r.length := by
        apply Nat.lt_of_not_le; intro hle
        rw [List.drop_of_length_le hle] at hr; cases hr
      refine ⟨Nat.le_add_left _ _, by simp; omega, ?_⟩
      show Act1.tok 3 (r.take (run isStr r)) 0 (run isStr r + 2) = Act1.tok 3 (((34 :: r).take (run isStr r + 2 - 1)).drop 1) 0 (run isStr r + 2)
      rw [show run isStr r + 2 - 1 = run isStr r + 1 by omega, List.take_succ_cons]; rfl
    · left
      constructor
      · split
        · rename_i heq; exact absurd (List.cons.inj heq).1 hx
        · rfl
      · split
        · rename_i heq; exact absurd (List.cons.inj heq).1 hx
        · rfl
theorem end_mark {d : List UInt8} {c : UInt8} {r : List UInt8} (hd : d = c :: r) (h1 : isWB c = false) (h2 : c ≠ 34) : (endOf d = 0 ∧ first d = .err 50) ∨ (1 ≤ endOf d ∧ endOf d ≤ d.length ∧ first d = .tok 4 (d.take (endOf d)) 0 (endOf d)) := by
  subst hd
  have hdg : isDig c = false := by
    cases h : isDig c with
    | false => rfl
    | true => rw [wb_eq, h] at h1; simp at h1
  have e : endOf (c :: r) = (markOf (c :: r)).length := by simp [endOf, h1, h2]
  have e2 : first (c :: r) = marked (c :: r) := by simp [first, hdg, h1, h2]
  rw [e, e2]
  unfold markOf marked
  by_cases ha : 1 < (c :: r).length ∧ punct ((c :: r).take 2) = true
  · rw [if_pos ha, if_pos ha]
    have : ((c :: r).take 2).length = 2 := by rw [List.length_take]; have := ha.1; omega
    rw [this]
    exact .inr ⟨by omega, by have := ha.1; omega, rfl⟩
  · rw [if_neg ha, if_neg ha]
    by_cases hb : punct ((c :: r).take 1) = true
    · rw [if_pos hb, if_pos hb]
      exact .inr ⟨by simp, by simp, rfl⟩
    · rw [if_neg hb, if_neg hb]; exact .inl ⟨rfl, rfl⟩
end Go.Proofs.YtmodjokoggmnaaaGreatDoor


namespace Go.Proofs.YtmodjokoggmnaaaGreatDoor

open Go.RowKit Go.Shelf

structure RInv (l : List UInt8) (k x y : Nat) (ts : List Tok) : Prop where
  len : ts.length ≤ k
  pos : adv (1, 1) (l.take k) = (x, y)
  lexed : lex 0 (1, 1) l = (lex 0 (x, y) (l.drop k)).app ts
section

variable {l : List UInt8} {k x y : Nat} {ts : List Tok}

theorem RInv.start (l : List UInt8) : RInv l 0 1 1 [] := ⟨Nat.le_refl _, rfl, by rw [app_nil]; rfl⟩
theorem RInv.bd (h : RInv l k x y ts) (hl : l.length ≤ 65536) : x ≤ 65537 ∧ y ≤ 65537 := by
  have bd := adv_bd (l.take k) (1, 1) (Nat.le_refl _) (Nat.le_refl _)
  rw [h.pos, List.length_take] at bd
  have h1 := bd.2.2.1
  have h2 := bd.2.2.2
  simp at h1 h2
  omega
theorem RInv.skip (h : RInv l k x y ts) (hk : k < l.length) {n : Nat} (hn : 1 ≤ n) (hs : step (l.drop k) = .skip n) {x2 y2 : Nat} (hp : adv (1, 1) (l.take (k + n)) = (x2, y2)) : RInv l (k + n) x2 y2 ts := by
  refine ⟨by have := h.len; omega, hp, ?_⟩
  rw [h.lexed, lex_skipped _ n hk hn hs]
  rw [adv_next, h.pos] at hp
  rw [hp]
theorem RInv.sp (h : RInv l k x y ts) (hk : k < l.length) (hc : isSp l[k] = true) {x2 y2 : Nat} (hp : adv (1, 1) (l.take (k + 1)) = (x2, y2)) : RInv l (k + 1) x2 y2 ts := h.skip hk (Nat.le_refl _) (step_sp hk hc) hp
theorem RInv.cm (h : RInv l k x y ts) (hk : k < l.length) (hc : l[k] = 35) {x2 y2 : Nat} (hp : adv (1, 1) (l.take (k + run notNl (l.drop k))) = (x2, y2)) : RInv l (k + run notNl (l.drop k)) x2 y2 ts :=
  h.skip hk (by rw [drop_cons hk, run_cons_pos (by rw [hc]; rfl)]; omega) (step_comment hk hc) hp
theorem RInv.tok (h : RInv l k x y ts) (hk : k < l.length) (hs : isSp l[k] = false) (h35 : l[k] ≠ 35) {kd n tv : Nat} {tx : List UInt8} (hf : first (l.drop k) = .tok kd tx tv n) {x2 y2 : Nat} (hp : adv (1, 1) (l.take (k + n)) = (x2, y2)) :
    RInv l (k + n) x2 y2 (ts ++ [⟨kd, tx, tv, x, y⟩]) := by
  obtain ⟨hn1, _, _⟩ := first_len hf
  refine ⟨by have := h.len; rw [List.length_append]; simp; omega, hp, ?_⟩
  rw [h.lexed, lex_token _ kd tx tv n hk hn1 ((step_first hk hs h35).trans hf), app_cons]
  rw [adv_next, h.pos] at hp
  rw [hp]
theorem RInv.err (h : RInv l k x y ts) (hk : k < l.length) (hs : isSp l[k] = false) (h35 : l[k] ≠ 35) {e : Nat} (hf : first (l.drop k) = .err e) : lex 0 (1, 1) l = .no x y e := by
  rw [h.lexed, lex_error _ e hk ((step_first hk hs h35).trans hf)]; rfl
theorem RInv.fin (h : RInv l l.length x y ts) : lex 0 (1, 1) l = .ok ts := by
  rw [h.lexed, List.drop_length, lex_nil]; simp [Res.app]
end

/-- One byte moves the position. -/
theorem pos_nl {l : List UInt8} {j x y : Nat} (hj : j < l.length) (h : adv (1, 1) (l.take j) = (x, y)) (hc : l[j].toNat = 10) : adv (1, 1) (l.take (j + 1)) = (x + 1, 1) := by
  rw [adv_step hj, h]; simp [adv1, show l[j] = 10 from UInt8.toNat_inj.1 hc]
theorem pos_go {l : List UInt8} {j x y : Nat} (hj : j < l.length) (h : adv (1, 1) (l.take j) = (x, y)) (hc : ¬ l[j].toNat = 10) : adv (1, 1) (l.take (j + 1)) = (x, y + 1) := by
  rw [adv_step hj, h]; simp [adv1]; exact fun h => hc (by rw [h]; rfl)
theorem RMid.start (w : World) : RMid w (.slice none 0 0) ((w.alloc (.cells #[.int .i64 0, .int .i64 0] 26)).alloc (.cells #[.int .i64 1, .int .i64 1] 26)) [] 1 1 := by
  refine ⟨OwnT.nil _ _, ((Below.refl _ _).alloc (Nat.le_refl _) _).alloc (by simp) _, (Below.heap_alloc _ _ _ (by simp)).trans (heap_alloc_new w _), ?_⟩
  have := heap_alloc_new (w.alloc (.cells #[.int .i64 0, .int .i64 0] 26)) (.cells #[.int .i64 1, .int .i64 1] 26)
  have e : (w.alloc (.cells #[.int .i64 0, .int .i64 0] 26)).heap.size = w.heap.size + 1 := by simp
  rw [e] at this; exact this
theorem RMid.nl {w wr : World} {v : Value} {ts : List Tok} {x y : Nat} (h : RMid w v wr ts x y) (u : Value) : RMid w v (((wr.setCell ⟨w.heap.size + 1, 1, none⟩ u).setCell ⟨w.heap.size + 1, 0, none⟩ (.int .i64 ((x : Int) + 1))).setCell ⟨w.heap.size + 1, 1, none⟩ (.int .i64 1)) ts (x + 1) 1 := by
  refine h.set (fun g hg => ?_) (((h.bel.setCell (Nat.le_succ _) _).setCell (Nat.le_succ _) _).setCell (Nat.le_succ _) _) (two_set1 (two_set0 (two_set1 h.pos u) (.int .i64 ((x : Int) + 1))) (.int .i64 1))
  rw [Below.heap_setCell _ _ _ _ hg, Below.heap_setCell _ _ _ _ hg, Below.heap_setCell _ _ _ _ hg]
theorem RMid.go {w wr : World} {v : Value} {ts : List Tok} {x y : Nat} (h : RMid w v wr ts x y) : RMid w v (wr.setCell ⟨w.heap.size + 1, 1, none⟩ (.int .i64 ((y : Int) + 1))) ts x (y + 1) := by
  refine h.set (fun g hg => ?_) (h.bel.setCell (Nat.le_succ _) _) (two_set1 h.pos (.int .i64 ((y : Int) + 1)))
  rw [Below.heap_setCell _ _ _ _ hg]
end Go.Proofs.YtmodjokoggmnaaaGreatDoor


namespace Go.Proofs.YtmodjokoggmnaaaGreatDoor

open Go.RowKit Go.Shelf

def RScanEnd (r : Res) (w : World) (e : Ending) (w' : World) : Prop :=
  match r with
  | .ok ts => ∃ v, e = .returned (.tuple #[v, .agg #[.int .i64 0, .int .i64 0], .int .i64 0]) ∧ OwnT w' (w.heap.size + 2) v (ts.map Tok.g) ∧ Below w.heap.size w w'
  | .no line col er => e = .returned (.tuple #[.slice none 0 0, .agg #[.int .i64 line, .int .i64 col], .int .i64 er]) ∧ Below w.heap.size w w'

theorem end_le {d : List UInt8} {c : UInt8} {r : List UInt8} (hd : d = c :: r) (h1 : isDig c = true) : endOf d ≤ d.length := by
  subst hd
  have hw : isWB c = true := by rw [wb_eq, h1]; simp
  have e : endOf (c :: r) = run isWB (c :: r) := by simp [endOf, hw]
  rw [e]; exact run_le
theorem letter_yes (c : UInt8) (h : isLet c = true) (w : World) : Calls Tryz.prog 97 #[.int .u8 c.toNat] w fun e w' => e = .returned (.bool true) ∧ w = w' :=
  (rLetter_any _ w (byte_bd c).1 (byte_bd c).2).mono fun e w' hh => by rw [show ltrI (c.toNat : Int) = true from h] at hh; exact hh
theorem letter_no (c : UInt8) (h : isLet c = false) (w : World) : Calls Tryz.prog 97 #[.int .u8 c.toNat] w fun e w' => e = .returned (.bool false) ∧ w = w' :=
  (rLetter_any _ w (byte_bd c).1 (byte_bd c).2).mono fun e w' hh => by rw [show ltrI (c.toNat : Int) = false from h] at hh; exact hh
theorem digit_yes (c : UInt8) (h : isDig c = true) (w : World) : Calls Tryz.prog 98 #[.int .u8 c.toNat] w fun e w' => e = .returned (.bool true) ∧ w = w' :=
  (rDigit_any _ w (byte_bd c).1 (byte_bd c).2).mono fun e w' hh => by rw [show digI (c.toNat : Int) = true from h] at hh; exact hh
theorem digit_no (c : UInt8) (h : isDig c = false) (w : World) : Calls Tryz.prog 98 #[.int .u8 c.toNat] w fun e w' => e = .returned (.bool false) ∧ w = w' :=
  (rDigit_any _ w (byte_bd c).1 (byte_bd c).2).mono fun e w' hh => by rw [show digI (c.toNat : Int) = false from h] at hh; exact hh

set_option maxRecDepth 50000 in
set_option maxHeartbeats 8000000 in
theorem rscan_any (l : List UInt8) (w : World) (hl : l.length ≤ 65536) :
    Calls Tryz.prog 55 #[.string ⟨l.toArray⟩] w (RScanEnd (lex 0 (1, 1) l) w) := by
  have HS := Lib.hid (RMid.start w)
  have hsz : (⟨l.toArray⟩ : ByteArray).size = l.length := ba_size l
  go_enter Tryz.func55, Tryz.ntmps55
  go_wp2
  go_loopw [5, 7] (fun v vi wr => ∃ (k x y : Nat) (ts : List Tok), vi = .int .i64 k ∧ k ≤ l.length ∧ Hid (RInv l k x y ts) ∧ Hid (RMid w v wr ts x y))
    (fun _ vi _ => l.length - (intOf vi).toNat)
  case atStart => exact ⟨0, 1, 1, [], rfl, Nat.zero_le _, Lib.hid (RInv.start l), HS⟩
  case round =>
    obtain ⟨k, x, y, ts, rfl, hk, HI, HM⟩ := hrel
    have hbd := HI.out.bd hl
    obtain ⟨hbx, hby⟩ := hbd
    have HPOS : Hid (adv (1, 1) (l.take k) = (x, y)) := Lib.hid HI.out.pos
    rcases Nat.lt_or_ge k l.length with hlt | hge
    · have hx : (⟨l.toArray⟩ : ByteArray)[k]'(by rw [hsz]; exact hlt) = l[k] := rfl
      have hu : ∀ m : UInt8, l[k].toNat = m.toNat → l[k] = m := fun m h => UInt8.toNat_inj.1 h
      have hsp : isSp l[k] = decide ((l[k].toNat : Int) = 32 ∨ (l[k].toNat : Int) = 9 ∨ (l[k].toNat : Int) = 10 ∨ (l[k].toNat : Int) = 13) := rfl
      by_cases h32 : l[k].toNat = 32
      · have HSP := Lib.hid fun (x2 y2 : Nat) => HI.out.sp hlt (by rw [hsp]; simp; omega) (x2 := x2) (y2 := y2)
        have f35 : ((l[k].toNat : Int) == 35) = false := by simp; omega
        have n35 : ((l[k].toNat : Int) != 35) = true := by simp; omega
        have f32 : ((l[k].toNat : Int) == 32) = true := by simp; omega
        have n32 : ((l[k].toNat : Int) != 32) = false := by simp; omega
        have f9 : ((l[k].toNat : Int) == 9) = false := by simp; omega
        have n9 : ((l[k].toNat : Int) != 9) = true := by simp; omega
        have f10 : ((l[k].toNat : Int) == 10) = false := by simp; omega
        have n10 : ((l[k].toNat : Int) != 10) = true := by simp; omega
        have f13 : ((l[k].toNat : Int) == 13) = false := by simp; omega
        have n13 : ((l[k].toNat : Int) != 13) = true := by simp; omega
        clear hu hsp
        go_wp2
        go_loopw [7] (fun vi wr => ∃ j px py : Nat, vi = .int .i64 j ∧ k ≤ j ∧ j ≤ k + 1 ∧ Hid (adv (1, 1) (l.take j) = (px, py)) ∧ Hid (RMid w u5 wr (ts) px py))
          (fun vi _ => l.length + 1 - (intOf vi).toNat)
        case atStart => exact ⟨k, x, y, rfl, Nat.le_refl _, by omega, HPOS, HM⟩
        case round =>
          obtain ⟨j, x1, y1, rfl, hkj, hje, HX, HM1⟩ := hrel
          have bd := adv_bd (l.take j) (1, 1) (Nat.le_refl _) (Nat.le_refl _)
          rw [HX.out, List.length_take] at bd
          have bx : x1 ≤ 65537 := by have := bd.2.2.1; simp at this; omega
          have by' : y1 ≤ 65537 := by have := bd.2.2.2; simp at this; omega
          clear bd
          have d0 : wr.cell? ⟨w.heap.size + 1, 0, none⟩ = some (.int .i64 x1) := by simp [World.cell?, HM1.out.pos]
          have d1 : wr.cell? ⟨w.heap.size + 1, 1, none⟩ = some (.int .i64 y1) := by simp [World.cell?, HM1.out.pos]
          have z1 : ∀ i, wr.frozen? ⟨w.heap.size + 1, i, none⟩ = false := fun i => by simp [World.frozen?, HM1.out.pos]
          rcases Nat.lt_or_ge j (k + 1) with hlt1 | hge1
          · have hjl : j < l.length := by omega
            have hxj : (⟨l.toArray⟩ : ByteArray)[j]'(by rw [hsz]; exact hjl) = l[j] := rfl
            by_cases h10j : l[j].toNat = 10
            · have f10j : ((l[j].toNat : Int) == 10) = true := by simp; omega
              have HA := Lib.hid (pos_nl hjl HX.out h10j)
              have HM2 := Lib.hid (HM1.out.nl (.int .i64 ((y1 : Int) + 1)))
              go_wp2
              go_roundw
              case rel => exact ⟨j + 1, x1 + 1, 1, by go_num, by omega, by omega, HA, HM2⟩
              case measure => simp [intOf]; omega
            · have f10j : ((l[j].toNat : Int) == 10) = false := by simp; omega
              have HA := Lib.hid (pos_go hjl HX.out h10j)
              have HM2 := Lib.hid HM1.out.go
              go_wp2
              go_roundw
              case rel => exact ⟨j + 1, x1, y1 + 1, by go_num, by omega, by omega, HA, HM2⟩
              case measure => simp [intOf]; omega
          · have hje' : j = k + 1 := by omega
            have HR2 : Hid (RInv l j x1 y1 (ts)) := Lib.hid (by have h := HX.out; rw [hje'] at h ⊢; exact HSP.out _ _ h)
            go_wp2
            go_roundw
            case rel => exact ⟨j, x1, y1, ts, by go_num, by omega, HR2, HM1⟩
            case measure => simp [intOf]; omega
      by_cases h9 : l[k].toNat = 9
      · have HSP := Lib.hid fun (x2 y2 : Nat) => HI.out.sp hlt (by rw [hsp]; simp; omega) (x2 := x2) (y2 := y2)
        have f35 : ((l[k].toNat : Int) == 35) = false := by simp; omega
        have n35 : ((l[k].toNat : Int) != 35) = true := by simp; omega
        have f32 : ((l[k].toNat : Int) == 32) = false := by simp; omega
        have n32 : ((l[k].toNat : Int) != 32) = true := by simp; omega
        have f9 : ((l[k].toNat : Int) == 9) = true := by simp; omega
        have n9 : ((l[k].toNat : Int) != 9) = false := by simp; omega
        have f10 : ((l[k].toNat : Int) == 10) = false := by simp; omega
        have n10 : ((l[k].toNat : Int) != 10) = true := by simp; omega
        have f13 : ((l[k].toNat : Int) == 13) = false := by simp; omega
        have n13 : ((l[k].toNat : Int) != 13) = true := by simp; omega
        clear hu hsp
        go_wp2
        go_loopw [7] (fun vi wr => ∃ j px py : Nat, vi = .int .i64 j ∧ k ≤ j ∧ j ≤ k + 1 ∧ Hid (adv (1, 1) (l.take j) = (px, py)) ∧ Hid (RMid w u5 wr (ts) px py))
          (fun vi _ => l.length + 1 - (intOf vi).toNat)
        case atStart => exact ⟨k, x, y, rfl, Nat.le_refl _, by omega, HPOS, HM⟩
        case round =>
          obtain ⟨j, x1, y1, rfl, hkj, hje, HX, HM1⟩ := hrel
          have bd := adv_bd (l.take j) (1, 1) (Nat.le_refl _) (Nat.le_refl _)
          rw [HX.out, List.length_take] at bd
          have bx : x1 ≤ 65537 := by have := bd.2.2.1; simp at this; omega
          have by' : y1 ≤ 65537 := by have := bd.2.2.2; simp at this; omega
          clear bd
          have d0 : wr.cell? ⟨w.heap.size + 1, 0, none⟩ = some (.int .i64 x1) := by simp [World.cell?, HM1.out.pos]
          have d1 : wr.cell? ⟨w.heap.size + 1, 1, none⟩ = some (.int .i64 y1) := by simp [World.cell?, HM1.out.pos]
          have z1 : ∀ i, wr.frozen? ⟨w.heap.size + 1, i, none⟩ = false := fun i => by simp [World.frozen?, HM1.out.pos]
          rcases Nat.lt_or_ge j (k + 1) with hlt1 | hge1
          · have hjl : j < l.length := by omega
            have hxj : (⟨l.toArray⟩ : ByteArray)[j]'(by rw [hsz]; exact hjl) = l[j] := rfl
            by_cases h10j : l[j].toNat = 10
            · have f10j : ((l[j].toNat : Int) == 10) = true := by simp; omega
              have HA := Lib.hid (pos_nl hjl HX.out h10j)
              have HM2 := Lib.hid (HM1.out.nl (.int .i64 ((y1 : Int) + 1)))
              go_wp2
              go_roundw
              case rel => exact ⟨j + 1, x1 + 1, 1, by go_num, by omega, by omega, HA, HM2⟩
              case measure => simp [intOf]; omega
            · have f10j : ((l[j].toNat : Int) == 10) = false := by simp; omega
              have HA := Lib.hid (pos_go hjl HX.out h10j)
              have HM2 := Lib.hid HM1.out.go
              go_wp2
              go_roundw
              case rel => exact ⟨j + 1, x1, y1 + 1, by go_num, by omega, by omega, HA, HM2⟩
              case measure => simp [intOf]; omega
          · have hje' : j = k + 1 := by omega
            have HR2 : Hid (RInv l j x1 y1 (ts)) := Lib.hid (by have h := HX.out; rw [hje'] at h ⊢; exact HSP.out _ _ h)
            go_wp2
            go_roundw
            case rel => exact ⟨j, x1, y1, ts, by go_num, by omega, HR2, HM1⟩
            case measure => simp [intOf]; omega
      by_cases h10 : l[k].toNat = 10
      · have HSP := Lib.hid fun (x2 y2 : Nat) => HI.out.sp hlt (by rw [hsp]; simp; omega) (x2 := x2) (y2 := y2)
        have f35 : ((l[k].toNat : Int) == 35) = false := by simp; omega
        have n35 : ((l[k].toNat : Int) != 35) = true := by simp; omega
        have f32 : ((l[k].toNat : Int) == 32) = false := by simp; omega
        have n32 : ((l[k].toNat : Int) != 32) = true := by simp; omega
        have f9 : ((l[k].toNat : Int) == 9) = false := by simp; omega
        have n9 : ((l[k].toNat : Int) != 9) = true := by simp; omega
        have f10 : ((l[k].toNat : Int) == 10) = true := by simp; omega
        have n10 : ((l[k].toNat : Int) != 10) = false := by simp; omega
        have f13 : ((l[k].toNat : Int) == 13) = false := by simp; omega
        have n13 : ((l[k].toNat : Int) != 13) = true := by simp; omega
        clear hu hsp
        go_wp2
        go_loopw [7] (fun vi wr => ∃ j px py : Nat, vi = .int .i64 j ∧ k ≤ j ∧ j ≤ k + 1 ∧ Hid (adv (1, 1) (l.take j) = (px, py)) ∧ Hid (RMid w u5 wr (ts) px py))
          (fun vi _ => l.length + 1 - (intOf vi).toNat)
        case atStart => exact ⟨k, x, y, rfl, Nat.le_refl _, by omega, HPOS, HM⟩
        case round =>
          obtain ⟨j, x1, y1, rfl, hkj, hje, HX, HM1⟩ := hrel
          have bd := adv_bd (l.take j) (1, 1) (Nat.le_refl _) (Nat.le_refl _)
          rw [HX.out, List.length_take] at bd
          have bx : x1 ≤ 65537 := by have := bd.2.2.1; simp at this; omega
          have by' : y1 ≤ 65537 := by have := bd.2.2.2; simp at this; omega
          clear bd
          have d0 : wr.cell? ⟨w.heap.size + 1, 0, none⟩ = some (.int .i64 x1) := by simp [World.cell?, HM1.out.pos]
          have d1 : wr.cell? ⟨w.heap.size + 1, 1, none⟩ = some (.int .i64 y1) := by simp [World.cell?, HM1.out.pos]
          have z1 : ∀ i, wr.frozen? ⟨w.heap.size + 1, i, none⟩ = false := fun i => by simp [World.frozen?, HM1.out.pos]
          rcases Nat.lt_or_ge j (k + 1) with hlt1 | hge1
          · have hjl : j < l.length := by omega
            have hxj : (⟨l.toArray⟩ : ByteArray)[j]'(by rw [hsz]; exact hjl) = l[j] := rfl
            by_cases h10j : l[j].toNat = 10
            · have f10j : ((l[j].toNat : Int) == 10) = true := by simp; omega
              have HA := Lib.hid (pos_nl hjl HX.out h10j)
              have HM2 := Lib.hid (HM1.out.nl (.int .i64 ((y1 : Int) + 1)))
              go_wp2
              go_roundw
              case rel => exact ⟨j + 1, x1 + 1, 1, by go_num, by omega, by omega, HA, HM2⟩
              case measure => simp [intOf]; omega
            · have f10j : ((l[j].toNat : Int) == 10) = false := by simp; omega
              have HA := Lib.hid (pos_go hjl HX.out h10j)
              have HM2 := Lib.hid HM1.out.go
              go_wp2
              go_roundw
              case rel => exact ⟨j + 1, x1, y1 + 1, by go_num, by omega, by omega, HA, HM2⟩
              case measure => simp [intOf]; omega
          · have hje' : j = k + 1 := by omega
            have HR2 : Hid (RInv l j x1 y1 (ts)) := Lib.hid (by have h := HX.out; rw [hje'] at h ⊢; exact HSP.out _ _ h)
            go_wp2
            go_roundw
            case rel => exact ⟨j, x1, y1, ts, by go_num, by omega, HR2, HM1⟩
            case measure => simp [intOf]; omega
      by_cases h13 : l[k].toNat = 13
      · have HSP := Lib.hid fun (x2 y2 : Nat) => HI.out.sp hlt (by rw [hsp]; simp; omega) (x2 := x2) (y2 := y2)
        have f35 : ((l[k].toNat : Int) == 35) = false := by simp; omega
        have n35 : ((l[k].toNat : Int) != 35) = true := by simp; omega
        have f32 : ((l[k].toNat : Int) == 32) = false := by simp; omega
        have n32 : ((l[k].toNat : Int) != 32) = true := by simp; omega
        have f9 : ((l[k].toNat : Int) == 9) = false := by simp; omega
        have n9 : ((l[k].toNat : Int) != 9) = true := by simp; omega
        have f10 : ((l[k].toNat : Int) == 10) = false := by simp; omega
        have n10 : ((l[k].toNat : Int) != 10) = true := by simp; omega
        have f13 : ((l[k].toNat : Int) == 13) = true := by simp; omega
        have n13 : ((l[k].toNat : Int) != 13) = false := by simp; omega
        clear hu hsp
        go_wp2
        go_loopw [7] (fun vi wr => ∃ j px py : Nat, vi = .int .i64 j ∧ k ≤ j ∧ j ≤ k + 1 ∧ Hid (adv (1, 1) (l.take j) = (px, py)) ∧ Hid (RMid w u5 wr (ts) px py))
          (fun vi _ => l.length + 1 - (intOf vi).toNat)
        case atStart => exact ⟨k, x, y, rfl, Nat.le_refl _, by omega, HPOS, HM⟩
        case round =>
          obtain ⟨j, x1, y1, rfl, hkj, hje, HX, HM1⟩ := hrel
          have bd := adv_bd (l.take j) (1, 1) (Nat.le_refl _) (Nat.le_refl _)
          rw [HX.out, List.length_take] at bd
          have bx : x1 ≤ 65537 := by have := bd.2.2.1; simp at this; omega
          have by' : y1 ≤ 65537 := by have := bd.2.2.2; simp at this; omega
          clear bd
          have d0 : wr.cell? ⟨w.heap.size + 1, 0, none⟩ = some (.int .i64 x1) := by simp [World.cell?, HM1.out.pos]
          have d1 : wr.cell? ⟨w.heap.size + 1, 1, none⟩ = some (.int .i64 y1) := by simp [World.cell?, HM1.out.pos]
          have z1 : ∀ i, wr.frozen? ⟨w.heap.size + 1, i, none⟩ = false := fun i => by simp [World.frozen?, HM1.out.pos]
          rcases Nat.lt_or_ge j (k + 1) with hlt1 | hge1
          · have hjl : j < l.length := by omega
            have hxj : (⟨l.toArray⟩ : ByteArray)[j]'(by rw [hsz]; exact hjl) = l[j] := rfl
            by_cases h10j : l[j].toNat = 10
            · have f10j : ((l[j].toNat : Int) == 10) = true := by simp; omega
              have HA := Lib.hid (pos_nl hjl HX.out h10j)
              have HM2 := Lib.hid (HM1.out.nl (.int .i64 ((y1 : Int) + 1)))
              go_wp2
              go_roundw
              case rel => exact ⟨j + 1, x1 + 1, 1, by go_num, by omega, by omega, HA, HM2⟩
              case measure => simp [intOf]; omega
            · have f10j : ((l[j].toNat : Int) == 10) = false := by simp; omega
              have HA := Lib.hid (pos_go hjl HX.out h10j)
              have HM2 := Lib.hid HM1.out.go
              go_wp2
              go_roundw
              case rel => exact ⟨j + 1, x1, y1 + 1, by go_num, by omega, by omega, HA, HM2⟩
              case measure => simp [intOf]; omega
          · have hje' : j = k + 1 := by omega
            have HR2 : Hid (RInv l j x1 y1 (ts)) := Lib.hid (by have h := HX.out; rw [hje'] at h ⊢; exact HSP.out _ _ h)
            go_wp2
            go_roundw
            case rel => exact ⟨j, x1, y1, ts, by go_num, by omega, HR2, HM1⟩
            case measure => simp [intOf]; omega
      by_cases h35 : l[k].toNat = 35
      · have HCM := Lib.hid fun (x2 y2 : Nat) => HI.out.cm hlt (hu 35 h35) (x2 := x2) (y2 := y2)
        have f35 : ((l[k].toNat : Int) == 35) = true := by simp; omega
        have n35 : ((l[k].toNat : Int) != 35) = false := by simp; omega
        have f32 : ((l[k].toNat : Int) == 32) = false := by simp; omega
        have n32 : ((l[k].toNat : Int) != 32) = true := by simp; omega
        have f9 : ((l[k].toNat : Int) == 9) = false := by simp; omega
        have n9 : ((l[k].toNat : Int) != 9) = true := by simp; omega
        have f10 : ((l[k].toNat : Int) == 10) = false := by simp; omega
        have n10 : ((l[k].toNat : Int) != 10) = true := by simp; omega
        have f13 : ((l[k].toNat : Int) == 13) = false := by simp; omega
        have n13 : ((l[k].toNat : Int) != 13) = true := by simp; omega
        have hr0 : 1 ≤ run notNl (l.drop k) := by rw [drop_cons hlt, run_cons_pos (by rw [hu 35 h35]; rfl)]; omega
        have hrl := @run_le notNl (l.drop k)
        rw [List.length_drop] at hrl
        clear hu hsp
        go_wp2
        go_loop [9] (fun vk => ∃ q : Nat, vk = .int .i64 q ∧ k + 1 ≤ q ∧ q ≤ l.length ∧ Hid (q - k ≤ run notNl (l.drop k))) (fun vk => l.length + 1 - (intOf vk).toNat)
        case atStart => exact ⟨k + 1, by go_num, Nat.le_refl _, by omega, Lib.hid (by omega)⟩
        case round =>
          obtain ⟨q, rfl, hkq, hql, HQ⟩ := hrel
          rcases Nat.lt_or_ge q l.length with hql2 | hqg
          · have hxq : (⟨l.toArray⟩ : ByteArray)[q]'(by rw [hsz]; exact hql2) = l[q] := rfl
            by_cases hq10 : l[q].toNat = 10
            · have nq : ((l[q].toNat : Int) != 10) = false := by simp; omega
              have hqe := off_stop (p := notNl) (by omega) hql2 HQ.out (by rw [show l[q] = 10 from UInt8.toNat_inj.1 hq10]; rfl)
              have HSP : Hid (∀ x2 y2 : Nat, adv (1, 1) (l.take q) = (x2, y2) → RInv l q x2 y2 ts) := Lib.hid (fun x2 y2 h => by rw [hqe] at h ⊢; exact HCM.out _ _ h)
              clear hqe HCM hr0 hrl
              go_wp2
              go_loopw [7] (fun vi wr => ∃ j px py : Nat, vi = .int .i64 j ∧ k ≤ j ∧ j ≤ q ∧ Hid (adv (1, 1) (l.take j) = (px, py)) ∧ Hid (RMid w u5 wr (ts) px py))
                (fun vi _ => l.length + 1 - (intOf vi).toNat)
              case atStart => exact ⟨k, x, y, rfl, Nat.le_refl _, by omega, HPOS, HM⟩
              case round =>
                obtain ⟨j, x1, y1, rfl, hkj, hje, HX, HM1⟩ := hrel
                have bd := adv_bd (l.take j) (1, 1) (Nat.le_refl _) (Nat.le_refl _)
                rw [HX.out, List.length_take] at bd
                have bx : x1 ≤ 65537 := by have := bd.2.2.1; simp at this; omega
                have by' : y1 ≤ 65537 := by have := bd.2.2.2; simp at this; omega
                clear bd
                have d0 : wr.cell? ⟨w.heap.size + 1, 0, none⟩ = some (.int .i64 x1) := by simp [World.cell?, HM1.out.pos]
                have d1 : wr.cell? ⟨w.heap.size + 1, 1, none⟩ = some (.int .i64 y1) := by simp [World.cell?, HM1.out.pos]
                have z1 : ∀ i, wr.frozen? ⟨w.heap.size + 1, i, none⟩ = false := fun i => by simp [World.frozen?, HM1.out.pos]
                rcases Nat.lt_or_ge j (q) with hlt1 | hge1
                · have hjl : j < l.length := by omega
                  have hxj : (⟨l.toArray⟩ : ByteArray)[j]'(by rw [hsz]; exact hjl) = l[j] := rfl
                  by_cases h10j : l[j].toNat = 10
                  · have f10j : ((l[j].toNat : Int) == 10) = true := by simp; omega
                    have HA := Lib.hid (pos_nl hjl HX.out h10j)
                    have HM2 := Lib.hid (HM1.out.nl (.int .i64 ((y1 : Int) + 1)))
                    go_wp2
                    go_roundw
                    case rel => exact ⟨j + 1, x1 + 1, 1, by go_num, by omega, by omega, HA, HM2⟩
                    case measure => simp [intOf]; omega
                  · have f10j : ((l[j].toNat : Int) == 10) = false := by simp; omega
                    have HA := Lib.hid (pos_go hjl HX.out h10j)
                    have HM2 := Lib.hid HM1.out.go
                    go_wp2
                    go_roundw
                    case rel => exact ⟨j + 1, x1, y1 + 1, by go_num, by omega, by omega, HA, HM2⟩
                    case measure => simp [intOf]; omega
                · have hje' : j = q := by omega
                  have HR2 : Hid (RInv l j x1 y1 (ts)) := Lib.hid (by have h := HX.out; rw [hje'] at h ⊢; exact HSP.out _ _ h)
                  go_wp2
                  go_roundw
                  case rel => exact ⟨j, x1, y1, ts, by go_num, by omega, HR2, HM1⟩
                  case measure => simp [intOf]; omega
            · have nq : ((l[q].toNat : Int) != 10) = true := by simp; omega
              have HQ2 := Lib.hid (off_go (p := notNl) (by omega) hql2 HQ.out (by simp [notNl]; exact fun h => hq10 (by rw [h]; rfl)))
              go_wp2
              go_round
              case rel => exact ⟨q + 1, by go_num, by omega, by omega, HQ2⟩
              case measure => simp [intOf]; omega
          · have hqe := off_end (p := notNl) (by omega) hqg HQ.out
            have HSP : Hid (∀ x2 y2 : Nat, adv (1, 1) (l.take q) = (x2, y2) → RInv l q x2 y2 ts) := Lib.hid (fun x2 y2 h => by rw [hqe] at h ⊢; exact HCM.out _ _ h)
            clear hqe HCM hr0 hrl
            go_wp2
            go_loopw [7] (fun vi wr => ∃ j px py : Nat, vi = .int .i64 j ∧ k ≤ j ∧ j ≤ q ∧ Hid (adv (1, 1) (l.take j) = (px, py)) ∧ Hid (RMid w u5 wr (ts) px py))
              (fun vi _ => l.length + 1 - (intOf vi).toNat)
            case atStart => exact ⟨k, x, y, rfl, Nat.le_refl _, by omega, HPOS, HM⟩
            case round =>
              obtain ⟨j, x1, y1, rfl, hkj, hje, HX, HM1⟩ := hrel
              have bd := adv_bd (l.take j) (1, 1) (Nat.le_refl _) (Nat.le_refl _)
              rw [HX.out, List.length_take] at bd
              have bx : x1 ≤ 65537 := by have := bd.2.2.1; simp at this; omega
              have by' : y1 ≤ 65537 := by have := bd.2.2.2; simp at this; omega
              clear bd
              have d0 : wr.cell? ⟨w.heap.size + 1, 0, none⟩ = some (.int .i64 x1) := by simp [World.cell?, HM1.out.pos]
              have d1 : wr.cell? ⟨w.heap.size + 1, 1, none⟩ = some (.int .i64 y1) := by simp [World.cell?, HM1.out.pos]
              have z1 : ∀ i, wr.frozen? ⟨w.heap.size + 1, i, none⟩ = false := fun i => by simp [World.frozen?, HM1.out.pos]
              rcases Nat.lt_or_ge j (q) with hlt1 | hge1
              · have hjl : j < l.length := by omega
                have hxj : (⟨l.toArray⟩ : ByteArray)[j]'(by rw [hsz]; exact hjl) = l[j] := rfl
                by_cases h10j : l[j].toNat = 10
                · have f10j : ((l[j].toNat : Int) == 10) = true := by simp; omega
                  have HA := Lib.hid (pos_nl hjl HX.out h10j)
                  have HM2 := Lib.hid (HM1.out.nl (.int .i64 ((y1 : Int) + 1)))
                  go_wp2
                  go_roundw
                  case rel => exact ⟨j + 1, x1 + 1, 1, by go_num, by omega, by omega, HA, HM2⟩
                  case measure => simp [intOf]; omega
                · have f10j : ((l[j].toNat : Int) == 10) = false := by simp; omega
                  have HA := Lib.hid (pos_go hjl HX.out h10j)
                  have HM2 := Lib.hid HM1.out.go
                  go_wp2
                  go_roundw
                  case rel => exact ⟨j + 1, x1, y1 + 1, by go_num, by omega, by omega, HA, HM2⟩
                  case measure => simp [intOf]; omega
              · have hje' : j = q := by omega
                have HR2 : Hid (RInv l j x1 y1 (ts)) := Lib.hid (by have h := HX.out; rw [hje'] at h ⊢; exact HSP.out _ _ h)
                go_wp2
                go_roundw
                case rel => exact ⟨j, x1, y1, ts, by go_num, by omega, HR2, HM1⟩
                case measure => simp [intOf]; omega
      have hsp0 : isSp l[k] = false := by rw [hsp]; simp; omega
      have h35' : l[k] ≠ 35 := fun h => h35 (by rw [h]; rfl)
      have f35 : ((l[k].toNat : Int) == 35) = false := by simp; omega
      have n35 : ((l[k].toNat : Int) != 35) = true := by simp; omega
      have f32 : ((l[k].toNat : Int) == 32) = false := by simp; omega
      have n32 : ((l[k].toNat : Int) != 32) = true := by simp; omega
      have f9 : ((l[k].toNat : Int) == 9) = false := by simp; omega
      have n9 : ((l[k].toNat : Int) != 9) = true := by simp; omega
      have f10 : ((l[k].toNat : Int) == 10) = false := by simp; omega
      have n10 : ((l[k].toNat : Int) != 10) = true := by simp; omega
      have f13 : ((l[k].toNat : Int) == 13) = false := by simp; omega
      have n13 : ((l[k].toNat : Int) != 13) = true := by simp; omega
      have HC := Lib.hid fun W => end_any l k hlt hl W
      have hdc := drop_cons hlt
      have hb := byte_bd l[k]
      have hwl := HM.out.lt
      by_cases h34 : l[k] = 34
      · rw [h34] at hdc
        have hes := end_str hdc
        generalize endOf (l.drop k) = m at *
        rcases hes with ⟨hm0, hfe⟩ | ⟨hm2, hml, hft⟩
        · have fm : ((k : Int) + (m : Nat) == (k : Int)) = true := by simp; omega
          have HE := Lib.hid (HI.out.err hlt hsp0 h35' hfe)
          clear hu hsp hdc hfe hsp0 h35'
          go_wp2_with fail
          refine (HC.out _).mono ?_
          rintro e w1 ⟨rfl, hb1⟩
          have HM1 := Lib.hid (HM.out.below hb1)
          clear hb1
          have d0 : w1.cell? ⟨w.heap.size + 1, 0, none⟩ = some (.int .i64 x) := by simp [World.cell?, HM1.out.pos]
          have d1 : w1.cell? ⟨w.heap.size + 1, 1, none⟩ = some (.int .i64 y) := by simp [World.cell?, HM1.out.pos]
          have c0 : w1.cell? ⟨w.heap.size, 0, none⟩ = some (.int .i64 0) := by simp [World.cell?, HM1.out.res]
          have c1 : w1.cell? ⟨w.heap.size, 1, none⟩ = some (.int .i64 0) := by simp [World.cell?, HM1.out.res]
          have z0 : ∀ j, w1.frozen? ⟨w.heap.size, j, none⟩ = false := fun j => by simp [World.frozen?, HM1.out.res]
          have hl1 := HM1.out.lt
          go_wp2
          go_region
          all_goals go_wp2
          refine bodyPost_ret (v := .tuple #[.slice none 0 0, .agg #[.int .i64 (x : Int), .int .i64 (y : Int)], .int .i64 50]) (by simp [results, Tryz.results55, go_sem, c0, c1]) rfl ?_
          rw [HE.out]
          exact ⟨rfl, by first | exact (((HM1.out.bel.setCell (Nat.le_refl _) _).setCell (Nat.le_refl _) _).alloc (by simp; omega) _).drew | exact ((HM1.out.bel.setCell (Nat.le_refl _) _).setCell (Nat.le_refl _) _).drew | exact (HM1.out.bel.setCell (Nat.le_refl _) _).setCell (Nat.le_refl _) _⟩
        · have hml2 : m ≤ l.length - k := by rw [List.length_drop] at hml; exact hml
          have hm1 : 1 ≤ m := by omega
          have hsl2 := fun W => slice_run l (k + 1) (k + (m - 1)) (by omega) (by omega) ((k : Int) + 1) ((k : Int) + (m : Nat) - 1) (by omega) (by omega) W
          rw [show (l.take (k + (m - 1))).drop (k + 1) = ((l.drop k).take (m - 1)).drop 1 by rw [List.drop_take, List.drop_take, List.drop_drop, show k + (m - 1) - (k + 1) = m - 1 - 1 by omega]] at hsl2
          generalize ((l.drop k).take (m - 1)).drop 1 = tx3 at *
          clear hml
          have hmk : k + m ≤ l.length := by omega
          have fm : ((k : Int) + (m : Nat) == (k : Int)) = false := by simp; omega
          have HTK := Lib.hid fun (x2 y2 : Nat) => HI.out.tok hlt hsp0 h35' hft (x2 := x2) (y2 := y2)
          have HTL : Hid (ts.length ≤ 1000000) := Lib.hid (by have := HI.out.len; omega)
          have hsl := fun W => slice_run l k (k + m) (by omega) hmk (k : Int) ((k : Int) + (m : Nat)) rfl (by omega) W
          rw [show (l.take (k + m)).drop k = (l.drop k).take m by rw [List.drop_take]; congr 1; omega] at hsl
          have HL := Lib.hid (letter_no l[k] (by rw [h34]; rfl))
          have f34 : ((l[k].toNat : Int) == 34) = true := by rw [h34]; rfl
          clear h34
          clear hu hsp hdc hft hsp0 h35'
          go_wp2_with fail
          refine (HC.out _).mono ?_
          rintro e w1 ⟨rfl, hb1⟩
          have HM1 := Lib.hid (HM.out.below hb1)
          clear hb1
          have d0 : w1.cell? ⟨w.heap.size + 1, 0, none⟩ = some (.int .i64 x) := by simp [World.cell?, HM1.out.pos]
          have d1 : w1.cell? ⟨w.heap.size + 1, 1, none⟩ = some (.int .i64 y) := by simp [World.cell?, HM1.out.pos]
          have hl1 := HM1.out.lt
          go_wp2
          go_region
          go_wp2_with (first | (go_at_call 97; refine (HL.out _).mono ?_; rintro e w2 ⟨rfl, rfl⟩) | (at_builtin; refine wpList_push (w.heap.size + 2) u5 (ts.map Tok.g) (w1.heap.size + 1) ⟨3, tx3, 0, x, y⟩ 1 (HM1.out.own.below (Nat.le_refl _) ?ob) (lit_cells _ _ _ (by simp)) (by rw [List.length_map]; exact HTL.out) (by simp; omega) rfl _ _ rfl rfl rfl ?_))
          case ob => exact ((((Below.refl _ _).alloc (Nat.le_refl _) _).alloc (by simp) _).drew)
          intro v2 w2 hown2 hg2
          have HQ := Lib.hid ((HM1.out.below ((((Below.refl _ _).alloc (Nat.le_refl _) _).alloc (by simp) _).drew)).push (t := ⟨3, tx3, 0, x, y⟩) hown2 hg2)
          clear hown2 hg2 hsl d0 d1 hsl2
          go_wp2
          go_loopw [7] (fun vi wr => ∃ j px py : Nat, vi = .int .i64 j ∧ k ≤ j ∧ j ≤ k + m ∧ Hid (adv (1, 1) (l.take j) = (px, py)) ∧ Hid (RMid w v2 wr (ts ++ [⟨3, tx3, 0, x, y⟩]) px py))
            (fun vi _ => l.length + 1 - (intOf vi).toNat)
          case atStart => exact ⟨k, x, y, rfl, Nat.le_refl _, by omega, HPOS, HQ⟩
          case round =>
            obtain ⟨j, x1, y1, rfl, hkj, hje, HX, HM1⟩ := hrel
            have bd := adv_bd (l.take j) (1, 1) (Nat.le_refl _) (Nat.le_refl _)
            rw [HX.out, List.length_take] at bd
            have bx : x1 ≤ 65537 := by have := bd.2.2.1; simp at this; omega
            have by' : y1 ≤ 65537 := by have := bd.2.2.2; simp at this; omega
            clear bd
            have d0 : wr.cell? ⟨w.heap.size + 1, 0, none⟩ = some (.int .i64 x1) := by simp [World.cell?, HM1.out.pos]
            have d1 : wr.cell? ⟨w.heap.size + 1, 1, none⟩ = some (.int .i64 y1) := by simp [World.cell?, HM1.out.pos]
            have z1 : ∀ i, wr.frozen? ⟨w.heap.size + 1, i, none⟩ = false := fun i => by simp [World.frozen?, HM1.out.pos]
            rcases Nat.lt_or_ge j (k + m) with hlt1 | hge1
            · have hjl : j < l.length := by omega
              have hxj : (⟨l.toArray⟩ : ByteArray)[j]'(by rw [hsz]; exact hjl) = l[j] := rfl
              by_cases h10j : l[j].toNat = 10
              · have f10j : ((l[j].toNat : Int) == 10) = true := by simp; omega
                have HA := Lib.hid (pos_nl hjl HX.out h10j)
                have HM2 := Lib.hid (HM1.out.nl (.int .i64 ((y1 : Int) + 1)))
                go_wp2
                go_roundw
                case rel => exact ⟨j + 1, x1 + 1, 1, by go_num, by omega, by omega, HA, HM2⟩
                case measure => simp [intOf]; omega
              · have f10j : ((l[j].toNat : Int) == 10) = false := by simp; omega
                have HA := Lib.hid (pos_go hjl HX.out h10j)
                have HM2 := Lib.hid HM1.out.go
                go_wp2
                go_roundw
                case rel => exact ⟨j + 1, x1, y1 + 1, by go_num, by omega, by omega, HA, HM2⟩
                case measure => simp [intOf]; omega
            · have hje' : j = k + m := by omega
              have HR2 : Hid (RInv l j x1 y1 (ts ++ [⟨3, tx3, 0, x, y⟩])) := Lib.hid (by have h := HX.out; rw [hje'] at h ⊢; exact HTK.out _ _ h)
              go_wp2
              go_roundw
              case rel => exact ⟨j, x1, y1, ts ++ [⟨3, tx3, 0, x, y⟩], by go_num, by omega, HR2, HM1⟩
              case measure => simp [intOf]; omega
      by_cases hlet : isLet l[k] = true
      · have hes := end_word hdc hlet
        obtain ⟨hft, hm1⟩ := hes
        have hml := (first_len hft).2.1
        rw [List.length_drop] at hml
        generalize endOf (l.drop k) = m at *
        have hmk : k + m ≤ l.length := by omega
        have fm : ((k : Int) + (m : Nat) == (k : Int)) = false := by simp; omega
        have HTK := Lib.hid fun (x2 y2 : Nat) => HI.out.tok hlt hsp0 h35' hft (x2 := x2) (y2 := y2)
        have HTL : Hid (ts.length ≤ 1000000) := Lib.hid (by have := HI.out.len; omega)
        have hsl := fun W => slice_run l k (k + m) (by omega) hmk (k : Int) ((k : Int) + (m : Nat)) rfl (by omega) W
        rw [show (l.take (k + m)).drop k = (l.drop k).take m by rw [List.drop_take]; congr 1; omega] at hsl
        have HL := Lib.hid (letter_yes l[k] hlet)
        clear hu hsp hdc hft hsp0 h35'
        go_wp2_with fail
        refine (HC.out _).mono ?_
        rintro e w1 ⟨rfl, hb1⟩
        have HM1 := Lib.hid (HM.out.below hb1)
        clear hb1
        have d0 : w1.cell? ⟨w.heap.size + 1, 0, none⟩ = some (.int .i64 x) := by simp [World.cell?, HM1.out.pos]
        have d1 : w1.cell? ⟨w.heap.size + 1, 1, none⟩ = some (.int .i64 y) := by simp [World.cell?, HM1.out.pos]
        have hl1 := HM1.out.lt
        go_wp2
        go_region
        go_wp2_with (first | (go_at_call 97; refine (HL.out _).mono ?_; rintro e w2 ⟨rfl, rfl⟩) | (at_builtin; refine wpList_push (w.heap.size + 2) u5 (ts.map Tok.g) (w1.heap.size + 1) ⟨1, (l.drop k).take m, 0, x, y⟩ 1 (HM1.out.own.below (Nat.le_refl _) ?ob) (lit_cells _ _ _ (by simp)) (by rw [List.length_map]; exact HTL.out) (by simp; omega) rfl _ _ rfl rfl rfl ?_))
        case ob => exact ((((Below.refl _ _).alloc (Nat.le_refl _) _).alloc (by simp) _).drew)
        intro v2 w2 hown2 hg2
        have HQ := Lib.hid ((HM1.out.below ((((Below.refl _ _).alloc (Nat.le_refl _) _).alloc (by simp) _).drew)).push (t := ⟨1, (l.drop k).take m, 0, x, y⟩) hown2 hg2)
        clear hown2 hg2 hsl d0 d1
        go_wp2
        go_loopw [7] (fun vi wr => ∃ j px py : Nat, vi = .int .i64 j ∧ k ≤ j ∧ j ≤ k + m ∧ Hid (adv (1, 1) (l.take j) = (px, py)) ∧ Hid (RMid w v2 wr (ts ++ [⟨1, (l.drop k).take m, 0, x, y⟩]) px py))
          (fun vi _ => l.length + 1 - (intOf vi).toNat)
        case atStart => exact ⟨k, x, y, rfl, Nat.le_refl _, by omega, HPOS, HQ⟩
        case round =>
          obtain ⟨j, x1, y1, rfl, hkj, hje, HX, HM1⟩ := hrel
          have bd := adv_bd (l.take j) (1, 1) (Nat.le_refl _) (Nat.le_refl _)
          rw [HX.out, List.length_take] at bd
          have bx : x1 ≤ 65537 := by have := bd.2.2.1; simp at this; omega
          have by' : y1 ≤ 65537 := by have := bd.2.2.2; simp at this; omega
          clear bd
          have d0 : wr.cell? ⟨w.heap.size + 1, 0, none⟩ = some (.int .i64 x1) := by simp [World.cell?, HM1.out.pos]
          have d1 : wr.cell? ⟨w.heap.size + 1, 1, none⟩ = some (.int .i64 y1) := by simp [World.cell?, HM1.out.pos]
          have z1 : ∀ i, wr.frozen? ⟨w.heap.size + 1, i, none⟩ = false := fun i => by simp [World.frozen?, HM1.out.pos]
          rcases Nat.lt_or_ge j (k + m) with hlt1 | hge1
          · have hjl : j < l.length := by omega
            have hxj : (⟨l.toArray⟩ : ByteArray)[j]'(by rw [hsz]; exact hjl) = l[j] := rfl
            by_cases h10j : l[j].toNat = 10
            · have f10j : ((l[j].toNat : Int) == 10) = true := by simp; omega
              have HA := Lib.hid (pos_nl hjl HX.out h10j)
              have HM2 := Lib.hid (HM1.out.nl (.int .i64 ((y1 : Int) + 1)))
              go_wp2
              go_roundw
              case rel => exact ⟨j + 1, x1 + 1, 1, by go_num, by omega, by omega, HA, HM2⟩
              case measure => simp [intOf]; omega
            · have f10j : ((l[j].toNat : Int) == 10) = false := by simp; omega
              have HA := Lib.hid (pos_go hjl HX.out h10j)
              have HM2 := Lib.hid HM1.out.go
              go_wp2
              go_roundw
              case rel => exact ⟨j + 1, x1, y1 + 1, by go_num, by omega, by omega, HA, HM2⟩
              case measure => simp [intOf]; omega
          · have hje' : j = k + m := by omega
            have HR2 : Hid (RInv l j x1 y1 (ts ++ [⟨1, (l.drop k).take m, 0, x, y⟩])) := Lib.hid (by have h := HX.out; rw [hje'] at h ⊢; exact HTK.out _ _ h)
            go_wp2
            go_roundw
            case rel => exact ⟨j, x1, y1, ts ++ [⟨1, (l.drop k).take m, 0, x, y⟩], by go_num, by omega, HR2, HM1⟩
            case measure => simp [intOf]; omega
      by_cases hdig : isDig l[k] = true
      · have hen := end_num hdc hdig
        obtain ⟨hm1, hgd, hbd⟩ := hen
        have hendl : endOf (l.drop k) ≤ (l.drop k).length := end_le hdc hdig
        rw [List.length_drop] at hendl
        generalize endOf (l.drop k) = m at *
        have htl : ((l.drop k).take m).length ≤ 65536 := by rw [List.length_take, List.length_drop]; omega
        have htne : (l.drop k).take m ≠ [] := fun h => by have := congrArg List.length h; rw [List.length_take, List.length_drop, List.length_nil] at this; omega
        have HNC := Lib.hid fun W => rnumber_any ((l.drop k).take m) W htne htl
        generalize num ((l.drop k).take m) = nv at *
        clear htl htne
        by_cases hne0 : numE nv = 0
        · have hft := hgd hne0
          have fe : (((numE nv : Nat) : Int) != 0) = false := by rw [hne0]; rfl
          have HTK := Lib.hid fun (x2 y2 : Nat) => HI.out.tok hlt hsp0 h35' hft (x2 := x2) (y2 := y2)
          clear hgd hbd hft hne0
          generalize numV nv = vn at *
          generalize numE nv = en at *
          have hmk : k + m ≤ l.length := by omega
          have fm : ((k : Int) + (m : Nat) == (k : Int)) = false := by simp; omega
          have HTL : Hid (ts.length ≤ 1000000) := Lib.hid (by have := HI.out.len; omega)
          have hsl := fun W => slice_run l k (k + m) (by omega) hmk (k : Int) ((k : Int) + (m : Nat)) rfl (by omega) W
          rw [show (l.take (k + m)).drop k = (l.drop k).take m by rw [List.drop_take]; congr 1; omega] at hsl
          generalize (l.drop k).take m = tx at *
          have HL := Lib.hid (letter_no l[k] (let_dig l[k] hdig))
          have HD := Lib.hid (digit_yes l[k] hdig)
          have f34 : ((l[k].toNat : Int) == 34) = false := by
            have : l[k].toNat ≠ 34 := fun h => h34 (UInt8.toNat_inj.1 h)
            simp; omega
          clear hu hsp hdc hsp0 h35' hlet hdig h34
          go_wp2_with fail
          refine (HC.out _).mono ?_
          rintro e w1 ⟨rfl, hb1⟩
          have HM1 := Lib.hid (HM.out.below hb1)
          clear hb1
          have d0 : w1.cell? ⟨w.heap.size + 1, 0, none⟩ = some (.int .i64 x) := by simp [World.cell?, HM1.out.pos]
          have d1 : w1.cell? ⟨w.heap.size + 1, 1, none⟩ = some (.int .i64 y) := by simp [World.cell?, HM1.out.pos]
          have hl1 := HM1.out.lt
          go_wp2
          go_region
          go_wp2_with (first | (go_at_call 97; refine (HL.out _).mono ?_; rintro e w2 ⟨rfl, rfl⟩) | (go_at_call 98; refine (HD.out _).mono ?_; rintro e w2 ⟨rfl, rfl⟩) )
          refine (HNC.out _).mono ?_
          rintro e w2 ⟨rfl, hb2⟩
          have hbN : Below w1.heap.size w1 w2 := (((Below.refl _ _).alloc (Nat.le_refl _) _).drew).trans (hb2.mono (by simp))
          have hblk : w2.heap[w1.heap.size]? = some (.cells #[.int .i64 4, .string ⟨tx.toArray⟩, .int .u64 0, .int .i64 x, .int .i64 y] 52 (0, 0)) := (hb2.block _ (by simp)).trans (heap_alloc_new w1 _)
          have HBN := Lib.hid hbN
          have HM2 := Lib.hid (HM1.out.below hbN)
          have HBL := Lib.hid hblk
          have hz2 : w1.heap.size < w2.heap.size := by have := hb2.size; simp at this; omega
          clear hb2 hbN hblk d0 d1
          have t0 : w2.cell? ⟨w1.heap.size, 0, none⟩ = some (.int .i64 4) := by simp [World.cell?, HBL.out]
          have t1 : w2.cell? ⟨w1.heap.size, 1, none⟩ = some (.string ⟨tx.toArray⟩) := by simp [World.cell?, HBL.out]
          have t2 : w2.cell? ⟨w1.heap.size, 2, none⟩ = some (.int .u64 0) := by simp [World.cell?, HBL.out]
          have t3 : w2.cell? ⟨w1.heap.size, 3, none⟩ = some (.int .i64 x) := by simp [World.cell?, HBL.out]
          have t4 : w2.cell? ⟨w1.heap.size, 4, none⟩ = some (.int .i64 y) := by simp [World.cell?, HBL.out]
          have tz : ∀ j, w2.frozen? ⟨w1.heap.size, j, none⟩ = false := fun j => by simp [World.frozen?, HBL.out]
          go_wp2_with (at_builtin; refine wpList_push (w.heap.size + 2) u5 (ts.map Tok.g) w2.heap.size ⟨2, [], vn, x, y⟩ 1 (HM1.out.own.below (Nat.le_refl _) ?ob) (lit_cells _ _ _ (by simp)) (by rw [List.length_map]; exact HTL.out) (by simp; omega) rfl _ _ rfl rfl rfl ?_)
          case ob => exact ((((HBN.out.setCell (Nat.le_refl _) _).setCell (Nat.le_refl _) _).setCell (Nat.le_refl _) _).alloc (by simp; omega) _)
          intro v2 w3 hown2 hg2
          have HQ := Lib.hid ((HM1.out.below ((((HBN.out.setCell (Nat.le_refl _) _).setCell (Nat.le_refl _) _).setCell (Nat.le_refl _) _).alloc (by simp; omega) _)).push (t := ⟨2, [], vn, x, y⟩) hown2 hg2)
          clear hown2 hg2 hsl t0 t1 t2 t3 t4 tz
          go_wp2
          go_loopw [7] (fun vi wr => ∃ j px py : Nat, vi = .int .i64 j ∧ k ≤ j ∧ j ≤ k + m ∧ Hid (adv (1, 1) (l.take j) = (px, py)) ∧ Hid (RMid w v2 wr (ts ++ [⟨2, [], vn, x, y⟩]) px py))
            (fun vi _ => l.length + 1 - (intOf vi).toNat)
          case atStart => exact ⟨k, x, y, rfl, Nat.le_refl _, by omega, HPOS, HQ⟩
          case round =>
            obtain ⟨j, x1, y1, rfl, hkj, hje, HX, HM1⟩ := hrel
            have bd := adv_bd (l.take j) (1, 1) (Nat.le_refl _) (Nat.le_refl _)
            rw [HX.out, List.length_take] at bd
            have bx : x1 ≤ 65537 := by have := bd.2.2.1; simp at this; omega
            have by' : y1 ≤ 65537 := by have := bd.2.2.2; simp at this; omega
            clear bd
            have d0 : wr.cell? ⟨w.heap.size + 1, 0, none⟩ = some (.int .i64 x1) := by simp [World.cell?, HM1.out.pos]
            have d1 : wr.cell? ⟨w.heap.size + 1, 1, none⟩ = some (.int .i64 y1) := by simp [World.cell?, HM1.out.pos]
            have z1 : ∀ i, wr.frozen? ⟨w.heap.size + 1, i, none⟩ = false := fun i => by simp [World.frozen?, HM1.out.pos]
            rcases Nat.lt_or_ge j (k + m) with hlt1 | hge1
            · have hjl : j < l.length := by omega
              have hxj : (⟨l.toArray⟩ : ByteArray)[j]'(by rw [hsz]; exact hjl) = l[j] := rfl
              by_cases h10j : l[j].toNat = 10
              · have f10j : ((l[j].toNat : Int) == 10) = true := by simp; omega
                have HA := Lib.hid (pos_nl hjl HX.out h10j)
                have HM2 := Lib.hid (HM1.out.nl (.int .i64 ((y1 : Int) + 1)))
                go_wp2
                go_roundw
                case rel => exact ⟨j + 1, x1 + 1, 1, by go_num, by omega, by omega, HA, HM2⟩
                case measure => simp [intOf]; omega
              · have f10j : ((l[j].toNat : Int) == 10) = false := by simp; omega
                have HA := Lib.hid (pos_go hjl HX.out h10j)
                have HM2 := Lib.hid HM1.out.go
                go_wp2
                go_roundw
                case rel => exact ⟨j + 1, x1, y1 + 1, by go_num, by omega, by omega, HA, HM2⟩
                case measure => simp [intOf]; omega
            · have hje' : j = k + m := by omega
              have HR2 : Hid (RInv l j x1 y1 (ts ++ [⟨2, [], vn, x, y⟩])) := Lib.hid (by have h := HX.out; rw [hje'] at h ⊢; exact HTK.out _ _ h)
              go_wp2
              go_roundw
              case rel => exact ⟨j, x1, y1, ts ++ [⟨2, [], vn, x, y⟩], by go_num, by omega, HR2, HM1⟩
              case measure => simp [intOf]; omega
        · have hfe := hbd hne0
          have hnep : ((numE nv : Nat) : Int) ≠ 0 := by omega
          have fe : (((numE nv : Nat) : Int) != 0) = true := by simpa using hnep
          have HE := Lib.hid (HI.out.err hlt hsp0 h35' hfe)
          clear hgd hbd hfe hne0
          generalize numV nv = vn at *
          generalize numE nv = en at *
          have hmk : k + m ≤ l.length := by omega
          have fm : ((k : Int) + (m : Nat) == (k : Int)) = false := by simp; omega
          have HTL : Hid (ts.length ≤ 1000000) := Lib.hid (by have := HI.out.len; omega)
          have hsl := fun W => slice_run l k (k + m) (by omega) hmk (k : Int) ((k : Int) + (m : Nat)) rfl (by omega) W
          rw [show (l.take (k + m)).drop k = (l.drop k).take m by rw [List.drop_take]; congr 1; omega] at hsl
          generalize (l.drop k).take m = tx at *
          have HL := Lib.hid (letter_no l[k] (let_dig l[k] hdig))
          have HD := Lib.hid (digit_yes l[k] hdig)
          have f34 : ((l[k].toNat : Int) == 34) = false := by
            have : l[k].toNat ≠ 34 := fun h => h34 (UInt8.toNat_inj.1 h)
            simp; omega
          clear hu hsp hdc hsp0 h35' hlet hdig h34
          go_wp2_with fail
          refine (HC.out _).mono ?_
          rintro e w1 ⟨rfl, hb1⟩
          have HM1 := Lib.hid (HM.out.below hb1)
          clear hb1
          have d0 : w1.cell? ⟨w.heap.size + 1, 0, none⟩ = some (.int .i64 x) := by simp [World.cell?, HM1.out.pos]
          have d1 : w1.cell? ⟨w.heap.size + 1, 1, none⟩ = some (.int .i64 y) := by simp [World.cell?, HM1.out.pos]
          have hl1 := HM1.out.lt
          go_wp2
          go_region
          go_wp2_with (first | (go_at_call 97; refine (HL.out _).mono ?_; rintro e w2 ⟨rfl, rfl⟩) | (go_at_call 98; refine (HD.out _).mono ?_; rintro e w2 ⟨rfl, rfl⟩) )
          refine (HNC.out _).mono ?_
          rintro e w2 ⟨rfl, hb2⟩
          have hbN : Below w1.heap.size w1 w2 := (((Below.refl _ _).alloc (Nat.le_refl _) _).drew).trans (hb2.mono (by simp))
          have hblk : w2.heap[w1.heap.size]? = some (.cells #[.int .i64 4, .string ⟨tx.toArray⟩, .int .u64 0, .int .i64 x, .int .i64 y] 52 (0, 0)) := (hb2.block _ (by simp)).trans (heap_alloc_new w1 _)
          have HBN := Lib.hid hbN
          have HM2 := Lib.hid (HM1.out.below hbN)
          have HBL := Lib.hid hblk
          have hz2 : w1.heap.size < w2.heap.size := by have := hb2.size; simp at this; omega
          clear hb2 hbN hblk d0 d1
          have d0 : w2.cell? ⟨w.heap.size + 1, 0, none⟩ = some (.int .i64 x) := by simp [World.cell?, HM2.out.pos]
          have d1 : w2.cell? ⟨w.heap.size + 1, 1, none⟩ = some (.int .i64 y) := by simp [World.cell?, HM2.out.pos]
          have c0 : w2.cell? ⟨w.heap.size, 0, none⟩ = some (.int .i64 0) := by simp [World.cell?, HM2.out.res]
          have c1 : w2.cell? ⟨w.heap.size, 1, none⟩ = some (.int .i64 0) := by simp [World.cell?, HM2.out.res]
          have z0 : ∀ j, w2.frozen? ⟨w.heap.size, j, none⟩ = false := fun j => by simp [World.frozen?, HM2.out.res]
          go_wp2
          go_region
          all_goals go_wp2
          refine bodyPost_ret (v := .tuple #[.slice none 0 0, .agg #[.int .i64 (x : Int), .int .i64 (y : Int)], .int .i64 en]) (by simp [results, Tryz.results55, go_sem, c0, c1]) rfl ?_
          rw [HE.out]
          exact ⟨rfl, by first | exact (((HM2.out.bel.setCell (Nat.le_refl _) _).setCell (Nat.le_refl _) _).alloc (by simp; omega) _).drew | exact ((HM2.out.bel.setCell (Nat.le_refl _) _).setCell (Nat.le_refl _) _).drew | exact (HM2.out.bel.setCell (Nat.le_refl _) _).setCell (Nat.le_refl _) _⟩
      have hwb : isWB l[k] = false := by rw [wb_eq]; simp [hlet, hdig]
      have hem := end_mark hdc hwb h34
      generalize endOf (l.drop k) = m at *
      rcases hem with ⟨hm0, hfe⟩ | ⟨hm1, hml, hft⟩
      · have fm : ((k : Int) + (m : Nat) == (k : Int)) = true := by simp; omega
        have HE := Lib.hid (HI.out.err hlt hsp0 h35' hfe)
        clear hu hsp hdc hfe hsp0 h35'
        go_wp2_with fail
        refine (HC.out _).mono ?_
        rintro e w1 ⟨rfl, hb1⟩
        have HM1 := Lib.hid (HM.out.below hb1)
        clear hb1
        have d0 : w1.cell? ⟨w.heap.size + 1, 0, none⟩ = some (.int .i64 x) := by simp [World.cell?, HM1.out.pos]
        have d1 : w1.cell? ⟨w.heap.size + 1, 1, none⟩ = some (.int .i64 y) := by simp [World.cell?, HM1.out.pos]
        have c0 : w1.cell? ⟨w.heap.size, 0, none⟩ = some (.int .i64 0) := by simp [World.cell?, HM1.out.res]
        have c1 : w1.cell? ⟨w.heap.size, 1, none⟩ = some (.int .i64 0) := by simp [World.cell?, HM1.out.res]
        have z0 : ∀ j, w1.frozen? ⟨w.heap.size, j, none⟩ = false := fun j => by simp [World.frozen?, HM1.out.res]
        have hl1 := HM1.out.lt
        go_wp2
        go_region
        all_goals go_wp2
        refine bodyPost_ret (v := .tuple #[.slice none 0 0, .agg #[.int .i64 (x : Int), .int .i64 (y : Int)], .int .i64 50]) (by simp [results, Tryz.results55, go_sem, c0, c1]) rfl ?_
        rw [HE.out]
        exact ⟨rfl, by first | exact (((HM1.out.bel.setCell (Nat.le_refl _) _).setCell (Nat.le_refl _) _).alloc (by simp; omega) _).drew | exact ((HM1.out.bel.setCell (Nat.le_refl _) _).setCell (Nat.le_refl _) _).drew | exact (HM1.out.bel.setCell (Nat.le_refl _) _).setCell (Nat.le_refl _) _⟩
      · rw [List.length_drop] at hml
        have hmk : k + m ≤ l.length := by omega
        have fm : ((k : Int) + (m : Nat) == (k : Int)) = false := by simp; omega
        have HTK := Lib.hid fun (x2 y2 : Nat) => HI.out.tok hlt hsp0 h35' hft (x2 := x2) (y2 := y2)
        have HTL : Hid (ts.length ≤ 1000000) := Lib.hid (by have := HI.out.len; omega)
        have hsl := fun W => slice_run l k (k + m) (by omega) hmk (k : Int) ((k : Int) + (m : Nat)) rfl (by omega) W
        rw [show (l.take (k + m)).drop k = (l.drop k).take m by rw [List.drop_take]; congr 1; omega] at hsl
        have HL := Lib.hid (letter_no l[k] (by simpa using hlet))
        have HD := Lib.hid (digit_no l[k] (by simpa using hdig))
        have f34 : ((l[k].toNat : Int) == 34) = false := by
          have : l[k].toNat ≠ 34 := fun h => h34 (UInt8.toNat_inj.1 h)
          simp; omega
        clear hu hsp hdc hft hsp0 h35'
        go_wp2_with fail
        refine (HC.out _).mono ?_
        rintro e w1 ⟨rfl, hb1⟩
        have HM1 := Lib.hid (HM.out.below hb1)
        clear hb1
        have d0 : w1.cell? ⟨w.heap.size + 1, 0, none⟩ = some (.int .i64 x) := by simp [World.cell?, HM1.out.pos]
        have d1 : w1.cell? ⟨w.heap.size + 1, 1, none⟩ = some (.int .i64 y) := by simp [World.cell?, HM1.out.pos]
        have hl1 := HM1.out.lt
        go_wp2
        go_region
        go_wp2_with (first | (go_at_call 97; refine (HL.out _).mono ?_; rintro e w2 ⟨rfl, rfl⟩) | (go_at_call 98; refine (HD.out _).mono ?_; rintro e w2 ⟨rfl, rfl⟩) | (at_builtin; refine wpList_push (w.heap.size + 2) u5 (ts.map Tok.g) (w1.heap.size + 1) ⟨4, (l.drop k).take m, 0, x, y⟩ 1 (HM1.out.own.below (Nat.le_refl _) ?ob) (lit_cells _ _ _ (by simp)) (by rw [List.length_map]; exact HTL.out) (by simp; omega) rfl _ _ rfl rfl rfl ?_))
        case ob => exact ((((Below.refl _ _).alloc (Nat.le_refl _) _).alloc (by simp) _).drew)
        intro v2 w2 hown2 hg2
        have HQ := Lib.hid ((HM1.out.below ((((Below.refl _ _).alloc (Nat.le_refl _) _).alloc (by simp) _).drew)).push (t := ⟨4, (l.drop k).take m, 0, x, y⟩) hown2 hg2)
        clear hown2 hg2 hsl d0 d1
        go_wp2
        go_loopw [7] (fun vi wr => ∃ j px py : Nat, vi = .int .i64 j ∧ k ≤ j ∧ j ≤ k + m ∧ Hid (adv (1, 1) (l.take j) = (px, py)) ∧ Hid (RMid w v2 wr (ts ++ [⟨4, (l.drop k).take m, 0, x, y⟩]) px py))
          (fun vi _ => l.length + 1 - (intOf vi).toNat)
        case atStart => exact ⟨k, x, y, rfl, Nat.le_refl _, by omega, HPOS, HQ⟩
        case round =>
          obtain ⟨j, x1, y1, rfl, hkj, hje, HX, HM1⟩ := hrel
          have bd := adv_bd (l.take j) (1, 1) (Nat.le_refl _) (Nat.le_refl _)
          rw [HX.out, List.length_take] at bd
          have bx : x1 ≤ 65537 := by have := bd.2.2.1; simp at this; omega
          have by' : y1 ≤ 65537 := by have := bd.2.2.2; simp at this; omega
          clear bd
          have d0 : wr.cell? ⟨w.heap.size + 1, 0, none⟩ = some (.int .i64 x1) := by simp [World.cell?, HM1.out.pos]
          have d1 : wr.cell? ⟨w.heap.size + 1, 1, none⟩ = some (.int .i64 y1) := by simp [World.cell?, HM1.out.pos]
          have z1 : ∀ i, wr.frozen? ⟨w.heap.size + 1, i, none⟩ = false := fun i => by simp [World.frozen?, HM1.out.pos]
          rcases Nat.lt_or_ge j (k + m) with hlt1 | hge1
          · have hjl : j < l.length := by omega
            have hxj : (⟨l.toArray⟩ : ByteArray)[j]'(by rw [hsz]; exact hjl) = l[j] := rfl
            by_cases h10j : l[j].toNat = 10
            · have f10j : ((l[j].toNat : Int) == 10) = true := by simp; omega
              have HA := Lib.hid (pos_nl hjl HX.out h10j)
              have HM2 := Lib.hid (HM1.out.nl (.int .i64 ((y1 : Int) + 1)))
              go_wp2
              go_roundw
              case rel => exact ⟨j + 1, x1 + 1, 1, by go_num, by omega, by omega, HA, HM2⟩
              case measure => simp [intOf]; omega
            · have f10j : ((l[j].toNat : Int) == 10) = false := by simp; omega
              have HA := Lib.hid (pos_go hjl HX.out h10j)
              have HM2 := Lib.hid HM1.out.go
              go_wp2
              go_roundw
              case rel => exact ⟨j + 1, x1, y1 + 1, by go_num, by omega, by omega, HA, HM2⟩
              case measure => simp [intOf]; omega
          · have hje' : j = k + m := by omega
            have HR2 : Hid (RInv l j x1 y1 (ts ++ [⟨4, (l.drop k).take m, 0, x, y⟩])) := Lib.hid (by have h := HX.out; rw [hje'] at h ⊢; exact HTK.out _ _ h)
            go_wp2
            go_roundw
            case rel => exact ⟨j, x1, y1, ts ++ [⟨4, (l.drop k).take m, 0, x, y⟩], by go_num, by omega, HR2, HM1⟩
            case measure => simp [intOf]; omega
    · have hkl : k = l.length := by omega
      subst hkl
      have HF := Lib.hid HI.out.fin
      have c0 : wr.cell? ⟨w.heap.size, 0, none⟩ = some (.int .i64 0) := by simp [World.cell?, HM.out.res]
      have c1 : wr.cell? ⟨w.heap.size, 1, none⟩ = some (.int .i64 0) := by simp [World.cell?, HM.out.res]
      have z0 : ∀ j, wr.frozen? ⟨w.heap.size, j, none⟩ = false := fun j => by simp [World.frozen?, HM.out.res]
      go_wp2
      refine bodyPost_ret (v := .tuple #[u5, .agg #[.int .i64 0, .int .i64 0], .int .i64 0]) (by simp [results, Tryz.results55, go_sem, c0, c1]) rfl ?_
      rw [HF.out]
      refine ⟨u5, rfl, HM.out.own.keep fun g hg _ => ?_, (HM.out.bel.setCell (Nat.le_refl _) _).setCell (Nat.le_refl _) _⟩
      rw [Below.heap_setCell _ _ _ _ (by show g ≠ w.heap.size; omega), Below.heap_setCell _ _ _ _ (by show g ≠ w.heap.size; omega)]
end Go.Proofs.YtmodjokoggmnaaaGreatDoor
