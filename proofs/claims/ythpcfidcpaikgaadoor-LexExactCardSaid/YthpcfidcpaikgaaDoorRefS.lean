/-
  The contract of the reference's Scan: it returns the tokens that the plain mathematics gives, in new memory, or the position and the number of the first error.
  Conditions: none.
-/
import Derived.Test.YthpcfidcpaikgaaDoorRefE
import Derived.Test.YthpcfidcpaikgaaDoorRefNum
import Derived.Test.YthpcfidcpaikgaaDoorAtM
namespace Go.Proofs.YthpcfidcpaikgaaDoor
open Go.RowKit Go.Shelf

/-- What stands in memory while the reference scans: the tokens ts, the result's place, the position. -/
structure RMid (w : World) (v : Value) (wr : World) (ts : List Tok) (x y : Nat) : Prop where
  own : OwnT wr (w.heap.size + 2) v (ts.map Tok.g)
  bel : Below w.heap.size w wr
  res : wr.heap[w.heap.size]? = some (.cells #[.int .i64 0, .int .i64 0] 25 (0, 0))
  pos : wr.heap[w.heap.size + 1]? = some (.cells #[.int .i64 x, .int .i64 y] 25 (0, 0))
theorem RMid.lt {w wr : World} {v : Value} {ts : List Tok} {x y : Nat} (h : RMid w v wr ts x y) : w.heap.size + 1 < wr.heap.size := by
  rcases Nat.lt_or_ge (w.heap.size + 1) wr.heap.size with h1 | h1
  · exact h1
  · have := h.pos; rw [Array.getElem?_eq_none h1] at this; cases this
theorem RMid.set {w wr : World} {v : Value} {ts : List Tok} {x y x2 y2 : Nat} (h : RMid w v wr ts x y) {wr2 : World} (hb : ∀ g, g ≠ w.heap.size + 1 → wr2.heap[g]? = wr.heap[g]?) (hB : Below w.heap.size w wr2) (hp : wr2.heap[w.heap.size + 1]? = some (.cells #[.int .i64 x2, .int .i64 y2] 25 (0, 0))) : RMid w v wr2 ts x2 y2 :=
  ⟨h.own.keep fun g hg _ => hb g (by omega), hB, (hb _ (by omega)).trans h.res, hp⟩
theorem RMid.below {w wr : World} {v : Value} {ts : List Tok} {x y : Nat} (h : RMid w v wr ts x y) {wr2 : World} (hb : Below wr.heap.size wr wr2) : RMid w v wr2 ts x y := by
  have hl := h.lt
  exact ⟨h.own.below (Nat.le_refl _) hb, bel_next h.bel hb, (hb.block _ (by omega)).trans h.res, (hb.block _ hl).trans h.pos⟩
theorem RMid.push {w w1 : World} {v : Value} {ts : List Tok} {x y : Nat} (h : RMid w v w1 ts x y) {v2 : Value} {w2 : World} {t : Tok} (hown : OwnT w2 (w.heap.size + 2) v2 (ts.map Tok.g ++ [t.g])) (hg : w1.grownBy w2 v.ownBlock) : RMid w v2 w2 (ts ++ [t]) x y := by
  have hl := h.lt
  have hblk : ∀ b, v.ownBlock = some b → w.heap.size + 2 ≤ b := fun b hb => (World.ownsRow.lt h.own b hb).1
  refine ⟨by rw [List.map_append]; exact hown, h.bel.grown hg (by omega) (fun b hb => by have := hblk b hb; omega), ?_, ?_⟩
  · exact (hg.block _ (by omega) (fun e => by have := hblk _ e.symm; omega)).trans h.res
  · exact (hg.block _ hl (fun e => by have := hblk _ e.symm; omega)).trans h.pos

/-! What the reference's end says of the token. -/
theorem end_word {d : List UInt8} {c : UInt8} {r : List UInt8} (hd : d = c :: r) (h1 : isLet c = true) : first d = .tok 1 (d.take (endOf d)) 0 (endOf d) ∧ 1 ≤ endOf d := by
  subst hd
  have hw : isWB c = true := by rw [wb_eq, h1]; rfl
  have hdg : isDig c = false := by
    cases h : isDig c with
    | false => rfl
    | true => rw [let_dig c h] at h1; cases h1
  have e : endOf (c :: r) = run isWB (c :: r) := by simp [endOf, hw]
  rw [e]
  exact ⟨by simp [first, hdg, hw], by rw [run_cons_pos hw]; omega⟩
theorem end_num {d : List UInt8} {c : UInt8} {r : List UInt8} (hd : d = c :: r) (h1 : isDig c = true) : 1 ≤ endOf d ∧ (numE (num (d.take (endOf d))) = 0 → first d = .tok 2 [] (numV (num (d.take (endOf d)))) (endOf d)) ∧ (numE (num (d.take (endOf d))) ≠ 0 → first d = .err (numE (num (d.take (endOf d))))) := by
  subst hd
  have hw : isWB c = true := by rw [wb_eq, h1]; simp
  have e : endOf (c :: r) = run isWB (c :: r) := by simp [endOf, hw]
  rw [e]
  refine ⟨by rw [run_cons_pos hw]; omega, fun h => ?_, fun h => ?_⟩
  · simp only [first, if_pos h1]
    cases hm : num ((c :: r).take (run isWB (c :: r))) with
    | bad => rw [hm] at h; simp [numE] at h
    | big => rw [hm] at h; simp [numE] at h
    | val v => rfl
  · simp only [first, if_pos h1]
    cases hm : num ((c :: r).take (run isWB (c :: r))) with
    | bad => rfl
    | big => rfl
    | val v => rw [hm] at h; simp [numE] at h
theorem end_str {d : List UInt8} {r : List UInt8} (hd : d = 34 :: r) : (endOf d = 0 ∧ first d = .err 50) ∨ (2 ≤ endOf d ∧ endOf d ≤ d.length ∧ first d = .tok 3 ((d.take (endOf d - 1)).drop 1) 0 (endOf d)) := by
  subst hd
  have e : endOf (34 :: r) = (match r.drop (run isStr r) with | 34 :: _ => run isStr r + 2 | _ => 0) := rfl
  have e2 : first (34 :: r) = quoted r := rfl
  rw [e, e2]
  unfold quoted
  cases hr : r.drop (run isStr r) with
  | nil => exact .inl ⟨rfl, rfl⟩
  | cons x s =>
    by_cases hx : x = 34
    · subst hx
      right
      have hl : run isStr r < r.length := by
        apply Nat.lt_of_not_le; intro hle
        rw [List.drop_of_length_le hle] at hr; cases hr
      refine ⟨Nat.le_add_left _ _, by simp; omega, ?_⟩
      show Act1.tok 3 (r.take (run isStr r)) 0 (run isStr r + 2) = Act1.tok 3 (((34 :: r).take (run isStr r + 2 - 1)).drop 1) 0 (run isStr r + 2)
      rw [show run isStr r + 2 - 1 = run isStr r + 1 by omega, List.take_succ_cons]; rfl
    · left
      constructor
      · split
        · rename_i heq; exact absurd (List.cons.inj heq).1 hx
        · rfl
      · split
        · rename_i heq; exact absurd (List.cons.inj heq).1 hx
        · rfl
theorem end_mark {d : List UInt8} {c : UInt8} {r : List UInt8} (hd : d = c :: r) (h1 : isWB c = false) (h2 : c ≠ 34) : (endOf d = 0 ∧ first d = .err 50) ∨ (1 ≤ endOf d ∧ endOf d ≤ d.length ∧ first d = .tok 4 (d.take (endOf d)) 0 (endOf d)) := by
  subst hd
  have hdg : isDig c = false := by
    cases h : isDig c with
    | false => rfl
    | true => rw [wb_eq, h] at h1; simp at h1
  have e : endOf (c :: r) = (markOf (c :: r)).length := by simp [endOf, h1, h2]
  have e2 : first (c :: r) = marked (c :: r) := by simp [first, hdg, h1, h2]
  rw [e, e2]
  unfold markOf marked
  by_cases ha : 1 < (c :: r).length ∧ punct ((c :: r).take 2) = true
  · rw [if_pos ha, if_pos ha]
    have : ((c :: r).take 2).length = 2 := by rw [List.length_take]; have := ha.1; omega
    rw [this]
    exact .inr ⟨by omega, by have := ha.1; omega, rfl⟩
  · rw [if_neg ha, if_neg ha]
    by_cases hb : punct ((c :: r).take 1) = true
    · rw [if_pos hb, if_pos hb]
      exact .inr ⟨by simp, by simp, rfl⟩
    · rw [if_neg hb, if_neg hb]; exact .inl ⟨rfl, rfl⟩
end Go.Proofs.YthpcfidcpaikgaaDoor
