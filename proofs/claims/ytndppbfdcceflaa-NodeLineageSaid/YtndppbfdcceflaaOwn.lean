/-
  Rows of bytes that a call itself appends to; the contract of spare: it returns a new slice with the bytes of its argument and one spare byte, 99, behind them, and turns nothing that was there.
  Conditions: the argument reads as a list of bytes of at most 2^32 elements.
-/
import Derived.Test.YtndppbfdcceflaaBase
import Derived.Test.YtndppbfdcceflaaJoin
import Derived.Test.YtndppbfdcceflaaPlain
import Derived.Test.YtndppbfdcceflaaUvar
import Derived.Test.YtndppbfdcceflaaAwake
namespace Go.Proofs.Ytndppbfdcceflaa

open Go.RowKit

/-- v is a slice of the call's own with the bytes l, at the head of a block from base on (or nil). -/
def Own (w : World) (base : Nat) (v : Value) (l : List UInt8) : Prop := w.ownsRow base 5 1 v l.length (vals l)
theorem Own.nil (w : World) (base : Nat) : Own w base (.slice none 0 0) [] := World.ownsRow_nil w base 5 1
theorem Own.form {w : World} {base : Nat} {v : Value} {l : List UInt8} (h : Own w base v l) : ∃ A cap, v = .slice A l.length cap ∧ l.length ≤ cap ∧ cap ≤ maxLen ∧ Byt w w.heap.size A l.length l := by
  rcases h.2 with ⟨hv, h0⟩ | ⟨g, cap, cur, hv, _, hh, hn, hm, hs, ht⟩
  · have h1 : l = [] := List.eq_nil_of_length_eq_zero h0
    subst h1
    exact ⟨none, 0, hv, Nat.le_refl _, Nat.zero_le _, Byt.nil⟩
  · refine ⟨some ⟨g, 0, none⟩, cap, hv, hn, hm, ?_⟩
    have e : cur.toList = vals l ++ cur.toList.drop l.length := by
      have := (List.take_append_drop (l.length * 1) cur.toList).symm
      rw [ht, Nat.mul_one] at this; exact this
    have hr : RowT w g 5 (vals l ++ cur.toList.drop l.length) := by
      unfold RowT; rw [← e]; simpa using hh
    exact hr.byt hr.lt rfl
/-- Where there is an element: the block. -/
theorem Own.some_ {w : World} {base : Nat} {v : Value} {l : List UInt8} (h : Own w base v l) (hl : 0 < l.length) : ∃ g cap, v = .slice (some ⟨g, 0, none⟩) l.length cap ∧ base ≤ g ∧ g < w.heap.size ∧ l.length ≤ cap ∧ cap ≤ maxLen ∧ Byt w (g + 1) (some ⟨g, 0, none⟩) l.length l := by
  rcases h.2 with ⟨hv, h0⟩ | ⟨g, cap, cur, hv, hbg, hh, hn, hm, hs, ht⟩
  · omega
  · have e : cur.toList = vals l ++ cur.toList.drop l.length := by
      have := (List.take_append_drop (l.length * 1) cur.toList).symm
      rw [ht, Nat.mul_one] at this; exact this
    have hr : RowT w g 5 (vals l ++ cur.toList.drop l.length) := by
      unfold RowT; rw [← e]; simpa using hh
    exact ⟨g, cap, hv, hbg, hr.lt, hn, hm, hr.byt (by omega) rfl⟩
theorem Own.alloc {w : World} {base : Nat} {v : Value} {l : List UInt8} (h : Own w base v l) (o : Obj) : Own (w.alloc o) base v l := by
  refine ⟨h.1, ?_⟩
  rcases h.2 with hh | ⟨g, cap, cur, hv, hb, hh, rest⟩
  · exact .inl hh
  · have hlt : g < w.heap.size := by
      rcases Nat.lt_or_ge g w.heap.size with h1 | h1
      · exact h1
      · rw [Array.getElem?_eq_none h1] at hh; cases hh
    exact .inr ⟨g, cap, cur, hv, hb, (Below.heap_alloc w o g hlt).trans hh, rest⟩
theorem Own.below {w w' : World} {base : Nat} {v : Value} {l : List UInt8} (h : Own w base v l) (hb : Below w.heap.size w w') : Own w' base v l := by
  refine ⟨h.1, ?_⟩
  rcases h.2 with hh | ⟨g, cap, cur, hv, hbs, hh, rest⟩
  · exact .inl hh
  · have hlt : g < w.heap.size := by
      rcases Nat.lt_or_ge g w.heap.size with h1 | h1
      · exact h1
      · rw [Array.getElem?_eq_none h1] at hh; cases hh
    exact .inr ⟨g, cap, cur, hv, hbs, (hb.block g hlt).trans hh, rest⟩
/-- The builtin append onto such a slice. -/
theorem Own.app {W w0 : World} {base : Nat} {v : Value} {l : List UInt8} (h : Own W base v l) {B : Nat} {A : Option Addr} {m : Nat} (c : Nat) {l2 : List UInt8} (hs : Byt W B A m l2) (hb : Below base w0 W) (hbase : base ≤ W.heap.size) (hl : l.length + m ≤ 1099511627776) :
    ∃ v' w', (Builtin.append_ #[39, 39] 39 #[v, .slice A m c]).run Try.prog W = .ok v' w' ∧ Own w' base v' (l ++ l2) ∧ Below base w0 w' ∧ W.heap.size ≤ w'.heap.size := by
  obtain ⟨i0, hi0, hz0, hz1, hz2⟩ := info_parts byte_info
  rcases A with _ | ad
  · have hm : m = 0 := by
      rcases Nat.eq_zero_or_pos m with h0 | h0
      · exact h0
      · obtain ⟨b, off, hA, _⟩ := hs.2 h0
        cases hA
    subst hm
    have hl2 : l2 = [] := List.eq_nil_of_length_eq_zero hs.1
    subst hl2
    refine ⟨v, W, ?_, by rw [List.append_nil]; exact h, hb, Nat.le_refl _⟩
    rcases h.2 with ⟨rfl, _⟩ | ⟨g, cap, cur, rfl, _, _, hnc, _⟩
    · simp [Builtin.append_, run_underlying Try.underlying39, sizeOf, typeInfo, hi0, Builtin.lenOf, Builtin.firstCells]
    · simp [Builtin.append_, run_underlying Try.underlying39, sizeOf, typeInfo, hi0, Builtin.lenOf, Builtin.firstCells, hnc, storeCells]
  · obtain ⟨v', w', hrun, hown, hg, _, _⟩ := run_append_own_at (P := Try.prog) W base 39 39 5 i0 _ 1 1 Try.underlying39 hi0 hz0 hz1 hz2 rfl (by omega) v l.length (vals l) h ad m c (vals l2)
      (by rw [length_vals, hs.1, Nat.mul_one])
      (fun j u hu => by
        obtain ⟨hj, rfl⟩ := vals_get l2 j u hu
        rw [hs.1] at hj
        obtain ⟨b, off, hA, _, hc⟩ := hs.2 (by omega)
        obtain rfl := Option.some.inj hA
        have e : (⟨b, off, none⟩ : Addr).add j = ⟨b, off + j, none⟩ := by unfold Addr.add; split <;> simp_all
        rw [e, hc j hj]; rfl)
      (vals_one l2) (by unfold maxLen; omega) (by omega) hbase
    refine ⟨v', w', hrun, ?_, hb.grown hg hbase (fun k hk => (h.lt k hk).1), hg.size⟩
    unfold Own
    rw [List.length_append, hs.1, vals_append]; exact hown

/-- An append whose run is known, as a step of the walk. -/
theorem wpList_app_run {ops : Array Oper} {rest : List Oper} {o : Oper} {a : Act} {Q : Exit → Act → World → Prop} {v y v' : Value} {W w' : World}
    (hrun : (Builtin.append_ #[39, 39] 39 #[v, y]).run Try.prog W = .ok v' w') (hgd : o.guard = none) {s x : Operand}
    (ho : o.op = .call { callee := .builtin .append, args := #[s, x], argTypes := #[39, 39] }) (hty : o.type = 39) (hs : a.eval s = v) (hx : a.eval x = y)
    (h : wpList Try.prog ops Q rest (a.put o.dst v') w') : wpList Try.prog ops Q (o :: rest) a W := by
  refine wpList_plain hgd fun K hK => ?_
  unfold Oper.wp execOp
  simp only [ho, hty, resolve, invoke, builtin, Sem.run_bind, Sem.run_pure, Result.andThen_ok, List.map_toArray, List.map_cons, List.map_nil, hs, hx, hrun]
  exact hK _ _ h

end Go.Proofs.Ytndppbfdcceflaa
