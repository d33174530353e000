/-
  The reference's PutUvarint and PutId.
  Conditions: none.
-/
import Derived.Test.YtndppbfdcceflaaNae
import Derived.Test.YtndppbfdcceflaaCad
import Derived.Test.YtndppbfdcceflaaUvar
namespace Go.Proofs.Ytndppbfdcceflaa

open Go.RowKit

theorem u8_of (x : Nat) (h : x < 256) : UInt8.ofNat x = u8 (x : Int) := by unfold u8; congr 1; omega
def b12E (x : UInt8) : List Value := [.int .u8 (x.toNat : Int)]
theorem b12E_len (x : UInt8) : (b12E x).length = 1 := rfl
theorem b12E_one (x : UInt8) : ∀ u ∈ b12E x, u.oneCell' = true := by
  intro u hu
  simp [b12E] at hu
  subst hu; rfl
theorem elt_b12 : Elt 39 5 1 1 := Elt.of (.int .u8 0) Try.underlying39 (by kernel_rfl) rfl (by decide)
theorem Own.g12 {w : World} {base : Nat} {v : Value} {l : List UInt8} : Own w base v l ↔ OwnG b12E 5 1 w base v l := by
  unfold Own OwnG
  rw [show gcells b12E l = vals l from gc_vals l]
theorem Byt.g12 {w : World} {B n : Nat} {A : Option Addr} {l : List UInt8} (h : Byt w B A n l) : GRow b12E 1 w B A l := fun h0 => by
  obtain ⟨b, off, e, hb, hc⟩ := h.2 (by rw [← h.1]; exact h0)
  refine ⟨b, off, e, hb, fun i hi j u hu => ?_⟩
  have hj : j = 0 := by
    rcases Nat.eq_zero_or_pos j with h1 | h1
    · exact h1
    · rw [List.getElem?_eq_none (by rw [b12E_len]; omega)] at hu; cases hu
  subst hj
  have h2 := hc i (by rw [← h.1]; exact hi)
  rw [Nat.mul_one, Nat.add_zero, h2]
  unfold byV bt
  rw [List.getD_eq_getElem?_getD, List.getElem?_eq_getElem hi]
  exact hu
/-- From w, where v is one's own row, to w', where v' is: no other block of w has changed. -/
structure Kp (w : World) (v : Value) (w' : World) (v' : Value) : Prop where
  gb : w.grownBy w' v.ownBlock
  ob : v'.ownBlock = v.ownBlock ∨ ∃ g, v'.ownBlock = some g ∧ w.heap.size ≤ g
theorem Kp.refl (w : World) (v : Value) : Kp w v w v := ⟨World.grownBy.refl _ _, .inl rfl⟩
theorem Kp.trans {w w1 w2 : World} {v v1 v2 : Value} (h : Kp w v w1 v1) (g : Kp w1 v1 w2 v2) : Kp w v w2 v2 := by
  refine ⟨⟨g.gb.os.trans h.gb.os, g.gb.tape.trans h.gb.tape, g.gb.output.trans h.gb.output, Nat.le_trans h.gb.size g.gb.size, fun k hk hne => ?_⟩, ?_⟩
  · have h1 := h.gb.block k hk hne
    refine (g.gb.block k (Nat.lt_of_lt_of_le hk h.gb.size) ?_).trans h1
    rcases h.ob with e | ⟨q, e, hq⟩
    · rw [e]; exact hne
    · rw [e]; intro e2; injection e2 with e2; omega
  · rcases g.ob with e | ⟨q, e, hq⟩
    · rw [e]; exact h.ob
    · exact .inr ⟨q, e, Nat.le_trans h.gb.size hq⟩
theorem Kp.alloc {w w1 : World} {v v1 : Value} (h : Kp w v w1 v1) (o : Obj) : Kp w v (w1.alloc o) v1 := h.trans ⟨⟨rfl, rfl, rfl, by simp, fun k hk _ => heap_alloc_old w1 o hk⟩, .inl rfl⟩
theorem Kp.bel {w w' : World} {v v' : Value} {base : Nat} {l : List UInt8} (h : Kp w v w' v') (ho : Own w base v l) (hb : base ≤ w.heap.size) : Below base w w' := (Below.refl base w).grown h.gb hb (fun g e => ((Own.g12.1 ho).lt g e).1)
/-- A byte is appended to bytes of the call's own. -/
theorem own_b12 {wA : World} {base : Nat} {v : Value} {l : List UInt8} (h : Own wA base v l) (hbase : base ≤ wA.heap.size) (x : Int) (hl : l.length ≤ 100000) :
    ∃ v' w', (Builtin.append_ #[39, 39] 39 #[v, .slice (some ⟨wA.heap.size, 0, none⟩) 1 1]).run Try.prog (wA.alloc (.cells #[.int .u8 (x % 256)] 5)) = .ok v' w' ∧ Own w' base v' (l ++ [u8 x]) ∧ Kp wA v w' v' := by
  rw [← u8_val x]
  have ho := own_lit wA wA.heap.size [u8 x] (Nat.le_refl _) (by simp)
  obtain ⟨A, cp, e, _, _, hby⟩ := ho.form
  injection e with e1 e2 e3
  subst e1
  obtain ⟨v', w', hr, hown, hg, hob⟩ := OwnG.app elt_b12 b12E_len b12E_one (Own.g12.1 (h.alloc (.cells (vals [u8 x]).toArray 5))) 1 hby.g12 (by simp; omega) (by unfold maxLen; simp; omega) (by simp; omega)
  refine ⟨v', w', hr, Own.g12.2 hown, ((Kp.refl wA v).alloc _).trans ⟨hg, ?_⟩⟩
  rcases hob with e | e
  · exact .inl e
  · exact .inr ⟨_, e, by simp⟩
theorem pow10 {n : Nat} (h : n < 9223372036854775808) : n < 128 ^ (9 + 1) := Nat.lt_of_lt_of_le h (by decide)
/-- Bytes of the call's own that have been handed on and grown. -/
def PutEnd (base : Nat) (v : Value) (l : List UInt8) (w : World) (e : Ending) (w' : World) : Prop := ∃ v', e = .returned v' ∧ Own w' base v' l ∧ Kp w v w' v'
end Go.Proofs.Ytndppbfdcceflaa
