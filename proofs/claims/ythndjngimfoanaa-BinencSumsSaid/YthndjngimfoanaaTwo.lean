/-
  Two rows of bytes that a call itself appends to, side by side; what several bytes appended at once give; a slice of 16-bit words that comes in.
  Conditions: none beyond what each theorem says.
-/
import Derived.Test.YthndjngimfoanaaOpen
import Derived.Test.YthndjngimfoanaaFixedApp
import Derived.Test.YthndjngimfoanaaGrow
import Derived.Test.YthndjngimfoanaaSumMath
namespace Go.Proofs.Ythndjngimfoanaa
open Go.RowKit

theorem Own.blk {w : World} {base : Nat} {v : Value} {l : List UInt8} (h : Own w base v l) : ∀ k, v.ownBlock = some k → base ≤ k ∧ k < w.heap.size := World.ownsRow.lt h
theorem Own.keep {w w' : World} {base : Nat} {v : Value} {l : List UInt8} {row : Option Nat} (h : Own w base v l) (hg : w.grownBy w' row) (hr : ∀ g, v.ownBlock = some g → row ≠ some g) : Own w' base v l := by
  refine ⟨h.1, ?_⟩
  rcases h.2 with hh | ⟨g, cap, cur, hv, hb, hh, rest⟩
  · exact .inl hh
  · have hg1 : v.ownBlock = some g := by rw [hv]; rfl
    exact .inr ⟨g, cap, cur, hv, hb, (hg.block g (h.blk g hg1).2 (fun e => hr g hg1 e.symm)).trans hh, rest⟩
/-- The builtin append of bytes that lie in a block of their own; only the row itself, or a new one, is written. -/
theorem Own.appNew {W : World} {base : Nat} {v : Value} {l : List UInt8} (h : Own W base v l) (xs : List UInt8) (C : Array Value) (m : Nat) (hC : C = (vals xs).toArray) (hm : xs.length = m) (hbase : base ≤ W.heap.size) (hl : l.length + m ≤ 1099511627776) :
    ∃ v' w', (Builtin.append_ #[22, 22] 22 #[v, .slice (some ⟨W.heap.size, 0, none⟩) m m]).run Try.prog (W.alloc (.cells C 5)) = .ok v' w' ∧ Own w' base v' (l ++ xs) ∧ (W.alloc (.cells C 5)).grownBy w' v.ownBlock ∧ (v'.ownBlock = v.ownBlock ∨ v'.ownBlock = some (W.heap.size + 1)) := by
  obtain ⟨i0, hi0, hz0, hz1, hz2⟩ := info_parts byte_info
  have hs := Byt.lit W (0, 0) xs C m hC hm
  have hz : (W.alloc (.cells C 5)).heap.size = W.heap.size + 1 := by simp
  obtain ⟨v', w', hrun, hown, hg, _, ho⟩ := run_append_own_at (P := Try.prog) (W.alloc (.cells C 5)) base 22 22 5 i0 _ 1 1 Try.underlying22 hi0 hz0 hz1 hz2 rfl (by omega) v l.length (vals l) (h.alloc _) ⟨W.heap.size, 0, none⟩ m m (vals xs)
      (by rw [length_vals, hm, Nat.mul_one])
      (fun j u hu => by
        obtain ⟨hj, rfl⟩ := vals_get xs j u hu
        rw [hm] at hj
        obtain ⟨b, off, hA, _, hc⟩ := hs.2 (by omega)
        injection hA with hA
        injection hA with e1 e2
        subst e1 e2
        have e : (⟨W.heap.size, 0, none⟩ : Addr).add j = ⟨W.heap.size, 0 + j, none⟩ := by unfold Addr.add; split <;> simp_all
        rw [e, hc j hj]; rfl)
      (vals_one xs) (by unfold maxLen; omega) (by omega) (by rw [hz]; omega)
  refine ⟨v', w', hrun, ?_, hg, by rw [hz] at ho; exact ho⟩
  unfold Own
  rw [List.length_append, hm, vals_append]; exact hown

/-- Two rows of the call's own. -/
def Two (w wr : World) (u v : Value) (l k : List UInt8) : Prop := Own wr w.heap.size u l ∧ Own wr w.heap.size v k ∧ (∀ g, u.ownBlock = some g → v.ownBlock ≠ some g) ∧ Below w.heap.size w wr
theorem Two.start (w : World) : Two w w (.slice none 0 0) (.slice none 0 0) [] [] := ⟨Own.nil w _, Own.nil w _, by simp [Value.ownBlock], Below.refl _ _⟩
theorem Two.left {w wr : World} {u v : Value} {l k : List UInt8} (h : Two w wr u v l k) (xs : List UInt8) (C : Array Value) (m : Nat) (hC : C = (vals xs).toArray) (hm : xs.length = m) (hl : l.length + m ≤ 1099511627776) :
    ∃ u' w', (Builtin.append_ #[22, 22] 22 #[u, .slice (some ⟨wr.heap.size, 0, none⟩) m m]).run Try.prog (wr.alloc (.cells C 5)) = .ok u' w' ∧ Two w w' u' v (l ++ xs) k := by
  obtain ⟨h1, h2, h3, h4⟩ := h
  obtain ⟨u', w', hrun, ho, hg, hat⟩ := h1.appNew xs C m hC hm h4.size hl
  refine ⟨u', w', hrun, ho, (h2.alloc _).keep hg (fun g hv hu => h3 g hu hv), fun g hu hv => ?_, ?_⟩
  · have hb := (h2.blk g hv).2
    rcases hat with e | e
    · rw [e] at hu; exact h3 g hu hv
    · rw [e] at hu; injection hu with hu; omega
  · exact (h4.alloc h4.size _).grown hg (by have := h4.size; simp; omega) (fun g hu => (h1.blk g hu).1)
theorem Two.swap {w wr : World} {u v : Value} {l k : List UInt8} (h : Two w wr u v l k) : Two w wr v u k l := ⟨h.2.1, h.1, fun g hv hu => h.2.2.1 g hu hv, h.2.2.2⟩
theorem Two.right {w wr : World} {u v : Value} {l k : List UInt8} (h : Two w wr u v l k) (xs : List UInt8) (C : Array Value) (m : Nat) (hC : C = (vals xs).toArray) (hm : xs.length = m) (hl : k.length + m ≤ 1099511627776) :
    ∃ v' w', (Builtin.append_ #[22, 22] 22 #[v, .slice (some ⟨wr.heap.size, 0, none⟩) m m]).run Try.prog (wr.alloc (.cells C 5)) = .ok v' w' ∧ Two w w' u v' l (k ++ xs) := by
  obtain ⟨v', w', hrun, ht⟩ := h.swap.left xs C m hC hm hl
  exact ⟨v', w', hrun, ht.swap⟩
/-- Several bytes at once. -/
theorem Grow.pushes {w wr : World} {t : Value} {l : List UInt8} (h : Grow w wr t l) (xs : List UInt8) (C : Array Value) (m : Nat) (hC : C = (vals xs).toArray) (hm : xs.length = m) (hl : l.length + m ≤ 1099511627776) :
    ∃ v' w', (Builtin.append_ #[22, 22] 22 #[t, .slice (some ⟨wr.heap.size, 0, none⟩) m m]).run Try.prog (wr.alloc (.cells C 5)) = .ok v' w' ∧ Grow w w' v' (l ++ xs) := by
  obtain ⟨v', w', hrun, ho, hg, hat⟩ := h.1.appNew xs C m hC hm h.2.size hl
  exact ⟨v', w', hrun, ho, (h.2.alloc h.2.size _).grown hg (by have := h.2.size; simp; omega) (fun g hu => (h.1.blk g hu).1)⟩

/-- An append whose run is known and whose guard lets it by, as a step of the walk. -/
theorem wpList_app_want {ops : Array Oper} {rest : List Oper} {o : Oper} {a : Act} {Q : Exit → Act → World → Prop} {v y v' : Value} {W w' : World}
    (hrun : (Builtin.append_ #[22, 22] 22 #[v, y]).run Try.prog W = .ok v' w') (hw : Region.wanted o (yielded ops a.tmps) = true) {s x : Operand}
    (ho : o.op = .call { callee := .builtin .append, args := #[s, x], argTypes := #[22, 22] }) (hty : o.type = 22) (hs : a.eval s = v) (hx : a.eval x = y)
    (h : wpList Try.prog ops Q rest (a.put o.dst v') w') : wpList Try.prog ops Q (o :: rest) a W := by
  unfold wpList
  rw [if_pos hw]
  refine .inl ?_
  unfold Oper.wp execOp
  simp only [ho, hty, resolve, invoke, builtin, Sem.run_bind, Sem.run_pure, Result.andThen_ok, List.map_toArray, List.map_cons, List.map_nil, hs, hx, hrun]
  exact h

/-- A slice of 16-bit words as the row's frame opens it. -/
theorem rowWords {w : World} {a : Option Addr} {len cap : Nat} {zs : List Int}
    (h : (a = none ∧ len = 0 ∧ cap = 0 ∧ zs = []) ∨
      ∃ x, a = some x ∧ len ≤ cap ∧ cap ≤ maxLen ∧ zs.length = cap ∧ (∀ i, i < zs.length → w.cell? (x.add i) = some (.int .u16 (zs.getD i 0))) ∧ ∀ n ∈ zs, (Lit.int .u16 n).wf = true) :
    ∃ ws : List Nat, ws.length = len ∧ (∀ x ∈ ws, x ≤ 65535) ∧ Row w w.heap.size a len (fun j => .int .u16 ((ws.getD j 0 : Nat) : Int)) := by
  rcases h with ⟨rfl, rfl, rfl, rfl⟩ | ⟨x, rfl, hl, hm, hz, hcell, hwz⟩
  · exact ⟨[], rfl, by simp, fun h => absurd h (by omega)⟩
  · refine ⟨(zs.take len).map Int.toNat, by rw [List.length_map, List.length_take]; omega, ?_, fun h0 => ?_⟩
    · intro y hy
      obtain ⟨z, hz1, rfl⟩ := List.mem_map.1 hy
      have := bounds_u16 (hwz z (List.mem_of_mem_take hz1))
      omega
    · obtain ⟨b, off, spot⟩ := x
      have hc0 := hcell 0 (by omega)
      have hspot : spot = none := by simpa [Addr.add] using World.cell?_spot hc0
      subst hspot
      have hlt := World.block_lt_of_cell? w _ hc0
      refine ⟨b, off, rfl, by simpa [Addr.add] using hlt, fun j hj => ?_⟩
      have e : (⟨b, off, none⟩ : Addr).add j = ⟨b, off + j, none⟩ := by unfold Addr.add; split <;> simp_all
      rw [← e, hcell j (by omega)]
      have hjz : j < zs.length := by omega
      have hb := bounds_u16 (hwz _ (List.getElem_mem hjz))
      have e2 : ((zs.take len).map Int.toNat).getD j 0 = zs[j].toNat := by
        rw [List.getD_eq_getElem?_getD, List.getElem?_map, List.getElem?_take, if_pos hj, List.getElem?_eq_getElem hjz]; rfl
      show _ = some (Value.int .u16 (((zs.take len).map Int.toNat).getD j 0 : Nat))
      rw [e2, List.getD_eq_getElem?_getD, List.getElem?_eq_getElem hjz]
      simp only [Option.getD_some]
      congr 2
      omega

end Go.Proofs.Ythndjngimfoanaa
