/-
  The reference's PutId.
  Conditions: none.
-/
import Derived.Test.YtnoegjfokceghaaNaf
import Derived.Test.YtnoegjfokceghaaGrs
namespace Go.Proofs.Ytnoegjfokceghaa

open Go.RowKit

def idL (x : GId) : List UInt8 := uvar x.core.toNat ++ uvar x.op.toNat ++ uvar x.part.toNat
theorem idL_len (x : GId) : (idL x).length ≤ 30 := by
  have h1 := uvar_len x.core.toNat
  have h2 := uvar_len x.op.toNat
  have h3 := uvar_len x.part.toNat
  unfold idL
  simp only [List.length_append]; omega
theorem IB.keepP {w w' : World} {v v' : Value} {N : Nat} {x : GId} (h : IB w N x) (hk : Kp w v w' v') (hn : v.ownBlock ≠ some N) : IB w' N x := (hk.gb.block N h.lt (fun e => hn e.symm)).trans h
theorem Kp.ne {w w' : World} {v v' : Value} {N : Nat} (hk : Kp w v w' v') (hn : v.ownBlock ≠ some N) (hl : N < w.heap.size) : v'.ownBlock ≠ some N := by
  rcases hk.ob with e | ⟨g, e, hg⟩
  · rw [e]; exact hn
  · rw [e]; intro h; injection h with h; omega
theorem Kp.drew {w w1 : World} {v v1 : Value} (h : Kp w v w1 v1) : Kp w v w1.drew v1 := h.trans ⟨⟨rfl, rfl, rfl, Nat.le_refl _, fun _ _ _ => rfl⟩, .inl rfl⟩
set_option maxRecDepth 20000 in
set_option maxHeartbeats 1000000 in
theorem rPutI_any (x : GId) (hx : vI x = true) (v : Value) (l : List UInt8) (base : Nat) (w : World) (ho : Own w base v l) (hbase : base ≤ w.heap.size) (hl : l.length ≤ 90000) :
    Calls Try.prog 53 #[v, x.val] w (PutEnd base v (l ++ idL x) w) := by
  obtain ⟨c0, c1, o0, o1, p0, p1⟩ := vI_iff.1 hx
  obtain ⟨xc, xo, xp⟩ := x
  simp only at c0 c1 o0 o1 p0 p1
  obtain ⟨a, rfl⟩ := Int.eq_ofNat_of_zero_le c0
  obtain ⟨b, rfl⟩ := Int.eq_ofNat_of_zero_le (show 0 ≤ xo by omega)
  obtain ⟨c, rfl⟩ := Int.eq_ofNat_of_zero_le p0
  have HEND : Hid (∀ v' W, Own W base v' (l ++ uvar a ++ uvar b ++ uvar c) → Kp w v W v' → PutEnd base v (l ++ idL ⟨a, b, c⟩) w (.returned v') W) := Lib.hid fun v' W h1 h2 => ⟨v', rfl, by unfold idL; simpa using h1, h2⟩
  generalize PutEnd base v (l ++ idL ⟨a, b, c⟩) w = EE at *
  have HL0 : Hid (l.length ≤ 99000) := Lib.hid (by omega)
  have HL1 : Hid ((l ++ uvar a).length ≤ 99000) := Lib.hid (by have := uvar_len a; rw [List.length_append]; omega)
  have HL2 : Hid ((l ++ uvar a ++ uvar b).length ≤ 99000) := Lib.hid (by have := uvar_len a; have := uvar_len b; rw [List.length_append, List.length_append]; omega)
  have HA : Hid (a < 9223372036854775808) := Lib.hid (by omega)
  have HB : Hid (b < 9223372036854775808) := Lib.hid (by omega)
  have HC : Hid (c < 9223372036854775808) := Lib.hid (by omega)
  have hS : IB (w.alloc (.cells #[.int .i64 a, .int .i64 b, .int .i64 c] 23)).drew w.heap.size ⟨a, b, c⟩ := IB.new w ⟨a, b, c⟩
  have hne : v.ownBlock ≠ some w.heap.size := fun e => by have := ((Own.g12.1 ho).lt _ e).2; omega
  have HK0 := Lib.hid ((Kp.refl w v).alloc (.cells #[.int .i64 a, .int .i64 b, .int .i64 c] 23)).drew
  have HO0 : Hid (Own (w.alloc (.cells #[.int .i64 a, .int .i64 b, .int .i64 c] 23)).drew base v l) := Lib.hid (Own.g12.2 ((Own.g12.1 (ho.alloc (.cells #[.int .i64 a, .int .i64 b, .int .i64 c] 23))).keep fun g hg => rfl))
  have HBS0 : Hid (base ≤ (w.alloc (.cells #[.int .i64 a, .int .i64 b, .int .i64 c] 23)).drew.heap.size) := Lib.hid (by simp [World.drew]; omega)
  simp only [GId.val]
  clear c0 c1 o0 o1 p0 p1 hx ho hl
  go_enter Try.func53, Try.ntmps53
  go_upto_region 1 with fail
  refine wp_region_growS (S := fun W => IB W w.heap.size ⟨a, b, c⟩) [(0, true), (1, true), (2, true), (4, true), (5, true), (7, true), (8, true), (3, false), (6, false), (9, false), (10, true)] (by kernel_rfl) (by kernel_rfl) (by kernel_rfl) (by kernel_rfl) (by intro c a d v w h; cases d <;> exact h) hS ?_
  iterate 7
    (first
      | (refine wpGrowS_float (v := ?_) (by simp only [List.getElem?_toArray, List.getElem?_cons_succ, List.getElem?_cons_zero]; rfl) (by rfl) ?_ ?_
         rotate_left
         · (intro W hW; obtain ⟨y0, y1, y2⟩ := IB.cells hW; (try simp only at *); go_simp; try with_reducible rfl)
         simp only [Act.put, List.setIfInBounds_toArray, List.set_cons_zero, List.set_cons_succ])
      | (refine wpGrowS_skip (by simp only [List.getElem?_toArray, List.getElem?_cons_succ, List.getElem?_cons_zero]; rfl) (by rfl) ?_
         simp only [Act.put, List.setIfInBounds_toArray, List.set_cons_zero, List.set_cons_succ]))
  refine wpGrowS_call (by simp only [List.getElem?_toArray, List.getElem?_cons_succ, List.getElem?_cons_zero]; rfl) (by rfl) fun K hK => ?_
  go_simp
  go_fit (rPutU_any a _ _ base _ HO0.out HBS0.out HL0.out HA.out)
  rintro e wn ⟨v1, rfl, ho1, hbn⟩
  have hSp := hS
  have hS : IB wn w.heap.size ⟨a, b, c⟩ := IB.keepP hS hbn hne
  have HO1 := Lib.hid ho1
  have HK1 := Lib.hid (HK0.out.trans hbn)
  have HBS1 := Lib.hid (Nat.le_trans HBS0.out hbn.gb.size)
  have hne := hbn.ne hne hSp.lt
  clear ho1 hSp
  go_simp
  refine hK _ _ hS ?_
  clear hK K
  try simp only [Act.put, List.setIfInBounds_toArray, List.set_cons_zero, List.set_cons_succ]
  refine wpGrowS_call (by simp only [List.getElem?_toArray, List.getElem?_cons_succ, List.getElem?_cons_zero]; rfl) (by rfl) fun K hK => ?_
  go_simp
  go_fit (rPutU_any b _ _ base _ HO1.out HBS1.out HL1.out HB.out)
  rintro e wn ⟨v2, rfl, ho2, hbn⟩
  have hSp := hS
  have hS : IB wn w.heap.size ⟨a, b, c⟩ := IB.keepP hS hbn hne
  have HO2 := Lib.hid ho2
  have HK2 := Lib.hid (HK1.out.trans hbn)
  have HBS2 := Lib.hid (Nat.le_trans HBS1.out hbn.gb.size)
  have hne := hbn.ne hne hSp.lt
  clear ho2 hSp
  go_simp
  refine hK _ _ hS ?_
  clear hK K
  try simp only [Act.put, List.setIfInBounds_toArray, List.set_cons_zero, List.set_cons_succ]
  refine wpGrowS_call (by simp only [List.getElem?_toArray, List.getElem?_cons_succ, List.getElem?_cons_zero]; rfl) (by rfl) fun K hK => ?_
  go_simp
  go_fit (rPutU_any c _ _ base _ HO2.out HBS2.out HL2.out HC.out)
  rintro e wn ⟨v3, rfl, ho3, hbn⟩
  have hSp := hS
  have hS : IB wn w.heap.size ⟨a, b, c⟩ := IB.keepP hS hbn hne
  have HO3 := Lib.hid ho3
  have HK3 := Lib.hid (HK2.out.trans hbn)
  have HBS3 := Lib.hid (Nat.le_trans HBS2.out hbn.gb.size)
  have hne := hbn.ne hne hSp.lt
  clear ho3 hSp
  go_simp
  refine hK _ _ hS ?_
  clear hK K
  try simp only [Act.put, List.setIfInBounds_toArray, List.set_cons_zero, List.set_cons_succ]
  iterate 1
    (first
      | (refine wpGrowS_float (v := ?_) (by simp only [List.getElem?_toArray, List.getElem?_cons_succ, List.getElem?_cons_zero]; rfl) (by rfl) ?_ ?_
         rotate_left
         · (intro W hW; obtain ⟨y0, y1, y2⟩ := IB.cells hW; (try simp only at *); go_simp; try with_reducible rfl)
         simp only [Act.put, List.setIfInBounds_toArray, List.set_cons_zero, List.set_cons_succ])
      | (refine wpGrowS_skip (by simp only [List.getElem?_toArray, List.getElem?_cons_succ, List.getElem?_cons_zero]; rfl) (by rfl) ?_
         simp only [Act.put, List.setIfInBounds_toArray, List.set_cons_zero, List.set_cons_succ]))
  refine wpGrowS_nil ?_
  go_wp2
  exact HEND.out _ _ HO3.out HK3.out
end Go.Proofs.Ytnoegjfokceghaa
