/-
  Positions ascend; the contract of the law's offset: of a position that an offset has it returns that offset.
  Conditions: the text has at most 65536 bytes.
-/
import Derived.Test.YtoedieknjbojdaaDoorAwk
import Derived.Test.YtoedieknjbojdaaDoorLexQ
namespace Go.Proofs.YtoedieknjbojdaaDoor
open Go.RowKit Go.Shelf

theorem adv1_lt (q : Nat × Nat) (c : UInt8) : q.1 < (adv1 q c).1 ∨ (q.1 = (adv1 q c).1 ∧ q.2 < (adv1 q c).2) := by
  unfold adv1; split
  · left; simp
  · right; simp
theorem adv_lt (l : List UInt8) : ∀ q : Nat × Nat, l ≠ [] → q.1 < (adv q l).1 ∨ (q.1 = (adv q l).1 ∧ q.2 < (adv q l).2) := by
  induction l with
  | nil => intro q h; exact absurd rfl h
  | cons c r ih =>
    intro q _
    have h1 := adv1_lt q c
    have e : adv q (c :: r) = adv (adv1 q c) r := rfl
    rw [e]
    by_cases hr : r = []
    · subst hr; exact h1
    · have h2 := ih (adv1 q c) hr
      omega
theorem adv_inj {l : List UInt8} {q : Nat × Nat} {j k : Nat} (hj : j < k) (hk : k ≤ l.length) : adv q (l.take j) ≠ adv q (l.take k) := by
  intro h
  have e : adv q (l.take k) = adv (adv q (l.take j)) ((l.drop j).take (k - j)) := by rw [adv_split, show j + (k - j) = k by omega]
  have hne : (l.drop j).take (k - j) ≠ [] := by
    intro h0
    have := congrArg List.length h0
    rw [List.length_take, List.length_drop] at this
    simp at this; omega
  have := adv_lt _ (adv q (l.take j)) hne
  rw [← e, ← h] at this
  omega
theorem adv_bd (l : List UInt8) : ∀ q : Nat × Nat, 1 ≤ q.1 → 1 ≤ q.2 → 1 ≤ (adv q l).1 ∧ 1 ≤ (adv q l).2 ∧ (adv q l).1 ≤ q.1 + l.length ∧ (adv q l).2 ≤ q.2 + l.length := by
  induction l with
  | nil => intro q h1 h2; exact ⟨h1, h2, by simp [adv], by simp [adv]⟩
  | cons c r ih =>
    intro q h1 h2
    have e : adv q (c :: r) = adv (adv1 q c) r := rfl
    rw [e, List.length_cons]
    have h3 : 1 ≤ (adv1 q c).1 ∧ 1 ≤ (adv1 q c).2 ∧ (adv1 q c).1 ≤ q.1 + 1 ∧ (adv1 q c).2 ≤ q.2 + 1 := by unfold adv1; split <;> simp <;> omega
    have h4 := ih (adv1 q c) h3.1 h3.2.1
    omega
theorem adv_step {l : List UInt8} {q : Nat × Nat} {j : Nat} (hj : j < l.length) : adv q (l.take (j + 1)) = adv1 (adv q (l.take j)) l[j] := by
  rw [List.take_succ_eq_append_getElem hj, adv_append]; rfl

theorem bel_next {w w1 w2 : World} (h1 : Below w.heap.size w w1) (h2 : Below w1.heap.size w1 w2) : Below w.heap.size w w2 := h1.trans (h2.mono h1.size)
theorem bel_lit {w w1 : World} (h1 : Below w.heap.size w w1) (o : Obj) : Below w.heap.size w (w1.alloc o) := h1.alloc h1.size o
theorem bel_alloc {w w1 w2 : World} {o : Obj} (h1 : Below w.heap.size w w1) (h2 : Below (w1.alloc o).heap.size (w1.alloc o) w2) : Below w.heap.size w w2 := bel_next (bel_lit h1 o) h2
theorem two_set0 {w : World} {B : Nat} {p q : Value} {T : TypeId} (h : w.heap[B]? = some (.cells #[p, q] T (0, 0))) (v : Value) : (w.setCell ⟨B, 0, none⟩ v).heap[B]? = some (.cells #[v, q] T (0, 0)) := (heap_setCell_same w B 0 #[p, q] T v h).trans rfl
theorem two_set1 {w : World} {B : Nat} {p q : Value} {T : TypeId} (h : w.heap[B]? = some (.cells #[p, q] T (0, 0))) (v : Value) : (w.setCell ⟨B, 1, none⟩ v).heap[B]? = some (.cells #[p, v] T (0, 0)) := (heap_setCell_same w B 1 #[p, q] T v h).trans rfl

set_option maxRecDepth 50000 in
set_option maxHeartbeats 1000000 in
theorem offset_any (l : List UInt8) (k a b : Nat) (hk : k ≤ l.length) (hp : adv (1, 1) (l.take k) = (a, b)) (hl : l.length ≤ 65536) (w : World) :
    Calls Tryd.prog 22 #[.string ⟨l.toArray⟩, .agg #[.int .i64 a, .int .i64 b]] w fun e w' => e = .returned (.int .i64 k) ∧ Below w.heap.size w w' := by
  have hsz : (⟨l.toArray⟩ : ByteArray).size = l.length := ba_size l
  have HP := Lib.hid hp
  clear hp
  go_enter Tryd.func22, Tryd.ntmps22
  go_wp2
  go_loopw [6] (fun vi wr => ∃ j x y : Nat, vi = .int .i64 j ∧ j ≤ k ∧ Hid (adv (1, 1) (l.take j) = (x, y)) ∧ Hid (wr.heap[w.heap.size]? = some (.cells #[.int .i64 a, .int .i64 b] 25 (0, 0))) ∧ Hid (wr.heap[w.heap.size + 1]? = some (.cells #[.int .i64 x, .int .i64 y] 25 (0, 0))) ∧ Hid (Below w.heap.size w wr))
    (fun vi _ => l.length + 1 - (intOf vi).toNat)
  case atStart =>
    refine ⟨0, 1, 1, rfl, Nat.zero_le _, rfl, ?_, ?_, Lib.hid (((Below.refl _ _).alloc (Nat.le_refl _) _).alloc (by simp) _)⟩
    · exact (Below.heap_alloc _ _ _ (by simp)).trans (heap_alloc_new w _)
    · have := heap_alloc_new (w.alloc (.cells #[.int .i64 a, .int .i64 b] 25)) (.cells #[.int .i64 1, .int .i64 1] 25)
      have e : (w.alloc (.cells #[.int .i64 (a : Int), .int .i64 (b : Int)] 25)).heap.size = w.heap.size + 1 := by simp
      rw [e] at this; exact this
  case round =>
    obtain ⟨j, x, y, rfl, hj, HX, H0, H1, HB⟩ := hrel
    have bd := adv_bd (l.take j) (1, 1) (Nat.le_refl _) (Nat.le_refl _)
    rw [HX.out, List.length_take] at bd
    have bx : x ≤ 65537 := by have := bd.2.2.1; simp at this; omega
    have by' : y ≤ 65537 := by have := bd.2.2.2; simp at this; omega
    clear bd
    have c0 : wr.cell? ⟨w.heap.size, 0, none⟩ = some (.int .i64 a) := by simp [World.cell?, H0.out]
    have c1 : wr.cell? ⟨w.heap.size, 1, none⟩ = some (.int .i64 b) := by simp [World.cell?, H0.out]
    have d0 : wr.cell? ⟨w.heap.size + 1, 0, none⟩ = some (.int .i64 x) := by simp [World.cell?, H1.out]
    have d1 : wr.cell? ⟨w.heap.size + 1, 1, none⟩ = some (.int .i64 y) := by simp [World.cell?, H1.out]
    have z1 : ∀ i, wr.frozen? ⟨w.heap.size + 1, i, none⟩ = false := fun i => by simp [World.frozen?, H1.out]
    rcases Nat.lt_or_ge j k with hlt | hge
    · have hne : ¬ (x = a ∧ y = b) := fun ⟨h1, h2⟩ => adv_inj (q := (1, 1)) hlt hk (by rw [HX.out, HP.out, h1, h2])
      have hjl : j < l.length := by omega
      have hx : (⟨l.toArray⟩ : ByteArray)[j]'(by rw [hsz]; exact hjl) = l[j] := rfl
      by_cases hxa : x = a
      · have hyb : ¬ ((y : Int) = (b : Int)) := fun h => hne ⟨hxa, by omega⟩
        subst hxa
        clear hne
        by_cases h10 : l[j].toNat = 10
        · have f10 : ((l[j].toNat : Int) == 10) = true := by simp; omega
          have HA : Hid (adv (1, 1) (l.take (j + 1)) = (x + 1, 1)) := Lib.hid (by rw [adv_step hjl, HX.out]; simp [adv1, show l[j] = 10 from UInt8.toNat_inj.1 h10])
          have K1 := two_set1 (two_set0 (two_set1 H1.out (.int .i64 ((y : Int) + 1))) (.int .i64 ((x : Int) + 1))) (.int .i64 1)
          have HK := Lib.hid K1
          clear K1
          go_wp2
          go_roundw
          case rel => exact ⟨j + 1, x + 1, 1, by go_num, by omega, HA, Lib.hid (by rw [Below.heap_setCell _ _ _ _ (by show w.heap.size ≠ w.heap.size + 1; omega), Below.heap_setCell _ _ _ _ (by show w.heap.size ≠ w.heap.size + 1; omega), Below.heap_setCell _ _ _ _ (by show w.heap.size ≠ w.heap.size + 1; omega)]; exact H0.out), HK, Lib.hid (((HB.out.setCell (Nat.le_succ _) _).setCell (Nat.le_succ _) _).setCell (Nat.le_succ _) _)⟩
          case measure => simp [intOf]; omega
        · have f10 : ((l[j].toNat : Int) == 10) = false := by simp; omega
          have HA : Hid (adv (1, 1) (l.take (j + 1)) = (x, y + 1)) := Lib.hid (by rw [adv_step hjl, HX.out]; simp [adv1]; exact fun h => h10 (by rw [h]; rfl))
          have K1 := two_set1 H1.out (.int .i64 ((y : Int) + 1))
          have HK := Lib.hid K1
          clear K1
          go_wp2
          go_roundw
          case rel => exact ⟨j + 1, x, y + 1, by go_num, by omega, HA, Lib.hid (by rw [Below.heap_setCell _ _ _ _ (by show w.heap.size ≠ w.heap.size + 1; omega)]; exact H0.out), HK, Lib.hid (HB.out.setCell (Nat.le_succ _) _)⟩
          case measure => simp [intOf]; omega
      · have hxb : ¬ ((x : Int) = (a : Int)) := by omega
        clear hne
        by_cases h10 : l[j].toNat = 10
        · have f10 : ((l[j].toNat : Int) == 10) = true := by simp; omega
          have HA : Hid (adv (1, 1) (l.take (j + 1)) = (x + 1, 1)) := Lib.hid (by rw [adv_step hjl, HX.out]; simp [adv1, show l[j] = 10 from UInt8.toNat_inj.1 h10])
          have K1 := two_set1 (two_set0 (two_set1 H1.out (.int .i64 ((y : Int) + 1))) (.int .i64 ((x : Int) + 1))) (.int .i64 1)
          have HK := Lib.hid K1
          clear K1
          go_wp2
          go_roundw
          case rel => exact ⟨j + 1, x + 1, 1, by go_num, by omega, HA, Lib.hid (by rw [Below.heap_setCell _ _ _ _ (by show w.heap.size ≠ w.heap.size + 1; omega), Below.heap_setCell _ _ _ _ (by show w.heap.size ≠ w.heap.size + 1; omega), Below.heap_setCell _ _ _ _ (by show w.heap.size ≠ w.heap.size + 1; omega)]; exact H0.out), HK, Lib.hid (((HB.out.setCell (Nat.le_succ _) _).setCell (Nat.le_succ _) _).setCell (Nat.le_succ _) _)⟩
          case measure => simp [intOf]; omega
        · have f10 : ((l[j].toNat : Int) == 10) = false := by simp; omega
          have HA : Hid (adv (1, 1) (l.take (j + 1)) = (x, y + 1)) := Lib.hid (by rw [adv_step hjl, HX.out]; simp [adv1]; exact fun h => h10 (by rw [h]; rfl))
          have K1 := two_set1 H1.out (.int .i64 ((y : Int) + 1))
          have HK := Lib.hid K1
          clear K1
          go_wp2
          go_roundw
          case rel => exact ⟨j + 1, x, y + 1, by go_num, by omega, HA, Lib.hid (by rw [Below.heap_setCell _ _ _ _ (by show w.heap.size ≠ w.heap.size + 1; omega)]; exact H0.out), HK, Lib.hid (HB.out.setCell (Nat.le_succ _) _)⟩
          case measure => simp [intOf]; omega
    · have hjk : j = k := by omega
      subst hjk
      obtain ⟨rfl, rfl⟩ : x = a ∧ y = b := by
        have := HX.out.symm.trans HP.out
        exact ⟨congrArg Prod.fst this, congrArg Prod.snd this⟩
      go_wp2
      go_ret
      exact ⟨rfl, HB.out⟩
end Go.Proofs.YtoedieknjbojdaaDoor
