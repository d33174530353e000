/-
  The contracts of the program's functions on nodes, together.
  Conditions: none.
  The program's reader of numbers: number and id.
  Conditions: the bytes lie below the reader's block.
-/
import Derived.Test.YtnoegjfokceghaaMc21
import Derived.Test.YtnoegjfokceghaaMc24
import Derived.Test.YtnoegjfokceghaaMc17
namespace Go.Proofs.Ytnoegjfokceghaa

end Go.Proofs.Ytnoegjfokceghaa


namespace Go.Proofs.Ytnoegjfokceghaa
open Go.RowKit

/-- The reader lies in block R. -/
def RD (W : World) (R : Nat) (A : Option Addr) (n c : Nat) (s : Nat × Bool) : Prop := W.heap[R]? = some (.cells #[.slice A n c, .int .i64 (s.1 : Int), .bool s.2] 76 (0, 0))
theorem RD.lt {W : World} {R : Nat} {A : Option Addr} {n c : Nat} {s : Nat × Bool} (h : RD W R A n c s) : R < W.heap.size := by
  rcases Nat.lt_or_ge R W.heap.size with h1 | h1
  · exact h1
  · unfold RD at h; rw [Array.getElem?_eq_none h1] at h; cases h
theorem RD.cells {W : World} {R : Nat} {A : Option Addr} {n c : Nat} {s : Nat × Bool} (h : RD W R A n c s) : W.cell? ⟨R, 0, none⟩ = some (.slice A n c) ∧ W.cell? ⟨R, 1, none⟩ = some (.int .i64 (s.1 : Int)) ∧ W.cell? ⟨R, 2, none⟩ = some (.bool s.2) := by
  unfold RD at h
  exact ⟨by rw [Lib.cell_of_heap h]; rfl, by rw [Lib.cell_of_heap h]; rfl, by rw [Lib.cell_of_heap h]; rfl⟩
theorem RD.frz {W : World} {R : Nat} {A : Option Addr} {n c : Nat} {s : Nat × Bool} (h : RD W R A n c s) (j : Nat) : W.frozen? ⟨R, j, none⟩ = false := Lib.frozen_of_heap h j
theorem RD.next {W W' : World} {R : Nat} {A : Option Addr} {n c : Nat} {s : Nat × Bool} (h : RD W R A n c s) (hb : Below W.heap.size W W') : RD W' R A n c s := (hb.block R h.lt).trans h
theorem RD.fail {W : World} {R : Nat} {A : Option Addr} {n c : Nat} {s : Nat × Bool} (h : RD W R A n c s) : RD (W.setCell ⟨R, 2, none⟩ (.bool true)) R A n c (s.1, true) := by
  unfold RD at *
  simp [World.setCell, Array.getElem?_modify, h]
theorem RD.move {W : World} {R : Nat} {A : Option Addr} {n c : Nat} {s : Nat × Bool} (h : RD W R A n c s) (k : Nat) : RD (W.setCell ⟨R, 1, none⟩ (.int .i64 (k : Int))) R A n c (k, s.2) := by
  unfold RD at *
  simp [World.setCell, Array.getElem?_modify, h]
/-- Nothing but block R has changed. -/
def Ko (R : Nat) (W W' : World) : Prop := W.grownBy W' (some R)
theorem Ko.trans {R : Nat} {a b c : World} (h : Ko R a b) (k : Ko R b c) : Ko R a c :=
  ⟨k.os.trans h.os, k.tape.trans h.tape, k.output.trans h.output, Nat.le_trans h.size k.size, fun j hj hne => (k.block j (Nat.lt_of_lt_of_le hj h.size) hne).trans (h.block j hj hne)⟩
theorem Ko.bel {R : Nat} {a b : World} (h : Below a.heap.size a b) : Ko R a b := ⟨h.os, h.tape, h.output, h.size, fun j hj _ => h.block j hj⟩
theorem Ko.set {R : Nat} {a b : World} (h : Ko R a b) (j : Nat) (v : Value) : Ko R a (b.setCell ⟨R, j, none⟩ v) :=
  ⟨h.os, h.tape, h.output, Nat.le_trans h.size (by simp), fun i hi hne => (Below.heap_setCell b ⟨R, j, none⟩ v i (fun e => hne (by rw [e]))).trans (h.block i hi hne)⟩
theorem Ko.below {R B : Nat} {a b w : World} (h : Ko R a b) (hw : Below B w a) (hB : B ≤ a.heap.size) (hR : B ≤ R) : Below B w b := hw.grown h hB (fun j e => by cases e; exact hR)
set_option maxRecDepth 20000 in
set_option maxHeartbeats 2000000 in
theorem pNum_any (R : Nat) (A : Option Addr) (n c : Nat) (l : List UInt8) (s : Nat × Bool) (w : World) (hr : RD w R A n c s) (hb : Byt w R A n l) (hn : n ≤ 4294967296) :
    Calls Try.prog 56 #[.pointer (some ⟨R, 0, none⟩)] w fun e w' => e = .returned (.int .i64 (numP l s).1) ∧ RD w' R A n c (numP l s).2 ∧ Ko R w w' := by
  obtain ⟨r0, r1, r2⟩ := hr.cells
  have hRl := hr.lt
  have rf := hr.frz
  have HR := Lib.hid hr
  have HU := Lib.hid fun W (hW : Below w.heap.size w W) => uvarint_any A n c R (s.1 : Int) l W (hb.below (hW.mono (by omega))) hn
  have HP : Hid (numP l s = if s.2 = true then (0, s) else if (uvR l s.1).2.2 = 0 then (IntKind.i64.wrap ((uvR l s.1).1 : Nat), ((uvR l s.1).2.1, false)) else (0, (s.1, true))) := Lib.hid rfl
  generalize numP l s = q at *
  generalize uvR l (s.1 : Int) = u at *
  clear hb hr
  obtain ⟨o, bad⟩ := s
  obtain ⟨u0, u1, u2⟩ := u
  simp only at *
  go_enter Try.func56, Try.ntmps56
  rcases bad with _ | _
  rotate_left
  · have HQ : Hid (q = (0, (o, true))) := Lib.hid (by rw [HP.out, if_pos rfl])
    go_wp2
    go_ret
    rw [HQ.out]
    exact ⟨rfl, HR.out, Ko.bel (Below.refl _ _)⟩
  go_upto_region 3 with fail
  have hS := (Below.refl w.heap.size w).drew
  refine wp_region_growS (S := fun W => Below w.heap.size w W) [(0, true), (1, true), (2, true), (3, true), (4, true), (5, true), (6, true), (7, true), (8, false), (9, true), (10, true), (13, true), (11, true), (14, true), (12, true), (15, true)] (by kernel_rfl) (by kernel_rfl) (by kernel_rfl) (by kernel_rfl) (by intro c a d v w h; cases d <;> exact h) hS ?_
  iterate 8
    (first
      | (refine wpGrowS_float (v := ?_) (by simp only [List.getElem?_toArray, List.getElem?_cons_succ, List.getElem?_cons_zero]; rfl) (by rfl) ?_ ?_
         rotate_left
         · (intro W hW; have t0 := (hW.cell (p := ⟨R, 0, none⟩) hRl).trans r0; have t1 := (hW.cell (p := ⟨R, 1, none⟩) hRl).trans r1; have t2 := (hW.cell (p := ⟨R, 2, none⟩) hRl).trans r2; (try simp only at *); go_simp; try with_reducible rfl)
         simp only [Act.put, List.setIfInBounds_toArray, List.set_cons_zero, List.set_cons_succ])
      | (refine wpGrowS_skip (by simp only [List.getElem?_toArray, List.getElem?_cons_succ, List.getElem?_cons_zero]; rfl) (by rfl) ?_
         simp only [Act.put, List.setIfInBounds_toArray, List.set_cons_zero, List.set_cons_succ]))
  refine wpGrowS_call (by simp only [List.getElem?_toArray, List.getElem?_cons_succ, List.getElem?_cons_zero]; rfl) (by rfl) fun K hK => ?_
  go_simp
  go_fit (HU.out _ hS)
  rintro e wn ⟨rfl, rfl⟩
  go_simp
  refine hK _ _ hS ?_
  clear hK K
  try simp only [Act.put, List.setIfInBounds_toArray, List.set_cons_zero, List.set_cons_succ]
  iterate 7
    (first
      | (refine wpGrowS_float (v := ?_) (by simp only [List.getElem?_toArray, List.getElem?_cons_succ, List.getElem?_cons_zero]; rfl) (by rfl) ?_ ?_
         rotate_left
         · (intro W hW; have t0 := (hW.cell (p := ⟨R, 0, none⟩) hRl).trans r0; have t1 := (hW.cell (p := ⟨R, 1, none⟩) hRl).trans r1; have t2 := (hW.cell (p := ⟨R, 2, none⟩) hRl).trans r2; (try simp only at *); go_simp; try with_reducible rfl)
         simp only [Act.put, List.setIfInBounds_toArray, List.set_cons_zero, List.set_cons_succ])
      | (refine wpGrowS_skip (by simp only [List.getElem?_toArray, List.getElem?_cons_succ, List.getElem?_cons_zero]; rfl) (by rfl) ?_
         simp only [Act.put, List.setIfInBounds_toArray, List.set_cons_zero, List.set_cons_succ]))
  refine wpGrowS_nil ?_
  have HRS := Lib.hid (HR.out.next hS)
  have HBS := Lib.hid hS
  clear hS r0 r1 r2 rf hRl HR
  obtain ⟨r0, r1, r2⟩ := HRS.out.cells
  have hRl := HRS.out.lt
  have rf := HRS.out.frz
  simp only at r0 r1 r2
  by_cases hu : u2 = 0
  · have f1 : (u2 != 0) = false := by simp [hu]
    have HQ : Hid (q = (IntKind.i64.wrap (u0 : Int), (u1, false))) := Lib.hid (by rw [HP.out, if_neg (by simp), if_pos hu])
    have HM := Lib.hid (HRS.out.move u1)
    have HW : Hid (wrap64 (u0 : Int) = IntKind.i64.wrap (u0 : Int)) := Lib.hid (by rw [IntKind.wrap_i64]; unfold wrap64; omega)
    clear hu
    go_wp2
    go_ret
    rw [HQ.out]
    exact ⟨congrArg (fun z => Ending.returned (Value.int .i64 z)) HW.out, HM.out, (Ko.bel HBS.out).set _ _⟩
  · have f1 : (u2 != 0) = true := by simp [hu]
    have HQ : Hid (q = (0, (o, true))) := Lib.hid (by rw [HP.out, if_neg (by simp), if_neg hu])
    have HM := Lib.hid HRS.out.fail
    clear hu
    go_wp2
    go_ret
    rw [HQ.out]
    exact ⟨rfl, HM.out, (Ko.bel HBS.out).set _ _⟩
set_option maxRecDepth 20000 in
set_option maxHeartbeats 2000000 in
theorem pRid_any (R : Nat) (A : Option Addr) (n c : Nat) (l : List UInt8) (s : Nat × Bool) (w : World) (hr : RD w R A n c s) (hb : Byt w R A n l) (hn : n ≤ 4294967296) :
    Calls Try.prog 55 #[.pointer (some ⟨R, 0, none⟩)] w fun e w' => e = .returned (idP l s).1.val ∧ RD w' R A n c (idP l s).2 ∧ Ko R w w' := by
  have HN := Lib.hid fun s' W (h : RD W R A n c s') (hk : Ko R w W) => pNum_any R A n c l s' W h (hb.below (hk.below (Below.refl _ _) (by have := hr.lt; omega) (Nat.le_refl _))) hn
  have HR := Lib.hid (hr.next (belt (Below.refl _ w) (.cells #[.int .i64 0, .int .i64 0, .int .i64 0] 23)))
  have HK : Hid (Ko R w (w.alloc (.cells #[.int .i64 0, .int .i64 0, .int .i64 0] 23))) := Lib.hid (Ko.bel (belt (Below.refl _ w) _))
  have HI := Lib.hid (IB.new w ⟨0, 0, 0⟩)
  have HRL := Lib.hid hr.lt
  have HQ : Hid (idP l s = (⟨(numP l s).1, (numP l (numP l s).2).1, (numP l (numP l (numP l s).2).2).1⟩, (numP l (numP l (numP l s).2).2).2)) := Lib.hid rfl
  rw [HQ.out]
  clear HQ hb hr
  simp only [GId.val]
  generalize h1 : numP l s = a1
  generalize h2 : numP l a1.2 = a2
  generalize h3 : numP l a2.2 = a3
  have HN1 := Lib.hid (HN.out s)
  have HN2 := Lib.hid (HN.out a1.2)
  have HN3 := Lib.hid (HN.out a2.2)
  rw [h1] at HN1
  rw [h2] at HN2
  rw [h3] at HN3
  clear h1 h2 h3 HN
  go_enter Try.func55, Try.ntmps55
  go_wp2_with fail
  go_fit (HN1.out _ HR.out HK.out)
  rintro e w1 ⟨rfl, hr1, hk1⟩
  have HI1 := Lib.hid (show IB w1 w.heap.size ⟨0, 0, 0⟩ from (hk1.block _ (by simp) (fun e => by cases e; have := HRL.out; omega)).trans HI.out)
  have HR1 := Lib.hid hr1
  have HK1 := Lib.hid (HK.out.trans hk1)
  clear hr1 hk1 HI HR HK HN1
  go_wp2_with fail
  go_fit (HN2.out _ HR1.out HK1.out)
  rintro e w2 ⟨rfl, hr2, hk2⟩
  have HI2 := Lib.hid (show IB w2 w.heap.size ⟨0, 0, 0⟩ from (hk2.block _ HI1.out.lt (fun e => by cases e; have := HRL.out; omega)).trans HI1.out)
  have HR2 := Lib.hid hr2
  have HK2 := Lib.hid (HK1.out.trans hk2)
  clear hr2 hk2 HI1 HR1 HK1 HN2
  go_wp2_with fail
  go_fit (HN3.out _ HR2.out HK2.out)
  rintro e w3 ⟨rfl, hr3, hk3⟩
  have HI3 := Lib.hid (show IB w3 w.heap.size ⟨0, 0, 0⟩ from (hk3.block _ HI2.out.lt (fun e => by cases e; have := HRL.out; omega)).trans HI2.out)
  have HR3 := Lib.hid hr3
  have HK3 := Lib.hid (HK2.out.trans hk3)
  clear hr3 hk3 HI2 HR2 HK2 HN3
  obtain ⟨z0, z1, z2⟩ := HI3.out.cells
  have zf := HI3.out.frz
  have zl := HI3.out.lt
  simp only at z0 z1 z2
  have HKA : Hid (∀ (W : World) j v, Ko R w W → Ko R w (W.setCell ⟨w.heap.size, j, none⟩ v)) := Lib.hid fun W j v h => ⟨h.os, h.tape, h.output, Nat.le_trans h.size (by simp), fun i hi hne => (Below.heap_setCell W ⟨w.heap.size, j, none⟩ v i (by show i ≠ w.heap.size; omega)).trans (h.block i hi hne)⟩
  have HRA : Hid (∀ (W : World) j v, RD W R A n c a3.2 → RD (W.setCell ⟨w.heap.size, j, none⟩ v) R A n c a3.2) := Lib.hid fun W j v h => (Below.heap_setCell W ⟨w.heap.size, j, none⟩ v R (by have := HRL.out; show R ≠ w.heap.size; omega)).trans h
  go_wp2
  refine bodyPost_ret (v := .agg #[.int .i64 a1.1, .int .i64 a2.1, .int .i64 a3.1]) (by simp [results, Try.results55, go_sem, z0, z1, z2]) rfl ?_
  refine ⟨rfl, ?_, ?_⟩
  · repeat (refine HRA.out _ _ _ ?_)
    exact HR3.out
  · repeat (refine HKA.out _ _ _ ?_)
    exact HK3.out
end Go.Proofs.Ytnoegjfokceghaa
