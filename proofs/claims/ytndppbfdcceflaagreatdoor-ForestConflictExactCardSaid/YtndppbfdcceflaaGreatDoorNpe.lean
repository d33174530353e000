/-
  The program's Parent: a range over a function.
  Conditions: none.
-/
import Derived.RangeFuncNested
import Derived.RangeFuncLeaves
import Derived.Shelf.Abstract
import Derived.WalkKit
import Derived.OwnWalkIn
import Derived.TacticsInMore
import Derived.LoopNIn
import Derived.LoopIn
import Derived.Test.YtndppbfdcceflaaGreatDoorNpd
import Derived.Test.YtndppbfdcceflaaGreatDoorNae
namespace Go.Proofs.YtndppbfdcceflaaGreatDoor

open Go.RowKit Go.Shelf

attribute [local go_sem] Oper.semAt_some

theorem GRow.keepB {α : Type} {enc : α → List Value} {k : Nat} {w w' : World} {B : Nat} {A : Option Addr} {xs : List α} (h : GRow enc k w B A xs) (hb : Below B w w') : GRow enc k w' B A xs := fun hn => by
  obtain ⟨b, off, e, hB, hc⟩ := h hn
  exact ⟨b, off, e, hB, fun j hj i v hi => (hb.cell (p := ⟨b, off + (j * k + i), none⟩) hB).trans (hc j hj i v hi)⟩
theorem drop_rev {xs : List GId} {k : Nat} (h : k < xs.length) : (xs.drop k).reverse = (xs.drop (k + 1)).reverse ++ [xs[k]] := by
  rw [List.drop_eq_getElem_cons h, List.reverse_cons]
theorem drop_pre (xs : List GId) (k : Nat) : (xs.drop k).reverse <+: xs.reverse := by
  refine ⟨(xs.take k).reverse, ?_⟩
  rw [← List.reverse_append, List.take_append_drop]
set_option maxRecDepth 100000 in
set_option maxHeartbeats 2000000 in
theorem anc1_in (F : Fence) (n : Nat) (hf : F.fn 125) (hro : F.round = none) (hn : 1 ≤ n) (l Bn n₀ : Nat) (xi : GId) (xs : List GId) (A : Option Addr) (c : Nat) (xc : GC) (hl : xs.length ≤ 17179869184) (J Jx : List GId → World → Prop)
    (hY : ∀ pre x W, J pre W → pre.length < xs.length → YieldAt F (n - 1) Tryz.prog l #[x.val] W fun e W' =>
      (e = .returned (.bool true) ∧ J (pre ++ [x]) W' ∧ Below n₀ W W') ∨ (e = .returned (.bool false) ∧ Jx (pre ++ [x]) W'))
    (W : World) (hN : NB W Bn xi A xs.length c xc) (hBn : Bn < n₀) (hR : GRow GId.cells 3 W n₀ A xs) (h0 : J [] W) :
    CallsIn F n Tryz.prog 125 #[.func (.yield l) #[] #[], .pointer (some ⟨Bn, 0, none⟩)] W fun e W' => (∃ v, e = .returned v) ∧
      ((∃ ys, ys = xs.reverse ∧ J ys W') ∨ (∃ pre, pre <+: xs.reverse ∧ Jx pre W')) := by
  have HN := Lib.hid fun W' (hW : Below n₀ W W') => show NB W' Bn xi A xs.length c xc from (hW.block Bn hBn).trans hN
  have HR := Lib.hid fun W' (hW : Below n₀ W W') => hR.keepB hW
  obtain ⟨d0, d1, d2, d3, d4, d5, d6, d7, d8, d9, d10⟩ := hN.cells
  try simp only at d3
  clear d0 d1 d2 d4 d5 d6 d7 d8 d9 d10 hN hR
  refine callsIn_of_wp Tryz.func125 rfl hf ?_ hro
  simp only [Tryz.ntmps125, List.size_toArray, List.length_cons, List.length_nil, Nat.reduceAdd, Nat.reduceSub, Array.replicate_succ, Array.replicate_zero, List.push_toArray, List.append_toArray, List.nil_append, List.cons_append]
  gi_wp2
  clear d3
  gi_loopw [3] (fun vi wr => ∃ (k : Nat) (vz : Int), vi = .int .i64 vz ∧ vz = (k : Int) - 1 ∧ k ≤ xs.length ∧ J (xs.drop k).reverse wr ∧ Below n₀ W wr) (fun vi _ => (intOf vi + 1).toNat)
  case atStart => exact ⟨xs.length, _, rfl, rfl, Nat.le_refl _, by rw [List.drop_length]; exact h0, Below.refl _ _⟩
  case round =>
    obtain ⟨k, vz, rfl, hz, hk, hJs, hnx⟩ := hrel
    rcases k with _ | k
    · have fz : decide ((0 : Int) ≤ vz) = false := by simp; omega
      gi_wp2
      go_end0
      exact ⟨⟨_, rfl⟩, .inl ⟨_, rfl, by simpa using hJs⟩⟩
    · obtain rfl : vz = (k : Int) := by omega
      clear hz
      have f1 : decide ((k : Int) < (xs.length : Int)) = true := by simp; omega
      have f0 : 0 ≤ (k : Int) := by omega
      obtain ⟨d0, d1, d2, d3, d4, d5, d6, d7, d8, d9, d10⟩ := (HN.out _ hnx).cells
      try simp only at d3
      clear d0 d1 d2 d4 d5 d6 d7 d8 d9 d10
      obtain ⟨b1, o1, rfl, hbz, x0, x1, x2⟩ := (HR.out _ hnx).gid (show k < xs.length by omega)
      obtain ⟨fn, tmps, assign, body, hy, hRy⟩ := hY _ xs[k] wr hJs (by simp; omega)
      have HD := Lib.hid (drop_rev (xs := xs) (k := k) (by omega))
      generalize xs[k] = y at *
      obtain ⟨yc, yo, yp⟩ := y
      simp only [GId.val] at hy hRy x0 x1 x2
      gi_wp2
      refine hRy.mono ?_
      rintro e W3 (⟨rfl, hJ3, hk3⟩ | ⟨rfl, hJx3⟩)
      · gi_wp2
        go_roundw
        case rel => exact ⟨k, _, rfl, by first | rfl | omega, by omega, by rw [HD.out]; exact hJ3, hnx.trans hk3⟩
        case measure => simp [intOf]
      · gi_wp2
        refine bodyPost_ret (results_none rfl _ _ _) rfl ?_
        exact ⟨⟨_, rfl⟩, .inr ⟨_, by rw [← HD.out]; exact drop_pre _ _, hJx3⟩⟩
set_option maxHeartbeats 1000000 in
theorem anc_in (F : Fence) (n : Nat) (hf : F.fn 103) (hro : F.round = none) (i0 i1 i2 : Int) (A : Option Addr) (k c : Nat) (a0 a1 a2 a3 a4 a5 : Int) (a6 : Bool) (w : World) :
    CallsIn F n Tryz.prog 103 #[.agg #[.int .i64 i0, .int .i64 i1, .int .i64 i2, .slice A k c, .int .i64 a0, .int .i64 a1, .int .i64 a2, .int .i64 a3, .int .i64 a4, .int .i64 a5, .bool a6]] w fun e w' => e = .returned (.func (.func 125) #[] #[.pointer (some ⟨w.heap.size, 0, none⟩)]) ∧
      w' = w.alloc (.cells #[.int .i64 i0, .int .i64 i1, .int .i64 i2, .slice A k c, .int .i64 a0, .int .i64 a1, .int .i64 a2, .int .i64 a3, .int .i64 a4, .int .i64 a5, .bool a6] 30) := by
  refine callsIn_of_wp Tryz.func103 rfl hf ?_ hro
  simp only [Tryz.ntmps103, List.size_toArray, List.length_cons, List.length_nil, Nat.reduceAdd, Nat.reduceSub, Array.replicate_succ, Array.replicate_zero, List.push_toArray, List.append_toArray, List.nil_append, List.cons_append]
  gi_wp2
  go_ret
  exact ⟨rfl, rfl⟩
theorem anc_stops (F : Fence) (n : Nat) (hf : F.fn 125) (hro : F.round = none) (hn : 1 ≤ n) (Bn n₀ : Nat) (xi : GId) (xs : List GId) (A : Option Addr) (c : Nat) (xc : GC) (hl : xs.length ≤ 17179869184) (w : World) (hn₀ : n₀ ≤ w.heap.size) (hN : NB w Bn xi A xs.length c xc) (hBn : Bn < n₀) (hR : GRow GId.cells 3 w n₀ A xs) :
    SeqStopsK F n Tryz.prog 125 #[.pointer (some ⟨Bn, 0, none⟩)] (fun x : GId => #[x.val]) (Below n₀) (fun ys => ys = xs.reverse) (fun pre => pre <+: xs.reverse) xs.length w := fun l J Jx W hW _ _ hY h0 =>
  anc1_in F n hf hro hn l Bn n₀ xi xs A c xc hl J Jx hY W ((hW.block Bn (by omega)).trans hN) hBn (hR.keepB (hW.mono hn₀)) h0
theorem keepsFrom_below {B : Nat} {W W' : World} (h : Below W.heap.size W W') : KeepsFrom B W W' :=
  ⟨h.size, fun k _ _ hk _ => (h.block k (Array.getElem?_eq_some_iff.1 hk).1).trans hk⟩
/-- Three cells hold an Id. -/
def IC (W : World) (N : Nat) (x : GId) : Prop := W.cell? ⟨N, 0, none⟩ = some (.int .i64 x.core) ∧ W.cell? ⟨N, 1, none⟩ = some (.int .i64 x.op) ∧ W.cell? ⟨N, 2, none⟩ = some (.int .i64 x.part)
theorem IC.kept {W W' : World} {N : Nat} {x : GId} {row : Option Nat} (h : IC W N x) (hg : W.grownBy W' row) (hr : ∀ r, row = some r → ∃ o : Obj, W.heap[r]? = some o ∧ o.isCells = false) : IC W' N x :=
  ⟨cell_kept h.1 hg hr, cell_kept h.2.1 hg hr, cell_kept h.2.2 hg hr⟩
theorem par_last {xs ls ini : List GId} {y : GId} (hp : (ini ++ [y]) <+: xs.reverse) (hi : ∀ z ∈ ini, hasI ls z = false) (hy : hasI ls y = true) : parI xs ls = y ∧ parB xs ls = true := by
  refine par_some ?_
  unfold parO
  obtain ⟨r, e⟩ := hp
  rw [← e, List.append_assoc, List.find?_append, List.find?_eq_none.2 (by intro z hz; rw [hi z hz]; simp), Option.none_or, List.singleton_append, List.find?_cons, hy]
theorem par_all {xs ls : List GId} (hi : ∀ z ∈ xs.reverse, hasI ls z = false) : parI xs ls = ⟨0, 0, 0⟩ ∧ parB xs ls = false := by
  refine par_none ?_
  unfold parO
  exact List.find?_eq_none.2 (by intro z hz; rw [hi z hz]; simp)
end Go.Proofs.YtndppbfdcceflaaGreatDoor
