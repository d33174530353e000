/-
  Identities of nodes in plain words, and the reference's functions on them and on lists of them.
  Conditions: none.
-/
import Derived.Test.YtndppbfdcceflaaGreatDoorCaa
import Derived.Test.YtndppbfdcceflaaGreatDoorGrs
import Derived.Laws.StructEq
namespace Go.Proofs.YtndppbfdcceflaaGreatDoor

open Go.RowKit

structure GId where
  core : Int
  op : Int
  part : Int
deriving DecidableEq
def GId.val (x : GId) : Value := .agg #[.int .i64 x.core, .int .i64 x.op, .int .i64 x.part]
def GId.cells (x : GId) : List Value := [.int .i64 x.core, .int .i64 x.op, .int .i64 x.part]
theorem GId.len (x : GId) : x.cells.length = 3 := rfl
theorem GId.one (x : GId) : ∀ u ∈ x.cells, u.oneCell' = true := by intro u hu; simp [GId.cells] at hu; rcases hu with rfl | rfl | rfl <;> rfl
def vI (x : GId) : Bool := decide (0 ≤ x.core) && decide (x.core < 32) && decide (1 ≤ x.op) && decide (x.op ≤ 1073741824) && decide (0 ≤ x.part) && decide (x.part < 8)
theorem vI_iff {x : GId} : vI x = true ↔ 0 ≤ x.core ∧ x.core < 32 ∧ 1 ≤ x.op ∧ x.op ≤ 1073741824 ∧ 0 ≤ x.part ∧ x.part < 8 := by simp [vI, and_assoc]
def ltI (a b : GId) : Bool := if a.core ≠ b.core then decide (a.core < b.core) else if a.op ≠ b.op then decide (a.op < b.op) else decide (a.part < b.part)
def eqI (a b : GId) : Bool := a.core == b.core && (a.op == b.op && a.part == b.part)
theorem eqI_iff (a b : GId) : eqI a b = true ↔ a = b := by
  cases a; cases b
  simp [eqI]
theorem eqI_dec (a b : GId) : eqI a b = decide (a = b) := by rw [Bool.eq_iff_iff, eqI_iff]; simp
theorem elt_id : Elt 26 25 3 24 := Elt.of (.agg #[.int .i64 0, .int .i64 0, .int .i64 0]) Tryz.underlying26 (by kernel_rfl) rfl (by decide)
theorem id_eql (a b : GId) (w : World) : (Op.equalIn 10000 25 a.val b.val).run Tryz.prog w = .ok (eqI a b) w := by
  have u3 := Tryz.underlying3
  have hS : Tryz.prog.underlying 25 = some (.struct (Tryz.prog.fieldsOf 25)) := by kernel_rfl
  have hp : Tryz.prog.stoodInHeld 25 = false := by kernel_rfl
  have a3 := Tryz.isAgg3
  have z3 := Tryz.sizeOf3
  unfold eqI
  simp only [GId.val]
  rw [show (10000 : Nat) = 9999 + 1 from rfl, run_equalIn_struct w 9999 25 _ _ hS hp]
  simp only [Program.fieldsOf, Tryz.underlying25]
  go_simp
  by_cases h0 : a.core = b.core
  rotate_left
  · simp [h0]
  by_cases h1 : a.op = b.op
  rotate_left
  · simp [h0, h1]
  by_cases h2 : a.part = b.part <;> simp [h0, h1, h2]
/-- A row of Ids, element by element. -/
theorem GRow.gid {w : World} {B : Nat} {A : Option Addr} {xs : List GId} (h : GRow GId.cells 3 w B A xs) {k : Nat} (hk : k < xs.length) : ∃ b off, A = some ⟨b, off, none⟩ ∧ b < B ∧ w.cell? ⟨b, off + k * 3, none⟩ = some (.int .i64 xs[k].core) ∧ w.cell? ⟨b, off + k * 3 + 1, none⟩ = some (.int .i64 xs[k].op) ∧ w.cell? ⟨b, off + k * 3 + 2, none⟩ = some (.int .i64 xs[k].part) := by
  obtain ⟨b, off, rfl, hb, hc⟩ := h (by omega)
  exact ⟨b, off, rfl, hb, hc k hk 0 _ rfl, hc k hk 1 _ rfl, hc k hk 2 _ rfl⟩
/-- A block of the call's own that holds an Id. -/
def IB (W : World) (N : Nat) (x : GId) : Prop := W.heap[N]? = some (.cells #[.int .i64 x.core, .int .i64 x.op, .int .i64 x.part] 25 (0, 0))
theorem IB.lt {W : World} {N : Nat} {x : GId} (h : IB W N x) : N < W.heap.size := by
  rcases Nat.lt_or_ge N W.heap.size with h1 | h1
  · exact h1
  · unfold IB at h; rw [Array.getElem?_eq_none h1] at h; cases h
theorem IB.next {W W' : World} {N : Nat} {x : GId} (h : IB W N x) (hb : Below W.heap.size W W') : IB W' N x := (hb.block N h.lt).trans h
theorem IB.new (w : World) (x : GId) : IB (w.alloc (.cells #[.int .i64 x.core, .int .i64 x.op, .int .i64 x.part] 25)) w.heap.size x := heap_alloc_new w _
theorem IB.cells {W : World} {N : Nat} {x : GId} (h : IB W N x) : W.cell? ⟨N, 0, none⟩ = some (.int .i64 x.core) ∧ W.cell? ⟨N, 1, none⟩ = some (.int .i64 x.op) ∧ W.cell? ⟨N, 2, none⟩ = some (.int .i64 x.part) := by
  unfold IB at h
  exact ⟨by rw [Lib.cell_of_heap h]; rfl, by rw [Lib.cell_of_heap h]; rfl, by rw [Lib.cell_of_heap h]; rfl⟩
theorem IB.frz {W : World} {N : Nat} {x : GId} (h : IB W N x) (j : Nat) : W.frozen? ⟨N, j, none⟩ = false := Lib.frozen_of_heap h j
set_option maxRecDepth 20000 in
theorem rVId_any (x : GId) (w : World) : Calls Tryz.prog 89 #[x.val] w fun e w' => e = .returned (.bool (vI x)) ∧ Below w.heap.size w w' := by
  have HR : Hid (vI x = (decide (0 ≤ x.core) && decide (x.core < 32) && decide (1 ≤ x.op) && decide (x.op ≤ 1073741824) && decide (0 ≤ x.part) && decide (x.part < 8))) := Lib.hid rfl
  generalize vI x = q at *
  obtain ⟨xc, xo, xp⟩ := x
  simp only [GId.val] at *
  go_enter Tryz.func89, Tryz.ntmps89
  go_wp2
  all_goals
    go_ret
    exact ⟨congrArg (fun b => Ending.returned (Value.bool b)) (by rw [HR.out]; first | (simp [*]; done) | (simp [*]; omega)), belt (Below.refl _ w) _⟩
set_option maxRecDepth 20000 in
theorem rLess_any (a b : GId) (w : World) : Calls Tryz.prog 54 #[a.val, b.val] w fun e w' => e = .returned (.bool (ltI a b)) ∧ Below w.heap.size w w' := by
  have HR : Hid (ltI a b = if a.core ≠ b.core then decide (a.core < b.core) else if a.op ≠ b.op then decide (a.op < b.op) else decide (a.part < b.part)) := Lib.hid rfl
  generalize ltI a b = q at *
  obtain ⟨ac, ao, ap⟩ := a
  obtain ⟨bc, bo, bp⟩ := b
  simp only [GId.val] at *
  by_cases h1 : ac = bc
  · have f1 : (ac == bc) = true := beq_iff_eq.2 h1
    have f1b : (ac != bc) = false := by rw [bne, f1]; rfl
    rw [if_neg (by simp [h1])] at HR
    clear h1
    by_cases h2 : ao = bo
    · have f2 : (ao == bo) = true := beq_iff_eq.2 h2
      have f2b : (ao != bo) = false := by rw [bne, f2]; rfl
      rw [if_neg (by simp [h2])] at HR
      clear h2 f1 f2
      go_enter Tryz.func54, Tryz.ntmps54
      go_wp2
      go_ret
      exact ⟨congrArg (fun b => Ending.returned (Value.bool b)) HR.out.symm, belt (belt (Below.refl _ w) _) _⟩
    · have f2 : (ao == bo) = false := beq_eq_false_iff_ne.2 h2
      have f2b : (ao != bo) = true := by rw [bne, f2]; rfl
      rw [if_pos h2] at HR
      clear h2 f1 f2
      go_enter Tryz.func54, Tryz.ntmps54
      go_wp2
      go_ret
      exact ⟨congrArg (fun b => Ending.returned (Value.bool b)) HR.out.symm, belt (belt (Below.refl _ w) _) _⟩
  · have f1 : (ac == bc) = false := beq_eq_false_iff_ne.2 h1
    have f1b : (ac != bc) = true := by rw [bne, f1]; rfl
    rw [if_pos h1] at HR
    clear h1 f1
    go_enter Tryz.func54, Tryz.ntmps54
    go_wp2
    go_ret
    exact ⟨congrArg (fun b => Ending.returned (Value.bool b)) HR.out.symm, belt (belt (Below.refl _ w) _) _⟩
def hasI (xs : List GId) (x : GId) : Bool := decide (x ∈ xs)
set_option maxRecDepth 20000 in
set_option maxHeartbeats 1000000 in
theorem rHas_any (xs : List GId) (A : Option Addr) (c : Nat) (x : GId) (w : World) (h1 : GRow GId.cells 3 w w.heap.size A xs) (hl : xs.length ≤ 17179869184) :
    Calls Tryz.prog 45 #[.slice A xs.length c, x.val] w fun e w' => e = .returned (.bool (hasI xs x)) ∧ Below w.heap.size w w' := by
  have hb0 := belt (Below.refl _ w) (.cells #[.int .i64 x.core, .int .i64 x.op, .int .i64 x.part] 25)
  have H1 := Lib.hid (h1.next hb0)
  have HX := Lib.hid (IB.new w x)
  have HB0 := Lib.hid hb0
  have HQ : Hid (hasI xs x = decide (x ∈ xs)) := Lib.hid rfl
  have HEQ := Lib.hid fun k (hk : k < xs.length) W => id_eql xs[k] x W
  have HES := Lib.hid fun k (hk : k < xs.length) => eqI_iff xs[k] x
  generalize hasI xs x = q at *
  clear h1 hb0
  obtain ⟨xc, xo, xp⟩ := x
  simp only [GId.val] at *
  go_enter Tryz.func45, Tryz.ntmps45
  go_wp2
  generalize w.alloc (.cells #[.int .i64 xc, .int .i64 xo, .int .i64 xp] 25) = w1 at *
  go_loopw [5] (fun vi wr => ∃ k : Nat, vi = .int .i64 k ∧ k ≤ xs.length ∧ Hid (∀ j (hj : j < xs.length), j < k → xs[j] ≠ ⟨xc, xo, xp⟩) ∧ Hid (Below w1.heap.size w1 wr)) (fun vi _ => xs.length - (intOf vi).toNat)
  case atStart => exact ⟨0, rfl, Nat.zero_le _, Lib.hid fun j _ hj => absurd hj (by omega), Lib.hid (Below.refl _ _)⟩
  case round =>
    obtain ⟨k, rfl, hk, HT, HB⟩ := hrel
    rcases Nat.lt_or_ge k xs.length with hlt | hge
    · obtain ⟨b1, o1, rfl, hb1, x0, x1, x2⟩ := (H1.out.next HB.out).gid hlt
      obtain ⟨y0, y1, y2⟩ := (HX.out.next HB.out).cells
      simp only at y0 y1 y2
      have HBD := Lib.hid HB.out.drew
      have HE := Lib.hid fun W => HEQ.out k hlt W
      have hes := HES.out k hlt
      rcases he : eqI xs[k] ⟨xc, xo, xp⟩ with _ | _
      · have HT2 : Hid (∀ j (hj : j < xs.length), j < k + 1 → xs[j] ≠ ⟨xc, xo, xp⟩) := Lib.hid fun j hj hjk => by
          rcases Nat.lt_or_ge j k with h | h
          · exact HT.out j hj h
          · obtain rfl : j = k := by omega
            intro e
            rw [hes.2 e] at he; cases he
        rw [he] at HE
        have heq := fun W => HE.out W
        clear he hes HE HT
        generalize xs[k] = y at *
        obtain ⟨yc, yo, yp⟩ := y
        simp only at heq x0 x1 x2
        go_upto_region 4 with fail
        go_region
        clear heq x0 x1 x2 y0 y1 y2
        go_wp2
        go_roundw
        case rel => exact ⟨k + 1, by go_num, by omega, HT2, HBD⟩
        case measure => simp [intOf]; omega
      · have HF : Hid (q = true) := Lib.hid (by
          rw [HQ.out, decide_eq_true_eq, ← hes.1 he]
          exact List.getElem_mem hlt)
        rw [he] at HE
        have heq := fun W => HE.out W
        clear he hes HE HT
        generalize xs[k] = y at *
        obtain ⟨yc, yo, yp⟩ := y
        simp only at heq x0 x1 x2
        have HBE := Lib.hid (HB0.out.trans (Below.mono HBD.out HB0.out.size))
        go_upto_region 4 with fail
        go_region
        clear heq x0 x1 x2 y0 y1 y2
        go_wp2
        go_ret
        exact ⟨congrArg (fun b => Ending.returned (Value.bool b)) HF.out.symm, HBE.out⟩
    · have HF : Hid (q = false) := Lib.hid (by
        rw [HQ.out, decide_eq_false_iff_not]
        intro hm
        obtain ⟨j, hj, e⟩ := List.getElem_of_mem hm
        exact HT.out j hj (by omega) e)
      have HBE := Lib.hid (HB0.out.trans (Below.mono HB.out HB0.out.size))
      go_wp2
      go_ret
      exact ⟨congrArg (fun b => Ending.returned (Value.bool b)) HF.out.symm, HBE.out⟩
theorem rCopy_any (xs : List GId) (A : Option Addr) (c : Nat) (w : World) (h1 : GRow GId.cells 3 w w.heap.size A xs) (hl : xs.length ≤ 17179869184) :
    Calls Tryz.prog 90 #[.slice A xs.length c] w fun e w' => ∃ v, e = .returned v ∧ OwnG GId.cells 25 3 w' w.heap.size v xs ∧ Below w.heap.size w w' := by
  obtain ⟨v', w', hrun, hown, hg, _⟩ := OwnG.app elt_id GId.len GId.one (OwnG.nil w w.heap.size) c h1 (Nat.le_refl _) (by unfold maxLen; simp; omega) (by simp; omega)
  have HRUN := Lib.hid hrun
  have HO := Lib.hid hown
  have HB : Hid (Below w.heap.size w w') := Lib.hid ((Below.refl _ w).grown hg (Nat.le_refl _) (fun g e => by simp [Value.ownBlock] at e))
  clear hrun hown hg h1
  generalize xs.length = n at *
  go_enter Tryz.func90, Tryz.ntmps90
  go_wp2_with (at_builtin; refine wpList_gapp HRUN.out rfl rfl rfl rfl rfl ?_)
  go_ret
  exact ⟨v', rfl, by simpa using HO.out, HB.out⟩
end Go.Proofs.YtndppbfdcceflaaGreatDoor
