/-
  Nodes in plain words; boxes that hold a node; the reference's comparison and copy of nodes.
  Conditions: none.
-/
import Derived.Test.YtndppbfdcceflaaGreatDoorNaa
import Derived.Test.YtndppbfdcceflaaGreatDoorCea
namespace Go.Proofs.YtndppbfdcceflaaGreatDoor

open Go.RowKit

structure GN where
  id : GId
  path : List GId
  cap : GC
deriving DecidableEq
/-- The value of a node whose path lies at A. -/
def GN.val (x : GN) (A : Option Addr) (c : Nat) : Value := .agg #[.int .i64 x.id.core, .int .i64 x.id.op, .int .i64 x.id.part, .slice A x.path.length c, .int .i64 x.cap.kind, .int .i64 x.cap.base, .int .i64 x.cap.bits, .int .i64 x.cap.rights, .int .i64 x.cap.width, .int .i64 x.cap.level, .bool x.cap.device]
abbrev PRow (w : World) (B : Nat) (A : Option Addr) (xs : List GId) : Prop := GRow GId.cells 3 w B A xs
/-- A block of the call's own that holds a node whose path, n Ids, lies at A. -/
def NB (W : World) (N : Nat) (i : GId) (A : Option Addr) (n c : Nat) (p : GC) : Prop := W.heap[N]? = some (.cells #[.int .i64 i.core, .int .i64 i.op, .int .i64 i.part, .slice A n c, .int .i64 p.kind, .int .i64 p.base, .int .i64 p.bits, .int .i64 p.rights, .int .i64 p.width, .int .i64 p.level, .bool p.device] 30 (0, 0))
theorem NB.lt {W : World} {N : Nat} {i : GId} {A : Option Addr} {n c : Nat} {p : GC} (h : NB W N i A n c p) : N < W.heap.size := by
  rcases Nat.lt_or_ge N W.heap.size with h1 | h1
  · exact h1
  · unfold NB at h; rw [Array.getElem?_eq_none h1] at h; cases h
theorem NB.next {W W' : World} {N : Nat} {i : GId} {A : Option Addr} {n c : Nat} {p : GC} (h : NB W N i A n c p) (hb : Below W.heap.size W W') : NB W' N i A n c p := (hb.block N h.lt).trans h
theorem NB.new (w : World) (i : GId) (A : Option Addr) (n c : Nat) (p : GC) : NB (w.alloc (.cells #[.int .i64 i.core, .int .i64 i.op, .int .i64 i.part, .slice A n c, .int .i64 p.kind, .int .i64 p.base, .int .i64 p.bits, .int .i64 p.rights, .int .i64 p.width, .int .i64 p.level, .bool p.device] 30)) w.heap.size i A n c p := heap_alloc_new w _
structure NBF (W : World) (N : Nat) (i : GId) (A : Option Addr) (n c : Nat) (p : GC) : Prop where
  c0 : W.cell? ⟨N, 0, none⟩ = some (.int .i64 i.core)
  c1 : W.cell? ⟨N, 1, none⟩ = some (.int .i64 i.op)
  c2 : W.cell? ⟨N, 2, none⟩ = some (.int .i64 i.part)
  c3 : W.cell? ⟨N, 3, none⟩ = some (.slice A n c)
  c4 : W.cell? ⟨N, 4, none⟩ = some (.int .i64 p.kind)
  c5 : W.cell? ⟨N, 5, none⟩ = some (.int .i64 p.base)
  c6 : W.cell? ⟨N, 6, none⟩ = some (.int .i64 p.bits)
  c7 : W.cell? ⟨N, 7, none⟩ = some (.int .i64 p.rights)
  c8 : W.cell? ⟨N, 8, none⟩ = some (.int .i64 p.width)
  c9 : W.cell? ⟨N, 9, none⟩ = some (.int .i64 p.level)
  c10 : W.cell? ⟨N, 10, none⟩ = some (.bool p.device)
theorem NB.cells {W : World} {N : Nat} {i : GId} {A : Option Addr} {n c : Nat} {p : GC} (h : NB W N i A n c p) : NBF W N i A n c p := by
  unfold NB at h
  exact ⟨by rw [Lib.cell_of_heap h]; rfl, by rw [Lib.cell_of_heap h]; rfl, by rw [Lib.cell_of_heap h]; rfl, by rw [Lib.cell_of_heap h]; rfl, by rw [Lib.cell_of_heap h]; rfl, by rw [Lib.cell_of_heap h]; rfl, by rw [Lib.cell_of_heap h]; rfl, by rw [Lib.cell_of_heap h]; rfl, by rw [Lib.cell_of_heap h]; rfl, by rw [Lib.cell_of_heap h]; rfl, by rw [Lib.cell_of_heap h]; rfl⟩
theorem NB.frz {W : World} {N : Nat} {i : GId} {A : Option Addr} {n c : Nat} {p : GC} (h : NB W N i A n c p) (j : Nat) : W.frozen? ⟨N, j, none⟩ = false := Lib.frozen_of_heap h j
set_option maxRecDepth 20000 in
set_option maxHeartbeats 1000000 in
theorem rSai_any (xs ys : List GId) (A B : Option Addr) (c d : Nat) (w : World) (h1 : PRow w w.heap.size A xs) (h2 : PRow w w.heap.size B ys) (hl : xs.length ≤ 17179869184) (hl2 : ys.length ≤ 17179869184) :
    Calls Tryz.prog 26 #[.slice A xs.length c, .slice B ys.length d] w fun e w' => e = .returned (.bool (decide (xs = ys))) ∧ Below w.heap.size w w' := by
  have H1 := Lib.hid h1
  have H2 := Lib.hid h2
  generalize hq : decide (xs = ys) = q at *
  clear h1 h2
  by_cases hn : xs.length = ys.length
  case neg =>
    have HQ : Hid (q = false) := Lib.hid (by rw [← hq, decide_eq_false_iff_not]; exact fun e => hn (by rw [e]))
    have f1 : ((xs.length : Int) != (ys.length : Int)) = true := by simp; omega
    clear hq hn
    generalize xs.length = n at *
    generalize ys.length = m at *
    go_enter Tryz.func26, Tryz.ntmps26
    go_wp2
    go_ret
    exact ⟨congrArg (fun b => Ending.returned (Value.bool b)) HQ.out.symm, Below.refl _ _⟩
  have HN := Lib.hid hn
  have f1 : ((xs.length : Int) != (ys.length : Int)) = false := by simp; omega
  have HQ := Lib.hid hq
  clear hq hn
  go_enter Tryz.func26, Tryz.ntmps26
  go_wp2
  clear f1
  go_loopw [5] (fun vi wr => ∃ k : Nat, vi = .int .i64 k ∧ k ≤ xs.length ∧ Hid (xs.take k = ys.take k) ∧ Hid (Below w.heap.size w wr)) (fun vi _ => xs.length - (intOf vi).toNat)
  case atStart => exact ⟨0, rfl, Nat.zero_le _, Lib.hid (by simp), Lib.hid (Below.refl _ _)⟩
  case round =>
    obtain ⟨k, rfl, hk, HT, HB⟩ := hrel
    rcases Nat.lt_or_ge k xs.length with hlt | hge
    · have hlt2 : k < ys.length := by have := HN.out; omega
      obtain ⟨b1, o1, rfl, hb1, x0, x1, x2⟩ := (H1.out.next HB.out).gid hlt
      obtain ⟨b2, o2, rfl, hb2, y0, y1, y2⟩ := (H2.out.next HB.out).gid hlt2
      have HBD := Lib.hid HB.out.drew
      have HEQ := Lib.hid fun W => id_eql xs[k] ys[k] W
      rcases he : eqI xs[k] ys[k] with _ | _
      · have HF : Hid (q = false) := Lib.hid (by
          rw [← HQ.out, decide_eq_false_iff_not]
          rintro rfl
          rw [(eqI_iff _ _).2 rfl] at he; cases he)
        rw [he] at HEQ
        have heq := fun W => HEQ.out W
        generalize xs[k] = x at *
        generalize ys[k] = y at *
        obtain ⟨xk, xb, xn⟩ := x
        obtain ⟨yk, yb, yn⟩ := y
        simp only [GId.val] at heq x0 x1 x2 y0 y1 y2
        clear he HEQ
        go_upto_region 6 with fail
        go_region
        go_wp2
        go_ret
        exact ⟨congrArg (fun b => Ending.returned (Value.bool b)) HF.out.symm, HBD.out⟩
      · have HT2 : Hid (xs.take (k + 1) = ys.take (k + 1)) := Lib.hid (by rw [List.take_succ_eq_append_getElem hlt, List.take_succ_eq_append_getElem hlt2, HT.out, (eqI_iff _ _).1 he])
        rw [he] at HEQ
        have heq := fun W => HEQ.out W
        generalize xs[k] = x at *
        generalize ys[k] = y at *
        obtain ⟨xk, xb, xn⟩ := x
        obtain ⟨yk, yb, yn⟩ := y
        simp only [GId.val] at heq x0 x1 x2 y0 y1 y2
        clear he HEQ
        go_upto_region 6 with fail
        go_region
        go_wp2
        go_roundw
        case rel => exact ⟨k + 1, by go_num, by omega, HT2, HBD⟩
        case measure => simp [intOf]; omega
    · have HF : Hid (q = true) := Lib.hid (by
        rw [← HQ.out, decide_eq_true_eq]
        have h9 := HT.out
        have h8 := HN.out
        rwa [List.take_of_length_le hge, List.take_of_length_le (by omega)] at h9)
      go_wp2
      go_ret
      exact ⟨congrArg (fun b => Ending.returned (Value.bool b)) HF.out.symm, HB.out⟩
theorem gn_dec (a b : GN) : decide (a = b) = (eqI a.id b.id && eqC a.cap b.cap && decide (a.path = b.path)) := by
  rw [Bool.eq_iff_iff]
  simp only [decide_eq_true_eq, Bool.and_eq_true, eqI_iff, eqC_iff]
  cases a; cases b
  simp only [GN.mk.injEq]
  exact ⟨fun h => ⟨⟨h.1, h.2.2⟩, h.2.1⟩, fun h => ⟨h.1.1, h.2, h.1.2⟩⟩
set_option maxRecDepth 20000 in
set_option maxHeartbeats 1000000 in
theorem rSan_any (a b : GN) (A B : Option Addr) (c d : Nat) (w : World) (h1 : PRow w w.heap.size A a.path) (h2 : PRow w w.heap.size B b.path) (hl : a.path.length ≤ 17179869184) (hl2 : b.path.length ≤ 17179869184) :
    Calls Tryz.prog 71 #[a.val A c, b.val B d] w fun e w' => e = .returned (.bool (decide (a = b))) ∧ Below w.heap.size w w' := by
  have HR := Lib.hid (gn_dec a b)
  have HEI := Lib.hid fun W => id_eql a.id b.id W
  have HEC := Lib.hid fun W => cap_eql a.cap b.cap W
  have HSI := Lib.hid fun W (hW : Below w.heap.size w W) => rSai_any a.path b.path A B c d W (h1.next hW) (h2.next hW) hl hl2
  generalize decide (a = b) = q at *
  generalize decide (a.path = b.path) = ep at *
  generalize eqI a.id b.id = ei at *
  generalize eqC a.cap b.cap = ec at *
  unfold GN.val
  generalize a.path.length = n at *
  generalize b.path.length = m at *
  generalize a.id = ai at *
  generalize b.id = bi at *
  generalize a.cap = ac at *
  generalize b.cap = bc at *
  clear h1 h2 hl hl2
  obtain ⟨ai0, ai1, ai2⟩ := ai
  obtain ⟨bi0, bi1, bi2⟩ := bi
  obtain ⟨a0, a1, a2, a3, a4, a5, a6⟩ := ac
  obtain ⟨b0, b1, b2, b3, b4, b5, b6⟩ := bc
  simp only [GId.val, GC.val] at *
  have hei := fun W => HEI.out W
  have hec := fun W => HEC.out W
  have HB2 := Lib.hid (belt (belt (Below.refl _ w) (.cells #[.int .i64 ai0, .int .i64 ai1, .int .i64 ai2, .slice A n c, .int .i64 a0, .int .i64 a1, .int .i64 a2, .int .i64 a3, .int .i64 a4, .int .i64 a5, .bool a6] 30)) (.cells #[.int .i64 bi0, .int .i64 bi1, .int .i64 bi2, .slice B m d, .int .i64 b0, .int .i64 b1, .int .i64 b2, .int .i64 b3, .int .i64 b4, .int .i64 b5, .bool b6] 30))
  rcases ei with _ | _
  · go_enter Tryz.func71, Tryz.ntmps71
    go_wp2
    go_ret
    exact ⟨congrArg (fun b => Ending.returned (Value.bool b)) (by rw [HR.out]; rfl), HB2.out⟩
  rcases ec with _ | _
  · go_enter Tryz.func71, Tryz.ntmps71
    go_wp2
    go_ret
    exact ⟨congrArg (fun b => Ending.returned (Value.bool b)) (by rw [HR.out]; rfl), HB2.out⟩
  go_enter Tryz.func71, Tryz.ntmps71
  go_wp2_with fail
  go_fit (HSI.out _ HB2.out)
  rintro e w1 ⟨rfl, hb1⟩
  have HB3 := Lib.hid (beln HB2.out hb1)
  clear hb1
  go_wp2
  go_ret
  exact ⟨congrArg (fun b => Ending.returned (Value.bool b)) (by rw [HR.out]; rfl), HB3.out⟩
theorem OwnG.setOther {α : Type} {enc : α → List Value} {T : TypeId} {k : Nat} {W : World} {base : Nat} {v : Value} {xs : List α} (h : OwnG enc T k W base v xs) {g0 : Nat} (hg0 : g0 < base) (j : Nat) (u : Value) : OwnG enc T k (W.setCell ⟨g0, j, none⟩ u) base v xs :=
  h.keep fun g hg => Below.heap_setCell W ⟨g0, j, none⟩ u g (by have := (h.lt g hg).1; show g ≠ g0; omega)
theorem OwnG.rowAt {α : Type} {enc : α → List Value} {T : TypeId} {k : Nat} (hk : ∀ x, (enc x).length = k) {W : World} {base n c : Nat} {A : Option Addr} {xs : List α} (h : OwnG enc T k W base (.slice A n c) xs) : n = xs.length ∧ GRow enc k W W.heap.size A xs := by
  obtain ⟨A', c', e, _, _, hr⟩ := h.row hk
  injection e with e1 e2 e3
  subst e1 e2 e3
  exact ⟨rfl, hr⟩
/-- A copy: the same node, its path in memory of the call's own. -/
def CpyEnd (x : GN) (w : World) (e : Ending) (w' : World) : Prop := ∃ A c, e = .returned (x.val A c) ∧ x.path.length ≤ c ∧ PRow w' w'.heap.size A x.path ∧ Below w.heap.size w w'
set_option maxRecDepth 20000 in
theorem rCpn_any (x : GN) (A : Option Addr) (c : Nat) (w : World) (h1 : PRow w w.heap.size A x.path) (hl : x.path.length ≤ 17179869184) :
    Calls Tryz.prog 52 #[x.val A c] w (CpyEnd x w) := by
  have HC := Lib.hid fun W (hW : Below w.heap.size w W) => rCopy_any x.path A c W (h1.next hW) hl
  have HX := Lib.hid (NB.new w x.id A x.path.length c x.cap)
  have HEND : Hid (∀ A' c' (W : World), x.path.length ≤ c' → PRow W W.heap.size A' x.path → Below w.heap.size w W → CpyEnd x w (.returned (.agg #[.int .i64 x.id.core, .int .i64 x.id.op, .int .i64 x.id.part, .slice A' x.path.length c', .int .i64 x.cap.kind, .int .i64 x.cap.base, .int .i64 x.cap.bits, .int .i64 x.cap.rights, .int .i64 x.cap.width, .int .i64 x.cap.level, .bool x.cap.device])) W) := Lib.hid fun A' c' W hcc hr hb => ⟨A', c', rfl, hcc, hr, hb⟩
  generalize CpyEnd x w = EE at *
  unfold GN.val
  generalize hn : x.path.length = n at *
  generalize hi : x.id = xi at *
  generalize hc : x.cap = xc at *
  obtain ⟨i0, i1, i2⟩ := xi
  obtain ⟨a0, a1, a2, a3, a4, a5, a6⟩ := xc
  clear h1 hl hi hc
  simp only at HX HEND ⊢
  go_enter Tryz.func52, Tryz.ntmps52
  have HB0 := Lib.hid (belt (belt (Below.refl _ w) (.cells #[.int .i64 i0, .int .i64 i1, .int .i64 i2, .slice A n c, .int .i64 a0, .int .i64 a1, .int .i64 a2, .int .i64 a3, .int .i64 a4, .int .i64 a5, .bool a6] 30)) (.cells #[.int .i64 0, .int .i64 0, .int .i64 0, .slice none 0 0, .int .i64 0, .int .i64 0, .int .i64 0, .int .i64 0, .int .i64 0, .int .i64 0, .bool false] 30))
  have HX0 := Lib.hid (HX.out.next (belt (Below.refl _ (w.alloc (.cells #[.int .i64 i0, .int .i64 i1, .int .i64 i2, .slice A n c, .int .i64 a0, .int .i64 a1, .int .i64 a2, .int .i64 a3, .int .i64 a4, .int .i64 a5, .bool a6] 30))) (.cells #[.int .i64 0, .int .i64 0, .int .i64 0, .slice none 0 0, .int .i64 0, .int .i64 0, .int .i64 0, .int .i64 0, .int .i64 0, .int .i64 0, .bool false] 30)))
  have HZ0 : Hid (NB ((w.alloc (.cells #[.int .i64 i0, .int .i64 i1, .int .i64 i2, .slice A n c, .int .i64 a0, .int .i64 a1, .int .i64 a2, .int .i64 a3, .int .i64 a4, .int .i64 a5, .bool a6] 30)).alloc (.cells #[.int .i64 0, .int .i64 0, .int .i64 0, .slice none 0 0, .int .i64 0, .int .i64 0, .int .i64 0, .int .i64 0, .int .i64 0, .int .i64 0, .bool false] 30)) (w.heap.size + 1) ⟨0, 0, 0⟩ none 0 0 ⟨0, 0, 0, 0, 0, 0, false⟩) := Lib.hid (by
    have h := NB.new (w.alloc (.cells #[.int .i64 i0, .int .i64 i1, .int .i64 i2, .slice A n c, .int .i64 a0, .int .i64 a1, .int .i64 a2, .int .i64 a3, .int .i64 a4, .int .i64 a5, .bool a6] 30)) ⟨0, 0, 0⟩ none 0 0 ⟨0, 0, 0, 0, 0, 0, false⟩
    simpa using h)
  have HS : ∀ (W : World) (p : Value) (k : Nat), w.heap.size ≤ k → Below w.heap.size w W → ∀ j, Below w.heap.size w (W.setCell ⟨k, j, none⟩ p) := fun W p k hk hb j => hb.setCell (p := ⟨k, j, none⟩) hk p
  have HSC := Lib.hid HS
  clear HS HX
  go_wp2_with fail
  go_fit (HC.out _ HB0.out)
  rintro e w1 ⟨v, rfl, ho, hb1⟩
  obtain ⟨A', c', rfl, hcc, _, hr⟩ := ho.row GId.len
  rw [hn] at hcc ⊢
  have HX1 := Lib.hid (HX0.out.next hb1)
  have HZ1 := Lib.hid (HZ0.out.next hb1)
  have HB1 := Lib.hid (beln HB0.out hb1)
  have HE1 := Lib.hid fun W => HEND.out A' c' W hcc
  have HO1 := Lib.hid ho
  have HSO : Hid (∀ (W : World) (g j : Nat) (u : Value), g < w.heap.size + 2 → OwnG GId.cells 25 3 W (w.heap.size + 2) (.slice A' x.path.length c') x.path → OwnG GId.cells 25 3 (W.setCell ⟨g, j, none⟩ u) (w.heap.size + 2) (.slice A' x.path.length c') x.path) := Lib.hid fun W g j u hg h => h.setOther hg j u
  rw [hn] at HO1 HSO
  have HFIN : Hid (∀ W : World, OwnG GId.cells 25 3 W (w.heap.size + 2) (.slice A' n c') x.path → Below w.heap.size w W → EE (.returned (.agg #[.int .i64 i0, .int .i64 i1, .int .i64 i2, .slice A' n c', .int .i64 a0, .int .i64 a1, .int .i64 a2, .int .i64 a3, .int .i64 a4, .int .i64 a5, .bool a6])) W) := Lib.hid fun W hO hB => HE1.out W (hO.rowAt GId.len).2 hB
  have HO2 : Hid (OwnG GId.cells 25 3 w1 (w.heap.size + 2) (.slice A' n c') x.path) := Lib.hid (by
    simpa using HO1.out)
  clear ho hb1 hr HC HO1 HE1 HEND HX0 HZ0 HB0
  obtain ⟨c0, c1, c2, c3, c4, c5, c6, c7, c8, c9, c10⟩ := HX1.out.cells
  obtain ⟨z0, z1, z2, z3, z4, z5, z6, z7, z8, z9, z10⟩ := HZ1.out.cells
  have cf := HX1.out.frz
  have zf := HZ1.out.frz
  have cl := HX1.out.lt
  have zl := HZ1.out.lt
  simp only at c0 c1 c2 c3 c4 c5 c6 c7 c8 c9 c10 z0 z1 z2 z3 z4 z5 z6 z7 z8 z9 z10
  go_wp2
  refine bodyPost_ret (v := .agg #[.int .i64 i0, .int .i64 i1, .int .i64 i2, .slice A' n c', .int .i64 a0, .int .i64 a1, .int .i64 a2, .int .i64 a3, .int .i64 a4, .int .i64 a5, .bool a6]) (by simp [results, Tryz.results52, go_sem, z0, z1, z2, z3, z4, z5, z6, z7, z8, z9, z10]) rfl ?_
  refine HFIN.out _ ?_ ?_
  · repeat (refine HSO.out _ _ _ _ (by omega) ?_)
    exact HO2.out
  · repeat (refine HSC.out _ _ _ (by omega) ?_ _)
    exact HB1.out
end Go.Proofs.YtndppbfdcceflaaGreatDoor
