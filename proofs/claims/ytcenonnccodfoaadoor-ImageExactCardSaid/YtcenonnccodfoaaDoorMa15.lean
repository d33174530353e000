/-
  The program's view: the module that an entry of an image describes, if its data lie inside.
  Conditions: an entry of at least 48 bytes; at most 2^31 bytes.
  The maker's list of modules, kept and read where other blocks change.
  Conditions: none.
  Words for a round of the law's maker of modules: the size, the module with its width, the data as they grow.
  Conditions: the numbers are the language's.
-/
import Derived.Test.YtcenonnccodfoaaDoorMa14
import Derived.Laws.ResultCell
import Derived.StillTailTactics
import Derived.Test.YtcenonnccodfoaaDoorMa9
namespace Go.Proofs.YtcenonnccodfoaaDoor

open Go.RowKit

theorem modAt_put {W : World} {R : Nat} {s : SMod} (h : ModAt W R s) (nm : ByteArray) (k wd en : Int) (A : Option Addr) (n c : Nat) : ∃ W', W' = (((((W.setCell ⟨R, 0, none⟩ (.string nm)).setCell ⟨R, 1, none⟩ (.int .i64 k)).setCell ⟨R, 2, none⟩ (.int .i64 wd)).setCell ⟨R, 3, none⟩ (.int .i64 en)).setCell ⟨R, 4, none⟩ (.slice A n c)) ∧ W'.heap[R]? = some (.cells #[.string nm, .int .i64 k, .int .i64 wd, .int .i64 en, .slice A n c] 41 (0, 0)) ∧ W.grownBy W' (some R) := by
  refine ⟨_, rfl, ?_, gb_trans (gb_trans (gb_trans (gb_trans gb_set gb_set) gb_set) gb_set) gb_set⟩
  have h0 := heap_setCell_same W R 0 _ _ (.string nm) h
  have h1 := heap_setCell_same _ R 1 _ _ (.int .i64 k) h0
  have h2 := heap_setCell_same _ R 2 _ _ (.int .i64 wd) h1
  have h3 := heap_setCell_same _ R 3 _ _ (.int .i64 en) h2
  exact heap_setCell_same _ R 4 _ _ (.slice A n c) h3
def ViewEnd (b e : List UInt8) (w0 : World) (B0 : Nat) (w : World) (en : Ending) (w' : World) : Prop :=
  Below w.heap.size w w' ∧ ((viewM b e = none ∧ en = .returned (.tuple #[SMod.val ⟨[], 0, 0, 0, none, 0, 0⟩, .bool false])) ∨ (∃ s m, viewM b e = some m ∧ en = .returned (.tuple #[SMod.val s, .bool true]) ∧ MHold w0 B0 s m))
theorem view_rd (e : List UInt8) : rdF e entF = [leUp e 24 1, leUp e 25 1, leUp e 28 4, leUp e 32 4, leUp e 36 4, leUp e 40 4] := rfl
/-- A slice of two bounds in a region whose operations leave the world alone, its run known. -/
theorem still_slice {ops : Array Oper} {w : World} {Q : Act → Prop} {rest : List Oper} {a : Act} {o : Oper} {t : TypeId} {x lo hi : Operand} {X L H v : Value} (hg : o.guard = none) (ho : o.op = .slice t x (some lo) (some hi) none)
    (hx : a.eval x = X) (hl : a.eval lo = L) (hh : a.eval hi = H) (hrun : (Instr.sliceAt t X (some L) (some H) none).run Tryd.prog w = .ok v w) (h : wpStill Tryd.prog ops w Q rest (a.put o.dst v)) : wpStill Tryd.prog ops w Q (o :: rest) a := by
  have hw : Region.wanted o (yielded ops a.tmps) = true := by unfold Region.wanted; rw [hg]
  have e : (execOp a.eval o).run Tryd.prog w = .ok (.value v) w := by
    unfold execOp
    simp only [ho, Option.map_some, Option.map_none, hx, hl, hh, Sem.run_bind, hrun, Result.andThen_ok, Sem.run_pure]
  unfold wpStill
  rw [if_pos hw]
  unfold Oper.still
  rw [e]
  exact ⟨rfl, h⟩
set_option maxRecDepth 50000 in
set_option maxHeartbeats 300000 in
theorem view_any (A A2 : Option Addr) (n c n2 c2 : Nat) (b e : List UInt8) (w0 : World) (B0 : Nat) (w : World) (hb : Byt w0 B0 A n b) (hc : n ≤ c) (hn : n ≤ 2147483648) (he : Byt w w.heap.size A2 n2 e) (hc2 : n2 ≤ c2) (h48 : 48 ≤ n2) (hn2 : n2 ≤ 2147483648) :
    Calls Tryd.prog 49 #[.slice A n c, .slice A2 n2 c2] w (ViewEnd b e w0 B0 w) := by
  have HB := Lib.hid hb
  have HE := Lib.hid he
  have hln := hb.1
  have hle := he.1
  have HD : Hid (viewM b e = if leUp e 32 4 + leUp e 36 4 ≤ b.length then some ⟨Lib.trimRightB (e.take 24) 0, (leUp e 24 1 : Nat), (leUp e 25 1 : Nat), (leUp e 28 4 : Nat), (b.take (leUp e 32 4 + leUp e 36 4)).drop (leUp e 32 4)⟩ else none) := Lib.hid rfl
  have HRD := Lib.hid (view_rd e)
  have q0 := leUp_lt e 24 1
  have q1 := leUp_lt e 25 1
  have q2 := leUp_lt e 28 4
  have q3 := leUp_lt e 32 4
  have q4 := leUp_lt e 36 4
  rw [hln] at HD
  clear hb he
  go_enter Tryd.func49, Tryd.ntmps49
  go_upto_region 1 with fail
  have hb0 : Below w.heap.size w (w.alloc (objM ⟨[], 0, 0, 0, none, 0, 0⟩)) := bel_lit8 (Below.refl _ w) _
  have hat : ModAt (w.alloc (objM ⟨[], 0, 0, 0, none, 0, 0⟩)) w.heap.size ⟨[], 0, 0, 0, none, 0, 0⟩ := heap_alloc_new w _
  unfold objM at hb0 hat
  simp only at hb0 hat
  change Below w.heap.size w (w.alloc (.cells #[.string ⟨#[]⟩, .int .i64 0, .int .i64 0, .int .i64 0, .slice none 0 0] 41)) at hb0
  change ModAt (w.alloc (.cells #[.string ⟨#[]⟩, .int .i64 0, .int .i64 0, .int .i64 0, .slice none 0 0] 41)) w.heap.size _ at hat
  generalize (w.alloc (.cells #[.string ⟨#[]⟩, .int .i64 0, .int .i64 0, .int .i64 0, .slice none 0 0] 41)) = W1 at *
  have HB0 := Lib.hid hb0
  have HAT := Lib.hid hat
  clear hb0 hat
  generalize hR : w.heap.size = R at *
  go_wp2_with fail
  go_fit (entF_any W1)
  rintro e1 w2 ⟨rfl, hf2, hb2⟩
  have hR1 : R < W1.heap.size := lt_heap HAT.out
  have HRF : Hid (Calls Tryd.prog 48 #[.slice A2 n2 c2, .slice (some ⟨W1.heap.size, 0, none⟩) 6 6] w2 fun e' w' => ∃ r, e' = .returned (.slice (some ⟨r, 0, none⟩) 6 6) ∧ NumsAt w' r (rdF e entF) ∧ w2.heap.size ≤ r ∧ Below w2.heap.size w2 w') := Lib.hid (readFields_any A2 n2 c2 R e W1.heap.size entF w2 ((HE.out.below HB0.out).below (hb2.mono (by omega))) (by have := hb2.size; omega) hc2 (by omega) hf2 (by decide) (entF_ok h48))
  have HB2 := Lib.hid (HB0.out.trans (hb2.mono (by omega : R ≤ W1.heap.size)))
  have HAT2 : Hid (ModAt w2 R ⟨[], 0, 0, 0, none, 0, 0⟩) := Lib.hid ((hb2.block R hR1).trans HAT.out)
  have hR2 : R < w2.heap.size := lt_heap HAT2.out
  clear hb2 hf2
  go_wp2_with fail
  go_fit HRF.out
  rintro e2 w3 ⟨r, rfl, hnm, hrg, hb3⟩
  rw [HRD.out] at hnm
  have HB3 := Lib.hid (HB2.out.trans (hb3.mono (by omega : R ≤ w2.heap.size)))
  have HAT3 : Hid (ModAt w3 R ⟨[], 0, 0, 0, none, 0, 0⟩) := Lib.hid ((hb3.block R hR2).trans HAT2.out)
  have v0 := NumsAt.cell hnm (k := 0) (by simp)
  have v1 := NumsAt.cell hnm (k := 1) (by simp)
  have v2 := NumsAt.cell hnm (k := 2) (by simp)
  have v3 := NumsAt.cell hnm (k := 3) (by simp)
  have v4 := NumsAt.cell hnm (k := 4) (by simp)
  have hrw := RowT.lt hnm
  simp only [List.getElem_cons_zero, List.getElem_cons_succ] at v0 v1 v2 v3 v4
  clear hnm hb3 HRD HRF HB2 HAT2
  generalize leUp e 24 1 = kd at *
  generalize leUp e 25 1 = wd at *
  generalize leUp e 28 4 = en at *
  generalize leUp e 32 4 = fr at *
  generalize leUp e 36 4 = sz at *
  have q0' : kd < 256 := by simpa using q0
  have q1' : wd < 256 := by simpa using q1
  have q2' : en < 4294967296 := by simpa using q2
  have q3' : fr < 4294967296 := by simpa using q3
  have q4' : sz < 4294967296 := by simpa using q4
  clear q0 q1 q2 q3 q4
  obtain ⟨E, hE⟩ : ∃ E, E = fr + sz := ⟨_, rfl⟩
  rw [← hE] at HD
  have c1 : IntKind.i64.wrap (kd : Int) = (kd : Int) := by rw [IntKind.wrap_i64]; omega
  have c2' : IntKind.i64.wrap (wd : Int) = (wd : Int) := by rw [IntKind.wrap_i64]; omega
  have c3 : IntKind.i64.wrap (en : Int) = (en : Int) := by rw [IntKind.wrap_i64]; omega
  have c4 : IntKind.u64.wrap (fr : Int) = (fr : Int) := by rw [IntKind.wrap_u64]; omega
  have c5 : IntKind.u64.wrap (sz : Int) = (sz : Int) := by rw [IntKind.wrap_u64]; omega
  have c6 : IntKind.u64.wrap (n : Int) = (n : Int) := by rw [IntKind.wrap_u64]; omega
  have c7 : IntKind.u64.wrap ((fr : Int) + (sz : Int)) = (fr : Int) + (sz : Int) := by rw [IntKind.wrap_u64]; omega
  obtain ⟨y0, y1, y2, y3, y4⟩ := HAT3.out.cells
  simp only at y0 y1 y2 y3 y4
  have hfz : ∀ j, w3.frozen? ⟨R, j, none⟩ = false := fun j => Lib.frozen_of_heap HAT3.out j
  by_cases hov : n < E
  case pos =>
    have g1 : decide ((n : Int) < (fr : Int) + (sz : Int)) = true := by simp; omega
    have HR : Hid (viewM b e = none) := Lib.hid (by rw [HD.out, if_neg (by omega)])
    clear hov
    obtain ⟨W4, hW4, hat4, hg4⟩ := modAt_put HAT3.out ⟨#[]⟩ 0 0 0 none 0 0
    have HEND : Hid (Below R w W4) := Lib.hid (HB3.out.grown hg4 (by omega) (fun k e => by cases e; omega))
    go_wp2_with fail
    rw [← hW4]
    have x0 : W4.cell? ⟨R, 0, none⟩ = some (.string ⟨#[]⟩) := by rw [Lib.cell_of_heap hat4]; rfl
    have x1 : W4.cell? ⟨R, 1, none⟩ = some (.int .i64 0) := by rw [Lib.cell_of_heap hat4]; rfl
    have x2 : W4.cell? ⟨R, 2, none⟩ = some (.int .i64 0) := by rw [Lib.cell_of_heap hat4]; rfl
    have x3 : W4.cell? ⟨R, 3, none⟩ = some (.int .i64 0) := by rw [Lib.cell_of_heap hat4]; rfl
    have x4 : W4.cell? ⟨R, 4, none⟩ = some (.slice none 0 0) := by rw [Lib.cell_of_heap hat4]; rfl
    clear hW4 hat4 hg4 y0 y1 y2 y3 y4
    refine bodyPost_ret (v := .tuple #[SMod.val ⟨[], 0, 0, 0, none, 0, 0⟩, .bool false]) ?_ rfl ⟨by rw [hR]; exact HEND.out, .inl ⟨HR.out, rfl⟩⟩
    rw [results_cell_tmp rfl]
    simp only [SMod.val]
    go_simp
  have g1 : decide ((n : Int) < (fr : Int) + (sz : Int)) = false := by simp; omega
  have HV : Hid (viewM b e = some ⟨Lib.trimRightB (e.take 24) 0, (kd : Int), (wd : Int), (en : Int), (b.take E).drop fr⟩) := Lib.hid (by rw [HD.out, if_pos (by omega)])
  have hcut : ∀ W : World, (Instr.slice 23 (.slice A n c) (some (.int .u64 (fr : Int))) (some (.int .u64 ((fr : Int) + (sz : Int)))) none).run Tryd.prog W = .ok (.slice (cutA A c fr) sz (c - fr)) W := fun W => by
    rw [run_slice_lh _ _ _ _ _ byte_elem .u64 .u64 (fr : Int) ((fr : Int) + (sz : Int)) (by omega) (by omega) (by omega), run_byteSize]
    have h1 : ((fr : Int) + (sz : Int)).toNat = fr + sz := by omega
    simp [Result.andThen, sliced, cutA, h1]
  have hcut2 : ∀ W : World, (Instr.sliceAt 23 (.slice A n c) (some (.int .u64 (fr : Int))) (some (.int .u64 ((fr : Int) + (sz : Int)))) none).run Tryd.prog W = .ok (.slice (cutA A c fr) sz (c - fr)) W := fun W => by
    rw [run_sliceAt_slice _ _ _ _ _ _ byte_elem]; exact hcut W
  have hto : ∀ W : World, (Instr.slice 23 (.slice A2 n2 c2) none (some (.int .i64 24)) none).run Tryd.prog W = .ok (.slice A2 24 c2) W := fun W => by
    have h := cut_to A2 n2 c2 24 (by omega) W
    rw [run_sliceAt_slice _ _ _ _ _ _ byte_elem] at h
    exact h
  have hto2 : ∀ W : World, (Instr.sliceAt 23 (.slice A2 n2 c2) none (some (.int .i64 24)) none).run Tryd.prog W = .ok (.slice A2 24 c2) W := fun W => cut_to A2 n2 c2 24 (by omega) W
  have hstr := ((HE.out.below (HB3.out.drew)).to (k := 24) (by omega)).str c2
  unfold bs at hstr
  have HTR := Lib.hid fun W => trimR_any (e.take 24) W (by rw [List.length_take]; omega)
  have HBD : Hid (Below R w w3.drew) := Lib.hid HB3.out.drew
  have HRW : Hid (Byt w0 B0 (cutA A c fr) sz ((b.take E).drop fr)) := Lib.hid (by
    have h := HB.out.cut (cap := c) (j := fr) (k := E) (by omega) (by omega) hc
    rwa [show E - fr = sz by omega] at h)
  have hld : ((b.take E).drop fr).length = sz := by rw [List.length_drop, List.length_take]; omega
  have hlt24 : (e.take 24).length = 24 := by rw [List.length_take]; omega
  generalize Lib.trimRightB (e.take 24) 0 = tm at *
  obtain ⟨W4, hW4, hat4, hg4⟩ := modAt_put (W := w3.drew) HAT3.out ⟨tm.toArray⟩ kd wd en (cutA A c fr) sz (c - fr)
  have HEND : Hid (Below R w W4 ∧ MHold w0 B0 ⟨tm, kd, wd, en, cutA A c fr, sz, c - fr⟩ ⟨tm, (kd : Int), (wd : Int), (en : Int), (b.take E).drop fr⟩) := Lib.hid (by
    have h1 := HBD.out.grown hg4 (by have := HBD.out.size; omega) (fun k e => by cases e; omega)
    exact ⟨h1, rfl, rfl, rfl, rfl, HRW.out, by rw [hld]; omega⟩)
  have HTR2 : Hid (∀ W, Calls Tryd.prog 55 #[.string ⟨(e.take 24).toArray⟩, .string ⟨#[0]⟩] W fun e w' => e = .returned (.string ⟨tm.toArray⟩) ∧ w' = W) := Lib.hid fun W => (HTR.out W).mono fun e w' h => ⟨h.1, h.2.symm⟩
  have HW4 := Lib.hid hW4
  have HAT4 := Lib.hid hat4
  clear hW4 hat4 hg4 HTR HBD HRW HD HB HE HB3 hov hrw
  go_upto_region 6 with fail
  have x0 : w3.drew.cell? ⟨R, 0, none⟩ = some (.string ⟨#[]⟩) := y0
  have x1 : w3.drew.cell? ⟨R, 1, none⟩ = some (.int .i64 0) := y1
  have x2 : w3.drew.cell? ⟨R, 2, none⟩ = some (.int .i64 0) := y2
  have x3 : w3.drew.cell? ⟨R, 3, none⟩ = some (.int .i64 0) := y3
  have x4 : w3.drew.cell? ⟨R, 4, none⟩ = some (.slice none 0 0) := y4
  have v0' : w3.drew.cell? ⟨r, 0, none⟩ = some (.int .u32 (kd : Int)) := v0
  have v1' : w3.drew.cell? ⟨r, 1, none⟩ = some (.int .u32 (wd : Int)) := v1
  have v2' : w3.drew.cell? ⟨r, 2, none⟩ = some (.int .u32 (en : Int)) := v2
  have hfzd : ∀ j, w3.drew.frozen? ⟨R, j, none⟩ = false := hfz
  refine wp_region_still_tail 21 (by kernel_rfl) (by kernel_rfl) ?_
  simp only [List.take_succ_cons, List.take_zero, List.drop_succ_cons, List.drop_zero]
  iterate 19 (first
    | still_step
    | (refine wpStill_step (fun K hK => ?_); go_simp; refine ⟨_, HTR2.out _, hK _ ?_⟩; clear hK K))
  refine still_slice rfl rfl rfl rfl rfl (hcut2 _) ?_
  clear hcut hcut2
  still_step
  try refine wpStill_nil ?_
  change wpList _ _ _ _ _ w3.drew
  clear c1 c2' c3 c4 c5 c6 c7 v0 v1 v2 v3 v4 v0' v1' v2' hto hto2 hstr HTR2 y0 y1 y2 y3 y4 g1 hfz
  generalize w3.drew = w5 at *
  go_wp2_with fail
  rw [← HW4.out]
  have u0 : W4.cell? ⟨R, 0, none⟩ = some (.string ⟨tm.toArray⟩) := by rw [Lib.cell_of_heap HAT4.out]; rfl
  have u1 : W4.cell? ⟨R, 1, none⟩ = some (.int .i64 (kd : Int)) := by rw [Lib.cell_of_heap HAT4.out]; rfl
  have u2 : W4.cell? ⟨R, 2, none⟩ = some (.int .i64 (wd : Int)) := by rw [Lib.cell_of_heap HAT4.out]; rfl
  have u3 : W4.cell? ⟨R, 3, none⟩ = some (.int .i64 (en : Int)) := by rw [Lib.cell_of_heap HAT4.out]; rfl
  have u4 : W4.cell? ⟨R, 4, none⟩ = some (.slice (cutA A c fr) sz (c - fr)) := by rw [Lib.cell_of_heap HAT4.out]; rfl
  clear HAT4 HW4 x0 x1 x2 x3 x4 hfzd
  refine bodyPost_ret (v := .tuple #[SMod.val ⟨tm, kd, wd, en, cutA A c fr, sz, c - fr⟩, .bool true]) ?_ rfl ⟨by rw [hR]; exact HEND.out.1, .inr ⟨_, _, HV.out, rfl, HEND.out.2⟩⟩
  rw [results_cell_tmp rfl]
  simp only [SMod.val]
  go_simp
end Go.Proofs.YtcenonnccodfoaaDoor


namespace Go.Proofs.YtcenonnccodfoaaDoor

open Go.RowKit

/-- The list stays where a block changes that is neither its own nor a row of bytes. -/
theorem MakI.gb {w0 W W' : World} {N p : Nat} {A : Option Addr} {len cap q q' : Nat} {v : Value} {ss : List SMod} {ms : List GMod} (h : MakI w0 W N A len cap q v ss ms) (hg : W.grownBy W' (some p)) (hp : NoByte W p) (hv : v.ownBlock ≠ some p) (hc : Ctx w0 W' N A len cap q') : MakI w0 W' N A len cap q' v ss ms :=
  ⟨hc, h.own.keep fun g hg2 => hg.block g (h.own.lt g hg2).2 (by intro e; exact hv (hg2.trans e)), h.len, fun i h1 h2 => (h.each i h1 h2).gbT hg fun g e => by cases e; exact hp, h.made⟩
theorem MakI.ne {w0 W : World} {N : Nat} {A : Option Addr} {len cap q : Nat} {v : Value} {ss : List SMod} {ms : List GMod} (h : MakI w0 W N A len cap q v ss ms) : v.ownBlock ≠ some N := fun e => by
  have := (h.own.lt N e).1
  omega
theorem MakI.fresh {w0 W : World} {N p : Nat} {A : Option Addr} {len cap q : Nat} {v : Value} {ss : List SMod} {ms : List GMod} (h : MakI w0 W N A len cap q v ss ms) (hp : W.heap.size ≤ p) : v.ownBlock ≠ some p := fun e => by
  have := (h.own.lt p e).2
  omega
/-- The list reads asx the modules. -/
theorem MakI.row {w0 W : World} {N : Nat} {A : Option Addr} {len cap q : Nat} {v : Value} {ss : List SMod} {ms : List GMod} (h : MakI w0 W N A len cap q v ss ms) : ∃ A' c, v = .slice A' ms.length c ∧ MRow W W.heap.size A' ss ms := by
  obtain ⟨A', c, e, _, _, hr⟩ := h.own.row SMod.len
  exact ⟨A', c, by rw [← h.len]; exact e, ⟨hr, h.len, fun i h1 h2 => (h.each i h1 h2).hold⟩⟩
theorem AllMade.snoc {ms : List GMod} (h : AllMade ms) {m : GMod} (hm : MadeM m) (hn : ms.any (keyIs m.name m.width) = false) : AllMade (ms ++ [m]) := by
  refine ⟨fun x hx => ?_, ?_⟩
  · rcases List.mem_append.1 hx with h1 | h1
    · exact h.1 x h1
    · simp at h1; subst h1; exact hm
  · rw [List.pairwise_append]
    refine ⟨h.2, by simp, fun x hx y hy => ?_⟩
    simp at hy
    subst hy
    rw [List.any_eq_false] at hn
    have := hn x hx
    simp only [keyIs, Bool.and_eq_true, decide_eq_true_eq] at this
    exact this
/-- A further module. -/
theorem MakI.snoc {w0 W W' : World} {N : Nat} {A : Option Addr} {len cap q : Nat} {v v' : Value} {ss : List SMod} {ms : List GMod} {s : SMod} {m : GMod} (h : MakI w0 W N A len cap q v ss ms) (hg : W.grownBy W' v.ownBlock) (hown : OwnG SMod.cells 41 5 W' (N + 1) v' (ss ++ [s])) (hs : MOwn W (N + 1) s m) (hm : MadeM m) (hn : ms.any (keyIs m.name m.width) = false) (hc : Ctx w0 W' N A len cap q) : MakI w0 W' N A len cap q v' (ss ++ [s]) (ms ++ [m]) := by
  have hb : ∀ g, v.ownBlock = some g → NoByte W g := fun g e => by
    rcases h.own.2 with ⟨hv, _⟩ | ⟨g', cp, cur, hv, _, hh, _⟩
    · rw [hv] at e; simp [Value.ownBlock] at e
    · rw [hv] at e
      simp [Value.ownBlock] at e
      subst e
      exact ⟨_, _, _, hh, by decide⟩
  refine ⟨hc, hown, by simp [h.len], fun i h1 h2 => ?_, h.made.snoc hm hn⟩
  have hl := h.len
  rcases Nat.lt_or_ge i ss.length with hi | hi
  · rw [List.getElem_append_left hi, List.getElem_append_left (by omega)]
    exact (h.each i hi (by omega)).gbT hg hb
  · have e : i = ss.length := by simp at h1; omega
    subst e
    have e2 : ms.length ≤ ss.length := by omega
    rw [List.getElem_append_right (Nat.le_refl _), List.getElem_append_right e2]
    simp
    exact hs.gbT hg hb
end Go.Proofs.YtcenonnccodfoaaDoor


namespace Go.Proofs.YtcenonnccodfoaaDoor

open Go.RowKit

/-- The size that a round draws for a module of this kind. -/
def SzK (kind : Int) (sz : Nat) : Prop := (kind = 1 ∧ ∃ k : Nat, 1 ≤ k ∧ k ≤ 12 ∧ sz = 8 * k) ∨ (kind ≠ 1 ∧ sz < 130)
theorem SzK.lt {kind : Int} {sz : Nat} (h : SzK kind sz) : sz < 130 := by
  rcases h with ⟨_, k, _, h1, h2⟩ | ⟨_, h1⟩ <;> omega
/-- The module's width is asx its kind asks. -/
def WidK (kind width : Int) : Prop := ((kind = 1 ∨ kind = 2) ∧ (width = 32 ∨ width = 39)) ∨ (kind = 3 ∧ width = 0)
theorem Ctg.set {w0 wr W : World} {N p : Nat} {A : Option Addr} {len cap q : Nat} (h : Ctg w0 wr W N A len cap q) (hp : wr.heap.size ≤ p) (hN : N < wr.heap.size) (j : Nat) (v : Value) : Ctg w0 wr (W.setCell ⟨p, j, none⟩ v) N A len cap q := by
  refine ⟨⟨(Below.heap_setCell _ _ _ _ (by show N ≠ p; omega)).trans h.c.num, h.c.bel.setCell (p := ⟨p, j, none⟩) (by show N ≤ p; omega) v, by have := h.c.lt; simp [World.setCell]; omega⟩, h.g.os, h.g.tape, h.g.output, by have := h.g.size; simp [World.setCell]; omega, fun k hk hne => (Below.heap_setCell _ _ _ _ (by show k ≠ p; omega)).trans (h.g.block k hk hne)⟩
theorem Ctg.belP {w0 wr W W' : World} {N p : Nat} {A : Option Addr} {len cap q : Nat} (h : Ctg w0 wr W N A len cap q) (hp : wr.heap.size ≤ p) (hN : N < wr.heap.size) (hb : Below p W W') : Ctg w0 wr W' N A len cap q := by
  refine ⟨⟨(hb.block N (by omega)).trans h.c.num, h.c.bel.trans ⟨hb.os, hb.tape, hb.output, hb.size, fun k hk => hb.block k (by omega)⟩, by have := h.c.lt; have := hb.size; omega⟩, hb.os.trans h.g.os, hb.tape.trans h.g.tape, hb.output.trans h.g.output, Nat.le_trans h.g.size hb.size, fun k hk hne => (hb.block k (by omega)).trans (h.g.block k hk hne)⟩
theorem Ctg.drew {w0 wr W : World} {N : Nat} {A : Option Addr} {len cap q : Nat} (h : Ctg w0 wr W N A len cap q) : Ctg w0 wr W.drew N A len cap q := ⟨h.c.drew, h.g.os, h.g.tape, h.g.output, h.g.size, fun k hk hne => h.g.block k hk hne⟩
theorem modAt_set2 {W : World} {p : Nat} {s : SMod} (h : ModAt W p s) (x : Int) : ModAt (W.setCell ⟨p, 2, none⟩ (.int .i64 x)) p { s with width := x } := heap_setCell_same W p 2 _ _ (.int .i64 x) h
theorem modAt_set3 {W : World} {p : Nat} {s : SMod} (h : ModAt W p s) (x : Int) : ModAt (W.setCell ⟨p, 3, none⟩ (.int .i64 x)) p { s with entry := x } := heap_setCell_same W p 3 _ _ (.int .i64 x) h
theorem modAt_set4 {W : World} {p : Nat} {s : SMod} (h : ModAt W p s) (B : Option Addr) (n c : Nat) : ModAt (W.setCell ⟨p, 4, none⟩ (.slice B n c)) p { s with A := B, n := n, c := c } := heap_setCell_same W p 4 _ _ (.slice B n c) h
/-- The data asx they grow: the module m stands at p, its data are l. -/
structure Inn (w0 wr W : World) (N p : Nat) (A : Option Addr) (len cap q : Nat) (s : SMod) (l : List UInt8) : Prop where
  c : Ctg w0 wr W N A len cap q
  at_ : ModAt W p s
  own : Own W (p + 1) (.slice s.A s.n s.c) l
  n : s.n = l.length
  p : p = wr.heap.size
  N : N < wr.heap.size
theorem Inn.lt {w0 wr W : World} {N p : Nat} {A : Option Addr} {len cap q : Nat} {s : SMod} {l : List UInt8} (h : Inn w0 wr W N p A len cap q s l) : p < W.heap.size := lt_heap h.at_
theorem Inn.drew {w0 wr W : World} {N p : Nat} {A : Option Addr} {len cap q : Nat} {s : SMod} {l : List UInt8} (h : Inn w0 wr W N p A len cap q s l) : Inn w0 wr W.drew N p A len cap q s l := ⟨h.c.drew, h.at_, h.own, h.n, h.p, h.N⟩
theorem Inn.next {w0 wr W W' : World} {N p : Nat} {A : Option Addr} {len cap q q' : Nat} {s : SMod} {l : List UInt8} (h : Inn w0 wr W N p A len cap q s l) (hn : NumAt W' N A len cap q') (hg : W.grownBy W' (some N)) : Inn w0 wr W' N p A len cap q' s l :=
  ⟨h.c.next hn hg, (hg.block p h.lt (by have := h.p; have := h.N; intro e; cases e; omega)).trans h.at_, h.own.gbT hg fun g e => by cases e; exact h.c.c.num.noByte, h.n, h.p, h.N⟩
/-- An append whose run is known only by what it leaves, asx a step of a region that leaves its order open. -/
theorem step_app8 {S : TypeId} {ops : Array Oper} {o : Oper} {a : Act} {K : Act → World → Prop} {Q : Exit → Act → World → Prop} {E : Prop} {v y : Value} {W : World} {R : Value → World → Prop}
    (H : ∃ v' w', (Builtin.append_ #[S, S] S #[v, y]).run Tryd.prog W = .ok v' w' ∧ R v' w') (hgd : o.guard = none) {s x : Operand}
    (ho : o.op = .call { callee := .builtin .append, args := #[s, x], argTypes := #[S, S] }) (hty : o.type = S) (hs : a.eval s = v) (hx : a.eval x = y)
    (h : ∀ v' w', R v' w' → K (a.put o.dst v') w') : if Region.wanted o (yielded ops a.tmps) = true then Oper.wp Tryd.prog o a W K Q else E := by
  obtain ⟨v', w', hr, h2⟩ := H
  have hw : Region.wanted o (yielded ops a.tmps) = true := by simp [Region.wanted, hgd]
  rw [if_pos hw]
  unfold Oper.wp execOp
  simp only [ho, hty, resolve, invoke, builtin, Sem.run_bind, Sem.run_pure, Result.andThen_ok, List.map_toArray, List.map_cons, List.map_nil, hs, hx, hr]
  exact h _ _ h2
set_option maxRecDepth 20000 in
/-- One byte more: the literal, the append, the store. -/
theorem inn_app {w0 wr W : World} {N p : Nat} {A : Option Addr} {len cap q : Nat} {s : SMod} {l : List UInt8} (h : Inn w0 wr W N p A len cap q s l) (r : Nat) (x : Int) (hx : x = IntKind.u8.wrap (r : Int)) (hl : l.length ≤ 1000) :
    ∃ v' w', (Builtin.append_ #[23, 23] 23 #[.slice s.A s.n s.c, .slice (some ⟨W.heap.size, 0, none⟩) 1 1]).run Tryd.prog (W.alloc (.cells #[.int .u8 x] 5)) = .ok v' w' ∧ ∃ B : Option Addr, ∃ c : Nat, v' = .slice B (l.length + 1) c ∧ ModAt w' p s ∧ ∃ l' : List UInt8, l'.length = l.length + 1 ∧ Inn w0 wr (w'.setCell ⟨p, 4, none⟩ (.slice B (l.length + 1) c)) N p A len cap q { s with A := B, n := l.length + 1, c := c } l' := by
  have hlt := h.lt
  have hp := h.p
  have hN := h.N
  have hx2 : x = ((UInt8.ofNat r).toNat : Int) := by
    rw [hx, IntKind.wrap_u8]
    first | (simp; done) | (simp; omega)
  obtain ⟨v', w', hrun, hown, hb, hsz⟩ := (h.own.alloc (.cells #[.int .u8 x] 5)).app 1 (Byt.lit W _ [UInt8.ofNat r] #[.int .u8 x] 1 (by rw [hx2]; simp [vals]) rfl) ((Below.refl (p + 1) W).alloc hlt _) (by simp; omega) (by simp; omega)
  have hml : (l ++ [UInt8.ofNat r]).length = l.length + 1 := by simp
  obtain ⟨B, c, e, _, _, _⟩ := hown.form
  rw [hml] at e
  refine ⟨v', w', hrun, B, c, e, (hb.block p (by omega)).trans h.at_, l ++ [UInt8.ofNat r], hml, ?_⟩
  subst e
  have hc1 : Ctg w0 wr w' N A len cap q := h.c.belP (p := p) (by omega) hN ⟨hb.os, hb.tape, hb.output, hb.size, fun k hk => hb.block k (by omega)⟩
  have hm : ModAt w' p s := (hb.block p (by omega)).trans h.at_
  refine ⟨hc1.set (by omega) hN 4 _, modAt_set4 hm B _ c, ?_, hml.symm, hp, hN⟩
  refine hown.gbT (row := some p) (gb_set (j := 4)) fun g e => by cases e; exact hm.noByte
theorem Inn.set3 {w0 wr W : World} {N p : Nat} {A : Option Addr} {len cap q : Nat} {s : SMod} {l : List UInt8} (h : Inn w0 wr W N p A len cap q s l) (x : Int) : Inn w0 wr (W.setCell ⟨p, 3, none⟩ (.int .i64 x)) N p A len cap q { s with entry := x } l :=
  ⟨h.c.set (by have := h.p; omega) h.N 3 _, modAt_set3 h.at_ x, h.own.gbT (row := some p) (gb_set (j := 3)) fun g e => by cases e; exact h.at_.noByte, h.n, h.p, h.N⟩
/-- What the round's module is when it is appended. -/
theorem Inn.mown {w0 wr W : World} {N p : Nat} {A : Option Addr} {len cap q : Nat} {s : SMod} {l : List UInt8} (h : Inn w0 wr W N p A len cap q s l) (hl : l.length ≤ 1000) : MOwn W (N + 1) s ⟨s.name, s.kind, s.width, s.entry, l⟩ := by
  have hp := h.p
  have hN := h.N
  refine ⟨rfl, rfl, rfl, rfl, h.n, ⟨h.own.1, ?_⟩, hl⟩
  rcases h.own.2 with h1 | ⟨g, cp, cur, hv, hb, rest⟩
  · exact .inl h1
  · exact .inr ⟨g, cp, cur, hv, by omega, rest⟩
theorem Ctx.gb {w0 W W' : World} {N : Nat} {A : Option Addr} {len cap q : Nat} {row : Option Nat} (h : Ctx w0 W N A len cap q) (hg : W.grownBy W' row) (hr : ∀ g, row = some g → N < g) : Ctx w0 W' N A len cap q :=
  ⟨(hg.block N h.lt (by intro e; have := hr N e.symm; omega)).trans h.num, h.bel.grown hg (Nat.le_of_lt h.lt) (fun g e => Nat.le_of_lt (hr g e)), by have := h.lt; have := hg.size; omega⟩
theorem MakI.alloc {w0 W : World} {N : Nat} {A : Option Addr} {len cap q : Nat} {v : Value} {ss : List SMod} {ms : List GMod} (h : MakI w0 W N A len cap q v ss ms) (o : Obj) : MakI w0 (W.alloc o) N A len cap q v ss ms :=
  ⟨h.ctx.alloc o, h.own.alloc o, h.len, fun i h1 h2 => (h.each i h1 h2).gbT (row := none) (gbN (bel_lit8 (Below.refl _ W) o)) (fun g e => by cases e), h.made⟩
/-- A module's literal asx a row of one. -/
theorem lit_mod (W : World) (s : SMod) : GRow SMod.cells 5 (W.alloc (objM s)) (W.alloc (objM s)).heap.size (some ⟨W.heap.size, 0, none⟩) [s] := by
  obtain ⟨A, cap, e, _, _, hr⟩ := (OwnG.lit (T := 41) SMod.len W W.heap.size [s] #[.string ⟨s.name.toArray⟩, .int .i64 s.kind, .int .i64 s.width, .int .i64 s.entry, .slice s.A s.n s.c] rfl (Nat.le_refl _) (by unfold maxLen; simp)).row SMod.len
  cases e; exact hr
set_option maxRecDepth 20000 in
/-- The append of the round's module. -/
theorem mak_app {w0 W : World} {N : Nat} {A : Option Addr} {len cap q : Nat} {v : Value} {ss : List SMod} {ms : List GMod} (h : MakI w0 W N A len cap q v ss ms) {s : SMod} {m : GMod} (hs : MOwn W (N + 1) s m) (hm : MadeM m) (hn : ms.any (keyIs m.name m.width) = false) (hl : ms.length ≤ 5) :
    ∃ v' w', (Builtin.append_ #[22, 22] 22 #[v, .slice (some ⟨W.heap.size, 0, none⟩) 1 1]).run Tryd.prog (W.alloc (objM s)) = .ok v' w' ∧ MakI w0 w' N A len cap q v' (ss ++ [s]) (ms ++ [m]) := by
  have hd := h.alloc (objM s)
  have hlen := h.len
  obtain ⟨v', w', hrun, hown, hg, _⟩ := OwnG.app elt_mod SMod.len SMod.one hd.own 1 (lit_mod W s) (by have := hd.ctx.lt; omega) (by unfold maxLen; simp; omega) (by simp; omega)
  exact ⟨v', w', hrun, hd.snoc hg hown (hs.gbT (row := none) (gbN (bel_lit8 (Below.refl _ W) _)) (fun g e => by cases e)) hm hn (hd.ctx.gb hg fun g e => (hd.own.lt g e).1)⟩
theorem made_other {s s2 s3 : SMod} {l : List UInt8} {sz : Nat} (hn : ∃ r, r < 3 ∧ s.name = nameAt r) (hw : WidK s2.kind s2.width) (hz : SzK s.kind sz) (hn2 : s2.name = s.name) (hk3 : s3.kind = s2.kind) (hn3 : s3.name = s2.name) (hw3 : s3.width = s2.width) (he : s3.entry = 0) (hl : l.length = sz) (hk : ¬ s3.kind = 1) : MadeM ⟨s3.name, s3.kind, s3.width, s3.entry, l⟩ := by
  have hlt : l.length < 130 := by have := hz.lt; omega
  refine ⟨?_, ?_⟩
  · rw [hn3, hn2]; exact hn
  · rw [← hk3, ← hw3] at hw
    rcases hw with ⟨h1 | h1, h2⟩ | ⟨h1, h2⟩
    · exact absurd h1 hk
    · exact .inr (.inl ⟨h1, h2, hlt, he⟩)
    · exact .inr (.inr ⟨h1, h2, hlt, he⟩)
theorem made_prog {s s2 s3 : SMod} {l : List UInt8} {sz k e : Nat} (hn : ∃ r, r < 3 ∧ s.name = nameAt r) (hw : WidK s2.kind s2.width) (hn2 : s2.name = s.name) (hk3 : s3.kind = s2.kind) (hn3 : s3.name = s2.name) (hw3 : s3.width = s2.width) (hl : l.length = sz) (hk : s3.kind = 1) (h1 : 1 ≤ k) (h2 : k ≤ 12) (h3 : sz = 8 * k) (he : e < k) : MadeM ⟨s3.name, s3.kind, s3.width, (e : Int), l⟩ := by
  refine ⟨?_, .inl ⟨hk, ?_, k, h1, h2, hl.trans h3, e, he, rfl⟩⟩
  · rw [hn3, hn2]; exact hn
  · rw [← hk3, ← hw3] at hw
    rcases hw with ⟨_, h2⟩ | ⟨h1, _⟩
    · exact h2
    · omega
theorem SzK.prog {kind : Int} {sz : Nat} (h : SzK kind sz) (hk : kind = 1) : ∃ k : Nat, 1 ≤ k ∧ k ≤ 12 ∧ sz = 8 * k := by
  rcases h with ⟨_, k, h1, h2, h3⟩ | ⟨h1, _⟩
  · exact ⟨k, h1, h2, h3⟩
  · exact absurd hk h1
end Go.Proofs.YtcenonnccodfoaaDoor
