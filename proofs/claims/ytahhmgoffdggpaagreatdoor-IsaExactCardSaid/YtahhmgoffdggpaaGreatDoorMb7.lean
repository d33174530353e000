/-
  Positions ascend; worlds that follow one another.
  Conditions: none beyond what each theorem says.
  Which operation a mnemonic names.
  Conditions: the table of formats lies as the program's start lays it.
  What the rows' listed variables give the walks of layer 9: the table of formats, strconv's error.
  Conditions: none.
-/
import Derived.Test.YtahhmgoffdggpaaGreatDoorMb6
import Derived.Test.YtahhmgoffdggpaaGreatDoorMb3
import Derived.Deep.MidRow
import Derived.Test.YtahhmgoffdggpaaGreatDoorMb2
namespace Go.Proofs.YtahhmgoffdggpaaGreatDoor

open Go.RowKit Go.Shelf

theorem adv1_lt (q : Nat × Nat) (c : UInt8) : q.1 < (adv1 q c).1 ∨ (q.1 = (adv1 q c).1 ∧ q.2 < (adv1 q c).2) := by
  unfold adv1; split
  · left; simp
  · right; simp
theorem adv_lt (l : List UInt8) : ∀ q : Nat × Nat, l ≠ [] → q.1 < (adv q l).1 ∨ (q.1 = (adv q l).1 ∧ q.2 < (adv q l).2) := by
  induction l with
  | nil => intro q h; exact absurd rfl h
  | cons c r ih =>
    intro q _
    have h1 := adv1_lt q c
    have e : adv q (c :: r) = adv (adv1 q c) r := rfl
    rw [e]
    by_cases hr : r = []
    · subst hr; exact h1
    · have h2 := ih (adv1 q c) hr
      omega
theorem adv_inj {l : List UInt8} {q : Nat × Nat} {j k : Nat} (hj : j < k) (hk : k ≤ l.length) : adv q (l.take j) ≠ adv q (l.take k) := by
  intro h
  have e : adv q (l.take k) = adv (adv q (l.take j)) ((l.drop j).take (k - j)) := by rw [adv_split, show j + (k - j) = k by omega]
  have hne : (l.drop j).take (k - j) ≠ [] := by
    intro h0
    have := congrArg List.length h0
    rw [List.length_take, List.length_drop] at this
    simp at this; omega
  have := adv_lt _ (adv q (l.take j)) hne
  rw [← e, ← h] at this
  omega
theorem adv_bd (l : List UInt8) : ∀ q : Nat × Nat, 1 ≤ q.1 → 1 ≤ q.2 → 1 ≤ (adv q l).1 ∧ 1 ≤ (adv q l).2 ∧ (adv q l).1 ≤ q.1 + l.length ∧ (adv q l).2 ≤ q.2 + l.length := by
  induction l with
  | nil => intro q h1 h2; exact ⟨h1, h2, by simp [adv], by simp [adv]⟩
  | cons c r ih =>
    intro q h1 h2
    have e : adv q (c :: r) = adv (adv1 q c) r := rfl
    rw [e, List.length_cons]
    have h3 : 1 ≤ (adv1 q c).1 ∧ 1 ≤ (adv1 q c).2 ∧ (adv1 q c).1 ≤ q.1 + 1 ∧ (adv1 q c).2 ≤ q.2 + 1 := by unfold adv1; split <;> simp <;> omega
    have h4 := ih (adv1 q c) h3.1 h3.2.1
    omega
theorem adv_step {l : List UInt8} {q : Nat × Nat} {j : Nat} (hj : j < l.length) : adv q (l.take (j + 1)) = adv1 (adv q (l.take j)) l[j] := by
  rw [List.take_succ_eq_append_getElem hj, adv_append]; rfl

theorem bel_next {w w1 w2 : World} (h1 : Below w.heap.size w w1) (h2 : Below w1.heap.size w1 w2) : Below w.heap.size w w2 := h1.trans (h2.mono h1.size)
theorem bel_lit {w w1 : World} (h1 : Below w.heap.size w w1) (o : Obj) : Below w.heap.size w (w1.alloc o) := h1.alloc h1.size o
theorem bel_alloc {w w1 w2 : World} {o : Obj} (h1 : Below w.heap.size w w1) (h2 : Below (w1.alloc o).heap.size (w1.alloc o) w2) : Below w.heap.size w w2 := bel_next (bel_lit h1 o) h2
theorem two_set0 {w : World} {B : Nat} {p q : Value} {T : TypeId} (h : w.heap[B]? = some (.cells #[p, q] T (0, 0))) (v : Value) : (w.setCell ⟨B, 0, none⟩ v).heap[B]? = some (.cells #[v, q] T (0, 0)) := (heap_setCell_same w B 0 #[p, q] T v h).trans rfl
theorem two_set1 {w : World} {B : Nat} {p q : Value} {T : TypeId} (h : w.heap[B]? = some (.cells #[p, q] T (0, 0))) (v : Value) : (w.setCell ⟨B, 1, none⟩ v).heap[B]? = some (.cells #[p, v] T (0, 0)) := (heap_setCell_same w B 1 #[p, q] T v h).trans rfl
end Go.Proofs.YtahhmgoffdggpaaGreatDoor


namespace Go.Proofs.YtahhmgoffdggpaaGreatDoor

open Go.RowKit

def encF (f : List UInt8 × Nat × Nat) : List Value := [.string ⟨f.1.toArray⟩, .int .i64 f.2.1, .int .i64 f.2.2]
def fmtCells : List Value := gcells encF fmtTab
theorem fmtTab_get {k : Nat} (h : k < fmtTab.length) : fmtTab[k] = fmtN k := by
  unfold fmtN
  rw [List.getD_eq_getElem?_getD, List.getElem?_eq_getElem h]; rfl
theorem fmts_range {w : World} (h : Fmts w) : w.rangeAt 0 0 fmtCells := by
  intro j v hj
  obtain ⟨k, m, hk, rfl, hm, hu⟩ := gcells_get2 (enc := encF) (k := 3) (fun _ => rfl) (by omega) fmtTab j v hj
  rw [fmtTab_get hk] at hu
  obtain ⟨q0, q1, q2⟩ := h k hk
  rw [Nat.zero_add]
  rcases (by omega : m = 0 ∨ m = 1 ∨ m = 2) with rfl | rfl | rfl
  · rw [← hu]; exact q0
  · rw [← hu]; exact q1
  · rw [← hu]; exact q2
theorem fmts_load {w : World} (h : Fmts w) : (Instr.loadAt 65 (.pointer (some ⟨0, 0, none⟩))).run Tryz.prog w = .ok (.agg fmtCells.toArray) w :=
  run_loadAt_mid w _ 0 _ fmtCells _ (fmts_range h) Tryz.underlying65 rfl (by kernel_rfl)
theorem fmts_index : ∀ (k : Nat) (_ : k < 28) (W : World), (Instr.index 65 (.agg fmtCells.toArray) (.int .i64 k)).run Tryz.prog W = .ok (.agg #[.string ⟨(fmtN k).1.toArray⟩, .int .i64 (fmtN k).2.1, .int .i64 (fmtN k).2.2]) W
  | 0, _ => fun W => by kernel_rfl
  | 1, _ => fun W => by kernel_rfl
  | 2, _ => fun W => by kernel_rfl
  | 3, _ => fun W => by kernel_rfl
  | 4, _ => fun W => by kernel_rfl
  | 5, _ => fun W => by kernel_rfl
  | 6, _ => fun W => by kernel_rfl
  | 7, _ => fun W => by kernel_rfl
  | 8, _ => fun W => by kernel_rfl
  | 9, _ => fun W => by kernel_rfl
  | 10, _ => fun W => by kernel_rfl
  | 11, _ => fun W => by kernel_rfl
  | 12, _ => fun W => by kernel_rfl
  | 13, _ => fun W => by kernel_rfl
  | 14, _ => fun W => by kernel_rfl
  | 15, _ => fun W => by kernel_rfl
  | 16, _ => fun W => by kernel_rfl
  | 17, _ => fun W => by kernel_rfl
  | 18, _ => fun W => by kernel_rfl
  | 19, _ => fun W => by kernel_rfl
  | 20, _ => fun W => by kernel_rfl
  | 21, _ => fun W => by kernel_rfl
  | 22, _ => fun W => by kernel_rfl
  | 23, _ => fun W => by kernel_rfl
  | 24, _ => fun W => by kernel_rfl
  | 25, _ => fun W => by kernel_rfl
  | 26, _ => fun W => by kernel_rfl
  | 27, _ => fun W => by kernel_rfl
  | n + 28, h => absurd h (by omega)
set_option maxRecDepth 50000 in
set_option maxHeartbeats 1000000 in
theorem opcode_any (s : List UInt8) (w : World) (hG : GlobF w) : Calls Tryz.prog 104 #[.string ⟨s.toArray⟩] w fun e w' => e = .returned (.tuple #[.int .i64 ((opNo s).getD 0 : Nat), .bool (opNo s).isSome]) ∧ Below w.heap.size w w' := by
  have HD : Hid (opNo s = firstN (fun n => decide ((fmtN n).1 = s)) 0 28) := Lib.hid rfl
  generalize opNo s = q at *
  have HL := Lib.hid (fmts_range hG.2)
  have hsz : (Tryz.prog.info? 65).map (·.size) = some fmtCells.length := by kernel_rfl
  have HX := Lib.hid fmts_index
  clear hG
  go_enter Tryz.func104, Tryz.ntmps104
  go_wp2
  refine wp_load_mid 65 _ rfl _ 0 rfl fmtCells _ HL.out Tryz.underlying65 rfl hsz ?_
  clear HL hsz
  generalize fmtCells.toArray = fc at *
  go_wp2
  go_loopw [7] (fun vi wr => ∃ k : Nat, vi = .int .i64 k ∧ k ≤ 28 ∧ Hid (q = firstN (fun n => decide ((fmtN n).1 = s)) k (28 - k)) ∧ Hid (Below w.heap.size w wr)) (fun vi _ => 28 - (intOf vi).toNat)
  case atStart => exact ⟨0, rfl, by omega, HD, Lib.hid (Below.refl _ _)⟩
  case round =>
    obtain ⟨k, rfl, hk, HT, HB⟩ := hrel
    by_cases hlt : k < 28
    · have hs := firstN_step (f := fun n => decide ((fmtN n).1 = s)) hlt
      have HQ : Hid (q = if decide ((fmtN k).1 = s) then some k else firstN (fun n => decide ((fmtN n).1 = s)) (k + 1) (28 - (k + 1))) := Lib.hid (by rw [HT.out, hs])
      have hix := HX.out k hlt
      have f0 : decide ((k : Int) < 28) = true := by simp; omega
      clear hs HT HD HX
      obtain ⟨fs, hfs⟩ : ∃ fs, (fmtN k).1 = fs := ⟨_, rfl⟩
      obtain ⟨fr, hfr⟩ : ∃ fs, (fmtN k).2.1 = fs := ⟨_, rfl⟩
      obtain ⟨fi, hfi⟩ : ∃ fs, (fmtN k).2.2 = fs := ⟨_, rfl⟩
      rw [hfs] at hix HQ
      rw [hfr, hfi] at hix
      have hb1 := Lib.hid (HB.out.alloc HB.out.size (.cells #[.string ⟨fs.toArray⟩, .int .i64 fr, .int .i64 fi] 64))
      clear hfs hfr hfi
      by_cases he : fs = s
      · have f1 : (fs == s) = true := by simp [he]
        have HE : Hid (q = some k) := Lib.hid (by rw [HQ.out, if_pos (by simp [he])])
        clear he
        go_wp2
        refine bodyPost_ret (v := .tuple #[.int .i64 k, .bool true]) (by simp [results, Tryz.results104, go_sem]) rfl ?_
        rw [HE.out]
        exact ⟨rfl, hb1.out⟩
      · have f1 : (fs == s) = false := by simp [he]
        have HE : Hid (q = firstN (fun n => decide ((fmtN n).1 = s)) (k + 1) (28 - (k + 1))) := Lib.hid (by rw [HQ.out, if_neg (by simp [he])])
        go_wp2
        go_round
        case rel => exact ⟨k + 1, by go_num, by omega, HE, hb1⟩
        case measure => simp [intOf]; omega
    · obtain rfl : k = 28 := by omega
      have HE : Hid (q = none) := Lib.hid (by rw [HT.out]; rfl)
      go_wp2
      refine bodyPost_ret (v := .tuple #[.int .i64 0, .bool false]) (by simp [results, Tryz.results104, go_sem]) rfl ?_
      rw [HE.out]
      exact ⟨rfl, HB.out⟩
end Go.Proofs.YtahhmgoffdggpaaGreatDoor


namespace Go.Proofs.YtahhmgoffdggpaaGreatDoor

open Go.ChangeShapes Go.WideShapes Go.ChangeAt Go.RowKit

theorem gFmt : Tryz.prog.globalNamed "multikernel/isa.formats" = some 0 := by kernel_rfl
theorem tFmtG : (Tryz.prog.globals[0]?).map (·.type) = some 65 := by kernel_rfl
def dataF {H : Type} (f : List UInt8 × Nat × Nat) : DataW H := .agg [.lit (.string f.1), .lit (.int .i64 f.2.1), .lit (.int .i64 f.2.2)]
theorem laid_fmts {H : Type} : (Rows.laid_multikernel_isa_formats : DataW H) = .agg (fmtTab.map dataF) := rfl
section

variable {H : Type} {enc : TypeId × Value → H} {W : World} {base : Nat} {spare : Nat → Bool} {held : Bool}

set_option maxRecDepth 50000 in
theorem fmt_trod {n : Nat} {cs : List Value} {f : List UInt8 × Nat × Nat} {p : List MemPlace} (h : DataW.trod enc Tryz.prog W base spare held n 64 cs = some (dataF f, p)) : cs = encF f := by
  obtain ⟨ys, m, _, hxy, hlen, hyl, hf⟩ := DataW.trod_struct Tryz.underlying64 h
  have c0 : Tryz.prog.cellsOf 64 = 3 := by kernel_rfl
  rw [c0] at hlen
  match cs, hlen with
  | [v0, v1, v2], _ =>
    have n0 : Tryz.prog.cellsOf 3 = 1 := by kernel_rfl
    have n1 : Tryz.prog.cellsOf 9 = 1 := by kernel_rfl
    have h0 := hf 0 _ rfl
    have h1 := hf 1 _ rfl
    have h2 := hf 2 _ rfl
    have yl : ys.length = 3 := hyl
    match ys, yl with
    | [y0, y1, y2], _ =>
      simp [n1] at h0
      simp [n0] at h1 h2
      obtain ⟨s, hs, hsd, _⟩ := DataW.trod_string Tryz.underlying9 h0
      obtain ⟨a, ha, had, _⟩ := DataW.trod_int Tryz.underlying3 h1
      obtain ⟨b, hb, hbd, _⟩ := DataW.trod_int Tryz.underlying3 h2
      subst hsd had hbd
      simp only [List.map_cons, List.map_nil, dataF, Prod.mk.injEq, DataW.agg.injEq, List.cons.injEq, DataW.lit.injEq, Lit.string.injEq, Lit.int.injEq, true_and, and_true] at hxy
      obtain ⟨⟨e0, e1, e2⟩, _⟩ := hxy
      simp only [List.cons.injEq, and_true] at hs ha hb
      subst hs ha hb e1 e2
      rw [encF, e0]
set_option maxRecDepth 50000 in
theorem fmts_trod {n : Nat} {cs : List Value} {p : List MemPlace} (h : DataW.trod enc Tryz.prog W base spare held n 65 cs = some (Rows.laid_multikernel_isa_formats, p)) : ∀ k, k < 28 → ∀ j, j < 3 → cs[k * 3 + j]? = (encF (fmtN k))[j]? := by
  intro k hk j hj
  obtain ⟨xs, m, _, hxy, hlen, hxl, hf⟩ := DataW.trod_array Tryz.underlying65 h
  have c0 : Tryz.prog.cellsOf 64 = 3 := by kernel_rfl
  have hx : k < xs.length := by rw [hxl]; exact hk
  have h1 := hf k hk
  simp only [c0] at h1
  rw [List.getElem?_eq_getElem hx] at h1
  rw [laid_fmts] at hxy
  simp only [Prod.mk.injEq, DataW.agg.injEq] at hxy
  have e1 : (xs[k]).1 = dataF (fmtN k) := by
    have := congrArg (fun l => l[k]?) hxy.1
    simp only [List.getElem?_map, List.getElem?_eq_getElem hx, Option.map_some] at this
    rw [List.getElem?_eq_getElem (show k < fmtTab.length from hk), Option.map_some] at this
    injection this with this
    rw [← this, fmtTab_get (show k < fmtTab.length from hk)]
  have h2 := fmt_trod (f := fmtN k) (p := (xs[k]).2) (by rw [h1, ← e1])
  rw [← h2, List.getElem?_take, if_pos hj, List.getElem?_drop]
end

def GlobI (w : World) : Prop := Glob w ∧ GlobF w
theorem GlobI.next {w w' : World} (h : GlobI w) (hb : Below w.heap.size w w') : GlobI w' := ⟨h.1.next hb, h.2.next hb⟩
theorem globi_of_laid {W : World} (h : laidMetH Tryz.prog Rows.isaExactRow.laid W) : GlobI W := by
  rw [MakeChecks.laidMetH_plain _ _ _ (by kernel_rfl)] at h
  obtain ⟨ps, ⟨g0, t0, cs0, f0, p0, q0, hg0, ht0, hv0, hd0, ⟨g1, t1, cs1, f1, p1, q1, hg1, ht1, hv1, hd1, ⟨g2, t2, cs2, f2, p2, q2, hg2, ht2, hv2, hd2, ⟨g3, t3, cs3, f3, p3, q3, hg3, ht3, hv3, hd3, ⟨g4, t4, cs4, f4, p4, q4, hg4, ht4, hv4, hd4, ⟨g5, t5, cs5, f5, p5, q5, hg5, ht5, hv5, hd5, _⟩, _⟩, _⟩, _⟩, _⟩, _⟩, _, _⟩ := h
  obtain rfl := Option.some.inj (gRange.symm.trans hg3)
  obtain rfl := Option.some.inj (tRange.symm.trans ht3)
  obtain rfl := Option.some.inj (gFmt.symm.trans hg5)
  obtain rfl := Option.some.inj (tFmtG.symm.trans ht5)
  refine ⟨?_, ?_⟩
  · obtain ⟨l3⟩ := cs3
    obtain ⟨f, u, v, hcs, hn, h1⟩ := iface_of_trod Tryz.underlying59 hd3
    have hcell : W.cell? ⟨4, 0, none⟩ = some (.iface u v) := by
      have h := World.var?_cell hg3 hv3 0
      have e : l3 = [.iface u v] := hcs
      subst e
      simpa using h
    exact ⟨World.block_lt_of_cell? W ⟨4, 0, none⟩ hcell, _, hcell, .inr ⟨u, v, rfl⟩⟩
  · have hc : ∀ i, W.cell? ⟨0, i, none⟩ = cs5[i]? := fun i => World.var?_cell hg5 hv5 i
    have ht := fmts_trod hd5
    have hF : Fmts W := fun k hk => ⟨by rw [hc, ← Array.getElem?_toList]; exact ht k hk 0 (by omega), by rw [hc, ← Array.getElem?_toList]; exact ht k hk 1 (by omega), by rw [hc, ← Array.getElem?_toList]; exact ht k hk 2 (by omega)⟩
    exact ⟨World.block_lt_of_cell? W ⟨0, 0 * 3, none⟩ (hF 0 (by omega)).1, hF⟩
end Go.Proofs.YtahhmgoffdggpaaGreatDoor
