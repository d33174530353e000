/-
  Package forest: Remove, Prune, Evict, Descendants, Parent, Free.
  Conditions: at most 100000 entries; the table of math/bits lies as the program's text lays it (Free).
  Slices of entries that are cut; the library's Grow and Concat at entries; package forest's Insert.
  Conditions: at most 10000 entries.
  Package forest's Insert.
  Conditions: at most 10000 entries.
  Package forest: Descendants, Parent, Free.
  Conditions: at most 100000 entries; the table of math/bits lies as the program's text lays it (Free).
-/
import Derived.Test.YtndppbfdcceflaaGreatDoorMy1
import Derived.Test.YtndppbfdcceflaaGreatDoorNpf
import Derived.Test.YtndppbfdcceflaaGreatDoorMrp
import Derived.Test.YtndppbfdcceflaaGreatDoorMca
import Derived.Laws.MakeOwn
import Derived.Test.YtndppbfdcceflaaGreatDoorGrowShelf
namespace Go.Proofs.YtndppbfdcceflaaGreatDoor
open Go.RowKit

theorem OwnG.made {α : Type} {enc : α → List Value} {S T : TypeId} {k by8 : Nat} (hE : Elt S T k by8) (w : World) (base n : Nat) (hb : base ≤ w.heap.size) (hn : n ≤ 1000000) (h8 : by8 ≤ 1000) :
    ∃ w', (Instr.makeSlice S (.int .i64 0) (.int .i64 (n : Int))).run Tryz.prog w = .ok (.slice (some ⟨w.heap.size, 0, none⟩) 0 n) w' ∧ OwnG enc T k w' base (.slice (some ⟨w.heap.size, 0, none⟩) 0 n) [] ∧ Below w.heap.size w w' := by
  obtain ⟨i0, z, hi0, hz0, hz1, hz2, hz3⟩ := hE.inf
  have hm : by8 * n ≤ 1000 * 1000000 := Nat.mul_le_mul h8 hn
  obtain ⟨w', hr, ho, hg⟩ := run_make_own (P := Tryz.prog) w base S T i0 z k hE.und hi0 hz0 hz1 .i64 .i64 n (by rw [hz2]; omega) (by unfold maxLen; omega) hb
  exact ⟨w', hr, ho, (Below.refl _ w).grown hg (Nat.le_refl _) (fun g e => by cases e)⟩
/-- How a call ends that returns entries and whether there are any. -/
def OptEnd (es : List GE) (b : Bool) (w : World) (e : Ending) (w' : World) : Prop := ∃ v ys, e = .returned (.tuple #[v, .bool b]) ∧ EOwn w' w.heap.size v ys ∧ ys.map GV.e = es ∧ Below w.heap.size w w'
def remB (es : List GE) (i : GId) : Bool := decide (0 ≤ fidx (pid i) es)
def remR (es : List GE) (i : GId) : List GE := if remB es i then remL es i else []
theorem keep_rem {es : List GE} {i : GId} {r : Nat} (h : fidx (pid i) es = r) : keepN (fun k => ((k : Int) == (r : Int))) es es.length = remL es i := by
  obtain ⟨hr, _, hf⟩ := find_at h
  rw [keepN_one es r _ (fun k hk => by rw [Bool.eq_iff_iff]; simp; omega) _ (Nat.le_refl _), if_neg (by omega), List.take_of_length_le (Nat.le_refl _)]
  unfold remL remK
  rw [hf]
set_option maxRecDepth 20000 in
set_option maxHeartbeats 1000000 in
theorem pRemE_any (xs : List GV) (A : Option Addr) (c : Nat) (i : GId) (w : World) (h1 : ERow w w.heap.size A xs) (hl : xs.length ≤ 100000) (hp : ∀ x ∈ xs, x.e.node.path.length ≤ 17179869184) :
    Calls Tryz.prog 31 #[.slice A xs.length c, i.val] w (OptEnd (remR (xs.map GV.e) i) (remB (xs.map GV.e) i) w) := by
  have HI := Lib.hid fun W (hW : Below w.heap.size w W) => pFindE_any xs A c i W (h1.row.next hW) (by omega)
  have HN := Lib.hid (IB.new w i)
  have HB0 := Lib.hid (belt (Below.refl _ w) (.cells #[.int .i64 i.core, .int .i64 i.op, .int .i64 i.part] 25))
  rcases Int.lt_or_le (fidx (pid i) (xs.map GV.e)) 0 with hr | hr
  · have hb : remB (xs.map GV.e) i = false := by unfold remB; simp; omega
    have HEND : Hid (∀ W, Below w.heap.size w W → OptEnd (remR (xs.map GV.e) i) (remB (xs.map GV.e) i) w (.returned (.tuple #[.slice none 0 0, .bool false])) W) := Lib.hid fun W hW => by
      unfold remR
      rw [hb]
      exact ⟨_, [], rfl, EOwn.nil _ _, rfl, hW⟩
    unfold findV at HI
    rw [show max (fidx (pid i) (xs.map GV.e)) 0 = 0 by omega, show decide (0 ≤ fidx (pid i) (xs.map GV.e)) = false by simp; omega] at HI
    generalize OptEnd (remR (xs.map GV.e) i) (remB (xs.map GV.e) i) w = EE at *
    clear hb hr h1 hp
    obtain ⟨j0, j1, j2⟩ := i
    simp only [GId.val] at *
    obtain ⟨y0, y1, y2⟩ := HN.out.cells
    go_enter Tryz.func31, Tryz.ntmps31
    go_wp2_with fail
    go_fit (HI.out _ HB0.out)
    rintro e w1 ⟨rfl, hb1⟩
    have HB1 := Lib.hid (belt (beln HB0.out hb1) (.cells #[.int .i64 0] 3))
    clear hb1 HI y0 y1 y2
    go_wp2
    exact HEND.out _ HB1.out
  · obtain ⟨r, hr2⟩ := Int.eq_ofNat_of_zero_le hr
    have hb : remB (xs.map GV.e) i = true := by unfold remB; simpa using hr
    have HK := Lib.hid (keep_rem hr2)
    have HWT := Lib.hid fun W g (hW : Below w.heap.size w W) (hg : NBx W g r) => wthRem_any (fun k => ((k : Int) == (r : Int))) (.pointer (some ⟨g, 0, none⟩)) xs A c W (h1.next hW) hl hp (fun W' hW' k hk => cRem_any (k : Int) g r W' (hg.next hW'))
    have HEND : Hid (∀ v ys W, EOwn W w.heap.size v ys → ys.map GV.e = remL (xs.map GV.e) i → Below w.heap.size w W → OptEnd (remR (xs.map GV.e) i) (remB (xs.map GV.e) i) w (.returned (.tuple #[v, .bool true])) W) := Lib.hid fun v ys W h1 h2 h3 => by
      unfold remR
      rw [hb]
      exact ⟨v, ys, rfl, h1, h2, h3⟩
    have HLN : Hid ((xs.map GV.e).length = xs.length) := Lib.hid (by simp)
    unfold findV at HI
    rw [show max (fidx (pid i) (xs.map GV.e)) 0 = (r : Int) by omega, show decide (0 ≤ fidx (pid i) (xs.map GV.e)) = true by simpa using hr] at HI
    generalize OptEnd (remR (xs.map GV.e) i) (remB (xs.map GV.e) i) w = EE at *
    clear hb hr hr2 h1 hp
    rw [HLN.out] at HK
    generalize remL (xs.map GV.e) i = RL at *
    unfold EsEnd at HWT
    obtain ⟨j0, j1, j2⟩ := i
    simp only [GId.val] at *
    obtain ⟨y0, y1, y2⟩ := HN.out.cells
    go_enter Tryz.func31, Tryz.ntmps31
    go_wp2_with fail
    go_fit (HI.out _ HB0.out)
    rintro e w1 ⟨rfl, hb1⟩
    have HB1 := Lib.hid (belt (beln HB0.out hb1) (.cells #[.int .i64 (r : Int)] 3))
    have HX1 := Lib.hid (NBx.new w1 (r : Int))
    have HM1 : Hid (w.heap.size ≤ (w1.alloc (.cells #[.int .i64 (r : Int)] 3)).heap.size) := Lib.hid HB1.out.size
    clear hb1 HI y0 y1 y2
    go_wp2_with fail
    go_fit (HWT.out _ _ HB1.out HX1.out)
    rintro e w2 ⟨v, ys, rfl, ho, hm, hb2⟩
    have HB2 := Lib.hid (beln HB1.out hb2)
    have HO2 := Lib.hid (show EOwn w2 w.heap.size v ys from ⟨ho.own.low HM1.out, ho.pth, ho.apt⟩)
    have HM2 := Lib.hid (hm.trans HK.out)
    clear ho hm hb2 HWT
    go_wp2
    exact HEND.out _ _ _ HO2.out HM2.out HB2.out
theorem EOwn.low {w : World} {b b' : Nat} {v : Value} {xs : List GV} (h : EOwn w b v xs) (hb : b' ≤ b) : EOwn w b' v xs := ⟨h.own.low hb, h.pth, h.apt⟩
set_option maxRecDepth 20000 in
set_option maxHeartbeats 1000000 in
theorem pPrnE_any (xs : List GV) (A : Option Addr) (c : Nat) (i : GId) (w : World) (h1 : ERow w w.heap.size A xs) (hl : xs.length ≤ 100000) (hp : ∀ x ∈ xs, x.e.node.path.length ≤ 17179869184) :
    Calls Tryz.prog 34 #[.slice A xs.length c, i.val] w (EsEnd (prnL (xs.map GV.e) i) w) := by
  have HK : Hid (keepN (fun k => ((xs.map GV.e)[k]?).elim false fun e => hasI e.node.path i) (xs.map GV.e) xs.length = prnL (xs.map GV.e) i) := Lib.hid (by
    have h := keepN_filter (fun e => hasI e.node.path i) (xs.map GV.e) (fun k => ((xs.map GV.e)[k]?).elim false fun e => hasI e.node.path i) (fun k hk => by rw [List.getElem?_eq_getElem hk]; rfl) xs.length (by simp)
    rw [h, List.take_of_length_le (by simp)]
    rfl)
  have HWT := Lib.hid fun W g1 g2 (hW : Below w.heap.size w W) (hg1 : SBx W g1 A xs.length c) (hg2 : IB W g2 i) => wthPrn_any (fun k => ((xs.map GV.e)[k]?).elim false fun e => hasI e.node.path i) (.pointer (some ⟨g1, 0, none⟩)) (.pointer (some ⟨g2, 0, none⟩)) xs A c W (h1.next hW) hl hp (fun W' hW' k hk => (cPrn_any xs A c i g1 g2 k hk W' ((h1.next hW).next hW') hp (hg1.next hW') (hg2.next hW') hl).mono (by
    rintro e W2 ⟨rfl, hb⟩
    exact ⟨by rw [List.getElem?_eq_getElem (by simpa using hk)]; simp, hb⟩))
  have HN1 := Lib.hid ((SBx.new w A xs.length c).next (belt (Below.refl _ _) (.cells #[.int .i64 i.core, .int .i64 i.op, .int .i64 i.part] 25)))
  have HN2 := Lib.hid (IB.new (w.alloc (.cells #[.slice A xs.length c] 22)) i)
  simp only [World.size_alloc] at HN2
  have HB0 := Lib.hid (belt (belt (Below.refl _ w) (.cells #[.slice A xs.length c] 22)) (.cells #[.int .i64 i.core, .int .i64 i.op, .int .i64 i.part] 25))
  have HM0 : Hid (w.heap.size ≤ ((w.alloc (.cells #[.slice A xs.length c] 22)).alloc (.cells #[.int .i64 i.core, .int .i64 i.op, .int .i64 i.part] 25)).heap.size) := Lib.hid HB0.out.size
  have HEND : Hid (∀ v ys W, EOwn W w.heap.size v ys → ys.map GV.e = prnL (xs.map GV.e) i → Below w.heap.size w W → EsEnd (prnL (xs.map GV.e) i) w (.returned v) W) := Lib.hid fun v ys W h1 h2 h3 => ⟨v, ys, rfl, h1, h2, h3⟩
  generalize EsEnd (prnL (xs.map GV.e) i) w = EE at *
  generalize prnL (xs.map GV.e) i = RL at *
  unfold EsEnd at HWT
  clear h1 hp
  obtain ⟨j0, j1, j2⟩ := i
  simp only [GId.val] at *
  have y0 := HN1.out.cell
  go_enter Tryz.func34, Tryz.ntmps34
  go_wp2_with fail
  go_fit (HWT.out _ _ _ HB0.out HN1.out HN2.out)
  rintro e w2 ⟨v, ys, rfl, ho, hm, hb2⟩
  have HB2 := Lib.hid (beln HB0.out hb2)
  have HO2 := Lib.hid (ho.low HM0.out)
  have HM2 := Lib.hid (hm.trans HK.out)
  clear ho hm hb2 HWT y0
  go_wp2
  exact HEND.out _ _ _ HO2.out HM2.out HB2.out
set_option maxRecDepth 20000 in
set_option maxHeartbeats 1000000 in
theorem pEvcE_any (xs : List GV) (A : Option Addr) (c : Nat) (i : Int) (w : World) (h1 : ERow w w.heap.size A xs) (hl : xs.length ≤ 100000) (hp : ∀ x ∈ xs, x.e.node.path.length ≤ 17179869184) :
    Calls Tryz.prog 36 #[.slice A xs.length c, .int .i64 i] w (EsEnd (evcL (xs.map GV.e) i) w) := by
  have HK : Hid (keepN (fun k => ((xs.map GV.e)[k]?).elim false fun e => e.core == i) (xs.map GV.e) xs.length = evcL (xs.map GV.e) i) := Lib.hid (by
    have h := keepN_filter (fun e => e.core == i) (xs.map GV.e) (fun k => ((xs.map GV.e)[k]?).elim false fun e => e.core == i) (fun k hk => by rw [List.getElem?_eq_getElem hk]; rfl) xs.length (by simp)
    rw [h, List.take_of_length_le (by simp)]
    rfl)
  have HWT := Lib.hid fun W g1 g2 (hW : Below w.heap.size w W) (hg1 : SBx W g1 A xs.length c) (hg2 : NBx W g2 i) => wthEvc_any (fun k => ((xs.map GV.e)[k]?).elim false fun e => e.core == i) (.pointer (some ⟨g1, 0, none⟩)) (.pointer (some ⟨g2, 0, none⟩)) xs A c W (h1.next hW) hl hp (fun W' hW' k hk => (cEvc_any xs A c i g1 g2 k hk W' ((h1.next hW).next hW') (hg1.next hW') (hg2.next hW') hl).mono (by
    rintro e W2 ⟨rfl, hb⟩
    exact ⟨by rw [List.getElem?_eq_getElem (by simpa using hk)]; simp, hb⟩))
  have HN1 := Lib.hid ((SBx.new w A xs.length c).next (belt (Below.refl _ _) (.cells #[.int .i64 i] 3)))
  have HN2 := Lib.hid (NBx.new (w.alloc (.cells #[.slice A xs.length c] 22)) i)
  simp only [World.size_alloc] at HN2
  have HB0 := Lib.hid (belt (belt (Below.refl _ w) (.cells #[.slice A xs.length c] 22)) (.cells #[.int .i64 i] 3))
  have HM0 : Hid (w.heap.size ≤ ((w.alloc (.cells #[.slice A xs.length c] 22)).alloc (.cells #[.int .i64 i] 3)).heap.size) := Lib.hid HB0.out.size
  have HEND : Hid (∀ v ys W, EOwn W w.heap.size v ys → ys.map GV.e = evcL (xs.map GV.e) i → Below w.heap.size w W → EsEnd (evcL (xs.map GV.e) i) w (.returned v) W) := Lib.hid fun v ys W h1 h2 h3 => ⟨v, ys, rfl, h1, h2, h3⟩
  generalize EsEnd (evcL (xs.map GV.e) i) w = EE at *
  generalize evcL (xs.map GV.e) i = RL at *
  unfold EsEnd at HWT
  clear h1 hp
  have y0 := HN1.out.cell
  go_enter Tryz.func36, Tryz.ntmps36
  go_wp2_with fail
  go_fit (HWT.out _ _ _ HB0.out HN1.out HN2.out)
  rintro e w2 ⟨v, ys, rfl, ho, hm, hb2⟩
  have HB2 := Lib.hid (beln HB0.out hb2)
  have HO2 := Lib.hid (ho.low HM0.out)
  have HM2 := Lib.hid (hm.trans HK.out)
  clear ho hm hb2 HWT y0
  go_wp2
  exact HEND.out _ _ _ HO2.out HM2.out HB2.out
end Go.Proofs.YtndppbfdcceflaaGreatDoor


namespace Go.Proofs.YtndppbfdcceflaaGreatDoor
open Go.RowKit

theorem ent_elem : Tryz.prog.underlying 22 = some (.slice (Tryz.prog.elem 22)) := by kernel_rfl
theorem run_entSize (W : World) : (sizeOf (Tryz.prog.elem 22)).run Tryz.prog W = .ok 13 W := by kernel_rfl
/-- Where the cut l[k:] begins. -/
def cutE (a : Option Addr) (cap k : Nat) : Option Addr := if cap = k then a else a.map (·.add (k * 13))
theorem run_takeE (w : World) (a : Option Addr) (len cap k : Nat) (hk : k ≤ cap) :
    (Instr.sliceAt 22 (.slice a len cap) none (some (.int .i64 (k : Int))) none).run Tryz.prog w = .ok (.slice a k cap) w := by
  rw [run_sliceAt_slice _ _ _ _ _ _ ent_elem, run_slice_h _ _ _ _ _ ent_elem .i64 (k : Int) (by omega) (by omega), run_entSize]
  cases a <;> simp [Result.andThen, sliced, Addr.add]
theorem run_dropE (w : World) (a : Option Addr) (len cap k : Nat) (hk : k ≤ len) :
    (Instr.sliceAt 22 (.slice a len cap) (some (.int .i64 (k : Int))) none none).run Tryz.prog w = .ok (.slice (cutE a cap k) (len - k) (cap - k)) w := by
  rw [run_sliceAt_slice _ _ _ _ _ _ ent_elem, run_slice_l _ _ _ _ _ ent_elem .i64 (k : Int) (by omega) (by omega), run_entSize]
  simp [Result.andThen, sliced, cutE]
theorem ERow.take {w : World} {B : Nat} {A : Option Addr} {xs : List GV} (h : ERow w B A xs) (j : Nat) : ERow w B A (xs.take j) :=
  ⟨fun hn => by
    rw [List.length_take] at hn
    obtain ⟨b, off, e, hb, hc⟩ := h.row (by omega)
    refine ⟨b, off, e, hb, fun i hi m u hu => ?_⟩
    rw [List.length_take] at hi
    rw [List.getElem_take] at hu
    exact hc i (by omega) m u hu, fun x hx => h.pth x (List.mem_of_mem_take hx)⟩
theorem ERow.drop {w : World} {B : Nat} {A : Option Addr} {xs : List GV} (h : ERow w B A xs) {c : Nat} (hc : xs.length ≤ c) (j : Nat) : ERow w B (cutE A c j) (xs.drop j) :=
  ⟨fun hn => by
    rw [List.length_drop] at hn
    obtain ⟨b, off, rfl, hb, hc'⟩ := h.row (by omega)
    refine ⟨b, off + j * 13, ?_, hb, fun i hi m u hu => ?_⟩
    · unfold cutE
      rw [if_neg (by omega)]
      simp only [Option.map_some, Addr.add]
      split
      · rename_i h0
        rw [h0, Nat.add_zero]
      · rfl
    · rw [List.length_drop] at hi
      rw [List.getElem_drop] at hu
      have := hc' (j + i) (by omega) m u hu
      rw [show off + j * 13 + (i * 13 + m) = off + ((j + i) * 13 + m) by omega]
      exact this, fun x hx => h.pth x (List.mem_of_mem_drop hx)⟩
theorem inf_ent : ∃ i z, Tryz.prog.info? 32 = some i ∧ i.zero = some z ∧ i.size = 13 ∧ i.bytes = 120 ∧ z.cells.size = 13 := elt_ent.inf
theorem growE_any (n : Nat) (h0 : 1 ≤ n) (hn : n ≤ 100000) (w : World) : Calls Tryz.prog 108 #[.slice none 0 0, .int .i64 n] w fun e w' => ∃ v, e = .returned v ∧ OwnG GV.cells 32 13 w' w.heap.size v [] ∧ Below w.heap.size w w' := by
  obtain ⟨i0, z, hi, hz, hs, hb, hc⟩ := inf_ent
  refine Calls.mono (Any8.slices_Grow_grow Tryz.growE i0 z hi hz (by omega) none 0 0 n [] w (Nat.le_refl _) (by omega) (by rw [hb]; omega) (by omega) (by simp) (fun _ => rfl) (fun a h => by cases h)) ?_
  rintro e w' ⟨rfl, rfl⟩
  refine ⟨_, rfl, ⟨rfl, .inr ⟨w.heap.size, _, _, rfl, Nat.le_refl _, heap_alloc_new _ _, by simp, ?_, ?_, by simp [gcells]⟩⟩, ((Below.refl _ w).drew).alloc (by simp) _⟩
  · exact grownCap_le_maxLen _ _ _ _ (by unfold maxLen; omega)
  · have hg := grownCap_ge w (0 + n) 0 (Tryz.growE_ren.t 25)
    rw [Nat.zero_add] at hg
    simp [size_zeroCells, hc]
    omega
def sz4 (n m l k : Nat) : Nat := if k = 0 then 0 else if k = 1 then n else if k = 2 then n + m else n + m + l
def pt4 {α : Type} (xs ys zs : List α) (k : Nat) : List α := if k = 0 then [] else if k = 1 then xs else if k = 2 then xs ++ ys else xs ++ ys ++ zs
theorem EOwn.empty {w : World} {base : Nat} {v : Value} (h : OwnG GV.cells 32 13 w base v []) : EOwn w base v [] := ⟨h, fun x hx => (by cases hx), fun x hx => (by cases hx)⟩
set_option maxRecDepth 20000 in
set_option maxHeartbeats 1000000 in
theorem catE_any (xs ys zs : List GV) (A B C : Option Addr) (c1 c2 c3 g d : Nat) (w : World) (hg0 : w.cell? ⟨g, 0, none⟩ = some (.slice A xs.length c1)) (hg1 : w.cell? ⟨g, 1, none⟩ = some (.slice B ys.length c2)) (hg2 : w.cell? ⟨g, 2, none⟩ = some (.slice C zs.length c3)) (hgl : g < w.heap.size) (h1 : ERow w w.heap.size A xs) (h2 : ERow w w.heap.size B ys) (h3 : ERow w w.heap.size C zs) (hp : 1 ≤ xs.length + ys.length + zs.length) (hq : xs.length + ys.length + zs.length ≤ 100000) :
    Calls Tryz.prog 68 #[.slice (some ⟨g, 0, none⟩) 3 d] w fun e w' => ∃ v, e = .returned v ∧ EOwn w' w.heap.size v (xs ++ ys ++ zs) ∧ Below w.heap.size w w' := by
  have HG := Lib.hid fun W => growE_any (xs.length + ys.length + zs.length) hp hq W
  have HR1 := Lib.hid fun W (hW : Below w.heap.size w W) => h1.next hW
  have HR2 := Lib.hid fun W (hW : Below w.heap.size w W) => h2.next hW
  have HR3 := Lib.hid fun W (hW : Below w.heap.size w W) => h3.next hW
  have HP0 := Lib.hid h1.pth
  have HP1 := Lib.hid h2.pth
  have HP2 := Lib.hid h3.pth
  have HC0 : Hid (∀ W, Below w.heap.size w W → W.cell? ⟨g, 0, none⟩ = some (.slice A xs.length c1)) := Lib.hid fun W hW => (hW.cell (p := ⟨g, 0, none⟩) hgl).trans hg0
  have HC1 : Hid (∀ W, Below w.heap.size w W → W.cell? ⟨g, 1, none⟩ = some (.slice B ys.length c2)) := Lib.hid fun W hW => (hW.cell (p := ⟨g, 1, none⟩) hgl).trans hg1
  have HC2 : Hid (∀ W, Below w.heap.size w W → W.cell? ⟨g, 2, none⟩ = some (.slice C zs.length c3)) := Lib.hid fun W hW => (hW.cell (p := ⟨g, 2, none⟩) hgl).trans hg2
  have HEND : Hid (∀ v W, EOwn W w.heap.size v (xs ++ ys ++ zs) → Below w.heap.size w W → ∃ v', Ending.returned v = .returned v' ∧ EOwn W w.heap.size v' (xs ++ ys ++ zs) ∧ Below w.heap.size w W) := Lib.hid fun v W ho hb => ⟨v, rfl, ho, hb⟩
  clear h1 h2 h3 hg0 hg1 hg2
  go_enter Tryz.func68, Tryz.ntmps68
  go_wp2
  go_loopw [3, 11] (fun v3 v11 wr => ∃ (k : Nat) (z : Int), v11 = .int .i64 k ∧ k ≤ 3 ∧ v3 = .int .i64 z ∧ z = (sz4 xs.length ys.length zs.length k : Nat) ∧ Hid (w = wr)) (fun _ vi _ => 3 - (intOf vi).toNat)
  case atStart => exact ⟨0, 0, rfl, Nat.zero_le _, rfl, rfl, Lib.hid rfl⟩
  case round =>
    obtain ⟨k, z, rfl, hk, rfl, hz, HB⟩ := hrel
    obtain rfl := HB.out
    obtain rfl | rfl | rfl | rfl : k = 0 ∨ k = 1 ∨ k = 2 ∨ k = 3 := by omega
    · have x0 := HC0.out _ (Below.refl _ _)
      obtain rfl : z = 0 := hz
      have f1 : decide ((xs.length : Int) < 0) = false := by simp; try omega
      go_wp2
      go_roundw
      case rel => exact ⟨1, _, rfl, by omega, rfl, by simp [sz4]; try omega, Lib.hid (by trivial)⟩
      case measure => simp [intOf]
    · have x0 := HC1.out _ (Below.refl _ _)
      obtain rfl : z = (xs.length : Int) := hz
      have f1 : decide ((xs.length : Int) + (ys.length : Int) < 0) = false := by simp; try omega
      go_wp2
      go_roundw
      case rel => exact ⟨2, _, rfl, by omega, rfl, by simp [sz4]; try omega, Lib.hid (by trivial)⟩
      case measure => simp [intOf]
    · have x0 := HC2.out _ (Below.refl _ _)
      obtain rfl : z = ((xs.length + ys.length : Nat) : Int) := hz
      have f1 : decide ((xs.length : Int) + (ys.length : Int) + (zs.length : Int) < 0) = false := by simp; try omega
      go_wp2
      go_roundw
      case rel => exact ⟨3, _, rfl, by omega, rfl, by simp [sz4]; try omega, Lib.hid (by trivial)⟩
      case measure => simp [intOf]
    · obtain rfl : z = ((xs.length + ys.length + zs.length : Nat) : Int) := hz
      go_wp2_with fail
      go_fit (HG.out _)
      rintro e w1 ⟨v, rfl, ho, hb⟩
      have HO0 := Lib.hid (EOwn.empty ho)
      have HB0 := Lib.hid hb
      clear ho hb HG
      go_wp2
      go_loopw [6, 27] (fun v6 v27 wr => ∃ k : Nat, v27 = .int .i64 k ∧ k ≤ 3 ∧ Hid (EOwn wr w.heap.size v6 (pt4 xs ys zs k)) ∧ Hid (Below w.heap.size w wr)) (fun _ vi _ => 3 - (intOf vi).toNat)
      case atStart => exact ⟨0, rfl, Nat.zero_le _, HO0, HB0⟩
      case round =>
        obtain ⟨k, rfl, hk, HO, HB⟩ := hrel
        obtain rfl | rfl | rfl | rfl : k = 0 ∨ k = 1 ∨ k = 2 ∨ k = 3 := by omega
        · have x0 := HC0.out _ HB.out
          obtain ⟨v', w', hrun, hown, hg, _⟩ := EOwn.app HO.out c1 (HR1.out _ HB.out) (fun y hy => Apart.below HO.out.own (HP0.out y hy)) HB.out.size (by simp [pt4]; omega)
          have HRUN := Lib.hid hrun
          have HO2 : Hid (EOwn w' w.heap.size v' (pt4 xs ys zs 1)) := Lib.hid (by simpa [pt4] using hown)
          have HB2 : Hid (Below w.heap.size w w') := Lib.hid (HB.out.grown hg HB.out.size fun g e => (HO.out.own.lt g e).1)
          clear hrun hown hg
          go_wp2_with (at_builtin; refine wpList_gapp HRUN.out rfl rfl rfl rfl rfl ?_)
          go_roundw
          case rel => exact ⟨1, rfl, by omega, HO2, HB2⟩
          case measure => simp [intOf]
        · have x0 := HC1.out _ HB.out
          obtain ⟨v', w', hrun, hown, hg, _⟩ := EOwn.app HO.out c2 (HR2.out _ HB.out) (fun y hy => Apart.below HO.out.own (HP1.out y hy)) HB.out.size (by simp [pt4]; omega)
          have HRUN := Lib.hid hrun
          have HO2 : Hid (EOwn w' w.heap.size v' (pt4 xs ys zs 2)) := Lib.hid (by simpa [pt4] using hown)
          have HB2 : Hid (Below w.heap.size w w') := Lib.hid (HB.out.grown hg HB.out.size fun g e => (HO.out.own.lt g e).1)
          clear hrun hown hg
          go_wp2_with (at_builtin; refine wpList_gapp HRUN.out rfl rfl rfl rfl rfl ?_)
          go_roundw
          case rel => exact ⟨2, rfl, by omega, HO2, HB2⟩
          case measure => simp [intOf]
        · have x0 := HC2.out _ HB.out
          obtain ⟨v', w', hrun, hown, hg, _⟩ := EOwn.app HO.out c3 (HR3.out _ HB.out) (fun y hy => Apart.below HO.out.own (HP2.out y hy)) HB.out.size (by simp [pt4]; omega)
          have HRUN := Lib.hid hrun
          have HO2 : Hid (EOwn w' w.heap.size v' (pt4 xs ys zs 3)) := Lib.hid (by simpa [pt4] using hown)
          have HB2 : Hid (Below w.heap.size w w') := Lib.hid (HB.out.grown hg HB.out.size fun g e => (HO.out.own.lt g e).1)
          clear hrun hown hg
          go_wp2_with (at_builtin; refine wpList_gapp HRUN.out rfl rfl rfl rfl rfl ?_)
          go_roundw
          case rel => exact ⟨3, rfl, by omega, HO2, HB2⟩
          case measure => simp [intOf]
        · go_wp2
          go_ret
          exact HEND.out _ _ HO.out HB.out
end Go.Proofs.YtndppbfdcceflaaGreatDoor


namespace Go.Proofs.YtndppbfdcceflaaGreatDoor
open Go.RowKit

def insR (es : List GE) (e : GE) : List GE := if insB es e then insL es e else []
theorem insK_of {es : List GE} {e : GE} : insK es e = if fidx (plt e.node.id) es < 0 then es.length else (fidx (plt e.node.id) es).toNat := by
  unfold insK fidx
  have := List.findIdx_le_length (p := plt e.node.id) (xs := es)
  split
  · rw [if_neg (by omega)]; simp
  · rw [if_pos (by decide)]; omega
theorem insK_le (es : List GE) (e : GE) : insK es e ≤ es.length := List.findIdx_le_length
set_option maxRecDepth 20000 in
set_option maxHeartbeats 2000000 in
theorem pInsE_any (xs : List GV) (A : Option Addr) (c : Nat) (x : GV) (w : World) (h1 : ERow w w.heap.size A xs) (hcap : xs.length ≤ c) (hx : PW w w.heap.size x) (hl : xs.length ≤ 10000) (hp : ∀ y ∈ xs, y.e.node.path.length ≤ 17179869184) (hpx : x.e.node.path.length ≤ 17179869184) :
    Calls Tryz.prog 29 #[.slice A xs.length c, x.val] w (OptEnd (insR (xs.map GV.e) x.e) (insB (xs.map GV.e) x.e) w) := by
  have HFI := Lib.hid fun W (hW : Below w.heap.size w W) => pFindE_any xs A c x.e.node.id W (h1.row.next hW) (by omega)
  have HAT := Lib.hid fun W (hW : Below w.heap.size w W) => pAtE_any xs A c x.e.core x.e.slot W (h1.row.next hW) (by omega)
  have HIX := Lib.hid fun W (hW : Below w.heap.size w W) (hg : EB W w.heap.size x) => idxIns_any (plt x.e.node.id) (.pointer (some ⟨w.heap.size, 0, none⟩)) xs A c W (h1.row.next hW) (by omega) fun W' hW' k hk => cIns_any xs[k] _ x W' (hg.next hW')
  have HN := Lib.hid (EB.new w x)
  have HIK := Lib.hid (insK_of (es := xs.map GV.e) (e := x.e))
  have HLE := Lib.hid (insK_le (xs.map GV.e) x.e)
  have HIB : Hid (insB (xs.map GV.e) x.e = (decide (fidx (pid x.e.node.id) (xs.map GV.e) < 0) && decide (fidx (pat x.e.core x.e.slot) (xs.map GV.e) < 0))) := Lib.hid rfl
  have HEND0 : Hid (insB (xs.map GV.e) x.e = false → ∀ W, Below w.heap.size w W → OptEnd (insR (xs.map GV.e) x.e) (insB (xs.map GV.e) x.e) w (.returned (.tuple #[.slice none 0 0, .bool false])) W) := Lib.hid fun hb W hW => by
    unfold insR
    rw [hb]
    exact ⟨_, [], rfl, EOwn.nil _ _, rfl, hW⟩
  have HEND1 : Hid (insB (xs.map GV.e) x.e = true → ∀ v ys W, EOwn W w.heap.size v ys → ys.map GV.e = insL (xs.map GV.e) x.e → Below w.heap.size w W → OptEnd (insR (xs.map GV.e) x.e) (insB (xs.map GV.e) x.e) w (.returned (.tuple #[v, .bool true])) W) := Lib.hid fun hb v ys W h1 h2 h3 => by
    unfold insR
    rw [hb]
    exact ⟨v, ys, rfl, h1, h2, h3⟩
  have HIL : Hid (insL (xs.map GV.e) x.e = (xs.take (insK (xs.map GV.e) x.e) ++ [x] ++ xs.drop (insK (xs.map GV.e) x.e)).map GV.e) := Lib.hid (by
    unfold insL
    simp [List.map_take, List.map_drop])
  rw [List.length_map] at HIK HLE
  have HPT : Hid (∀ k, ∀ y ∈ xs.take k ++ [x] ++ xs.drop k, y.e.node.path.length ≤ 17179869184) := Lib.hid fun k y hy => by
    simp only [List.mem_append, List.mem_singleton] at hy
    rcases hy with (hy | rfl) | hy
    · exact hp y (List.mem_of_mem_take hy)
    · exact hpx
    · exact hp y (List.mem_of_mem_drop hy)
  have H1 := Lib.hid h1
  have HXP := Lib.hid hx
  generalize OptEnd (insR (xs.map GV.e) x.e) (insB (xs.map GV.e) x.e) w = EE at *
  generalize insL (xs.map GV.e) x.e = RL at *
  unfold findV at HFI HAT
  generalize fidx (pid x.e.node.id) (xs.map GV.e) = r1 at *
  generalize fidx (pat x.e.core x.e.slot) (xs.map GV.e) = r2 at *
  generalize fidx (plt x.e.node.id) (xs.map GV.e) = r3 at *
  generalize insB (xs.map GV.e) x.e = ib at *
  generalize insK (xs.map GV.e) x.e = ki at *
  have HB0 := Lib.hid (show Below w.heap.size w (w.alloc (.cells x.cells.toArray 32)) from belt (Below.refl _ w) _)
  simp only [GV.cells] at HB0
  clear h1 hp hx
  obtain ⟨⟨xc, xs', ⟨⟨i0, i1, i2⟩, xp, ⟨a0, a1, a2, a3, a4, a5, a6⟩⟩⟩, xA, xcp⟩ := x
  simp only [GV.val, GId.val] at *
  obtain ⟨g0, g1, g2, g3, g4, g5, g6, g7, g8, g9, g10, g11, g12⟩ := HN.out.cells
  simp only [Nat.zero_add] at g0 g1 g2 g3 g4 g5 g6 g7 g8 g9 g10 g11 g12
  go_enter Tryz.func29, Tryz.ntmps29
  go_wp2_with fail
  go_fit (HFI.out _ HB0.out)
  rintro e w1 ⟨rfl, hb1⟩
  have HB1 := Lib.hid (beln HB0.out hb1)
  have HN1 := Lib.hid (HN.out.next hb1)
  clear hb1 HFI HN g0 g1 g2 g3 g4 g5 g6 g7 g8 g9 g10 g11 g12
  obtain ⟨g0, g1, g2, g3, g4, g5, g6, g7, g8, g9, g10, g11, g12⟩ := HN1.out.cells
  simp only [Nat.zero_add] at g0 g1 g2 g3 g4 g5 g6 g7 g8 g9 g10 g11 g12
  go_wp2_with fail
  go_fit (HAT.out _ HB1.out)
  rintro e w2 ⟨rfl, hb2⟩
  have HB2 := Lib.hid (beln HB1.out hb2)
  have HN2 := Lib.hid (HN1.out.next hb2)
  clear hb2 HAT HN1 HB1 HB0 g0 g1 g2 g3 g4 g5 g6 g7 g8 g9 g10 g11 g12
  rcases Int.lt_or_le r1 0 with hr1 | hr1
  rotate_left
  · have d1 : decide (0 ≤ r1) = true := by simpa using hr1
    have HF := Lib.hid (HEND0.out (by rw [HIB.out]; have : decide (r1 < 0) = false := by simp; omega
                                      rw [this]; rfl))
    rw [d1]
    clear hr1 d1
    go_wp2
    exact HF.out _ HB2.out
  rcases Int.lt_or_le r2 0 with hr2 | hr2
  rotate_left
  · have d1 : decide (0 ≤ r1) = false := by simp; omega
    have d2 : decide (0 ≤ r2) = true := by simpa using hr2
    have HF := Lib.hid (HEND0.out (by rw [HIB.out]; have : decide (r2 < 0) = false := by simp; omega
                                      rw [this, Bool.and_false]))
    rw [d1, d2]
    clear hr1 hr2 d1 d2
    go_wp2
    exact HF.out _ HB2.out
  have HF := Lib.hid (HEND1.out (by rw [HIB.out]; simp; omega))
  have d1 : decide (0 ≤ r1) = false := by simp; omega
  have d2 : decide (0 ≤ r2) = false := by simp; omega
  rw [d1, d2]
  clear hr1 hr2 d1 d2 HEND0 HEND1 HIB
  go_wp2_with fail
  go_fit (HIX.out _ HB2.out HN2.out)
  rintro e w3 ⟨rfl, hb3⟩
  have HB3 := Lib.hid (beln HB2.out hb3)
  have HN3 := Lib.hid (HN2.out.next hb3)
  clear hb3 HIX HN2 HB2
  have HKI : Hid ((r3 < 0 ∧ ki = xs.length) ∨ (0 ≤ r3 ∧ r3 = (ki : Int))) := Lib.hid (by
    have h := HIK.out
    split at h
    · exact .inl ⟨by assumption, h⟩
    · exact .inr (by omega))
  have HKL := HLE.out
  clear HIK HLE
  rcases HKI.out with ⟨hr3, rfl⟩ | ⟨hr3, rfl⟩
  · clear HKI
    obtain ⟨nk, hnk⟩ : ∃ nk, nk = xs.length - xs.length := ⟨_, rfl⟩
    have HRG : Hid (∀ W, Below w.heap.size w W → ERow W W.heap.size A (xs.take xs.length)) := Lib.hid fun W hW => (H1.out.next hW).take xs.length
    have HRD : Hid (∀ W, Below w.heap.size w W → ERow W W.heap.size (cutE A c xs.length) (xs.drop xs.length)) := Lib.hid fun W hW => (H1.out.next hW).drop hcap xs.length
    have HT1 : Hid (∀ W : World, (Instr.sliceAt 22 (.slice A xs.length c) none (some (.int .i64 (xs.length : Int))) none).run Tryz.prog W = .ok (.slice A xs.length c) W) := Lib.hid fun W => run_takeE W A xs.length c xs.length (by omega)
    have HT2 : Hid (∀ W : World, (Instr.slice 22 (.slice A xs.length c) none (some (.int .i64 (xs.length : Int))) none).run Tryz.prog W = .ok (.slice A xs.length c) W) := Lib.hid fun W => by
      have h := HT1.out W
      rw [run_sliceAt_slice _ _ _ _ _ _ ent_elem] at h
      exact h
    have HD1 : Hid (∀ W : World, (Instr.sliceAt 22 (.slice A xs.length c) (some (.int .i64 (xs.length : Int))) none none).run Tryz.prog W = .ok (.slice (cutE A c xs.length) nk (c - xs.length)) W) := Lib.hid fun W => by rw [hnk]; exact run_dropE W A xs.length c xs.length (by omega)
    have HD2 : Hid (∀ W : World, (Instr.slice 22 (.slice A xs.length c) (some (.int .i64 (xs.length : Int))) none none).run Tryz.prog W = .ok (.slice (cutE A c xs.length) nk (c - xs.length)) W) := Lib.hid fun W => by
      have h := HD1.out W
      rw [run_sliceAt_slice _ _ _ _ _ _ ent_elem] at h
      exact h
    have HL1 : Hid ((xs.take xs.length).length = xs.length) := Lib.hid (by rw [List.length_take]; omega)
    have HL2 : Hid ((xs.drop xs.length).length = nk) := Lib.hid (by rw [List.length_drop, hnk])
    have HCT := Lib.hid fun W g (hW : Below w.heap.size w W) (hB : ERow W W.heap.size (some ⟨g, 0, none⟩) [(⟨⟨xc, xs', ⟨⟨i0, i1, i2⟩, xp, ⟨a0, a1, a2, a3, a4, a5, a6⟩⟩⟩, xA, xcp⟩ : GV)]) g' (hg0 : W.cell? ⟨g', 0, none⟩ = some (.slice A (xs.take xs.length).length c)) (hg1 : W.cell? ⟨g', 1, none⟩ = some (.slice (some ⟨g, 0, none⟩) 1 1)) (hg2 : W.cell? ⟨g', 2, none⟩ = some (.slice (cutE A c xs.length) (xs.drop xs.length).length (c - xs.length))) (hgl : g' < W.heap.size) => catE_any (xs.take xs.length) [(⟨⟨xc, xs', ⟨⟨i0, i1, i2⟩, xp, ⟨a0, a1, a2, a3, a4, a5, a6⟩⟩⟩, xA, xcp⟩ : GV)] (xs.drop xs.length) A (some ⟨g, 0, none⟩) (cutE A c xs.length) c 1 (c - xs.length) g' 3 W hg0 hg1 hg2 hgl (HRG.out W hW) hB (HRD.out W hW) (by first | (simp; done) | (simp; omega)) (by rw [HL1.out, HL2.out, hnk]; simp; omega)
    rw [HL1.out, HL2.out] at HCT
    have HON := Lib.hid fun A' c' base W (h : EOwn W base (.slice A' (xs.take xs.length ++ [(⟨⟨xc, xs', ⟨⟨i0, i1, i2⟩, xp, ⟨a0, a1, a2, a3, a4, a5, a6⟩⟩⟩, xA, xcp⟩ : GV)] ++ xs.drop xs.length).length c') (xs.take xs.length ++ [(⟨⟨xc, xs', ⟨⟨i0, i1, i2⟩, xp, ⟨a0, a1, a2, a3, a4, a5, a6⟩⟩⟩, xA, xcp⟩ : GV)] ++ xs.drop xs.length)) (hb : base ≤ W.heap.size) => pOwn_any (xs.take xs.length ++ [(⟨⟨xc, xs', ⟨⟨i0, i1, i2⟩, xp, ⟨a0, a1, a2, a3, a4, a5, a6⟩⟩⟩, xA, xcp⟩ : GV)] ++ xs.drop xs.length) A' c' base W h hb (by simp; omega) (HPT.out xs.length)
    generalize hzs : xs.take xs.length ++ [(⟨⟨xc, xs', ⟨⟨i0, i1, i2⟩, xp, ⟨a0, a1, a2, a3, a4, a5, a6⟩⟩⟩, xA, xcp⟩ : GV)] ++ xs.drop xs.length = zs at *
    clear hzs hnk
    have HM3 := HB3.out.size
    have hgl : w.heap.size < w3.heap.size := HN3.out.lt
    obtain ⟨g0, g1, g2, g3, g4, g5, g6, g7, g8, g9, g10, g11, g12⟩ := HN3.out.cells
    simp only [Nat.zero_add] at g0 g1 g2 g3 g4 g5 g6 g7 g8 g9 g10 g11 g12
    go_upto_region 8 with fail
    have hS : Below w3.heap.size w3 w3.drew := (Below.refl _ w3).drew
    have hS0 := hS
    have hz0 : ¬ ((xs.length : Int) < 0) := by omega
    refine wp_region_growS (S := fun W => Below w3.heap.size w3 W) [(0, true), (1, true), (2, true), (3, true), (5, true), (6, true), (7, true), (4, false), (8, false), (9, false), (10, false), (11, true), (12, true)] (by kernel_rfl) (by kernel_rfl) (by kernel_rfl) (by kernel_rfl) (by intro c a d v w h; cases d <;> exact h) hS ?_
    clear hS0
    generalize w3.drew = w4 at *
    iterate 7
      (first
        | (refine wpGrowS_float (v := ?_) (by simp only [List.getElem?_toArray, List.getElem?_cons_succ, List.getElem?_cons_zero]; rfl) (by rfl) ?_ ?_
           rotate_left
           · (intro W hW; have t0 := (hW.cell (p := ⟨w.heap.size, 0, none⟩) hgl).trans g0; have t1 := (hW.cell (p := ⟨w.heap.size, 1, none⟩) hgl).trans g1; have t2 := (hW.cell (p := ⟨w.heap.size, 2, none⟩) hgl).trans g2; have t3 := (hW.cell (p := ⟨w.heap.size, 3, none⟩) hgl).trans g3; have t4 := (hW.cell (p := ⟨w.heap.size, 4, none⟩) hgl).trans g4; have t5 := (hW.cell (p := ⟨w.heap.size, 5, none⟩) hgl).trans g5; have t6 := (hW.cell (p := ⟨w.heap.size, 6, none⟩) hgl).trans g6; have t7 := (hW.cell (p := ⟨w.heap.size, 7, none⟩) hgl).trans g7; have t8 := (hW.cell (p := ⟨w.heap.size, 8, none⟩) hgl).trans g8; have t9 := (hW.cell (p := ⟨w.heap.size, 9, none⟩) hgl).trans g9; have t10 := (hW.cell (p := ⟨w.heap.size, 10, none⟩) hgl).trans g10; have t11 := (hW.cell (p := ⟨w.heap.size, 11, none⟩) hgl).trans g11; have t12 := (hW.cell (p := ⟨w.heap.size, 12, none⟩) hgl).trans g12; have k1 := fun W => HT1.out W; have k2 := fun W => HT2.out W; have k3 := fun W => HD1.out W; have k4 := fun W => HD2.out W; (try simp only at *); go_simp; try with_reducible rfl)
           simp only [Act.put, List.setIfInBounds_toArray, List.set_cons_zero, List.set_cons_succ])
        | (refine wpGrowS_skip (by simp only [List.getElem?_toArray, List.getElem?_cons_succ, List.getElem?_cons_zero]; rfl) (by rfl) ?_
           simp only [Act.put, List.setIfInBounds_toArray, List.set_cons_zero, List.set_cons_succ]))
    refine wpGrowS_call (by simp only [List.getElem?_toArray, List.getElem?_cons_succ, List.getElem?_cons_zero]; rfl) (by rfl) fun K hK => ?_
    go_simp
    have hSb : Below w3.heap.size w3 (w4.alloc (.cells #[.int .i64 xc, .int .i64 xs', .int .i64 i0, .int .i64 i1, .int .i64 i2, .slice xA xp.length xcp, .int .i64 a0, .int .i64 a1, .int .i64 a2, .int .i64 a3, .int .i64 a4, .int .i64 a5, .bool a6] 32)) := belt hS _
    have hlr : ERow (w4.alloc (.cells #[.int .i64 xc, .int .i64 xs', .int .i64 i0, .int .i64 i1, .int .i64 i2, .slice xA xp.length xcp, .int .i64 a0, .int .i64 a1, .int .i64 a2, .int .i64 a3, .int .i64 a4, .int .i64 a5, .bool a6] 32)) (w4.alloc (.cells #[.int .i64 xc, .int .i64 xs', .int .i64 i0, .int .i64 i1, .int .i64 i2, .slice xA xp.length xcp, .int .i64 a0, .int .i64 a1, .int .i64 a2, .int .i64 a3, .int .i64 a4, .int .i64 a5, .bool a6] 32)).heap.size (some ⟨w4.heap.size, 0, none⟩) [(⟨⟨xc, xs', ⟨⟨i0, i1, i2⟩, xp, ⟨a0, a1, a2, a3, a4, a5, a6⟩⟩⟩, xA, xcp⟩ : GV)] := by
      have h := lit_ent w4 (⟨⟨xc, xs', ⟨⟨i0, i1, i2⟩, xp, ⟨a0, a1, a2, a3, a4, a5, a6⟩⟩⟩, xA, xcp⟩ : GV) (HXP.out.next (beln HB3.out hS))
      simpa using h
    refine hK _ _ hSb ?_
    clear hK K
    try simp only [Act.put, List.setIfInBounds_toArray, List.set_cons_zero, List.set_cons_succ]
    refine wpGrowS_call (by simp only [List.getElem?_toArray, List.getElem?_cons_succ, List.getElem?_cons_zero]; rfl) (by rfl) fun K hK => ?_
    go_simp
    have hS2 : Below w3.heap.size w3 ((w4.alloc (.cells #[.int .i64 xc, .int .i64 xs', .int .i64 i0, .int .i64 i1, .int .i64 i2, .slice xA xp.length xcp, .int .i64 a0, .int .i64 a1, .int .i64 a2, .int .i64 a3, .int .i64 a4, .int .i64 a5, .bool a6] 32)).alloc (.cells #[.slice A xs.length c, .slice (some ⟨w4.heap.size, 0, none⟩) 1 1, .slice (cutE A c xs.length) nk (c - xs.length)] 22)) := belt hSb _
    have hx2 : ((w4.alloc (.cells #[.int .i64 xc, .int .i64 xs', .int .i64 i0, .int .i64 i1, .int .i64 i2, .slice xA xp.length xcp, .int .i64 a0, .int .i64 a1, .int .i64 a2, .int .i64 a3, .int .i64 a4, .int .i64 a5, .bool a6] 32)).alloc (.cells #[.slice A xs.length c, .slice (some ⟨w4.heap.size, 0, none⟩) 1 1, .slice (cutE A c xs.length) nk (c - xs.length)] 22)).heap[w4.heap.size + 1]? = some (.cells #[.slice A xs.length c, .slice (some ⟨w4.heap.size, 0, none⟩) 1 1, .slice (cutE A c xs.length) nk (c - xs.length)] 22 (0, 0)) := by
      have h := heap_alloc_new (w4.alloc (.cells #[.int .i64 xc, .int .i64 xs', .int .i64 i0, .int .i64 i1, .int .i64 i2, .slice xA xp.length xcp, .int .i64 a0, .int .i64 a1, .int .i64 a2, .int .i64 a3, .int .i64 a4, .int .i64 a5, .bool a6] 32)) (.cells #[.slice A xs.length c, .slice (some ⟨w4.heap.size, 0, none⟩) 1 1, .slice (cutE A c xs.length) nk (c - xs.length)] 22)
      simpa using h
    have hq0 : ((w4.alloc (.cells #[.int .i64 xc, .int .i64 xs', .int .i64 i0, .int .i64 i1, .int .i64 i2, .slice xA xp.length xcp, .int .i64 a0, .int .i64 a1, .int .i64 a2, .int .i64 a3, .int .i64 a4, .int .i64 a5, .bool a6] 32)).alloc (.cells #[.slice A xs.length c, .slice (some ⟨w4.heap.size, 0, none⟩) 1 1, .slice (cutE A c xs.length) nk (c - xs.length)] 22)).cell? ⟨w4.heap.size + 1, 0, none⟩ = some (.slice A xs.length c) := by rw [Lib.cell_of_heap hx2]; rfl
    have hq1 : ((w4.alloc (.cells #[.int .i64 xc, .int .i64 xs', .int .i64 i0, .int .i64 i1, .int .i64 i2, .slice xA xp.length xcp, .int .i64 a0, .int .i64 a1, .int .i64 a2, .int .i64 a3, .int .i64 a4, .int .i64 a5, .bool a6] 32)).alloc (.cells #[.slice A xs.length c, .slice (some ⟨w4.heap.size, 0, none⟩) 1 1, .slice (cutE A c xs.length) nk (c - xs.length)] 22)).cell? ⟨w4.heap.size + 1, 1, none⟩ = some (.slice (some ⟨w4.heap.size, 0, none⟩) 1 1) := by rw [Lib.cell_of_heap hx2]; rfl
    have hq2 : ((w4.alloc (.cells #[.int .i64 xc, .int .i64 xs', .int .i64 i0, .int .i64 i1, .int .i64 i2, .slice xA xp.length xcp, .int .i64 a0, .int .i64 a1, .int .i64 a2, .int .i64 a3, .int .i64 a4, .int .i64 a5, .bool a6] 32)).alloc (.cells #[.slice A xs.length c, .slice (some ⟨w4.heap.size, 0, none⟩) 1 1, .slice (cutE A c xs.length) nk (c - xs.length)] 22)).cell? ⟨w4.heap.size + 1, 2, none⟩ = some (.slice (cutE A c xs.length) nk (c - xs.length)) := by rw [Lib.cell_of_heap hx2]; rfl
    have hql : w4.heap.size + 1 < ((w4.alloc (.cells #[.int .i64 xc, .int .i64 xs', .int .i64 i0, .int .i64 i1, .int .i64 i2, .slice xA xp.length xcp, .int .i64 a0, .int .i64 a1, .int .i64 a2, .int .i64 a3, .int .i64 a4, .int .i64 a5, .bool a6] 32)).alloc (.cells #[.slice A xs.length c, .slice (some ⟨w4.heap.size, 0, none⟩) 1 1, .slice (cutE A c xs.length) nk (c - xs.length)] 22)).heap.size := by simp
    have hlr2 := hlr.next (belt (Below.refl _ (w4.alloc (.cells #[.int .i64 xc, .int .i64 xs', .int .i64 i0, .int .i64 i1, .int .i64 i2, .slice xA xp.length xcp, .int .i64 a0, .int .i64 a1, .int .i64 a2, .int .i64 a3, .int .i64 a4, .int .i64 a5, .bool a6] 32))) (.cells #[.slice A xs.length c, .slice (some ⟨w4.heap.size, 0, none⟩) 1 1, .slice (cutE A c xs.length) nk (c - xs.length)] 22))
    have HC2 := Lib.hid (HCT.out _ _ (beln HB3.out hS2) hlr2 _ hq0 hq1 hq2 hql)
    obtain ⟨W2S, hW2S⟩ : ∃ n, n = ((w4.alloc (.cells #[.int .i64 xc, .int .i64 xs', .int .i64 i0, .int .i64 i1, .int .i64 i2, .slice xA xp.length xcp, .int .i64 a0, .int .i64 a1, .int .i64 a2, .int .i64 a3, .int .i64 a4, .int .i64 a5, .bool a6] 32)).alloc (.cells #[.slice A xs.length c, .slice (some ⟨w4.heap.size, 0, none⟩) 1 1, .slice (cutE A c xs.length) nk (c - xs.length)] 22)).heap.size := ⟨_, rfl⟩
    have hW3 : w3.heap.size ≤ W2S := by rw [hW2S]; exact hS2.size
    rw [← hW2S] at HC2
    clear hx2 hq0 hq1 hq2 hql hlr hlr2
    refine hK _ _ hS2 ?_
    clear hK K
    try simp only [Act.put, List.setIfInBounds_toArray, List.set_cons_zero, List.set_cons_succ]
    refine wpGrowS_call (by simp only [List.getElem?_toArray, List.getElem?_cons_succ, List.getElem?_cons_zero]; rfl) (by rfl) fun K hK => ?_
    go_simp
    go_fit HC2.out
    rintro e w7 ⟨v7, rfl, ho7, hb7⟩
    have hS7 : Below w3.heap.size w3 w7 := hS2.trans (hb7.mono hW3)
    obtain ⟨A7, c7, rfl, _, _, _⟩ := ho7.erow
    have HO7 := Lib.hid (HON.out A7 c7 W2S w7 ho7 (by rw [hW2S] at hb7 ⊢; exact hb7.size))
    clear ho7 hb7 HC2
    go_simp
    refine hK _ _ hS7 ?_
    clear hK K
    try simp only [Act.put, List.setIfInBounds_toArray, List.set_cons_zero, List.set_cons_succ]
    refine wpGrowS_call (by simp only [List.getElem?_toArray, List.getElem?_cons_succ, List.getElem?_cons_zero]; rfl) (by rfl) fun K hK => ?_
    go_simp
    go_fit HO7.out
    rintro e w8 ⟨rfl, ys8, ho8, hm8, hb8⟩
    have hS8 : Below w3.heap.size w3 w8 := hS7.trans (hb8.mono hW3)
    clear hb8 HO7
    go_simp
    refine hK _ _ hS8 ?_
    clear hK K
    try simp only [Act.put, List.setIfInBounds_toArray, List.set_cons_zero, List.set_cons_succ]
    iterate 2
      (first
        | (refine wpGrowS_float (v := ?_) (by simp only [List.getElem?_toArray, List.getElem?_cons_succ, List.getElem?_cons_zero]; rfl) (by rfl) ?_ ?_
           rotate_left
           · (intro W hW; have t0 := (hW.cell (p := ⟨w.heap.size, 0, none⟩) hgl).trans g0; have t1 := (hW.cell (p := ⟨w.heap.size, 1, none⟩) hgl).trans g1; have t2 := (hW.cell (p := ⟨w.heap.size, 2, none⟩) hgl).trans g2; have t3 := (hW.cell (p := ⟨w.heap.size, 3, none⟩) hgl).trans g3; have t4 := (hW.cell (p := ⟨w.heap.size, 4, none⟩) hgl).trans g4; have t5 := (hW.cell (p := ⟨w.heap.size, 5, none⟩) hgl).trans g5; have t6 := (hW.cell (p := ⟨w.heap.size, 6, none⟩) hgl).trans g6; have t7 := (hW.cell (p := ⟨w.heap.size, 7, none⟩) hgl).trans g7; have t8 := (hW.cell (p := ⟨w.heap.size, 8, none⟩) hgl).trans g8; have t9 := (hW.cell (p := ⟨w.heap.size, 9, none⟩) hgl).trans g9; have t10 := (hW.cell (p := ⟨w.heap.size, 10, none⟩) hgl).trans g10; have t11 := (hW.cell (p := ⟨w.heap.size, 11, none⟩) hgl).trans g11; have t12 := (hW.cell (p := ⟨w.heap.size, 12, none⟩) hgl).trans g12; have k1 := fun W => HT1.out W; have k2 := fun W => HT2.out W; have k3 := fun W => HD1.out W; have k4 := fun W => HD2.out W; (try simp only at *); go_simp; try with_reducible rfl)
           simp only [Act.put, List.setIfInBounds_toArray, List.set_cons_zero, List.set_cons_succ])
        | (refine wpGrowS_skip (by simp only [List.getElem?_toArray, List.getElem?_cons_succ, List.getElem?_cons_zero]; rfl) (by rfl) ?_
           simp only [Act.put, List.setIfInBounds_toArray, List.set_cons_zero, List.set_cons_succ]))
    refine wpGrowS_nil ?_
    have HBF : Hid (Below w.heap.size w w8) := Lib.hid (beln HB3.out hS8)
    have HOF := Lib.hid (ho8.low (show w.heap.size ≤ W2S by have := HB3.out.size; omega))
    have HMF : Hid (ys8.map GV.e = RL) := Lib.hid (by rw [hm8, HIL.out])
    clear hS hSb hS2 hS7 hS8 ho8 hm8 g0 g1 g2 g3 g4 g5 g6 g7 g8 g9 g10 g11 g12
    go_wp2
    exact HF.out _ _ _ HOF.out HMF.out HBF.out
  · clear HKI
    obtain ⟨nk, hnk⟩ : ∃ nk, nk = xs.length - ki := ⟨_, rfl⟩
    have HRG : Hid (∀ W, Below w.heap.size w W → ERow W W.heap.size A (xs.take ki)) := Lib.hid fun W hW => (H1.out.next hW).take ki
    have HRD : Hid (∀ W, Below w.heap.size w W → ERow W W.heap.size (cutE A c ki) (xs.drop ki)) := Lib.hid fun W hW => (H1.out.next hW).drop hcap ki
    have HT1 : Hid (∀ W : World, (Instr.sliceAt 22 (.slice A xs.length c) none (some (.int .i64 (ki : Int))) none).run Tryz.prog W = .ok (.slice A ki c) W) := Lib.hid fun W => run_takeE W A xs.length c ki (by omega)
    have HT2 : Hid (∀ W : World, (Instr.slice 22 (.slice A xs.length c) none (some (.int .i64 (ki : Int))) none).run Tryz.prog W = .ok (.slice A ki c) W) := Lib.hid fun W => by
      have h := HT1.out W
      rw [run_sliceAt_slice _ _ _ _ _ _ ent_elem] at h
      exact h
    have HD1 : Hid (∀ W : World, (Instr.sliceAt 22 (.slice A xs.length c) (some (.int .i64 (ki : Int))) none none).run Tryz.prog W = .ok (.slice (cutE A c ki) nk (c - ki)) W) := Lib.hid fun W => by rw [hnk]; exact run_dropE W A xs.length c ki (by omega)
    have HD2 : Hid (∀ W : World, (Instr.slice 22 (.slice A xs.length c) (some (.int .i64 (ki : Int))) none none).run Tryz.prog W = .ok (.slice (cutE A c ki) nk (c - ki)) W) := Lib.hid fun W => by
      have h := HD1.out W
      rw [run_sliceAt_slice _ _ _ _ _ _ ent_elem] at h
      exact h
    have HL1 : Hid ((xs.take ki).length = ki) := Lib.hid (by rw [List.length_take]; omega)
    have HL2 : Hid ((xs.drop ki).length = nk) := Lib.hid (by rw [List.length_drop, hnk])
    have HCT := Lib.hid fun W g (hW : Below w.heap.size w W) (hB : ERow W W.heap.size (some ⟨g, 0, none⟩) [(⟨⟨xc, xs', ⟨⟨i0, i1, i2⟩, xp, ⟨a0, a1, a2, a3, a4, a5, a6⟩⟩⟩, xA, xcp⟩ : GV)]) g' (hg0 : W.cell? ⟨g', 0, none⟩ = some (.slice A (xs.take ki).length c)) (hg1 : W.cell? ⟨g', 1, none⟩ = some (.slice (some ⟨g, 0, none⟩) 1 1)) (hg2 : W.cell? ⟨g', 2, none⟩ = some (.slice (cutE A c ki) (xs.drop ki).length (c - ki))) (hgl : g' < W.heap.size) => catE_any (xs.take ki) [(⟨⟨xc, xs', ⟨⟨i0, i1, i2⟩, xp, ⟨a0, a1, a2, a3, a4, a5, a6⟩⟩⟩, xA, xcp⟩ : GV)] (xs.drop ki) A (some ⟨g, 0, none⟩) (cutE A c ki) c 1 (c - ki) g' 3 W hg0 hg1 hg2 hgl (HRG.out W hW) hB (HRD.out W hW) (by first | (simp; done) | (simp; omega)) (by rw [HL1.out, HL2.out, hnk]; simp; omega)
    rw [HL1.out, HL2.out] at HCT
    have HON := Lib.hid fun A' c' base W (h : EOwn W base (.slice A' (xs.take ki ++ [(⟨⟨xc, xs', ⟨⟨i0, i1, i2⟩, xp, ⟨a0, a1, a2, a3, a4, a5, a6⟩⟩⟩, xA, xcp⟩ : GV)] ++ xs.drop ki).length c') (xs.take ki ++ [(⟨⟨xc, xs', ⟨⟨i0, i1, i2⟩, xp, ⟨a0, a1, a2, a3, a4, a5, a6⟩⟩⟩, xA, xcp⟩ : GV)] ++ xs.drop ki)) (hb : base ≤ W.heap.size) => pOwn_any (xs.take ki ++ [(⟨⟨xc, xs', ⟨⟨i0, i1, i2⟩, xp, ⟨a0, a1, a2, a3, a4, a5, a6⟩⟩⟩, xA, xcp⟩ : GV)] ++ xs.drop ki) A' c' base W h hb (by simp; omega) (HPT.out ki)
    generalize hzs : xs.take ki ++ [(⟨⟨xc, xs', ⟨⟨i0, i1, i2⟩, xp, ⟨a0, a1, a2, a3, a4, a5, a6⟩⟩⟩, xA, xcp⟩ : GV)] ++ xs.drop ki = zs at *
    clear hzs hnk
    have HM3 := HB3.out.size
    have hgl : w.heap.size < w3.heap.size := HN3.out.lt
    obtain ⟨g0, g1, g2, g3, g4, g5, g6, g7, g8, g9, g10, g11, g12⟩ := HN3.out.cells
    simp only [Nat.zero_add] at g0 g1 g2 g3 g4 g5 g6 g7 g8 g9 g10 g11 g12
    go_upto_region 8 with fail
    have hS : Below w3.heap.size w3 w3.drew := (Below.refl _ w3).drew
    have hS0 := hS
    have hz0 : ¬ ((ki : Int) < 0) := by omega
    refine wp_region_growS (S := fun W => Below w3.heap.size w3 W) [(0, true), (1, true), (2, true), (3, true), (5, true), (6, true), (7, true), (4, false), (8, false), (9, false), (10, false), (11, true), (12, true)] (by kernel_rfl) (by kernel_rfl) (by kernel_rfl) (by kernel_rfl) (by intro c a d v w h; cases d <;> exact h) hS ?_
    clear hS0
    generalize w3.drew = w4 at *
    iterate 7
      (first
        | (refine wpGrowS_float (v := ?_) (by simp only [List.getElem?_toArray, List.getElem?_cons_succ, List.getElem?_cons_zero]; rfl) (by rfl) ?_ ?_
           rotate_left
           · (intro W hW; have t0 := (hW.cell (p := ⟨w.heap.size, 0, none⟩) hgl).trans g0; have t1 := (hW.cell (p := ⟨w.heap.size, 1, none⟩) hgl).trans g1; have t2 := (hW.cell (p := ⟨w.heap.size, 2, none⟩) hgl).trans g2; have t3 := (hW.cell (p := ⟨w.heap.size, 3, none⟩) hgl).trans g3; have t4 := (hW.cell (p := ⟨w.heap.size, 4, none⟩) hgl).trans g4; have t5 := (hW.cell (p := ⟨w.heap.size, 5, none⟩) hgl).trans g5; have t6 := (hW.cell (p := ⟨w.heap.size, 6, none⟩) hgl).trans g6; have t7 := (hW.cell (p := ⟨w.heap.size, 7, none⟩) hgl).trans g7; have t8 := (hW.cell (p := ⟨w.heap.size, 8, none⟩) hgl).trans g8; have t9 := (hW.cell (p := ⟨w.heap.size, 9, none⟩) hgl).trans g9; have t10 := (hW.cell (p := ⟨w.heap.size, 10, none⟩) hgl).trans g10; have t11 := (hW.cell (p := ⟨w.heap.size, 11, none⟩) hgl).trans g11; have t12 := (hW.cell (p := ⟨w.heap.size, 12, none⟩) hgl).trans g12; have k1 := fun W => HT1.out W; have k2 := fun W => HT2.out W; have k3 := fun W => HD1.out W; have k4 := fun W => HD2.out W; (try simp only at *); go_simp; try with_reducible rfl)
           simp only [Act.put, List.setIfInBounds_toArray, List.set_cons_zero, List.set_cons_succ])
        | (refine wpGrowS_skip (by simp only [List.getElem?_toArray, List.getElem?_cons_succ, List.getElem?_cons_zero]; rfl) (by rfl) ?_
           simp only [Act.put, List.setIfInBounds_toArray, List.set_cons_zero, List.set_cons_succ]))
    refine wpGrowS_call (by simp only [List.getElem?_toArray, List.getElem?_cons_succ, List.getElem?_cons_zero]; rfl) (by rfl) fun K hK => ?_
    go_simp
    have hSb : Below w3.heap.size w3 (w4.alloc (.cells #[.int .i64 xc, .int .i64 xs', .int .i64 i0, .int .i64 i1, .int .i64 i2, .slice xA xp.length xcp, .int .i64 a0, .int .i64 a1, .int .i64 a2, .int .i64 a3, .int .i64 a4, .int .i64 a5, .bool a6] 32)) := belt hS _
    have hlr : ERow (w4.alloc (.cells #[.int .i64 xc, .int .i64 xs', .int .i64 i0, .int .i64 i1, .int .i64 i2, .slice xA xp.length xcp, .int .i64 a0, .int .i64 a1, .int .i64 a2, .int .i64 a3, .int .i64 a4, .int .i64 a5, .bool a6] 32)) (w4.alloc (.cells #[.int .i64 xc, .int .i64 xs', .int .i64 i0, .int .i64 i1, .int .i64 i2, .slice xA xp.length xcp, .int .i64 a0, .int .i64 a1, .int .i64 a2, .int .i64 a3, .int .i64 a4, .int .i64 a5, .bool a6] 32)).heap.size (some ⟨w4.heap.size, 0, none⟩) [(⟨⟨xc, xs', ⟨⟨i0, i1, i2⟩, xp, ⟨a0, a1, a2, a3, a4, a5, a6⟩⟩⟩, xA, xcp⟩ : GV)] := by
      have h := lit_ent w4 (⟨⟨xc, xs', ⟨⟨i0, i1, i2⟩, xp, ⟨a0, a1, a2, a3, a4, a5, a6⟩⟩⟩, xA, xcp⟩ : GV) (HXP.out.next (beln HB3.out hS))
      simpa using h
    refine hK _ _ hSb ?_
    clear hK K
    try simp only [Act.put, List.setIfInBounds_toArray, List.set_cons_zero, List.set_cons_succ]
    refine wpGrowS_call (by simp only [List.getElem?_toArray, List.getElem?_cons_succ, List.getElem?_cons_zero]; rfl) (by rfl) fun K hK => ?_
    go_simp
    have hS2 : Below w3.heap.size w3 ((w4.alloc (.cells #[.int .i64 xc, .int .i64 xs', .int .i64 i0, .int .i64 i1, .int .i64 i2, .slice xA xp.length xcp, .int .i64 a0, .int .i64 a1, .int .i64 a2, .int .i64 a3, .int .i64 a4, .int .i64 a5, .bool a6] 32)).alloc (.cells #[.slice A ki c, .slice (some ⟨w4.heap.size, 0, none⟩) 1 1, .slice (cutE A c ki) nk (c - ki)] 22)) := belt hSb _
    have hx2 : ((w4.alloc (.cells #[.int .i64 xc, .int .i64 xs', .int .i64 i0, .int .i64 i1, .int .i64 i2, .slice xA xp.length xcp, .int .i64 a0, .int .i64 a1, .int .i64 a2, .int .i64 a3, .int .i64 a4, .int .i64 a5, .bool a6] 32)).alloc (.cells #[.slice A ki c, .slice (some ⟨w4.heap.size, 0, none⟩) 1 1, .slice (cutE A c ki) nk (c - ki)] 22)).heap[w4.heap.size + 1]? = some (.cells #[.slice A ki c, .slice (some ⟨w4.heap.size, 0, none⟩) 1 1, .slice (cutE A c ki) nk (c - ki)] 22 (0, 0)) := by
      have h := heap_alloc_new (w4.alloc (.cells #[.int .i64 xc, .int .i64 xs', .int .i64 i0, .int .i64 i1, .int .i64 i2, .slice xA xp.length xcp, .int .i64 a0, .int .i64 a1, .int .i64 a2, .int .i64 a3, .int .i64 a4, .int .i64 a5, .bool a6] 32)) (.cells #[.slice A ki c, .slice (some ⟨w4.heap.size, 0, none⟩) 1 1, .slice (cutE A c ki) nk (c - ki)] 22)
      simpa using h
    have hq0 : ((w4.alloc (.cells #[.int .i64 xc, .int .i64 xs', .int .i64 i0, .int .i64 i1, .int .i64 i2, .slice xA xp.length xcp, .int .i64 a0, .int .i64 a1, .int .i64 a2, .int .i64 a3, .int .i64 a4, .int .i64 a5, .bool a6] 32)).alloc (.cells #[.slice A ki c, .slice (some ⟨w4.heap.size, 0, none⟩) 1 1, .slice (cutE A c ki) nk (c - ki)] 22)).cell? ⟨w4.heap.size + 1, 0, none⟩ = some (.slice A ki c) := by rw [Lib.cell_of_heap hx2]; rfl
    have hq1 : ((w4.alloc (.cells #[.int .i64 xc, .int .i64 xs', .int .i64 i0, .int .i64 i1, .int .i64 i2, .slice xA xp.length xcp, .int .i64 a0, .int .i64 a1, .int .i64 a2, .int .i64 a3, .int .i64 a4, .int .i64 a5, .bool a6] 32)).alloc (.cells #[.slice A ki c, .slice (some ⟨w4.heap.size, 0, none⟩) 1 1, .slice (cutE A c ki) nk (c - ki)] 22)).cell? ⟨w4.heap.size + 1, 1, none⟩ = some (.slice (some ⟨w4.heap.size, 0, none⟩) 1 1) := by rw [Lib.cell_of_heap hx2]; rfl
    have hq2 : ((w4.alloc (.cells #[.int .i64 xc, .int .i64 xs', .int .i64 i0, .int .i64 i1, .int .i64 i2, .slice xA xp.length xcp, .int .i64 a0, .int .i64 a1, .int .i64 a2, .int .i64 a3, .int .i64 a4, .int .i64 a5, .bool a6] 32)).alloc (.cells #[.slice A ki c, .slice (some ⟨w4.heap.size, 0, none⟩) 1 1, .slice (cutE A c ki) nk (c - ki)] 22)).cell? ⟨w4.heap.size + 1, 2, none⟩ = some (.slice (cutE A c ki) nk (c - ki)) := by rw [Lib.cell_of_heap hx2]; rfl
    have hql : w4.heap.size + 1 < ((w4.alloc (.cells #[.int .i64 xc, .int .i64 xs', .int .i64 i0, .int .i64 i1, .int .i64 i2, .slice xA xp.length xcp, .int .i64 a0, .int .i64 a1, .int .i64 a2, .int .i64 a3, .int .i64 a4, .int .i64 a5, .bool a6] 32)).alloc (.cells #[.slice A ki c, .slice (some ⟨w4.heap.size, 0, none⟩) 1 1, .slice (cutE A c ki) nk (c - ki)] 22)).heap.size := by simp
    have hlr2 := hlr.next (belt (Below.refl _ (w4.alloc (.cells #[.int .i64 xc, .int .i64 xs', .int .i64 i0, .int .i64 i1, .int .i64 i2, .slice xA xp.length xcp, .int .i64 a0, .int .i64 a1, .int .i64 a2, .int .i64 a3, .int .i64 a4, .int .i64 a5, .bool a6] 32))) (.cells #[.slice A ki c, .slice (some ⟨w4.heap.size, 0, none⟩) 1 1, .slice (cutE A c ki) nk (c - ki)] 22))
    have HC2 := Lib.hid (HCT.out _ _ (beln HB3.out hS2) hlr2 _ hq0 hq1 hq2 hql)
    obtain ⟨W2S, hW2S⟩ : ∃ n, n = ((w4.alloc (.cells #[.int .i64 xc, .int .i64 xs', .int .i64 i0, .int .i64 i1, .int .i64 i2, .slice xA xp.length xcp, .int .i64 a0, .int .i64 a1, .int .i64 a2, .int .i64 a3, .int .i64 a4, .int .i64 a5, .bool a6] 32)).alloc (.cells #[.slice A ki c, .slice (some ⟨w4.heap.size, 0, none⟩) 1 1, .slice (cutE A c ki) nk (c - ki)] 22)).heap.size := ⟨_, rfl⟩
    have hW3 : w3.heap.size ≤ W2S := by rw [hW2S]; exact hS2.size
    rw [← hW2S] at HC2
    clear hx2 hq0 hq1 hq2 hql hlr hlr2
    refine hK _ _ hS2 ?_
    clear hK K
    try simp only [Act.put, List.setIfInBounds_toArray, List.set_cons_zero, List.set_cons_succ]
    refine wpGrowS_call (by simp only [List.getElem?_toArray, List.getElem?_cons_succ, List.getElem?_cons_zero]; rfl) (by rfl) fun K hK => ?_
    go_simp
    go_fit HC2.out
    rintro e w7 ⟨v7, rfl, ho7, hb7⟩
    have hS7 : Below w3.heap.size w3 w7 := hS2.trans (hb7.mono hW3)
    obtain ⟨A7, c7, rfl, _, _, _⟩ := ho7.erow
    have HO7 := Lib.hid (HON.out A7 c7 W2S w7 ho7 (by rw [hW2S] at hb7 ⊢; exact hb7.size))
    clear ho7 hb7 HC2
    go_simp
    refine hK _ _ hS7 ?_
    clear hK K
    try simp only [Act.put, List.setIfInBounds_toArray, List.set_cons_zero, List.set_cons_succ]
    refine wpGrowS_call (by simp only [List.getElem?_toArray, List.getElem?_cons_succ, List.getElem?_cons_zero]; rfl) (by rfl) fun K hK => ?_
    go_simp
    go_fit HO7.out
    rintro e w8 ⟨rfl, ys8, ho8, hm8, hb8⟩
    have hS8 : Below w3.heap.size w3 w8 := hS7.trans (hb8.mono hW3)
    clear hb8 HO7
    go_simp
    refine hK _ _ hS8 ?_
    clear hK K
    try simp only [Act.put, List.setIfInBounds_toArray, List.set_cons_zero, List.set_cons_succ]
    iterate 2
      (first
        | (refine wpGrowS_float (v := ?_) (by simp only [List.getElem?_toArray, List.getElem?_cons_succ, List.getElem?_cons_zero]; rfl) (by rfl) ?_ ?_
           rotate_left
           · (intro W hW; have t0 := (hW.cell (p := ⟨w.heap.size, 0, none⟩) hgl).trans g0; have t1 := (hW.cell (p := ⟨w.heap.size, 1, none⟩) hgl).trans g1; have t2 := (hW.cell (p := ⟨w.heap.size, 2, none⟩) hgl).trans g2; have t3 := (hW.cell (p := ⟨w.heap.size, 3, none⟩) hgl).trans g3; have t4 := (hW.cell (p := ⟨w.heap.size, 4, none⟩) hgl).trans g4; have t5 := (hW.cell (p := ⟨w.heap.size, 5, none⟩) hgl).trans g5; have t6 := (hW.cell (p := ⟨w.heap.size, 6, none⟩) hgl).trans g6; have t7 := (hW.cell (p := ⟨w.heap.size, 7, none⟩) hgl).trans g7; have t8 := (hW.cell (p := ⟨w.heap.size, 8, none⟩) hgl).trans g8; have t9 := (hW.cell (p := ⟨w.heap.size, 9, none⟩) hgl).trans g9; have t10 := (hW.cell (p := ⟨w.heap.size, 10, none⟩) hgl).trans g10; have t11 := (hW.cell (p := ⟨w.heap.size, 11, none⟩) hgl).trans g11; have t12 := (hW.cell (p := ⟨w.heap.size, 12, none⟩) hgl).trans g12; have k1 := fun W => HT1.out W; have k2 := fun W => HT2.out W; have k3 := fun W => HD1.out W; have k4 := fun W => HD2.out W; (try simp only at *); go_simp; try with_reducible rfl)
           simp only [Act.put, List.setIfInBounds_toArray, List.set_cons_zero, List.set_cons_succ])
        | (refine wpGrowS_skip (by simp only [List.getElem?_toArray, List.getElem?_cons_succ, List.getElem?_cons_zero]; rfl) (by rfl) ?_
           simp only [Act.put, List.setIfInBounds_toArray, List.set_cons_zero, List.set_cons_succ]))
    refine wpGrowS_nil ?_
    have HBF : Hid (Below w.heap.size w w8) := Lib.hid (beln HB3.out hS8)
    have HOF := Lib.hid (ho8.low (show w.heap.size ≤ W2S by have := HB3.out.size; omega))
    have HMF : Hid (ys8.map GV.e = RL) := Lib.hid (by rw [hm8, HIL.out])
    clear hS hSb hS2 hS7 hS8 ho8 hm8 g0 g1 g2 g3 g4 g5 g6 g7 g8 g9 g10 g11 g12
    go_wp2
    exact HF.out _ _ _ HOF.out HMF.out HBF.out
end Go.Proofs.YtndppbfdcceflaaGreatDoor


namespace Go.Proofs.YtndppbfdcceflaaGreatDoor
open Go.RowKit

theorem EBc {W : World} {N : Nat} {x : GV} (h : EB W N x) : W.cell? ⟨N, 0, none⟩ = some (.int .i64 x.e.core) ∧ W.cell? ⟨N, 1, none⟩ = some (.int .i64 x.e.slot) ∧ W.cell? ⟨N, 2, none⟩ = some (.int .i64 x.e.node.id.core) ∧ W.cell? ⟨N, 3, none⟩ = some (.int .i64 x.e.node.id.op) ∧ W.cell? ⟨N, 4, none⟩ = some (.int .i64 x.e.node.id.part) ∧ W.cell? ⟨N, 5, none⟩ = some (.slice x.A x.e.node.path.length x.c) ∧ W.cell? ⟨N, 6, none⟩ = some (.int .i64 x.e.node.cap.kind) ∧ W.cell? ⟨N, 7, none⟩ = some (.int .i64 x.e.node.cap.base) ∧ W.cell? ⟨N, 8, none⟩ = some (.int .i64 x.e.node.cap.bits) ∧ W.cell? ⟨N, 9, none⟩ = some (.int .i64 x.e.node.cap.rights) ∧ W.cell? ⟨N, 10, none⟩ = some (.int .i64 x.e.node.cap.width) ∧ W.cell? ⟨N, 11, none⟩ = some (.int .i64 x.e.node.cap.level) ∧ W.cell? ⟨N, 12, none⟩ = some (.bool x.e.node.cap.device) := by
  obtain ⟨c0, c1, c2, c3, c4, c5, c6, c7, c8, c9, c10, c11, c12⟩ := h.cells
  simp only [Nat.zero_add] at c0 c1 c2 c3 c4 c5 c6 c7 c8 c9 c10 c11 c12
  exact ⟨c0, c1, c2, c3, c4, c5, c6, c7, c8, c9, c10, c11, c12⟩
/-- One Id more on a row of the call's own. -/
theorem OwnI.snoc {w w0 : World} {base : Nat} {v : Value} {xs : List GId} (h : OwnG GId.cells 25 3 w base v xs) (hb : Below w0.heap.size w0 w) (hbs : w0.heap.size ≤ base) (hbw : base ≤ w.heap.size) (x : GId) (hl : xs.length ≤ 900000) :
    ∃ v' w', (Builtin.append_ #[26, 26] 26 #[v, .slice (some ⟨w.heap.size, 0, none⟩) 1 1]).run Tryz.prog (w.alloc (.cells #[.int .i64 x.core, .int .i64 x.op, .int .i64 x.part] 25)) = .ok v' w' ∧ OwnG GId.cells 25 3 w' base v' (xs ++ [x]) ∧ Below w0.heap.size w0 w' := by
  obtain ⟨v', w', hrun, hown, hg, hge⟩ := OwnI.lit h hbw x (by omega)
  exact ⟨v', w', hrun, hown, (belt hb _).grown hg (by have := hb.size; simp; omega) (fun g e => Nat.le_trans hbs (hge g e))⟩
def IdsEnd (l : List GId) (w : World) (e : Ending) (w' : World) : Prop := ∃ v, e = .returned v ∧ OwnG GId.cells 25 3 w' w.heap.size v l ∧ Below w.heap.size w w'
theorem desL_succ (xs : List GV) (i : GId) {k : Nat} (hk : k < xs.length) : desL ((xs.map GV.e).take (k + 1)) i = desL ((xs.map GV.e).take k) i ++ if hasI xs[k].e.node.path i then [xs[k].e.node.id] else [] := by
  rw [take_map GV.e xs hk]
  unfold desL
  rw [List.filter_append, List.map_append]
  congr 1
  cases h : hasI xs[k].e.node.path i <;> simp [h]
theorem desL_len (es : List GE) (i : GId) : (desL es i).length ≤ es.length := by
  unfold desL
  rw [List.length_map]
  exact List.length_filter_le _ _
theorem idsE_succ (xs : List GV) {k : Nat} (hk : k < xs.length) : idsE ((xs.map GV.e).take (k + 1)) = idsE ((xs.map GV.e).take k) ++ [xs[k].e.node.id] := by
  rw [take_map GV.e xs hk]
  unfold idsE
  rw [List.map_append]
  rfl
set_option maxRecDepth 20000 in
set_option maxHeartbeats 1000000 in
theorem pDesE_any (xs : List GV) (A : Option Addr) (c : Nat) (i : GId) (w : World) (h1 : ERow w w.heap.size A xs) (hl : xs.length ≤ 100000) (hp : ∀ x ∈ xs, x.e.node.path.length ≤ 17179869184) :
    Calls Tryz.prog 27 #[.slice A xs.length c, i.val] w (IdsEnd (desL (xs.map GV.e) i) w) := by
  have H1 := Lib.hid h1
  have HBL := Lib.hid fun k (hk : k < xs.length) W (hW : Below w.heap.size w W) => pBel_any xs[k].e.node xs[k].A xs[k].c i W ((h1.pth _ (List.getElem_mem hk)).1.next hW) (hp _ (List.getElem_mem hk)) (h1.pth _ (List.getElem_mem hk)).2
  have HST := Lib.hid fun k (hk : k < xs.length) => desL_succ xs i hk
  have HLN : Hid (∀ k, (desL ((xs.map GV.e).take k) i).length ≤ k) := Lib.hid fun k => Nat.le_trans (desL_len _ _) (by simp; omega)
  have HALL : Hid (desL ((xs.map GV.e).take xs.length) i = desL (xs.map GV.e) i) := Lib.hid (by rw [List.take_of_length_le (by simp)])
  have HD0 : Hid (desL ((xs.map GV.e).take 0) i = []) := Lib.hid (by simp [desL])
  have HEND : Hid (∀ v W, OwnG GId.cells 25 3 W w.heap.size v (desL (xs.map GV.e) i) → Below w.heap.size w W → IdsEnd (desL (xs.map GV.e) i) w (.returned v) W) := Lib.hid fun v W h1 h2 => ⟨v, rfl, h1, h2⟩
  have HX := Lib.hid (IB.new w i)
  have HB0 := Lib.hid (belt (Below.refl _ w) (.cells #[.int .i64 i.core, .int .i64 i.op, .int .i64 i.part] 25))
  have HM0 : Hid (w.heap.size ≤ (w.alloc (.cells #[.int .i64 i.core, .int .i64 i.op, .int .i64 i.part] 25)).heap.size) := Lib.hid HB0.out.size
  generalize IdsEnd (desL (xs.map GV.e) i) w = EE at *
  generalize desL (xs.map GV.e) i = RL at *
  obtain ⟨D, hD⟩ : ∃ D : Nat → List GId, ∀ k, desL ((xs.map GV.e).take k) i = D k := ⟨_, fun _ => rfl⟩
  simp only [hD] at HST HLN HALL HD0
  clear h1 hp hD
  unfold GN.val at HBL
  obtain ⟨j0, j1, j2⟩ := i
  simp only [GId.val] at *
  go_enter Tryz.func27, Tryz.ntmps27
  go_wp2
  generalize w.alloc (.cells #[.int .i64 j0, .int .i64 j1, .int .i64 j2] 25) = wI at *
  go_loopw [5, 10] (fun v5 vi wr => ∃ k : Nat, vi = .int .i64 k ∧ k ≤ xs.length ∧ Hid (OwnG GId.cells 25 3 wr wI.heap.size v5 (D k)) ∧ Hid (Below wI.heap.size wI wr)) (fun _ vi _ => xs.length - (intOf vi).toNat)
  case atStart => exact ⟨0, rfl, Nat.zero_le _, Lib.hid (by rw [HD0.out]; exact OwnG.nil _ _), Lib.hid (Below.refl _ _)⟩
  case round =>
    obtain ⟨k, rfl, hk, HO, HB⟩ := hrel
    have HBw := Lib.hid (beln HB0.out HB.out)
    rcases Nat.lt_or_ge k xs.length with hlt | hge
    · obtain ⟨An, cn, rfl, hcn, hmn, hrn⟩ := HO.out.row GId.len
      clear hcn hmn hrn
      obtain ⟨b1, o1, rfl, hb1, ⟨x0, x1, x2, x3, x4, x5, x6, x7, x8, x9, x10, x11, x12⟩⟩ := (H1.out.next HBw.out).row.gev hlt
      have HSK := Lib.hid (HST.out k hlt)
      have HLK := Lib.hid (HLN.out k)
      have HBK := Lib.hid fun W hW => HBL.out k hlt W hW
      generalize hasI xs[k].e.node.path ⟨j0, j1, j2⟩ = b at *
      generalize xs[k] = x at *
      obtain ⟨⟨xc, xs', ⟨⟨i0, i1, i2⟩, xp, ⟨a0, a1, a2, a3, a4, a5, a6⟩⟩⟩, xA, xcp⟩ := x
      simp only at x0 x1 x2 x3 x4 x5 x6 x7 x8 x9 x10 x11 x12 HSK HBK
      have HBX := Lib.hid (belt HB.out (.cells #[.int .i64 xc, .int .i64 xs', .int .i64 i0, .int .i64 i1, .int .i64 i2, .slice xA xp.length xcp, .int .i64 a0, .int .i64 a1, .int .i64 a2, .int .i64 a3, .int .i64 a4, .int .i64 a5, .bool a6] 32))
      have HEB := Lib.hid (EB.new wr ⟨⟨xc, xs', ⟨⟨i0, i1, i2⟩, xp, ⟨a0, a1, a2, a3, a4, a5, a6⟩⟩⟩, xA, xcp⟩)
      have HO1 := Lib.hid (HO.out.alloc (.cells #[.int .i64 xc, .int .i64 xs', .int .i64 i0, .int .i64 i1, .int .i64 i2, .slice xA xp.length xcp, .int .i64 a0, .int .i64 a1, .int .i64 a2, .int .i64 a3, .int .i64 a4, .int .i64 a5, .bool a6] 32))
      obtain ⟨y0, y1, y2⟩ := (HX.out.next HBX.out).cells
      simp only at HEB y0 y1 y2
      go_wp2_with fail
      go_fit (HBK.out _ (beln HB0.out HBX.out))
      rintro e w2 ⟨rfl, hb2⟩
      have HB2 := Lib.hid (beln HBX.out hb2)
      have HE2 := Lib.hid (HEB.out.next hb2)
      have HO2 := Lib.hid (HO1.out.next hb2)
      clear hb2 x0 x1 x2 x3 x4 x5 x6 x7 x8 x9 x10 x11 x12 y0 y1 y2 HBK HEB HO1 HBX
      rcases b with _ | _
      · have HO9 : Hid (OwnG GId.cells 25 3 w2 wI.heap.size (.slice An (D k).length cn) (D (k + 1))) := Lib.hid (by rw [HSK.out, if_neg (by simp), List.append_nil]; exact HO2.out)
        go_wp2
        go_roundw
        case rel => exact ⟨k + 1, by go_num, by omega, HO9, HB2⟩
        case measure => simp [intOf]; omega
      · obtain ⟨v9, w9, hrun9, hown9, hb9⟩ := OwnI.snoc HO2.out HB2.out (Nat.le_refl _) HB2.out.size ⟨i0, i1, i2⟩ (by have := HLK.out; omega)
        simp only at hrun9
        have HRUN := Lib.hid hrun9
        have HB9 := Lib.hid hb9
        have HO9 : Hid (OwnG GId.cells 25 3 w9 wI.heap.size v9 (D (k + 1))) := Lib.hid (by rw [HSK.out, if_pos rfl]; exact hown9)
        obtain ⟨z0, z1, z2, z3, z4, z5, z6, z7, z8, z9, z10, z11, z12⟩ := EBc HE2.out
        simp only at z2 z3 z4
        clear hrun9 hown9 hb9 z0 z1 z5 z6 z7 z8 z9 z10 z11 z12
        generalize (D k).length = dl at *
        go_wp2_with (at_builtin; refine wpList_gapp HRUN.out rfl rfl rfl rfl rfl ?_)
        go_roundw
        case rel => exact ⟨k + 1, by go_num, by omega, HO9, HB9⟩
        case measure => simp [intOf]; omega
    · obtain rfl : k = xs.length := by omega
      have HO9 := Lib.hid (HO.out.low HM0.out)
      rw [HALL.out] at HO9
      go_wp2
      exact HEND.out _ _ HO9.out HBw.out
/-- The program's Range of a capability of an entry. -/
theorem pMem_any (x : GV) (w : World) : Calls Tryz.prog 81 #[x.val] w fun e w' => e = .returned x.e.node.cap.rng.val ∧ Below w.heap.size w w' := by
  have HR := Lib.hid fun W => pRng_any x.e.node.cap W
  obtain ⟨⟨xc, xs', ⟨⟨i0, i1, i2⟩, xp, ⟨a0, a1, a2, a3, a4, a5, a6⟩⟩⟩, xA, xcp⟩ := x
  simp only [GV.val, GC.val, GC.rng, GR.val] at *
  have HB0 := Lib.hid (belt (belt (Below.refl _ w) (.cells #[.int .i64 xc, .int .i64 xs', .int .i64 i0, .int .i64 i1, .int .i64 i2, .slice xA xp.length xcp, .int .i64 a0, .int .i64 a1, .int .i64 a2, .int .i64 a3, .int .i64 a4, .int .i64 a5, .bool a6] 32)) (.cells #[.int .i64 0, .int .i64 0] 58))
  have HX := Lib.hid (RB.new (w.alloc (.cells #[.int .i64 xc, .int .i64 xs', .int .i64 i0, .int .i64 i1, .int .i64 i2, .slice xA xp.length xcp, .int .i64 a0, .int .i64 a1, .int .i64 a2, .int .i64 a3, .int .i64 a4, .int .i64 a5, .bool a6] 32)) ⟨0, 0⟩)
  simp only [World.size_alloc] at HX
  go_enter Tryz.func81, Tryz.ntmps81
  go_wp2_with fail
  go_fit (HR.out _)
  rintro e w1 ⟨rfl, hb1⟩
  have HB1 := Lib.hid (beln HB0.out hb1)
  have HX1 := Lib.hid (HX.out.next hb1)
  obtain ⟨r0, r1, rf, rl⟩ := HX1.out.facts
  simp only at r0 r1
  clear hb1 HR HX HB0
  go_wp2
  refine bodyPost_ret (v := .agg #[.int .i64 a1, .int .i64 a2]) (by simp [results, Tryz.results81, go_sem, r0, r1]) rfl ?_
  exact ⟨rfl, (HB1.out.setCell (p := ⟨w.heap.size + 1, 0, none⟩) (by simp) _).setCell (p := ⟨w.heap.size + 1, 1, none⟩) (by simp) _⟩
def rngE (es : List GE) : List GR := es.map fun o => o.node.cap.rng
theorem rngE_succ (xs : List GV) {k : Nat} (hk : k < xs.length) : rngE ((xs.map GV.e).take (k + 1)) = rngE ((xs.map GV.e).take k) ++ [xs[k].e.node.cap.rng] := by
  rw [take_map GV.e xs hk]
  unfold rngE
  rw [List.map_append]
  rfl
theorem OwnR.snoc2 {w w0 : World} {base : Nat} {v : Value} {xs : List GR} (h : OwnR w base v xs) (hb : Below w0.heap.size w0 w) (hbs : w0.heap.size ≤ base) (hbw : base ≤ w.heap.size) (r : GR) (hl : xs.length ≤ 68719476736) :
    ∃ v' w', (Builtin.append_ #[61, 61] 61 #[v, .slice (some ⟨w.heap.size, 0, none⟩) 1 1]).run Tryz.prog (w.alloc (.cells #[.int .i64 r.base, .int .i64 r.bits] 58)) = .ok v' w' ∧ OwnR w' base v' (xs ++ [r]) ∧ Below w0.heap.size w0 w' := by
  have hs := hb.size
  obtain ⟨v', w', hrun, hown, hg, _⟩ := OwnG.app elt_rng GR.len GR.one (h.alloc (.cells #[.int .i64 r.base, .int .i64 r.bits] 58)) 1 (lit_rng w r) (by simp; omega) (by unfold maxLen; simp; omega) (by simp; omega)
  exact ⟨v', w', hrun, hown, (hb.alloc hs _).grown hg (by simp; omega) (fun g e => Nat.le_trans hbs (h.lt g e).1)⟩
set_option maxRecDepth 20000 in
set_option maxHeartbeats 1000000 in
theorem pFreE_any (xs : List GV) (A : Option Addr) (c : Nat) (r : GR) (w : World) (h1 : ERow w w.heap.size A xs) (hl : xs.length ≤ 100000) (hT : T10 w) :
    Calls Tryz.prog 41 #[.slice A xs.length c, r.val] w (FreeEnd (freeL r (rngE (xs.map GV.e))) w) := by
  have H1 := Lib.hid h1
  have HMM := Lib.hid fun x W => pMem_any x W
  have HFR := Lib.hid fun A c W (hW : Below w.heap.size w W) (h : GRow GR.cells 2 W W.heap.size A (rngE (xs.map GV.e))) => pFree_any r (rngE (xs.map GV.e)) A c W h (by unfold rngE; simp; omega) (T10.next hT hW)
  have HST := Lib.hid fun k (hk : k < xs.length) => rngE_succ xs hk
  have HLN : Hid (∀ k, (rngE ((xs.map GV.e).take k)).length ≤ k) := Lib.hid fun k => by unfold rngE; simp; omega
  have HALL : Hid (rngE ((xs.map GV.e).take xs.length) = rngE (xs.map GV.e)) := Lib.hid (by rw [List.take_of_length_le (by simp)])
  have HD0 : Hid (rngE ((xs.map GV.e).take 0) = []) := Lib.hid (by simp [rngE])
  have HX := Lib.hid (RB.new w r)
  have HB0 := Lib.hid (belt (Below.refl _ w) (.cells #[.int .i64 r.base, .int .i64 r.bits] 58))
  have HM0 : Hid (w.heap.size ≤ (w.alloc (.cells #[.int .i64 r.base, .int .i64 r.bits] 58)).heap.size) := Lib.hid HB0.out.size
  have HMK := Lib.hid fun W => OwnG.made (enc := GR.cells) (w := W) elt_rng
  have HEND : Hid (∀ e W W2, Below w.heap.size w W → FreeEnd (freeL r (rngE (xs.map GV.e))) W e W2 → FreeEnd (freeL r (rngE (xs.map GV.e))) w e W2) := Lib.hid fun e W W2 hW h => by
    obtain ⟨v, e1, e2, e3⟩ := h
    exact ⟨v, e1, e2.base hW.size, beln hW e3⟩
  have HLL : Hid ((rngE (xs.map GV.e)).length = xs.length) := Lib.hid (by unfold rngE; simp)
  unfold FreeEnd at *
  generalize freeL r (rngE (xs.map GV.e)) = QL at *
  generalize rngE (xs.map GV.e) = RL at *
  obtain ⟨D, hD⟩ : ∃ D : Nat → List GR, ∀ k, rngE ((xs.map GV.e).take k) = D k := ⟨_, fun _ => rfl⟩
  simp only [hD] at HST HLN HALL HD0
  clear h1 hD hT
  obtain ⟨rb, rn⟩ := r
  simp only [GR.val] at *
  obtain ⟨wm, hmk, hom, hbm⟩ := HMK.out (w.alloc (.cells #[.int .i64 rb, .int .i64 rn] 58)) (w.alloc (.cells #[.int .i64 rb, .int .i64 rn] 58)).heap.size xs.length (Nat.le_refl _) (by omega) (by omega)
  have HOM := Lib.hid hom
  have HBM := Lib.hid hbm
  have HSZ : Hid ((w.alloc (.cells #[.int .i64 rb, .int .i64 rn] 58)).heap.size = w.heap.size + 1) := Lib.hid (by simp)
  clear hom hbm HMK
  go_enter Tryz.func41, Tryz.ntmps41
  go_wp2
  generalize w.alloc (.cells #[.int .i64 rb, .int .i64 rn] 58) = wI at *
  go_loopw [5, 13] (fun v5 vi wr => ∃ k : Nat, vi = .int .i64 k ∧ k ≤ xs.length ∧ Hid (OwnR wr wI.heap.size v5 (D k)) ∧ Hid (Below wI.heap.size wI wr)) (fun _ vi _ => xs.length - (intOf vi).toNat)
  case atStart => exact ⟨0, rfl, Nat.zero_le _, Lib.hid (by rw [HD0.out, ← HSZ.out]; exact HOM.out), HBM⟩
  case round =>
    obtain ⟨k, rfl, hk, HO, HB⟩ := hrel
    have HBw := Lib.hid (beln HB0.out HB.out)
    rcases Nat.lt_or_ge k xs.length with hlt | hge
    · obtain ⟨An, cn, rfl, hcn, hmn, hrn⟩ := HO.out.row GR.len
      clear hcn hmn hrn hmk
      obtain ⟨b1, o1, rfl, hb1, ⟨x0, x1, x2, x3, x4, x5, x6, x7, x8, x9, x10, x11, x12⟩⟩ := (H1.out.next HBw.out).row.gev hlt
      have HSK := Lib.hid (HST.out k hlt)
      have HLK := Lib.hid (HLN.out k)
      have HMX := Lib.hid fun W => HMM.out xs[k] W
      unfold GV.val at HMX
      generalize xs[k] = x at *
      obtain ⟨⟨xc, xs', ⟨⟨i0, i1, i2⟩, xp, ⟨a0, a1, a2, a3, a4, a5, a6⟩⟩⟩, xA, xcp⟩ := x
      simp only [GC.rng] at x0 x1 x2 x3 x4 x5 x6 x7 x8 x9 x10 x11 x12 HSK HMX
      have HBX := Lib.hid (belt HB.out (.cells #[.int .i64 xc, .int .i64 xs', .int .i64 i0, .int .i64 i1, .int .i64 i2, .slice xA xp.length xcp, .int .i64 a0, .int .i64 a1, .int .i64 a2, .int .i64 a3, .int .i64 a4, .int .i64 a5, .bool a6] 32))
      have HO1 := Lib.hid (HO.out.alloc (.cells #[.int .i64 xc, .int .i64 xs', .int .i64 i0, .int .i64 i1, .int .i64 i2, .slice xA xp.length xcp, .int .i64 a0, .int .i64 a1, .int .i64 a2, .int .i64 a3, .int .i64 a4, .int .i64 a5, .bool a6] 32))
      go_wp2_with fail
      go_fit (HMX.out _)
      rintro e w2 ⟨rfl, hb2⟩
      have HB2 := Lib.hid (beln HBX.out hb2)
      have HO2 := Lib.hid (HO1.out.next hb2)
      clear hb2 x0 x1 x2 x3 x4 x5 x6 x7 x8 x9 x10 x11 x12 HMX HO1 HBX
      obtain ⟨v9, w9, hrun9, hown9, hb9⟩ := OwnR.snoc2 HO2.out HB2.out (Nat.le_refl _) HB2.out.size ⟨a1, a2⟩ (by have := HLK.out; omega)
      simp only at hrun9
      have HRUN := Lib.hid hrun9
      have HB9 := Lib.hid hb9
      have HO9 : Hid (OwnR w9 wI.heap.size v9 (D (k + 1))) := Lib.hid (by rw [HSK.out]; exact hown9)
      clear hrun9 hown9 hb9
      generalize (D k).length = dl at *
      go_wp2_with (at_builtin; refine wpList_gapp HRUN.out rfl rfl rfl rfl rfl ?_)
      go_roundw
      case rel => exact ⟨k + 1, by go_num, by omega, HO9, HB9⟩
      case measure => simp [intOf]; omega
    · obtain rfl : k = xs.length := by omega
      obtain ⟨An, cn, rfl, hcn, hmn, hrn⟩ := HO.out.row GR.len
      obtain ⟨r0, r1, _, _⟩ := (HX.out.next HB.out).facts
      rw [HALL.out] at hrn
      rw [HALL.out, HLL.out]
      have HFX := Lib.hid (HFR.out An cn wr HBw.out hrn)
      rw [HLL.out] at HFX
      simp only at r0 r1
      clear hcn hmn hrn hmk
      go_wp2_with fail
      go_fit HFX.out
      rintro e w2 ⟨v, rfl, ho, hb2⟩
      have HF := Lib.hid (HEND.out _ wr w2 HBw.out ⟨v, rfl, ho, hb2⟩)
      clear ho hb2 HFX r0 r1
      go_wp2
      go_ret
      exact HF.out
end Go.Proofs.YtndppbfdcceflaaGreatDoor
