/-
  The law FactOrder returns true.
  Conditions: the three facts are facts of the language; strconv.ErrRange and the table of powers of ten lie as the program's start lays them.
  A slice of facts that comes in as an argument, as the library opens it, reads as plain data.
  Conditions: none beyond the frame's.
-/
import Derived.Test.YtolkceibbefhfaaGreatDoorMa35
import Derived.Test.YtolkceibbefhfaaGreatDoorMa36
import Derived.Deep.DeepFit
import Derived.Deep.DeepCutAuto
namespace Go.Proofs.YtolkceibbefhfaaGreatDoor
open Go.RowKit Go.Shelf

def objF (s : SFact) : Obj := .cells #[.string ⟨s.rel.toArray⟩, .slice s.A s.n s.c] 25
def valF (s : SFact) : Value := .agg #[.string ⟨s.rel.toArray⟩, .slice s.A s.n s.c]
/-- The block N is a variable that holds the fact s. -/
def BoxF (w : World) (N : Nat) (s : SFact) : Prop := w.heap[N]? = some (objF s)
theorem BoxF.c0 {w : World} {N : Nat} {s : SFact} (h : BoxF w N s) : w.cell? ⟨N, 0, none⟩ = some (.string ⟨s.rel.toArray⟩) := by unfold BoxF objF at h; rw [Lib.cell_of_heap h]; rfl
theorem BoxF.c1 {w : World} {N : Nat} {s : SFact} (h : BoxF w N s) : w.cell? ⟨N, 1, none⟩ = some (.slice s.A s.n s.c) := by unfold BoxF objF at h; rw [Lib.cell_of_heap h]; rfl
theorem BoxF.lt {w : World} {N : Nat} {s : SFact} (h : BoxF w N s) : N < w.heap.size := by
  unfold BoxF at h
  rcases Nat.lt_or_ge N w.heap.size with h1 | h1
  · exact h1
  · rw [Array.getElem?_eq_none h1] at h; cases h
theorem BoxF.next {w w' : World} {N : Nat} {s : SFact} (h : BoxF w N s) (hb : Below w.heap.size w w') : BoxF w' N s := (hb.block N h.lt).trans h
theorem BoxF.alloc {w : World} {N : Nat} {s : SFact} (h : BoxF w N s) (o : Obj) : BoxF (w.alloc o) N s := (Below.heap_alloc w o N h.lt).trans h
theorem BoxF.new (w : World) (s : SFact) : BoxF (w.alloc (objF s)) w.heap.size s := heap_alloc_new w _
/-- facts.Compare at two facts, asx they lie in memory. -/
theorem compareS_any (f g : GFact) (s t : SFact) (w : World) (hf : FHold w w.heap.size s f) (hg : FHold w w.heap.size t g) :
    Calls Tryz.prog 13 #[.agg #[.string ⟨s.rel.toArray⟩, .slice s.A s.n s.c], .agg #[.string ⟨t.rel.toArray⟩, .slice t.A t.n t.c]] w fun e w' => e = .returned (.int .i64 (cmpF f g)) ∧ Below w.heap.size w w' := by
  rw [hf.rel, hf.n, hg.rel, hg.n]
  exact compare_any f g s.A t.A s.c t.c w hf.row hg.row hf.few hg.few
theorem sign3 {x : Int} (h : -1 ≤ x ∧ x ≤ 1) : x = -1 ∨ x = 0 ∨ x = 1 := by omega
def OrdMeas (n : Nat) (v10 v11 : Value) : Nat := match v10 with
  | .bool true => n + 1 - (intOf v11).toNat
  | _ => 0

theorem three_row (W : World) {sa sb sc : SFact} {a b c : GFact} (ha : FHold0 W W.heap.size sa a) (hb : FHold0 W W.heap.size sb b) (hc : FHold0 W W.heap.size sc c) :
    FRow0 (W.alloc (.cells #[.string ⟨sa.rel.toArray⟩, .slice sa.A sa.n sa.c, .string ⟨sb.rel.toArray⟩, .slice sb.A sb.n sb.c, .string ⟨sc.rel.toArray⟩, .slice sc.A sc.n sc.c] 25)) (W.alloc (.cells #[.string ⟨sa.rel.toArray⟩, .slice sa.A sa.n sa.c, .string ⟨sb.rel.toArray⟩, .slice sb.A sb.n sb.c, .string ⟨sc.rel.toArray⟩, .slice sc.A sc.n sc.c] 25)).heap.size (some ⟨W.heap.size, 0, none⟩) [sa, sb, sc] [a, b, c] := by
  have hl := bel_lit (Below.refl W.heap.size W) (.cells #[.string ⟨sa.rel.toArray⟩, .slice sa.A sa.n sa.c, .string ⟨sb.rel.toArray⟩, .slice sb.A sb.n sb.c, .string ⟨sc.rel.toArray⟩, .slice sc.A sc.n sc.c] 25)
  refine ⟨GRow.lit SFact.len W 25 [sa, sb, sc] _ rfl (by unfold maxLen; simp), rfl, fun i h1 h2 => ?_⟩
  have h1' : i < 3 := h1
  match i, h1' with
  | 0, _ => exact ha.next (Nat.le_refl _) hl
  | 1, _ => exact hb.next (Nat.le_refl _) hl
  | 2, _ => exact hc.next (Nat.le_refl _) hl
def OrdI (a b : GFact) (q : Bool) (k : Nat) : Prop := (q = true → a.rel = b.rel ∧ a.args.length = b.args.length ∧ k ≤ a.args.length ∧ a.args.take k = b.args.take k) ∧ (q = false → a ≠ b)
theorem OrdI.step {a b : GFact} {k : Nat} (h : OrdI a b true k) (h1 : k < a.args.length) (h2 : k < b.args.length) :
    OrdI a b (a.args[k].kind == b.args[k].kind && (a.args[k].int == b.args[k].int && a.args[k].word == b.args[k].word)) (k + 1) := by
  obtain ⟨e1, e2, _, e4⟩ := h.1 rfl
  refine ⟨fun hq => ⟨e1, e2, h1, ?_⟩, fun hq he => ?_⟩
  · rw [List.take_succ_eq_append_getElem h1, List.take_succ_eq_append_getElem h2, e4, val_same hq]
  · subst he
    simp at hq
theorem OrdI.done {a b : GFact} {k : Nat} (h : OrdI a b true k) (h1 : a.args.length ≤ k) : a = b := by
  obtain ⟨e1, e2, e3, e4⟩ := h.1 rfl
  rw [List.take_of_length_le h1, List.take_of_length_le (by omega)] at e4
  cases a; cases b; simp_all
set_option maxRecDepth 50000 in
set_option maxHeartbeats 1000000 in
theorem order_any (sa sb sc : SFact) (a b c : GFact) (w : World) (ha : FHold0 w w.heap.size sa a) (hb : FHold0 w w.heap.size sb b) (hc : FHold0 w w.heap.size sc c) (hG : Glob2 w) :
    Calls Tryz.prog 4 #[.agg #[.string ⟨sa.rel.toArray⟩, .slice sa.A sa.n sa.c], .agg #[.string ⟨sb.rel.toArray⟩, .slice sb.A sb.n sb.c], .agg #[.string ⟨sc.rel.toArray⟩, .slice sc.A sc.n sc.c]] w fun e w' => e = .returned (.bool true) ∧ Below w.heap.size w w' := by
  generalize hW3 : ((w.alloc (objF sa)).alloc (objF sb)).alloc (objF sc) = W3
  have hb3 : Below w.heap.size w W3 := by rw [← hW3]; exact bel_lit (bel_lit (bel_lit (Below.refl _ _) _) _) _
  have ba : BoxF W3 w.heap.size sa := by rw [← hW3]; exact ((BoxF.new w sa).alloc _).alloc _
  have bb : BoxF W3 (w.heap.size + 1) sb := by rw [← hW3]; have := (BoxF.new (w.alloc (objF sa)) sb).alloc (objF sc); simpa using this
  have bc : BoxF W3 (w.heap.size + 1 + 1) sc := by rw [← hW3]; have := BoxF.new ((w.alloc (objF sa)).alloc (objF sb)) sc; simpa using this
  have hs3 : W3.heap.size = w.heap.size + 1 + 1 + 1 := by rw [← hW3]; simp
  have HC3 := Lib.hid hb3
  have HA3 := Lib.hid (ha.next (Nat.le_refl _) hb3)
  have HB3 := Lib.hid (hb.next (Nat.le_refl _) hb3)
  have HD3 := Lib.hid (hc.next (Nat.le_refl _) hb3)
  have HG3 := Lib.hid (hG.next hb3)
  have HBA := Lib.hid ba
  have HBB := Lib.hid bb
  have HBC := Lib.hid bc
  have a0 := ba.c0
  have a1 := ba.c1
  have b0 := bb.c0
  have b1 := bb.c1
  have c0 := bc.c0
  have c1 := bc.c1
  clear ha hb hc hG hb3 ba bb bc
  obtain ⟨ra, Aa, na, ca⟩ := sa
  obtain ⟨rb, Ab, nb, cb⟩ := sb
  obtain ⟨rc, Ac, nc, cc⟩ := sc
  simp only [objF] at hW3
  simp only at a0 a1 b0 b1 c0 c1
  go_enter Tryz.func4, Tryz.ntmps4
  go_upto_region 1 with fail
  clear hW3
  have HFW := Lib.hid (few_any _ _ _ 3 _ (three_row W3 HA3.out HB3.out HD3.out))
  rw [show [a, b, c].length = 3 from rfl, hs3] at HFW
  simp only at HFW
  have hnot : ∀ (x : Bool) (w : World), (Op.unary .not (.bool x)).run Tryz.prog w = .ok (.bool (!x)) w := fun _ _ => rfl
  go_wp2_with fail
  refine HFW.out.mono ?_
  rintro e w4 ⟨⟨q, rfl, hq⟩, rfl⟩
  have HQ := Lib.hid hq
  clear hq HFW
  cases q
  · have HAW := Lib.hid (awake_any _ (HG3.out.next (bel_lit (Below.refl _ _) (.cells #[.string ⟨ra.toArray⟩, .slice Aa na ca, .string ⟨rb.toArray⟩, .slice Ab nb cb, .string ⟨rc.toArray⟩, .slice Ac nc cc] 25))))
    go_wp2_with fail
    refine HAW.out.mono ?_
    rintro e w5 ⟨rfl, hb5⟩
    go_wp2
    go_ret
    exact ⟨rfl, bel_next (bel_lit HC3.out _) hb5⟩
  · have hsm := HQ.out rfl
    have hb4 := bel_lit (Below.refl W3.heap.size W3) (.cells #[.string ⟨ra.toArray⟩, .slice Aa na ca, .string ⟨rb.toArray⟩, .slice Ab nb cb, .string ⟨rc.toArray⟩, .slice Ac nc cc] 25)
    generalize W3.alloc (.cells #[.string ⟨ra.toArray⟩, .slice Aa na ca, .string ⟨rb.toArray⟩, .slice Ab nb cb, .string ⟨rc.toArray⟩, .slice Ac nc cc] 25) = W4 at *
    have HC4 := Lib.hid (bel_next HC3.out hb4)
    have HA4 := Lib.hid ((HA3.out.next (Nat.le_refl _) hb4).small (hsm.2 a (by simp)))
    have HB4 := Lib.hid ((HB3.out.next (Nat.le_refl _) hb4).small (hsm.2 b (by simp)))
    have HD4 := Lib.hid ((HD3.out.next (Nat.le_refl _) hb4).small (hsm.2 c (by simp)))
    have HG4 := Lib.hid (HG3.out.next hb4)
    have ba4 := HBA.out.next hb4
    have bb4 := HBB.out.next hb4
    have bc4 := HBC.out.next hb4
    have HS4 : Hid (Below W4.heap.size W4 W4 ∧ W4.cell? ⟨w.heap.size, 0, none⟩ = some (.string ⟨ra.toArray⟩) ∧ W4.cell? ⟨w.heap.size, 1, none⟩ = some (.slice Aa na ca) ∧ W4.cell? ⟨w.heap.size + 1, 0, none⟩ = some (.string ⟨rb.toArray⟩) ∧ W4.cell? ⟨w.heap.size + 1, 1, none⟩ = some (.slice Ab nb cb) ∧ W4.cell? ⟨w.heap.size + 1 + 1, 0, none⟩ = some (.string ⟨rc.toArray⟩) ∧ W4.cell? ⟨w.heap.size + 1 + 1, 1, none⟩ = some (.slice Ac nc cc)) := Lib.hid ⟨Below.refl _ _, ba4.c0, ba4.c1, bb4.c0, bb4.c1, bc4.c0, bc4.c1⟩
    have HKS : Hid (∀ W W' : World, (Below W4.heap.size W4 W ∧ W.cell? ⟨w.heap.size, 0, none⟩ = some (.string ⟨ra.toArray⟩) ∧ W.cell? ⟨w.heap.size, 1, none⟩ = some (.slice Aa na ca) ∧ W.cell? ⟨w.heap.size + 1, 0, none⟩ = some (.string ⟨rb.toArray⟩) ∧ W.cell? ⟨w.heap.size + 1, 1, none⟩ = some (.slice Ab nb cb) ∧ W.cell? ⟨w.heap.size + 1 + 1, 0, none⟩ = some (.string ⟨rc.toArray⟩) ∧ W.cell? ⟨w.heap.size + 1 + 1, 1, none⟩ = some (.slice Ac nc cc)) → Below W.heap.size W W' →
        (Below W4.heap.size W4 W' ∧ W'.cell? ⟨w.heap.size, 0, none⟩ = some (.string ⟨ra.toArray⟩) ∧ W'.cell? ⟨w.heap.size, 1, none⟩ = some (.slice Aa na ca) ∧ W'.cell? ⟨w.heap.size + 1, 0, none⟩ = some (.string ⟨rb.toArray⟩) ∧ W'.cell? ⟨w.heap.size + 1, 1, none⟩ = some (.slice Ab nb cb) ∧ W'.cell? ⟨w.heap.size + 1 + 1, 0, none⟩ = some (.string ⟨rc.toArray⟩) ∧ W'.cell? ⟨w.heap.size + 1 + 1, 1, none⟩ = some (.slice Ac nc cc))) := Lib.hid fun W W' h hb => by
      obtain ⟨h0, h1, h2, h3, h4, h5, h6⟩ := h
      have key : ∀ {N j : Nat} {v : Value}, W.cell? ⟨N, j, none⟩ = some v → W'.cell? ⟨N, j, none⟩ = some v := fun {N j v} h => (hb.cell (p := ⟨N, j, none⟩) (World.block_lt_of_cell? W _ h)).trans h
      exact ⟨bel_next h0 hb, key h1, key h2, key h3, key h4, key h5, key h6⟩
    have HAB := Lib.hid fun W (hW : Below W4.heap.size W4 W) => compareS_any a b _ _ W (HA4.out.next (Nat.le_refl _) hW) (HB4.out.next (Nat.le_refl _) hW)
    have HBD := Lib.hid fun W (hW : Below W4.heap.size W4 W) => compareS_any b c _ _ W (HB4.out.next (Nat.le_refl _) hW) (HD4.out.next (Nat.le_refl _) hW)
    have HAD := Lib.hid fun W (hW : Below W4.heap.size W4 W) => compareS_any a c _ _ W (HA4.out.next (Nat.le_refl _) hW) (HD4.out.next (Nat.le_refl _) hW)
    have HBAc := Lib.hid fun W (hW : Below W4.heap.size W4 W) => compareS_any b a _ _ W (HB4.out.next (Nat.le_refl _) hW) (HA4.out.next (Nat.le_refl _) hW)
    have HAA := Lib.hid fun W (hW : Below W4.heap.size W4 W) => compareS_any a a _ _ W (HA4.out.next (Nat.le_refl _) hW) (HA4.out.next (Nat.le_refl _) hW)
    simp only at HAB HBD HAD HBAc HAA
    have HLW := Lib.hid (ord_fact.laws a b c)
    have HXR := Lib.hid (ord_fact.r a b)
    have HYR := Lib.hid (ord_fact.r b c)
    have HZR := Lib.hid (ord_fact.r a c)
    have HXZ := Lib.hid (ord_fact.z a b)
    rw [ord_fact.n a b] at HBAc
    rw [ord_fact.self a] at HAA
    generalize cmpF a b = x at *
    generalize cmpF b c = y at *
    generalize cmpF a c = z at *
    clear HA3 HB3 HD3 HG3 HBA HBB HBC HC3 hb4 ba4 bb4 bc4 a0 a1 b0 b1 c0 c1 hs3 hsm
    have hS4 := HKS.out W4 W4.drew HS4.out ((Below.refl _ _).drew)
    go_upto_region 3 with fail
    go_region_held3 (fun W => Below W4.heap.size W4 W ∧ W.cell? ⟨w.heap.size, 0, none⟩ = some (.string ⟨ra.toArray⟩) ∧ W.cell? ⟨w.heap.size, 1, none⟩ = some (.slice Aa na ca) ∧ W.cell? ⟨w.heap.size + 1, 0, none⟩ = some (.string ⟨rb.toArray⟩) ∧ W.cell? ⟨w.heap.size + 1, 1, none⟩ = some (.slice Ab nb cb) ∧ W.cell? ⟨w.heap.size + 1 + 1, 0, none⟩ = some (.string ⟨rc.toArray⟩) ∧ W.cell? ⟨w.heap.size + 1 + 1, 1, none⟩ = some (.slice Ac nc cc))
      (assumption)
      (first | (go_at_call 13; go_fit (HAB.out _ (And.left (by assumption))); rintro e w1 ⟨rfl, hbn⟩; have hSn := HKS.out _ _ (by assumption) hbn) | (go_at_call 13; go_fit (HBD.out _ (And.left (by assumption))); rintro e w1 ⟨rfl, hbn⟩; have hSn := HKS.out _ _ (by assumption) hbn) | (go_at_call 13; go_fit (HAD.out _ (And.left (by assumption))); rintro e w1 ⟨rfl, hbn⟩; have hSn := HKS.out _ _ (by assumption) hbn))
    have HS5 := Lib.hid hSn
    obtain ⟨_, d0, d1, d2, d3, d4, d5⟩ := hSn
    have hxr := HXR.out
    have fx1 : decide (x < -1) = false := by simp; omega
    have gx1 : ¬ x < -1 := by omega
    have fx2 : decide (1 < x) = false := by simp; omega
    have gx2 : ¬ 1 < x := by omega
    have hwn : IntKind.i64.wrap (-x) = -x := IntWalk.i64_in _ (by omega)
    have hne : (-x != -x) = false := by simp
    go_wp2_with fail
    go_fit (HBAc.out _ HS5.out.1)
    rintro e w2 ⟨rfl, hb2⟩
    have HS6 := Lib.hid (HKS.out _ _ HS5.out hb2)
    clear hb2 d0 d1 d2 d3 d4 d5
    obtain ⟨_, d0, d1, d2, d3, d4, d5⟩ := HS6.out
    go_wp2_with fail
    go_fit (HAA.out _ HS6.out.1)
    rintro e w3 ⟨rfl, hb3⟩
    have HS7 := Lib.hid (HKS.out _ _ HS6.out hb3)
    clear hb3 d0 d1 d2 d3 d4 d5 fx1 gx1 fx2 gx2 hwn hne hxr
    obtain ⟨_, d0, d1, d2, d3, d4, d5⟩ := HS7.out
    have HA7 := Lib.hid (HA4.out.next (Nat.le_refl _) HS7.out.1)
    have HB7 := Lib.hid (HB4.out.next (Nat.le_refl _) HS7.out.1)
    have hra := HA7.out.rel
    have hna := HA7.out.n
    have hrb := HB7.out.rel
    have hnb := HB7.out.n
    have h12a : a.args.length ≤ 12 := ((HQ.out trivial).2 a (by simp)).args
    have h12b : b.args.length ≤ 12 := ((HQ.out trivial).2 b (by simp)).args
    simp only at hra hna hrb hnb
    subst hna hnb
    have HRA := Lib.hid hra
    have HRB := Lib.hid hrb
    clear hra hrb
    have HAW := Lib.hid fun W (hW : Below w3.heap.size w3 W) => awake_any W ((HG4.out.next HS7.out.1).next hW)
    have HFB := Lib.hid (bel_next HC4.out HS7.out.1)
    clear HAB HBD HAD HBAc HAA HKS HS4 HS5 HS6 HC4 HG4 HA4 HB4 HD4
    go_upto_region 6 with fail
    go_cut [10] (fun v10 wx => ∃ q : Bool, v10 = .bool q ∧ Hid (OrdI a b q 0) ∧ wx = w3)
    case first =>
      by_cases hr : ra = rb
      · subst hr
        have hrr : a.rel = b.rel := by rw [← HRA.out, HRB.out]
        by_cases hn : a.args.length = b.args.length
        · have HO : Hid (OrdI a b true 0) := Lib.hid ⟨fun _ => ⟨hrr, hn, by omega, by simp⟩, fun h => by cases h⟩
          have fn : ((a.args.length : Int) == (b.args.length : Int)) = true := by simp [hn]
          clear hrr hn
          go_wp2_with fail
          go_meet
          exact ⟨true, rfl, HO, rfl⟩
        · have HO : Hid (OrdI a b false 0) := Lib.hid ⟨fun h => (by cases h), fun _ h => hn (by rw [h])⟩
          have fn : ((a.args.length : Int) == (b.args.length : Int)) = false := by simp; omega
          clear hrr hn
          go_wp2_with fail
          go_meet
          exact ⟨false, rfl, HO, rfl⟩
      · have HO : Hid (OrdI a b false 0) := Lib.hid ⟨fun h => (by cases h), fun _ h => hr (by rw [HRA.out, HRB.out, h])⟩
        go_wp2_with fail
        go_meet
        exact ⟨false, rfl, HO, rfl⟩
    case rest =>
      obtain ⟨q, rfl, HO, rfl⟩ := hcut
      clear d0 d2 d4 d5 hnot
      have HFIN0 : Hid (a ≠ b → (x = -1 ∨ x = 1)) := Lib.hid fun h => by
        have h1 := HXR.out
        have h2 : x ≠ 0 := fun e => h (HXZ.out.1 e)
        omega
      go_wp2
      go_loopw [10, 11] (fun v10 v11 wr => ∃ (q : Bool) (k : Nat), v10 = .bool q ∧ v11 = .int .i64 k ∧ Hid (OrdI a b q k) ∧ Hid (Below wc.heap.size wc wr)) (fun v10 v11 _ => OrdMeas a.args.length v10 v11)
      case atStart => exact ⟨q, 0, rfl, rfl, HO, Lib.hid (Below.refl _ _)⟩
      case round =>
        clear HO
        obtain ⟨q, k, rfl, rfl, HO, HBR⟩ := hrel
        have HAR := Lib.hid (HAW.out wr HBR.out)
        have HFR := Lib.hid (bel_next HFB.out HBR.out)
        have e1 : wr.cell? ⟨w.heap.size, 1, none⟩ = some (.slice Aa a.args.length ca) := (HBR.out.cell (p := ⟨w.heap.size, 1, none⟩) (World.block_lt_of_cell? wc _ d1)).trans d1
        have e3 : wr.cell? ⟨w.heap.size + 1, 1, none⟩ = some (.slice Ab b.args.length cb) := (HBR.out.cell (p := ⟨w.heap.size + 1, 1, none⟩) (World.block_lt_of_cell? wc _ d3)).trans d3
        clear d1 d3
        cases q
        · have hx := HFIN0.out (HO.out.2 rfl)
          have hy := sign3 HYR.out
          have hz := sign3 HZR.out
          have hlw := HLW.out
          clear HLW HXR HYR HZR HXZ HFIN0 e1 e3
          rcases hx with rfl | rfl <;> rcases hy with rfl | rfl | rfl <;> rcases hz with rfl | rfl | rfl <;>
            first
            | (exfalso; revert hlw; decide)
            | (clear hlw
               go_wp2_with fail
               go_fit HAR.out
               rintro e w5 ⟨rfl, hb5⟩
               go_wp2
               go_ret
               exact ⟨rfl, bel_next HFR.out hb5⟩)
        · rcases Nat.lt_or_ge k a.args.length with hlt | hge
          · have hlb : k < b.args.length := by have := HO.out.1 rfl; omega
            obtain ⟨b1, o1, rfl, hb1, x0, x1, x2⟩ := (HA7.out.row.below (Nat.le_refl _) HBR.out).val3 hlt
            obtain ⟨b2, o2, rfl, hb2, y0, y1, y2⟩ := (HB7.out.row.below (Nat.le_refl _) HBR.out).val3 hlb
            have HST := Lib.hid (HO.out.step hlt hlb)
            have hq := val_eql a.args[k] b.args[k]
            generalize a.args[k] = u at *
            generalize b.args[k] = v at *
            obtain ⟨uk, ui, uw⟩ := u
            obtain ⟨vk, vi, vw⟩ := v
            simp only [GVal.val] at *
            generalize (uk == vk && (ui == vi && uw == vw)) = p at *
            go_upto_region 10 with fail
            go_quiet (fail)
            have HNB := Lib.hid fun n => HBR.out.trans (bel_drewN wc.heap.size wr n)
            go_wp2
            go_roundw
            case rel => exact ⟨p, k + 1, rfl, by go_num, HST, Lib.hid (HNB.out _)⟩
            case measure => cases p <;> simp [OrdMeas, intOf] <;> omega
          · have hab := HO.out.done hge
            obtain rfl : x = 0 := HXZ.out.2 hab
            have hy := sign3 HYR.out
            have hz := sign3 HZR.out
            have hlw := HLW.out
            clear HLW HXR HYR HZR HXZ HFIN0 e3 hab
            rcases hy with rfl | rfl | rfl <;> rcases hz with rfl | rfl | rfl <;>
              first
              | (exfalso; revert hlw; decide)
              | (clear hlw
                 go_wp2_with fail
                 go_fit HAR.out
                 rintro e w5 ⟨rfl, hb5⟩
                 go_wp2
                 go_ret
                 exact ⟨rfl, bel_next HFR.out hb5⟩)
end Go.Proofs.YtolkceibbefhfaaGreatDoor


namespace Go.Proofs.YtolkceibbefhfaaGreatDoor
open Go.ChangeShapes Go.WideShapes Go.RowKit

instance : Inhabited (SFact × GFact) := ⟨(⟨[], none, 0, 0⟩, ⟨[], []⟩)⟩
section
variable {H : Type} {enc : TypeId × Value → H} {W : World} {base : Nat} {spare : Nat → Bool} {held : Bool}
set_option maxRecDepth 50000 in
theorem IsFacts_open {a : Option Addr} {len cap : Nat} {d : DataW H} {p : List MemPlace} (h : DataW.Trod enc Tryz.prog W base spare held 22 (.slice a len cap) d p) (hwt : ∀ n ∈ d.weights Tryz.prog 22, n ≤ reachBytes) : ∃ ss fs, IsFacts W a len cap ss fs ∧ (a = none → cap = 0) := by
  obtain ⟨fuel, hf⟩ := h
  rcases Go.Deep.open_slice Tryz.underlying22 hf with ⟨hcs, _⟩ | ⟨x, l, c, m, n, D, Pl, hcs, _, hl, hm, hmm, hxd, hx⟩
  · simp [Value.cells] at hcs
    obtain ⟨rfl, rfl, rfl⟩ := hcs
    exact ⟨[], [], ⟨rfl, Nat.le_refl _, Nat.zero_le _, ⟨GRow.nil, rfl, fun i h1 => by simp at h1⟩, fun i h1 => by simp at h1⟩, fun _ => rfl⟩
  · simp [Value.cells] at hcs
    obtain ⟨rfl, rfl, rfl⟩ := hcs
    have c0 : Tryz.prog.cellsOf 25 = 2 := by kernel_rfl
    rw [c0] at hx
    have hlm : len ≤ m := by rw [hmm]; split <;> omega
    have each : ∀ i, i < len → ∃ t : SFact × GFact, IsFact W t.1 t.2 ∧ ∀ j, j < 2 → W.cell? ((x.add (i * 2)).add j) = t.1.cells[j]? := fun i hi => by
      obtain ⟨cs', hc, ht⟩ := hx i (by omega)
      have hd : d = .slice ((List.range len).map D) ((List.range (m - len)).map fun j => D (len + j)) := congrArg Prod.fst hxd
      obtain ⟨s, f, rfl, hw⟩ := fact_open ht (fun k hk => hwt k (by
        rw [hd]
        simp only [DataW.weights, Tryz.underlying22, List.mem_cons, List.mem_append]
        exact .inr (.inl (weights_mem_all (List.mem_map.2 ⟨i, List.mem_range.2 hi, rfl⟩) hk))))
      obtain ⟨_, _, hat⟩ := World.cells?_some hc
      exact ⟨(s, f), hw, fun j hj => hat j hj⟩
    obtain ⟨g, hgx⟩ := Go.Deep.choose_lt each
    refine ⟨(List.range len).map fun i => (g i).1, (List.range len).map fun i => (g i).2, ⟨by simp, hl, hm, ⟨fun h0 => ?_, by simp, fun i h1 _ => ?_⟩, fun i h1 _ => ?_⟩, fun e => by cases e⟩
    · simp at h0
      obtain ⟨b, off, spot⟩ := x
      have hc0 := (hgx 0 h0).2 0 (by omega)
      have hspot : spot = none := by simpa [Addr.add] using World.cell?_spot (hc0.trans rfl)
      subst hspot
      have hlt := World.block_lt_of_cell? W _ (hc0.trans rfl)
      refine ⟨b, off, rfl, by simpa [Addr.add] using hlt, fun i hi j u hu => ?_⟩
      simp at hi
      have hj : j < 2 := by
        rcases Nat.lt_or_ge j 2 with h1 | h1
        · exact h1
        · rw [List.getElem?_eq_none (by simp [SFact.cells]; omega)] at hu; cases hu
      have e : ((⟨b, off, none⟩ : Addr).add (i * 2)).add j = ⟨b, off + (i * 2 + j), none⟩ := by rw [Go.WideShapes.add_plain, Go.WideShapes.add_plain, Nat.add_assoc]
      have := (hgx i hi).2 j hj
      rw [e] at this
      simp at hu
      rw [this, hu]
    · have hi : i < len := by simpa using h1
      have := (hgx i hi).1.hold
      simpa using this
    · have hi : i < len := by simpa using h1
      have := (hgx i hi).1
      simpa using this
end
end Go.Proofs.YtolkceibbefhfaaGreatDoor
