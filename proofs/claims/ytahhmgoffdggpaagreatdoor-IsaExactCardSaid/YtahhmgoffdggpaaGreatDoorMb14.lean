/-
  The program's assemble: over tokens with one of kind 0 behind them.
  Conditions: the table of formats lies as the program's start lays it.
  isa.Assemble at whatever text.
  Conditions: the listed variables lie as the program's start lays them.
  The text of one instruction with a number, scanned and assembled.
  Conditions: the numeral's digits and value as each theorem says.
-/
import Derived.Test.YtahhmgoffdggpaaGreatDoorMb13
import Derived.Test.YtahhmgoffdggpaaGreatDoorMb10
namespace Go.Proofs.YtahhmgoffdggpaaGreatDoor

open Go.RowKit

theorem st_start {w : World} {base : Nat} {A : Option Addr} {c : Nat} {ts : List GTok} (hb : w.heap.size = base) (hrow : GRow GTok.cells 5 w base A ts) (hc : ts.length ≤ c) (hcm : c ≤ maxLen) (he : TEnds ts) :
    St base (base + 1) (fun g => g = base + 1 ∨ g = base) ((w.alloc (.map #[] 0)).alloc (.cells #[.slice A ts.length c, .slice none 0 0, .map (some base), .slice none 0 0] 108)) ⟨ts, [], [], []⟩ := by
  refine ⟨A, c, .slice none 0 0, base, .slice none 0 0, ?_⟩
  have h1 : (w.alloc (.map #[] 0)).heap.size = base + 1 := by simp [hb]
  exact
    { lo := fun g hg => by rcases hg with h | h <;> omega
      hi := fun g hg => by simp [hb]; rcases hg with h | h <;> omega
      bw := by simp; omega
      op := .inl rfl
      om := .inr rfl
      opv := fun g hg => by simp [Value.ownBlock] at hg
      oov := fun g hg => by simp [Value.ownBlock] at hg
      hmp := by omega
      hpv := by simp [Value.ownBlock]
      hov := by simp [Value.ownBlock]
      hpo := fun g hg => by simp [Value.ownBlock] at hg
      hh := by rw [← h1]; exact heap_alloc_new _ _
      hc := hc
      hm := hcm
      ends := he
      row := hrow.keep fun g hg => by rw [Below.heap_alloc _ _ _ (by omega), Below.heap_alloc _ _ _ (by omega)]
      prog := OwnG.nil _ _
      refs := OwnG.nil _ _
      labs := (by
        have hm := IMap.made w Tryz.prog 9 3
        rw [hb] at hm
        exact hm.keep (Below.heap_alloc _ _ _ (by omega)) : IMap _ _ _ _ base 0 (labS [])) }
def AsmEnd (r : ARes Unit) (w : World) (e : Ending) (w' : World) : Prop :=
  match r with
  | .ok _ s => ∃ pv, e = .returned (.tuple #[pv, .agg #[.int .i64 0, .int .i64 0], .int .i64 0]) ∧ OwnG GIns.cells 40 5 w' w.heap.size pv s.prog ∧ Below w.heap.size w w'
  | .thr l c x => e = .returned (.tuple #[.slice none 0 0, .agg #[.int .i64 l, .int .i64 c], .int .i64 x]) ∧ Below w.heap.size w w'
set_option maxRecDepth 50000 in
set_option maxHeartbeats 1000000 in
theorem assemble_any (ts : List GTok) (A : Option Addr) (c : Nat) (w : World) (hG : GlobF w) (he : TEnds ts) (hrow : GRow GTok.cells 5 w w.heap.size A ts) (hc : ts.length ≤ c) (hcm : c ≤ maxLen) (hl : ts.length ≤ 100000) :
    Calls Tryz.prog 34 #[.slice A ts.length c] w (AsmEnd (aAll ts) w) := by
  have HD : Hid (aAll ts = (aStats ts.length ⟨ts, [], [], []⟩).bind fun _ s => aResolve s.refs s) := Lib.hid rfl
  generalize aAll ts = q at *
  have HRW := Lib.hid (rw_stats ts.length (rw_start he))
  have hb3 : (((w.alloc (.cells #[.slice none 0 0] 22)).alloc (.cells #[.int .i64 0, .int .i64 0] 35)).alloc (.cells #[.int .i64 0] 25)).heap.size = w.heap.size + 1 + 1 + 1 := by simp
  have hst := st_start (w := ((w.alloc (.cells #[.slice none 0 0] 22)).alloc (.cells #[.int .i64 0, .int .i64 0] 35)).alloc (.cells #[.int .i64 0] 25)) hb3
    (((hrow.keep (w' := ((w.alloc (.cells #[.slice none 0 0] 22)).alloc (.cells #[.int .i64 0, .int .i64 0] 35)).alloc (.cells #[.int .i64 0] 25)) fun g hg => by rw [Below.heap_alloc _ _ _ (by simp <;> omega), Below.heap_alloc _ _ _ (by simp <;> omega), Below.heap_alloc _ _ _ (by omega)]).wide (by omega))) hc hcm he
  have HST := Lib.hid hst
  have hmu : mu (⟨ts, [], [], []⟩ : ASt) ≤ 300000 := by unfold mu; simp; omega
  have HSTM := Lib.hid (statements_any _ _ _ _ ts.length (Nat.le_refl _) _ hst hmu (by have := hG.1; omega) (((((((hG.next ((Below.refl _ _).alloc (Nat.le_refl _) _)).next ((Below.refl _ _).alloc (Nat.le_refl _) _)).next ((Below.refl _ _).alloc (Nat.le_refl _) _)).next ((Below.refl _ _).alloc (Nat.le_refl _) _)).next ((Below.refl _ _).alloc (Nat.le_refl _) _))).2))
  have HMU := Lib.hid hmu
  have HB : Hid (Below w.heap.size w (((((w.alloc (.cells #[.slice none 0 0] 22)).alloc (.cells #[.int .i64 0, .int .i64 0] 35)).alloc (.cells #[.int .i64 0] 25)).alloc (.map #[] 0)).alloc (.cells #[.slice A ts.length c, .slice none 0 0, .map (some (w.heap.size + 1 + 1 + 1)), .slice none 0 0] 108))) := Lib.hid
    (bel_lit (bel_lit (bel_lit (bel_lit (bel_lit (Below.refl _ w) _) _) _) _) _)
  have hk0 : (((((w.alloc (.cells #[.slice none 0 0] 22)).alloc (.cells #[.int .i64 0, .int .i64 0] 35)).alloc (.cells #[.int .i64 0] 25)).alloc (.map #[] 0)).alloc (.cells #[.slice A ts.length c, .slice none 0 0, .map (some (w.heap.size + 1 + 1 + 1)), .slice none 0 0] 108)).heap[w.heap.size]? = some (.cells #[.slice none 0 0] 22 (0, 0)) := by
    rw [Below.heap_alloc _ _ _ (by simp <;> omega), Below.heap_alloc _ _ _ (by simp <;> omega), Below.heap_alloc _ _ _ (by simp <;> omega), Below.heap_alloc _ _ _ (by simp)]; exact heap_alloc_new w _
  have hk1 : (((((w.alloc (.cells #[.slice none 0 0] 22)).alloc (.cells #[.int .i64 0, .int .i64 0] 35)).alloc (.cells #[.int .i64 0] 25)).alloc (.map #[] 0)).alloc (.cells #[.slice A ts.length c, .slice none 0 0, .map (some (w.heap.size + 1 + 1 + 1)), .slice none 0 0] 108)).heap[w.heap.size + 1]? = some (.cells #[.int .i64 0, .int .i64 0] 35 (0, 0)) := by
    rw [Below.heap_alloc _ _ _ (by simp <;> omega), Below.heap_alloc _ _ _ (by simp <;> omega), Below.heap_alloc _ _ _ (by simp), show w.heap.size + 1 = (w.alloc (.cells #[.slice none 0 0] 22)).heap.size by simp]; exact heap_alloc_new _ _
  have hk2 : (((((w.alloc (.cells #[.slice none 0 0] 22)).alloc (.cells #[.int .i64 0, .int .i64 0] 35)).alloc (.cells #[.int .i64 0] 25)).alloc (.map #[] 0)).alloc (.cells #[.slice A ts.length c, .slice none 0 0, .map (some (w.heap.size + 1 + 1 + 1)), .slice none 0 0] 108)).heap[w.heap.size + 1 + 1]? = some (.cells #[.int .i64 0] 25 (0, 0)) := by
    rw [Below.heap_alloc _ _ _ (by simp <;> omega), Below.heap_alloc _ _ _ (by simp), show w.heap.size + 1 + 1 = ((w.alloc (.cells #[.slice none 0 0] 22)).alloc (.cells #[.int .i64 0, .int .i64 0] 35)).heap.size by simp]; exact heap_alloc_new _ _
  have hmf : ∀ (fn : Fn) (first cap : Array Value) (w : World), (Instr.makeFunc fn first cap).run Tryz.prog w = .ok (.func fn first cap) w := fun _ _ _ _ => rfl
  have hmm := @run_makeMap Tryz.prog
  have HK0 := Lib.hid hk0
  have HK1 := Lib.hid hk1
  have HK2 := Lib.hid hk2
  have HL1 := Lib.hid hst.lo
  clear hst hmu hG hb3 hrow he hk0 hk1 hk2
  generalize aStats ts.length ⟨ts, [], [], []⟩ = r1 at *
  rcases r1 with ⟨u, s1⟩ | ⟨l, c2, x⟩
  · have HRW1 := Lib.hid (HRW.out u s1 rfl)
    have HD2 : Hid (q = aResolve s1.refs s1) := Lib.hid HD.out
    have HRS := Lib.hid fun O W (hW : St (w.heap.size + 1 + 1 + 1) (w.heap.size + 1 + 1 + 1 + 1) O W s1) (hm : mu s1 ≤ 300000) => resolve_any _ _ O s1 W hW HRW1.out hm
    clear HD HRW
    generalize aResolve s1.refs s1 = r2 at *
    rcases r2 with ⟨u2, s2⟩ | ⟨l, c2, x⟩
    · go_enter_defers Tryz.func34, Tryz.ntmps34
      go_wp2_with fail
      go_fit HSTM.out
      rintro e w2 ⟨rfl, hmu2, O2, hst2, hf2⟩
      have HF2 := Lib.hid hf2
      have HRS2 := Lib.hid (HRS.out O2 w2 hst2 (by have := HMU.out; omega))
      clear hst2 hf2 HRS HSTM HST
      go_wp2_with fail
      go_fit HRS2.out
      rintro e w3 ⟨rfl, hmu3, O3, hst3, hf3⟩
      have HF3 := Lib.hid (HF2.out.trans hf3)
      have hBw3 : Below (w.heap.size + 1 + 1 + 1) (((((w.alloc (.cells #[.slice none 0 0] 22)).alloc (.cells #[.int .i64 0, .int .i64 0] 35)).alloc (.cells #[.int .i64 0] 25)).alloc (.map #[] 0)).alloc (.cells #[.slice A ts.length c, .slice none 0 0, .map (some (w.heap.size + 1 + 1 + 1)), .slice none 0 0] 108)) w3 := HF3.out.bel HL1.out.1 HL1.out.2.2
      have k0 := (hBw3.block w.heap.size (by omega)).trans HK0.out
      have k1 := (hBw3.block (w.heap.size + 1) (by omega)).trans HK1.out
      have k2 := (hBw3.block (w.heap.size + 1 + 1) (by omega)).trans HK2.out
      have c0 : w3.cell? ⟨w.heap.size, 0, none⟩ = some (.slice none 0 0) := by rw [Lib.cell_of_heap k0]; rfl
      have c1 : w3.cell? ⟨w.heap.size + 1, 0, none⟩ = some (.int .i64 0) := by rw [Lib.cell_of_heap k1]; rfl
      have c2 : w3.cell? ⟨w.heap.size + 1, 1, none⟩ = some (.int .i64 0) := by rw [Lib.cell_of_heap k1]; rfl
      have c3 : w3.cell? ⟨w.heap.size + 1 + 1, 0, none⟩ = some (.int .i64 0) := by rw [Lib.cell_of_heap k2]; rfl
      have z0 : w3.frozen? ⟨w.heap.size, 0, none⟩ = false := Lib.frozen_of_heap k0 0
      have z1 : w3.frozen? ⟨w.heap.size + 1, 0, none⟩ = false := Lib.frozen_of_heap k1 0
      have z2 : w3.frozen? ⟨w.heap.size + 1, 1, none⟩ = false := Lib.frozen_of_heap k1 1
      have z3 : w3.frozen? ⟨w.heap.size + 1 + 1, 0, none⟩ = false := Lib.frozen_of_heap k2 0
      have HBS := Lib.hid (HB.out.trans (hBw3.mono (by omega)))
      clear k0 k1 k2 hBw3
      have HST3 := Lib.hid hst3
      obtain ⟨A3, cc3, pv, m3, ov3, hX3⟩ := hst3
      have HX3 := Lib.hid hX3
      obtain ⟨p0, p1, p2, p3, y0, y1, y2, y3⟩ := hX3.cells
      obtain ⟨⟨AP, cP, hpv⟩, _⟩ := hX3.small
      subst hpv
      have hsz3 : w.heap.size + 1 + 1 + 1 + 1 < w3.heap.size := hX3.lt.2
      have HOWN := Lib.hid (hX3.prog)
      clear hX3 hf3 HRS2
      generalize s2.prog.length = pl at *
      go_wp2
      refine leaves_cons (f := 52) (args := #[.pointer (some ⟨w.heap.size, 0, none⟩), .pointer (some ⟨w.heap.size + 1, 0, none⟩), .pointer (some ⟨w.heap.size + 1 + 1, 0, none⟩)]) (by simp) (by simp [go_sem]) ?_
      have e0 : ((((w3.setCell ⟨w.heap.size, 0, none⟩ (.slice AP pl cP)).setCell ⟨w.heap.size + 1, 0, none⟩ (.int .i64 0)).setCell ⟨w.heap.size + 1, 1, none⟩ (.int .i64 0)).setCell ⟨w.heap.size + 1 + 1, 0, none⟩ (.int .i64 0)).cell? ⟨w.heap.size, 0, none⟩ = some (.slice AP pl cP) := by go_simp
      have e1 : ((((w3.setCell ⟨w.heap.size, 0, none⟩ (.slice AP pl cP)).setCell ⟨w.heap.size + 1, 0, none⟩ (.int .i64 0)).setCell ⟨w.heap.size + 1, 1, none⟩ (.int .i64 0)).setCell ⟨w.heap.size + 1 + 1, 0, none⟩ (.int .i64 0)).cell? ⟨w.heap.size + 1, 0, none⟩ = some (.int .i64 0) := by go_simp
      have e2 : ((((w3.setCell ⟨w.heap.size, 0, none⟩ (.slice AP pl cP)).setCell ⟨w.heap.size + 1, 0, none⟩ (.int .i64 0)).setCell ⟨w.heap.size + 1, 1, none⟩ (.int .i64 0)).setCell ⟨w.heap.size + 1 + 1, 0, none⟩ (.int .i64 0)).cell? ⟨w.heap.size + 1, 1, none⟩ = some (.int .i64 0) := by go_simp
      have e3 : ((((w3.setCell ⟨w.heap.size, 0, none⟩ (.slice AP pl cP)).setCell ⟨w.heap.size + 1, 0, none⟩ (.int .i64 0)).setCell ⟨w.heap.size + 1, 1, none⟩ (.int .i64 0)).setCell ⟨w.heap.size + 1 + 1, 0, none⟩ (.int .i64 0)).cell? ⟨w.heap.size + 1 + 1, 0, none⟩ = some (.int .i64 0) := by go_simp
      have hO4 : OwnG GIns.cells 40 5 ((((w3.setCell ⟨w.heap.size, 0, none⟩ (.slice AP pl cP)).setCell ⟨w.heap.size + 1, 0, none⟩ (.int .i64 0)).setCell ⟨w.heap.size + 1, 1, none⟩ (.int .i64 0)).setCell ⟨w.heap.size + 1 + 1, 0, none⟩ (.int .i64 0)) w.heap.size (.slice AP pl cP) s2.prog := (HOWN.out.keep fun g hg => by
        have := (HOWN.out.lt g hg).1
        rw [Below.heap_setCell _ _ _ g (by simp; omega), Below.heap_setCell _ _ _ g (by simp; omega), Below.heap_setCell _ _ _ g (by simp; omega), Below.heap_setCell _ _ _ g (by simp; omega)]).base (by omega)
      have hB4 : Below w.heap.size w ((((w3.setCell ⟨w.heap.size, 0, none⟩ (.slice AP pl cP)).setCell ⟨w.heap.size + 1, 0, none⟩ (.int .i64 0)).setCell ⟨w.heap.size + 1, 1, none⟩ (.int .i64 0)).setCell ⟨w.heap.size + 1 + 1, 0, none⟩ (.int .i64 0)) := (((HBS.out.setCell (p := ⟨w.heap.size, 0, none⟩) (Nat.le_refl _) _).setCell (p := ⟨w.heap.size + 1, 0, none⟩) (by simp) _).setCell (p := ⟨w.heap.size + 1, 1, none⟩) (by simp) _).setCell (p := ⟨w.heap.size + 1 + 1, 0, none⟩) (by simp; omega) _
      have hs4 : ((((w3.setCell ⟨w.heap.size, 0, none⟩ (.slice AP pl cP)).setCell ⟨w.heap.size + 1, 0, none⟩ (.int .i64 0)).setCell ⟨w.heap.size + 1, 1, none⟩ (.int .i64 0)).setCell ⟨w.heap.size + 1 + 1, 0, none⟩ (.int .i64 0)).heap.size = w3.heap.size := by simp
      have HO4 := Lib.hid hO4
      have HB4 := Lib.hid hB4
      clear c0 c1 c2 c3 z0 z1 z2 z3 p0 p1 p2 p3 y0 y1 y2 y3 hO4 hB4
      generalize ((((w3.setCell ⟨w.heap.size, 0, none⟩ (.slice AP pl cP)).setCell ⟨w.heap.size + 1, 0, none⟩ (.int .i64 0)).setCell ⟨w.heap.size + 1, 1, none⟩ (.int .i64 0)).setCell ⟨w.heap.size + 1 + 1, 0, none⟩ (.int .i64 0)) = w4 at *
      refine (catch_idle _ _ _ w4).mono ?_
      rintro e u' w9 ⟨rfl, rfl, hb9⟩
      have d0 := (hb9.cell (p := ⟨w.heap.size, 0, none⟩) (by show w.heap.size < w4.heap.size; omega)).trans e0
      have d1 := (hb9.cell (p := ⟨w.heap.size + 1, 0, none⟩) (by show w.heap.size + 1 < w4.heap.size; omega)).trans e1
      have d2 := (hb9.cell (p := ⟨w.heap.size + 1, 1, none⟩) (by show w.heap.size + 1 < w4.heap.size; omega)).trans e2
      have d3 := (hb9.cell (p := ⟨w.heap.size + 1 + 1, 0, none⟩) (by show w.heap.size + 1 + 1 < w4.heap.size; omega)).trans e3
      have HEND : Hid (AsmEnd q w (.returned (.tuple #[.slice AP pl cP, .agg #[.int .i64 0, .int .i64 0], .int .i64 0])) w9) := Lib.hid (by
        rw [HD2.out]
        exact ⟨_, rfl, HO4.out.next hb9, bel_next HB4.out hb9⟩)
      simp only [settle]
      refine ⟨.tuple #[.slice AP pl cP, .agg #[.int .i64 0, .int .i64 0], .int .i64 0], by simp [results, Tryz.results34, go_sem, d0, d1, d2, d3], HEND.out⟩
    · have HQ : Hid (q = .thr l c2 x) := Lib.hid HD2.out
      go_enter_defers Tryz.func34, Tryz.ntmps34
      go_wp2_with fail
      go_fit HSTM.out
      rintro e w2 ⟨rfl, hmu2, O2, hst2, hf2⟩
      have HF2 := Lib.hid (hf2.bel HL1.out.1 HL1.out.2.2)
      have HRS2 := Lib.hid (HRS.out O2 w2 hst2 (by have := HMU.out; omega))
      clear hst2 hf2 HRS HSTM HST
      go_wp2_with fail
      go_fit HRS2.out
      rintro e w3 ⟨rfl, hb3⟩
      have hBw3 : Below (w.heap.size + 1 + 1 + 1) (((((w.alloc (.cells #[.slice none 0 0] 22)).alloc (.cells #[.int .i64 0, .int .i64 0] 35)).alloc (.cells #[.int .i64 0] 25)).alloc (.map #[] 0)).alloc (.cells #[.slice A ts.length c, .slice none 0 0, .map (some (w.heap.size + 1 + 1 + 1)), .slice none 0 0] 108)) w3 := HF2.out.trans hb3
      have k0 := (hBw3.block w.heap.size (by omega)).trans HK0.out
      have k1 := (hBw3.block (w.heap.size + 1) (by omega)).trans HK1.out
      have k2 := (hBw3.block (w.heap.size + 1 + 1) (by omega)).trans HK2.out
      have c0 : w3.cell? ⟨w.heap.size, 0, none⟩ = some (.slice none 0 0) := by rw [Lib.cell_of_heap k0]; rfl
      have c1 : w3.cell? ⟨w.heap.size + 1, 0, none⟩ = some (.int .i64 0) := by rw [Lib.cell_of_heap k1]; rfl
      have c2' : w3.cell? ⟨w.heap.size + 1, 1, none⟩ = some (.int .i64 0) := by rw [Lib.cell_of_heap k1]; rfl
      have c3 : w3.cell? ⟨w.heap.size + 1 + 1, 0, none⟩ = some (.int .i64 0) := by rw [Lib.cell_of_heap k2]; rfl
      have z0 : w3.frozen? ⟨w.heap.size, 0, none⟩ = false := Lib.frozen_of_heap k0 0
      have z1 : w3.frozen? ⟨w.heap.size + 1, 0, none⟩ = false := Lib.frozen_of_heap k1 0
      have z2 : w3.frozen? ⟨w.heap.size + 1, 1, none⟩ = false := Lib.frozen_of_heap k1 1
      have z3 : w3.frozen? ⟨w.heap.size + 1 + 1, 0, none⟩ = false := Lib.frozen_of_heap k2 0
      have HBS := Lib.hid (HB.out.trans (hBw3.mono (by omega)))
      clear k0 k1 k2 hBw3
      have HCF := Lib.hid (catch_failure w.heap.size (w.heap.size + 1) (w.heap.size + 1 + 1) l c2 x _ _ _ _ [] w3 (by omega) (by omega) (by omega) c0 c1 c2' c3 z0 z1 z2 z3)
      clear c0 c1 c2' c3 z0 z1 z2 z3
      go_wp2
      refine leaves_cons (f := 52) (args := #[.pointer (some ⟨w.heap.size, 0, none⟩), .pointer (some ⟨w.heap.size + 1, 0, none⟩), .pointer (some ⟨w.heap.size + 1 + 1, 0, none⟩)]) (by simp) (by simp [go_sem]) ?_
      refine HCF.out.mono ?_
      rintro e u' w9 ⟨rfl, rfl, ⟨o1, o2, o3, o4, o5, d0, d1, d2, d3⟩⟩
      have HEND : Hid (AsmEnd q w (.returned (.tuple #[.slice none 0 0, .agg #[.int .i64 l, .int .i64 c2], .int .i64 x])) w9) := Lib.hid (by
        rw [HQ.out]
        have hs := HBS.out
        exact ⟨rfl, o1.trans hs.os, o2.trans hs.tape, o3.trans hs.output, by have := hs.size; omega, fun g hg => (o5 g (by have := hs.size; omega) (by omega) (by omega) (by omega)).trans (hs.block g hg)⟩)
      simp only [settle]
      refine ⟨.tuple #[.slice none 0 0, .agg #[.int .i64 l, .int .i64 c2], .int .i64 x], by simp [results, Tryz.results34, go_sem, d0, d1, d2, d3], HEND.out⟩
  · have HQ : Hid (q = .thr l c2 x) := Lib.hid HD.out
    go_enter_defers Tryz.func34, Tryz.ntmps34
    go_wp2_with fail
    go_fit HSTM.out
    rintro e w2 ⟨rfl, hb2⟩
    have hBw2 : Below (w.heap.size + 1 + 1 + 1) (((((w.alloc (.cells #[.slice none 0 0] 22)).alloc (.cells #[.int .i64 0, .int .i64 0] 35)).alloc (.cells #[.int .i64 0] 25)).alloc (.map #[] 0)).alloc (.cells #[.slice A ts.length c, .slice none 0 0, .map (some (w.heap.size + 1 + 1 + 1)), .slice none 0 0] 108)) w2 := hb2
    have k0 := (hBw2.block w.heap.size (by omega)).trans HK0.out
    have k1 := (hBw2.block (w.heap.size + 1) (by omega)).trans HK1.out
    have k2 := (hBw2.block (w.heap.size + 1 + 1) (by omega)).trans HK2.out
    have c0 : w2.cell? ⟨w.heap.size, 0, none⟩ = some (.slice none 0 0) := by rw [Lib.cell_of_heap k0]; rfl
    have c1 : w2.cell? ⟨w.heap.size + 1, 0, none⟩ = some (.int .i64 0) := by rw [Lib.cell_of_heap k1]; rfl
    have c2' : w2.cell? ⟨w.heap.size + 1, 1, none⟩ = some (.int .i64 0) := by rw [Lib.cell_of_heap k1]; rfl
    have c3 : w2.cell? ⟨w.heap.size + 1 + 1, 0, none⟩ = some (.int .i64 0) := by rw [Lib.cell_of_heap k2]; rfl
    have z0 : w2.frozen? ⟨w.heap.size, 0, none⟩ = false := Lib.frozen_of_heap k0 0
    have z1 : w2.frozen? ⟨w.heap.size + 1, 0, none⟩ = false := Lib.frozen_of_heap k1 0
    have z2 : w2.frozen? ⟨w.heap.size + 1, 1, none⟩ = false := Lib.frozen_of_heap k1 1
    have z3 : w2.frozen? ⟨w.heap.size + 1 + 1, 0, none⟩ = false := Lib.frozen_of_heap k2 0
    have HBS := Lib.hid (HB.out.trans (hBw2.mono (by omega)))
    clear k0 k1 k2 hBw2
    have HCF := Lib.hid (catch_failure w.heap.size (w.heap.size + 1) (w.heap.size + 1 + 1) l c2 x _ _ _ _ [] w2 (by omega) (by omega) (by omega) c0 c1 c2' c3 z0 z1 z2 z3)
    clear c0 c1 c2' c3 z0 z1 z2 z3
    go_wp2
    refine leaves_cons (f := 52) (args := #[.pointer (some ⟨w.heap.size, 0, none⟩), .pointer (some ⟨w.heap.size + 1, 0, none⟩), .pointer (some ⟨w.heap.size + 1 + 1, 0, none⟩)]) (by simp) (by simp [go_sem]) ?_
    refine HCF.out.mono ?_
    rintro e u' w9 ⟨rfl, rfl, ⟨o1, o2, o3, o4, o5, d0, d1, d2, d3⟩⟩
    have HEND : Hid (AsmEnd q w (.returned (.tuple #[.slice none 0 0, .agg #[.int .i64 l, .int .i64 c2], .int .i64 x])) w9) := Lib.hid (by
      rw [HQ.out]
      have hs := HBS.out
      exact ⟨rfl, o1.trans hs.os, o2.trans hs.tape, o3.trans hs.output, by have := hs.size; omega, fun g hg => (o5 g (by have := hs.size; omega) (by omega) (by omega) (by omega)).trans (hs.block g hg)⟩)
    simp only [settle]
    refine ⟨.tuple #[.slice none 0 0, .agg #[.int .i64 l, .int .i64 c2], .int .i64 x], by simp [results, Tryz.results34, go_sem, d0, d1, d2, d3], HEND.out⟩
end Go.Proofs.YtahhmgoffdggpaaGreatDoor


namespace Go.Proofs.YtahhmgoffdggpaaGreatDoor

open Go.RowKit Go.Shelf

def asmAll (l : List UInt8) : ARes Unit :=
  match scan l with
  | .no x y e => .thr x y e
  | .ok toks => aAll (toks.map Tok.g ++ [endTok l])
def PosV (W : World) (N : Nat) : Prop := W.heap[N]? = some (.cells #[.int .i64 0, .int .i64 0] 35 (0, 0))
theorem PosV.lt {W : World} {N : Nat} (h : PosV W N) : N < W.heap.size := heap_lt h
theorem PosV.next {W W' : World} {N : Nat} (h : PosV W N) (hb : Below W.heap.size W W') : PosV W' N := (hb.block N h.lt).trans h
theorem PosV.facts {W : World} {N : Nat} (h : PosV W N) : W.cell? ⟨N, 0, none⟩ = some (.int .i64 0) ∧ W.cell? ⟨N, 1, none⟩ = some (.int .i64 0) ∧ W.frozen? ⟨N, 0, none⟩ = false ∧ W.frozen? ⟨N, 1, none⟩ = false := by
  unfold PosV at h
  exact ⟨by rw [Lib.cell_of_heap h]; rfl, by rw [Lib.cell_of_heap h]; rfl, Lib.frozen_of_heap h 0, Lib.frozen_of_heap h 1⟩
set_option maxRecDepth 50000 in
set_option maxHeartbeats 1000000 in
theorem asm_any (l : List UInt8) (w : World) (hl : l.length ≤ maxLen) (hG : Glob w) (hF : GlobF w) :
    Calls Tryz.prog 15 #[.string ⟨l.toArray⟩] w (AsmEnd (asmAll l) w) := by
  have hSC := scan_any l (w.alloc (.cells #[.int .i64 0, .int .i64 0] 35)) (hG.next (bel_lit (Below.refl _ w) _)) hl
  have HPV : Hid (PosV (w.alloc (.cells #[.int .i64 0, .int .i64 0] 35)) w.heap.size) := Lib.hid (heap_alloc_new w _)
  cases hsc : scan l with
  | no x y er =>
    rw [hsc] at hSC
    unfold ScanEnd at hSC
    simp only at hSC
    have he0 := scan_err hsc
    have hne : (er : Int) ≠ 0 := by omega
    have HPA : Hid (asmAll l = .thr x y er) := Lib.hid (by unfold asmAll; rw [hsc])
    have HNE := Lib.hid hne
    have HS := Lib.hid hSC
    generalize asmAll l = q at *
    generalize (er : Int) = ei at *
    generalize (x : Int) = xi at *
    generalize (y : Int) = yi at *
    have f1 : (ei != 0) = true := by simp [HNE.out]
    clear hSC hG hF hsc he0 hne
    go_enter Tryz.func15, Tryz.ntmps15
    go_wp2_with fail
    go_fit HS.out
    rintro e w1 ⟨rfl, hb1⟩
    have HB1 := Lib.hid (bel_alloc (Below.refl _ w) hb1)
    obtain ⟨q0, q1, z0, z1⟩ := (HPV.out.next hb1).facts
    have hz1 : w.heap.size < w1.heap.size := (HPV.out.next hb1).lt
    have HBF : Hid (Below w.heap.size w (((w1.setCell ⟨w.heap.size, 0, none⟩ (.int .i64 xi)).setCell ⟨w.heap.size, 1, none⟩ (.int .i64 yi)).alloc (.cells #[.int .i64 xi, .int .i64 yi] 35)).drew) := Lib.hid ((bel_lit ((HB1.out.setCell (p := ⟨w.heap.size, 0, none⟩) (Nat.le_refl _) _).setCell (p := ⟨w.heap.size, 1, none⟩) (Nat.le_refl _) _) _).drew)
    clear hb1 HS HPV
    go_upto_region 3 with fail
    go_region
    go_wp2
    refine bodyPost_ret (v := .tuple #[.slice none 0 0, .agg #[.int .i64 xi, .int .i64 yi], .int .i64 ei]) (by simp [results, Tryz.results15, go_sem, q0, q1, hz1]) rfl ?_
    rw [HPA.out]
    exact ⟨rfl, HBF.out⟩
  | ok toks =>
    rw [hsc] at hSC
    unfold ScanEnd at hSC
    simp only at hSC
    have hl16 := (scan_tokB hsc).1
    have htl := scan_count hsc
    have HS := Lib.hid hSC
    have HE := Lib.hid fun W => endPos_any l W hl16
    have HTE := Lib.hid (scan_ends hsc)
    have HPA : Hid (asmAll l = aAll (toks.map Tok.g ++ [endTok l])) := Lib.hid (by unfold asmAll; rw [hsc])
    have HET : Hid (endTok l = ⟨0, [], 0, (endTok l).line, (endTok l).col⟩) := Lib.hid rfl
    have HGF := Lib.hid hF
    generalize asmAll l = q at *
    generalize endTok l = et at *
    obtain ⟨ek, etx, ev, x, y⟩ := et
    have het := HET.out
    simp only at het HE
    injection het with k1 k2 k3
    subst k1 k2 k3
    clear hSC hG hF hsc HET hl16
    go_enter Tryz.func15, Tryz.ntmps15
    go_wp2_with fail
    go_fit HS.out
    rintro e w1 ⟨v1, rfl, hown1, hb1⟩
    obtain ⟨A1, c1, rfl, _, _⟩ := hown1.row
    have HO1 := Lib.hid hown1
    have HB1 := Lib.hid (bel_alloc (Below.refl _ w) hb1)
    have HK1 := Lib.hid (HPV.out.next hb1)
    have hz1 : w.heap.size < w1.heap.size := (HPV.out.next hb1).lt
    clear hown1 hb1 HPV
    go_wp2_with fail
    go_fit (HE.out _)
    rintro e w2 ⟨rfl, hb2⟩
    have HB2 := Lib.hid hb2
    have hz2 : w1.heap.size < w2.heap.size := by have := hb2.size; simp at this; omega
    have hown2 : OwnG GTok.cells 80 5 w2 (w.heap.size + 1) (.slice A1 (toks.map Tok.g).length c1) (toks.map Tok.g) := by
      have h1 : OwnG GTok.cells 80 5 w1 (w.heap.size + 1 + 1) (.slice A1 (toks.map Tok.g).length c1) (toks.map Tok.g) := by
        have h := HO1.out
        have e : (w.alloc (.cells #[.int .i64 0, .int .i64 0] 35)).heap.size + 1 = w.heap.size + 1 + 1 := by simp
        rw [e] at h
        exact h
      exact ((h1.alloc _).next hb2).base (by omega)
    have hlit := GRow.lit GTok.len5 w2 80 [⟨0, [], 0, x, y⟩] #[.int .i64 0, .string ⟨#[]⟩, .int .u64 0, .int .i64 x, .int .i64 y] rfl (by unfold maxLen; simp)
    obtain ⟨v3, w3, hrun3, hown3, hgr3, _⟩ := OwnG.app elt_tok GTok.len5 cells_one (hown2.alloc (.cells #[.int .i64 0, .string ⟨#[]⟩, .int .u64 0, .int .i64 x, .int .i64 y] 80)) 1 hlit (by simp; omega) (by unfold maxLen; simp; omega) (by simp; omega)
    obtain ⟨A3, c3, rfl, hc3, hm3, hr3⟩ := hown3.row GTok.len5
    have HRUN := Lib.hid hrun3
    have HB3 := Lib.hid (below_of_own (bel_lit (bel_next (bel_lit HB1.out _) hb2) _) hgr3 (fun g hg => by have := (hown2.lt g hg).1; omega))
    have hs3 := hgr3.size
    have hk3 : PosV w3 w.heap.size := by
      unfold PosV
      rw [hgr3.block _ (by simp; omega) (by intro e; have := (hown2.lt _ e.symm).1; omega), Below.heap_alloc _ _ _ (by omega), hb2.block _ (by simp; omega), Below.heap_alloc _ _ _ hz1]
      exact HK1.out
    have HK3 := Lib.hid hk3
    have hlt3 : (toks.map Tok.g ++ [(⟨0, [], 0, x, y⟩ : GTok)]).length ≤ 100000 := by simp; omega
    have HAS := Lib.hid (assemble_any _ A3 c3 w3 (HGF.out.next HB3.out) HTE.out hr3 hc3 hm3 hlt3)
    generalize aAll (toks.map Tok.g ++ [(⟨0, [], 0, x, y⟩ : GTok)]) = r at *
    have hll : (toks.map Tok.g ++ [(⟨0, [], 0, x, y⟩ : GTok)]).length = toks.length + 1 := by simp
    generalize (toks.map Tok.g ++ [(⟨0, [], 0, x, y⟩ : GTok)]).length = tn at *
    simp only [List.length_singleton] at HRUN
    rw [show (toks.map Tok.g).length = toks.length by simp] at HRUN
    clear hown2 hlit hrun3 hown3 hgr3 hr3 hb2 hk3 hc3 hm3 hs3 HTE hlt3 hll
    rcases r with ⟨u, s⟩ | ⟨l2, c2, x2⟩
    · go_wp2_with (at_builtin; refine wpList_gapp HRUN.out rfl rfl rfl rfl rfl ?_)
      go_fit HAS.out
      rintro e w4 ⟨pv, rfl, hown4, hb4⟩
      obtain ⟨A4, c4, rfl, _, _, _⟩ := hown4.row GIns.len
      obtain ⟨q0, q1, z0, z1⟩ := (HK3.out.next hb4).facts
      have hz4 : w.heap.size < w4.heap.size := (HK3.out.next hb4).lt
      have hOF : OwnG GIns.cells 40 5 ((w4.setCell ⟨w.heap.size, 0, none⟩ (.int .i64 0)).setCell ⟨w.heap.size, 1, none⟩ (.int .i64 0)) w.heap.size (.slice A4 s.prog.length c4) s.prog := (hown4.keep fun g hg => by
        have := (hown4.lt g hg).1
        have := HK3.out.lt
        rw [Below.heap_setCell _ _ _ g (by simp; omega), Below.heap_setCell _ _ _ g (by simp; omega)]).base (by have := HK3.out.lt; omega)
      have HEND : Hid (AsmEnd q w (.returned (.tuple #[.slice A4 s.prog.length c4, .agg #[.int .i64 0, .int .i64 0], .int .i64 0])) ((w4.setCell ⟨w.heap.size, 0, none⟩ (.int .i64 0)).setCell ⟨w.heap.size, 1, none⟩ (.int .i64 0))) := Lib.hid (by
        rw [HPA.out]
        exact ⟨_, rfl, hOF, ((bel_next HB3.out hb4).setCell (p := ⟨w.heap.size, 0, none⟩) (Nat.le_refl _) _).setCell (p := ⟨w.heap.size, 1, none⟩) (Nat.le_refl _) _⟩)
      clear hown4 hb4 hOF
      generalize s.prog.length = pl at *
      go_wp2
      refine bodyPost_ret (v := .tuple #[.slice A4 pl c4, .agg #[.int .i64 0, .int .i64 0], .int .i64 0]) (by simp [results, Tryz.results15, go_sem, q0, q1]) rfl ?_
      exact HEND.out
    · go_wp2_with (at_builtin; refine wpList_gapp HRUN.out rfl rfl rfl rfl rfl ?_)
      go_fit HAS.out
      rintro e w4 ⟨rfl, hb4⟩
      obtain ⟨q0, q1, z0, z1⟩ := (HK3.out.next hb4).facts
      have hz4 : w.heap.size < w4.heap.size := (HK3.out.next hb4).lt
      have HEND : Hid (AsmEnd q w (.returned (.tuple #[.slice none 0 0, .agg #[.int .i64 l2, .int .i64 c2], .int .i64 x2])) ((w4.setCell ⟨w.heap.size, 0, none⟩ (.int .i64 l2)).setCell ⟨w.heap.size, 1, none⟩ (.int .i64 c2))) := Lib.hid (by
        rw [HPA.out]
        exact ⟨rfl, ((bel_next HB3.out hb4).setCell (p := ⟨w.heap.size, 0, none⟩) (Nat.le_refl _) _).setCell (p := ⟨w.heap.size, 1, none⟩) (Nat.le_refl _) _⟩)
      clear hb4
      go_wp2
      refine bodyPost_ret (v := .tuple #[.slice none 0 0, .agg #[.int .i64 l2, .int .i64 c2], .int .i64 x2]) (by simp [results, Tryz.results15, go_sem, q0, q1]) rfl ?_
      exact HEND.out
end Go.Proofs.YtahhmgoffdggpaaGreatDoor


namespace Go.Proofs.YtahhmgoffdggpaaGreatDoor

open Go.RowKit Go.Shelf

theorem run_app9 (p : UInt8 → Bool) (d : UInt8) (hd : p d = false) (m : List UInt8) : ∀ (t : List UInt8), t.all p = true → run p (t ++ d :: m) = t.length := by
  intro t
  induction t with
  | nil => intro _; simp [run, hd]
  | cons a r ih => intro h; simp only [List.all_cons, Bool.and_eq_true] at h; rw [List.cons_append, run_cons_pos h.1, ih h.2]; rfl
/-- A numeral: its first byte a digit, all of it letters or digits, its value x. -/
structure Numl (l : List UInt8) (x : Nat) : Prop where
  len : l.length ≤ 100
  all : l.all isWB = true
  dig : ∃ c r, l = c :: r ∧ isDig c = true
  val : num l = .val x
theorem numl_lex {l : List UInt8} {x : Nat} (h : Numl l x) (q : Nat × Nat) : lex 0 q (l ++ [59]) = .ok [⟨2, [], x, q.1, q.2⟩, ⟨4, [59], 0, (adv q l).1, (adv q l).2⟩] := by
  obtain ⟨c, r, rfl, hc⟩ := h.dig
  have hd : digI (c.toNat : Int) = true := hc
  simp only [digI, decide_eq_true_eq] at hd
  have hsp : isSp c = false := by simp [isSp, spI]; omega
  have h35 : c ≠ 35 := by rintro rfl; simp at hd
  have hr := run_app9 isWB 59 (by rfl) [] (c :: r) h.all
  have hn := h.val
  have hs : step (c :: r ++ [59]) = first (c :: r ++ [59]) := by simp [step, hsp, h35]
  have hf : first (c :: r ++ [59]) = match num (c :: r) with | .bad => .err 50 | .big => .err 6 | .val v => .tok 2 [] v (c :: r).length := by
    rw [List.cons_append] at hr ⊢
    simp only [first, if_pos hc, hr]
    rw [← List.cons_append, List.take_left]
    rfl
  rw [hn] at hf
  rw [lex_tk _ (by simp) (hs.trans hf), List.drop_left, List.take_left]
  rw [lex_tk _ (by simp) (show step [59] = .tok 4 [59] 0 1 from rfl)]
  show ((lex 0 _ []).cons _).cons _ = _
  rw [lex_nil]; rfl
theorem scan_small9 {l : List UInt8} (h : l.length ≤ 65536) : scan l = lex 0 (1, 1) l := by unfold scan; rw [if_neg (by omega)]
def imT (sg : Bool) (l : List UInt8) : List UInt8 := [108, 105, 32, 114, 51, 44, 32] ++ ((if sg then [45] else []) ++ (l ++ [59]))
theorem imT_scan {l : List UInt8} {x : Nat} (h : Numl l x) (sg : Bool) : ∃ a b, scan (imT sg l) = .ok ([⟨1, [108, 105], 0, 1, 1⟩, ⟨1, [114, 51], 0, 1, 4⟩, ⟨4, [44], 0, 1, 6⟩] ++ ((if sg then [⟨4, [45], 0, 1, 8⟩] else []) ++ [⟨2, [], x, 1, if sg then 9 else 8⟩, ⟨4, [59], 0, a, b⟩])) := by
  have hl := h.len
  obtain ⟨c, r, hcr, hc⟩ := h.dig
  have hd : digI (c.toNat : Int) = true := hc
  simp only [digI, decide_eq_true_eq] at hd
  have hsm : (imT sg l).length ≤ 65536 := by unfold imT; cases sg <;> simp <;> omega
  have h1 : ∀ m : List UInt8, lex 0 (1, 1) (108 :: 105 :: 32 :: 114 :: 51 :: 44 :: 32 :: m) = (((lex 0 (1, 8) m).cons ⟨4, [44], 0, 1, 6⟩).cons ⟨1, [114, 51], 0, 1, 4⟩).cons ⟨1, [108, 105], 0, 1, 1⟩ := fun m => by
    rw [lex_tk _ (by simp) (show step (108 :: 105 :: 32 :: 114 :: 51 :: 44 :: 32 :: m) = .tok 1 [108, 105] 0 2 from rfl)]
    show (lex 0 (1, 3) (32 :: 114 :: 51 :: 44 :: 32 :: m)).cons _ = _
    rw [lex_sk _ (by simp) (show step (32 :: 114 :: 51 :: 44 :: 32 :: m) = .skip 1 from rfl)]
    show (lex 0 (1, 4) (114 :: 51 :: 44 :: 32 :: m)).cons _ = _
    rw [lex_tk _ (by simp) (show step (114 :: 51 :: 44 :: 32 :: m) = .tok 1 [114, 51] 0 2 from rfl)]
    show ((lex 0 (1, 6) (44 :: 32 :: m)).cons _).cons _ = _
    rw [lex_tk _ (by simp) (show step (44 :: 32 :: m) = .tok 4 [44] 0 1 from rfl)]
    show (((lex 0 (1, 7) (32 :: m)).cons _).cons _).cons _ = _
    rw [lex_sk _ (by simp) (show step (32 :: m) = .skip 1 from rfl)]
    rfl
  rw [scan_small9 hsm]
  cases sg
  · refine ⟨(adv (1, 8) l).1, (adv (1, 8) l).2, ?_⟩
    show lex 0 (1, 1) (108 :: 105 :: 32 :: 114 :: 51 :: 44 :: 32 :: (l ++ [59])) = _
    rw [h1, numl_lex h]; rfl
  · refine ⟨(adv (1, 9) l).1, (adv (1, 9) l).2, ?_⟩
    show lex 0 (1, 1) (108 :: 105 :: 32 :: 114 :: 51 :: 44 :: 32 :: 45 :: (l ++ [59])) = _
    have hst : step (45 :: (l ++ [59])) = .tok 4 [45] 0 1 := by
      rw [hcr]
      have hne : c ≠ 62 := by rintro rfl; simp at hd
      have e : ∀ m : List UInt8, step (45 :: c :: m) = marked (45 :: c :: m) := fun m => rfl
      have hp : punct [45, c] = false := by simp [punct, marks2, hne]
      rw [List.cons_append, e]
      unfold marked
      rw [if_neg (by show ¬ (_ ∧ punct [45, c] = true); rw [hp]; simp), if_pos (by rfl)]
      rfl
    rw [h1, lex_tk _ (by simp) hst]
    show ((((lex 0 (1, 9) (l ++ [59])).cons _).cons _).cons _).cons _ = _
    rw [numl_lex h]; rfl
theorem toks_pos {x a b : Nat} {e : GTok} (he : e.kind = 0) (h : x ≤ 2147483647) : ∃ s, aAll [⟨1, [108, 105], 0, 1, 1⟩, ⟨1, [114, 51], 0, 1, 4⟩, ⟨4, [44], 0, 1, 6⟩, ⟨2, [], x, 1, 8⟩, ⟨4, [59], 0, a, b⟩, e] = .ok () s ∧ s.prog = [⟨1, 3, 0, 0, x⟩] := by
  have h1 : regNo [114, 51] = some 3 := by decide
  have h2 : opNo [108, 105] = some 1 := by decide
  have h3 : (fmtN 1).2 = (1, 1) := by decide
  have h4 : ¬ (2147483647 : Int) < (x : Int) := by omega
  refine ⟨⟨[e], [⟨1, 3, 0, 0, x⟩], [], []⟩, ?_, rfl⟩
  simp [aAll, aStats, aLabels, atLab, ASt.hd, ASt.next, isMk, aInstr, aTake, ARes.bind, h1, h2, h3, aOps, aRegs, aComma, aReg, aLast, aMark, aImm, aNumber, h4, aResolve, he]
theorem toks_neg {x a b : Nat} {e : GTok} (he : e.kind = 0) (h : x ≤ 2147483648) : ∃ s, aAll [⟨1, [108, 105], 0, 1, 1⟩, ⟨1, [114, 51], 0, 1, 4⟩, ⟨4, [44], 0, 1, 6⟩, ⟨4, [45], 0, 1, 8⟩, ⟨2, [], x, 1, 9⟩, ⟨4, [59], 0, a, b⟩, e] = .ok () s ∧ s.prog = [⟨1, 3, 0, 0, -x⟩] := by
  have h1 : regNo [114, 51] = some 3 := by decide
  have h2 : opNo [108, 105] = some 1 := by decide
  have h3 : (fmtN 1).2 = (1, 1) := by decide
  have h4 : ¬ (2147483648 : Int) < (x : Int) := by omega
  refine ⟨⟨[e], [⟨1, 3, 0, 0, -x⟩], [], []⟩, ?_, rfl⟩
  simp [aAll, aStats, aLabels, atLab, ASt.hd, ASt.next, isMk, aInstr, aTake, ARes.bind, h1, h2, h3, aOps, aRegs, aComma, aReg, aLast, aMark, aImm, aNumber, h4, aResolve, he]
theorem toks_pos_big {x a b : Nat} {e : GTok} (h : 2147483647 < x) : aAll [⟨1, [108, 105], 0, 1, 1⟩, ⟨1, [114, 51], 0, 1, 4⟩, ⟨4, [44], 0, 1, 6⟩, ⟨2, [], x, 1, 8⟩, ⟨4, [59], 0, a, b⟩, e] = .thr 1 8 6 := by
  have h1 : regNo [114, 51] = some 3 := by decide
  have h2 : opNo [108, 105] = some 1 := by decide
  have h3 : (fmtN 1).2 = (1, 1) := by decide
  have h4 : (2147483647 : Int) < (x : Int) := by omega
  simp [aAll, aStats, aLabels, atLab, ASt.hd, ASt.next, isMk, aInstr, aTake, ARes.bind, thrAt, h1, h2, h3, aOps, aRegs, aComma, aReg, aLast, aMark, aImm, aNumber, h4]
theorem toks_neg_big {x a b : Nat} {e : GTok} (h : 2147483648 < x) : aAll [⟨1, [108, 105], 0, 1, 1⟩, ⟨1, [114, 51], 0, 1, 4⟩, ⟨4, [44], 0, 1, 6⟩, ⟨4, [45], 0, 1, 8⟩, ⟨2, [], x, 1, 9⟩, ⟨4, [59], 0, a, b⟩, e] = .thr 1 9 6 := by
  have h1 : regNo [114, 51] = some 3 := by decide
  have h2 : opNo [108, 105] = some 1 := by decide
  have h3 : (fmtN 1).2 = (1, 1) := by decide
  have h4 : (2147483648 : Int) < (x : Int) := by omega
  simp [aAll, aStats, aLabels, atLab, ASt.hd, ASt.next, isMk, aInstr, aTake, ARes.bind, thrAt, h1, h2, h3, aOps, aRegs, aComma, aReg, aLast, aMark, aImm, aNumber, h4]
/-- What the assembler says of 'li r3, number;' and of 'li r3, -number;'. -/
theorem imm_ok {l : List UInt8} {x : Nat} (h : Numl l x) (sg : Bool) (hx : x ≤ if sg then 2147483648 else 2147483647) : ∃ s, asmAll (imT sg l) = .ok () s ∧ s.prog = [⟨1, 3, 0, 0, if sg then -x else x⟩] := by
  obtain ⟨a, b, hs⟩ := imT_scan h sg
  unfold asmAll
  rw [hs]
  cases sg
  · exact toks_pos (by rfl) hx
  · exact toks_neg (by rfl) hx
theorem imm_big {l : List UInt8} {x : Nat} (h : Numl l x) (sg : Bool) (hx : (if sg then 2147483648 else 2147483647) < x) : asmAll (imT sg l) = .thr 1 (if sg then 9 else 8) 6 := by
  obtain ⟨a, b, hs⟩ := imT_scan h sg
  unfold asmAll
  rw [hs]
  cases sg
  · exact toks_pos_big hx
  · exact toks_neg_big hx
end Go.Proofs.YtahhmgoffdggpaaGreatDoor
