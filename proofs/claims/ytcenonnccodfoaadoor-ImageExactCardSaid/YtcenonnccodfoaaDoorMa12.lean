/-
  The program's writeFields: numbers written into the fields of what stands in a buffer.
  Conditions: as the theorem says.
  The program's writeHeader and writeEntry: the header, and a module's entry, written into a buffer.
  Conditions: as each theorem says.
  The program's Build: the error of a list of modules, or its image.
  Conditions: at most a million modules; names that a string can have.
-/
import Derived.Test.YtcenonnccodfoaaDoorMa11
import Derived.Laws.MakeOwn
namespace Go.Proofs.YtcenonnccodfoaaDoor

open Go.RowKit

theorem NumsAt.cell {w : World} {q : Nat} {vs : List Nat} (h : NumsAt w q vs) {k : Nat} (hk : k < vs.length) : w.cell? ⟨q, k, none⟩ = some (.int .u32 (vs[k] : Int)) := by
  rw [RowT.cell h]; simp [hk]
theorem FieldsAt.cell {w : World} {p : Nat} {fs : List (Nat × Nat)} (h : FieldsAt w p fs) {k : Nat} (hk : k < fs.length) : w.cell? ⟨p, k * 2, none⟩ = some (.int .i64 (fs[k].1 : Int)) ∧ w.cell? ⟨p, k * 2 + 1, none⟩ = some (.int .i64 (fs[k].2 : Int)) := by
  rw [RowT.cell h, RowT.cell h]
  exact fcells_get fs k hk
def WrEnd (g o : Nat) (L : List UInt8) (fs : List (Nat × Nat)) (vs : List Nat) (w : World) (e : Ending) (w' : World) : Prop := e = .returned (.tuple #[]) ∧ Buf w' g (wrF L o fs vs) ∧ w.grownBy w' (some g)
set_option maxRecDepth 50000 in
set_option maxHeartbeats 1000000 in
theorem writeFields_any (g o n c : Nat) (L : List UInt8) (p q : Nat) (fs : List (Nat × Nat)) (vs : List Nat) (w : World) (hb : Buf w g L) (ho : o + n ≤ L.length) (hc : n ≤ c) (hF : FieldsAt w p fs) (hV : NumsAt w q vs) (hpg : p ≠ g) (hqg : q ≠ g) (hl : fs.length = vs.length)
    (hfs : ∀ f ∈ fs, f.1 + f.2 ≤ n ∧ 1 ≤ f.2 ∧ f.2 ≤ 4) (hvs : ∀ v ∈ vs, v < 4294967296) (hn : n ≤ 4294967296) (hk : fs.length ≤ 1000) :
    Calls Tryd.prog 42 #[.slice (some ⟨g, o, none⟩) n c, .slice (some ⟨p, 0, none⟩) fs.length fs.length, .slice (some ⟨q, 0, none⟩) fs.length fs.length] w (WrEnd g o L fs vs w) := by
  have HF := Lib.hid hF
  have HV := Lib.hid hV
  have HL := Lib.hid hl
  have HFS := Lib.hid hfs
  have HVS := Lib.hid hvs
  have HLK := Lib.hid (length_wrK L o n fs vs hl (fun f hf => (hfs f hf).1) ho)
  have HB0 := Lib.hid hb
  have hgw := hb.lt
  clear hF hV hl hfs hvs hb
  go_enter Tryd.func42, Tryd.ntmps42
  go_wp2_with fail
  go_loopw [10] (fun vi wr => ∃ k : Nat, vi = .int .i64 k ∧ k ≤ fs.length ∧ Hid (Buf wr g (wrK L o fs vs k)) ∧ Hid (w.grownBy wr (some g))) (fun vi _ => fs.length - (intOf vi).toNat)
  case atStart => exact ⟨0, rfl, Nat.zero_le _, HB0, Lib.hid (gb_refl _)⟩
  case round =>
    obtain ⟨k, rfl, hkk, HT, HG⟩ := hrel
    rcases Nat.lt_or_ge k fs.length with hlt | hge
    · have hlv : k < vs.length := by have := HL.out; omega
      obtain ⟨z0, z1⟩ := FieldsAt.cell (RowT.gb HF.out HG.out hpg) hlt
      have hv0 := NumsAt.cell (RowT.gb HV.out HG.out hqg) hlv
      obtain ⟨hf1, hf2, hf3⟩ := HFS.out _ (List.getElem_mem hlt)
      have hv1 := HVS.out _ (List.getElem_mem hlv)
      have HSU := Lib.hid (wrK_succ L o fs vs k hlt hlv)
      have hlk := HLK.out k (by omega)
      generalize wrK L o fs vs k = Lk at *
      generalize hL1 : wrK L o fs vs (k + 1) = Lk1 at *
      have HL1 := Lib.hid hL1
      clear hL1
      generalize hfk : fs[k] = fk at *
      generalize vs[k] = vk at *
      obtain ⟨fo, fz⟩ := fk
      simp only at z0 z1 hf1 hf2 hf3 HSU
      have hqw := RowT.lt HV.out
      have hgs := HG.out.size
      go_upto_region 3 with fail
      have hb0 : Below wr.heap.size wr (wr.alloc (.cells #[.int .i64 (fo : Int), .int .i64 (fz : Int)] 82)) := bel_lit8 (Below.refl _ wr) _
      have hnew : (wr.alloc (.cells #[.int .i64 (fo : Int), .int .i64 (fz : Int)] 82)).heap[wr.heap.size]? = some (.cells #[.int .i64 (fo : Int), .int .i64 (fz : Int)] 82 (0, 0)) := heap_alloc_new wr _
      have hg1 : w.grownBy (wr.alloc (.cells #[.int .i64 (fo : Int), .int .i64 (fz : Int)] 82)) (some g) := gb_trans HG.out (gb_bel hb0)
      generalize (wr.alloc (.cells #[.int .i64 (fo : Int), .int .i64 (fz : Int)] 82)) = W1 at *
      have HG1 := Lib.hid hg1
      have HBF : Hid (Buf W1 g Lk) := Lib.hid (HT.out.below hb0)
      generalize hN : wr.heap.size = N at *
      have y0 : W1.cell? ⟨N, 0, none⟩ = some (.int .i64 (fo : Int)) := by rw [Lib.cell_of_heap hnew]; rfl
      have y1 : W1.cell? ⟨N, 1, none⟩ = some (.int .i64 (fz : Int)) := by rw [Lib.cell_of_heap hnew]; rfl
      have y2 : W1.cell? ⟨q, k, none⟩ = some (.int .u32 (vk : Int)) := (hb0.cell (p := ⟨q, k, none⟩) (by show q < N; omega)).trans hv0
      have hcut : ∀ W : World, (Instr.slice 23 (.slice (some ⟨g, o, none⟩) n c) (some (.int .i64 (fo : Int))) (some (.int .i64 ((fo : Int) + (fz : Int)))) none).run Tryd.prog W = .ok (.slice (some ⟨g, o + fo, none⟩) fz (c - fo)) W := fun W => by
        have h := cut_both (some ⟨g, o, none⟩) n c fo (fo + fz) (by omega) (by omega) W
        rw [run_sliceAt_slice _ _ _ _ _ _ byte_elem, cutA_at g o c fo (by omega), Nat.add_sub_cancel_left] at h
        rw [← h]; rfl
      have hcut2 : ∀ W : World, (Instr.sliceAt 23 (.slice (some ⟨g, o, none⟩) n c) (some (.int .i64 (fo : Int))) (some (.int .i64 ((fo : Int) + (fz : Int)))) none).run Tryd.prog W = .ok (.slice (some ⟨g, o + fo, none⟩) fz (c - fo)) W := fun W => by
        have h := cut_both (some ⟨g, o, none⟩) n c fo (fo + fz) (by omega) (by omega) W
        rw [cutA_at g o c fo (by omega), Nat.add_sub_cancel_left] at h
        rw [← h]; rfl
      have hwr : IntKind.i64.wrap ((fo : Int) + (fz : Int)) = (fo : Int) + (fz : Int) := by rw [IntKind.wrap_i64]; omega
      have HCP : Hid (∀ W g' ty, W1.grownBy W (some g) → Buf W g Lk → RowAt W g' (vals (leB vk 4)) → ∃ v' w', (Builtin.copy_ #[23, 23] ty #[.slice (some ⟨g, o + fo, none⟩) fz (c - fo), .slice (some ⟨g', 0, none⟩) 4 4]).run Tryd.prog W = .ok v' w' ∧ (Buf w' g Lk1 ∧ w.grownBy w' (some g) ∧ W.grownBy w' (some g))) := Lib.hid fun W g' ty hW hbf hr => by
        have hm : min 4 fz = fz := Nat.min_eq_right hf3
        have h := hbf.copy (o := o + fo) (dLen := fz) (c - fo) 4 (RowAt.byt' hr hr.lt (length_leB _ _)) (fun _ => rfl) (by rw [hm]; omega) ty
        rw [hm, leB_take _ _ _ hf3, ← HSU.out] at h
        exact ⟨_, _, h, hbf.set _, gb_trans (gb_trans HG1.out hW) (bufW_gb _ _ _), bufW_gb _ _ _⟩
      have HKS : Hid (∀ W W' : World, (W1.grownBy W (some g) ∧ W.cell? ⟨N, 0, none⟩ = some (.int .i64 (fo : Int)) ∧ W.cell? ⟨N, 1, none⟩ = some (.int .i64 (fz : Int)) ∧ W.cell? ⟨q, k, none⟩ = some (.int .u32 (vk : Int))) → W.grownBy W' (some g) →
          (W1.grownBy W' (some g) ∧ W'.cell? ⟨N, 0, none⟩ = some (.int .i64 (fo : Int)) ∧ W'.cell? ⟨N, 1, none⟩ = some (.int .i64 (fz : Int)) ∧ W'.cell? ⟨q, k, none⟩ = some (.int .u32 (vk : Int)))) := Lib.hid fun W W' h hb => by
        obtain ⟨h0, h1, h2, h3⟩ := h
        have key : ∀ {N j : Nat} {v : Value}, N ≠ g → W.cell? ⟨N, j, none⟩ = some v → W'.cell? ⟨N, j, none⟩ = some v := fun {N j v} hne h => by
          have hb2 := hb.block N (World.block_lt_of_cell? W _ h) (fun e => hne (by cases e; rfl))
          rw [← h]; simp only [World.cell?, hb2]
        exact ⟨gb_trans h0 hb, key (by omega) h1, key (by omega) h2, key hqg h3⟩
      have HAP : Hid (∀ W, Calls Tryd.prog 52 #[.slice none 0 0, .int .u32 (vk : Int)] W fun e w' => ∃ g', e = .returned (.slice (some ⟨g', 0, none⟩) 4 4) ∧ RowAt w' g' (vals (leB vk 4)) ∧ Below W.heap.size W w') := Lib.hid fun W => (app32_any none 0 0 0 vk [] W Byt.nil (Nat.zero_le _) (by omega) hv1).mono fun e w' h => by
        obtain ⟨g', e1, _, h2, h3⟩ := h
        exact ⟨g', e1, h2, h3⟩
      have hS4 := HKS.out W1 W1.drew ⟨gb_refl _, y0, y1, y2⟩ (gb_bel (Below.refl _ _).drew)
      have HBD : Hid (∀ W', Below W1.heap.size W1.drew W' → Buf W' g Lk) := Lib.hid fun W' h => HBF.out.drew.below h
      clear hb0 hnew hg1 y0 y1 y2 z0 z1 hv0 hfk
      go_region_held3 (fun W => W1.grownBy W (some g) ∧ W.cell? ⟨N, 0, none⟩ = some (.int .i64 (fo : Int)) ∧ W.cell? ⟨N, 1, none⟩ = some (.int .i64 (fz : Int)) ∧ W.cell? ⟨q, k, none⟩ = some (.int .u32 (vk : Int)))
        (assumption)
        (first
          | (go_at_call 52; go_fit (HAP.out _); rintro e w3 ⟨g3, rfl, hr3, hb3⟩; have hSn := HKS.out _ _ (by assumption) (gb_bel hb3); have hbf3 := HBD.out _ hb3)
          | (refine step_copy_ex (HCP.out _ _ _ (And.left (by assumption)) (by assumption) (by assumption)) rfl rfl rfl rfl ?_; rintro v5 w5 ⟨hbf5, hgb5, hgc5⟩; have hS5 := HKS.out _ _ (by assumption) hgc5))
      all_goals
        have HT5 := Lib.hid hbf5
        have HG5 := Lib.hid hgb5
        clear hbf5 hgb5 hgc5 hS5 hbf3 hSn hb3 hr3 hS4
        go_wp2
        go_roundw
        case rel => exact ⟨k + 1, by go_num, by omega, by rw [HL1.out]; exact HT5, HG5⟩
        case measure => simp [intOf]; omega
    · have he : k = fs.length := by omega
      subst he
      have HEND : Hid (WrEnd g o L fs vs w (.returned (.tuple #[])) wr) := Lib.hid ⟨rfl, by rw [← wrK_all L o fs vs HL.out]; exact HT.out, HG.out⟩
      go_wp2
      go_end0
      exact HEND.out
end Go.Proofs.YtcenonnccodfoaaDoor


namespace Go.Proofs.YtcenonnccodfoaaDoor

open Go.RowKit

theorem headF_ok {n : Nat} (h : 16 ≤ n) : ∀ f ∈ headF, f.1 + f.2 ≤ n ∧ 1 ≤ f.2 ∧ f.2 ≤ 4 := by
  intro f hf
  simp [headF] at hf
  rcases hf with rfl | rfl | rfl | rfl <;> simp <;> omega
theorem entF_ok {n : Nat} (h : 48 ≤ n) : ∀ f ∈ entF, f.1 + f.2 ≤ n ∧ 1 ≤ f.2 ∧ f.2 ≤ 4 := by
  intro f hf
  simp [entF] at hf
  rcases hf with rfl | rfl | rfl | rfl | rfl | rfl <;> simp <;> omega
def HeadEnd (g n : Nat) (L : List UInt8) (w : World) (e : Ending) (w' : World) : Prop := e = .returned (.tuple #[]) ∧ Buf w' g (wrH L n) ∧ w.grownBy w' (some g)
set_option maxRecDepth 50000 in
set_option maxHeartbeats 1000000 in
theorem writeHeader_any (g n c : Nat) (L : List UInt8) (w : World) (hb : Buf w g L) (hl : 16 ≤ L.length) (hL : L.length ≤ 16777216) (hc : L.length ≤ c) (hn : n ≤ 64) :
    Calls Tryd.prog 28 #[.slice (some ⟨g, 0, none⟩) L.length c, .int .i64 (n : Int)] w (HeadEnd g n L w) := by
  have hgw := hb.lt
  have HB0 := Lib.hid hb
  have hcp := hb.copyS (o := 0) (dLen := L.length) c [77, 75, 66, 73] (by simp; omega) (by simp; omega) 3 9
  have HCP := Lib.hid hcp
  have HW1 : Hid (Buf (bufW w g (patch L 0 [77, 75, 66, 73])) g (patch L 0 [77, 75, 66, 73]) ∧ w.grownBy (bufW w g (patch L 0 [77, 75, 66, 73])) (some g)) := Lib.hid ⟨hb.set _, bufW_gb _ _ _⟩
  have hpl : (patch L 0 [77, 75, 66, 73]).length = L.length := length_patch (by simp; omega)
  have HWH : Hid (wrH L n = wrF (patch L 0 [77, 75, 66, 73]) 0 headF [1, n, L.length, crcOf ((patch L 0 [77, 75, 66, 73]).drop 16)]) := Lib.hid (by
    unfold wrH
    have e : (patch L 0 [77, 75, 66, 73]).drop 16 = L.drop 16 := by
      unfold patch
      rw [List.take_zero, List.nil_append, List.drop_append, List.drop_drop]
      simp
    rw [e])
  clear hb hcp
  generalize bufW w g (patch L 0 [77, 75, 66, 73]) = W1 at *
  generalize patch L 0 [77, 75, 66, 73] = L1 at *
  generalize hlen : L.length = m at *
  go_enter Tryd.func28, Tryd.ntmps28
  have hcp := HCP.out
  go_upto_region 1 with fail
  clear hcp
  obtain ⟨hb1, hg1⟩ := HW1.out
  have hgw1 := hb1.lt
  have HB1 := Lib.hid hb1
  have HG1 := Lib.hid hg1
  have hcn : IntKind.u32.wrap (n : Int) = (n : Int) := by rw [IntKind.wrap_u32]; omega
  have hcm : IntKind.u32.wrap (m : Int) = (m : Int) := by rw [IntKind.wrap_u32]; omega
  have hcut : ∀ W : World, (Instr.slice 23 (.slice (some ⟨g, 0, none⟩) m c) (some (.int .i64 16)) none none).run Tryd.prog W = .ok (.slice (cutA (some ⟨g, 0, none⟩) c 16) (m - 16) (c - 16)) W := fun W => by
    have h := cut_from (some ⟨g, 0, none⟩) m c 16 (by omega) W
    rw [run_sliceAt_slice _ _ _ _ _ _ byte_elem] at h
    exact h
  have hcut2 : ∀ W : World, (Instr.sliceAt 23 (.slice (some ⟨g, 0, none⟩) m c) (some (.int .i64 16)) none none).run Tryd.prog W = .ok (.slice (cutA (some ⟨g, 0, none⟩) c 16) (m - 16) (c - 16)) W := fun W => cut_from (some ⟨g, 0, none⟩) m c 16 (by omega) W
  have HHF : Hid (∀ W, W1.grownBy W (some g) → Buf W g L1 → Calls Tryd.prog 45 #[] W fun e w' => ∃ p, e = .returned (.slice (some ⟨p, 0, none⟩) 4 4) ∧ FieldsAt w' p headF ∧ p ≠ g ∧ Buf w' g L1 ∧ W1.grownBy w' (some g)) := Lib.hid fun W hW hbw => (headF_any W).mono fun e w' h => by
    obtain ⟨e1, h2, h3⟩ := h
    exact ⟨_, e1, h2, by have := hbw.lt; omega, hbw.below h3, gb_trans hW (gb_bel h3)⟩
  have HCR : Hid (∀ W, Buf W g L1 → Calls Tryd.prog 44 #[.slice (cutA (some ⟨g, 0, none⟩) c 16) (m - 16) (c - 16)] W fun e w' => e = .returned (.int .u32 (crcOf (L1.drop 16) : Nat)) ∧ W = w') := Lib.hid fun W hbw => by
    have h := (hbw.byt 0 m (by omega)).cut (cap := c) (j := 16) (k := m) (by omega) (Nat.le_refl _) (by omega)
    rw [List.drop_zero, show L1.take m = L1 from List.take_of_length_le (by omega), show L1.take m = L1 from List.take_of_length_le (by omega)] at h
    exact crc_any _ _ _ _ _ W h (by unfold maxLen; omega)
  have HWF : Hid (∀ W p, Buf W g L1 → FieldsAt W p headF → p ≠ g → Calls Tryd.prog 42 #[.slice (some ⟨g, 0, none⟩) m c, .slice (some ⟨p, 0, none⟩) 4 4, .slice (some ⟨W.heap.size, 0, none⟩) 4 4] (W.alloc (.cells #[.int .u32 1, .int .u32 (n : Int), .int .u32 (m : Int), .int .u32 (crcOf (L1.drop 16) : Nat)] 43)) fun e w' => e = .returned (.tuple #[]) ∧ Buf w' g (wrH L n) ∧ W.grownBy w' (some g)) := Lib.hid fun W p hbw hfw hne => by
    have hbel := bel_lit8 (Below.refl W.heap.size W) (.cells #[.int .u32 1, .int .u32 (n : Int), .int .u32 (m : Int), .int .u32 (crcOf (L1.drop 16) : Nat)] 43)
    have hlt := hbw.lt
    have h := writeFields_any g 0 m c L1 p W.heap.size headF [1, n, m, crcOf (L1.drop 16)] (W.alloc (.cells #[.int .u32 1, .int .u32 (n : Int), .int .u32 (m : Int), .int .u32 (crcOf (L1.drop 16) : Nat)] 43)) (hbw.below hbel) (by omega) hc (RowT.below hfw hbel (RowT.lt hfw)) (heap_alloc_new W _) hne (by omega) rfl (headF_ok hl) (by
      intro v hv
      simp at hv
      have := crc_lt (L1.drop 16)
      rcases hv with rfl | rfl | rfl | rfl <;> omega) (by omega) (by decide)
    exact h.mono fun e w' h => ⟨h.1, by rw [HWH.out]; exact h.2.1, gb_trans (gb_bel hbel) h.2.2⟩
  have hS4 : W1.grownBy W1.drew (some g) := gb_bel (Below.refl _ _).drew
  have hB4 : Buf W1.drew g L1 := hb1
  clear hb1 hg1
  go_region_held3 (fun W => W1.grownBy W (some g))
    (first | assumption | exact gb_trans (by assumption) (gb_bel (bel_lit8 (Below.refl _ _) _)))
    (first
      | (go_at_call 45; go_fit (HHF.out _ (by assumption) (by assumption)); rintro e w2 ⟨p2, rfl, hf2, hne2, hb2, hg2⟩)
      | (go_at_call 44; go_fit (HCR.out _ (by assumption)); rintro e w3 ⟨rfl, rfl⟩)
      | (go_at_call 42; go_fit (HWF.out _ _ (by assumption) (by assumption) (by assumption)); rintro e w4 ⟨rfl, hb4, hg4⟩; have hg5 := gb_trans (by assumption) hg4))
  go_end0
  exact ⟨rfl, hb4, gb_trans HG1.out hg5⟩
theorem Byt.gbB {w w' : World} {B n g : Nat} {A : Option Addr} {l : List UInt8} (h : Byt w B A n l) (hg : w.grownBy w' (some g)) (hB : B ≤ g) (hgw : g < w.heap.size) : Byt w' B A n l :=
  ⟨h.1, h.2.keep fun p hp => by
    have := hg.block p.block (by omega) (fun e => by cases e; omega)
    simp only [World.cell?, this]⟩
def EntEnd (g o : Nat) (L : List UInt8) (m : GMod) (off : Nat) (w : World) (e : Ending) (w' : World) : Prop := e = .returned (.tuple #[]) ∧ Buf w' g (wrE L o m off) ∧ w.grownBy w' (some g)
set_option maxRecDepth 50000 in
set_option maxHeartbeats 1000000 in
theorem writeEntry_nat (g o n c off B : Nat) (L : List UInt8) (nm d : List UInt8) (kk wd en : Nat) (A : Option Addr) (dc : Nat) (w : World) (hb : Buf w g L) (ho : o + n ≤ L.length) (hn : 48 ≤ n) (hL : L.length ≤ 16777216) (hc : n ≤ c)
    (hnm : nm.length ≤ 24) (hkk : kk < 4294967296) (hwd : wd < 4294967296) (hen : en < 4294967296) (hd : d.length < 4294967296) (hoff : off < 4294967296) (hrow : Byt w B A d.length d) (hB : B ≤ g) :
    Calls Tryd.prog 26 #[.slice (some ⟨g, o, none⟩) n c, .agg #[.string ⟨nm.toArray⟩, .int .i64 (kk : Int), .int .i64 (wd : Int), .int .i64 (en : Int), .slice A d.length dc], .int .i64 (off : Int)] w (EntEnd g o L ⟨nm, kk, wd, en, d⟩ off w) := by
  have hgw := hb.lt
  have hnew : (w.alloc (.cells #[.string ⟨nm.toArray⟩, .int .i64 (kk : Int), .int .i64 (wd : Int), .int .i64 (en : Int), .slice A d.length dc] 41)).heap[w.heap.size]? = some (.cells #[.string ⟨nm.toArray⟩, .int .i64 (kk : Int), .int .i64 (wd : Int), .int .i64 (en : Int), .slice A d.length dc] 41 (0, 0)) := heap_alloc_new w _
  have hbel := bel_lit8 (Below.refl w.heap.size w) (.cells #[.string ⟨nm.toArray⟩, .int .i64 (kk : Int), .int .i64 (wd : Int), .int .i64 (en : Int), .slice A d.length dc] 41)
  have HWE : Hid (wrE L o ⟨nm, kk, wd, en, d⟩ off = wrF (patch L o nm) o entF [kk, wd, en, off, d.length, crcOf d]) := Lib.hid (by simp only [wrE, Int.toNat_natCast])
  go_enter Tryd.func26, Tryd.ntmps26
  go_upto_region 1 with fail
  generalize (w.alloc (.cells #[.string ⟨nm.toArray⟩, .int .i64 (kk : Int), .int .i64 (wd : Int), .int .i64 (en : Int), .slice A d.length dc] 41)) = Wa at *
  generalize hN : w.heap.size = N at *
  have hba : Buf Wa g L := by rw [← hN] at hbel; exact hb.below hbel
  have hcp := hba.copyS (o := o) (dLen := n) c nm (by omega) (by omega) 3 9
  have hW1 := hba.set (patch L o nm)
  have hG1 := bufW_gb Wa g (patch L o nm)
  have hpl : (patch L o nm).length = L.length := length_patch (by omega)
  have hra : Byt Wa B A d.length d := hrow.below (hbel.mono (by omega))
  have hgwa := hba.lt
  have hrow1 : Byt (bufW Wa g (patch L o nm)) B A d.length d := hra.gbB hG1 hB hgwa
  have hnew1 : (bufW Wa g (patch L o nm)).heap[N]? = Wa.heap[N]? := hG1.block N (lt_heap hnew) (fun e => by cases e; omega)
  rw [hnew] at hnew1
  have x0 : Wa.cell? ⟨N, 0, none⟩ = some (.string ⟨nm.toArray⟩) := by rw [Lib.cell_of_heap hnew]; rfl
  have HGW : Hid (w.grownBy (bufW Wa g (patch L o nm)) (some g)) := Lib.hid (gb_trans (gb_bel (by rw [hN]; exact hbel)) hG1)
  have x1 : (bufW Wa g (patch L o nm)).cell? ⟨N, 1, none⟩ = some (.int .i64 (kk : Int)) := by rw [Lib.cell_of_heap hnew1]; rfl
  have x2 : (bufW Wa g (patch L o nm)).cell? ⟨N, 2, none⟩ = some (.int .i64 (wd : Int)) := by rw [Lib.cell_of_heap hnew1]; rfl
  have x3 : (bufW Wa g (patch L o nm)).cell? ⟨N, 3, none⟩ = some (.int .i64 (en : Int)) := by rw [Lib.cell_of_heap hnew1]; rfl
  have x4 : (bufW Wa g (patch L o nm)).cell? ⟨N, 4, none⟩ = some (.slice A d.length dc) := by rw [Lib.cell_of_heap hnew1]; rfl
  clear hG1 hnew1 hnew hbel hra hrow hba hb
  generalize bufW Wa g (patch L o nm) = W1 at *
  generalize patch L o nm = L1 at *
  go_upto_region 2 with fail
  clear hcp x0
  have hgw1 := hW1.lt
  have HRW := Lib.hid hrow1
  have c1 : IntKind.u32.wrap (kk : Int) = (kk : Int) := by rw [IntKind.wrap_u32]; omega
  have c2 : IntKind.u32.wrap (wd : Int) = (wd : Int) := by rw [IntKind.wrap_u32]; omega
  have c3 : IntKind.u32.wrap (en : Int) = (en : Int) := by rw [IntKind.wrap_u32]; omega
  have c4 : IntKind.u32.wrap (off : Int) = (off : Int) := by rw [IntKind.wrap_u32]; omega
  generalize hdl : d.length = dl at *
  have c5 : IntKind.u32.wrap (dl : Int) = (dl : Int) := by rw [IntKind.wrap_u32]; omega
  have HEF : Hid (∀ W, W1.grownBy W (some g) → Buf W g L1 → Calls Tryd.prog 43 #[] W fun e w' => ∃ p, e = .returned (.slice (some ⟨p, 0, none⟩) 6 6) ∧ FieldsAt w' p entF ∧ p ≠ g ∧ Buf w' g L1 ∧ W1.grownBy w' (some g) ∧ W.grownBy w' (some g)) := Lib.hid fun W hW hbw => (entF_any W).mono fun e w' h => by
    obtain ⟨e1, h2, h3⟩ := h
    exact ⟨_, e1, h2, by have := hbw.lt; omega, hbw.below h3, gb_trans hW (gb_bel h3), gb_bel h3⟩
  have HCR : Hid (∀ W, W1.grownBy W (some g) → Calls Tryd.prog 44 #[.slice A dl dc] W fun e w' => e = .returned (.int .u32 (crcOf d : Nat)) ∧ W = w') := Lib.hid fun W hW =>
    crc_any _ _ _ _ _ W (HRW.out.gbB hW hB hgw1) (by unfold maxLen; omega)
  have HWF : Hid (∀ W p, Buf W g L1 → FieldsAt W p entF → p ≠ g → Calls Tryd.prog 42 #[.slice (some ⟨g, o, none⟩) n c, .slice (some ⟨p, 0, none⟩) 6 6, .slice (some ⟨W.heap.size, 0, none⟩) 6 6] (W.alloc (.cells #[.int .u32 (kk : Int), .int .u32 (wd : Int), .int .u32 (en : Int), .int .u32 (off : Int), .int .u32 (dl : Int), .int .u32 (crcOf d : Nat)] 43)) fun e w' => e = .returned (.tuple #[]) ∧ Buf w' g (wrE L o ⟨nm, kk, wd, en, d⟩ off) ∧ W.grownBy w' (some g)) := Lib.hid fun W p hbw hfw hne => by
    have hbel := bel_lit8 (Below.refl W.heap.size W) (.cells #[.int .u32 (kk : Int), .int .u32 (wd : Int), .int .u32 (en : Int), .int .u32 (off : Int), .int .u32 (dl : Int), .int .u32 (crcOf d : Nat)] 43)
    have hlt := hbw.lt
    have h := writeFields_any g o n c L1 p W.heap.size entF [kk, wd, en, off, dl, crcOf d] (W.alloc (.cells #[.int .u32 (kk : Int), .int .u32 (wd : Int), .int .u32 (en : Int), .int .u32 (off : Int), .int .u32 (dl : Int), .int .u32 (crcOf d : Nat)] 43)) (hbw.below hbel) (by omega) hc (RowT.below hfw hbel (RowT.lt hfw)) (heap_alloc_new W _) hne (by omega) rfl (entF_ok hn) (by
      intro v hv
      simp at hv
      have := crc_lt d
      rcases hv with rfl | rfl | rfl | rfl | rfl | rfl <;> omega) (by omega) (by decide)
    exact h.mono fun e w' h => ⟨h.1, by rw [HWE.out]; exact h.2.1, gb_trans (gb_bel hbel) h.2.2⟩
  have HKS : Hid (∀ W W' : World, (W1.grownBy W (some g) ∧ W.cell? ⟨N, 1, none⟩ = some (.int .i64 (kk : Int)) ∧ W.cell? ⟨N, 2, none⟩ = some (.int .i64 (wd : Int)) ∧ W.cell? ⟨N, 3, none⟩ = some (.int .i64 (en : Int)) ∧ W.cell? ⟨N, 4, none⟩ = some (.slice A dl dc)) → W.grownBy W' (some g) →
      (W1.grownBy W' (some g) ∧ W'.cell? ⟨N, 1, none⟩ = some (.int .i64 (kk : Int)) ∧ W'.cell? ⟨N, 2, none⟩ = some (.int .i64 (wd : Int)) ∧ W'.cell? ⟨N, 3, none⟩ = some (.int .i64 (en : Int)) ∧ W'.cell? ⟨N, 4, none⟩ = some (.slice A dl dc))) := Lib.hid fun W W' h hb => by
    obtain ⟨h0, h1, h2, h3, h4⟩ := h
    have key : ∀ {j : Nat} {v : Value}, W.cell? ⟨N, j, none⟩ = some v → W'.cell? ⟨N, j, none⟩ = some v := fun {j v} h => by
      have hb2 := hb.block N (World.block_lt_of_cell? W _ h) (fun e => by cases e; omega)
      rw [← h]; simp only [World.cell?, hb2]
    exact ⟨gb_trans h0 hb, key h1, key h2, key h3, key h4⟩
  have hS4 := HKS.out W1 W1.drew ⟨gb_refl _, x1, x2, x3, x4⟩ (gb_bel (Below.refl _ _).drew)
  have hB4 : Buf W1.drew g L1 := hW1
  clear hW1 hrow1 x1 x2 x3 x4
  go_region_held3 (fun W => W1.grownBy W (some g) ∧ W.cell? ⟨N, 1, none⟩ = some (.int .i64 (kk : Int)) ∧ W.cell? ⟨N, 2, none⟩ = some (.int .i64 (wd : Int)) ∧ W.cell? ⟨N, 3, none⟩ = some (.int .i64 (en : Int)) ∧ W.cell? ⟨N, 4, none⟩ = some (.slice A dl dc))
    (first | assumption | exact HKS.out _ _ (by assumption) (gb_bel (bel_lit8 (Below.refl _ _) _)))
    (first
      | (go_at_call 43; go_fit (HEF.out _ (And.left (by assumption)) (by assumption)); rintro e w2 ⟨p2, rfl, hf2, hne2, hb2, hg2, hg2'⟩; have hSn := HKS.out _ _ (by assumption) hg2')
      | (go_at_call 44; go_fit (HCR.out _ (And.left (by assumption))); rintro e w3 ⟨rfl, rfl⟩)
      | (go_at_call 42; go_fit (HWF.out _ _ (by assumption) (by assumption) (by assumption)); rintro e w4 ⟨rfl, hb4, hg4⟩; have hg5 := HKS.out _ _ (by assumption) hg4))
  go_end0
  exact ⟨rfl, hb4, gb_trans HGW.out hg5.1⟩
theorem writeEntry_any (g o n c off B : Nat) (L : List UInt8) (s : SMod) (m : GMod) (w : World) (hb : Buf w g L) (ho : o + n ≤ L.length) (hn : 48 ≤ n) (hL : L.length ≤ 16777216) (hc : n ≤ c) (hm : MHold w B s m) (hf : FitM m) (hoff : off < 4294967296) (hB : B ≤ g) :
    Calls Tryd.prog 26 #[.slice (some ⟨g, o, none⟩) n c, s.val, .int .i64 (off : Int)] w (EntEnd g o L m off w) := by
  obtain ⟨nm, mk, mw, me, d⟩ := m
  obtain ⟨sn, sk, sw, se, sA, sl, sc⟩ := s
  have hdn := hm.n
  obtain ⟨h1, h2, h3, h4, h5, _⟩ := hm
  obtain ⟨f1, _, f3, f4, f5, f6⟩ := hf
  simp only at h1 h2 h3 h4 h5 f1 f3 f4 f5 f6 hdn
  subst h1 h2 h3 h4 hdn
  obtain ⟨kk, rfl⟩ := Int.eq_ofNat_of_zero_le f3.1
  obtain ⟨wd, rfl⟩ := Int.eq_ofNat_of_zero_le f4.1
  obtain ⟨en, rfl⟩ := Int.eq_ofNat_of_zero_le f5.1
  exact writeEntry_nat g o n c off B L sn d kk wd en sA sc w hb ho hn hL hc f1 (by omega) (by omega) (by omega) f6 hoff h5 hB
end Go.Proofs.YtcenonnccodfoaaDoor


namespace Go.Proofs.YtcenonnccodfoaaDoor

open Go.RowKit

theorem errM_chk (ms : List GMod) : errM ms = if chkL ms = 0 then (if 16777216 < endM (startM ms) ms then 15 else 0) else chkL ms := by
  unfold errM chkL
  by_cases h : 64 < ms.length
  · rw [if_pos h, if_pos h, if_neg (by decide)]
  · rw [if_neg h, if_neg h]
theorem chkL_few {ms : List GMod} (h : chkL ms = 0) : ms.length ≤ 64 := by
  unfold chkL at h
  split at h
  · cases h
  · omega
theorem made_zeros (n : Nat) : madeCells (Value.int .u8 0).cells (n * 1) = (vals (zerosL n)).toArray := by
  show madeCells #[Value.int .u8 0] (n * 1) = _
  apply Array.ext
  · simp [madeCells, vals, zerosL]
  · intro i h1 h2
    simp [madeCells, vals, zerosL, Nat.mod_one]
theorem make_bytes (n : Nat) (hn : n ≤ 16777216) (W : World) : (Instr.makeSlice 23 (.int .i64 (n : Int)) (.int .i64 (n : Int))).run Tryd.prog W = .ok (.slice (some ⟨W.heap.size, 0, none⟩) n n) (W.alloc (.cells (vals (zerosL n)).toArray 5)) := by
  obtain ⟨i, hi, hz0, hz1, hz2⟩ := info_parts byte_info
  have h := run_make W 23 5 i _ Tryd.underlying23 hi hz0 .i64 .i64 (n : Int) (n : Int) (by omega) (by omega) (by rw [hz2]; omega) (by omega)
  rw [h, Int.toNat_natCast, hz1, made_zeros]
def BuildEnd (ms : List GMod) (w : World) (e : Ending) (w' : World) : Prop :=
  Below w.heap.size w w' ∧ ∃ A c, e = .returned (.tuple #[.slice A (imgM ms).length c, .int .i64 (errM ms)]) ∧ Byt w' w'.heap.size A (imgM ms).length (imgM ms) ∧ (imgM ms).length ≤ c
theorem BuildEnd.bad {ms : List GMod} {w w' : World} {x : Int} (hb : Below w.heap.size w w') (h : errM ms = x) (hx : x ≠ 0) : BuildEnd ms w (.returned (.tuple #[.slice none 0 0, .int .i64 x])) w' := by
  have e : imgM ms = [] := by unfold imgM; rw [if_neg (by rw [h]; exact hx)]
  unfold BuildEnd
  rw [e, h]
  exact ⟨hb, none, 0, rfl, Byt.nil, Nat.le_refl _⟩
set_option maxRecDepth 50000 in
set_option maxHeartbeats 1000000 in
theorem pBuild_any (ms : List GMod) (ss : List SMod) (A : Option Addr) (c : Nat) (w : World) (hb : MRow w w.heap.size A ss ms) (hn : ms.length ≤ 1000000) (hcap : ms.length ≤ c) (hnm : ∀ m ∈ ms, m.name.length ≤ 140737488355328) :
    Calls Tryd.prog 13 #[.slice A ms.length c] w (BuildEnd ms w) := by
  have HB := Lib.hid hb
  have hlen := hb.len
  have HCK := Lib.hid (pCheck_any ms ss A c w hb hn hcap hnm)
  have HEC := Lib.hid (errM_chk ms)
  have HFW := Lib.hid (chkL_few (ms := ms))
  have hnot : ∀ (x : Bool) (w : World), (Op.unary .not (.bool x)).run Tryd.prog w = .ok (.bool (!x)) w := fun _ _ => rfl
  clear hb hnm
  generalize hck : chkL ms = ck at *
  go_enter Tryd.func13, Tryd.ntmps13
  go_wp2_with fail
  go_fit HCK.out
  rintro e w1 ⟨rfl, hb1⟩
  have HB1 := Lib.hid hb1
  clear hb1
  by_cases hc0 : ck = 0
  case neg =>
    have f0 : (ck != 0) = true := by simp [hc0]
    have HEND : Hid (BuildEnd ms w (.returned (.tuple #[.slice none 0 0, .int .i64 ck])) w1) := Lib.hid (BuildEnd.bad HB1.out (by rw [HEC.out, if_neg hc0]) hc0)
    clear hc0 hck
    go_wp2
    go_ret2
    exact HEND.out
  have f0 : (ck != 0) = false := by simp [hc0]
  have hfew := HFW.out hc0
  have HE2 : Hid (errM ms = if 16777216 < endM (startM ms) ms then 15 else 0) := Lib.hid (by rw [HEC.out, if_pos hc0])
  have HPL := Lib.hid (place_any ms ss A c w1 (HB.out.next HB1.out) hfew)
  clear HEC HFW
  go_wp2_with fail
  go_fit HPL.out
  rintro e w2 ⟨hb2, hpe⟩
  rcases hpe with ⟨hbig, rfl⟩ | ⟨hsm, A2, c2, rfl, hof⟩
  · have HEND : Hid (BuildEnd ms w (.returned (.tuple #[.slice none 0 0, .int .i64 15])) w2) := Lib.hid (BuildEnd.bad (bel_next8 HB1.out hb2) (by rw [HE2.out, if_pos hbig]) (by decide))
    clear hbig hb2
    go_wp2
    go_ret2
    exact HEND.out
  have HGD : Hid (errM ms = 0) := Lib.hid (by rw [HE2.out, if_neg (by omega)])
  have g0 := errM_good HGD.out
  have hnm : ∀ m ∈ ms, m.name.length ≤ 24 := fun m hm => (g0.fit m hm).name
  have HNM := Lib.hid hnm
  have HFIT := Lib.hid g0.fit
  have hes := end_start ms
  have HOV := Lib.hid fun (k : Nat) (h : k < ms.length) => end_over (ms := ms) h
  have HLB := Lib.hid fun (k : Nat) (h : k ≤ ms.length) => length_bufL hnm h
  have HLE := Lib.hid fun (k : Nat) (h : k < ms.length) => length_bufE hnm h
  have HBE := Lib.hid fun (k : Nat) (h : k < ms.length) => bufL_entry hnm h
  have HBD := Lib.hid fun (k : Nat) (h : k < ms.length) => bufE_data hnm h
  have HWF := Lib.hid (wrH_full hnm)
  have HZ := Lib.hid (bufL_zero ms)
  have HIM : Hid (imgM ms = imageL ms ∧ (imageL ms).length = endM (startM ms) ms) := Lib.hid ⟨by unfold imgM; rw [if_pos HGD.out], length_image hnm⟩
  have HB2 := Lib.hid (HB.out.next (bel_next8 HB1.out hb2))
  have HBW := Lib.hid (bel_next8 HB1.out hb2)
  have HOF := Lib.hid hof
  clear HE2 HPL hb2 hof hnm g0 HCK HB1 hck
  generalize hE : endM (startM ms) ms = E at *
  have HMK := make_bytes E hsm w2
  go_upto_region 8 with fail
  have hb3 : Below w2.heap.size w2 (w2.alloc (.cells (vals (zerosL E)).toArray 5)) := bel_lit8 (Below.refl _ w2) _
  have hbf3 : Buf (w2.alloc (.cells (vals (zerosL E)).toArray 5)) w2.heap.size (bufL ms 0) := by rw [HZ.out]; exact heap_alloc_new w2 _
  have HBU := Lib.hid hbf3
  have HW3 := Lib.hid hb3
  clear HMK hbf3 hb3 hE
  generalize (w2.alloc (.cells (vals (zerosL E)).toArray 5)) = w3 at *
  generalize hG : w2.heap.size = g at *
  have HGB : Hid (∀ W, w3.grownBy W (some g) → Below g w2 W) := Lib.hid fun W hW => by
    have := bel_gb (by rw [hG]; exact HW3.out) (by rw [hG]; exact Nat.le_refl _) hW
    rwa [hG] at this
  go_wp2_with fail
  go_loopw [28] (fun vi wr => ∃ k : Nat, vi = .int .i64 k ∧ k ≤ ms.length ∧ Hid (Buf wr g (bufL ms k)) ∧ Hid (w3.grownBy wr (some g))) (fun vi _ => ms.length - (intOf vi).toNat)
  case atStart => exact ⟨0, rfl, Nat.zero_le _, HBU, Lib.hid (gb_refl _)⟩
  case round =>
    obtain ⟨k, rfl, hk, HT, HG⟩ := hrel
    rcases Nat.lt_or_ge k ms.length with hlt | hge
    · have hls : k < ss.length := by omega
      have hbr : Below g w2 wr := HGB.out _ HG.out
      have hg3 : g < wr.heap.size := HT.out.lt
      obtain ⟨b1, o1, rfl, hb1, z0, z1, z2, z3, z4⟩ := (HB2.out.row.below (Nat.le_refl _) hbr).mod5 hls
      obtain ⟨b2, o2, rfl, hb2, q0⟩ := (HOF.out.below (Nat.le_refl _) hbr).nat1 (i := k) (by rw [offsL_len]; exact hlt)
      rw [offsL_get] at q0
      have hold := HB2.out.each k hls hlt
      have hfit := HFIT.out _ (List.getElem_mem hlt)
      have HBEk := Lib.hid (HBE.out k hlt)
      have HBDk := Lib.hid (HBD.out k hlt)
      have hlb := HLB.out k hk
      have hle := HLE.out k hlt
      have hov := HOV.out k hlt
      have hoff16 : 16 + 48 * k + 48 ≤ E := by omega
      generalize hof : endM (startM ms) (ms.take k) = off at *
      generalize bufL ms k = Lk at *
      generalize bufE ms k = Le at *
      generalize hl1 : bufL ms (k + 1) = Lk1 at *
      have HL1 := Lib.hid hl1
      generalize ms[k] = y at *
      generalize ss[k] = t at *
      have HO := Lib.hid hold
      have hdn := hold.n
      have HFT := Lib.hid hfit
      obtain ⟨tn, tk, tw, te, tA, tl, tc⟩ := t
      simp only at hdn z0 z1 z2 z3 z4
      subst hdn
      have hW1 : Below wr.heap.size wr (wr.alloc (objM ⟨tn, tk, tw, te, tA, y.data.length, tc⟩)) := bel_lit8 (Below.refl _ wr) _
      have hAT : ModAt (wr.alloc (objM ⟨tn, tk, tw, te, tA, y.data.length, tc⟩)) wr.heap.size ⟨tn, tk, tw, te, tA, y.data.length, tc⟩ := heap_alloc_new wr _
      clear hold hfit hl1 hof
      go_upto_region 11 with fail
      unfold objM at hW1 hAT
      simp only at hW1 hAT
      generalize (wr.alloc (.cells #[.string ⟨tn.toArray⟩, .int .i64 tk, .int .i64 tw, .int .i64 te, .slice tA y.data.length tc] 41)) = W1 at *
      have HG1 := Lib.hid (gb_trans HG.out (gb_bel hW1))
      have HT1 := Lib.hid (HT.out.below hW1)
      have q1 : W1.cell? ⟨b2, o2 + k, none⟩ = some (.int .i64 (off : Int)) := (hW1.cell (p := ⟨b2, o2 + k, none⟩) (by show b2 < wr.heap.size; omega)).trans q0
      generalize hN : wr.heap.size = N at *
      obtain ⟨x0, x1, x2, x3, x4⟩ := hAT.cells
      simp only at x0 x1 x2 x3 x4
      clear hW1 hAT z0 z1 z2 z3 z4 q0
      obtain ⟨q, hq⟩ : ∃ q : Nat, q = 16 + 48 * k := ⟨_, rfl⟩
      rw [← hq] at HBEk hoff16
      have HEA : Hid (∀ W, Calls Tryd.prog 27 #[.int .i64 (k : Int)] W fun e w' => e = .returned (.int .i64 (q : Int)) ∧ W = w') := Lib.hid fun W => by
        have h := entryAt_any k W (by omega)
        rwa [← hq] at h
      have HWE : Hid (∀ W, W1.grownBy W (some g) → Buf W g Lk → Calls Tryd.prog 26 #[.slice (some ⟨g, q, none⟩) (E - q) (E - q), .agg #[.string ⟨tn.toArray⟩, .int .i64 tk, .int .i64 tw, .int .i64 te, .slice tA y.data.length tc], .int .i64 (off : Int)] W fun e w' => e = .returned (.tuple #[]) ∧ Buf w' g Le ∧ W.grownBy w' (some g)) := Lib.hid fun W hW hbf => by
        have h := writeEntry_any g q (E - q) (E - q) off g Lk ⟨tn, tk, tw, te, tA, y.data.length, tc⟩ y W hbf (by omega) (by omega) (by omega) (Nat.le_refl _) (HO.out.below (Nat.le_refl _) (HGB.out _ (gb_trans HG1.out hW))) HFT.out (by omega) (Nat.le_refl _)
        exact h.mono fun e w' h => ⟨h.1, by rw [← HBEk.out]; exact h.2.1, h.2.2⟩
      have hcut : ∀ W : World, (Instr.slice 23 (.slice (some ⟨g, 0, none⟩) E E) (some (.int .i64 (q : Int))) none none).run Tryd.prog W = .ok (.slice (some ⟨g, q, none⟩) (E - q) (E - q)) W := fun W => by
        have h := cut_from (some ⟨g, 0, none⟩) E E q (by omega) W
        rw [run_sliceAt_slice _ _ _ _ _ _ byte_elem, cutA_at g 0 E q (by omega), Nat.zero_add] at h
        exact h
      have hcut2 : ∀ W : World, (Instr.sliceAt 23 (.slice (some ⟨g, 0, none⟩) E E) (some (.int .i64 (q : Int))) none none).run Tryd.prog W = .ok (.slice (some ⟨g, q, none⟩) (E - q) (E - q)) W := fun W => by
        have h := cut_from (some ⟨g, 0, none⟩) E E q (by omega) W
        rwa [cutA_at g 0 E q (by omega), Nat.zero_add] at h
      have HKS : Hid (∀ W W' : World, (W1.grownBy W (some g) ∧ W.cell? ⟨N, 0, none⟩ = some (.string ⟨tn.toArray⟩) ∧ W.cell? ⟨N, 1, none⟩ = some (.int .i64 tk) ∧ W.cell? ⟨N, 2, none⟩ = some (.int .i64 tw) ∧ W.cell? ⟨N, 3, none⟩ = some (.int .i64 te) ∧ W.cell? ⟨N, 4, none⟩ = some (.slice tA y.data.length tc) ∧ W.cell? ⟨b2, o2 + k, none⟩ = some (.int .i64 (off : Int))) → W.grownBy W' (some g) →
          (W1.grownBy W' (some g) ∧ W'.cell? ⟨N, 0, none⟩ = some (.string ⟨tn.toArray⟩) ∧ W'.cell? ⟨N, 1, none⟩ = some (.int .i64 tk) ∧ W'.cell? ⟨N, 2, none⟩ = some (.int .i64 tw) ∧ W'.cell? ⟨N, 3, none⟩ = some (.int .i64 te) ∧ W'.cell? ⟨N, 4, none⟩ = some (.slice tA y.data.length tc) ∧ W'.cell? ⟨b2, o2 + k, none⟩ = some (.int .i64 (off : Int)))) := Lib.hid fun W W' h hb => by
        obtain ⟨h0, h1, h2, h3, h4, h5, h6⟩ := h
        have key : ∀ {M j : Nat} {v : Value}, M ≠ g → W.cell? ⟨M, j, none⟩ = some v → W'.cell? ⟨M, j, none⟩ = some v := fun {M j v} hne h => by
          have hb2 := hb.block M (World.block_lt_of_cell? W _ h) (fun e => hne (by cases e; rfl))
          rw [← h]; simp only [World.cell?, hb2]
        exact ⟨gb_trans h0 hb, key (by omega) h1, key (by omega) h2, key (by omega) h3, key (by omega) h4, key (by omega) h5, key (by omega) h6⟩
      have hS4 := HKS.out W1 W1.drew ⟨gb_refl _, x0, x1, x2, x3, x4, q1⟩ (gb_bel (Below.refl _ _).drew)
      have hB4 : Buf W1.drew g Lk := HT1.out
      clear x0 x1 x2 x3 x4 q1 hq
      go_region_held3 (fun W => W1.grownBy W (some g) ∧ W.cell? ⟨N, 0, none⟩ = some (.string ⟨tn.toArray⟩) ∧ W.cell? ⟨N, 1, none⟩ = some (.int .i64 tk) ∧ W.cell? ⟨N, 2, none⟩ = some (.int .i64 tw) ∧ W.cell? ⟨N, 3, none⟩ = some (.int .i64 te) ∧ W.cell? ⟨N, 4, none⟩ = some (.slice tA y.data.length tc) ∧ W.cell? ⟨b2, o2 + k, none⟩ = some (.int .i64 (off : Int)))
        (assumption)
        (first
          | (go_at_call 27; go_fit (HEA.out _); rintro e w5 ⟨rfl, rfl⟩)
          | (go_at_call 26; go_fit (HWE.out _ (And.left (by assumption)) (by assumption)); rintro e w6 ⟨rfl, hb6, hg6⟩; have hSn := HKS.out _ _ (by assumption) hg6))
      clear hcut hcut2 hS4 hB4 hg6
      have HSN := Lib.hid hSn
      have hS7 := HKS.out w6 w6.drew hSn (gb_bel (Below.refl _ _).drew)
      have hB7 : Buf w6.drew g Le := hb6
      have hcut : ∀ W : World, (Instr.slice 23 (.slice (some ⟨g, 0, none⟩) E E) (some (.int .i64 (off : Int))) none none).run Tryd.prog W = .ok (.slice (cutA (some ⟨g, 0, none⟩) E off) (E - off) (E - off)) W := fun W => by
        have h := cut_from (some ⟨g, 0, none⟩) E E off (by omega) W
        rw [run_sliceAt_slice _ _ _ _ _ _ byte_elem] at h
        exact h
      have hcut2 : ∀ W : World, (Instr.sliceAt 23 (.slice (some ⟨g, 0, none⟩) E E) (some (.int .i64 (off : Int))) none none).run Tryd.prog W = .ok (.slice (cutA (some ⟨g, 0, none⟩) E off) (E - off) (E - off)) W := fun W => cut_from (some ⟨g, 0, none⟩) E E off (by omega) W
      have HCP : Hid (∀ W ty, W1.grownBy W (some g) → Buf W g Le → ∃ v' w', (Builtin.copy_ #[23, 23] ty #[.slice (cutA (some ⟨g, 0, none⟩) E off) (E - off) (E - off), .slice tA y.data.length tc]).run Tryd.prog W = .ok v' w' ∧ (Buf w' g Lk1 ∧ W.grownBy w' (some g))) := Lib.hid fun W ty hW hbf => by
        have hrow := (HO.out.below (Nat.le_refl _) (HGB.out _ (gb_trans HG1.out hW))).row
        have hm : min y.data.length (E - off) = y.data.length := Nat.min_eq_left (by omega)
        have h := hbf.copy (o := off) (dLen := E - off) (E - off) tc hrow (D := cutA (some ⟨g, 0, none⟩) E off) (fun h0 => by rw [hm] at h0; rw [cutA_at g 0 E off (by omega), Nat.zero_add]) (by rw [hm]; omega) ty
        rw [hm, List.take_length, HBDk.out] at h
        exact ⟨_, _, h, hbf.set _, bufW_gb _ _ _⟩
      clear hSn
      go_upto_region 12 with fail
      go_region_held3 (fun W => W1.grownBy W (some g) ∧ W.cell? ⟨N, 0, none⟩ = some (.string ⟨tn.toArray⟩) ∧ W.cell? ⟨N, 1, none⟩ = some (.int .i64 tk) ∧ W.cell? ⟨N, 2, none⟩ = some (.int .i64 tw) ∧ W.cell? ⟨N, 3, none⟩ = some (.int .i64 te) ∧ W.cell? ⟨N, 4, none⟩ = some (.slice tA y.data.length tc) ∧ W.cell? ⟨b2, o2 + k, none⟩ = some (.int .i64 (off : Int)))
        (assumption)
        (first
          | (refine step_copy_ex (HCP.out _ _ (And.left (by assumption)) (by assumption)) rfl rfl rfl rfl ?_; rintro v8 w8 ⟨hb8, hg8⟩; have hS8 := HKS.out _ _ (by assumption) hg8))
      all_goals
        have HT8 : Hid (Buf w8 g (bufL ms (k + 1))) := Lib.hid (by rw [HL1.out]; exact hb8)
        have HG8 := Lib.hid (gb_trans HG1.out hS8.1)
        clear hb8 hg8 hS8 hS7 hB7 hb6 hcut hcut2
        go_wp2
        go_roundw
        case rel => exact ⟨k + 1, by go_num, by omega, HT8, HG8⟩
        case measure => simp [intOf]; omega
    · have he : k = ms.length := by omega
      subst he
      have hlb := HLB.out _ hk
      have HWH : Hid (∀ c, c = E → Calls Tryd.prog 28 #[.slice (some ⟨g, 0, none⟩) E c, .int .i64 (ms.length : Int)] wr fun e w' => e = .returned (.tuple #[]) ∧ Buf w' g (imageL ms) ∧ wr.grownBy w' (some g)) := Lib.hid fun c hc => by
        have h := writeHeader_any g ms.length E _ wr HT.out (by omega) (by omega) (by omega) hfew
        rw [hlb] at h
        subst hc
        exact h.mono fun e w' h => ⟨h.1, by rw [← HWF.out]; exact h.2.1, h.2.2⟩
      go_wp2_with fail
      go_fit (HWH.out _ rfl)
      rintro e w9 ⟨rfl, hb9, hg9⟩
      have HEND : Hid (BuildEnd ms w (.returned (.tuple #[.slice (some ⟨g, 0, none⟩) E E, .int .i64 0])) w9) := Lib.hid (by
        have hrow := (hb9.byt 0 E (by rw [HIM.out.2]; omega)).wide hb9.lt
        rw [List.drop_zero, List.take_of_length_le (by rw [HIM.out.2]; exact Nat.le_refl _)] at hrow
        refine ⟨bel_next8 HBW.out (by rw [hG]; exact HGB.out _ (gb_trans HG.out hg9)), some ⟨g, 0, none⟩, E, ?_, ?_, ?_⟩
        · rw [HIM.out.1, HIM.out.2, HGD.out]
        · rw [HIM.out.1, HIM.out.2]; exact hrow
        · rw [HIM.out.1, HIM.out.2]; exact Nat.le_refl _)
      clear hb9 hg9
      go_wp2
      go_ret2
      exact HEND.out
end Go.Proofs.YtcenonnccodfoaaDoor
