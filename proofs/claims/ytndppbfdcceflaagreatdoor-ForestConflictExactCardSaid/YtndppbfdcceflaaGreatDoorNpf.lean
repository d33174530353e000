/-
  The program's Parent.
  Conditions: none.
-/
import Derived.Test.YtndppbfdcceflaaGreatDoorNpe
namespace Go.Proofs.YtndppbfdcceflaaGreatDoor

open Go.RowKit Go.Shelf

attribute [local go_sem] Oper.semAt_some

set_option maxRecDepth 100000 in
set_option maxHeartbeats 4000000 in
theorem pPar_any (x : GN) (A : Option Addr) (c : Nat) (ls : List GId) (L : Option Addr) (d : Nat) (w : World) (h1 : PRow w w.heap.size A x.path) (h2 : PRow w w.heap.size L ls) (hl : x.path.length ≤ 17179869184) (hl2 : ls.length ≤ 17179869184) : Calls Tryz.prog 61 #[x.val A c, .slice L ls.length d] w fun e w' => e = .returned (.tuple #[(parI x.path ls).val, .bool (parB x.path ls)]) ∧ Below w.heap.size w w' := by
  have HPL := Lib.hid fun ini y => par_last (xs := x.path) (ls := ls) (ini := ini) (y := y)
  have HPA := Lib.hid (par_all (xs := x.path) (ls := ls))
  have HCT := Lib.hid fun (y : GId) W (hW : Below w.heap.size w W) => pCts_any ls L d y W (h2.next hW) hl2
  have HROW := Lib.hid fun W (hW : Below w.heap.size w W) => h1.next hW
  have HN0 := Lib.hid fun W => NB.new W x.id A x.path.length c x.cap
  generalize parI x.path ls = pi at *
  generalize parB x.path ls = pb at *
  unfold GN.val
  generalize x.path = xs at *
  generalize x.id = xi at *
  generalize x.cap = xc at *
  obtain ⟨i0, i1, i2⟩ := xi
  obtain ⟨a0, a1, a2, a3, a4, a5, a6⟩ := xc
  clear h1 h2
  simp only [GId.val] at *
  refine (callsIn_wide (n := 5)).1 ?_
  refine callsIn_of_wp_marks Tryz.func61 rfl trivial ?_ rfl
  simp only [Tryz.ntmps61, List.size_toArray, List.length_cons, List.length_nil, Nat.reduceAdd, Nat.reduceSub, Array.replicate_succ, Array.replicate_zero, List.push_toArray, List.append_toArray, List.nil_append, List.cons_append]
  gi_wp2_with (refine ⟨trivial, ?_⟩; gi_at_call 103; refine (anc_in Fence.wide _ trivial rfl _ _ _ _ _ _ _ _ _ _ _ _ _ _).mono ?_; rintro e w' ⟨rfl, rfl⟩)
  have HN4 := Lib.hid (HN0.out ((((w.alloc (.cells #[.int .i64 i0, .int .i64 i1, .int .i64 i2, .slice A xs.length c, .int .i64 a0, .int .i64 a1, .int .i64 a2, .int .i64 a3, .int .i64 a4, .int .i64 a5, .bool a6] 30)).alloc (.cells #[.slice L ls.length d] 26)).alloc (.cells #[.int .i64 0, .int .i64 0, .int .i64 0] 25)).alloc (.cells #[.bool false] 4)))
  simp only [World.size_alloc] at HN4
  have HL1 : Hid ((((((w.alloc (.cells #[.int .i64 i0, .int .i64 i1, .int .i64 i2, .slice A xs.length c, .int .i64 a0, .int .i64 a1, .int .i64 a2, .int .i64 a3, .int .i64 a4, .int .i64 a5, .bool a6] 30)).alloc (.cells #[.slice L ls.length d] 26)).alloc (.cells #[.int .i64 0, .int .i64 0, .int .i64 0] 25)).alloc (.cells #[.bool false] 4)).alloc (.cells #[.int .i64 i0, .int .i64 i1, .int .i64 i2, .slice A xs.length c, .int .i64 a0, .int .i64 a1, .int .i64 a2, .int .i64 a3, .int .i64 a4, .int .i64 a5, .bool a6] 30)).heap[w.heap.size + 1]? = some (.cells #[.slice L ls.length d] 26 (0, 0))) := Lib.hid (by
    have h := heap_alloc_new (w.alloc (.cells #[.int .i64 i0, .int .i64 i1, .int .i64 i2, .slice A xs.length c, .int .i64 a0, .int .i64 a1, .int .i64 a2, .int .i64 a3, .int .i64 a4, .int .i64 a5, .bool a6] 30)) (.cells #[.slice L ls.length d] 26)
    rw [World.size_alloc] at h
    exact ((belt (belt (belt (Below.refl _ _) _) _) _).block _ (by simp)).trans h)
  have HZ1 : Hid (IB (((((w.alloc (.cells #[.int .i64 i0, .int .i64 i1, .int .i64 i2, .slice A xs.length c, .int .i64 a0, .int .i64 a1, .int .i64 a2, .int .i64 a3, .int .i64 a4, .int .i64 a5, .bool a6] 30)).alloc (.cells #[.slice L ls.length d] 26)).alloc (.cells #[.int .i64 0, .int .i64 0, .int .i64 0] 25)).alloc (.cells #[.bool false] 4)).alloc (.cells #[.int .i64 i0, .int .i64 i1, .int .i64 i2, .slice A xs.length c, .int .i64 a0, .int .i64 a1, .int .i64 a2, .int .i64 a3, .int .i64 a4, .int .i64 a5, .bool a6] 30)) (w.heap.size + 1 + 1) ⟨0, 0, 0⟩) := Lib.hid (by
    have h := heap_alloc_new ((w.alloc (.cells #[.int .i64 i0, .int .i64 i1, .int .i64 i2, .slice A xs.length c, .int .i64 a0, .int .i64 a1, .int .i64 a2, .int .i64 a3, .int .i64 a4, .int .i64 a5, .bool a6] 30)).alloc (.cells #[.slice L ls.length d] 26)) (.cells #[.int .i64 0, .int .i64 0, .int .i64 0] 25)
    rw [World.size_alloc, World.size_alloc] at h
    exact ((belt (belt (Below.refl _ _) _) _).block _ (by simp)).trans h)
  have HO1 : Hid ((((((w.alloc (.cells #[.int .i64 i0, .int .i64 i1, .int .i64 i2, .slice A xs.length c, .int .i64 a0, .int .i64 a1, .int .i64 a2, .int .i64 a3, .int .i64 a4, .int .i64 a5, .bool a6] 30)).alloc (.cells #[.slice L ls.length d] 26)).alloc (.cells #[.int .i64 0, .int .i64 0, .int .i64 0] 25)).alloc (.cells #[.bool false] 4)).alloc (.cells #[.int .i64 i0, .int .i64 i1, .int .i64 i2, .slice A xs.length c, .int .i64 a0, .int .i64 a1, .int .i64 a2, .int .i64 a3, .int .i64 a4, .int .i64 a5, .bool a6] 30)).heap[w.heap.size + 1 + 1 + 1]? = some (.cells #[.bool false] 4 (0, 0))) := Lib.hid (by
    have h := heap_alloc_new (((w.alloc (.cells #[.int .i64 i0, .int .i64 i1, .int .i64 i2, .slice A xs.length c, .int .i64 a0, .int .i64 a1, .int .i64 a2, .int .i64 a3, .int .i64 a4, .int .i64 a5, .bool a6] 30)).alloc (.cells #[.slice L ls.length d] 26)).alloc (.cells #[.int .i64 0, .int .i64 0, .int .i64 0] 25)) (.cells #[.bool false] 4)
    rw [World.size_alloc, World.size_alloc, World.size_alloc] at h
    exact ((belt (Below.refl _ _) _).block _ (by simp)).trans h)
  have HB0 : Hid (Below w.heap.size w (((((w.alloc (.cells #[.int .i64 i0, .int .i64 i1, .int .i64 i2, .slice A xs.length c, .int .i64 a0, .int .i64 a1, .int .i64 a2, .int .i64 a3, .int .i64 a4, .int .i64 a5, .bool a6] 30)).alloc (.cells #[.slice L ls.length d] 26)).alloc (.cells #[.int .i64 0, .int .i64 0, .int .i64 0] 25)).alloc (.cells #[.bool false] 4)).alloc (.cells #[.int .i64 i0, .int .i64 i1, .int .i64 i2, .slice A xs.length c, .int .i64 a0, .int .i64 a1, .int .i64 a2, .int .i64 a3, .int .i64 a4, .int .i64 a5, .bool a6] 30))) := Lib.hid (belt (belt (belt (belt (belt (Below.refl _ w) _) _) _) _) _)
  have hsz : (((((w.alloc (.cells #[.int .i64 i0, .int .i64 i1, .int .i64 i2, .slice A xs.length c, .int .i64 a0, .int .i64 a1, .int .i64 a2, .int .i64 a3, .int .i64 a4, .int .i64 a5, .bool a6] 30)).alloc (.cells #[.slice L ls.length d] 26)).alloc (.cells #[.int .i64 0, .int .i64 0, .int .i64 0] 25)).alloc (.cells #[.bool false] 4)).alloc (.cells #[.int .i64 i0, .int .i64 i1, .int .i64 i2, .slice A xs.length c, .int .i64 a0, .int .i64 a1, .int .i64 a2, .int .i64 a3, .int .i64 a4, .int .i64 a5, .bool a6] 30)).heap.size = w.heap.size + 5 := by simp
  obtain ⟨W0, hW0⟩ : ∃ W0, (((((w.alloc (.cells #[.int .i64 i0, .int .i64 i1, .int .i64 i2, .slice A xs.length c, .int .i64 a0, .int .i64 a1, .int .i64 a2, .int .i64 a3, .int .i64 a4, .int .i64 a5, .bool a6] 30)).alloc (.cells #[.slice L ls.length d] 26)).alloc (.cells #[.int .i64 0, .int .i64 0, .int .i64 0] 25)).alloc (.cells #[.bool false] 4)).alloc (.cells #[.int .i64 i0, .int .i64 i1, .int .i64 i2, .slice A xs.length c, .int .i64 a0, .int .i64 a1, .int .i64 a2, .int .i64 a3, .int .i64 a4, .int .i64 a5, .bool a6] 30)) = W0 := ⟨_, rfl⟩
  rw [hW0] at HN4 HL1 HZ1 HO1 HB0 hsz ⊢
  clear hW0 HN0
  have HR0 := Lib.hid ((HROW.out _ HB0.out).keepB (Below.refl _ _))
  have hR5 : GRow GId.cells 3 W0 (w.heap.size + 5) A xs := fun hn => by
    obtain ⟨b, off, e, hB, hc⟩ := HROW.out _ HB0.out hn
    exact ⟨b, off, e, by omega, hc⟩
  have HW := Lib.hid fun (W : World) (hW : Below (w.heap.size + 5) W0 W) => show Below w.heap.size w W from HB0.out.trans (hW.mono (by omega))
  have HIC : Hid (∀ W, Below (w.heap.size + 5) W0 W → IB W (w.heap.size + 1 + 1) ⟨0, 0, 0⟩) := Lib.hid fun W hW => (hW.block _ (by omega)).trans HZ1.out
  have HLC : Hid (∀ W, Below (w.heap.size + 5) W0 W → W.heap[w.heap.size + 1]? = some (.cells #[.slice L ls.length d] 26 (0, 0))) := Lib.hid fun W hW => (hW.block _ (by omega)).trans HL1.out
  have HOC : Hid (∀ W, Below (w.heap.size + 5) W0 W → W.heap[w.heap.size + 1 + 1 + 1]? = some (.cells #[.bool false] 4 (0, 0))) := Lib.hid fun W hW => (hW.block _ (by omega)).trans HO1.out
  have HSC : Hid (∀ (W : World) (p : Value) (k : Nat), w.heap.size ≤ k → Below w.heap.size w W → ∀ j, Below w.heap.size w (W.setCell ⟨k, j, none⟩ p)) := Lib.hid fun W p k hk hb j => hb.setCell (p := ⟨k, j, none⟩) hk p
  refine wpIn_rangeFunc_ownH (F := Fence.wide) rfl (by omega) (gf := 125) (lb := #[.pointer (some ⟨w.heap.size + 1 + 1 + 1 + 1, 0, none⟩)]) rfl trivial (enters_of Tryz.func125 (by kernel_rfl) rfl)
    (anc_stops Fence.wide _ trivial rfl (by omega) (w.heap.size + 1 + 1 + 1 + 1) (w.heap.size + 5) ⟨i0, i1, i2⟩ xs A c ⟨a0, a1, a2, a3, a4, a5, a6⟩ hl W0 (by omega) HN4.out (by omega) hR5) belowK_t (belowK_b (by omega)) (Below.refl _ _) (fun _ => rfl)
    (fun pre W => (∀ y ∈ pre, hasI ls y = false) ∧ Below (w.heap.size + 5) W0 W)
    (fun cc pre W => (cc = .ret ∧ ∃ ini last, pre = ini ++ [last] ∧ (∀ y ∈ ini, hasI ls y = false) ∧ hasI ls last = true ∧ IC W (w.heap.size + 1 + 1) last ∧ W.cell? ⟨w.heap.size + 1 + 1 + 1, 0, none⟩ = some (.bool true)) ∧ Below w.heap.size w W)
    (OwnFrom.and (ownFrom_pure _ _) (ownFrom_below (by omega) (by omega)))
    (fun cc => OwnFrom.and (Own.from (fun s U V row hs hg hr => by obtain ⟨hc, ini, last, e1, e2, e3, e4, e5⟩ := hs; exact ⟨hc, ini, last, e1, e2, e3, e4.kept hg hr, cell_kept e5 hg hr⟩) _) (ownFrom_below (Nat.le_refl _) (by omega)))
    ⟨by simp, Below.refl _ _⟩
    (fun x a' W => ∃ Bx, IC W Bx x ∧ a' = { tmps := #[.agg #[.int .i64 i0, .int .i64 i1, .int .i64 i2, .slice A xs.length c, .int .i64 a0, .int .i64 a1, .int .i64 a2, .int .i64 a3, .int .i64 a4, .int .i64 a5, .bool a6], .slice L ls.length d, .pointer (some ⟨w.heap.size, 0, none⟩), .pointer (some ⟨w.heap.size + 1, 0, none⟩), .pointer (some ⟨w.heap.size + 1 + 1, 0, none⟩), .pointer (some ⟨w.heap.size + 1 + 1 + 1, 0, none⟩), .pointer (some ⟨Bx, 0, none⟩), .agg #[.int .i64 i0, .int .i64 i1, .int .i64 i2, .slice A xs.length c, .int .i64 a0, .int .i64 a1, .int .i64 a2, .int .i64 a3, .int .i64 a4, .int .i64 a5, .bool a6], .func (.func 125) #[] #[.pointer (some ⟨w.heap.size + 1 + 1 + 1 + 1, 0, none⟩)], x.val, undef, undef, undef, undef, undef], defers := [] })
    (fun x a' => Own.from (fun _ U V row hs hg hr => by obtain ⟨Bx, h1, h2⟩ := hs; exact ⟨Bx, h1.kept hg hr, h2⟩) _)
    ?assign ?body ?done ?stop
  case assign =>
    rintro l pre x W K ⟨hp, hB1⟩ hK
    obtain ⟨xc, xo, xp⟩ := x
    simp only [GId.val] at hK ⊢
    have hI := (IB.new W ⟨xc, xo, xp⟩).cells
    have hsW := hB1.size
    gi_wp2
    exact hK _ _ ((KeepsOthers.alloc _ _).from _) ((Below.refl _ W).alloc (by omega) _) ⟨hp, hB1.alloc (by omega) _⟩ ⟨W.heap.size, hI, rfl⟩
  case body =>
    rintro l pre x a' W hl5 ⟨r, hr⟩ ⟨hp, hB1⟩ ⟨Bx, ⟨x0, x1, x2⟩, rfl⟩ hlt
    have cL : W.cell? ⟨w.heap.size + 1, 0, none⟩ = some (.slice L ls.length d) := by rw [Lib.cell_of_heap (HLC.out _ hB1)]; rfl
    have HCX := Lib.hid (HCT.out x W (HW.out _ hB1))
    have hBx : Bx < W.heap.size := by
      obtain ⟨o, ho, _⟩ := cells_of_cell x0
      exact (Array.getElem?_eq_some_iff.1 ho).1
    have hsW := hB1.size
    clear hr hlt hl5
    rcases hh : hasI ls x with _ | _
    · rw [hh] at HCX
      have HP2 : Hid (∀ y ∈ pre ++ [x], hasI ls y = false) := Lib.hid fun y hy => by
        rcases List.mem_append.1 hy with h | h
        · exact hp y h
        · obtain rfl := List.mem_singleton.1 h
          exact hh
      obtain ⟨xc, xo, xp⟩ := x
      simp only [GId.val] at x0 x1 x2 HCX ⊢
      clear hp hh
      gi_wp2_with fail
      refine ⟨trivial, ?_⟩
      gi_at_call 104
      refine (CallsIn.inRound l (callsIn_wide.2 HCX.out)).mono ?_
      rintro e w' ⟨rfl, hb⟩
      gi_wp2
      exact ⟨keepsFrom_below hb, hb.mono (by omega), HP2.out, hB1.trans (hb.mono (by omega))⟩
    · rw [hh] at HCX
      obtain ⟨xc, xo, xp⟩ := x
      simp only [GId.val] at x0 x1 x2 HCX ⊢
      gi_wp2_with fail
      refine ⟨trivial, ?_⟩
      gi_at_call 104
      refine (CallsIn.inRound l (callsIn_wide.2 HCX.out)).mono ?_
      rintro e w' ⟨rfl, hb⟩
      have hB2 := hB1.trans (hb.mono (by omega))
      have HKF : Hid (KeepsFrom W0.heap.size W w') := Lib.hid (keepsFrom_below hb)
      have y0 := (hb.cell (p := ⟨Bx, 0, none⟩) hBx).trans x0
      have y1 := (hb.cell (p := ⟨Bx, 1, none⟩) hBx).trans x1
      have y2 := (hb.cell (p := ⟨Bx, 2, none⟩) hBx).trans x2
      have HI2 := Lib.hid (HIC.out _ hB2)
      have HO2 := Lib.hid (HOC.out _ hB2)
      have HB2 := Lib.hid (HW.out _ hB2)
      obtain ⟨z0, z1, z2⟩ := HI2.out.cells
      have zf := HI2.out.frz
      have zl := HI2.out.lt
      have o0 : w'.cell? ⟨w.heap.size + 1 + 1 + 1, 0, none⟩ = some (.bool false) := by rw [Lib.cell_of_heap HO2.out]; rfl
      have of := fun j => Lib.frozen_of_heap HO2.out j
      (try simp only at z0 z1 z2)
      clear hb x0 x1 x2 cL
      gi_wp2
      refine ⟨HKF.out.trans (((((KeepsOthers.setCell _ _ _).from _).trans ((KeepsOthers.setCell _ _ _).from _)).trans ((KeepsOthers.setCell _ _ _).from _)).trans ((KeepsOthers.setCell _ _ _).from _)), ⟨rfl, pre, ⟨xc, xo, xp⟩, rfl, hp, hh, ?_, ?_⟩, ?_⟩
      · have h3 := HI2.out.store ⟨xc, xo, xp⟩
        have h4 : IB ((((w'.setCell ⟨w.heap.size + 1 + 1, 0, none⟩ (.int .i64 xc)).setCell ⟨w.heap.size + 1 + 1, 1, none⟩ (.int .i64 xo)).setCell ⟨w.heap.size + 1 + 1, 2, none⟩ (.int .i64 xp)).setCell ⟨w.heap.size + 1 + 1 + 1, 0, none⟩ (.bool true)) (w.heap.size + 1 + 1) ⟨xc, xo, xp⟩ := (Below.heap_setCell _ ⟨_, _, none⟩ _ _ (by simp)).trans h3
        exact h4.cells
      · refine World.cell?_setCell_same' _ _ _ ?_
        have h5 := HO2.out
        rw [← Below.heap_setCell w' ⟨w.heap.size + 1 + 1, 0, none⟩ (.int .i64 xc) (w.heap.size + 1 + 1 + 1) (by simp), ← Below.heap_setCell _ ⟨w.heap.size + 1 + 1, 1, none⟩ (.int .i64 xo) (w.heap.size + 1 + 1 + 1) (by simp), ← Below.heap_setCell _ ⟨w.heap.size + 1 + 1, 2, none⟩ (.int .i64 xp) (w.heap.size + 1 + 1 + 1) (by simp)] at h5
        rw [Lib.cell_of_heap h5]; rfl
      · repeat (refine HSC.out _ _ _ (by omega) ?_ _)
        exact HB2.out
  case done =>
    rintro D ys W hD rfl ⟨hp, hB1⟩ hK
    obtain ⟨rfl, rfl⟩ := HPA.out hp
    have HI2 := Lib.hid (HIC.out _ hB1)
    have HO2 := Lib.hid (HOC.out _ hB1)
    have HB2 := Lib.hid (HW.out _ hB1)
    obtain ⟨z0, z1, z2⟩ := HI2.out.cells
    have zf := HI2.out.frz
    have zl := HI2.out.lt
    have o0 : W.cell? ⟨w.heap.size + 1 + 1 + 1, 0, none⟩ = some (.bool false) := by rw [Lib.cell_of_heap HO2.out]; rfl
    have of := fun j => Lib.frozen_of_heap HO2.out j
    (try simp only at z0 z1 z2)
    gi_wp2
    have HIB : Hid (Below w.heap.size w ((((W.setCell ⟨w.heap.size + 1 + 1, 0, none⟩ (.int .i64 0)).setCell ⟨w.heap.size + 1 + 1, 1, none⟩ (.int .i64 0)).setCell ⟨w.heap.size + 1 + 1, 2, none⟩ (.int .i64 0)).setCell ⟨w.heap.size + 1 + 1 + 1, 0, none⟩ (.bool false))) := Lib.hid (by
      repeat (refine HSC.out _ _ _ (by omega) ?_ _)
      exact HB2.out)
    have hK' := (((((KeepsOthers.setCell W ⟨w.heap.size + 1 + 1, 0, none⟩ (.int .i64 0)).trans (KeepsOthers.setCell _ ⟨w.heap.size + 1 + 1, 1, none⟩ (.int .i64 0))).trans (KeepsOthers.setCell _ ⟨w.heap.size + 1 + 1, 2, none⟩ (.int .i64 0))).trans (KeepsOthers.setCell _ ⟨w.heap.size + 1 + 1 + 1, 0, none⟩ (.bool false)))).same D _ hK rfl
    have h3 := HI2.out.store ⟨0, 0, 0⟩
    have h4 : IB ((((W.setCell ⟨w.heap.size + 1 + 1, 0, none⟩ (.int .i64 0)).setCell ⟨w.heap.size + 1 + 1, 1, none⟩ (.int .i64 0)).setCell ⟨w.heap.size + 1 + 1, 2, none⟩ (.int .i64 0)).setCell ⟨w.heap.size + 1 + 1 + 1, 0, none⟩ (.bool false)) (w.heap.size + 1 + 1) ⟨0, 0, 0⟩ := (Below.heap_setCell _ ⟨_, _, none⟩ _ _ (by simp)).trans h3
    have h5 := HO2.out
    rw [← Below.heap_setCell W ⟨w.heap.size + 1 + 1, 0, none⟩ (.int .i64 0) (w.heap.size + 1 + 1 + 1) (by simp), ← Below.heap_setCell _ ⟨w.heap.size + 1 + 1, 1, none⟩ (.int .i64 0) (w.heap.size + 1 + 1 + 1) (by simp), ← Below.heap_setCell _ ⟨w.heap.size + 1 + 1, 2, none⟩ (.int .i64 0) (w.heap.size + 1 + 1 + 1) (by simp)] at h5
    have h6 := World.cell?_setCell_same' _ ⟨w.heap.size + 1 + 1 + 1, 0, none⟩ (.bool false) (show (World.cell? _ ⟨w.heap.size + 1 + 1 + 1, 0, none⟩).isSome = true by rw [Lib.cell_of_heap h5]; rfl)
    have hC : IC _ (w.heap.size + 1 + 1) ⟨0, 0, 0⟩ := h4.cells
    clear h3 h4 h5 z0 z1 z2 zf zl o0 of
    generalize (((W.setCell ⟨w.heap.size + 1 + 1, 0, none⟩ (.int .i64 0)).setCell ⟨w.heap.size + 1 + 1, 1, none⟩ (.int .i64 0)).setCell ⟨w.heap.size + 1 + 1, 2, none⟩ (.int .i64 0)).setCell ⟨w.heap.size + 1 + 1 + 1, 0, none⟩ (.bool false) = W9 at *
    refine ⟨by simp, .inl ⟨_, _, rfl, run_takeDeferred hK', ?_⟩⟩
    obtain ⟨g0, g1, g2⟩ := hC.kept (grownBy_putObj' _ D (.deferred none)) (fun r e => by cases e; exact ⟨_, hK', rfl⟩)
    have g3 := cell_kept h6 (grownBy_putObj' _ D (.deferred none)) (fun r e => by cases e; exact ⟨_, hK', rfl⟩)
    refine ⟨.tuple #[.agg #[.int .i64 0, .int .i64 0, .int .i64 0], .bool false], ?_, rfl, HIB.out.trans (belowK_b (w := w) (Nat.le_refl _) _ D _ _ (by omega) hK' rfl rfl)⟩
    simp [results, Tryz.f61, go_sem, g0, g1, g2, g3]
  case stop =>
    rintro D cc pre W hD hpre ⟨⟨rfl, ini, last, rfl, e2, e3, e4, e5⟩, hB⟩ hK
    obtain ⟨rfl, rfl⟩ := HPL.out ini last hpre e2 e3
    gi_wp2
    refine ⟨by simp, .inl ⟨_, _, rfl, run_takeDeferred hK, ?_⟩⟩
    obtain ⟨g0, g1, g2⟩ := e4.kept (grownBy_putObj' _ D (.deferred none)) (fun r e => by cases e; exact ⟨_, hK, rfl⟩)
    have g3 := cell_kept e5 (grownBy_putObj' _ D (.deferred none)) (fun r e => by cases e; exact ⟨_, hK, rfl⟩)
    refine ⟨.tuple #[.agg #[.int .i64 pi.core, .int .i64 pi.op, .int .i64 pi.part], .bool true], ?_, rfl, hB.trans (belowK_b (w := w) (Nat.le_refl _) _ D _ _ (by omega) hK rfl rfl)⟩
    simp [results, Tryz.f61, go_sem, g0, g1, g2, g3]
end Go.Proofs.YtndppbfdcceflaaGreatDoor
