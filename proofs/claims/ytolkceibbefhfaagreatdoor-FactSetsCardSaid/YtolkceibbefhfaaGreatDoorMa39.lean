/-
  The reference's add: the walk.
  Conditions: at most 990 facts; kinds are ints of the language.
  The reference's Set, Insert and Contains.
  Conditions: at most 990 facts; kinds are ints of the language.
-/
import Derived.Test.YtolkceibbefhfaaGreatDoorMa38
import Derived.Test.YtolkceibbefhfaaGreatDoorMa37
import Derived.Test.YtolkceibbefhfaaGreatDoorMa34
namespace Go.Proofs.YtolkceibbefhfaaGreatDoor
open Go.RowKit Go.Shelf

section
variable {w0 : World}
set_option maxRecDepth 50000 in
set_option maxHeartbeats 1000000 in
theorem rAdd_any (es : List (Elem w0)) (x : Elem w0) (A : Option Addr) (c : Nat) (w : World) (hb : Below w0.heap.size w0 w) (hr : RowE w A c es) (hst : StrictF (FactsE es)) (hn : es.length ≤ 1000) (hkx : KindsWf x.fact.args) :
    Calls Tryz.prog 28 #[.slice A es.length c, .agg #[.string ⟨x.sf.rel.toArray⟩, .slice x.sf.A x.sf.n x.sf.c]] w (AddEnd es x w) := by
  have hle := hr.le
  have hmx := hr.max
  unfold maxLen at hmx
  generalize hW1 : w.alloc (objF x.sf) = W1
  have hb1 : Below w.heap.size w W1 := by rw [← hW1]; exact bel_lit (Below.refl _ _) _
  have bx : BoxF W1 w.heap.size x.sf := by rw [← hW1]; exact BoxF.new w x.sf
  have HX := Lib.hid bx
  have HB1 := Lib.hid hb1
  have HB0 := Lib.hid (bel_next hb hb1)
  have HR := Lib.hid (hr.next hb1)
  have HKX := Lib.hid hkx
  have hw1 : W1.heap.size = w.heap.size + 1 := by rw [← hW1]; simp
  have HST := Lib.hid hst
  have hst2 := hst
  clear hst2
  clear hb hr hb1 bx hkx
  simp only [objF] at hW1
  clear hst
  go_enter Tryz.func28, Tryz.ntmps28
  go_upto_region 1 with fail
  clear hW1
  go_wp2
  go_loopw [5] (fun vk wr => ∃ k : Nat, vk = .int .i64 k ∧ k ≤ es.length ∧ Hid (∀ y ∈ (FactsE es).drop k, 0 < cmpF y x.fact) ∧ Hid (Below W1.heap.size W1 wr)) (fun vk _ => (intOf vk).toNat)
  case atStart => exact ⟨es.length, rfl, Nat.le_refl _, Lib.hid (by rw [List.drop_eq_nil_of_le (by simp [FactsE])]; simp), Lib.hid (Below.refl _ _)⟩
  case round =>
    obtain ⟨k, rfl, hk, HG, HW⟩ := hrel
    by_cases hq : k = 0
    · have f0 : decide ((0 : Int) < (k : Int)) = false := by simp; omega
      have f1 : decide (0 < k) = false := by simp; omega
      have g0 : ¬ (0 : Int) < (k : Int) := by omega
      have g1 : ¬ 0 < k := by omega
      have HLow : Hid (∀ z ∈ (FactsE es).take k, cmpF z x.fact < 0) := Lib.hid (by rw [hq]; simp)
      have hxr := HX.out.next HW.out
      have HMK : Hid (∀ W : World, Below wr.heap.size wr W → (Below wr.heap.size wr W ∧ True ∧ True ∧ W.cell? ⟨w.heap.size, 0, none⟩ = some (.string ⟨x.sf.rel.toArray⟩) ∧ W.cell? ⟨w.heap.size, 1, none⟩ = some (.slice x.sf.A x.sf.n x.sf.c))) := Lib.hid fun W hb => by
        have hx2 := hxr.next hb
        exact ⟨hb, trivial, trivial, hx2.c0, hx2.c1⟩
      clear hq hxr
      go_upto_region 2 with fail
      go_quiet (fail)
      have hS4 := HMK.out _ (bel_drewN wr.heap.size wr nq)
      generalize wr.drewN nq = w1 at *
      go_wp2
      go_upto_region 4 with fail
      go_quiet (fail)
      have hS5 := HMK.out _ (hS4.1.trans (bel_drewN wr.heap.size w1 nq))
      generalize w1.drewN nq = w2 at *
      clear hS4
      go_wp2
      have HWq := Lib.hid (bel_next HW.out hS5.1)
      have hbq : Below w.heap.size w w2 := bel_next HB1.out HWq.out
      have hsq := hbq.size
      have q0 := hS5.2.2.2.1
      have q1 := hS5.2.2.2.2
      have hrq := HR.out.next HWq.out
      obtain ⟨A1, hsl1, hr1⟩ := cut_toE hrq.row hk hrq.le
      obtain ⟨A2, hsl2, hr2⟩ := cut_fromE hrq.row hk hrq.le
      have HKS3 : Hid (∀ W : World, Below w2.heap.size w2 W → (Below w2.heap.size w2 W ∧ W.cell? ⟨w.heap.size, 0, none⟩ = some (.string ⟨x.sf.rel.toArray⟩) ∧ W.cell? ⟨w.heap.size, 1, none⟩ = some (.slice x.sf.A x.sf.n x.sf.c))) := Lib.hid fun W hb => by
        have key : ∀ {N j : Nat} {v : Value}, w2.cell? ⟨N, j, none⟩ = some v → W.cell? ⟨N, j, none⟩ = some v := fun {N j v} h => (hb.cell (p := ⟨N, j, none⟩) (World.block_lt_of_cell? w2 _ h)).trans h
        exact ⟨hb, key q0, key q1⟩
      have hlk : (es.take k).length = k := by rw [List.length_take]; omega
      have HAP1 : Hid (∀ W, Below w2.heap.size w2 W → ∃ v' w', (Builtin.append_ #[22, 22] 22 #[.slice none 0 0, .slice A1 k c]).run Tryz.prog W = .ok v' w' ∧ (OwnG Elem.enc 25 2 w' w2.heap.size v' (es.take k) ∧ Below W.heap.size W w' ∧ Below w2.heap.size w2 w')) := Lib.hid fun W hW => by
        obtain ⟨v', w', h1, h2, h3, _⟩ := OwnG.app elt_fact Elem.len Elem.one (OwnG.nil W w2.heap.size) c (hr1.below (Nat.le_refl _) hW) hW.size (by unfold maxLen; simp; omega) (by simp; omega)
        rw [hlk] at h1
        rw [List.nil_append] at h2
        exact ⟨v', w', h1, h2, (Below.refl _ _).grown h3 (Nat.le_refl _) (fun g hg => by cases hg), hW.grown h3 hW.size (fun g hg => by cases hg)⟩
      have HAP2 : Hid (∀ W v A' B, Below w2.heap.size w2 W → OwnG Elem.enc 25 2 W w2.heap.size v (es.take k) → GRow Elem.enc 2 W B A' [x] → ∃ v' w', (Builtin.append_ #[22, 22] 22 #[v, .slice A' 1 1]).run Tryz.prog W = .ok v' w' ∧ (OwnG Elem.enc 25 2 w' w2.heap.size v' (es.take k ++ [x]) ∧ Below w2.heap.size w2 w')) := Lib.hid fun W v A' B hW ho hrx => by
        obtain ⟨v', w', h1, h2, h3, _⟩ := OwnG.app elt_fact Elem.len Elem.one ho 1 hrx hW.size (by unfold maxLen; simp; omega) (by simp; omega)
        exact ⟨v', w', h1, h2, hW.grown h3 hW.size (fun g hg => (ho.lt g hg).1)⟩
      have hS7 := HKS3.out w2.drew ((Below.refl _ _).drew)
      have HR2 := Lib.hid hr2
      have HSL2 := Lib.hid hsl2
      clear hrq hr1 hr2 q0 q1 hlk hbq hS5 hsl2
      go_upto_region 6 with fail
      go_region_held3 (fun W => Below w2.heap.size w2 W ∧ W.cell? ⟨w.heap.size, 0, none⟩ = some (.string ⟨x.sf.rel.toArray⟩) ∧ W.cell? ⟨w.heap.size, 1, none⟩ = some (.slice x.sf.A x.sf.n x.sf.c))
        (first | assumption | exact HKS3.out _ (bel_lit (And.left (by assumption)) _))
        (first
          | (refine step_gapp_ex (HAP1.out _ (And.left (by assumption))) rfl rfl rfl rfl rfl ?_; rintro v5 u5 ⟨ho5, hb5, hb6⟩; have hS8 := HKS3.out _ hb6)
          | (refine step_gapp_ex (HAP2.out _ _ _ _ (bel_lit hb6 _) (ho5.alloc _) (GRow.lit Elem.len _ 25 [x] _ rfl (by unfold maxLen; simp))) rfl rfl rfl rfl rfl ?_; rintro v7 u7 ⟨ho7, hb7⟩; have hS9 := HKS3.out _ hb7)
          | (refine step_gapp_ex (HAP2.out _ _ _ _ hb6 ho5 (((GRow.lit Elem.len _ 25 [x] _ rfl (by unfold maxLen; simp)).next ((Below.refl _ _).drew)).next hb5)) rfl rfl rfl rfl rfl ?_; rintro v7 u7 ⟨ho7, hb7⟩; have hS9 := HKS3.out _ hb7))
      all_goals
        obtain ⟨v8, w8, hrun8, hown8, hgr8, _⟩ := OwnG.app elt_fact Elem.len Elem.one ho7 (c - k) (HR2.out.below (Nat.le_refl _) hb7) (hb7.size) (by unfold maxLen; simp; omega) (by simp; omega)
        have HBF := Lib.hid (bel_next (bel_next HB1.out HWq.out) (hb7.grown hgr8 hb7.size (fun g hg => (ho7.lt g hg).1)))
        have hfe : FactsE (es.take k ++ [x] ++ es.drop k) = (FactsE es).take k ++ x.fact :: (FactsE es).drop k := by simp [FactsE, List.map_take, List.map_drop]
        have hkd : ∀ f ∈ FactsE (es.take k ++ [x] ++ es.drop k), KindsWf f.args := by
          rw [hfe]
          intro f hf
          rcases (mem_ins f).1 hf with h | rfl
          · exact HR.out.kinds f h
          · exact HKX.out
        obtain ⟨A9, c9, rfl, hre9⟩ := hown8.rowE hkd
        have HEND : Hid (AddEnd es x w (.returned (.slice A9 (es.take k ++ [x] ++ es.drop k).length c9)) w8) := Lib.hid ⟨A9, c9, _, rfl, hre9, by rw [hfe]; exact strict_ins HST.out HG.out HLow.out, fun g => by rw [hfe]; exact mem_ins g, by simp; omega, HBF.out⟩
        rw [show (es.take k ++ [x] ++ es.drop k).length = k + (es.length - k + 1) by simp; omega] at HEND
        obtain ⟨A7, c7, rfl, _, _, _⟩ := ho7.row Elem.len
        have HR8 := Lib.hid hrun8
        have hsl2 := HSL2.out
        rw [List.length_drop] at HR8
        clear hrun8 hown8 hgr8 hre9 hkd hfe ho7 hb7 hS9 hS8 hS7 hb6 hb5 ho5
        go_wp2_with (at_builtin; refine wpList_gapp HR8.out rfl rfl rfl rfl rfl ?_)
        go_wp2
        go_ret
        exact HEND.out
    · obtain ⟨j, hj⟩ : ∃ j, k = j + 1 := ⟨k - 1, by omega⟩
      have f0 : decide ((0 : Int) < (k : Int)) = true := by simp; omega
      have f1 : decide (0 < k) = true := by simp; omega
      have g0 : (0 : Int) < (k : Int) := by omega
      have g1 : 0 < k := by omega
      have hlt : j < es.length := by omega
      have hwj : IntKind.i64.wrap ((k : Int) - 1) = (j : Int) := (IntWalk.i64_in _ (by omega)).trans (by omega)
      obtain ⟨b1, o1, rfl, hb1, x0, x1⟩ := (HR.out.row.below (Nat.le_refl _) HW.out).elem2 hlt
      have hxr := HX.out.next HW.out
      have e0 := hxr.c0
      have e1 := hxr.c1
      have hsz := HW.out.size
      have hl1 : b1 < wr.heap.size := by omega
      have HDS := Lib.hid fun h => drop_snoc (fs := FactsE es) (f := x.fact) (j := j) (by simpa [FactsE] using hlt) (by rw [← hj]; exact HG.out) h
      have HLO := Lib.hid fun h => strict_low (fs := FactsE es) (f := x.fact) (j := j) HST.out (by simpa [FactsE] using hlt) h
      have hgj : (FactsE es)[j]'(by simpa [FactsE] using hlt) = es[j].fact := by simp [FactsE]
      rw [hgj] at HDS HLO
      rw [← hj] at HLO
      have HME := Lib.hid (show es[j].fact ∈ FactsE es from List.mem_map.2 ⟨es[j], List.getElem_mem hlt, rfl⟩)
      have HJ := Lib.hid hj
      clear hgj hj hq
      have HC := Lib.hid fun W (hW : Below wr.heap.size wr W) => rCompare_any es[j].fact x.fact es[j].sf x.sf W (es[j].hold (bel_next (bel_next HB0.out HW.out) hW)) (x.hold (bel_next (bel_next HB0.out HW.out) hW)) (HR.out.kinds _ (List.mem_map.2 ⟨es[j], List.getElem_mem hlt, rfl⟩)) HKX.out
      generalize es[j] = y at *
      generalize hcc : cmpF y.fact x.fact = cc at *
      have HCC := Lib.hid hcc
      have HKS : Hid (∀ W W' : World, (Below wr.heap.size wr W ∧ W.cell? ⟨b1, o1 + j * 2, none⟩ = some (.string ⟨y.sf.rel.toArray⟩) ∧ W.cell? ⟨b1, o1 + j * 2 + 1, none⟩ = some (.slice y.sf.A y.sf.n y.sf.c) ∧ W.cell? ⟨w.heap.size, 0, none⟩ = some (.string ⟨x.sf.rel.toArray⟩) ∧ W.cell? ⟨w.heap.size, 1, none⟩ = some (.slice x.sf.A x.sf.n x.sf.c)) → Below W.heap.size W W' →
          (Below wr.heap.size wr W' ∧ W'.cell? ⟨b1, o1 + j * 2, none⟩ = some (.string ⟨y.sf.rel.toArray⟩) ∧ W'.cell? ⟨b1, o1 + j * 2 + 1, none⟩ = some (.slice y.sf.A y.sf.n y.sf.c) ∧ W'.cell? ⟨w.heap.size, 0, none⟩ = some (.string ⟨x.sf.rel.toArray⟩) ∧ W'.cell? ⟨w.heap.size, 1, none⟩ = some (.slice x.sf.A x.sf.n x.sf.c))) := Lib.hid fun W W' h hb => by
        obtain ⟨h0, h1, h2, h3, h4⟩ := h
        have key : ∀ {N j : Nat} {v : Value}, W.cell? ⟨N, j, none⟩ = some v → W'.cell? ⟨N, j, none⟩ = some v := fun {N j v} h => (hb.cell (p := ⟨N, j, none⟩) (World.block_lt_of_cell? W _ h)).trans h
        exact ⟨bel_next h0 hb, key h1, key h2, key h3, key h4⟩
      have hS4 := HKS.out wr wr.drew ⟨Below.refl _ _, x0, x1, e0, e1⟩ ((Below.refl _ _).drew)
      clear x0 x1 e0 e1 hxr hcc
      go_upto_region 2 with fail
      go_region_held3 (fun W => Below wr.heap.size wr W ∧ W.cell? ⟨b1, o1 + j * 2, none⟩ = some (.string ⟨y.sf.rel.toArray⟩) ∧ W.cell? ⟨b1, o1 + j * 2 + 1, none⟩ = some (.slice y.sf.A y.sf.n y.sf.c) ∧ W.cell? ⟨w.heap.size, 0, none⟩ = some (.string ⟨x.sf.rel.toArray⟩) ∧ W.cell? ⟨w.heap.size, 1, none⟩ = some (.slice x.sf.A x.sf.n x.sf.c))
        (assumption)
        (first | (go_at_call 14; go_fit (HC.out _ (And.left (by assumption))); rintro e w1 ⟨rfl, hbn⟩; have hSn := HKS.out _ _ (by assumption) hbn))
      by_cases hc : 0 < cc
      · have fc : decide (0 < cc) = true := by simp [hc]
        have HG2 := Lib.hid (HDS.out hc)
        have HN := Lib.hid (bel_next HW.out hSn.1)
        have hjk := HJ.out
        clear hSn
        go_wp2
        go_roundw
        case rel => exact ⟨j, by go_num, by omega, HG2, HN⟩
        case measure => simp [intOf]; omega
      · have fc : decide (0 < cc) = false := by simp; omega
        have gc : ¬ 0 < cc := hc
        have hS5 := HKS.out w1 w1.drew hSn ((Below.refl _ _).drew)
        clear hSn
        go_wp2
        go_upto_region 4 with fail
        go_region_held3 (fun W => Below wr.heap.size wr W ∧ W.cell? ⟨b1, o1 + j * 2, none⟩ = some (.string ⟨y.sf.rel.toArray⟩) ∧ W.cell? ⟨b1, o1 + j * 2 + 1, none⟩ = some (.slice y.sf.A y.sf.n y.sf.c) ∧ W.cell? ⟨w.heap.size, 0, none⟩ = some (.string ⟨x.sf.rel.toArray⟩) ∧ W.cell? ⟨w.heap.size, 1, none⟩ = some (.slice x.sf.A x.sf.n x.sf.c))
          (assumption)
          (first | (go_at_call 14; go_fit (HC.out _ (And.left (by assumption))); rintro e w2 ⟨rfl, hbn⟩; have hSm := HKS.out _ _ (by assumption) hbn))
        clear hS4 hS5
        by_cases h0 : cc = 0
        · have f2 : (cc == 0) = true := by simp [h0]
          have HEND : Hid (AddEnd es x w (.returned (.slice (some ⟨b1, o1, none⟩) es.length c)) w2) := Lib.hid ⟨_, c, es, rfl, HR.out.next (bel_next HW.out hSm.1), HST.out, fun g => ⟨Or.inl, fun h => h.elim id (fun e => by rw [e, ← (ord_fact.z _ _).1 (HCC.out.trans h0)]; exact HME.out)⟩, by omega, bel_next HB1.out (bel_next HW.out hSm.1)⟩
          clear hSm
          go_wp2
          go_ret
          exact HEND.out
        · have f2 : (cc == 0) = false := by simp [h0]
          have HLow := Lib.hid (HLO.out (by omega))
          clear HKS HC
          go_wp2
          have HWq := Lib.hid (bel_next HW.out hSm.1)
          have hbq : Below w.heap.size w w2 := bel_next HB1.out HWq.out
          have hsq := hbq.size
          have q0 := hSm.2.2.2.1
          have q1 := hSm.2.2.2.2
          have hrq := HR.out.next HWq.out
          obtain ⟨A1, hsl1, hr1⟩ := cut_toE hrq.row hk hrq.le
          obtain ⟨A2, hsl2, hr2⟩ := cut_fromE hrq.row hk hrq.le
          have HKS3 : Hid (∀ W : World, Below w2.heap.size w2 W → (Below w2.heap.size w2 W ∧ W.cell? ⟨w.heap.size, 0, none⟩ = some (.string ⟨x.sf.rel.toArray⟩) ∧ W.cell? ⟨w.heap.size, 1, none⟩ = some (.slice x.sf.A x.sf.n x.sf.c))) := Lib.hid fun W hb => by
            have key : ∀ {N j : Nat} {v : Value}, w2.cell? ⟨N, j, none⟩ = some v → W.cell? ⟨N, j, none⟩ = some v := fun {N j v} h => (hb.cell (p := ⟨N, j, none⟩) (World.block_lt_of_cell? w2 _ h)).trans h
            exact ⟨hb, key q0, key q1⟩
          have hlk : (es.take k).length = k := by rw [List.length_take]; omega
          have HAP1 : Hid (∀ W, Below w2.heap.size w2 W → ∃ v' w', (Builtin.append_ #[22, 22] 22 #[.slice none 0 0, .slice A1 k c]).run Tryz.prog W = .ok v' w' ∧ (OwnG Elem.enc 25 2 w' w2.heap.size v' (es.take k) ∧ Below W.heap.size W w' ∧ Below w2.heap.size w2 w')) := Lib.hid fun W hW => by
            obtain ⟨v', w', h1, h2, h3, _⟩ := OwnG.app elt_fact Elem.len Elem.one (OwnG.nil W w2.heap.size) c (hr1.below (Nat.le_refl _) hW) hW.size (by unfold maxLen; simp; omega) (by simp; omega)
            rw [hlk] at h1
            rw [List.nil_append] at h2
            exact ⟨v', w', h1, h2, (Below.refl _ _).grown h3 (Nat.le_refl _) (fun g hg => by cases hg), hW.grown h3 hW.size (fun g hg => by cases hg)⟩
          have HAP2 : Hid (∀ W v A' B, Below w2.heap.size w2 W → OwnG Elem.enc 25 2 W w2.heap.size v (es.take k) → GRow Elem.enc 2 W B A' [x] → ∃ v' w', (Builtin.append_ #[22, 22] 22 #[v, .slice A' 1 1]).run Tryz.prog W = .ok v' w' ∧ (OwnG Elem.enc 25 2 w' w2.heap.size v' (es.take k ++ [x]) ∧ Below w2.heap.size w2 w')) := Lib.hid fun W v A' B hW ho hrx => by
            obtain ⟨v', w', h1, h2, h3, _⟩ := OwnG.app elt_fact Elem.len Elem.one ho 1 hrx hW.size (by unfold maxLen; simp; omega) (by simp; omega)
            exact ⟨v', w', h1, h2, hW.grown h3 hW.size (fun g hg => (ho.lt g hg).1)⟩
          have hS7 := HKS3.out w2.drew ((Below.refl _ _).drew)
          have HR2 := Lib.hid hr2
          have HSL2 := Lib.hid hsl2
          clear hrq hr1 hr2 q0 q1 hlk hbq hSm hsl2
          go_upto_region 6 with fail
          go_region_held3 (fun W => Below w2.heap.size w2 W ∧ W.cell? ⟨w.heap.size, 0, none⟩ = some (.string ⟨x.sf.rel.toArray⟩) ∧ W.cell? ⟨w.heap.size, 1, none⟩ = some (.slice x.sf.A x.sf.n x.sf.c))
            (first | assumption | exact HKS3.out _ (bel_lit (And.left (by assumption)) _))
            (first
              | (refine step_gapp_ex (HAP1.out _ (And.left (by assumption))) rfl rfl rfl rfl rfl ?_; rintro v5 u5 ⟨ho5, hb5, hb6⟩; have hS8 := HKS3.out _ hb6)
              | (refine step_gapp_ex (HAP2.out _ _ _ _ (bel_lit hb6 _) (ho5.alloc _) (GRow.lit Elem.len _ 25 [x] _ rfl (by unfold maxLen; simp))) rfl rfl rfl rfl rfl ?_; rintro v7 u7 ⟨ho7, hb7⟩; have hS9 := HKS3.out _ hb7)
              | (refine step_gapp_ex (HAP2.out _ _ _ _ hb6 ho5 (((GRow.lit Elem.len _ 25 [x] _ rfl (by unfold maxLen; simp)).next ((Below.refl _ _).drew)).next hb5)) rfl rfl rfl rfl rfl ?_; rintro v7 u7 ⟨ho7, hb7⟩; have hS9 := HKS3.out _ hb7))
          all_goals
            obtain ⟨v8, w8, hrun8, hown8, hgr8, _⟩ := OwnG.app elt_fact Elem.len Elem.one ho7 (c - k) (HR2.out.below (Nat.le_refl _) hb7) (hb7.size) (by unfold maxLen; simp; omega) (by simp; omega)
            have HBF := Lib.hid (bel_next (bel_next HB1.out HWq.out) (hb7.grown hgr8 hb7.size (fun g hg => (ho7.lt g hg).1)))
            have hfe : FactsE (es.take k ++ [x] ++ es.drop k) = (FactsE es).take k ++ x.fact :: (FactsE es).drop k := by simp [FactsE, List.map_take, List.map_drop]
            have hkd : ∀ f ∈ FactsE (es.take k ++ [x] ++ es.drop k), KindsWf f.args := by
              rw [hfe]
              intro f hf
              rcases (mem_ins f).1 hf with h | rfl
              · exact HR.out.kinds f h
              · exact HKX.out
            obtain ⟨A9, c9, rfl, hre9⟩ := hown8.rowE hkd
            have HEND : Hid (AddEnd es x w (.returned (.slice A9 (es.take k ++ [x] ++ es.drop k).length c9)) w8) := Lib.hid ⟨A9, c9, _, rfl, hre9, by rw [hfe]; exact strict_ins HST.out HG.out HLow.out, fun g => by rw [hfe]; exact mem_ins g, by simp; omega, HBF.out⟩
            rw [show (es.take k ++ [x] ++ es.drop k).length = k + (es.length - k + 1) by simp; omega] at HEND
            obtain ⟨A7, c7, rfl, _, _, _⟩ := ho7.row Elem.len
            have HR8 := Lib.hid hrun8
            have hsl2 := HSL2.out
            rw [List.length_drop] at HR8
            clear hrun8 hown8 hgr8 hre9 hkd hfe ho7 hb7 hS9 hS8 hS7 hb6 hb5 ho5
            go_wp2_with (at_builtin; refine wpList_gapp HR8.out rfl rfl rfl rfl rfl ?_)
            go_wp2
            go_ret
            exact HEND.out
end
end Go.Proofs.YtolkceibbefhfaaGreatDoor


namespace Go.Proofs.YtolkceibbefhfaaGreatDoor
open Go.RowKit Go.Shelf

section
variable {w0 : World}
def SetREnd (es : List (Elem w0)) (w : World) (e : Ending) (w' : World) : Prop :=
  ∃ A, ∃ c : Nat, ∃ es' : List (Elem w0), e = .returned (.slice A es'.length c) ∧ RowE w' A c es' ∧ StrictF (FactsE es') ∧ (∀ g, g ∈ FactsE es' ↔ g ∈ FactsE es) ∧ es'.length ≤ es.length ∧ Below w.heap.size w w'
theorem factsE_take {es : List (Elem w0)} {k : Nat} (h : k < es.length) (g : GFact) : g ∈ FactsE (es.take (k + 1)) ↔ g ∈ FactsE (es.take k) ∨ g = es[k].fact := by
  unfold FactsE
  rw [List.take_succ_eq_append_getElem h, List.map_append, List.mem_append]
  simp
set_option maxRecDepth 50000 in
set_option maxHeartbeats 1000000 in
theorem rSet_any (es : List (Elem w0)) (A : Option Addr) (c : Nat) (w : World) (hb : Below w0.heap.size w0 w) (hr : RowE w A c es) (hn : es.length ≤ 990) :
    Calls Tryz.prog 29 #[.slice A es.length c] w (SetREnd es w) := by
  have HR := Lib.hid hr.row
  have HB := Lib.hid hb
  have HK := Lib.hid hr.kinds
  clear hr hb
  go_enter Tryz.func29, Tryz.ntmps29
  go_wp2
  go_loopw [3, 4] (fun vl vi wr => ∃ k : Nat, vi = .int .i64 k ∧ k ≤ es.length ∧ (∃ A, ∃ c : Nat, ∃ es' : List (Elem w0), vl = .slice A es'.length c ∧ es'.length ≤ k ∧ Hid (RowE wr A c es' ∧ StrictF (FactsE es') ∧ ∀ g, g ∈ FactsE es' ↔ g ∈ FactsE (es.take k))) ∧ Hid (Below w.heap.size w wr)) (fun _ vi _ => es.length - (intOf vi).toNat)
  case atStart => exact ⟨0, rfl, Nat.zero_le _, ⟨none, 0, [], rfl, Nat.le_refl _, Lib.hid ⟨RowE.nil _, List.Pairwise.nil, fun g => by simp [FactsE]⟩⟩, Lib.hid (Below.refl _ _)⟩
  case round =>
    obtain ⟨k, rfl, hk, ⟨Al, cl, el, rfl, hll, HL⟩, HW⟩ := hrel
    rcases Nat.lt_or_ge k es.length with hlt | hge
    · obtain ⟨b1, o1, rfl, hb1, x0, x1⟩ := (HR.out.below (Nat.le_refl _) HW.out).elem2 hlt
      have hsz := HW.out.size
      have hl1 : b1 < wr.heap.size := by omega
      have HTK := Lib.hid (factsE_take hlt)
      have HA := Lib.hid (rAdd_any el es[k] Al cl wr (bel_next HB.out HW.out) HL.out.1 HL.out.2.1 (by omega) (HK.out _ (List.mem_map.2 ⟨es[k], List.getElem_mem hlt, rfl⟩)))
      generalize es[k] = x at *
      go_wp2_with fail
      go_fit HA.out
      rintro e w1 ⟨A1, c1, e1, rfl, h1, h2, h3, h4, h5⟩
      have HN := Lib.hid (bel_next HW.out h5)
      have HL2 : Hid (RowE w1 A1 c1 e1 ∧ StrictF (FactsE e1) ∧ ∀ g, g ∈ FactsE e1 ↔ g ∈ FactsE (es.take (k + 1))) := Lib.hid ⟨h1, h2, fun g => by rw [h3 g, HTK.out g, HL.out.2.2 g]⟩
      clear h1 h2 h3 h5 HA
      go_wp2
      go_roundw
      case rel => exact ⟨k + 1, by go_num, by omega, ⟨A1, c1, e1, rfl, by omega, HL2⟩, HN⟩
      case measure => simp [intOf]; omega
    · have HE : Hid (SetREnd es w (.returned (.slice Al el.length cl)) wr) := Lib.hid ⟨Al, cl, el, rfl, HL.out.1, HL.out.2.1, fun g => by rw [HL.out.2.2 g, List.take_of_length_le hge], by omega, HW.out⟩
      go_wp2
      go_ret
      exact HE.out
def RInsEnd (es : List (Elem w0)) (f : GFact) (w : World) (e : Ending) (w' : World) : Prop :=
  (gwfF f = false ∧ e = .returned (.tuple #[.slice none 0 0, .int .i64 63]) ∧ Below w.heap.size w w') ∨
  (gwfF f = true ∧ ∃ A, ∃ c : Nat, ∃ es' : List (Elem w0), e = .returned (.tuple #[.slice A es'.length c, .int .i64 0]) ∧ RowE w' A c es' ∧ StrictF (FactsE es') ∧ (∀ g, g ∈ FactsE es' ↔ g ∈ FactsE es ∨ g = f) ∧ es'.length ≤ es.length + 1 ∧ Below w.heap.size w w')
set_option maxRecDepth 50000 in
set_option maxHeartbeats 1000000 in
theorem rInsert_any (es : List (Elem w0)) (x : Elem w0) (A : Option Addr) (c : Nat) (w : World) (hb : Below w0.heap.size w0 w) (hr : RowE w A c es) (hn : es.length ≤ 990) (hkx : KindsWf x.fact.args) (hrl : x.fact.rel.length ≤ 65536) (hws : ∀ v ∈ x.fact.args, v.word.length ≤ 65536) :
    Calls Tryz.prog 10 #[.slice A es.length c, .agg #[.string ⟨x.sf.rel.toArray⟩, .slice x.sf.A x.sf.n x.sf.c]] w (RInsEnd es x.fact w) := by
  generalize hW1 : w.alloc (objF x.sf) = W1
  have hb1 : Below w.heap.size w W1 := by rw [← hW1]; exact bel_lit (Below.refl _ _) _
  have bx : BoxF W1 w.heap.size x.sf := by rw [← hW1]; exact BoxF.new w x.sf
  have HX := Lib.hid bx
  have f0 := bx.c0
  have f1 := bx.c1
  have HB1 := Lib.hid hb1
  have HRI := Lib.hid (rRight_any x.fact x.sf W1 (x.hold (bel_next hb hb1)) hrl hws)
  have HSE := Lib.hid fun W (hW : Below W1.heap.size W1 W) => rSet_any es A c W (bel_next (bel_next hb hb1) hW) ((hr.next hb1).next hW) hn
  have HADD := Lib.hid fun W (hW : Below W1.heap.size W1 W) A c es' (h1 : RowE W A c es') h2 (h3 : es'.length ≤ 1000) => rAdd_any es' x A c W (bel_next (bel_next hb hb1) hW) h1 h2 h3 hkx
  have hw1 : W1.heap.size = w.heap.size + 1 := by rw [← hW1]; simp
  have HBB := Lib.hid (bel_next hb hb1)
  clear hb hr hb1 bx hkx hrl hws
  simp only [objF] at hW1
  have hnot : ∀ (x : Bool) (w : World), (Op.unary .not (.bool x)).run Tryz.prog w = .ok (.bool (!x)) w := fun _ _ => rfl
  generalize hq : gwfF x.fact = q at HRI
  have HQ := Lib.hid hq
  clear hq
  go_enter Tryz.func10, Tryz.ntmps10
  go_upto_region 1 with fail
  clear hW1
  go_wp2_with fail
  go_fit HRI.out
  rintro e w2 ⟨rfl, hb2⟩
  have HB2 := Lib.hid hb2
  clear hb2
  cases q
  · have HN := Lib.hid (bel_next HB1.out HB2.out)
    go_wp2
    go_ret2
    exact .inl ⟨HQ.out, rfl, HN.out⟩
  · have hx2 := HX.out.next HB2.out
    have g0 := hx2.c0
    have g1 := hx2.c1
    have HS2 := Lib.hid (HSE.out w2 HB2.out)
    clear f0 f1 hx2
    have HKS : Hid (∀ W W' : World, (Below w2.heap.size w2 W ∧ W.cell? ⟨w.heap.size, 0, none⟩ = some (.string ⟨x.sf.rel.toArray⟩) ∧ W.cell? ⟨w.heap.size, 1, none⟩ = some (.slice x.sf.A x.sf.n x.sf.c)) → Below W.heap.size W W' →
        (Below w2.heap.size w2 W' ∧ W'.cell? ⟨w.heap.size, 0, none⟩ = some (.string ⟨x.sf.rel.toArray⟩) ∧ W'.cell? ⟨w.heap.size, 1, none⟩ = some (.slice x.sf.A x.sf.n x.sf.c))) := Lib.hid fun W W' h hb => by
      obtain ⟨h0, h1, h2⟩ := h
      have key : ∀ {N j : Nat} {v : Value}, W.cell? ⟨N, j, none⟩ = some v → W'.cell? ⟨N, j, none⟩ = some v := fun {N j v} h => (hb.cell (p := ⟨N, j, none⟩) (World.block_lt_of_cell? W _ h)).trans h
      exact ⟨bel_next h0 hb, key h1, key h2⟩
    have hS4 := HKS.out w2 w2.drew ⟨Below.refl _ _, g0, g1⟩ ((Below.refl _ _).drew)
    clear g0 g1 HS2 HRI
    go_wp2
    go_upto_region 3 with fail
    go_region_held3 (fun W => Below w2.heap.size w2 W ∧ W.cell? ⟨w.heap.size, 0, none⟩ = some (.string ⟨x.sf.rel.toArray⟩) ∧ W.cell? ⟨w.heap.size, 1, none⟩ = some (.slice x.sf.A x.sf.n x.sf.c))
      (assumption)
      (first
        | (go_at_call 29; go_fit (HSE.out _ (bel_next HB2.out (And.left (by assumption)))); rintro e w3 ⟨A3, c3, e3, rfl, h1, h2, h3, h4, h5⟩; have hSn := HKS.out _ _ (by assumption) h5)
        | (go_at_call 28; go_fit (HADD.out _ (bel_next HB2.out (And.left (by assumption))) _ _ _ h1 h2 (by omega)); rintro e w4 ⟨A4, c4, e4, rfl, i1, i2, i3, i4, i5⟩; have hSm := HKS.out _ _ (by assumption) i5))
    all_goals
      have HEND : Hid (RInsEnd es x.fact w (.returned (.tuple #[.slice A4 e4.length c4, .int .i64 0])) w4) := Lib.hid (.inr ⟨HQ.out, A4, c4, e4, rfl, i1, i2, fun g => by rw [i3 g, h3 g], by omega, bel_next (bel_next HB1.out HB2.out) hSm.1⟩)
      have fss : decide ((8192 : Int) < (e4.length : Int)) = false := by simp; omega
      have gss : ¬ (8192 : Int) < (e4.length : Int) := by omega
      clear h1 h2 h3 h5 i1 i2 i3 i5 hSn hSm hS4
      go_wp2
      go_ret2
      exact HEND.out
end
end Go.Proofs.YtolkceibbefhfaaGreatDoor
