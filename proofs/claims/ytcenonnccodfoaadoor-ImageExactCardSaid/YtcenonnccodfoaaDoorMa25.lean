/-
  The reference's read: the modules that the table of an image names.
  Conditions: at most 2^31 bytes; at most 65535 entries.
  The reference's Parse: of whatever bytes, what the format asks.
  Conditions: at most 10^8 bytes.
  The law ImageExact returns true.
  Conditions: the modules, the bytes and the name are the language's.
-/
import Derived.Test.YtcenonnccodfoaaDoorMa24
namespace Go.Proofs.YtcenonnccodfoaaDoor
open Go.RowKit

def ReadR (b : List UInt8) (cnt : Nat) (w : World) (e : Ending) (w' : World) : Prop :=
  ∃ v ss l, e = .returned v ∧ ParI w w' v ss l l.length ∧ ((foldV (readAt b) cnt = some l) ∨ (foldV (readAt b) cnt = none ∧ l = []))
theorem ReadR.none {b : List UInt8} {cnt k : Nat} {w w' : World} (hb : Below w.heap.size w w') (h : readAt b k = .none) (hk : k < cnt) : ReadR b cnt w (.returned (.slice .none 0 0)) w' :=
  ⟨_, [], [], rfl, ParI.nil w w' hb, .inr ⟨foldV_none _ (foldV_fail h) _ (by omega), rfl⟩⟩
set_option maxRecDepth 100000 in
set_option maxHeartbeats 1000000 in
theorem rRead_any (A : Option Addr) (n c : Nat) (b : List UInt8) (cnt : Nat) (w : World) (hb : Byt w w.heap.size A n b) (hc : n ≤ c) (hn : n ≤ 100000000) (hcnt : cnt ≤ 65535) :
    Calls Tryd.prog 38 #[.slice A n c, .int .i64 (cnt : Int)] w (ReadR b cnt w) := by
  have HB := Lib.hid hb
  have hln := hb.1
  clear hb
  go_enter Tryd.func38, Tryd.ntmps38
  go_wp2_with fail
  go_loopw [5, 6] (fun v5 v6 wr => ∃ k : Nat, ∃ so l, v6 = .int .i64 k ∧ k ≤ cnt ∧ Hid (foldV (readAt b) k = some l ∧ ParI w wr v5 so l l.length)) (fun _ v6 _ => cnt - (intOf v6).toNat)
  case atStart => exact ⟨0, [], [], rfl, Nat.zero_le _, Lib.hid ⟨rfl, ParI.nil w w (Below.refl _ _)⟩⟩
  case round =>
    obtain ⟨k, so, l, rfl, hk, HS⟩ := hrel
    have hll := foldV_len _ _ _ HS.out.1
    obtain ⟨Ao, co, rfl, _, _, _⟩ := HS.out.2.own.row SMod.len
    rcases Nat.lt_or_ge k cnt with hlt | hge
    case inr =>
      have HEND : Hid (ReadR b cnt w (.returned (.slice Ao so.length co)) wr) := Lib.hid ⟨_, so, l, rfl, HS.out.2, .inl (by rw [show cnt = k by omega]; exact HS.out.1)⟩
      go_wp2
      go_ret
      exact HEND.out
    have HRA : Hid (readAt b k = if n < 16 + 48 * k + 48 then none else viewAt b k) := Lib.hid (by unfold readAt; rw [hln])
    have hqi : (16 : Int) + 48 * (k : Int) = ((16 + 48 * k : Nat) : Int) := by omega
    have wq : IntKind.i64.wrap ((16 : Int) + 48 * (k : Int)) = ((16 + 48 * k : Nat) : Int) := by rw [IntKind.wrap_i64]; omega
    have HVA : Hid (viewAt b k = viewM b (b.drop (16 + 48 * k))) := Lib.hid rfl
    have hq64 : 16 + 48 * k ≤ 4000000 := by omega
    generalize 16 + 48 * k = q at *
    have wq48 : IntKind.i64.wrap ((q : Int) + 48) = (q : Int) + 48 := by rw [IntKind.wrap_i64]; omega
    by_cases hfit : n < q + 48
    case pos =>
      have f1 : decide ((n : Int) < (q : Int) + 48) = true := by simp; omega
      have HEND := Lib.hid (ReadR.none (b := b) (cnt := cnt) (k := k) HS.out.2.bel (by rw [HRA.out, if_pos hfit]) hlt)
      clear hfit hqi
      go_wp2
      go_ret
      exact HEND.out
    have f1 : decide ((n : Int) < (q : Int) + 48) = false := by simp; omega
    have HRB : Hid (readAt b k = viewAt b k) := Lib.hid (by rw [HRA.out, if_neg hfit])
    have HYR := Lib.hid ((HB.out.below HS.out.2.bel).wide HS.out.2.bel.size)
    obtain ⟨b2, o2, rfl, hb2, hcb⟩ := HB.out.at_ (by omega)
    have HCW := Lib.hid fun W (hW : Below w.heap.size w W) i (hi : i < n) => (World.cell?_of_block (a := ⟨b2, o2 + i, none⟩) (hW.block b2 hb2)).trans (hcb i hi)
    have HCB := Lib.hid (HCW.out wr HS.out.2.bel)
    clear hcb HRA hqi wq48
    go_wp2_with fail
    go_loop [8] (fun v8 => ∃ j : Nat, v8 = .int .i64 j ∧ j ≤ 24 ∧ Hid (∀ i, j ≤ i → i < 24 → bt b (q + i) = 0)) (fun v8 => (intOf v8).toNat)
    case atStart => exact ⟨24, rfl, Nat.le_refl _, Lib.hid (fun i h1 h2 => by omega)⟩
    case round =>
      obtain ⟨j, rfl, hj, HZ⟩ := hrel
      by_cases hj0 : j = 0
      case neg =>
        have fj : decide ((0 : Int) < (j : Int)) = true := by simp; omega
        have hcj := HCB.out (q + (j - 1)) (by omega)
        have wj1 : IntKind.i64.wrap ((q : Int) + (j : Int)) = (q : Int) + (j : Int) := by rw [IntKind.wrap_i64]; omega
        have wj2 : IntKind.i64.wrap ((q : Int) + (j : Int) - 1) = ((q + (j - 1) : Nat) : Int) := by rw [IntKind.wrap_i64]; omega
        have wj3 : IntKind.i64.wrap ((j : Int) - 1) = ((j - 1 : Nat) : Int) := by rw [IntKind.wrap_i64]; omega
        have hin : ((q + (j - 1) : Nat) : Int) < (n : Int) := by omega
        have hinn : q + (j - 1) < n := by omega
        by_cases hx : bt b (q + (j - 1)) = 0
        case pos =>
          rw [hx] at hcj
          have HZ2 : Hid (∀ i, j - 1 ≤ i → i < 24 → bt b (q + i) = 0) := Lib.hid (fun i h1 h2 => by
            by_cases e : i = j - 1
            · rw [e]; exact hx
            · exact HZ.out i (by omega) h2)
          clear hx
          go_wp2
          go_round
          case rel => exact ⟨j - 1, by go_num, by omega, HZ2⟩
          case measure => simp [intOf]; omega
        have fx : ((bt b (q + (j - 1)) : Int) == 0) = false := beq_eq_false_iff_ne.2 (by omega)
        have hjz := hx
        clear hx
        have HNM := Lib.hid (trim_at (b := b) hj (by omega) HZ.out (fun _ => hjz))
        clear HZ hjz
        have wq28 : IntKind.i64.wrap ((q : Int) + 28) = ((q + 28 : Nat) : Int) := by rw [IntKind.wrap_i64]; omega
        have hu := uintRef_any (some ⟨b2, o2, none⟩) n c _ 4 ((q + 28 : Nat) : Int) b wr HYR.out (by omega) (by omega)
        rw [uintV_in b (q + 28) 4 (by omega)] at hu
        have HU28 := Lib.hid hu
        clear hu
        have wq32 : IntKind.i64.wrap ((q : Int) + 32) = ((q + 32 : Nat) : Int) := by rw [IntKind.wrap_i64]; omega
        have hu := uintRef_any (some ⟨b2, o2, none⟩) n c _ 4 ((q + 32 : Nat) : Int) b wr HYR.out (by omega) (by omega)
        rw [uintV_in b (q + 32) 4 (by omega)] at hu
        have HU32 := Lib.hid hu
        clear hu
        have wq36 : IntKind.i64.wrap ((q : Int) + 36) = ((q + 36 : Nat) : Int) := by rw [IntKind.wrap_i64]; omega
        have hu := uintRef_any (some ⟨b2, o2, none⟩) n c _ 4 ((q + 36 : Nat) : Int) b wr HYR.out (by omega) (by omega)
        rw [uintV_in b (q + 36) 4 (by omega)] at hu
        have HU36 := Lib.hid hu
        clear hu
        have HVM : Hid (viewAt b k = if leUp b (q + 32) 4 + leUp b (q + 36) 4 ≤ n then some ⟨(b.take (q + j)).drop q, (bt b (q + 24) : Nat), (bt b (q + 25) : Nat), (leUp b (q + 28) 4 : Nat), (b.take (leUp b (q + 32) 4 + leUp b (q + 36) 4)).drop (leUp b (q + 32) 4)⟩ else none) := Lib.hid (by
          rw [HVA.out]
          unfold viewM
          rw [leUp_drop, leUp_drop, leUp_drop, leUp_drop, leUp_drop, HNM.out, hln, show leUp b (q + 24) 1 = bt b (q + 24) by simp [leUp], show leUp b (q + 25) 1 = bt b (q + 25) by simp [leUp]])
        have l28 := leUp_lt b (q + 28) 4
        have l32 := leUp_lt b (q + 32) 4
        have l36 := leUp_lt b (q + 36) 4
        have l24 := bt_lt b (q + 24)
        have l25 := bt_lt b (q + 25)
        have hc24 : ∀ W, Below w.heap.size w W → W.cell? ⟨b2, o2 + (q + 24), none⟩ = some (.int .u8 (bt b (q + 24) : Int)) := fun W hW => HCW.out W hW _ (by omega)
        have hc25 : ∀ W, Below w.heap.size w W → W.cell? ⟨b2, o2 + (q + 25), none⟩ = some (.int .u8 (bt b (q + 25) : Int)) := fun W hW => HCW.out W hW _ (by omega)
        generalize leUp b (q + 28) 4 = en at *
        generalize leUp b (q + 32) 4 = fr at *
        generalize leUp b (q + 36) 4 = sz at *
        generalize bt b (q + 24) = kd at *
        generalize bt b (q + 25) = wd at *
        have l28' : en < 4294967296 := by simpa using l28
        have l32' : fr < 4294967296 := by simpa using l32
        have l36' : sz < 4294967296 := by simpa using l36
        clear l28 l32 l36
        go_wp2_with fail
        go_fit HU28.out
        rintro e w2 ⟨rfl, rfl⟩
        go_wp2_with fail
        go_fit HU32.out
        rintro e w2 ⟨rfl, rfl⟩
        go_wp2_with fail
        go_fit HU36.out
        rintro e w2 ⟨rfl, rfl⟩
        generalize uintE b ((q + 28 : Nat) : Int) 4 = e28 at *
        generalize uintE b ((q + 32 : Nat) : Int) 4 = e32 at *
        generalize uintE b ((q + 36 : Nat) : Int) 4 = e36 at *
        clear HU28 HU32 HU36 wq28 wq32 wq36
        have wn : IntKind.u64.wrap (n : Int) = (n : Int) := by rw [IntKind.wrap_u64]; omega
        by_cases hov : n < fr + sz
        case pos =>
          have HEND := Lib.hid (ReadR.none (b := b) (cnt := cnt) (k := k) HS.out.2.bel (by rw [HRB.out, HVM.out, if_neg (by omega)]) hlt)
          by_cases hfr : n < fr
          case pos =>
            have f2 : decide ((n : Int) < (fr : Int)) = true := by simp; omega
            have f2n : decide (n < fr) = true := by simp; omega
            clear hov hfr
            go_wp2
            go_ret
            exact HEND.out
          have f2 : decide ((n : Int) < (fr : Int)) = false := by simp; omega
          have f2n : decide (n < fr) = false := by simp; omega
          have wnf : IntKind.u64.wrap ((n : Int) - (fr : Int)) = (n : Int) - (fr : Int) := by rw [IntKind.wrap_u64]; omega
          have f3 : decide ((n : Int) - (fr : Int) < (sz : Int)) = true := by simp; omega
          clear hov hfr
          go_wp2
          go_ret
          exact HEND.out
        have f2 : decide ((n : Int) < (fr : Int)) = false := by simp; omega
        have f2n : decide (n < fr) = false := by simp; omega
        have wnf : IntKind.u64.wrap ((n : Int) - (fr : Int)) = (n : Int) - (fr : Int) := by rw [IntKind.wrap_u64]; omega
        have f3 : decide ((n : Int) - (fr : Int) < (sz : Int)) = false := by simp; omega
        have hsome : viewAt b k = some ⟨(b.take (q + j)).drop q, (kd : Nat), (wd : Nat), (en : Nat), (b.take (fr + sz)).drop fr⟩ := by rw [HVM.out, if_pos (by omega)]
        have HFS := Lib.hid (foldV_some HS.out.1 (HRB.out.trans hsome))
        have wqj : IntKind.i64.wrap ((q : Int) + (j : Int)) = (q : Int) + (j : Int) := by rw [IntKind.wrap_i64]; omega
        have w24 : IntKind.i64.wrap ((q : Int) + 24) = (q : Int) + 24 := by rw [IntKind.wrap_i64]; omega
        have p24 : 0 ≤ (q : Int) + 24 := by omega
        have t24 : ((q : Int) + 24).toNat = q + 24 := by omega
        have w25 : IntKind.i64.wrap ((q : Int) + 25) = (q : Int) + 25 := by rw [IntKind.wrap_i64]; omega
        have p25 : 0 ≤ (q : Int) + 25 := by omega
        have t25 : ((q : Int) + 25).toNat = q + 25 := by omega
        have i24 : (q : Int) + 24 < (n : Int) := by omega
        have i25 : (q : Int) + 25 < (n : Int) := by omega
        have j24 : q + 24 < n := by omega
        have j25 : q + 25 < n := by omega
        have ck : IntKind.i64.wrap (kd : Int) = (kd : Int) := by rw [IntKind.wrap_i64]; omega
        have cw : IntKind.i64.wrap (wd : Int) = (wd : Int) := by rw [IntKind.wrap_i64]; omega
        have ce : IntKind.i64.wrap (en : Int) = (en : Int) := by rw [IntKind.wrap_i64]; omega
        have wfs : IntKind.u64.wrap ((fr : Int) + (sz : Int)) = (fr : Int) + (sz : Int) := by rw [IntKind.wrap_u64]; omega
        have sl : ∀ W : World, (Instr.slice 23 (.slice (some ⟨b2, o2, none⟩) n c) (some (.int .i64 (q : Int))) (some (.int .i64 ((q : Int) + (j : Int)))) none).run Tryd.prog W = .ok (.slice (cutA (some ⟨b2, o2, none⟩) c q) j (c - q)) W := fun W => by
          rw [run_slice_lh _ _ _ _ _ byte_elem .i64 .i64 (q : Int) ((q : Int) + (j : Int)) (by omega) (by omega) (by omega), run_byteSize]
          have h1 : ((q : Int) + (j : Int)).toNat = q + j := by omega
          simp [Result.andThen, sliced, cutA, h1]
        have sl2 : ∀ W : World, (Instr.sliceAt 23 (.slice (some ⟨b2, o2, none⟩) n c) (some (.int .i64 (q : Int))) (some (.int .i64 ((q : Int) + (j : Int)))) none).run Tryd.prog W = .ok (.slice (cutA (some ⟨b2, o2, none⟩) c q) j (c - q)) W := fun W => by
          rw [run_sliceAt_slice _ _ _ _ _ _ byte_elem]; exact sl W
        have su : ∀ W : World, (Instr.slice 23 (.slice (some ⟨b2, o2, none⟩) n c) (some (.int .u64 (fr : Int))) (some (.int .u64 ((fr : Int) + (sz : Int)))) none).run Tryd.prog W = .ok (.slice (cutA (some ⟨b2, o2, none⟩) c fr) sz (c - fr)) W := fun W => by
          rw [run_slice_lh _ _ _ _ _ byte_elem .u64 .u64 (fr : Int) ((fr : Int) + (sz : Int)) (by omega) (by omega) (by omega), run_byteSize]
          have h1 : ((fr : Int) + (sz : Int)).toNat = fr + sz := by omega
          simp [Result.andThen, sliced, cutA, h1]
        have su2 : ∀ W : World, (Instr.sliceAt 23 (.slice (some ⟨b2, o2, none⟩) n c) (some (.int .u64 (fr : Int))) (some (.int .u64 ((fr : Int) + (sz : Int)))) none).run Tryd.prog W = .ok (.slice (cutA (some ⟨b2, o2, none⟩) c fr) sz (c - fr)) W := fun W => by
          rw [run_sliceAt_slice _ _ _ _ _ _ byte_elem]; exact su W
        have hstr : ∀ W, Below w.heap.size w W → (convert 23 9 (.slice (cutA (some ⟨b2, o2, none⟩) c q) j (c - q))).run Tryd.prog W = .ok (.string ⟨((b.take (q + j)).drop q).toArray⟩) W := fun W hW => by
          have h := (HB.out.below hW).cut (cap := c) (j := q) (k := q + j) (by omega) (by omega) hc
          rw [show q + j - q = j by omega] at h
          exact h.str _
        have hdat : Byt wr.drew wr.heap.size (cutA (some ⟨b2, o2, none⟩) c fr) sz ((b.take (fr + sz)).drop fr) := by
          have h := ((HYR.out.below (Below.refl _ wr).drew)).cut (cap := c) (j := fr) (k := fr + sz) (by omega) (by omega) hc
          rwa [show fr + sz - fr = sz by omega] at h
        have hdl : ((b.take (fr + sz)).drop fr).length = sz := by rw [List.length_drop, List.length_take]; omega
        have HAPD : Hid (∃ v' w', (Builtin.append_ #[23, 23] 23 #[.slice none 0 0, .slice (cutA (some ⟨b2, o2, none⟩) c fr) sz (c - fr)]).run Tryd.prog wr.drew = .ok v' w' ∧ ∃ B7, ∃ c7 : Nat, v' = .slice B7 sz c7 ∧ Own w' wr.heap.size (.slice B7 sz c7) ((b.take (fr + sz)).drop fr) ∧ Below wr.heap.size wr w') := Lib.hid (by
          obtain ⟨v', w', h1, h2, h3⟩ := (Own.nil wr.drew wr.heap.size).appG (c - fr) hdat (Nat.le_refl _) (by simp; omega)
          rw [List.nil_append] at h2
          obtain ⟨B7, c7, e, _, _, _⟩ := h2.form
          rw [hdl] at e
          subst e
          exact ⟨_, _, h1, B7, c7, rfl, h2, ((Below.refl _ wr).drew).grown h3 (Nat.le_refl _) (fun g e => by simp [Value.ownBlock] at e)⟩)
        have hS0 : Below w.heap.size w wr.drew := HS.out.2.bel.drew
        generalize hnmq : (b.take (q + j)).drop q = nm at *
        generalize (b.take (fr + sz)).drop fr = dat at *
        clear hdat hsome HVM HNM
        generalize cutA (some ⟨b2, o2, none⟩) c q = CA at *
        generalize cutA (some ⟨b2, o2, none⟩) c fr = CB at *
        go_upto_region 16 with fail
        refine wp_region_growS (S := fun W => Below w.heap.size w W) [(0, true), (1, true), (2, true), (3, true), (4, true), (5, true), (6, true), (7, true), (8, true), (9, true), (10, true), (11, true), (12, true), (13, true), (14, true), (15, true), (16, true), (17, true), (18, true), (19, true), (20, true), (21, true), (22, true), (23, true), (24, true), (25, true), (26, true), (27, true), (28, false), (29, true), (30, false), (31, false), (32, true)] (by kernel_rfl) (by kernel_rfl) (by kernel_rfl) (by kernel_rfl) (by intro c a d v w h; cases d <;> exact h) hS0 ?_
        clear su
        iterate 27
          (refine wpGrowS_float (v := ?_) (by simp only [List.getElem?_toArray, List.getElem?_cons_succ, List.getElem?_cons_zero]; rfl) (by rfl) ?_ ?_
           rotate_left
           · (intro W hW; go_simp; try with_reducible rfl)
           simp only [Act.put, List.setIfInBounds_toArray, List.set_cons_zero, List.set_cons_succ])
        refine wpGrowS_float (by simp only [List.getElem?_toArray, List.getElem?_cons_succ, List.getElem?_cons_zero]; rfl) (by rfl) (fun W _ => run_sliceOp rfl rfl rfl rfl (su2 W)) ?_
        try simp only [Act.put, List.setIfInBounds_toArray, List.set_cons_zero, List.set_cons_succ]
        clear su2 sl sl2 hstr hc24 hc25
        refine wpGrowS_call (by simp only [List.getElem?_toArray, List.getElem?_cons_succ, List.getElem?_cons_zero]; rfl) (by rfl) fun K hK => ?_
        refine oper_app8 HAPD.out rfl rfl rfl rfl ?_
        rintro v7 w7 ⟨B7, c7, rfl, ho7, hb7⟩
        refine hK _ _ (HS.out.2.bel.trans (hb7.mono HS.out.2.bel.size)) ?_
        clear hK K
        try simp only [Act.put, List.setIfInBounds_toArray, List.set_cons_zero, List.set_cons_succ]
        iterate 1
          (refine wpGrowS_float (v := ?_) (by simp only [List.getElem?_toArray, List.getElem?_cons_succ, List.getElem?_cons_zero]; rfl) (by rfl) ?_ ?_
           rotate_left
           · (intro W hW; go_simp; try with_reducible rfl)
           simp only [Act.put, List.setIfInBounds_toArray, List.set_cons_zero, List.set_cons_succ])
        have hp7 := HS.out.2.below hb7
        have hb7w : Below w.heap.size w w7 := hp7.bel
        have hb7a : Below w.heap.size w (w7.alloc (objM ⟨nm, (kd : Nat), (wd : Nat), (en : Nat), B7, sz, c7⟩)) := hb7w.alloc hb7w.size _
        have HAP9 := Lib.hid (hp7.app (s := ⟨nm, (kd : Nat), (wd : Nat), (en : Nat), B7, sz, c7⟩) (m := ⟨nm, (kd : Nat), (wd : Nat), (en : Nat), dat⟩) ⟨rfl, rfl, rfl, rfl, hdl.symm, ho7.lower HS.out.2.bel.size, by rw [hdl]; omega⟩ (by omega))
        refine wpGrowS_call (by simp only [List.getElem?_toArray, List.getElem?_cons_succ, List.getElem?_cons_zero]; rfl) (by rfl) fun K hK => ?_
        go_simp
        refine hK _ _ hb7a ?_
        clear hK K
        try simp only [Act.put, List.setIfInBounds_toArray, List.set_cons_zero, List.set_cons_succ]
        refine wpGrowS_call (by simp only [List.getElem?_toArray, List.getElem?_cons_succ, List.getElem?_cons_zero]; rfl) (by rfl) fun K hK => ?_
        refine oper_app8 HAP9.out rfl rfl rfl rfl ?_
        rintro v9 w9 hp9
        refine hK _ _ hp9.bel ?_
        clear hK K
        try simp only [Act.put, List.setIfInBounds_toArray, List.set_cons_zero, List.set_cons_succ]
        have HP9 := Lib.hid hp9
        clear hp9 HAP9 HAPD hp7 hb7 hb7w hb7a ho7
        iterate 1
          (refine wpGrowS_float (v := ?_) (by simp only [List.getElem?_toArray, List.getElem?_cons_succ, List.getElem?_cons_zero]; rfl) (by rfl) ?_ ?_
           rotate_left
           · (intro W hW; go_simp; try with_reducible rfl)
           simp only [Act.put, List.setIfInBounds_toArray, List.set_cons_zero, List.set_cons_succ])
        refine wpGrowS_nil ?_
        go_wp2
        go_roundw
        case rel => exact ⟨k + 1, _, _, by go_num, by omega, Lib.hid ⟨HFS.out, HP9.out⟩⟩
        case measure => simp [intOf]; omega
      have fj : decide ((0 : Int) < (j : Int)) = false := by simp; omega
      have fjn : decide (0 < j) = false := by simp; omega
      have hjz := Lib.hid hj0
      clear hj0
      have HNM := Lib.hid (trim_at (b := b) hj (by omega) HZ.out (fun h => absurd hjz.out (by omega)))
      clear HZ hjz
      have wq28 : IntKind.i64.wrap ((q : Int) + 28) = ((q + 28 : Nat) : Int) := by rw [IntKind.wrap_i64]; omega
      have hu := uintRef_any (some ⟨b2, o2, none⟩) n c _ 4 ((q + 28 : Nat) : Int) b wr HYR.out (by omega) (by omega)
      rw [uintV_in b (q + 28) 4 (by omega)] at hu
      have HU28 := Lib.hid hu
      clear hu
      have wq32 : IntKind.i64.wrap ((q : Int) + 32) = ((q + 32 : Nat) : Int) := by rw [IntKind.wrap_i64]; omega
      have hu := uintRef_any (some ⟨b2, o2, none⟩) n c _ 4 ((q + 32 : Nat) : Int) b wr HYR.out (by omega) (by omega)
      rw [uintV_in b (q + 32) 4 (by omega)] at hu
      have HU32 := Lib.hid hu
      clear hu
      have wq36 : IntKind.i64.wrap ((q : Int) + 36) = ((q + 36 : Nat) : Int) := by rw [IntKind.wrap_i64]; omega
      have hu := uintRef_any (some ⟨b2, o2, none⟩) n c _ 4 ((q + 36 : Nat) : Int) b wr HYR.out (by omega) (by omega)
      rw [uintV_in b (q + 36) 4 (by omega)] at hu
      have HU36 := Lib.hid hu
      clear hu
      have HVM : Hid (viewAt b k = if leUp b (q + 32) 4 + leUp b (q + 36) 4 ≤ n then some ⟨(b.take (q + j)).drop q, (bt b (q + 24) : Nat), (bt b (q + 25) : Nat), (leUp b (q + 28) 4 : Nat), (b.take (leUp b (q + 32) 4 + leUp b (q + 36) 4)).drop (leUp b (q + 32) 4)⟩ else none) := Lib.hid (by
        rw [HVA.out]
        unfold viewM
        rw [leUp_drop, leUp_drop, leUp_drop, leUp_drop, leUp_drop, HNM.out, hln, show leUp b (q + 24) 1 = bt b (q + 24) by simp [leUp], show leUp b (q + 25) 1 = bt b (q + 25) by simp [leUp]])
      have l28 := leUp_lt b (q + 28) 4
      have l32 := leUp_lt b (q + 32) 4
      have l36 := leUp_lt b (q + 36) 4
      have l24 := bt_lt b (q + 24)
      have l25 := bt_lt b (q + 25)
      have hc24 : ∀ W, Below w.heap.size w W → W.cell? ⟨b2, o2 + (q + 24), none⟩ = some (.int .u8 (bt b (q + 24) : Int)) := fun W hW => HCW.out W hW _ (by omega)
      have hc25 : ∀ W, Below w.heap.size w W → W.cell? ⟨b2, o2 + (q + 25), none⟩ = some (.int .u8 (bt b (q + 25) : Int)) := fun W hW => HCW.out W hW _ (by omega)
      generalize leUp b (q + 28) 4 = en at *
      generalize leUp b (q + 32) 4 = fr at *
      generalize leUp b (q + 36) 4 = sz at *
      generalize bt b (q + 24) = kd at *
      generalize bt b (q + 25) = wd at *
      have l28' : en < 4294967296 := by simpa using l28
      have l32' : fr < 4294967296 := by simpa using l32
      have l36' : sz < 4294967296 := by simpa using l36
      clear l28 l32 l36
      go_wp2_with fail
      go_fit HU28.out
      rintro e w2 ⟨rfl, rfl⟩
      go_wp2_with fail
      go_fit HU32.out
      rintro e w2 ⟨rfl, rfl⟩
      go_wp2_with fail
      go_fit HU36.out
      rintro e w2 ⟨rfl, rfl⟩
      generalize uintE b ((q + 28 : Nat) : Int) 4 = e28 at *
      generalize uintE b ((q + 32 : Nat) : Int) 4 = e32 at *
      generalize uintE b ((q + 36 : Nat) : Int) 4 = e36 at *
      clear HU28 HU32 HU36 wq28 wq32 wq36
      have wn : IntKind.u64.wrap (n : Int) = (n : Int) := by rw [IntKind.wrap_u64]; omega
      by_cases hov : n < fr + sz
      case pos =>
        have HEND := Lib.hid (ReadR.none (b := b) (cnt := cnt) (k := k) HS.out.2.bel (by rw [HRB.out, HVM.out, if_neg (by omega)]) hlt)
        by_cases hfr : n < fr
        case pos =>
          have f2 : decide ((n : Int) < (fr : Int)) = true := by simp; omega
          have f2n : decide (n < fr) = true := by simp; omega
          clear hov hfr
          go_wp2
          go_ret
          exact HEND.out
        have f2 : decide ((n : Int) < (fr : Int)) = false := by simp; omega
        have f2n : decide (n < fr) = false := by simp; omega
        have wnf : IntKind.u64.wrap ((n : Int) - (fr : Int)) = (n : Int) - (fr : Int) := by rw [IntKind.wrap_u64]; omega
        have f3 : decide ((n : Int) - (fr : Int) < (sz : Int)) = true := by simp; omega
        clear hov hfr
        go_wp2
        go_ret
        exact HEND.out
      have f2 : decide ((n : Int) < (fr : Int)) = false := by simp; omega
      have f2n : decide (n < fr) = false := by simp; omega
      have wnf : IntKind.u64.wrap ((n : Int) - (fr : Int)) = (n : Int) - (fr : Int) := by rw [IntKind.wrap_u64]; omega
      have f3 : decide ((n : Int) - (fr : Int) < (sz : Int)) = false := by simp; omega
      have hsome : viewAt b k = some ⟨(b.take (q + j)).drop q, (kd : Nat), (wd : Nat), (en : Nat), (b.take (fr + sz)).drop fr⟩ := by rw [HVM.out, if_pos (by omega)]
      have HFS := Lib.hid (foldV_some HS.out.1 (HRB.out.trans hsome))
      have wqj : IntKind.i64.wrap ((q : Int) + (j : Int)) = (q : Int) + (j : Int) := by rw [IntKind.wrap_i64]; omega
      have w24 : IntKind.i64.wrap ((q : Int) + 24) = (q : Int) + 24 := by rw [IntKind.wrap_i64]; omega
      have p24 : 0 ≤ (q : Int) + 24 := by omega
      have t24 : ((q : Int) + 24).toNat = q + 24 := by omega
      have w25 : IntKind.i64.wrap ((q : Int) + 25) = (q : Int) + 25 := by rw [IntKind.wrap_i64]; omega
      have p25 : 0 ≤ (q : Int) + 25 := by omega
      have t25 : ((q : Int) + 25).toNat = q + 25 := by omega
      have i24 : (q : Int) + 24 < (n : Int) := by omega
      have i25 : (q : Int) + 25 < (n : Int) := by omega
      have j24 : q + 24 < n := by omega
      have j25 : q + 25 < n := by omega
      have ck : IntKind.i64.wrap (kd : Int) = (kd : Int) := by rw [IntKind.wrap_i64]; omega
      have cw : IntKind.i64.wrap (wd : Int) = (wd : Int) := by rw [IntKind.wrap_i64]; omega
      have ce : IntKind.i64.wrap (en : Int) = (en : Int) := by rw [IntKind.wrap_i64]; omega
      have wfs : IntKind.u64.wrap ((fr : Int) + (sz : Int)) = (fr : Int) + (sz : Int) := by rw [IntKind.wrap_u64]; omega
      have sl : ∀ W : World, (Instr.slice 23 (.slice (some ⟨b2, o2, none⟩) n c) (some (.int .i64 (q : Int))) (some (.int .i64 ((q : Int) + (j : Int)))) none).run Tryd.prog W = .ok (.slice (cutA (some ⟨b2, o2, none⟩) c q) j (c - q)) W := fun W => by
        rw [run_slice_lh _ _ _ _ _ byte_elem .i64 .i64 (q : Int) ((q : Int) + (j : Int)) (by omega) (by omega) (by omega), run_byteSize]
        have h1 : ((q : Int) + (j : Int)).toNat = q + j := by omega
        simp [Result.andThen, sliced, cutA, h1]
      have sl2 : ∀ W : World, (Instr.sliceAt 23 (.slice (some ⟨b2, o2, none⟩) n c) (some (.int .i64 (q : Int))) (some (.int .i64 ((q : Int) + (j : Int)))) none).run Tryd.prog W = .ok (.slice (cutA (some ⟨b2, o2, none⟩) c q) j (c - q)) W := fun W => by
        rw [run_sliceAt_slice _ _ _ _ _ _ byte_elem]; exact sl W
      have su : ∀ W : World, (Instr.slice 23 (.slice (some ⟨b2, o2, none⟩) n c) (some (.int .u64 (fr : Int))) (some (.int .u64 ((fr : Int) + (sz : Int)))) none).run Tryd.prog W = .ok (.slice (cutA (some ⟨b2, o2, none⟩) c fr) sz (c - fr)) W := fun W => by
        rw [run_slice_lh _ _ _ _ _ byte_elem .u64 .u64 (fr : Int) ((fr : Int) + (sz : Int)) (by omega) (by omega) (by omega), run_byteSize]
        have h1 : ((fr : Int) + (sz : Int)).toNat = fr + sz := by omega
        simp [Result.andThen, sliced, cutA, h1]
      have su2 : ∀ W : World, (Instr.sliceAt 23 (.slice (some ⟨b2, o2, none⟩) n c) (some (.int .u64 (fr : Int))) (some (.int .u64 ((fr : Int) + (sz : Int)))) none).run Tryd.prog W = .ok (.slice (cutA (some ⟨b2, o2, none⟩) c fr) sz (c - fr)) W := fun W => by
        rw [run_sliceAt_slice _ _ _ _ _ _ byte_elem]; exact su W
      have hstr : ∀ W, Below w.heap.size w W → (convert 23 9 (.slice (cutA (some ⟨b2, o2, none⟩) c q) j (c - q))).run Tryd.prog W = .ok (.string ⟨((b.take (q + j)).drop q).toArray⟩) W := fun W hW => by
        have h := (HB.out.below hW).cut (cap := c) (j := q) (k := q + j) (by omega) (by omega) hc
        rw [show q + j - q = j by omega] at h
        exact h.str _
      have hdat : Byt wr.drew wr.heap.size (cutA (some ⟨b2, o2, none⟩) c fr) sz ((b.take (fr + sz)).drop fr) := by
        have h := ((HYR.out.below (Below.refl _ wr).drew)).cut (cap := c) (j := fr) (k := fr + sz) (by omega) (by omega) hc
        rwa [show fr + sz - fr = sz by omega] at h
      have hdl : ((b.take (fr + sz)).drop fr).length = sz := by rw [List.length_drop, List.length_take]; omega
      have HAPD : Hid (∃ v' w', (Builtin.append_ #[23, 23] 23 #[.slice none 0 0, .slice (cutA (some ⟨b2, o2, none⟩) c fr) sz (c - fr)]).run Tryd.prog wr.drew = .ok v' w' ∧ ∃ B7, ∃ c7 : Nat, v' = .slice B7 sz c7 ∧ Own w' wr.heap.size (.slice B7 sz c7) ((b.take (fr + sz)).drop fr) ∧ Below wr.heap.size wr w') := Lib.hid (by
        obtain ⟨v', w', h1, h2, h3⟩ := (Own.nil wr.drew wr.heap.size).appG (c - fr) hdat (Nat.le_refl _) (by simp; omega)
        rw [List.nil_append] at h2
        obtain ⟨B7, c7, e, _, _, _⟩ := h2.form
        rw [hdl] at e
        subst e
        exact ⟨_, _, h1, B7, c7, rfl, h2, ((Below.refl _ wr).drew).grown h3 (Nat.le_refl _) (fun g e => by simp [Value.ownBlock] at e)⟩)
      have hS0 : Below w.heap.size w wr.drew := HS.out.2.bel.drew
      generalize hnmq : (b.take (q + j)).drop q = nm at *
      generalize (b.take (fr + sz)).drop fr = dat at *
      clear hdat hsome HVM HNM
      generalize cutA (some ⟨b2, o2, none⟩) c q = CA at *
      generalize cutA (some ⟨b2, o2, none⟩) c fr = CB at *
      go_upto_region 16 with fail
      refine wp_region_growS (S := fun W => Below w.heap.size w W) [(0, true), (1, true), (2, true), (3, true), (4, true), (5, true), (6, true), (7, true), (8, true), (9, true), (10, true), (11, true), (12, true), (13, true), (14, true), (15, true), (16, true), (17, true), (18, true), (19, true), (20, true), (21, true), (22, true), (23, true), (24, true), (25, true), (26, true), (27, true), (28, false), (29, true), (30, false), (31, false), (32, true)] (by kernel_rfl) (by kernel_rfl) (by kernel_rfl) (by kernel_rfl) (by intro c a d v w h; cases d <;> exact h) hS0 ?_
      clear su
      iterate 27
        (refine wpGrowS_float (v := ?_) (by simp only [List.getElem?_toArray, List.getElem?_cons_succ, List.getElem?_cons_zero]; rfl) (by rfl) ?_ ?_
         rotate_left
         · (intro W hW; go_simp; try with_reducible rfl)
         simp only [Act.put, List.setIfInBounds_toArray, List.set_cons_zero, List.set_cons_succ])
      refine wpGrowS_float (by simp only [List.getElem?_toArray, List.getElem?_cons_succ, List.getElem?_cons_zero]; rfl) (by rfl) (fun W _ => run_sliceOp rfl rfl rfl rfl (su2 W)) ?_
      try simp only [Act.put, List.setIfInBounds_toArray, List.set_cons_zero, List.set_cons_succ]
      clear su2 sl sl2 hstr hc24 hc25
      refine wpGrowS_call (by simp only [List.getElem?_toArray, List.getElem?_cons_succ, List.getElem?_cons_zero]; rfl) (by rfl) fun K hK => ?_
      refine oper_app8 HAPD.out rfl rfl rfl rfl ?_
      rintro v7 w7 ⟨B7, c7, rfl, ho7, hb7⟩
      refine hK _ _ (HS.out.2.bel.trans (hb7.mono HS.out.2.bel.size)) ?_
      clear hK K
      try simp only [Act.put, List.setIfInBounds_toArray, List.set_cons_zero, List.set_cons_succ]
      iterate 1
        (refine wpGrowS_float (v := ?_) (by simp only [List.getElem?_toArray, List.getElem?_cons_succ, List.getElem?_cons_zero]; rfl) (by rfl) ?_ ?_
         rotate_left
         · (intro W hW; go_simp; try with_reducible rfl)
         simp only [Act.put, List.setIfInBounds_toArray, List.set_cons_zero, List.set_cons_succ])
      have hp7 := HS.out.2.below hb7
      have hb7w : Below w.heap.size w w7 := hp7.bel
      have hb7a : Below w.heap.size w (w7.alloc (objM ⟨nm, (kd : Nat), (wd : Nat), (en : Nat), B7, sz, c7⟩)) := hb7w.alloc hb7w.size _
      have HAP9 := Lib.hid (hp7.app (s := ⟨nm, (kd : Nat), (wd : Nat), (en : Nat), B7, sz, c7⟩) (m := ⟨nm, (kd : Nat), (wd : Nat), (en : Nat), dat⟩) ⟨rfl, rfl, rfl, rfl, hdl.symm, ho7.lower HS.out.2.bel.size, by rw [hdl]; omega⟩ (by omega))
      refine wpGrowS_call (by simp only [List.getElem?_toArray, List.getElem?_cons_succ, List.getElem?_cons_zero]; rfl) (by rfl) fun K hK => ?_
      go_simp
      refine hK _ _ hb7a ?_
      clear hK K
      try simp only [Act.put, List.setIfInBounds_toArray, List.set_cons_zero, List.set_cons_succ]
      refine wpGrowS_call (by simp only [List.getElem?_toArray, List.getElem?_cons_succ, List.getElem?_cons_zero]; rfl) (by rfl) fun K hK => ?_
      refine oper_app8 HAP9.out rfl rfl rfl rfl ?_
      rintro v9 w9 hp9
      refine hK _ _ hp9.bel ?_
      clear hK K
      try simp only [Act.put, List.setIfInBounds_toArray, List.set_cons_zero, List.set_cons_succ]
      have HP9 := Lib.hid hp9
      clear hp9 HAP9 HAPD hp7 hb7 hb7w hb7a ho7
      iterate 1
        (refine wpGrowS_float (v := ?_) (by simp only [List.getElem?_toArray, List.getElem?_cons_succ, List.getElem?_cons_zero]; rfl) (by rfl) ?_ ?_
         rotate_left
         · (intro W hW; go_simp; try with_reducible rfl)
         simp only [Act.put, List.setIfInBounds_toArray, List.set_cons_zero, List.set_cons_succ])
      refine wpGrowS_nil ?_
      go_wp2
      go_roundw
      case rel => exact ⟨k + 1, _, _, by go_num, by omega, Lib.hid ⟨HFS.out, HP9.out⟩⟩
      case measure => simp [intOf]; omega
end Go.Proofs.YtcenonnccodfoaaDoor


namespace Go.Proofs.YtcenonnccodfoaaDoor
open Go.RowKit

theorem bad_head {b : List UInt8} {x : Int} (h : headE b = x) (h0 : x ≠ 0) : IsParse8 b [] x := by
  subst h; exact isParse_bad h0
set_option maxRecDepth 50000 in
set_option maxHeartbeats 1000000 in
theorem rParse_any (A : Option Addr) (n c : Nat) (b : List UInt8) (w : World) (hb : Byt w w.heap.size A n b) (hc : n ≤ c) (hn : n ≤ 100000000) :
    Calls Tryd.prog 16 #[.slice A n c] w (ParseEnd b w) := by
  have hln := hb.1
  have HB := Lib.hid hb
  have HD : Hid (headE b = if b.length < 16 then 52 else if b.take 4 ≠ [77, 75, 66, 73] then 68 else if uintV b 4 2 ≠ 1 then 69 else if b.length < uintV b 8 4 then 52 else if uintV b 8 4 < b.length then 53 else if 16777216 < uintV b 8 4 then 15 else if uintV b 12 4 ≠ crcOf (b.drop 16) then 55 else 0) := Lib.hid rfl
  rw [hln] at HD
  clear hb
  by_cases h16 : n < 16
  · have HR : Hid (IsParse8 b [] 52) := Lib.hid (bad_head (by rw [HD.out, if_pos h16]) (by decide))
    have f0 : decide ((n : Int) < 16) = true := by simp; omega
    clear h16
    go_enter Tryd.func16, Tryd.ntmps16
    go_wp2
    go_ret2
    exact ParseEnd.bad (Below.refl _ _) HR.out
  have f0 : decide ((n : Int) < 16) = false := by simp; omega
  rw [if_neg h16] at HD
  have HU1 := Lib.hid (uintRef_any A n c _ 2 4 b w HB.out (by omega) (by omega))
  have HU2 := Lib.hid (uintRef_any A n c _ 2 6 b w HB.out (by omega) (by omega))
  have HU3 := Lib.hid (uintRef_any A n c _ 4 8 b w HB.out (by omega) (by omega))
  have HU4 := Lib.hid (uintRef_any A n c _ 4 12 b w HB.out (by omega) (by omega))
  have hcnt : uintV b 6 2 = leUp b 6 2 := uintV_in b 6 2 (by omega)
  rw [hcnt] at HU2
  clear hcnt
  go_enter Tryd.func16, Tryd.ntmps16
  go_wp2_with fail
  go_fit HU1.out
  rintro e w1 ⟨rfl, rfl⟩
  go_wp2_with fail
  go_fit HU2.out
  rintro e w1 ⟨rfl, rfl⟩
  go_wp2_with fail
  go_fit HU3.out
  rintro e w1 ⟨rfl, rfl⟩
  go_wp2_with fail
  go_fit HU4.out
  rintro e w1 ⟨rfl, rfl⟩
  clear HU1 HU2 HU3 HU4
  have hstr := (HB.out.to (k := 4) (by omega)).str c
  have hto : ∀ W : World, (Instr.slice 23 (.slice A n c) none (some (.int .i64 4)) none).run Tryd.prog W = .ok (.slice A 4 c) W := fun W => by
    have h := cut_to A n c 4 (by omega) W
    rw [run_sliceAt_slice _ _ _ _ _ _ byte_elem] at h
    exact h
  have hto2 : ∀ W : World, (Instr.sliceAt 23 (.slice A n c) none (some (.int .i64 4)) none).run Tryd.prog W = .ok (.slice A 4 c) W := fun W => cut_to A n c 4 (by omega) W
  have q2 := leUp_lt b 6 2
  have q3 := leUp_small b 8 4
  have q4 := leUp_small b 12 4
  have hcr := crc_lt (b.drop 16)
  have HRV := Lib.hid (read_views (b := b) (by omega))
  have HVP := Lib.hid (views_parse (b := b))
  have HVS := Lib.hid fun l => views_small (b := b) (l := l)
  have HOK := Lib.hid fun ms e (h : headE b = 0) => isParse_ok (b := b) (ms := ms) (e := e) h
  unfold bs at hstr
  generalize uintE b 4 2 = e1 at *
  generalize uintE b 6 2 = e2 at *
  generalize uintE b 8 4 = e3 at *
  generalize uintE b 12 4 = e4 at *
  generalize b.take 4 = mg at *
  generalize uintV b 4 2 = ver at *
  generalize uintV b 8 4 = len at *
  generalize uintV b 12 4 = sum at *
  generalize leUp b 6 2 = cnt at *
  have hcnt : cnt < 65536 := by simpa using q2
  have hlen : len < 4294967296 := by simpa using q3
  have hsum : sum < 4294967296 := by simpa using q4
  have hn64 : IntKind.u64.wrap (n : Int) = (n : Int) := by rw [IntKind.wrap_u64]; omega
  have hs32 : IntKind.u32.wrap (sum : Int) = (sum : Int) := by rw [IntKind.wrap_u32]; omega
  have hc64 : IntKind.i64.wrap (cnt : Int) = (cnt : Int) := by rw [IntKind.wrap_i64]; omega
  have h16' : 16 ≤ n := by omega
  clear q2 q3 q4 h16
  by_cases e1' : mg = [77, 75, 66, 73]
  case neg =>
    have HR : Hid (IsParse8 b [] 68) := Lib.hid (bad_head (by rw [HD.out, if_pos e1']) (by decide))
    have g1 : (mg != [77, 75, 66, 73]) = true := by simp [e1']
    have g2 : (mg == [77, 75, 66, 73]) = false := by simp [e1']
    clear e1'
    go_wp2
    go_ret2
    exact ParseEnd.bad (Below.refl _ _) HR.out
  have g1 : (mg != [77, 75, 66, 73]) = false := by simp [e1']
  have g2 : (mg == [77, 75, 66, 73]) = true := by simp [e1']
  rw [if_neg (by rw [e1']; simp)] at HD
  clear e1'
  by_cases e2' : ver = 1
  case neg =>
    have HR : Hid (IsParse8 b [] 69) := Lib.hid (bad_head (by rw [HD.out, if_pos e2']) (by decide))
    have g3 : ((ver : Int) != 1) = true := by simp; omega
    clear e2'
    go_wp2
    go_ret2
    exact ParseEnd.bad (Below.refl _ _) HR.out
  rw [if_neg (by rw [e2']; simp)] at HD
  have g3 : ((ver : Int) != 1) = false := by simp; omega
  clear e2'
  by_cases e3' : n < len
  case pos =>
    have HR : Hid (IsParse8 b [] 52) := Lib.hid (bad_head (by rw [HD.out, if_pos e3']) (by decide))
    have g4 : decide ((n : Int) < (len : Int)) = true := by simp; omega
    have g4n : decide (n < len) = true := by simp; omega
    clear e3'
    go_wp2
    go_ret2
    exact ParseEnd.bad (Below.refl _ _) HR.out
  rw [if_neg e3'] at HD
  have g4 : decide ((n : Int) < (len : Int)) = false := by simp; omega
  have g4n : decide (n < len) = false := by simp; omega
  by_cases e4' : len < n
  case pos =>
    have HR : Hid (IsParse8 b [] 53) := Lib.hid (bad_head (by rw [HD.out, if_pos e4']) (by decide))
    have g5 : decide ((len : Int) < (n : Int)) = true := by simp; omega
    have g5n : decide (len < n) = true := by simp; omega
    clear e3' e4'
    go_wp2
    go_ret2
    exact ParseEnd.bad (Below.refl _ _) HR.out
  rw [if_neg e4'] at HD
  have g5 : decide ((len : Int) < (n : Int)) = false := by simp; omega
  have g5n : decide (len < n) = false := by simp; omega
  clear e3' e4'
  by_cases e5' : 16777216 < len
  case pos =>
    have HR : Hid (IsParse8 b [] 15) := Lib.hid (bad_head (by rw [HD.out, if_pos e5']) (by decide))
    have g6 : decide ((16777216 : Int) < (len : Int)) = true := by simp; omega
    clear e5'
    go_wp2
    go_ret2
    exact ParseEnd.bad (Below.refl _ _) HR.out
  rw [if_neg e5'] at HD
  have g6 : decide ((16777216 : Int) < (len : Int)) = false := by simp; omega
  clear e5'
  have hcut : ∀ W : World, (Instr.slice 23 (.slice A n c) (some (.int .i64 16)) none none).run Tryd.prog W = .ok (.slice (cutA A c 16) (n - 16) (c - 16)) W := fun W => by
    have h := cut_from A n c 16 (by omega) W
    rw [run_sliceAt_slice _ _ _ _ _ _ byte_elem] at h
    exact h
  have hcut2 : ∀ W : World, (Instr.sliceAt 23 (.slice A n c) (some (.int .i64 16)) none none).run Tryd.prog W = .ok (.slice (cutA A c 16) (n - 16) (c - 16)) W := fun W => cut_from A n c 16 (by omega) W
  have HCR : Hid (Calls Tryd.prog 32 #[.slice (cutA A c 16) (n - 16) (c - 16)] w fun e w' => e = .returned (.int .u32 (crcOf (b.drop 16) : Nat)) ∧ w = w') := Lib.hid (by
    have h := HB.out.cut (cap := c) (j := 16) (k := n) (by omega) (Nat.le_refl _) hc
    rw [List.take_of_length_le (by omega)] at h
    exact crcRef_any _ _ _ _ _ w h (by unfold maxLen; omega))
  generalize crcOf (b.drop 16) = cr at *
  go_wp2_with fail
  go_fit HCR.out
  rintro e w2 ⟨rfl, rfl⟩
  clear HCR hcut hcut2 hto hto2 hstr
  by_cases e6' : sum = cr
  case neg =>
    have HR : Hid (IsParse8 b [] 55) := Lib.hid (bad_head (by rw [HD.out, if_pos e6']) (by decide))
    have g7 : ((sum : Int) != (cr : Int)) = true := by simp; omega
    have g7n : (sum != cr) = true := by simp [e6']
    clear e6'
    go_wp2
    go_ret2
    exact ParseEnd.bad (Below.refl _ _) HR.out
  have HH : Hid (headE b = 0) := Lib.hid (by rw [HD.out, if_neg (by rw [e6']; simp)])
  have g7 : ((sum : Int) != (cr : Int)) = false := by simp; omega
  have g7n : (sum != cr) = false := by simp [e6']
  have HK := Lib.hid fun ms e => HOK.out ms e HH.out
  have HRD := Lib.hid (rRead_any A n c b cnt w HB.out hc hn (by omega))
  clear e6' HOK HD
  go_wp2_with fail
  go_fit HRD.out
  rintro e w3 ⟨v, ss, l, rfl, hp, hv⟩
  rw [HRV.out] at hv
  have hno : ¬ (errM l = 0 ∧ imageL l = b) → ∀ xs, errM xs = 0 → imageL xs ≠ b := fun h => by
    rcases hv with hv | ⟨hv, _⟩
    · exact HVP.out.2 l hv h
    · exact HVP.out.1 hv
  have hsm : l.length ≤ 65535 ∧ ∀ m ∈ l, m.name.length ≤ 24 := by
    rcases hv with hv | ⟨_, rfl⟩
    · exact HVS.out l hv
    · exact ⟨by simp, fun m hm => by simp at hm⟩
  obtain ⟨A3, c3, rfl, hc3, hm3⟩ := hp.row
  have HNO := Lib.hid hno
  have HB3 := Lib.hid hp.bel
  have HM3 := Lib.hid hm3
  have HBC := Lib.hid (rBuild_any l ss A3 c3 w3 hm3 (by omega) hc3 (fun m hm => by have := hsm.2 m hm; omega))
  clear hv hno hsm hp hm3 HRD HVS HVP
  go_wp2_with fail
  go_fit HBC.out
  rintro e w4 ⟨hb4, A4, c4, rfl, hby4, hc4⟩
  have HB4 := Lib.hid (bel_next8 HB3.out hb4)
  by_cases he : errM l = 0
  case neg =>
    have HR := Lib.hid (HK.out [] 54 (.inr ⟨rfl, rfl, HNO.out fun h => he h.1⟩))
    have f1 : (errM l != 0) = true := by simp [he]
    clear he hby4 hc4 hb4
    generalize errM l = x at *
    generalize (imgM l).length = y at *
    go_wp2
    go_ret2
    exact ParseEnd.bad HB4.out HR.out
  have HIM := Lib.hid (imgM_ok he)
  have HE := Lib.hid he
  have HM4 := Lib.hid (HM3.out.next hb4)
  have hs1 := hby4.str c4
  have hs2 := ((HB.out.below HB4.out).wide HB4.out.size).str c
  unfold bs at hs1 hs2
  rw [he]
  clear he hby4 hc4 hb4
  by_cases hq : imgM l = b
  case neg =>
    have HR := Lib.hid (HK.out [] 54 (.inr ⟨rfl, rfl, HNO.out fun h => hq (HIM.out.trans h.2)⟩))
    have f1 : (imgM l != b) = true := by simp [hq]
    have f2 : (imgM l == b) = false := by simp [hq]
    clear hq
    generalize hyl : (imgM l).length = y at *
    generalize imgM l = im at *
    clear hyl
    go_wp2
    go_ret2
    exact ParseEnd.bad HB4.out HR.out
  have HR := Lib.hid (HK.out l 0 (.inl ⟨rfl, HE.out, HIM.out.symm.trans hq⟩))
  have HEND : Hid (ParseEnd b w (.returned (.tuple #[.slice A3 l.length c3, .int .i64 0])) w4) := Lib.hid ⟨HB4.out, A3, c3, ss, l, 0, rfl, HM4.out, hc3, HR.out⟩
  rw [hq, hln] at hs1
  rw [hq, hln]
  clear hq HIM HNO
  go_wp2
  go_ret2
  exact HEND.out
end Go.Proofs.YtcenonnccodfoaaDoor


namespace Go.Proofs.YtcenonnccodfoaaDoor
open Go.RowKit

set_option maxRecDepth 20000 in
theorem few_all (ms : List GMod) (ss : List SMod) (A : Option Addr) (c : Nat) (w : World) (hb : MRow w w.heap.size A ss ms) :
    Calls Tryd.prog 10 #[.slice A ms.length c] w fun e w' => e = .returned (.bool (fewM ms)) ∧ w' = w := by
  by_cases h : ms.length ≤ 1000000
  · exact few_any ms ss A c w hb h
  have HR : Hid (fewM ms = false) := Lib.hid (by simp [fewM]; omega)
  have f0 : decide ((70 : Int) < (ms.length : Int)) = true := by simp; omega
  have g0 : decide (70 < ms.length) = true := by simp; omega
  clear hb h
  go_enter Tryd.func10, Tryd.ntmps10
  go_wp2
  go_ret
  exact ⟨congrArg (fun b => Ending.returned (Value.bool b)) HR.out.symm, rfl⟩
theorem few_names {ms : List GMod} (h : fewM ms = true) : ms.length ≤ 70 ∧ (∀ m ∈ ms, m.name.length ≤ 140737488355328) ∧ ∀ m ∈ ms, m.data.length ≤ 2000 := by
  simp only [fewM, Bool.and_eq_true, decide_eq_true_eq, List.all_eq_true] at h
  refine ⟨h.1.1, fun m hm => ?_, fun m hm => ?_⟩
  · have h2 := h.1.2 m hm
    simp only [smallM, Bool.and_eq_true, decide_eq_true_eq] at h2
    omega
  · have h2 := h.1.2 m hm
    simp only [smallM, Bool.and_eq_true, decide_eq_true_eq] at h2
    exact h2.2
set_option maxRecDepth 50000 in
set_option maxHeartbeats 1000000 in
theorem lexact_any (A : Option Addr) (cap : Nat) (ss : List SMod) (ms : List GMod) (B : Option Addr) (nb cb : Nat) (bl nm : List UInt8) (wd : Int) (w : World) (hm : MRow w w.heap.size A ss ms) (hcap : ms.length ≤ cap) (hb : Byt w w.heap.size B nb bl) (hc : nb ≤ cb) (hnm : nm.length ≤ maxLen) :
    Calls Tryd.prog 3 #[.slice A ms.length cap, .slice B nb cb, .string ⟨nm.toArray⟩, .int .i64 wd] w fun e w' => e = .returned (.bool true) ∧ Below w.heap.size w w' := by
  have HAW := Lib.hid awake_any
  have HAW0 := Lib.hid (awake_any w)
  have HFW := Lib.hid (few_all ms ss A cap w hm)
  have HM := Lib.hid hm
  have HY := Lib.hid hb
  have hsz : (⟨nm.toArray⟩ : ByteArray).size = nm.length := ba_size nm
  have hnot : ∀ (x : Bool) (w : World), (Op.unary .not (.bool x)).run Tryd.prog w = .ok (.bool (!x)) w := fun _ _ => rfl
  unfold maxLen at hnm
  clear hm hb
  go_enter Tryd.func3, Tryd.ntmps3
  go_wp2_with fail
  go_fit HFW.out
  rintro e w1 ⟨rfl, hww⟩
  obtain rfl : w = w1 := hww.symm
  clear HFW
  cases hfew : fewM ms
  case false =>
    clear hfew HAW
    go_wp2_with fail
    go_fit HAW0.out
    rintro e w5 ⟨rfl, hb5⟩
    have HN := Lib.hid hb5
    clear hb5
    go_wp2
    go_ret
    exact ⟨rfl, HN.out⟩
  by_cases h6 : 6000 < nb
  case pos =>
    have f1 : decide ((6000 : Int) < (nb : Int)) = true := by simp; omega
    have g1 : decide (6000 < nb) = true := by simp; omega
    clear hfew HAW h6
    go_wp2_with fail
    go_fit HAW0.out
    rintro e w5 ⟨rfl, hb5⟩
    have HN := Lib.hid hb5
    clear hb5
    go_wp2
    go_ret
    exact ⟨rfl, HN.out⟩
  have f1 : decide ((6000 : Int) < (nb : Int)) = false := by simp; omega
  have g1 : decide (6000 < nb) = false := by simp; omega
  by_cases h60 : 60 < nm.length
  case pos =>
    have f2 : decide ((60 : Int) < (nm.length : Int)) = true := by simp; omega
    have g2 : decide (60 < nm.length) = true := by simp; omega
    clear hfew HAW h60
    go_wp2_with fail
    go_fit HAW0.out
    rintro e w5 ⟨rfl, hb5⟩
    have HN := Lib.hid hb5
    clear hb5
    go_wp2
    go_ret
    exact ⟨rfl, HN.out⟩
  have f2 : decide ((60 : Int) < (nm.length : Int)) = false := by simp; omega
  have g2 : decide (60 < nm.length) = false := by simp; omega
  obtain ⟨h70, hnames, hdata⟩ := few_names hfew
  have HNM := Lib.hid hnames
  have HDT := Lib.hid hdata
  have HCP := Lib.hid (copied_any ms ss A cap w HM.out hfew)
  have hn6 : nb ≤ 6000 := by omega
  clear hnames hdata HAW0 h6 h60 hfew
  go_wp2_with fail
  go_fit HCP.out
  rintro e w2 ⟨v2, s2, rfl, hcp⟩
  obtain ⟨A2, c2, rfl, hc2, _, hm2⟩ := hcp.row2
  have HB2 := Lib.hid hcp.bel
  have HM2 := Lib.hid hm2
  have HPB := Lib.hid (pBuild_any ms s2 A2 c2 w2 hm2 (by omega) hc2 HNM.out)
  clear hcp hm2 HCP
  go_wp2_with fail
  go_fit HPB.out
  rintro e w3 ⟨hb3, A3, c3, rfl, hy3, hc3⟩
  have HB3 := Lib.hid (bel_next8 HB2.out hb3)
  have HM3 := Lib.hid (HM2.out.next hb3)
  have HY3 := Lib.hid hy3
  have HRB := Lib.hid (rBuild_any ms ss A cap w3 (HM.out.next HB3.out) (by omega) hcap HNM.out)
  clear hb3 hy3 HPB HM2
  go_wp2_with fail
  go_fit HRB.out
  rintro e w4 ⟨hb4, A4, c4, rfl, hy4, hc4⟩
  have HB4 := Lib.hid (bel_next8 HB3.out hb4)
  have HM4 := Lib.hid (HM3.out.next hb4)
  have HY34 := Lib.hid (HY3.out.next8 hb4)
  have HY4 := Lib.hid hy4
  have HYB := Lib.hid (HY.out.next8 HB4.out)
  obtain ⟨v5, w5, hrun5, hg5⟩ := Grow.start cb HYB.out (by omega)
  obtain ⟨A5, c5, rfl, hc5, hy5⟩ := hg5.form
  rw [HY.out.1] at hrun5 hc5 hy5
  have HR5 := Lib.hid hrun5
  have HB5 := Lib.hid (bel_next8 HB4.out hg5.2)
  have HM5 := Lib.hid (HM4.out.next hg5.2)
  have HX5 := Lib.hid (HY34.out.next8 hg5.2)
  have HZ5 := Lib.hid (HY4.out.next8 hg5.2)
  have HPP := Lib.hid (pParse_any A5 nb c5 bl w5 hy5 hc5 (by omega))
  clear hb4 hy4 HRB hrun5 hg5 hy5 HM3 HM4 HY3 HY34 HY4 HYB
  go_wp2_with (at_builtin; refine wpList_app_run HR5.out rfl rfl rfl rfl rfl ?_)
  go_fit HPP.out
  rintro e w6 ⟨hb6, A6, c6, s6, p6, e6, rfl, hm6, hc6, hip6⟩
  have HB6 := Lib.hid (bel_next8 HB5.out hb6)
  have HM6 := Lib.hid (HM5.out.next hb6)
  have HX6 := Lib.hid (HX5.out.next8 hb6)
  have HZ6 := Lib.hid (HZ5.out.next8 hb6)
  have HP6 := Lib.hid hm6
  have HIP := Lib.hid hip6
  have HRP := Lib.hid (rParse_any B nb cb bl w6 (HY.out.next8 HB6.out) hc (by omega))
  clear hb6 hm6 hip6 HPP HR5 HM5 HX5 HZ5
  go_wp2_with fail
  go_fit HRP.out
  rintro e w7 ⟨hb7, A7, c7, s7, p7, e7, rfl, hm7, hc7, hip7⟩
  obtain ⟨rfl, rfl⟩ := HIP.out.same hip7
  have HB7 := Lib.hid (bel_next8 HB6.out hb7)
  have HM7 := Lib.hid (HM6.out.next hb7)
  have HX7 := Lib.hid (HX6.out.next8 hb7)
  have HZ7 := Lib.hid (HZ6.out.next8 hb7)
  have HP7 := Lib.hid (HP6.out.next hb7)
  have HQ7 := Lib.hid hm7
  have hp7 : p6.length ≤ 1000000 := by
    rcases parse_cases hip7 with ⟨_, h, _⟩ | ⟨_, rfl⟩
    · have := (errM_good h).few; omega
    · simp
  have HPF := Lib.hid (pFind_any nm wd ms s2 A2 c2 w7 HM7.out (by omega))
  clear hb7 hm7 hip7 HRP HIP HM6 HX6 HZ6 HP6
  go_wp2_with fail
  go_fit HPF.out
  rintro e w8 ⟨⟨i8, o8, rfl, hf8⟩, hb8⟩
  have HB8 := Lib.hid (bel_next8 HB7.out hb8)
  have HF8 := Lib.hid hf8
  have HRF := Lib.hid (rFind_any nm wd ms ss A cap w8 (HM.out.next HB8.out) (by omega))
  have HM8 := Lib.hid (HM7.out.next hb8)
  have HX8 := Lib.hid (HX7.out.next8 hb8)
  have HZ8 := Lib.hid (HZ7.out.next8 hb8)
  have HP8 := Lib.hid (HP7.out.next hb8)
  have HQ8 := Lib.hid (HQ7.out.next hb8)
  clear hf8 hb8 HPF HM7 HX7 HZ7 HP7 HQ7
  go_wp2_with fail
  go_fit HRF.out
  rintro e w9 ⟨⟨i9, o9, rfl, hf9⟩, rfl⟩
  obtain ⟨rfl, rfl⟩ := HF8.out.same hf9
  have hs3 := HX8.out.str c3
  have hs4 := HZ8.out.str c4
  unfold bs at hs3 hs4
  have HS1 := Lib.hid (rSame8_any p6 p6 s6 s7 A6 A7 c6 c7 w8 HP8.out HQ8.out hp7)
  clear hf9 HF8 HRF HX8 HZ8 HP8 HQ8 hc3 hc4
  generalize (imgM ms).length = il at *
  generalize imgM ms = im at *
  generalize errM ms = em at *
  generalize p6.length = pl at *
  go_wp2_with fail
  go_fit HS1.out
  rintro e w9 ⟨⟨q, rfl, hq⟩, hb9⟩
  obtain rfl : q = true := hq.2 rfl
  have HB9 := Lib.hid (bel_next8 HB8.out hb9)
  have HM9 := Lib.hid (HM8.out.next hb9)
  have HSL := Lib.hid (pSelect_any wd ms s2 A2 c2 w9 HM9.out (by omega) HDT.out)
  clear hq hb9 HS1 HM8 hs3 hs4
  go_wp2_with fail
  go_fit HSL.out
  rintro e w10 ⟨v10, s10, rfl, hcp⟩
  obtain ⟨A10, c10, rfl, hc10, _, hm10⟩ := hcp.row2
  have HB10 := Lib.hid (bel_next8 HB9.out hcp.bel)
  have HM10 := Lib.hid (HM9.out.next hcp.bel)
  have HF10 := Lib.hid hm10
  have HRS := Lib.hid (rSelect_any wd ms ss A cap w10 (HM.out.next HB10.out) (by omega))
  clear hcp hm10 HSL HM9
  go_wp2_with fail
  go_fit HRS.out
  rintro e w11 ⟨A11, c11, s11, rfl, hm11, hb11⟩
  have HB11 := Lib.hid (bel_next8 HB10.out hb11)
  have HM11 := Lib.hid (HM10.out.next hb11)
  have hfl : (ms.filter (selB wd)).length ≤ 1000000 := by have := List.length_filter_le (selB wd) ms; omega
  have HS2 := Lib.hid (rSame8_any (ms.filter (selB wd)) (ms.filter (selB wd)) s10 s11 A10 A11 c10 c11 w11 (HF10.out.next hb11) hm11 hfl)
  clear hb11 hm11 HRS HM10 HF10 hfl
  go_wp2_with fail
  go_fit HS2.out
  rintro e w12 ⟨⟨q, rfl, hq⟩, hb12⟩
  obtain rfl : q = true := hq.2 rfl
  have HB12 := Lib.hid (bel_next8 HB11.out hb12)
  have HS3 := Lib.hid (rSame8_any ms ms s2 ss A2 A c2 cap w12 (HM11.out.next hb12) (HM.out.next HB12.out) (by omega))
  clear hq hb12 HS2 HM11
  go_wp2_with fail
  go_fit HS3.out
  rintro e w13 ⟨⟨q, rfl, hq⟩, hb13⟩
  obtain rfl : q = true := hq.2 rfl
  have HB13 := Lib.hid (bel_next8 HB12.out hb13)
  have HAW13 := Lib.hid (HAW.out w13)
  clear hq hb13 HS3
  go_wp2_with fail
  go_fit HAW13.out
  rintro e w14 ⟨rfl, hb14⟩
  have HN := Lib.hid (bel_next8 HB13.out hb14)
  clear hb14
  go_wp2
  go_ret
  exact ⟨rfl, HN.out⟩
end Go.Proofs.YtcenonnccodfoaaDoor
