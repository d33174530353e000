/-
  The law RangeCovered returns true.
  Conditions: none.
-/
import Derived.Test.YtlndafkmihdbmaaDoorLrg
namespace Go.Proofs.YtlndafkmihdbmaaDoor
open Go.RowKit

def dbl (us : List GR) (k : Nat) : List GR := (us.drop k).reverse.flatMap fun x => [x, x]
theorem dbl_step {us : List GR} {j : Nat} (h : j < us.length) : dbl us j = dbl us (j + 1) ++ [us[j], us[j]] := by
  unfold dbl
  rw [List.drop_eq_getElem_cons h, List.reverse_cons, List.flatMap_append]
  simp
theorem len2 : ∀ l : List GR, (l.flatMap fun x => [x, x]).length = 2 * l.length
  | [] => rfl
  | x :: l => by rw [List.flatMap_cons, List.length_append, len2 l]; simp; omega
theorem dbl_len (us : List GR) (k : Nat) : (dbl us k).length = 2 * (us.length - k) := by
  unfold dbl
  rw [len2, List.length_reverse, List.length_drop]
theorem dbl_mem (us : List GR) (r : GR) : r ∈ dbl us 0 ↔ r ∈ us := by
  unfold dbl
  simp [List.mem_flatMap]
theorem lit2 (w : World) (a : GR) : GRow GR.cells 2 (w.alloc (.cells #[.int .i64 a.base, .int .i64 a.bits, .int .i64 a.base, .int .i64 a.bits] 23)) (w.alloc (.cells #[.int .i64 a.base, .int .i64 a.bits, .int .i64 a.base, .int .i64 a.bits] 23)).heap.size (some ⟨w.heap.size, 0, none⟩) [a, a] := by
  obtain ⟨A, c', e, _, _, hr⟩ := (OwnG.lit GR.len w w.heap.size (T := 23) [a, a] #[.int .i64 a.base, .int .i64 a.bits, .int .i64 a.base, .int .i64 a.bits] rfl (Nat.le_refl _) (by unfold maxLen; simp)).row GR.len
  cases e
  exact hr
/-- An append whose run is known only by what it leaves, as a step of a region that leaves its order open. -/
theorem step_app10 {S : TypeId} {ops : Array Oper} {o : Oper} {a : Act} {K : Act → World → Prop} {Q : Exit → Act → World → Prop} {E : Prop} {v y : Value} {W : World} {R : Value → World → Prop}
    (H : ∃ v' w', (Builtin.append_ #[S, S] S #[v, y]).run Tryd.prog W = .ok v' w' ∧ R v' w') (hgd : o.guard = none) {s x : Operand}
    (ho : o.op = .call { callee := .builtin .append, args := #[s, x], argTypes := #[S, S] }) (hty : o.type = S) (hs : a.eval s = v) (hx : a.eval x = y)
    (h : ∀ v' w', R v' w' → K (a.put o.dst v') w') : if Region.wanted o (yielded ops a.tmps) = true then Oper.wp Tryd.prog o a W K Q else E := by
  obtain ⟨v', w', hr, h2⟩ := H
  have hw : Region.wanted o (yielded ops a.tmps) = true := by simp [Region.wanted, hgd]
  rw [if_pos hw]
  unfold Oper.wp execOp
  simp only [ho, hty, resolve, invoke, builtin, Sem.run_bind, Sem.run_pure, Result.andThen_ok, List.map_toArray, List.map_cons, List.map_nil, hs, hx, hr]
  exact h _ _ h2
theorem cov_dbl (us : List GR) : covL (dbl us 0) = covL us := by rw [cov_ms, cov_ms]; exact ms_eq (dbl_mem us)
theorem cov_more (us : List GR) {x : GR} (h : VR x) : covL us ≤ covL (us ++ [x]) ∧ covL (us ++ [x]) ≤ covL us + x.sz ∧ x.sz ≤ covL (us ++ [x]) := by
  rw [cov_ms, cov_ms]; exact ms_more us h
theorem cov_top (us : List GR) : 0 ≤ covL us ∧ covL us ≤ 1099511627776 := by
  rw [cov_ms]
  refine ⟨cnt_nonneg _ _ _, ?_⟩
  have h := cnt_mono (P := inL us) (Q := fun _ => true) (a := 0) (n := TOPN) fun _ _ _ _ => rfl
  rw [cnt_all fun _ _ _ => rfl, topn] at h
  exact h
theorem wsum2 {s z : Int} (h0 : 0 ≤ s) (h1 : s ≤ 1099511627776) (h2 : 0 < z) (h3 : z ≤ 1099511627776) : wrap64 (s + z) = s + z := IntWalk.wrap64_in _ (by omega)
def AppR (w5 : World) (us : List GR) (x : GR) (v : Value) (W : World) : Prop := ∃ A' c', v = .slice A' (us.length + 1) c' ∧ GRow GR.cells 2 W W.heap.size A' (us ++ [x]) ∧ Below w5.heap.size w5 W
theorem app_late {w5 w6 : World} {A : Option Addr} {c : Nat} {us : List GR} {b : Nat} (h : OwnR w6 b (.slice A us.length c) us) (hb : Below w5.heap.size w5 w6) (hle : w5.heap.size ≤ b) (hl : us.length ≤ 40) (x : GR) :
    ∃ v' w', (Builtin.append_ #[30, 30] 30 #[.slice A us.length c, .slice (some ⟨w6.heap.size, 0, none⟩) 1 1]).run Tryd.prog (w6.alloc (.cells #[.int .i64 x.base, .int .i64 x.bits] 23)) = .ok v' w' ∧ AppR w5 us x v' w' := by
  obtain ⟨v9, w9, hrun, hown, hb9⟩ := OwnR.snoc (w0 := w5) (OwnR.base h hle) hb x (by omega)
  obtain ⟨A', c', rfl, _, _, hr⟩ := OwnG.row GR.len hown
  exact ⟨_, w9, hrun, A', c', by rw [List.length_append]; rfl, hr, hb9⟩
theorem app_early {w5 w6 : World} {A : Option Addr} {c : Nat} {us : List GR} {b N : Nat} (h : OwnR w6 b (.slice A us.length c) us) (hb : Below w5.heap.size w5 w6) (hle : w5.heap.size ≤ b) (hl : us.length ≤ 40) {x : GR} (hlit : GRow GR.cells 2 w6 w6.heap.size (some ⟨N, 0, none⟩) [x]) :
    ∃ v' w', (Builtin.append_ #[30, 30] 30 #[.slice A us.length c, .slice (some ⟨N, 0, none⟩) 1 1]).run Tryd.prog w6 = .ok v' w' ∧ AppR w5 us x v' w' := by
  have h2 := OwnR.base h hle
  obtain ⟨v9, w9, hrun, hown, hg, _⟩ := OwnG.app elt_rng GR.len GR.one h2 1 hlit hb.size (by unfold maxLen; simp; omega) (by simp; omega)
  obtain ⟨A', c', rfl, _, _, hr⟩ := OwnG.row GR.len hown
  exact ⟨_, w9, hrun, A', c', by rw [List.length_append]; rfl, hr, hb.grown hg hb.size (fun g e => (OwnG.lt h2 g e).1)⟩
set_option maxRecDepth 20000 in
set_option maxHeartbeats 8000000 in
theorem lcovered (A : Option Addr) (len cap : Nat) (zs : List Int) (a b : Int) (w : World) (hr : IRow w w.heap.size A len cap zs) (hG : T10 w) :
    Calls Tryd.prog 14 #[.slice A len cap, .int .i64 a, .int .i64 b] w fun e w' => e = .returned (.bool true) ∧ Below w.heap.size w w' := by
  have HSM := Lib.hid fun W => mSmall_any a b W
  have HSS := Lib.hid (mSmalls_any A len cap zs w hr)
  have HAW := Lib.hid fun W hb => awake10 W (T10.next hG hb)
  clear hr
  go_enter Tryd.func14, Tryd.ntmps14
  go_wp2_with fail
  go_fit HSS.out
  rintro e w2 ⟨v2, rfl, us, hs2⟩
  have ho2 := hs2.own
  have hul := hs2.few
  have hb2 := hs2.bel
  obtain ⟨A1, c1, rfl, hc1, hm1, hr1⟩ := ho2.row GR.len
  have HU2 := Lib.hid hr1
  have HB2 := Lib.hid hb2
  clear hs2 ho2 hb2 hc1 hm1 hr1 HSS
  go_wp2
  go_loopw [8, 9] (fun v8 v9 wr => ∃ k : Nat, v9 = .int .i64 ((k : Int) - 1) ∧ k ≤ us.length ∧ Hid (OwnR wr w2.heap.size v8 (dbl us k)) ∧ Hid (Below w2.heap.size w2 wr)) (fun _ v9 _ => (intOf v9 + 1).toNat)
  case atStart => exact ⟨us.length, rfl, Nat.le_refl _, Lib.hid (by unfold dbl; rw [List.drop_length]; exact OwnG.nil _ _), Lib.hid (Below.refl _ _)⟩
  case round =>
    obtain ⟨k, rfl, hk, HO, HB⟩ := hrel
    obtain ⟨Ab, cb, rfl, hcb, hmb, hrb⟩ := HO.out.row GR.len
    rcases k with _ | j
    · have HRB := Lib.hid hrb
      have HD0 := Lib.hid (cov_dbl us)
      have hdl : (dbl us 0).length ≤ 80 := by rw [dbl_len]; omega
      have HCD := Lib.hid fun A c W h => pCov_any (dbl us 0) A c W h (by omega)
      rw [HD0.out] at HCD
      have HCU := Lib.hid fun A c W h => pCov_any us A c W h (by omega)
      have HCP := Lib.hid fun A c W h => copied_any us A c W h (by omega)
      have HMO := Lib.hid fun x h => cov_more us (x := x) h
      have htop := cov_top us
      have HBW := Lib.hid (beln HB2.out HB.out)
      have HUW := Lib.hid (GRow.next HU2.out HB.out)
      generalize covL us = n at *
      generalize hnd : (dbl us 0).length = nd at *
      generalize wr = wB at *
      clear hcb hmb hrb HO HB
      go_wp2_with fail
      go_fit (HSM.out _)
      rintro e w3 ⟨⟨xb, xn⟩, hvx, h16, htx, rfl, hb3⟩
      have HB3 := Lib.hid (belt (beln HBW.out hb3) (.cells #[.int .i64 xb, .int .i64 xn] 23))
      have HX3 := Lib.hid (RB.new w3 ⟨xb, xn⟩)
      have HU3 := Lib.hid (GRow.next HUW.out (belt hb3 (.cells #[.int .i64 xb, .int .i64 xn] 23)))
      have HR3 := Lib.hid (GRow.next HRB.out (belt hb3 (.cells #[.int .i64 xb, .int .i64 xn] 23)))
      have HVX := Lib.hid hvx
      clear hb3 hvx h16 htx HU2 HB2 HUW HRB HBW HSM
      simp only [GR.val]
      go_wp2_with fail
      go_fit (HCP.out A1 c1 _ HU3.out)
      rintro e w4 ⟨v4, rfl, ho4, hb4⟩
      obtain ⟨A4, c4, rfl, hc4, hm4, hr4⟩ := ho4.row GR.len
      have HCU4 := Lib.hid (HCU.out A4 c4 w4 hr4)
      have HB4 := Lib.hid (beln HB3.out hb4)
      have HX4 := Lib.hid (RB.next HX3.out hb4)
      have HU4 := Lib.hid (GRow.next HU3.out hb4)
      have HR4 := Lib.hid (GRow.next HR3.out hb4)
      clear ho4 hc4 hm4 hr4 hb4 HB3 HX3 HU3 HR3
      go_wp2_with fail
      go_fit HCU4.out
      rintro e w5 ⟨rfl, hb5⟩
      have HB5 := Lib.hid (beln HB4.out hb5)
      have HX5 := Lib.hid (RB.next HX4.out hb5)
      have HU5 := Lib.hid (GRow.next HU4.out hb5)
      have HR5 := Lib.hid (GRow.next HR4.out hb5)
      clear hb5 HB4 HX4 HU4 HR4 HCU4
      obtain ⟨f0, f1, _, _⟩ := RB.facts HX5.out
      have HCN := Lib.hid fun A c W h => pCov_any (us ++ [⟨xb, xn⟩]) A c W h (by rw [List.length_append, List.length_singleton]; omega)
      rw [List.length_append, List.length_singleton] at HCN
      obtain ⟨m1, m2, m3⟩ := HMO.out _ HVX.out
      rw [show GR.sz ⟨xb, xn⟩ = pw xn from rfl] at m2 m3
      have mtop := cov_top (us ++ [⟨xb, xn⟩])
      generalize covL (us ++ [⟨xb, xn⟩]) = m at *
      have hx1 : RB w5.drew w3.heap.size ⟨xb, xn⟩ := RB.next HX5.out (Below.refl _ w5).drew
      have hu1 := GRow.next HU5.out (Below.refl _ w5).drew
      have hbz : Below w5.heap.size w5 (w5.alloc (.cells #[.int .i64 xb, .int .i64 xn] 23)).drew := (belt (Below.refl _ w5) (.cells #[.int .i64 xb, .int .i64 xn] 23)).drew
      have hx2 := RB.next HX5.out hbz
      have hx3 := RB.next HX5.out (belt (Below.refl _ w5) (.cells #[.int .i64 xb, .int .i64 xn] 23))
      have hu2 := GRow.next HU5.out hbz
      have hl2 : GRow GR.cells 2 (w5.alloc (.cells #[.int .i64 xb, .int .i64 xn] 23)).drew (w5.alloc (.cells #[.int .i64 xb, .int .i64 xn] 23)).drew.heap.size (some ⟨w5.heap.size, 0, none⟩) [⟨xb, xn⟩] := by simpa using GRow.keep (lit_rng w5 ⟨xb, xn⟩) (w' := (w5.alloc (.cells #[.int .i64 xb, .int .i64 xn] 23)).drew) (fun _ _ => rfl)
      obtain ⟨g0, g1, _, _⟩ := RB.facts hx3
      have HML := Lib.hid m1
      have HMM := Lib.hid m2
      have HMH := Lib.hid m3
      have HMT := Lib.hid mtop
      have HT := Lib.hid htop
      clear m1 m2 m3 mtop htop HMO
      generalize hun : us.length = un at *
      go_wp2_with fail
      go_upto_region 9 with fail
      go_region_law
        (first
          | (go_simp; go_at_call 28; go_fit (HCP.out A1 c1 _ hu1); rintro e w6 ⟨v6, rfl, ho6, hbn⟩; obtain ⟨A6, c6, hv6, _, _, _⟩ := ho6.row GR.len; rw [hun] at hv6; subst hv6; have hb6 := beln (Below.refl _ w5).drew hbn; obtain ⟨p0, p1, _, _⟩ := RB.facts (RB.next hx1 hbn); obtain ⟨p2, p3, _, _⟩ := RB.facts (RB.next (RB.next hx1 hbn) (belt (Below.refl _ w6) (.cells #[.int .i64 xb, .int .i64 xn] 23))); have hap := app_late (by rw [hun]; exact ho6) hb6 (Nat.le_refl _) (by omega) ⟨xb, xn⟩; rw [hun] at hap)
          | (go_simp; go_at_call 28; go_fit (HCP.out A1 c1 _ hu2); rintro e w6 ⟨v6, rfl, ho6, hbn⟩; obtain ⟨A6, c6, hv6, _, _, _⟩ := ho6.row GR.len; rw [hun] at hv6; subst hv6; have hb6 := beln hbz hbn; obtain ⟨p0, p1, _, _⟩ := RB.facts (RB.next hx2 hbn); have hap := app_early (by rw [hun]; exact ho6) hb6 hbz.size (by omega) (GRow.next hl2 hbn); rw [hun] at hap)
          | (refine step_app10 hap rfl rfl rfl rfl rfl ?_; rintro v7 w7 ⟨A7, c7, rfl, hr7, hb7⟩)
          | (go_simp; go_at_call 32; go_fit (HCN.out A7 c7 _ hr7); rintro e w8 ⟨rfl, hb8⟩))
      all_goals
        have hbe := beln hb7 hb8
        have HBE := Lib.hid (beln HB5.out hbe)
        have HXE := Lib.hid (RB.next HX5.out hbe)
        have HCE := Lib.hid (HCD.out Ab cb _ (GRow.next HR5.out hbe))
        clear hbe hb8 hb7 hr7 hap hb6 ho6 hbn hx1 hu1 hbz hx2 hx3 hu2 hl2 g0 g1 f0 f1 p0 p1
        go_wp2_with fail
        go_fit HCE.out
        rintro e w9 ⟨rfl, hb9⟩
        have HB9 := Lib.hid (beln HBE.out hb9)
        obtain ⟨y0, y1, _, _⟩ := RB.facts (RB.next HXE.out hb9)
        clear hb9
        have m1 := HML.out
        have m2 := HMM.out
        have m3 := HMH.out
        obtain ⟨t1, t2⟩ := HMT.out
        obtain ⟨t3, t4⟩ := HT.out
        have v1 : 6 ≤ xn := HVX.out.lo
        have v2 : xn ≤ 40 := HVX.out.hi
        have hzt := pw_top (n := xn) (by omega) (by omega)
        have hzp := pw_pos xn
        have hsh : IntKind.i64.wrap (2 ^ xn.toNat) = pw xn := shl_one (by omega) (by omega)
        have hsh2 : wrap64 (2 ^ xn.toNat) = pw xn := shl_one64 (by omega) (by omega)
        have hcu : IntKind.u64.wrap xn = xn := by rw [IntKind.wrap_u64]; omega
        have hmin : min xn.toNat 64 = xn.toNat := by omega
        generalize pw xn = z at *
        have hwz : wrap64 (n + z) = n + z := wsum2 t3 t4 hzp hzt
        have d1 : decide (n ≤ m) = true := decide_eq_true m1
        have d2 : decide (m ≤ n + z) = true := decide_eq_true m2
        have d3 : decide (z ≤ m) = true := decide_eq_true m3
        clear t1 t2 t3 t4 hzt hzp
        go_wp2_with fail
        go_fit (HAW.out _ (HB9.out))
        rintro e w10 ⟨rfl, hb10⟩
        have HB10 := Lib.hid (beln HB9.out hb10)
        clear hb10
        go_wp2
        go_ret
        exact ⟨rfl, HB10.out⟩
    · have hk2 : j < us.length := hk
      rw [show (((j + 1 : Nat) : Int) - 1) = (j : Int) by omega]
      obtain ⟨b3, o3, rfl, hb3, _, _⟩ := HU2.out.rng hk2
      have hnb : (dbl us (j + 1)).length ≤ 80 := by rw [dbl_len]; omega
      have HDS := Lib.hid (dbl_step hk2)
      obtain ⟨⟨ub, un⟩, hu⟩ : ∃ u : GR, u = us[j] := ⟨_, rfl⟩
      have HUK := Lib.hid hu
      rw [← hu] at HDS
      have HUB := Lib.hid HU2.out
      clear hcb hmb hrb hu
      generalize hnn : (dbl us (j + 1)).length = nb at *
      go_upto_region 6 with fail
      have hS : Below w2.heap.size w2 wr.drew ∧ (GRow GR.cells 2 wr.drew w2.heap.size (some ⟨b3, o3, none⟩) us ∧ w2.heap.size ≤ wr.drew.heap.size) := ⟨HB.out.drew, RowB.next (RowB.next ⟨HU2.out, Nat.le_refl _⟩ HB.out) (Below.refl _ wr).drew⟩
      refine wp_region_growS (S := fun W => Below w2.heap.size w2 W ∧ (GRow GR.cells 2 W w2.heap.size (some ⟨b3, o3, none⟩) us ∧ w2.heap.size ≤ W.heap.size)) [(0, true), (1, true), (2, true), (3, true), (4, true), (5, true), (6, true), (7, true), (8, true), (9, false), (10, false), (11, true)] (by kernel_rfl) (by kernel_rfl) (by kernel_rfl) (by kernel_rfl) (by intro c a d v w h; cases d <;> exact h) hS ?_
      iterate 9
        (first
          | (refine wpGrowS_float (v := ?_) (by simp only [List.getElem?_toArray, List.getElem?_cons_succ, List.getElem?_cons_zero]; rfl) (by rfl) ?_ ?_
             rotate_left
             · (intro W hW; obtain ⟨q0, q1⟩ := (RowB.row hW.2).rngIs hk2 HUK.out; go_simp; try with_reducible rfl)
             simp only [Act.put, List.setIfInBounds_toArray, List.set_cons_zero, List.set_cons_succ])
          | (refine wpGrowS_skip (by simp only [List.getElem?_toArray, List.getElem?_cons_succ, List.getElem?_cons_zero]; rfl) (by rfl) ?_
             simp only [Act.put, List.setIfInBounds_toArray, List.set_cons_zero, List.set_cons_succ]))
      refine wpGrowS_call (by simp only [List.getElem?_toArray, List.getElem?_cons_succ, List.getElem?_cons_zero]; rfl) (by rfl) fun K hK => ?_
      go_simp
      have hbn : Below wr.drew.heap.size wr.drew (wr.drew.alloc (.cells #[.int .i64 ub, .int .i64 un, .int .i64 ub, .int .i64 un] 23)) := (Below.refl _ wr.drew).alloc (Nat.le_refl _) _
      have hS : Below w2.heap.size w2 (wr.drew.alloc (.cells #[.int .i64 ub, .int .i64 un, .int .i64 ub, .int .i64 un] 23)) ∧ (GRow GR.cells 2 (wr.drew.alloc (.cells #[.int .i64 ub, .int .i64 un, .int .i64 ub, .int .i64 un] 23)) w2.heap.size (some ⟨b3, o3, none⟩) us ∧ w2.heap.size ≤ (wr.drew.alloc (.cells #[.int .i64 ub, .int .i64 un, .int .i64 ub, .int .i64 un] 23)).heap.size) := ⟨beln (hS.1) hbn, RowB.next (hS.2) hbn⟩
      refine hK _ _ hS ?_
      clear hK K
      try simp only [Act.put, List.setIfInBounds_toArray, List.set_cons_zero, List.set_cons_succ]
      have ho9 : OwnR wr.drew w2.heap.size (.slice Ab nb cb) (dbl us (j + 1)) := OwnG.next HO.out (Below.refl _ wr).drew
      obtain ⟨v9, w9, hrun9, hown9, hg9, _⟩ := OwnG.app elt_rng GR.len GR.one (ho9.alloc (.cells #[.int .i64 ub, .int .i64 un, .int .i64 ub, .int .i64 un] 23)) 2 (lit2 wr.drew ⟨ub, un⟩) (by have := hS.1.size; exact this) (by unfold maxLen; simp; omega) (by simp; omega)
      have hlow : ∀ g, Value.ownBlock (.slice Ab nb cb) = some g → w2.heap.size ≤ g := fun g e => (ho9.lt g e).1
      have hS9 : Below w2.heap.size w2 w9 ∧ (GRow GR.cells 2 w9 w2.heap.size (some ⟨b3, o3, none⟩) us ∧ w2.heap.size ≤ w9.heap.size) := ⟨hS.1.grown hg9 hS.1.size hlow, RowB.gb hS.2 hg9 hlow⟩
      refine wpGrowS_call (by simp only [List.getElem?_toArray, List.getElem?_cons_succ, List.getElem?_cons_zero]; rfl) (by rfl) fun K hK => ?_
      refine oper_app10 (R := fun v W => v = v9 ∧ W = w9) ⟨v9, w9, hrun9, rfl, rfl⟩ rfl rfl rfl rfl ?_
      rintro v8 w8 ⟨rfl, rfl⟩
      refine hK _ _ hS9 ?_
      clear hK K
      try simp only [Act.put, List.setIfInBounds_toArray, List.set_cons_zero, List.set_cons_succ]
      iterate 1
        (first
          | (refine wpGrowS_float (v := ?_) (by simp only [List.getElem?_toArray, List.getElem?_cons_succ, List.getElem?_cons_zero]; rfl) (by rfl) ?_ ?_
             rotate_left
             · (intro W hW; obtain ⟨q0, q1⟩ := (RowB.row hW.2).rngIs hk2 HUK.out; go_simp; try with_reducible rfl)
             simp only [Act.put, List.setIfInBounds_toArray, List.set_cons_zero, List.set_cons_succ])
          | (refine wpGrowS_skip (by simp only [List.getElem?_toArray, List.getElem?_cons_succ, List.getElem?_cons_zero]; rfl) (by rfl) ?_
             simp only [Act.put, List.setIfInBounds_toArray, List.set_cons_zero, List.set_cons_succ]))
      refine wpGrowS_nil ?_
      have HN : Hid (OwnR w8 w2.heap.size v8 (dbl us j)) := Lib.hid (by rw [HDS.out]; exact hown9)
      have HBE := Lib.hid hS9.1
      clear hS hS9 hown9 hrun9 hg9 ho9 hbn
      go_wp2
      go_roundw
      case rel => exact ⟨j, rfl, by omega, HN, HBE⟩
      case measure => simp [intOf]
end Go.Proofs.YtlndafkmihdbmaaDoor
