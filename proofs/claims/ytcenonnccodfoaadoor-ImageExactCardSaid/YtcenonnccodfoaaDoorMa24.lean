/-
  The reference's Build: the error of a list of modules, or its image.
  Conditions: at most a million modules; names that a string can have.
  A region that leaves its order open, whose calls only make new memory: it may be walked in ONE order that is written out. What is read or computed is read as soon as it can be; its value holds in every later world, since later calls turn nothing that is there.
  Conditions: none beyond what each theorem says.
  What the reference's read needs: a region that leaves its order open, walked in one written order under a condition that every later world keeps; modules that are appended; what the table names.
  Conditions: as each theorem says.
-/
import Derived.Test.YtcenonnccodfoaaDoorMa23
import Derived.StillTailTactics
import Derived.OrdersHeld
import Derived.Below
import Derived.Deep.RegionHeld
namespace Go.Proofs.YtcenonnccodfoaaDoor
open Go.RowKit

theorem mods_to2 (a : Option Addr) (len cap k : Nat) (h : k ≤ cap) (W : World) : (Instr.sliceAt 22 (.slice a len cap) none (some (.int .i64 (k : Int))) none).run Tryd.prog W = .ok (.slice a k cap) W := by
  rw [run_sliceAt_slice _ _ _ _ _ _ mods_slice]; exact mods_to a len cap k h W
set_option maxRecDepth 20000 in
theorem OffI.app1 {w W : World} {v : Value} {xs : List Nat} (h : OffI w W v xs) (x : Nat) (hl : xs.length ≤ 1000) :
    ∃ v' w', (Builtin.append_ #[37, 37] 37 #[v, .slice (some ⟨W.heap.size, 0, none⟩) 1 1]).run Tryd.prog (W.alloc (.cells #[.int .i64 (x : Int)] 3)) = .ok v' w' ∧ OffI w w' v' (xs ++ [x]) := by
  have hsz := h.bel.size
  have h1 := h.own.alloc (.cells #[.int .i64 (x : Int)] 3)
  obtain ⟨v', w', hrun, hown, hg, _⟩ := OwnG.app elt_int natEnc_len natEnc_one h1 1 (lit_int W x) (by simp; omega) (by unfold maxLen; simp; omega) (by simp; omega)
  have hb : Below w.heap.size w (W.alloc (.cells #[.int .i64 (x : Int)] 3)) := h.bel.alloc hsz _
  exact ⟨v', w', hrun, hown, hb.grown hg (by simp; omega) (fun g e => (h1.lt g e).1)⟩
theorem hgbyt {w wr : World} {A : Option Addr} {n c : Nat} {l : List UInt8} (h : Grow w wr (.slice A n c) l) : Byt wr wr.heap.size A n l := by
  obtain ⟨A', c', e, _, hb⟩ := h.form
  injection e with e1 e2 e3
  rw [e1, e2]
  exact hb
theorem err_first {ms : List GMod} (hl : ms.length ≤ 64) {x : Int} (h : firstE [] ms = x) (h0 : x ≠ 0) : errM ms = x := by
  unfold errM
  rw [if_neg (by omega), h, if_neg h0]
theorem err_big {ms : List GMod} (hl : ms.length ≤ 64) (h : firstE [] ms = 0) (hb : 16777216 < endM (startM ms) ms) : errM ms = 15 := by
  unfold errM
  rw [if_neg (by omega), if_pos h, if_pos hb]
theorem err_zero {ms : List GMod} (hl : ms.length ≤ 64) (h : firstE [] ms = 0) (hb : ¬ 16777216 < endM (startM ms) ms) : errM ms = 0 := by
  unfold errM
  rw [if_neg (by omega), if_pos h, if_neg hb]
set_option maxRecDepth 50000 in
set_option maxHeartbeats 1000000 in
theorem rBuild_any (ms : List GMod) (ss : List SMod) (A : Option Addr) (c : Nat) (w : World) (hb : MRow w w.heap.size A ss ms) (hn : ms.length ≤ 1000000) (hcap : ms.length ≤ c) (hnm : ∀ m ∈ ms, m.name.length ≤ 140737488355328) :
    Calls Tryd.prog 14 #[.slice A ms.length c] w (BuildEnd ms w) := by
  have HB := Lib.hid hb
  have HNM := Lib.hid hnm
  have hlen := hb.len
  clear hb hnm
  by_cases hbig : 64 < ms.length
  case pos =>
    have HR : Hid (errM ms = 15) := Lib.hid (by unfold errM; rw [if_pos hbig])
    have f0 : decide ((64 : Int) < (ms.length : Int)) = true := by simp; omega
    clear hbig
    go_enter Tryd.func14, Tryd.ntmps14
    go_wp2
    go_ret2
    exact BuildEnd.bad (Below.refl _ _) HR.out (by decide)
  have hl64 : ms.length ≤ 64 := by omega
  have f0 : decide ((64 : Int) < (ms.length : Int)) = false := by simp; omega
  have HUP := Lib.hid fun (n : Nat) W (h : n ≤ 4611686018427387904) => rUp_any n W h
  clear hbig
  go_enter Tryd.func14, Tryd.ntmps14
  go_wp2_with fail
  have e16 : (16 : Int) + 48 * (ms.length : Int) = ((16 + 48 * ms.length : Nat) : Int) := by omega
  rw [e16]
  go_fit (HUP.out _ _ (by omega))
  rintro e w0 ⟨rfl, rfl⟩
  clear e16
  have HSM : Hid (upN (16 + 48 * ms.length) = startM ms) := Lib.hid rfl
  rw [HSM.out]
  go_wp2_with fail
  go_loopw [5] (fun vi wr => ∃ k : Nat, vi = .int .i64 k ∧ k ≤ ms.length ∧ Hid (firstE [] ms = firstE (ms.take k) (ms.drop k)) ∧ Hid (Below w.heap.size w wr)) (fun vi _ => ms.length - (intOf vi).toNat)
  case atStart => exact ⟨0, rfl, Nat.zero_le _, Lib.hid rfl, Lib.hid (Below.refl _ _)⟩
  case round =>
    obtain ⟨k, rfl, hk, HT, HW⟩ := hrel
    rcases Nat.lt_or_ge k ms.length with hlt | hge
    · have hls : k < ss.length := by omega
      have HRW := Lib.hid (HB.out.next HW.out)
      obtain ⟨b1, o1, rfl, hb1, z0, z1, z2, z3, z4⟩ := HRW.out.row.mod5 hls
      have hkl : (ms.take k).length = k := by rw [List.length_take]; omega
      have hck := rCheck_any ms[k] ss[k] (ms.take k) (ss.take k) (some ⟨b1, o1, none⟩) c wr.drew ((HRW.out.each k hls hlt).next (Below.refl _ wr).drew) ((HRW.out.take k).next (Below.refl _ wr).drew) (by omega) (HNM.out _ (List.getElem_mem hlt))
      rw [hkl] at hck
      have HCK := Lib.hid hck
      have HFS := Lib.hid fun h => firstE_step (ms := ms) hlt h
      have HFT := Lib.hid fun h => firstE_stop (ms := ms) hlt h
      have hto := fun len W => mods_to (some ⟨b1, o1, none⟩) len c k (by omega) W
      have hto2 := fun len W => mods_to2 (some ⟨b1, o1, none⟩) len c k (by omega) W
      clear hck hkl
      generalize hchk : chkM (ms.take k) ms[k] = x at *
      generalize ss[k] = y at *
      unfold SMod.val at HCK
      go_upto_region 7 with fail
      refine wp_region_still_tail 7 (by kernel_rfl) (by kernel_rfl) ?_
      simp only [List.take_succ_cons, List.take_zero, List.drop_succ_cons, List.drop_zero]
      repeat still_step
      try refine wpStill_nil ?_
      change wpList _ _ _ _ _ wr.drew
      clear z0 z1 z2 z3 z4 hto hto2
      go_wp2_with fail
      go_fit HCK.out
      rintro e w2 ⟨rfl, hb2⟩
      have HB2 := Lib.hid (bel_next8 HW.out (bel_next8 (Below.refl _ wr).drew hb2))
      clear hb2 HCK
      by_cases hx : x = 0
      case neg =>
        have fx : (x != 0) = true := by simp [hx]
        have HR : Hid (errM ms = x) := Lib.hid (err_first hl64 (by rw [HT.out, HFT.out hx]) hx)
        have HX := Lib.hid hx
        clear hx hchk HFS HFT
        go_wp2
        go_ret2
        exact BuildEnd.bad HB2.out HR.out HX.out
      have fx : (x != 0) = false := by simp [hx]
      have HN : Hid (firstE [] ms = firstE (ms.take (k + 1)) (ms.drop (k + 1))) := Lib.hid (by rw [HT.out]; exact HFS.out hx)
      clear hx hchk HFS HFT
      go_wp2
      go_roundw
      case rel => exact ⟨k + 1, by go_num, by omega, HN, HB2⟩
      case measure => simp [intOf]; omega
    · have HF : Hid (firstE [] ms = 0) := Lib.hid (by rw [HT.out, List.drop_eq_nil_of_le hge]; rfl)
      clear HT
      obtain rfl : k = ms.length := by omega
      clear hk hge
      go_wp2_with fail
      have hst0 : startM ms ≤ 3151 := by
        have h := HSM.out
        unfold upN at h
        omega
      have HSZ := Lib.hid HW.out.size
      have HER := Lib.hid fun h => err_big hl64 HF.out h
      have HE0 := Lib.hid fun h => err_zero hl64 HF.out h
      clear HF HNM
      generalize wr = wA at *
      go_loopw [4, 7, 8] (fun v4 v7 v8 wq => ∃ k F : Nat, v8 = .int .i64 k ∧ v4 = .int .i64 F ∧ k ≤ ms.length ∧ Hid (F = endM (startM ms) (ms.take k)) ∧ F ≤ 16777280 ∧ Hid (OffI wA wq v7 (offsL ms k))) (fun _ _ v8 _ => ms.length - (intOf v8).toNat)
      case atStart => exact ⟨0, startM ms, rfl, rfl, Nat.zero_le _, Lib.hid rfl, by omega, Lib.hid ⟨OwnG.nil _ _, Below.refl _ _⟩⟩
      case round =>
        obtain ⟨k, F, rfl, rfl, hk, HFE, hF, HO⟩ := hrel
        rcases Nat.lt_or_ge k ms.length with hlt | hge
        · have hls : k < ss.length := by omega
          obtain ⟨Ao, co, rfl, _, _, _⟩ := HO.out.own.row natEnc_len
          rw [offsL_len] at HO ⊢
          obtain ⟨v9, w9, hrun9, hof9⟩ := HO.out.app1 F (by rw [offsL_len]; omega)
          have HR9 := Lib.hid hrun9
          have HOF9 : Hid (OffI wA w9 v9 (offsL ms (k + 1))) := Lib.hid (by rw [offsL_succ, ← HFE.out]; exact hof9)
          have HBW := Lib.hid (bel_next8 HW.out hof9.bel)
          have hrow := HB.out.next HBW.out
          obtain ⟨b1, o1, rfl, hb1, _, _, _, _, z4⟩ := hrow.row.mod5 hls
          rw [(hrow.each k hls hlt).n] at z4
          have HNX := Lib.hid (end_next hlt)
          have HOV := Lib.hid (end_over hlt)
          rw [← HFE.out] at HNX HOV
          have hdfew := (hrow.each k hls hlt).few
          clear hrun9 hof9 hrow
          generalize ms[k].data.length = d at *
          generalize ss[k].A = SA at *
          generalize ss[k].c = SC at *
          have es : IntKind.i64.wrap ((16777216 : Int) - (F : Int)) = (16777216 : Int) - (F : Int) := by rw [IntKind.wrap_i64]; omega
          by_cases hfit : 16777216 < F + d
          case pos =>
            have f3 : decide ((16777216 : Int) - (F : Int) < (d : Int)) = true := by simp; omega
            have HR := Lib.hid (HER.out (by have := HOV.out; omega))
            clear hfit
            go_wp2_with (at_builtin; refine wpList_gapp HR9.out rfl rfl rfl rfl rfl ?_)
            go_ret2
            exact BuildEnd.bad HBW.out HR.out (by decide)
          have f3 : decide ((16777216 : Int) - (F : Int) < (d : Int)) = false := by simp; omega
          have efd : (F : Int) + (d : Int) = ((F + d : Nat) : Int) := by omega
          have ea : IntKind.i64.wrap ((F : Int) + (d : Int)) = ((F + d : Nat) : Int) := by rw [IntKind.wrap_i64]; omega
          have hup : upN (F + d) ≤ 16777280 := by have := upN_lt (F + d); omega
          have HFN := Lib.hid HNX.out
          have HU := Lib.hid fun W => HUP.out (F + d) W (by omega)
          clear hfit efd
          generalize F + d = FD at *
          go_wp2_with (at_builtin; refine wpList_gapp HR9.out rfl rfl rfl rfl rfl ?_)
          go_fit (HU.out _)
          rintro e w10 ⟨rfl, rfl⟩
          generalize upN FD = UF at *
          go_wp2
          go_roundw
          case rel => exact ⟨k + 1, UF, by go_num, rfl, by omega, HFN, hup, HOF9⟩
          case measure => simp [intOf]; omega
        · have hFE := HFE.out
          rw [List.take_of_length_le hge] at hFE
          have HFE2 := Lib.hid hFE
          have hke : k = ms.length := by omega
          subst hke
          obtain ⟨Ao, co, rfl, _, _, hro⟩ := HO.out.own.row natEnc_len
          rw [offsL_len]
          have HRO := Lib.hid hro
          have HWO := Lib.hid (bel_next8 HW.out HO.out.bel)
          clear hFE HFE hro HO HW hk hge
          by_cases hbg : 16777216 < F
          case pos =>
            have f4 : decide ((16777216 : Int) < (F : Int)) = true := by simp; omega
            have HR := Lib.hid (HER.out (by rw [← HFE2.out]; exact hbg))
            clear hbg
            go_wp2
            go_ret2
            exact BuildEnd.bad HWO.out HR.out (by decide)
          have f4 : decide ((16777216 : Int) < (F : Int)) = false := by simp; omega
          have HR := Lib.hid (HE0.out (by rw [← HFE2.out]; exact hbg))
          clear HER HE0
          go_wp2_with fail
          have HST := Lib.hid (show (tableL (startM ms) (ms.take 0)) = [] from rfl)
          have HGD := Lib.hid (errM_good HR.out)
          generalize wr = wO at *
          go_loopw [9, 10] (fun v9 v10 wq => ∃ k : Nat, v10 = .int .i64 k ∧ k ≤ ms.length ∧ Hid (Grow wO wq v9 (tableL (startM ms) (ms.take k)))) (fun _ v10 _ => ms.length - (intOf v10).toNat)
          case atStart => exact ⟨0, rfl, Nat.zero_le _, Lib.hid ⟨Own.nil _ _, Below.refl _ _⟩⟩
          case round =>
            obtain ⟨k, rfl, hk, HG⟩ := hrel
            rcases Nat.lt_or_ge k ms.length with hlt | hge
            · have hls : k < ss.length := by omega
              have hfit := HGD.out.fit _ (List.getElem_mem hlt)
              have hTL : (tableL (startM ms) (ms.take k)).length = 48 * k := by
                rw [length_table _ _ (fun m hm => (HGD.out.fit m (List.mem_of_mem_take hm)).name), List.length_take]; omega
              have HTN : Hid (tableL (startM ms) (ms.take (k + 1)) = tableL (startM ms) (ms.take k) ++ entryL ms[k] (endM (startM ms) (ms.take k))) := Lib.hid (by
                rw [List.take_succ_eq_append_getElem hlt, tableL_app]
                simp [tableL])
              have hoff : endM (startM ms) (ms.take k) ≤ 16777216 := by have h1 := endM_take_le ms (startM ms) k; have h2 := HFE2.out; omega
              obtain ⟨b7, o7, e7, hb7, hc7⟩ := GRow.nat1 HRO.out (i := k) (by rw [offsL_len]; exact hlt)
              subst e7
              rw [offsL_get] at hc7
              have HC7 := Lib.hid fun W (hW : Below wO.heap.size wO W) => (World.cell?_of_block (a := ⟨b7, o7 + k, none⟩) (hW.block b7 hb7)).trans hc7
              generalize tableL (startM ms) (ms.take k) = L at *
              generalize endM (startM ms) (ms.take k) = off at *
              obtain ⟨Ab, cb, rfl, _, _⟩ := HG.out.form
              rw [hTL] at HG ⊢
              have HRW := Lib.hid (HB.out.next (bel_next8 HWO.out HG.out.2))
              obtain ⟨b1, o1, rfl, hb1, z0, z1, z2, z3, z4⟩ := HRW.out.row.mod5 hls
              have hold0 := ((HB.out.next HWO.out).each k hls hlt).row
              have hold := HRW.out.each k hls hlt
              have hn1 := hold.name
              have hk1 := hold.kind
              have hw1 := hold.width
              have he1 := hold.entry
              have hd1 := hold.n
              generalize ms[k] = y at *
              generalize ss[k] = t at *
              obtain ⟨yn, yk, yw, ye, yd⟩ := y
              obtain ⟨tn, tk, tw, te, tA, tl, tc⟩ := t
              simp only at hn1 hk1 hw1 he1 hd1 z0 z1 z2 z3 z4
              subst hn1 hk1 hw1 he1 hd1
              obtain ⟨f1, _, f3, f4, f5, f6⟩ := hfit
              simp only at f1 f3 f4 f5 f6
              obtain ⟨kn, rfl⟩ : ∃ kn : Nat, tk = kn := ⟨tk.toNat, by omega⟩
              obtain ⟨wn, rfl⟩ : ∃ wn : Nat, tw = wn := ⟨tw.toNat, by omega⟩
              obtain ⟨en, rfl⟩ : ∃ en : Nat, te = en := ⟨te.toNat, by omega⟩
              go_upto_region 25 with fail
              have hW1 : Below wr.heap.size wr (wr.alloc (objM ⟨tn, kn, wn, en, tA, yd.length, tc⟩)) := bel_lit8 (Below.refl _ wr) _
              have hA1 : ModAt (wr.alloc (objM ⟨tn, kn, wn, en, tA, yd.length, tc⟩)) wr.heap.size ⟨tn, kn, wn, en, tA, yd.length, tc⟩ := heap_alloc_new wr _
              unfold objM at hW1 hA1
              simp only at hW1 hA1
              clear z0 z1 z2 z3 z4
              generalize (wr.alloc (.cells #[.string ⟨tn.toArray⟩, .int .i64 kn, .int .i64 wn, .int .i64 en, .slice tA yd.length tc] 41)) = W1 at *
              have HRD := Lib.hid hold0
              have hplt : wr.heap.size < W1.heap.size := lt_heap hA1
              have HOW := Lib.hid fun g (e : (Value.slice Ab (48 * k) cb).ownBlock = some g) => ((Own.toG.1 HG.out.1).lt g e).2
              have HG1 := Lib.hid (HG.out.next hW1)
              have hcv := run_conv W1 tn
              have hBc := conv_below W1 tn
              obtain ⟨vz, wz, hrunz, Az, cz, rfl, hyz, hbz⟩ := conv_zeros W1 tn (24 - tn.length) (by omega)
              rw [show tn.length + (24 - tn.length) = 24 by omega] at hrunz hyz
              have hAc : ModAt (convW W1 tn) wr.heap.size ⟨tn, kn, wn, en, tA, yd.length, tc⟩ := (hBc.block _ hplt).trans hA1
              have hAz : ModAt wz wr.heap.size ⟨tn, kn, wn, en, tA, yd.length, tc⟩ := (hbz.block _ hplt).trans hA1
              have HGz := Lib.hid (HG1.out.next hbz)
              obtain ⟨v3, w3, hrun3, hg3, hgr3⟩ := HGz.out.appG cz hyz (by rw [hTL]; omega)
              obtain ⟨A3, c3, rfl, _, _⟩ := hg3.form
              have hl3 : (L ++ (tn ++ zerosL (24 - tn.length))).length = 48 * k + 24 := by rw [List.length_append, List.length_append, hTL, length_zeros]; omega
              rw [hl3] at hrun3 hg3
              have hpz : wr.heap.size < wz.heap.size := by have := hbz.size; omega
              have hA3 : ModAt w3 wr.heap.size ⟨tn, kn, wn, en, tA, yd.length, tc⟩ := (hgr3.block _ hpz (fun e => by have := HOW.out _ e.symm; omega)).trans hAz
              have HRZ := Lib.hid hrunz
              have HR3 := Lib.hid hrun3
              have HG3 := Lib.hid hg3
              have HA3 := Lib.hid hA3
              have hsz : (⟨tn.toArray⟩ : ByteArray).size = tn.length := ba_size _
              have e24 : IntKind.i64.wrap ((24 : Int) - (tn.length : Int)) = ((24 - tn.length : Nat) : Int) := by rw [IntKind.wrap_i64]; omega
              obtain ⟨x0, x1, x2, x3, x4⟩ := hA1.cells
              obtain ⟨y0, _, _, _, _⟩ := hAc.cells
              simp only at x0 x1 x2 x3 x4 y0
              clear hBc hyz hbz hAc hAz hrunz hrun3 hg3 hgr3 hA3 hpz hold hold0 hW1 HG1 HGz HG hl3
              have HENT := Lib.hid (show entryL ⟨tn, kn, wn, en, yd⟩ off = tn ++ zerosL (24 - tn.length) ++ leB kn 1 ++ leB wn 1 ++ leB 0 2 ++ leB en 4 ++ leB off 4 ++ leB yd.length 4 ++ leB (crcOf yd) 4 ++ leB 0 4 from rfl)
              have HCRC := Lib.hid fun W (h : Byt W W.heap.size tA yd.length yd) => crcRef_any tA yd.length tc W.heap.size yd W h (by unfold maxLen; omega)
              have hcr := crc_lt yd
              generalize crcOf yd = cr at *
              generalize hnl : tn.length = nl at *
              generalize hdl : yd.length = dl at *
              generalize convC W1 tn = cc at *
              generalize convW W1 tn = Wc at *
              generalize hN : wr.heap.size = p at *
              have kk : IntKind.u64.wrap (kn : Int) = (kn : Int) := by rw [IntKind.wrap_u64]; omega
              have kw : IntKind.u64.wrap (wn : Int) = (wn : Int) := by rw [IntKind.wrap_u64]; omega
              have ke : IntKind.u64.wrap (en : Int) = (en : Int) := by rw [IntKind.wrap_u64]; omega
              have ko : IntKind.u64.wrap (off : Int) = (off : Int) := by rw [IntKind.wrap_u64]; omega
              have kd : IntKind.u64.wrap (dl : Int) = (dl : Int) := by rw [IntKind.wrap_u64]; omega
              have kc : IntKind.u64.wrap (cr : Int) = (cr : Int) := by rw [IntKind.wrap_u64]; omega
              obtain ⟨q0, q1, q2, q3, q4⟩ := HA3.out.cells
              simp only at q0 q1 q2 q3 q4
              have HP := Lib.hid (HG3.out.put8 kn 1 (by omega) (by omega))
              go_wp2_with (at_builtin; first | refine wpList_app2 HRZ.out rfl rfl rfl rfl rfl ?_ | refine wpList_app_run HR3.out rfl rfl rfl rfl rfl ?_)
              go_fit HP.out
              rintro e w4 ⟨A4, c4, rfl, hg4, hb4⟩
              have HG4 := Lib.hid hg4
              have HA4 : Hid (ModAt w4 p ⟨tn, kn, wn, en, tA, dl, tc⟩) := Lib.hid ((hb4.block _ (lt_heap HA3.out)).trans HA3.out)
              clear q0 q1 q2 q3 q4 hg4 hb4 HP HG3 HA3 x0 x1 x2 x3 x4 y0 HRZ HR3 hcv e24 hsz
              obtain ⟨q0, q1, q2, q3, q4⟩ := HA4.out.cells
              simp only at q0 q1 q2 q3 q4
              have HP := Lib.hid (HG4.out.put8 wn 1 (by omega) (by omega))
              go_wp2_with fail
              go_fit HP.out
              rintro e w5 ⟨A5, c5, rfl, hg5, hb5⟩
              have HG5 := Lib.hid hg5
              have HA5 : Hid (ModAt w5 p ⟨tn, kn, wn, en, tA, dl, tc⟩) := Lib.hid ((hb5.block _ (lt_heap HA4.out)).trans HA4.out)
              clear q0 q1 q2 q3 q4 hg5 hb5 HP HG4 HA4
              obtain ⟨q0, q1, q2, q3, q4⟩ := HA5.out.cells
              simp only at q0 q1 q2 q3 q4
              have HP := Lib.hid (HG5.out.put8 0 2 (by omega) (by omega))
              go_wp2_with fail
              go_fit HP.out
              rintro e w6 ⟨A6, c6, rfl, hg6, hb6⟩
              have HG6 := Lib.hid hg6
              have HA6 : Hid (ModAt w6 p ⟨tn, kn, wn, en, tA, dl, tc⟩) := Lib.hid ((hb6.block _ (lt_heap HA5.out)).trans HA5.out)
              clear q0 q1 q2 q3 q4 hg6 hb6 HP HG5 HA5
              obtain ⟨q0, q1, q2, q3, q4⟩ := HA6.out.cells
              simp only at q0 q1 q2 q3 q4
              have HP := Lib.hid (HG6.out.put8 en 4 (by omega) (by omega))
              go_wp2_with fail
              go_fit HP.out
              rintro e w7 ⟨A7, c7, rfl, hg7, hb7⟩
              have HG7 := Lib.hid hg7
              have HA7 : Hid (ModAt w7 p ⟨tn, kn, wn, en, tA, dl, tc⟩) := Lib.hid ((hb7.block _ (lt_heap HA6.out)).trans HA6.out)
              clear q0 q1 q2 q3 q4 hg7 hb7 HP HG6 HA6
              obtain ⟨q0, q1, q2, q3, q4⟩ := HA7.out.cells
              simp only at q0 q1 q2 q3 q4
              have q7 := HC7.out w7 HG7.out.2
              have HP := Lib.hid (HG7.out.put8 off 4 (by omega) (by omega))
              go_wp2_with fail
              go_fit HP.out
              rintro e w8 ⟨A8, c8, rfl, hg8, hb8⟩
              have HG8 := Lib.hid hg8
              have HA8 : Hid (ModAt w8 p ⟨tn, kn, wn, en, tA, dl, tc⟩) := Lib.hid ((hb8.block _ (lt_heap HA7.out)).trans HA7.out)
              clear q0 q1 q2 q3 q4 hg8 hb8 HP HG7 HA7 q7
              obtain ⟨q0, q1, q2, q3, q4⟩ := HA8.out.cells
              simp only at q0 q1 q2 q3 q4
              have q7 := HC7.out w8 HG8.out.2
              have HP := Lib.hid (HG8.out.put8 dl 4 (by omega) (by omega))
              go_wp2_with fail
              go_fit HP.out
              rintro e w9 ⟨A9, c9, rfl, hg9, hb9⟩
              have HG9 := Lib.hid hg9
              have HA9 : Hid (ModAt w9 p ⟨tn, kn, wn, en, tA, dl, tc⟩) := Lib.hid ((hb9.block _ (lt_heap HA8.out)).trans HA8.out)
              clear q0 q1 q2 q3 q4 hg9 hb9 HP HG8 HA8 q7
              obtain ⟨q0, q1, q2, q3, q4⟩ := HA9.out.cells
              simp only at q0 q1 q2 q3 q4
              have HP := Lib.hid (HG9.out.put8 cr 4 (by omega) (by omega))
              have HCR := Lib.hid (HCRC.out w9 ((HRD.out.below HG9.out.2).wide HG9.out.2.size))
              go_wp2_with fail
              go_fit HCR.out
              rintro e wq ⟨rfl, rfl⟩
              clear HCR
              go_wp2_with fail
              go_fit HP.out
              rintro e w10 ⟨A10, c10, rfl, hg10, hb10⟩
              have HG10 := Lib.hid hg10
              have HA10 : Hid (ModAt w10 p ⟨tn, kn, wn, en, tA, dl, tc⟩) := Lib.hid ((hb10.block _ (lt_heap HA9.out)).trans HA9.out)
              clear q0 q1 q2 q3 q4 hg10 hb10 HP HG9 HA9
              obtain ⟨q0, q1, q2, q3, q4⟩ := HA10.out.cells
              simp only at q0 q1 q2 q3 q4
              have HP := Lib.hid (HG10.out.put8 0 4 (by omega) (by omega))
              go_wp2_with fail
              go_fit HP.out
              rintro e w11 ⟨A11, c11, rfl, hg11, hb11⟩
              have HG11 := Lib.hid hg11
              have HA11 : Hid (ModAt w11 p ⟨tn, kn, wn, en, tA, dl, tc⟩) := Lib.hid ((hb11.block _ (lt_heap HA10.out)).trans HA10.out)
              clear q0 q1 q2 q3 q4 hg11 hb11 HP HG10 HA10
              go_wp2
              go_roundw
              case rel => exact ⟨k + 1, by go_num, by omega, Lib.hid (by rw [HTN.out, HENT.out]; simpa only [List.append_assoc] using HG11.out)⟩
              case measure => simp [intOf]; omega
            · have hke : k = ms.length := by omega
              subst hke
              have hG := HG.out
              rw [List.take_length] at hG
              have HGT := Lib.hid hG
              have hnames : ∀ m ∈ ms, m.name.length ≤ 24 := fun m hm => (HGD.out.fit m hm).name
              have HNMS := Lib.hid hnames
              have htfit := table_fit hnames
              obtain ⟨Ab, cb, rfl, _, _⟩ := HG.out.form
              rw [List.take_length] at HGT HG ⊢
              clear hG HG hk hge hnames
              generalize wr = wT at *
              go_wp2_with fail
              go_loopw [9, 13] (fun v9 v13 wq => ∃ k : Nat, v13 = .int .i64 k ∧ k ≤ ms.length ∧ Hid (Grow wO wq v9 (dataL (startM ms) (ms.take k) (tableL (startM ms) ms)))) (fun _ v13 _ => ms.length - (intOf v13).toNat)
              case atStart => exact ⟨0, rfl, Nat.zero_le _, HGT⟩
              case round =>
                obtain ⟨k, rfl, hk, HG⟩ := hrel
                rcases Nat.lt_or_ge k ms.length with hlt | hge
                · have hls : k < ss.length := by omega
                  have hoff : endM (startM ms) (ms.take k) ≤ 16777216 := by have h1 := endM_take_le ms (startM ms) k; have h2 := HFE2.out; omega
                  have hdl := dataL_len (ms.take k) (startM ms) _ htfit
                  have HDN : Hid (dataL (startM ms) (ms.take (k + 1)) (tableL (startM ms) ms) = dataL (startM ms) (ms.take k) (tableL (startM ms) ms) ++ zerosL (endM (startM ms) (ms.take k) - 16 - (dataL (startM ms) (ms.take k) (tableL (startM ms) ms)).length) ++ ms[k].data) := Lib.hid (by
                    rw [List.take_succ_eq_append_getElem hlt, dataL_app]; rfl)
                  obtain ⟨b7, o7, e7, hb7, hc7⟩ := GRow.nat1 HRO.out (i := k) (by rw [offsL_len]; exact hlt)
                  subst e7
                  rw [offsL_get] at hc7
                  have hc7' : wr.cell? ⟨b7, o7 + k, none⟩ = some (.int .i64 (endM (startM ms) (ms.take k) : Nat)) := (World.cell?_of_block (a := ⟨b7, o7 + k, none⟩) (HG.out.2.block b7 hb7)).trans hc7
                  obtain ⟨Ad, cd, rfl, _, _⟩ := HG.out.form
                  have hrow := HB.out.next HWO.out
                  have hdat := (hrow.each k hls hlt).row
                  have hfw := HGD.out.fit _ (List.getElem_mem hlt)
                  have hend := end_over hlt
                  have hfF := HFE2.out
                  generalize dataL (startM ms) (ms.take k) (tableL (startM ms) ms) = D at *
                  generalize endM (startM ms) (ms.take k) = off at *
                  obtain ⟨vz, wz, hrunz, hoz, hbz, hsz⟩ := HG.out.1.zeros (off - 16 - D.length) HG.out.2 HG.out.2.size (by omega)
                  have hgz : Grow wO wz vz (D ++ zerosL (off - 16 - D.length)) := ⟨hoz, hbz⟩
                  obtain ⟨b1, o1, rfl, hb1, _, _, _, _, z4⟩ := (hrow.row.below (Nat.le_refl _) hbz).mod5 hls
                  have hdat2 := (hdat.below hbz).wide hbz.size
                  have hln := (hrow.each k hls hlt).n
                  rw [hln] at z4 hdat2
                  obtain ⟨v3, w3, hrun3, hg3, _⟩ := hgz.appG ss[k].c hdat2 (by rw [List.length_append, length_zeros]; omega)
                  have HRZ := Lib.hid hrunz
                  have HR3 := Lib.hid hrun3
                  have HG3 : Hid (Grow wO w3 v3 (dataL (startM ms) (ms.take (k + 1)) (tableL (startM ms) ms))) := Lib.hid (by rw [HDN.out]; exact hg3)
                  have e1 : IntKind.i64.wrap ((off : Int) - 16) = (off : Int) - 16 := by rw [IntKind.wrap_i64]; omega
                  have e2 : IntKind.i64.wrap ((off : Int) - 16 - (D.length : Int)) = ((off - 16 - D.length : Nat) : Int) := by rw [IntKind.wrap_i64]; omega
                  clear hrunz hoz hbz hsz hgz hrow hdat hdat2 hrun3 hg3 hend hc7 hfF
                  generalize ss[k].A = SA at *
                  generalize ss[k].c = SC at *
                  generalize ms[k].data.length = dn at *
                  generalize off - 16 - D.length = zn at *
                  generalize D.length = dnl at *
                  go_wp2_with (at_builtin; first | refine wpList_app2 HRZ.out rfl rfl rfl rfl rfl ?_ | refine wpList_app_run HR3.out rfl rfl rfl rfl rfl ?_)
                  go_roundw
                  case rel => exact ⟨k + 1, by go_num, by omega, HG3⟩
                  case measure => simp [intOf]; omega
                · have hke : k = ms.length := by omega
                  subst hke
                  have hdl := dataL_len ms (startM ms) _ htfit
                  obtain ⟨Ad, cd, rfl, _, _⟩ := HG.out.form
                  rw [List.take_length] at HG ⊢
                  have hG := HG.out
                  have hfF := HFE2.out
                  have HBD : Hid (bodyL ms = dataL (startM ms) ms (tableL (startM ms) ms) ++ zerosL (endM (startM ms) ms - 16 - (dataL (startM ms) ms (tableL (startM ms) ms)).length)) := Lib.hid rfl
                  generalize dataL (startM ms) ms (tableL (startM ms) ms) = D at *
                  obtain ⟨vz, wz, hrunz, hoz, hbz, hsz⟩ := hG.1.zeros (F - 16 - D.length) hG.2 hG.2.size (by omega)
                  have hbl : D ++ zerosL (F - 16 - D.length) = bodyL ms := by rw [HBD.out, hfF]
                  rw [hbl] at hoz
                  have hbf := length_body HNMS.out
                  obtain ⟨Az, cz, rfl, _, _⟩ := hoz.form
                  have HRZ := Lib.hid hrunz
                  have HGB := Lib.hid (show Grow wO wz (.slice Az (bodyL ms).length cz) (bodyL ms) from ⟨hoz, hbz⟩)
                  have e1 : IntKind.i64.wrap ((F : Int) - 16) = (F : Int) - 16 := by rw [IntKind.wrap_i64]; omega
                  have e2 : IntKind.i64.wrap ((F : Int) - 16 - (D.length : Int)) = ((F - 16 - D.length : Nat) : Int) := by rw [IntKind.wrap_i64]; omega
                  have HIMG : Hid (imgM ms = [77, 75, 66, 73] ++ leB 1 2 ++ leB ms.length 2 ++ leB F 4 ++ leB (crcOf (bodyL ms)) 4 ++ bodyL ms) := Lib.hid (by rw [imgM_ok HR.out, hfF]; rfl)
                  have hbl4 : (bodyL ms).length ≤ 16777216 := by omega
                  have hcr := crc_lt (bodyL ms)
                  have hln4 : IntKind.u64.wrap (ms.length : Int) = (ms.length : Int) := by rw [IntKind.wrap_u64]; omega
                  have hFu : IntKind.u64.wrap (F : Int) = (F : Int) := by rw [IntKind.wrap_u64]; omega
                  have HCRC := Lib.hid fun W (h : Byt W W.heap.size Az (bodyL ms).length (bodyL ms)) => crcRef_any Az (bodyL ms).length cz W.heap.size (bodyL ms) W h (by unfold maxLen; omega)
                  clear hrunz hoz hbz hbl hbf hdl hG HG hfF htfit HNMS HBD
                  generalize F - 16 - D.length = zn at *
                  generalize D.length = dn at *
                  generalize crcOf (bodyL ms) = cr at *
                  generalize bodyL ms = bd at *
                  generalize hbn : bd.length = bn at *
                  have hcu : IntKind.u64.wrap (cr : Int) = (cr : Int) := by rw [IntKind.wrap_u64]; omega
                  have hkc := fun (C : Array Value) (n c : Nat) => Lib.run_convert_bytes_const (P := Tryd.prog) wz 23 5 C n c Tryd.underlying23 Tryd.underlying5
                  have hbh : Below wz.heap.size wz (wz.alloc (.cells #[.int .u8 77, .int .u8 75, .int .u8 66, .int .u8 73] 5 (4, 5))) := bel_lit8 (Below.refl _ wz) _
                  have hyh : Byt (wz.alloc (.cells #[.int .u8 77, .int .u8 75, .int .u8 66, .int .u8 73] 5 (4, 5))) (wz.heap.size + 1) (some ⟨wz.heap.size, 0, none⟩) 4 [77, 75, 66, 73] := Byt.lit wz (4, 5) [77, 75, 66, 73] #[.int .u8 77, .int .u8 75, .int .u8 66, .int .u8 73] 4 (by simp [vals]) rfl
                  have HPH := Lib.hid (put_any (some ⟨wz.heap.size, 0, none⟩) 4 4 _ 1 2 _ _ hyh (by omega) (by omega))
                  have HBH := Lib.hid hbh
                  clear hbh hyh
                  go_wp2_with (at_builtin; refine wpList_app2 HRZ.out rfl rfl rfl rfl rfl ?_)
                  clear hkc
                  go_fit HPH.out
                  rintro e w3 ⟨t3, rfl, hg3⟩
                  obtain ⟨A3, c3, rfl, _, _⟩ := hg3.form
                  rw [show ([77, 75, 66, 73] ++ leB 1 2 : List UInt8).length = 6 from rfl] at hg3 ⊢
                  have HG3 := Lib.hid hg3
                  clear HPH hg3
                  generalize (wz.alloc (.cells #[.int .u8 77, .int .u8 75, .int .u8 66, .int .u8 73] 5 (4, 5))) = wh at *
                  have HP := Lib.hid (HG3.out.put8 ms.length 2 (by omega) (by omega))
                  go_wp2_with fail
                  go_fit HP.out
                  rintro e w4 ⟨A4, c4, rfl, hg4, _⟩
                  have HG4 := Lib.hid hg4
                  clear HP HG3 hg4
                  have HP := Lib.hid (HG4.out.put8 F 4 (by omega) (by omega))
                  go_wp2_with fail
                  go_fit HP.out
                  rintro e w5 ⟨A5, c5, rfl, hg5, _⟩
                  have HG5 := Lib.hid hg5
                  clear HP HG4 hg5
                  have HYB := Lib.hid ((((hgbyt HGB.out).below HBH.out).wide HBH.out.size).next8 HG5.out.2)
                  have HCR := Lib.hid (HCRC.out w5 HYB.out)
                  have HP := Lib.hid (HG5.out.put8 cr 4 (by omega) (by omega))
                  go_wp2_with fail
                  go_fit HCR.out
                  rintro e w6 ⟨rfl, rfl⟩
                  clear HCR
                  go_wp2_with fail
                  go_fit HP.out
                  rintro e w6 ⟨A6, c6, rfl, hg6, hb6⟩
                  obtain ⟨v7, w7, hrun7, hg7, _⟩ := hg6.appG cz (HYB.out.next8 hb6) (by
                    obtain ⟨_, _, e, _, _⟩ := hg6.form
                    injection e with _ e2 _
                    omega)
                  obtain ⟨A7, c7, rfl, hc7, hy7⟩ := hg7.form
                  rw [← HIMG.out] at hrun7 hc7 hy7
                  have HR7 := Lib.hid hrun7
                  have HEND : Hid (BuildEnd ms w (.returned (.tuple #[.slice A7 (imgM ms).length c7, .int .i64 0])) w7) := Lib.hid ⟨bel_next8 (bel_next8 (bel_next8 HWO.out HGB.out.2) HBH.out) hg7.2, A7, c7, by rw [HR.out], hy7, hc7⟩
                  clear hrun7 hg7 hg6 hb6 hy7 hc7 HP HG5 HYB
                  go_wp2_with (at_builtin; refine wpList_app_run HR7.out rfl rfl rfl rfl rfl ?_)
                  go_ret2
                  exact HEND.out
end Go.Proofs.YtcenonnccodfoaaDoor


namespace Go.Proofs.YtcenonnccodfoaaDoor
open Go.RowKit

/-- w' is a later world: nothing that was there in w has turned. -/
def Fut (w w' : World) : Prop := Below w.heap.size w w'
theorem Fut.refl (w : World) : Fut w w := Below.refl _ _
theorem Fut.trans {a b c : World} (h : Fut a b) (k : Fut b c) : Fut a c := Below.trans h (Below.mono k (Below.size h))
theorem Fut.drew {a b : World} (h : Fut a b) : Fut a b.drew := Below.drew h

section
variable {P : Program} {ops : Array Oper} {Q : Exit → Act → World → Prop} {md : Region.Mode}

theorem held_weaker {S T : World → Prop} (hST : ∀ w, S w → T w) : ∀ (fuel : Nat) (listed : Array Bool) (a : Act) (w : World), wpAnyH P md ops Q S fuel listed a w → wpAnyH P md ops Q T fuel listed a w
  | 0, _, _, _, h => h
  | fuel + 1, _, _, _, h => ⟨h.1, fun i hi => wpOp_mono (fun a' w' h' => ⟨hST _ h'.1, held_weaker hST fuel _ a' w' h'.2⟩) (h.2 i hi)⟩

/-- The walk in one order. 'true': what is computed or read, taken first; 'false': a call, when nothing else may come up. -/
def wpGrow (P : Program) (ops : Array Oper) (Q : Exit → Act → World → Prop) : List (Nat × Bool) → Act → World → Prop
  | [], a, w => Q .normal a w
  | (i, true) :: rest, a, w => ∃ oi v, ops[i]? = some oi ∧ YieldsIf P ops (Fut w) oi v a ∧ wpGrow P ops Q rest (a.put oi.dst v) w
  | (i, false) :: rest, a, w => wpOp P ops Q i (fun a' w' => Fut w w' ∧ wpGrow P ops Q rest a' w') a w

/-- That the order may be walked so: a closed fact on the region's edges. -/
def growOk (md : Region.Mode) (ops : Array Oper) : List (Nat × Bool) → Array Bool → Bool
  | [], listed => (Region.ready md ops listed).isEmpty
  | (i, true) :: rest, listed => (Region.ready md ops listed).contains i && Region.free md ops listed i && growOk md ops rest (listed.setIfInBounds i true)
  | (i, false) :: rest, listed => Region.ready md ops listed == [i] && growOk md ops rest (listed.setIfInBounds i true)

theorem grow_sound (hs : Region.noSelect ops = true) (hQ : ∀ c a d v w, Q (.panic c) (Act.put a d v) w → Q (.panic c) a w) : ∀ (ord : List (Nat × Bool)) (listed : Array Bool) (a : Act) (w : World),
    growOk md ops ord listed = true → wpGrow P ops Q ord a w → wpAnyH P md ops Q (Fut w) ord.length listed a w
  | [], listed, a, w, hok, h => wpAnyH_done (by simpa [growOk] using hok) h 0
  | (i, true) :: rest, listed, a, w, hok, h => by
    simp only [growOk, Bool.and_eq_true] at hok
    obtain ⟨oi, v, hi, hy, h⟩ := h
    exact wpAnyH_take hi hs hok.1.2 hok.1.1 (fun c a w => hQ c a _ _ w) hy (Fut.refl w) (grow_sound hs hQ rest _ _ _ hok.2 h)
  | (i, false) :: rest, listed, a, w, hok, h => by
    simp only [growOk, Bool.and_eq_true, beq_iff_eq] at hok
    refine wpAnyH_all hok.1 (by simp) fun j hj => ?_
    obtain rfl : j = i := by simpa using hj
    exact wpOp_mono (fun a' w' h' => ⟨h'.1, held_weaker (fun _ hk => h'.1.trans hk) _ _ _ _ (grow_sound hs hQ rest _ _ _ hok.2 h'.2)⟩) h

/-- THE BEGINNING: the order is written out by the prover, and checked. -/
theorem wp_region_grow {id : Nat} {a : Act} {w : World} (ord : List (Nat × Bool)) (hm : P.follows .mixedOrders = true) (hs : Region.noSelect ops = true)
    (hok : growOk .any ops ord (Array.replicate ops.size false) = true) (hn : ord.length = ops.size) (hQ : ∀ c a d v w, Q (.panic c) (Act.put a d v) w → Q (.panic c) a w)
    (h : wpGrow P ops Q ord a w.drew) : (Code.region id ops true).wp P Q a w := by
  have h1 := grow_sound hs hQ ord _ a w.drew hok h
  rw [hn] at h1
  exact wp_region_held hm h1

theorem wpGrow_nil {a : Act} {w : World} (h : Q .normal a w) : wpGrow P ops Q [] a w := h
theorem wpGrow_float {i : Nat} {oi : Oper} {v : Value} {rest : List (Nat × Bool)} {a : Act} {w : World} (hi : ops[i]? = some oi) (hw : Region.wanted oi (yielded ops a.tmps) = true)
    (hy : ∀ w', Fut w w' → (execOp a.eval oi).run P w' = .ok (.value v) w') (h : wpGrow P ops Q rest (a.put oi.dst v) w) : wpGrow P ops Q ((i, true) :: rest) a w :=
  ⟨oi, v, hi, .inl ⟨hw, hy⟩, h⟩
theorem wpGrow_skip {i : Nat} {oi : Oper} {rest : List (Nat × Bool)} {a : Act} {w : World} (hi : ops[i]? = some oi) (hw : Region.wanted oi (yielded ops a.tmps) = false)
    (h : wpGrow P ops Q rest (a.put oi.dst undef) w) : wpGrow P ops Q ((i, true) :: rest) a w :=
  ⟨oi, undef, hi, .inr ⟨hw, rfl⟩, h⟩
/-- A call that its guard passes over. -/
theorem wpGrow_pass {i : Nat} {oi : Oper} {rest : List (Nat × Bool)} {a : Act} {w : World} (hi : ops[i]? = some oi) (hw : Region.wanted oi (yielded ops a.tmps) = false)
    (h : wpGrow P ops Q rest (a.put oi.dst undef) w) : wpGrow P ops Q ((i, false) :: rest) a w := by
  show wpOp P ops Q i _ a w
  unfold wpOp
  simp only [hi, hw]
  exact ⟨Fut.refl w, h⟩
theorem wpGrow_call {i : Nat} {oi : Oper} {rest : List (Nat × Bool)} {a : Act} {w : World} (hi : ops[i]? = some oi) (hw : Region.wanted oi (yielded ops a.tmps) = true)
    (h : ∀ K : Act → World → Prop, (∀ a' w', Fut w w' → wpGrow P ops Q rest a' w' → K a' w') → oi.wp P a w K Q) : wpGrow P ops Q ((i, false) :: rest) a w := by
  show wpOp P ops Q i _ a w
  unfold wpOp
  simp only [hi, hw, if_true]
  exact .inl (h _ fun a' w' h1 h2 => ⟨h1, h2⟩)
end

end Go.Proofs.YtcenonnccodfoaaDoor


namespace Go.Proofs.YtcenonnccodfoaaDoor
open Go.RowKit

section
variable {P : Program} {ops : Array Oper} {Q : Exit → Act → World → Prop} {md : Region.Mode} {S : World → Prop}
/-- The walk in one order, S kept by all. -/
def wpGrowS (P : Program) (ops : Array Oper) (Q : Exit → Act → World → Prop) (S : World → Prop) : List (Nat × Bool) → Act → World → Prop
  | [], a, w => Q .normal a w
  | (i, true) :: rest, a, w => ∃ oi v, ops[i]? = some oi ∧ YieldsIf P ops S oi v a ∧ wpGrowS P ops Q S rest (a.put oi.dst v) w
  | (i, false) :: rest, a, w => wpOp P ops Q i (fun a' w' => S w' ∧ wpGrowS P ops Q S rest a' w') a w
theorem growS_sound (hs : Region.noSelect ops = true) (hQ : ∀ c a d v w, Q (.panic c) (Act.put a d v) w → Q (.panic c) a w) : ∀ (ord : List (Nat × Bool)) (listed : Array Bool) (a : Act) (w : World),
    growOk md ops ord listed = true → S w → wpGrowS P ops Q S ord a w → wpAnyH P md ops Q S ord.length listed a w
  | [], listed, a, w, hok, _, h => wpAnyH_done (by simpa [growOk] using hok) h 0
  | (i, true) :: rest, listed, a, w, hok, hS, h => by
    simp only [growOk, Bool.and_eq_true] at hok
    obtain ⟨oi, v, hi, hy, h⟩ := h
    exact wpAnyH_take hi hs hok.1.2 hok.1.1 (fun c a w => hQ c a _ _ w) hy hS (growS_sound hs hQ rest _ _ _ hok.2 hS h)
  | (i, false) :: rest, listed, a, w, hok, hS, h => by
    simp only [growOk, Bool.and_eq_true, beq_iff_eq] at hok
    refine wpAnyH_all hok.1 (by simp) fun j hj => ?_
    obtain rfl : j = i := by simpa using hj
    exact wpOp_mono (fun a' w' h' => ⟨h'.1, growS_sound hs hQ rest _ _ _ hok.2 h'.1 h'.2⟩) h
theorem wp_region_growS {id : Nat} {a : Act} {w : World} (ord : List (Nat × Bool)) (hm : P.follows .mixedOrders = true) (hs : Region.noSelect ops = true)
    (hok : growOk .any ops ord (Array.replicate ops.size false) = true) (hn : ord.length = ops.size) (hQ : ∀ c a d v w, Q (.panic c) (Act.put a d v) w → Q (.panic c) a w)
    (hS : S w.drew) (h : wpGrowS P ops Q S ord a w.drew) : (Code.region id ops true).wp P Q a w := by
  have h1 := growS_sound hs hQ ord _ a w.drew hok hS h
  rw [hn] at h1
  exact wp_region_held hm h1
theorem wpGrowS_nil {a : Act} {w : World} (h : Q .normal a w) : wpGrowS P ops Q S [] a w := h
theorem wpGrowS_float {i : Nat} {oi : Oper} {v : Value} {rest : List (Nat × Bool)} {a : Act} {w : World} (hi : ops[i]? = some oi) (hw : Region.wanted oi (yielded ops a.tmps) = true)
    (hy : ∀ w', S w' → (execOp a.eval oi).run P w' = .ok (.value v) w') (h : wpGrowS P ops Q S rest (a.put oi.dst v) w) : wpGrowS P ops Q S ((i, true) :: rest) a w :=
  ⟨oi, v, hi, .inl ⟨hw, hy⟩, h⟩
theorem wpGrowS_call {i : Nat} {oi : Oper} {rest : List (Nat × Bool)} {a : Act} {w : World} (hi : ops[i]? = some oi) (hw : Region.wanted oi (yielded ops a.tmps) = true)
    (h : ∀ K : Act → World → Prop, (∀ a' w', S w' → wpGrowS P ops Q S rest a' w' → K a' w') → oi.wp P a w K Q) : wpGrowS P ops Q S ((i, false) :: rest) a w := by
  show wpOp P ops Q i _ a w
  unfold wpOp
  simp only [hi, hw, if_true]
  exact .inl (h _ fun a' w' h1 h2 => ⟨h1, h2⟩)
end
theorem run_sliceOp {o : Oper} {a : Act} {w : World} {t : TypeId} {x lo hi : Operand} {X L H v : Value} (ho : o.op = .slice t x (some lo) (some hi) none)
    (hx : a.eval x = X) (hl : a.eval lo = L) (hh : a.eval hi = H) (hrun : (Instr.sliceAt t X (some L) (some H) none).run Tryd.prog w = .ok v w) : (execOp a.eval o).run Tryd.prog w = .ok (.value v) w := by
  unfold execOp
  simp only [ho, Option.map_some, Option.map_none, hx, hl, hh, Sem.run_bind, hrun, Result.andThen_ok, Sem.run_pure]
/-- An append whose run is known by what it leaves, asx one operation. -/
theorem oper_app8 {S : TypeId} {o : Oper} {a : Act} {K : Act → World → Prop} {Q : Exit → Act → World → Prop} {v y : Value} {W : World} {R : Value → World → Prop}
    (H : ∃ v' w', (Builtin.append_ #[S, S] S #[v, y]).run Tryd.prog W = .ok v' w' ∧ R v' w') {s x : Operand}
    (ho : o.op = .call { callee := .builtin .append, args := #[s, x], argTypes := #[S, S] }) (hty : o.type = S) (hs : a.eval s = v) (hx : a.eval x = y)
    (h : ∀ v' w', R v' w' → K (a.put o.dst v') w') : Oper.wp Tryd.prog o a W K Q := by
  obtain ⟨v', w', hr, h2⟩ := H
  unfold Oper.wp execOp
  simp only [ho, hty, resolve, invoke, builtin, Sem.run_bind, Sem.run_pure, Result.andThen_ok, List.map_toArray, List.map_cons, List.map_nil, hs, hx, hr]
  exact h _ _ h2
set_option maxRecDepth 20000 in
theorem ParI.app {w W : World} {v : Value} {ss : List SMod} {ms : List GMod} (h : ParI w W v ss ms ms.length) {s : SMod} {m : GMod} (hs : POwn W w.heap.size s m) (hl : ms.length ≤ 100000) :
    ∃ v' w', (Builtin.append_ #[22, 22] 22 #[v, .slice (some ⟨W.heap.size, 0, none⟩) 1 1]).run Tryd.prog (W.alloc (objM s)) = .ok v' w' ∧ ParI w w' v' (ss ++ [s]) (ms ++ [m]) (ms ++ [m]).length := by
  have hlen := h.len
  have hd := h.below (bel_lit8 (Below.refl _ W) (objM s))
  have hsz := hd.bel.size
  obtain ⟨v', w', hrun, hown, hg, _⟩ := OwnG.app elt_mod SMod.len SMod.one hd.own 1 (lit_mod W s) (by omega) (by unfold maxLen; simp; omega) (by simp; omega)
  have hbt : ∀ g, v.ownBlock = some g → NoByte (W.alloc (objM s)) g := fun g e => by
    rcases hd.own.2 with ⟨hv, _⟩ | ⟨g', cp, cur, hv, _, hh, _⟩
    · rw [hv] at e; simp [Value.ownBlock] at e
    · rw [hv] at e
      simp [Value.ownBlock] at e
      subst e
      exact ⟨_, _, _, hh, by decide⟩
  refine ⟨v', w', hrun, hown, by simp [h.len], fun i h1 h2 h3 => ?_, fun i h1 h2 h3 => by omega, hd.bel.grown hg hsz (fun g e => (hd.own.lt g e).1)⟩
  rcases Nat.lt_or_ge i ss.length with hi | hi
  · rw [List.getElem_append_left hi, List.getElem_append_left (by omega)]
    exact (hd.done i hi (by omega) (by omega)).gbT hg hbt
  · have e : i = ss.length := by simp at h1; omega
    subst e
    have e2 : ms.length ≤ ss.length := by omega
    rw [List.getElem_append_right (Nat.le_refl _), List.getElem_append_right e2]
    simp
    exact (hs.gbT (row := none) (gbN (bel_lit8 (Below.refl _ W) (objM s))) (fun g e => by cases e)).gbT hg hbt
theorem ParI.nil (w W : World) (hb : Below w.heap.size w W) : ParI w W (.slice none 0 0) [] [] 0 := ⟨OwnG.nil _ _, rfl, fun i h => by simp at h, fun i h => by simp at h, hb⟩
/-- What an entry names, if the entry lies inside. -/
def readAt (b : List UInt8) (k : Nat) : Option GMod := if b.length < 16 + 48 * k + 48 then none else viewAt b k
theorem foldV_same {f g : Nat → Option GMod} : ∀ k, (∀ i, i < k → f i = g i) → foldV f k = foldV g k
  | 0, _ => rfl
  | k + 1, h => by
    show (foldV f k).bind _ = (foldV g k).bind _
    rw [foldV_same k (fun i hi => h i (by omega)), h k (by omega)]
theorem read_views {b : List UInt8} (h : 16 ≤ b.length) : foldV (readAt b) (leUp b 6 2) = viewsL b := by
  unfold viewsL
  by_cases hf : b.length < 16 + 48 * leUp b 6 2
  · rw [if_pos hf]
    obtain ⟨c, hc⟩ : ∃ c, leUp b 6 2 = c + 1 := ⟨leUp b 6 2 - 1, by omega⟩
    rw [hc]
    refine foldV_fail ?_
    unfold readAt
    rw [if_pos (by omega)]
  · rw [if_neg hf]
    refine foldV_same _ fun i hi => ?_
    unfold readAt
    rw [if_neg (by omega)]
theorem trim_at {b : List UInt8} {q j : Nat} (hj : j ≤ 24) (hq : q + 24 ≤ b.length) (h1 : ∀ i, j ≤ i → i < 24 → bt b (q + i) = 0) (h2 : 0 < j → bt b (q + (j - 1)) ≠ 0) : Lib.trimRightB ((b.drop q).take 24) 0 = (b.take (q + j)).drop q := by
  have hb : ∀ i (x : UInt8), i < 24 → ((b.drop q).take 24)[i]? = some x → x.toNat = bt b (q + i) := fun i x hi hx => by
    rw [List.getElem?_take, if_pos hi, List.getElem?_drop] at hx
    unfold bt
    rw [List.getD_eq_getElem?_getD, hx]; rfl
  have hl : ((b.drop q).take 24).length = 24 := by rw [List.length_take, List.length_drop]; omega
  rw [Lib.trimRightB_take _ 0 j (by omega)]
  · rw [List.take_take, Nat.min_eq_left hj, List.drop_take, show q + j - q = j by omega]
  · intro i x hji hx
    have hi : i < 24 := by
      rcases Nat.lt_or_ge i 24 with h | h
      · exact h
      · rw [List.getElem?_eq_none (by omega)] at hx; cases hx
    have := hb i x hi hx
    rw [h1 i hji hi] at this
    exact UInt8.toNat_inj.1 this
  · intro x h0 hx hx0
    have := hb (j - 1) x (by omega) hx
    rw [hx0] at this
    exact h2 h0 this.symm
end Go.Proofs.YtcenonnccodfoaaDoor
