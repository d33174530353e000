/-
  How the data lie in an image: the offsets one behind the other, zeros between, the entries. Plain mathematics.
  Conditions: as each theorem says.
  The law ImageLayout returns true.
  Conditions: the numbers are the language's.
-/
import Derived.Test.YtcenonnccodfoaaDoorMa22
import Derived.StillTactics
namespace Go.Proofs.YtcenonnccodfoaaDoor

/-- Where the bytes written so far end, before the data of module i. -/
def preM (ms : List GMod) (i : Nat) : Nat := (dataL (startM ms) (ms.take i) (tableL (startM ms) ms)).length + 16
/-- Where the data of module i lie. -/
def offM (ms : List GMod) (i : Nat) : Nat := endM (startM ms) (ms.take i)
section
variable {ms : List GMod}
theorem pre_zero (h : ∀ m ∈ ms, m.name.length ≤ 24) : preM ms 0 = 16 + 48 * ms.length := by
  unfold preM
  rw [List.take_zero, show dataL (startM ms) [] (tableL (startM ms) ms) = tableL (startM ms) ms from rfl, length_table _ _ h]
  omega
theorem pre_le (h : ∀ m ∈ ms, m.name.length ≤ 24) (i : Nat) : preM ms i ≤ offM ms i := dataL_len (ms.take i) (startM ms) _ (table_fit h)
theorem off_next {i : Nat} (hi : i < ms.length) : offM ms (i + 1) = upN (offM ms i + ms[i].data.length) := by
  unfold offM
  rw [List.take_succ_eq_append_getElem hi, endM_app, endM_cons, endM_nil]
theorem dataL_one (s : Nat) (m : GMod) (l : List UInt8) : dataL s [m] l = l ++ zerosL (s - 16 - l.length) ++ m.data := rfl
theorem pre_next (h : ∀ m ∈ ms, m.name.length ≤ 24) {i : Nat} (hi : i < ms.length) : preM ms (i + 1) = offM ms i + ms[i].data.length := by
  have h1 := pre_le h i
  unfold preM at h1 ⊢
  unfold offM at h1 ⊢
  rw [List.take_succ_eq_append_getElem hi, dataL_app, dataL_one, List.length_append, List.length_append, length_zeros]
  omega
theorem off_up (h : ∀ m ∈ ms, m.name.length ≤ 24) : ∀ i, i ≤ ms.length → offM ms i = upN (preM ms i)
  | 0, _ => by rw [pre_zero h]; rfl
  | i + 1, hi => by rw [off_next (by omega), pre_next h (by omega)]
theorem off_mod (h : ∀ m ∈ ms, m.name.length ≤ 24) (i : Nat) (hi : i ≤ ms.length) : offM ms i % 64 = 0 := by
  rw [off_up h i hi]; exact upN_mod _
theorem off_len (h : ∀ m ∈ ms, m.name.length ≤ 24) : offM ms ms.length = (imageL ms).length := by
  unfold offM
  rw [List.take_length, length_image h]
theorem bt_body (ms : List GMod) (j : Nat) : bt (imageL ms) (16 + j) = bt (bodyL ms) j := by
  rw [← bt_drop2 (imageL ms) (16 + j), image_drop, bt_drop2]
theorem bt_zeros (l t : List UInt8) (k j : Nat) (h1 : l.length ≤ j) (h2 : j < l.length + k) : bt (l ++ zerosL k ++ t) j = 0 := by
  unfold bt zerosL
  rw [List.getD_eq_getElem?_getD, List.append_assoc, List.getElem?_append_right h1, List.getElem?_append_left (by rw [List.length_replicate]; omega), List.getElem?_replicate, if_pos (by omega)]
  rfl
/-- Zeros before the data of a module, and behind the last. -/
theorem gap_zero {i : Nat} (hi : i ≤ ms.length) {j : Nat} (h1 : preM ms i ≤ j) (h2 : j < offM ms i) : bt (imageL ms) j = 0 := by
  have h16 : 16 ≤ j := by unfold preM at h1; omega
  rw [show j = 16 + (j - 16) by omega, bt_body]
  rcases Nat.lt_or_ge i ms.length with hlt | hge
  · obtain ⟨z, hz⟩ := body_split ms
    have e : ms.take i ++ ms[i] :: ms.drop (i + 1) = ms := by rw [List.getElem_cons_drop, List.take_append_drop]
    have hd : dataL (startM ms) ms (tableL (startM ms) ms) = dataL (offM ms i) (ms[i] :: ms.drop (i + 1)) (dataL (startM ms) (ms.take i) (tableL (startM ms) ms)) := by
      conv => lhs; arg 2; rw [← e]
      rw [dataL_app]; rfl
    have hd2 : ∀ l : List UInt8, dataL (offM ms i) (ms[i] :: ms.drop (i + 1)) l = dataL (upN (offM ms i + ms[i].data.length)) (ms.drop (i + 1)) (l ++ zerosL (offM ms i - 16 - l.length) ++ ms[i].data) := fun _ => rfl
    rw [hz, hd, hd2]
    obtain ⟨t, ht⟩ := dataL_prefix (ms.drop (i + 1)) (upN (offM ms i + ms[i].data.length)) ((dataL (startM ms) (ms.take i) (tableL (startM ms) ms)) ++ zerosL (offM ms i - 16 - (dataL (startM ms) (ms.take i) (tableL (startM ms) ms)).length) ++ ms[i].data)
    rw [ht, List.append_assoc, List.append_assoc, List.append_assoc, ← List.append_assoc]
    unfold preM at h1
    exact bt_zeros _ _ _ _ (by omega) (by omega)
  · have hie : i = ms.length := by omega
    subst hie
    unfold preM at h1
    rw [List.take_length] at h1
    have hoff : offM ms ms.length = endM (startM ms) ms := by unfold offM; rw [List.take_length]
    rw [hoff] at h2
    have e : bodyL ms = dataL (startM ms) ms (tableL (startM ms) ms) ++ zerosL (endM (startM ms) ms - 16 - (dataL (startM ms) ms (tableL (startM ms) ms)).length) ++ [] := by rw [List.append_nil]; rfl
    rw [e]
    exact bt_zeros _ _ _ _ (by omega) (by omega)
theorem data_here (h : ∀ m ∈ ms, m.name.length ≤ 24) {i : Nat} (hi : i < ms.length) : ((imageL ms).take (offM ms i + ms[i].data.length)).drop (offM ms i) = ms[i].data := by
  have e : ms.take i ++ ms[i] :: ms.drop (i + 1) = ms := by rw [List.getElem_cons_drop, List.take_append_drop]
  have h2 := data_at (a := ms.take i) (b := ms.drop (i + 1)) (m := ms[i]) (by rw [e]; exact h)
  rw [e] at h2
  rw [List.drop_take, show offM ms i + ms[i].data.length - offM ms i = ms[i].data.length by omega]
  exact h2
theorem off_fit (h : ∀ m ∈ ms, m.name.length ≤ 24) {i : Nat} (hi : i < ms.length) : offM ms i + ms[i].data.length ≤ (imageL ms).length := by
  have e : ms.take i ++ ms[i] :: ms.drop (i + 1) = ms := by rw [List.getElem_cons_drop, List.take_append_drop]
  have h2 := endM_mid (startM ms) (ms.take i) ms[i] (ms.drop (i + 1))
  rw [e] at h2
  rw [length_image h]
  exact h2
theorem name_here (hg : Good ms) {i : Nat} (hi : i < ms.length) : ((imageL ms).take (16 + 48 * i + ms[i].name.length)).drop (16 + 48 * i) = ms[i].name := by
  have e : ms.take i ++ ms[i] :: ms.drop (i + 1) = ms := by rw [List.getElem_cons_drop, List.take_append_drop]
  have h1 := entry_at (a := ms.take i) (b := ms.drop (i + 1)) (m := ms[i]) (by rw [e]; exact fun x hx => (hg.fit x hx).name)
  rw [e, show (ms.take i).length = i by rw [List.length_take]; omega] at h1
  have hn := (hg.fit _ (List.getElem_mem hi)).name
  rw [List.drop_take, show 16 + 48 * i + ms[i].name.length - (16 + 48 * i) = ms[i].name.length by omega]
  have h2 : ((imageL ms).drop (16 + 48 * i)).take ms[i].name.length = (((imageL ms).drop (16 + 48 * i)).take 48).take ms[i].name.length := by rw [List.take_take, Nat.min_eq_left (by omega)]
  rw [h2, h1]
  unfold entryL
  simp only [List.append_assoc]
  rw [List.take_left']
  rfl
theorem nums_here (hg : Good ms) (hs : (imageL ms).length ≤ 65535) {i : Nat} (hi : i < ms.length) : bt (imageL ms) (16 + 48 * i + 32) + 256 * bt (imageL ms) (16 + 48 * i + 33) = offM ms i ∧ bt (imageL ms) (16 + 48 * i + 36) + 256 * bt (imageL ms) (16 + 48 * i + 37) = ms[i].data.length := by
  have e : ms.take i ++ ms[i] :: ms.drop (i + 1) = ms := by rw [List.getElem_cons_drop, List.take_append_drop]
  have hn : ∀ x ∈ ms, x.name.length ≤ 24 := fun x hx => (hg.fit x hx).name
  have h1 := entry_at (a := ms.take i) (b := ms.drop (i + 1)) (m := ms[i]) (by rw [e]; exact hn)
  rw [e, show (ms.take i).length = i by rw [List.length_take]; omega] at h1
  have hf := off_fit hn hi
  obtain ⟨_, _, _, _, q3, q4⟩ := entry_nums (hg.fit _ (List.getElem_mem hi)) (off := offM ms i) (by omega)
  have h3 : leUp ((imageL ms).drop (16 + 48 * i)) 32 4 = offM ms i := by rw [← leUp_take _ 48 32 4 (by omega), h1]; exact q3
  have h4 : leUp ((imageL ms).drop (16 + 48 * i)) 36 4 = ms[i].data.length := by rw [← leUp_take _ 48 36 4 (by omega), h1]; exact q4
  have b3 : leUp ((imageL ms).drop (16 + 48 * i)) 32 4 = 0 + bt ((imageL ms).drop (16 + 48 * i)) 32 * 256 ^ 0 + bt ((imageL ms).drop (16 + 48 * i)) 33 * 256 ^ 1 + bt ((imageL ms).drop (16 + 48 * i)) 34 * 256 ^ 2 + bt ((imageL ms).drop (16 + 48 * i)) 35 * 256 ^ 3 := rfl
  have b4 : leUp ((imageL ms).drop (16 + 48 * i)) 36 4 = 0 + bt ((imageL ms).drop (16 + 48 * i)) 36 * 256 ^ 0 + bt ((imageL ms).drop (16 + 48 * i)) 37 * 256 ^ 1 + bt ((imageL ms).drop (16 + 48 * i)) 38 * 256 ^ 2 + bt ((imageL ms).drop (16 + 48 * i)) 39 * 256 ^ 3 := rfl
  rw [bt_drop, bt_drop, bt_drop, bt_drop] at b3 b4
  generalize bt (imageL ms) (16 + 48 * i + 32) = x0 at *
  generalize bt (imageL ms) (16 + 48 * i + 33) = x1 at *
  generalize bt (imageL ms) (16 + 48 * i + 34) = x2 at *
  generalize bt (imageL ms) (16 + 48 * i + 35) = x3 at *
  generalize bt (imageL ms) (16 + 48 * i + 36) = y0 at *
  generalize bt (imageL ms) (16 + 48 * i + 37) = y1 at *
  generalize bt (imageL ms) (16 + 48 * i + 38) = y2 at *
  generalize bt (imageL ms) (16 + 48 * i + 39) = y3 at *
  omega
end
end Go.Proofs.YtcenonnccodfoaaDoor


namespace Go.Proofs.YtcenonnccodfoaaDoor
open Go.RowKit

/-- What the law looks at, in one bundle. -/
structure Lay (ms : List GMod) (im : List UInt8) (P O : Nat → Nat) : Prop where
  p0 : P 0 = 16 + 48 * ms.length
  up : ∀ i, i ≤ ms.length → P i ≤ O i ∧ O i % 64 = 0 ∧ O i < P i + 64 ∧ O i ≤ im.length
  next : ∀ i (h : i < ms.length), P (i + 1) = O i + ms[i].data.length ∧ O i + ms[i].data.length ≤ im.length
  last : O ms.length = im.length
  gap : ∀ i, i ≤ ms.length → ∀ j, P i ≤ j → j < O i → bt im j = 0
  data : ∀ i (h : i < ms.length), (im.take (O i + ms[i].data.length)).drop (O i) = ms[i].data
  name : ∀ i (h : i < ms.length), (im.take (16 + 48 * i + ms[i].name.length)).drop (16 + 48 * i) = ms[i].name
  nums : ∀ i (h : i < ms.length), bt im (16 + 48 * i + 32) + 256 * bt im (16 + 48 * i + 33) = O i ∧ bt im (16 + 48 * i + 36) + 256 * bt im (16 + 48 * i + 37) = ms[i].data.length
theorem lay_image {ms : List GMod} (h : AllMade ms) (hl : ms.length ≤ 5) : Lay ms (imageL ms) (preM ms) (offM ms) := by
  have hg := errM_good (made_good h hl)
  have hn : ∀ m ∈ ms, m.name.length ≤ 24 := fun m hm => (hg.fit m hm).name
  refine ⟨pre_zero hn, fun i hi => ⟨pre_le hn i, off_mod hn i hi, by rw [off_up hn i hi]; exact upN_lt _, ?_⟩, fun i hi => ⟨pre_next hn hi, off_fit hn hi⟩, off_len hn, fun i hi j h1 h2 => gap_zero hi h1 h2, fun i hi => data_here hn hi, fun i hi => name_here hg hi, fun i hi => nums_here hg (img_few h hl) hi⟩
  rcases Nat.lt_or_ge i ms.length with h1 | h1
  · have := off_fit hn h1; omega
  · rw [show i = ms.length by omega, off_len hn]; exact Nat.le_refl _
set_option maxRecDepth 100000 in
set_option maxHeartbeats 4000000 in
theorem llayout_any (A : Option Addr) (len cap : Nat) (zs : List Int) (w : World) (hr : IRow w w.heap.size A len cap zs) :
    Calls Tryd.prog 5 #[.slice A len cap] w fun e w' => e = .returned (.bool true) ∧ Below w.heap.size w w' := by
  have HAW := Lib.hid awake_any
  have HMD := Lib.hid (modules_any A len cap zs w hr)
  have HAW0 := Lib.hid (awake_any w)
  clear hr
  by_cases h2 : 200 < len
  case pos =>
    have f0 : decide ((200 : Int) < (len : Int)) = true := by simp; omega
    have g0 : decide (200 < len) = true := by simp; omega
    clear HMD HAW
    go_enter Tryd.func5, Tryd.ntmps5
    go_wp2_with fail
    go_fit HAW0.out
    rintro e w5 ⟨rfl, hb5⟩
    have HN := Lib.hid hb5
    clear hb5
    go_wp2
    go_ret
    exact ⟨rfl, HN.out⟩
  have f0 : decide ((200 : Int) < (len : Int)) = false := by simp; omega
  have g0 : decide (200 < len) = false := by simp; omega
  clear HAW0
  go_enter Tryd.func5, Tryd.ntmps5
  go_wp2_with fail
  go_fit HMD.out
  rintro e w1 ⟨A1, c1, ss, ms, rfl, hm, ham, h5, hcap, hb1⟩
  have HB1 := Lib.hid hb1
  have hme := made_good ham h5
  have HE := Lib.hid hme
  have HBC := Lib.hid (pBuild_any ms ss A1 c1 w1 hm (by omega) hcap (good_name hme))
  have hil := (image_facts hme).1
  have hif := img_few ham h5
  have HLY := Lib.hid (lay_image ham h5)
  have HNS := Lib.hid (show ∀ m ∈ ms, m.name.length ≤ 24 from fun m hm => made_name (ham.1 m hm))
  have HIM := Lib.hid (imgM_ok hme)
  have HM := Lib.hid hm
  have hlen := hm.len
  clear hm ham hb1 HMD hme
  go_wp2_with fail
  go_fit HBC.out
  rintro e w2 ⟨hb2, A2, c2, rfl, hby2, hc2⟩
  rw [HE.out]
  rw [HIM.out] at hby2 hc2 ⊢
  have HB2 := Lib.hid (bel_next8 HB1.out hb2)
  have HY2 := Lib.hid hby2
  have HM2 := Lib.hid (HM.out.next hb2)
  generalize preM ms = P at *
  generalize offM ms = O at *
  generalize imageL ms = im at *
  clear hb2 HBC hby2 HE HIM HM
  have hni := HY2.out.1
  generalize hnn : im.length = ni at *
  have hL := HLY.out.last
  obtain ⟨hL1, hL2, hL3, hL4⟩ := HLY.out.up ms.length (Nat.le_refl _)
  have h16 : 16 + 48 * ms.length ≤ ni := by
    have h1 := HLY.out.p0
    have h2 := (HLY.out.up 0 (Nat.zero_le _)).1
    have h3 := (HLY.out.up 0 (Nat.zero_le _)).2.2.2
    omega
  have hmod : (ni : Int) % 64 = 0 := by omega
  have hmodn : ni % 64 = 0 := by omega
  have f16 : decide ((ni : Int) < 16 + 48 * (ms.length : Int)) = false := by simp; omega
  have HP0 := Lib.hid HLY.out.p0
  clear hL hL1 hL2 hL3 hL4
  go_wp2_with fail
  have H16 := Lib.hid h16
  clear hmod hmodn f16 h16
  go_loopw [6, 7] (fun v6 v7 wr => ∃ i : Nat, v7 = .int .i64 i ∧ v6 = .int .i64 (P i : Nat) ∧ i ≤ ms.length ∧ Hid (Below w2.heap.size w2 wr)) (fun _ v7 _ => ms.length - (intOf v7).toNat)
  case atStart => exact ⟨0, rfl, by rw [HP0.out]; simp, Nat.zero_le _, Lib.hid (Below.refl _ _)⟩
  case round =>
    obtain ⟨i, rfl, rfl, hi0, HW⟩ := hrel
    obtain ⟨u1, u2, u3, u4⟩ := HLY.out.up i hi0
    rw [hnn] at u4
    have HGP := Lib.hid (HLY.out.gap i hi0)
    have HYR := Lib.hid (HY2.out.next8 HW.out)
    obtain ⟨b2, o2, rfl, hb2, hcb⟩ := HYR.out.at_ (by omega)
    have HCB := Lib.hid hcb
    clear hcb
    rcases Nat.lt_or_ge i ms.length with hlt | hge
    · obtain ⟨x1, x2⟩ := HLY.out.next i hlt
      rw [hnn] at x2
      have HX1 := Lib.hid x1
      have HDT := Lib.hid (HLY.out.data i hlt)
      have HNM := Lib.hid (HLY.out.name i hlt)
      have HNU := Lib.hid (HLY.out.nums i hlt)
      have hls : i < ss.length := by omega
      obtain ⟨b1, o1, rfl, hb1, z0, z1, z2, z3, z4⟩ := (HM2.out.row.below (Nat.le_refl _) HW.out).mod5 hls
      have hold := (HM2.out.next HW.out).each i hls hlt
      have HHD := Lib.hid hold
      have hnl := HNS.out _ (List.getElem_mem hlt)
      rw [hold.name] at z0
      rw [hold.n] at z4
      clear x1 z1 z2 z3 hold
      generalize P i = pi at *
      generalize O i = oi at *
      generalize hdn : ms[i].data.length = dn at *
      go_wp2_with fail
      go_loop [6] (fun v6 => ∃ a : Nat, v6 = .int .i64 a ∧ pi ≤ a ∧ a ≤ oi) (fun v6 => oi - (intOf v6).toNat)
      case atStart => exact ⟨pi, rfl, Nat.le_refl _, u1⟩
      case round =>
        obtain ⟨a, rfl, ha1, ha2⟩ := hrel
        by_cases hma : a % 64 = 0
        case neg =>
          have hao : a < oi := by omega
          have fa : ((a : Int) % 64 != 0) = true := bne_iff_ne.2 (by omega)
          have hc := HCB.out a (by omega)
          rw [HGP.out a ha1 hao] at hc
          have han : (a : Int) < (ni : Int) := by omega
          go_wp2
          go_round
          case rel => exact ⟨a + 1, by go_num, by omega, by omega⟩
          case measure => simp [intOf]; omega
        obtain rfl : a = oi := by omega
        have fa : ((a : Int) % 64 != 0) = false := by simp; omega
        clear hma ha1 ha2 u1 u3
        go_wp2_with fail
        have ws1 : IntKind.i64.wrap ((ni : Int) - (a : Int)) = (ni : Int) - (a : Int) := by rw [IntKind.wrap_i64]; omega
        have fs1 : decide ((ni : Int) - (a : Int) < (dn : Int)) = false := by simp; omega
        have wa : IntKind.i64.wrap ((a : Int) + (dn : Int)) = (a : Int) + (dn : Int) := by rw [IntKind.wrap_i64]; omega
        have sl : ∀ W : World, (Instr.slice 23 (.slice (some ⟨b2, o2, none⟩) ni c2) (some (.int .i64 (a : Int))) (some (.int .i64 ((a : Int) + (dn : Int)))) none).run Tryd.prog W = .ok (.slice (cutA (some ⟨b2, o2, none⟩) c2 a) dn (c2 - a)) W := fun W => by
          rw [run_slice_lh _ _ _ _ _ byte_elem .i64 .i64 (a : Int) ((a : Int) + (dn : Int)) (by omega) (by omega) (by omega), run_byteSize]
          have h1 : ((a : Int) + (dn : Int)).toNat = a + dn := by omega
          simp [Result.andThen, sliced, cutA, h1]
        have sl2 : ∀ W : World, (Instr.sliceAt 23 (.slice (some ⟨b2, o2, none⟩) ni c2) (some (.int .i64 (a : Int))) (some (.int .i64 ((a : Int) + (dn : Int)))) none).run Tryd.prog W = .ok (.slice (cutA (some ⟨b2, o2, none⟩) c2 a) dn (c2 - a)) W := fun W => by
          rw [run_sliceAt_slice _ _ _ _ _ _ byte_elem]; exact sl W
        have hs1 : (convert 23 9 (.slice (cutA (some ⟨b2, o2, none⟩) c2 a) dn (c2 - a))).run Tryd.prog wr.drew = .ok (.string ⟨ms[i].data.toArray⟩) wr.drew := by
          have h := (HYR.out.below (Below.refl _ wr).drew).cut (cap := c2) (j := a) (k := a + dn) (by omega) (by omega) hc2
          rw [show a + dn - a = dn by omega, HDT.out] at h
          exact h.str _
        have hs2 : (convert 23 9 (.slice ss[i].A dn ss[i].c)).run Tryd.prog wr.drew = .ok (.string ⟨ms[i].data.toArray⟩) wr.drew := by
          have h := (HHD.out.row.below (Below.refl _ wr).drew)
          rw [HHD.out.n, hdn] at h
          exact h.str _
        clear HDT
        generalize cutA (some ⟨b2, o2, none⟩) c2 a = CA at *
        generalize ss[i].A = SA at *
        generalize ss[i].c = SC at *
        refine wp_region_still_lit (by kernel_rfl) (by kernel_rfl) ?_
        repeat still_step
        refine wpStill_nil ?_
        change Exit.then _ _ Exit.normal _ wr.drew
        clear ws1 fs1 wa sl sl2 hs1 hs2
        have HWD := Lib.hid HW.out.drew
        have z0d : wr.drew.cell? ⟨b1, o1 + i * 5, none⟩ = some (.string ⟨ms[i].name.toArray⟩) := z0
        have HYD := Lib.hid (HYR.out.next8 (Below.refl _ wr).drew)
        clear z0 z4 HYR HW HHD
        generalize wr.drew = wq at *
        go_wp2_with fail
        have hen : (16 : Int) + 48 * (i : Int) = ((16 + 48 * i : Nat) : Int) := by omega
        have hene : 16 + 48 * i + 48 ≤ ni := by have := H16.out; omega
        rw [hen]
        clear hen
        obtain ⟨b2', o2', e2', _, hcd⟩ := HYD.out.at_ (by omega)
        cases e2'
        have HCD := Lib.hid hcd
        obtain ⟨hn1, hn2⟩ := HNU.out
        clear hcd HNU
        generalize 16 + 48 * i = en at *
        have hsz : (⟨ms[i].name.toArray⟩ : ByteArray).size = ms[i].name.length := ba_size _
        have hs3 : (convert 23 9 (.slice (cutA (some ⟨b2, o2, none⟩) c2 en) ms[i].name.length (c2 - en))).run Tryd.prog wq.drew = .ok (.string ⟨ms[i].name.toArray⟩) wq.drew := by
          have h := (HYD.out.below (Below.refl _ wq).drew).cut (cap := c2) (j := en) (k := en + ms[i].name.length) (by omega) (by omega) hc2
          rw [show en + ms[i].name.length - en = ms[i].name.length by omega, HNM.out] at h
          exact h.str _
        clear HNM
        generalize ms[i].name = nm at *
        generalize hnq : nm.length = nl at *
        have wn : IntKind.i64.wrap ((en : Int) + (nl : Int)) = (en : Int) + (nl : Int) := by rw [IntKind.wrap_i64]; omega
        have sl : ∀ W : World, (Instr.slice 23 (.slice (some ⟨b2, o2, none⟩) ni c2) (some (.int .i64 (en : Int))) (some (.int .i64 ((en : Int) + (nl : Int)))) none).run Tryd.prog W = .ok (.slice (cutA (some ⟨b2, o2, none⟩) c2 en) nl (c2 - en)) W := fun W => by
          rw [run_slice_lh _ _ _ _ _ byte_elem .i64 .i64 (en : Int) ((en : Int) + (nl : Int)) (by omega) (by omega) (by omega), run_byteSize]
          have h1 : ((en : Int) + (nl : Int)).toNat = en + nl := by omega
          simp [Result.andThen, sliced, cutA, h1]
        have sl2 : ∀ W : World, (Instr.sliceAt 23 (.slice (some ⟨b2, o2, none⟩) ni c2) (some (.int .i64 (en : Int))) (some (.int .i64 ((en : Int) + (nl : Int)))) none).run Tryd.prog W = .ok (.slice (cutA (some ⟨b2, o2, none⟩) c2 en) nl (c2 - en)) W := fun W => by
          rw [run_sliceAt_slice _ _ _ _ _ _ byte_elem]; exact sl W
        generalize cutA (some ⟨b2, o2, none⟩) c2 en = CA at *
        have c32 := HCD.out (en + 32) (by omega)
        have i32 : (en : Int) + 32 < (ni : Int) := by omega
        have p32 : 0 ≤ (en : Int) + 32 := by omega
        have t32 : ((en : Int) + 32).toNat = en + 32 := by omega
        have w32 : IntKind.i64.wrap ((en : Int) + 32) = (en : Int) + 32 := by rw [IntKind.wrap_i64]; omega
        have b32l := bt_lt im (en + 32)
        have c33 := HCD.out (en + 33) (by omega)
        have i33 : (en : Int) + 33 < (ni : Int) := by omega
        have p33 : 0 ≤ (en : Int) + 33 := by omega
        have t33 : ((en : Int) + 33).toNat = en + 33 := by omega
        have w33 : IntKind.i64.wrap ((en : Int) + 33) = (en : Int) + 33 := by rw [IntKind.wrap_i64]; omega
        have b33l := bt_lt im (en + 33)
        have c36 := HCD.out (en + 36) (by omega)
        have i36 : (en : Int) + 36 < (ni : Int) := by omega
        have p36 : 0 ≤ (en : Int) + 36 := by omega
        have t36 : ((en : Int) + 36).toNat = en + 36 := by omega
        have w36 : IntKind.i64.wrap ((en : Int) + 36) = (en : Int) + 36 := by rw [IntKind.wrap_i64]; omega
        have b36l := bt_lt im (en + 36)
        have c37 := HCD.out (en + 37) (by omega)
        have i37 : (en : Int) + 37 < (ni : Int) := by omega
        have p37 : 0 ≤ (en : Int) + 37 := by omega
        have t37 : ((en : Int) + 37).toNat = en + 37 := by omega
        have w37 : IntKind.i64.wrap ((en : Int) + 37) = (en : Int) + 37 := by rw [IntKind.wrap_i64]; omega
        have b37l := bt_lt im (en + 37)
        generalize bt im (en + 32) = x32 at *
        generalize bt im (en + 33) = x33 at *
        generalize bt im (en + 36) = x36 at *
        generalize bt im (en + 37) = x37 at *
        have y32 : IntKind.i64.wrap (x32 : Int) = (x32 : Int) := by rw [IntKind.wrap_i64]; omega
        have y33 : IntKind.i64.wrap (x33 : Int) = (x33 : Int) := by rw [IntKind.wrap_i64]; omega
        have y36 : IntKind.i64.wrap (x36 : Int) = (x36 : Int) := by rw [IntKind.wrap_i64]; omega
        have y37 : IntKind.i64.wrap (x37 : Int) = (x37 : Int) := by rw [IntKind.wrap_i64]; omega
        have m33 : IntKind.i64.wrap (256 * (x33 : Int)) = 256 * (x33 : Int) := by rw [IntKind.wrap_i64]; omega
        have m37 : IntKind.i64.wrap (256 * (x37 : Int)) = 256 * (x37 : Int) := by rw [IntKind.wrap_i64]; omega
        have s1 : IntKind.i64.wrap ((x32 : Int) + 256 * (x33 : Int)) = (a : Int) := by rw [IntKind.wrap_i64]; omega
        have s2 : IntKind.i64.wrap ((x36 : Int) + 256 * (x37 : Int)) = (dn : Int) := by rw [IntKind.wrap_i64]; omega
        clear hn1 hn2 b32l b33l b36l b37l
        refine wp_region_still_lit (by kernel_rfl) (by kernel_rfl) ?_
        repeat still_step
        refine wpStill_nil ?_
        change Exit.then _ _ Exit.normal _ wq.drew
        clear p32 p33 p36 p37 s1 s2 c32 c33 c36 c37 sl sl2 hs3 i32 i33 i36 i37 t32 t33 t36 t37 w32 w33 w36 w37 y32 y33 y36 y37 m33 m37 wn hsz
        have HWQ := Lib.hid HWD.out.drew
        clear HWD HYD z0d HCD
        generalize wq.drew = we at *
        go_wp2
        go_roundw
        case rel => exact ⟨i + 1, by go_num, by rw [HX1.out]; go_num, by omega, HWQ⟩
        case measure => simp [intOf]; omega
    · obtain rfl : i = ms.length := by omega
      have hl := HLY.out.last
      rw [hnn] at hl
      rw [hl] at u1 u2 u3
      have hgp := HGP.out
      rw [hl] at hgp
      have HGE := Lib.hid hgp
      clear hgp u4 HGP
      generalize P ms.length = pe at *
      have HWB := Lib.hid (bel_next8 HB2.out HW.out)
      go_wp2_with fail
      go_loop [6] (fun v6 => ∃ a : Nat, v6 = .int .i64 a ∧ pe ≤ a ∧ a ≤ ni) (fun v6 => ni - (intOf v6).toNat)
      case atStart => exact ⟨pe, rfl, Nat.le_refl _, u1⟩
      case round =>
        obtain ⟨a, rfl, ha1, ha2⟩ := hrel
        by_cases hma : a % 64 = 0
        case neg =>
          have hao : a < ni := by omega
          have fa : ((a : Int) % 64 != 0) = true := bne_iff_ne.2 (by omega)
          have fg : decide ((ni : Int) ≤ (a : Int)) = false := by simp; omega
          have fgn : decide (ni ≤ a) = false := by simp; omega
          have hc := HCB.out a (by omega)
          rw [HGE.out a ha1 hao] at hc
          have han : (a : Int) < (ni : Int) := by omega
          go_wp2
          go_round
          case rel => exact ⟨a + 1, by go_num, by omega, by omega⟩
          case measure => simp [intOf]; omega
        obtain rfl : a = ni := by omega
        have fa : ((a : Int) % 64 != 0) = false := by simp; omega
        have HAWR := Lib.hid (HAW.out wr)
        go_wp2_with fail
        go_fit HAWR.out
        rintro e w9 ⟨rfl, hb9⟩
        have HN := Lib.hid (bel_next8 HWB.out hb9)
        clear hb9
        go_wp2
        go_ret
        exact ⟨rfl, HN.out⟩
end Go.Proofs.YtcenonnccodfoaaDoor
