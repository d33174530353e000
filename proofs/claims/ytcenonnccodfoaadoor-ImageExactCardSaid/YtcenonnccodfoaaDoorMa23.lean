/-
  How the data lie in an image: the offsets one behind the other, zeros between, the entries. Plain mathematics.
  Conditions: as each theorem says.
  The law ImageLayout returns true.
  Conditions: the numbers are the language's.
  The bytes of a string with zeros behind them; a slice of the call's own that grows by the reference's put.
  Conditions: as each theorem says.
-/
import Derived.Test.YtcenonnccodfoaaDoorMa22
import Derived.StillTactics
import Derived.Lib.ConvBytes
import Derived.Laws.IdiomCopy
namespace Go.Proofs.YtcenonnccodfoaaDoor

/-- Where the bytes written so far end, before the data of module i. -/
def preM (ms : List GMod) (i : Nat) : Nat := (dataL (startM ms) (ms.take i) (tableL (startM ms) ms)).length + 16
/-- Where the data of module i lie. -/
def offM (ms : List GMod) (i : Nat) : Nat := endM (startM ms) (ms.take i)
section
variable {ms : List GMod}
theorem pre_zero (h : ∀ m ∈ ms, m.name.length ≤ 24) : preM ms 0 = 16 + 48 * ms.length := by
  unfold preM
  rw [List.take_zero, show dataL (startM ms) [] (tableL (startM ms) ms) = tableL (startM ms) ms from rfl, length_table _ _ h]
  omega
theorem pre_le (h : ∀ m ∈ ms, m.name.length ≤ 24) (i : Nat) : preM ms i ≤ offM ms i := dataL_len (ms.take i) (startM ms) _ (table_fit h)
theorem off_next {i : Nat} (hi : i < ms.length) : offM ms (i + 1) = upN (offM ms i + ms[i].data.length) := by
  unfold offM
  rw [List.take_succ_eq_append_getElem hi, endM_app, endM_cons, endM_nil]
theorem dataL_one (s : Nat) (m : GMod) (l : List UInt8) : dataL s [m] l = l ++ zerosL (s - 16 - l.length) ++ m.data := rfl
theorem pre_next (h : ∀ m ∈ ms, m.name.length ≤ 24) {i : Nat} (hi : i < ms.length) : preM ms (i + 1) = offM ms i + ms[i].data.length := by
  have h1 := pre_le h i
  unfold preM at h1 ⊢
  unfold offM at h1 ⊢
  rw [List.take_succ_eq_append_getElem hi, dataL_app, dataL_one, List.length_append, List.length_append, length_zeros]
  omega
theorem off_up (h : ∀ m ∈ ms, m.name.length ≤ 24) : ∀ i, i ≤ ms.length → offM ms i = upN (preM ms i)
  | 0, _ => by rw [pre_zero h]; rfl
  | i + 1, hi => by rw [off_next (by omega), pre_next h (by omega)]
theorem off_mod (h : ∀ m ∈ ms, m.name.length ≤ 24) (i : Nat) (hi : i ≤ ms.length) : offM ms i % 64 = 0 := by
  rw [off_up h i hi]; exact upN_mod _
theorem off_len (h : ∀ m ∈ ms, m.name.length ≤ 24) : offM ms ms.length = (imageL ms).length := by
  unfold offM
  rw [List.take_length, length_image h]
theorem bt_body (ms : List GMod) (j : Nat) : bt (imageL ms) (16 + j) = bt (bodyL ms) j := by
  rw [← bt_drop2 (imageL ms) (16 + j), image_drop, bt_drop2]
theorem bt_zeros (l t : List UInt8) (k j : Nat) (h1 : l.length ≤ j) (h2 : j < l.length + k) : bt (l ++ zerosL k ++ t) j = 0 := by
  unfold bt zerosL
  rw [List.getD_eq_getElem?_getD, List.append_assoc, List.getElem?_append_right h1, List.getElem?_append_left (by rw [List.length_replicate]; omega), List.getElem?_replicate, if_pos (by omega)]
  rfl
/-- Zeros before the data of a module, and behind the last. -/
theorem gap_zero {i : Nat} (hi : i ≤ ms.length) {j : Nat} (h1 : preM ms i ≤ j) (h2 : j < offM ms i) : bt (imageL ms) j = 0 := by
  have h16 : 16 ≤ j := by unfold preM at h1; omega
  rw [show j = 16 + (j - 16) by omega, bt_body]
  rcases Nat.lt_or_ge i ms.length with hlt | hge
  · obtain ⟨z, hz⟩ := body_split ms
    have e : ms.take i ++ ms[i] :: ms.drop (i + 1) = ms := by rw [List.getElem_cons_drop, List.take_append_drop]
    have hd : dataL (startM ms) ms (tableL (startM ms) ms) = dataL (offM ms i) (ms[i] :: ms.drop (i + 1)) (dataL (startM ms) (ms.take i) (tableL (startM ms) ms)) := by
      conv => lhs; arg 2; rw [← e]
      rw [dataL_app]; rfl
    have hd2 : ∀ l : List UInt8, dataL (offM ms i) (ms[i] :: ms.drop (i + 1)) l = dataL (upN (offM ms i + ms[i].data.length)) (ms.drop (i + 1)) (l ++ zerosL (offM ms i - 16 - l.length) ++ ms[i].data) := fun _ => rfl
    rw [hz, hd, hd2]
    obtain ⟨t, ht⟩ := dataL_prefix (ms.drop (i + 1)) (upN (offM ms i + ms[i].data.length)) ((dataL (startM ms) (ms.take i) (tableL (startM ms) ms)) ++ zerosL (offM ms i - 16 - (dataL (startM ms) (ms.take i) (tableL (startM ms) ms)).length) ++ ms[i].data)
    rw [ht, List.append_assoc, List.append_assoc, List.append_assoc, ← List.append_assoc]
    unfold preM at h1
    exact bt_zeros _ _ _ _ (by omega) (by omega)
  · have hie : i = ms.length := by omega
    subst hie
    unfold preM at h1
    rw [List.take_length] at h1
    have hoff : offM ms ms.length = endM (startM ms) ms := by unfold offM; rw [List.take_length]
    rw [hoff] at h2
    have e : bodyL ms = dataL (startM ms) ms (tableL (startM ms) ms) ++ zerosL (endM (startM ms) ms - 16 - (dataL (startM ms) ms (tableL (startM ms) ms)).length) ++ [] := by rw [List.append_nil]; rfl
    rw [e]
    exact bt_zeros _ _ _ _ (by omega) (by omega)
theorem data_here (h : ∀ m ∈ ms, m.name.length ≤ 24) {i : Nat} (hi : i < ms.length) : ((imageL ms).take (offM ms i + ms[i].data.length)).drop (offM ms i) = ms[i].data := by
  have e : ms.take i ++ ms[i] :: ms.drop (i + 1) = ms := by rw [List.getElem_cons_drop, List.take_append_drop]
  have h2 := data_at (a := ms.take i) (b := ms.drop (i + 1)) (m := ms[i]) (by rw [e]; exact h)
  rw [e] at h2
  rw [List.drop_take, show offM ms i + ms[i].data.length - offM ms i = ms[i].data.length by omega]
  exact h2
theorem off_fit (h : ∀ m ∈ ms, m.name.length ≤ 24) {i : Nat} (hi : i < ms.length) : offM ms i + ms[i].data.length ≤ (imageL ms).length := by
  have e : ms.take i ++ ms[i] :: ms.drop (i + 1) = ms := by rw [List.getElem_cons_drop, List.take_append_drop]
  have h2 := endM_mid (startM ms) (ms.take i) ms[i] (ms.drop (i + 1))
  rw [e] at h2
  rw [length_image h]
  exact h2
theorem name_here (hg : Good ms) {i : Nat} (hi : i < ms.length) : ((imageL ms).take (16 + 48 * i + ms[i].name.length)).drop (16 + 48 * i) = ms[i].name := by
  have e : ms.take i ++ ms[i] :: ms.drop (i + 1) = ms := by rw [List.getElem_cons_drop, List.take_append_drop]
  have h1 := entry_at (a := ms.take i) (b := ms.drop (i + 1)) (m := ms[i]) (by rw [e]; exact fun x hx => (hg.fit x hx).name)
  rw [e, show (ms.take i).length = i by rw [List.length_take]; omega] at h1
  have hn := (hg.fit _ (List.getElem_mem hi)).name
  rw [List.drop_take, show 16 + 48 * i + ms[i].name.length - (16 + 48 * i) = ms[i].name.length by omega]
  have h2 : ((imageL ms).drop (16 + 48 * i)).take ms[i].name.length = (((imageL ms).drop (16 + 48 * i)).take 48).take ms[i].name.length := by rw [List.take_take, Nat.min_eq_left (by omega)]
  rw [h2, h1]
  unfold entryL
  simp only [List.append_assoc]
  rw [List.take_left']
  rfl
theorem nums_here (hg : Good ms) (hs : (imageL ms).length ≤ 65535) {i : Nat} (hi : i < ms.length) : bt (imageL ms) (16 + 48 * i + 32) + 256 * bt (imageL ms) (16 + 48 * i + 33) = offM ms i ∧ bt (imageL ms) (16 + 48 * i + 36) + 256 * bt (imageL ms) (16 + 48 * i + 37) = ms[i].data.length := by
  have e : ms.take i ++ ms[i] :: ms.drop (i + 1) = ms := by rw [List.getElem_cons_drop, List.take_append_drop]
  have hn : ∀ x ∈ ms, x.name.length ≤ 24 := fun x hx => (hg.fit x hx).name
  have h1 := entry_at (a := ms.take i) (b := ms.drop (i + 1)) (m := ms[i]) (by rw [e]; exact hn)
  rw [e, show (ms.take i).length = i by rw [List.length_take]; omega] at h1
  have hf := off_fit hn hi
  obtain ⟨_, _, _, _, q3, q4⟩ := entry_nums (hg.fit _ (List.getElem_mem hi)) (off := offM ms i) (by omega)
  have h3 : leUp ((imageL ms).drop (16 + 48 * i)) 32 4 = offM ms i := by rw [← leUp_take _ 48 32 4 (by omega), h1]; exact q3
  have h4 : leUp ((imageL ms).drop (16 + 48 * i)) 36 4 = ms[i].data.length := by rw [← leUp_take _ 48 36 4 (by omega), h1]; exact q4
  have b3 : leUp ((imageL ms).drop (16 + 48 * i)) 32 4 = 0 + bt ((imageL ms).drop (16 + 48 * i)) 32 * 256 ^ 0 + bt ((imageL ms).drop (16 + 48 * i)) 33 * 256 ^ 1 + bt ((imageL ms).drop (16 + 48 * i)) 34 * 256 ^ 2 + bt ((imageL ms).drop (16 + 48 * i)) 35 * 256 ^ 3 := rfl
  have b4 : leUp ((imageL ms).drop (16 + 48 * i)) 36 4 = 0 + bt ((imageL ms).drop (16 + 48 * i)) 36 * 256 ^ 0 + bt ((imageL ms).drop (16 + 48 * i)) 37 * 256 ^ 1 + bt ((imageL ms).drop (16 + 48 * i)) 38 * 256 ^ 2 + bt ((imageL ms).drop (16 + 48 * i)) 39 * 256 ^ 3 := rfl
  rw [bt_drop, bt_drop, bt_drop, bt_drop] at b3 b4
  generalize bt (imageL ms) (16 + 48 * i + 32) = x0 at *
  generalize bt (imageL ms) (16 + 48 * i + 33) = x1 at *
  generalize bt (imageL ms) (16 + 48 * i + 34) = x2 at *
  generalize bt (imageL ms) (16 + 48 * i + 35) = x3 at *
  generalize bt (imageL ms) (16 + 48 * i + 36) = y0 at *
  generalize bt (imageL ms) (16 + 48 * i + 37) = y1 at *
  generalize bt (imageL ms) (16 + 48 * i + 38) = y2 at *
  generalize bt (imageL ms) (16 + 48 * i + 39) = y3 at *
  omega
end
end Go.Proofs.YtcenonnccodfoaaDoor


namespace Go.Proofs.YtcenonnccodfoaaDoor
open Go.RowKit

/-- What the law looks at, in one bundle. -/
structure Lay (ms : List GMod) (im : List UInt8) (P O : Nat → Nat) : Prop where
  p0 : P 0 = 16 + 48 * ms.length
  up : ∀ i, i ≤ ms.length → P i ≤ O i ∧ O i % 64 = 0 ∧ O i < P i + 64 ∧ O i ≤ im.length
  next : ∀ i (h : i < ms.length), P (i + 1) = O i + ms[i].data.length ∧ O i + ms[i].data.length ≤ im.length
  last : O ms.length = im.length
  gap : ∀ i, i ≤ ms.length → ∀ j, P i ≤ j → j < O i → bt im j = 0
  data : ∀ i (h : i < ms.length), (im.take (O i + ms[i].data.length)).drop (O i) = ms[i].data
  name : ∀ i (h : i < ms.length), (im.take (16 + 48 * i + ms[i].name.length)).drop (16 + 48 * i) = ms[i].name
  nums : ∀ i (h : i < ms.length), bt im (16 + 48 * i + 32) + 256 * bt im (16 + 48 * i + 33) = O i ∧ bt im (16 + 48 * i + 36) + 256 * bt im (16 + 48 * i + 37) = ms[i].data.length
theorem lay_image {ms : List GMod} (h : AllMade ms) (hl : ms.length ≤ 5) : Lay ms (imageL ms) (preM ms) (offM ms) := by
  have hg := errM_good (made_good h hl)
  have hn : ∀ m ∈ ms, m.name.length ≤ 24 := fun m hm => (hg.fit m hm).name
  refine ⟨pre_zero hn, fun i hi => ⟨pre_le hn i, off_mod hn i hi, by rw [off_up hn i hi]; exact upN_lt _, ?_⟩, fun i hi => ⟨pre_next hn hi, off_fit hn hi⟩, off_len hn, fun i hi j h1 h2 => gap_zero hi h1 h2, fun i hi => data_here hn hi, fun i hi => name_here hg hi, fun i hi => nums_here hg (img_few h hl) hi⟩
  rcases Nat.lt_or_ge i ms.length with h1 | h1
  · have := off_fit hn h1; omega
  · rw [show i = ms.length by omega, off_len hn]; exact Nat.le_refl _
set_option maxRecDepth 100000 in
set_option maxHeartbeats 4000000 in
theorem llayout_any (A : Option Addr) (len cap : Nat) (zs : List Int) (w : World) (hr : IRow w w.heap.size A len cap zs) :
    Calls Tryd.prog 5 #[.slice A len cap] w fun e w' => e = .returned (.bool true) ∧ Below w.heap.size w w' := by
  have HAW := Lib.hid awake_any
  have HMD := Lib.hid (modules_any A len cap zs w hr)
  have HAW0 := Lib.hid (awake_any w)
  clear hr
  by_cases h2 : 200 < len
  case pos =>
    have f0 : decide ((200 : Int) < (len : Int)) = true := by simp; omega
    have g0 : decide (200 < len) = true := by simp; omega
    clear HMD HAW
    go_enter Tryd.func5, Tryd.ntmps5
    go_wp2_with fail
    go_fit HAW0.out
    rintro e w5 ⟨rfl, hb5⟩
    have HN := Lib.hid hb5
    clear hb5
    go_wp2
    go_ret
    exact ⟨rfl, HN.out⟩
  have f0 : decide ((200 : Int) < (len : Int)) = false := by simp; omega
  have g0 : decide (200 < len) = false := by simp; omega
  clear HAW0
  go_enter Tryd.func5, Tryd.ntmps5
  go_wp2_with fail
  go_fit HMD.out
  rintro e w1 ⟨A1, c1, ss, ms, rfl, hm, ham, h5, hcap, hb1⟩
  have HB1 := Lib.hid hb1
  have hme := made_good ham h5
  have HE := Lib.hid hme
  have HBC := Lib.hid (pBuild_any ms ss A1 c1 w1 hm (by omega) hcap (good_name hme))
  have hil := (image_facts hme).1
  have hif := img_few ham h5
  have HLY := Lib.hid (lay_image ham h5)
  have HNS := Lib.hid (show ∀ m ∈ ms, m.name.length ≤ 24 from fun m hm => made_name (ham.1 m hm))
  have HIM := Lib.hid (imgM_ok hme)
  have HM := Lib.hid hm
  have hlen := hm.len
  clear hm ham hb1 HMD hme
  go_wp2_with fail
  go_fit HBC.out
  rintro e w2 ⟨hb2, A2, c2, rfl, hby2, hc2⟩
  rw [HE.out]
  rw [HIM.out] at hby2 hc2 ⊢
  have HB2 := Lib.hid (bel_next8 HB1.out hb2)
  have HY2 := Lib.hid hby2
  have HM2 := Lib.hid (HM.out.next hb2)
  generalize preM ms = P at *
  generalize offM ms = O at *
  generalize imageL ms = im at *
  clear hb2 HBC hby2 HE HIM HM
  have hni := HY2.out.1
  generalize hnn : im.length = ni at *
  have hL := HLY.out.last
  obtain ⟨hL1, hL2, hL3, hL4⟩ := HLY.out.up ms.length (Nat.le_refl _)
  have h16 : 16 + 48 * ms.length ≤ ni := by
    have h1 := HLY.out.p0
    have h2 := (HLY.out.up 0 (Nat.zero_le _)).1
    have h3 := (HLY.out.up 0 (Nat.zero_le _)).2.2.2
    omega
  have hmod : (ni : Int) % 64 = 0 := by omega
  have hmodn : ni % 64 = 0 := by omega
  have f16 : decide ((ni : Int) < 16 + 48 * (ms.length : Int)) = false := by simp; omega
  have HP0 := Lib.hid HLY.out.p0
  clear hL hL1 hL2 hL3 hL4
  go_wp2_with fail
  have H16 := Lib.hid h16
  clear hmod hmodn f16 h16
  go_loopw [6, 7] (fun v6 v7 wr => ∃ i : Nat, v7 = .int .i64 i ∧ v6 = .int .i64 (P i : Nat) ∧ i ≤ ms.length ∧ Hid (Below w2.heap.size w2 wr)) (fun _ v7 _ => ms.length - (intOf v7).toNat)
  case atStart => exact ⟨0, rfl, by rw [HP0.out]; simp, Nat.zero_le _, Lib.hid (Below.refl _ _)⟩
  case round =>
    obtain ⟨i, rfl, rfl, hi0, HW⟩ := hrel
    obtain ⟨u1, u2, u3, u4⟩ := HLY.out.up i hi0
    rw [hnn] at u4
    have HGP := Lib.hid (HLY.out.gap i hi0)
    have HYR := Lib.hid (HY2.out.next8 HW.out)
    obtain ⟨b2, o2, rfl, hb2, hcb⟩ := HYR.out.at_ (by omega)
    have HCB := Lib.hid hcb
    clear hcb
    rcases Nat.lt_or_ge i ms.length with hlt | hge
    · obtain ⟨x1, x2⟩ := HLY.out.next i hlt
      rw [hnn] at x2
      have HX1 := Lib.hid x1
      have HDT := Lib.hid (HLY.out.data i hlt)
      have HNM := Lib.hid (HLY.out.name i hlt)
      have HNU := Lib.hid (HLY.out.nums i hlt)
      have hls : i < ss.length := by omega
      obtain ⟨b1, o1, rfl, hb1, z0, z1, z2, z3, z4⟩ := (HM2.out.row.below (Nat.le_refl _) HW.out).mod5 hls
      have hold := (HM2.out.next HW.out).each i hls hlt
      have HHD := Lib.hid hold
      have hnl := HNS.out _ (List.getElem_mem hlt)
      rw [hold.name] at z0
      rw [hold.n] at z4
      clear x1 z1 z2 z3 hold
      generalize P i = pi at *
      generalize O i = oi at *
      generalize hdn : ms[i].data.length = dn at *
      go_wp2_with fail
      go_loop [6] (fun v6 => ∃ a : Nat, v6 = .int .i64 a ∧ pi ≤ a ∧ a ≤ oi) (fun v6 => oi - (intOf v6).toNat)
      case atStart => exact ⟨pi, rfl, Nat.le_refl _, u1⟩
      case round =>
        obtain ⟨a, rfl, ha1, ha2⟩ := hrel
        by_cases hma : a % 64 = 0
        case neg =>
          have hao : a < oi := by omega
          have fa : ((a : Int) % 64 != 0) = true := bne_iff_ne.2 (by omega)
          have hc := HCB.out a (by omega)
          rw [HGP.out a ha1 hao] at hc
          have han : (a : Int) < (ni : Int) := by omega
          go_wp2
          go_round
          case rel => exact ⟨a + 1, by go_num, by omega, by omega⟩
          case measure => simp [intOf]; omega
        obtain rfl : a = oi := by omega
        have fa : ((a : Int) % 64 != 0) = false := by simp; omega
        clear hma ha1 ha2 u1 u3
        go_wp2_with fail
        have ws1 : IntKind.i64.wrap ((ni : Int) - (a : Int)) = (ni : Int) - (a : Int) := by rw [IntKind.wrap_i64]; omega
        have fs1 : decide ((ni : Int) - (a : Int) < (dn : Int)) = false := by simp; omega
        have wa : IntKind.i64.wrap ((a : Int) + (dn : Int)) = (a : Int) + (dn : Int) := by rw [IntKind.wrap_i64]; omega
        have sl : ∀ W : World, (Instr.slice 23 (.slice (some ⟨b2, o2, none⟩) ni c2) (some (.int .i64 (a : Int))) (some (.int .i64 ((a : Int) + (dn : Int)))) none).run Tryd.prog W = .ok (.slice (cutA (some ⟨b2, o2, none⟩) c2 a) dn (c2 - a)) W := fun W => by
          rw [run_slice_lh _ _ _ _ _ byte_elem .i64 .i64 (a : Int) ((a : Int) + (dn : Int)) (by omega) (by omega) (by omega), run_byteSize]
          have h1 : ((a : Int) + (dn : Int)).toNat = a + dn := by omega
          simp [Result.andThen, sliced, cutA, h1]
        have sl2 : ∀ W : World, (Instr.sliceAt 23 (.slice (some ⟨b2, o2, none⟩) ni c2) (some (.int .i64 (a : Int))) (some (.int .i64 ((a : Int) + (dn : Int)))) none).run Tryd.prog W = .ok (.slice (cutA (some ⟨b2, o2, none⟩) c2 a) dn (c2 - a)) W := fun W => by
          rw [run_sliceAt_slice _ _ _ _ _ _ byte_elem]; exact sl W
        have hs1 : (convert 23 9 (.slice (cutA (some ⟨b2, o2, none⟩) c2 a) dn (c2 - a))).run Tryd.prog wr.drew = .ok (.string ⟨ms[i].data.toArray⟩) wr.drew := by
          have h := (HYR.out.below (Below.refl _ wr).drew).cut (cap := c2) (j := a) (k := a + dn) (by omega) (by omega) hc2
          rw [show a + dn - a = dn by omega, HDT.out] at h
          exact h.str _
        have hs2 : (convert 23 9 (.slice ss[i].A dn ss[i].c)).run Tryd.prog wr.drew = .ok (.string ⟨ms[i].data.toArray⟩) wr.drew := by
          have h := (HHD.out.row.below (Below.refl _ wr).drew)
          rw [HHD.out.n, hdn] at h
          exact h.str _
        clear HDT
        generalize cutA (some ⟨b2, o2, none⟩) c2 a = CA at *
        generalize ss[i].A = SA at *
        generalize ss[i].c = SC at *
        refine wp_region_still_lit (by kernel_rfl) (by kernel_rfl) ?_
        repeat still_step
        refine wpStill_nil ?_
        change Exit.then _ _ Exit.normal _ wr.drew
        clear ws1 fs1 wa sl sl2 hs1 hs2
        have HWD := Lib.hid HW.out.drew
        have z0d : wr.drew.cell? ⟨b1, o1 + i * 5, none⟩ = some (.string ⟨ms[i].name.toArray⟩) := z0
        have HYD := Lib.hid (HYR.out.next8 (Below.refl _ wr).drew)
        clear z0 z4 HYR HW HHD
        generalize wr.drew = wq at *
        go_wp2_with fail
        have hen : (16 : Int) + 48 * (i : Int) = ((16 + 48 * i : Nat) : Int) := by omega
        have hene : 16 + 48 * i + 48 ≤ ni := by have := H16.out; omega
        rw [hen]
        clear hen
        obtain ⟨b2', o2', e2', _, hcd⟩ := HYD.out.at_ (by omega)
        cases e2'
        have HCD := Lib.hid hcd
        obtain ⟨hn1, hn2⟩ := HNU.out
        clear hcd HNU
        generalize 16 + 48 * i = en at *
        have hsz : (⟨ms[i].name.toArray⟩ : ByteArray).size = ms[i].name.length := ba_size _
        have hs3 : (convert 23 9 (.slice (cutA (some ⟨b2, o2, none⟩) c2 en) ms[i].name.length (c2 - en))).run Tryd.prog wq.drew = .ok (.string ⟨ms[i].name.toArray⟩) wq.drew := by
          have h := (HYD.out.below (Below.refl _ wq).drew).cut (cap := c2) (j := en) (k := en + ms[i].name.length) (by omega) (by omega) hc2
          rw [show en + ms[i].name.length - en = ms[i].name.length by omega, HNM.out] at h
          exact h.str _
        clear HNM
        generalize ms[i].name = nm at *
        generalize hnq : nm.length = nl at *
        have wn : IntKind.i64.wrap ((en : Int) + (nl : Int)) = (en : Int) + (nl : Int) := by rw [IntKind.wrap_i64]; omega
        have sl : ∀ W : World, (Instr.slice 23 (.slice (some ⟨b2, o2, none⟩) ni c2) (some (.int .i64 (en : Int))) (some (.int .i64 ((en : Int) + (nl : Int)))) none).run Tryd.prog W = .ok (.slice (cutA (some ⟨b2, o2, none⟩) c2 en) nl (c2 - en)) W := fun W => by
          rw [run_slice_lh _ _ _ _ _ byte_elem .i64 .i64 (en : Int) ((en : Int) + (nl : Int)) (by omega) (by omega) (by omega), run_byteSize]
          have h1 : ((en : Int) + (nl : Int)).toNat = en + nl := by omega
          simp [Result.andThen, sliced, cutA, h1]
        have sl2 : ∀ W : World, (Instr.sliceAt 23 (.slice (some ⟨b2, o2, none⟩) ni c2) (some (.int .i64 (en : Int))) (some (.int .i64 ((en : Int) + (nl : Int)))) none).run Tryd.prog W = .ok (.slice (cutA (some ⟨b2, o2, none⟩) c2 en) nl (c2 - en)) W := fun W => by
          rw [run_sliceAt_slice _ _ _ _ _ _ byte_elem]; exact sl W
        generalize cutA (some ⟨b2, o2, none⟩) c2 en = CA at *
        have c32 := HCD.out (en + 32) (by omega)
        have i32 : (en : Int) + 32 < (ni : Int) := by omega
        have p32 : 0 ≤ (en : Int) + 32 := by omega
        have t32 : ((en : Int) + 32).toNat = en + 32 := by omega
        have w32 : IntKind.i64.wrap ((en : Int) + 32) = (en : Int) + 32 := by rw [IntKind.wrap_i64]; omega
        have b32l := bt_lt im (en + 32)
        have c33 := HCD.out (en + 33) (by omega)
        have i33 : (en : Int) + 33 < (ni : Int) := by omega
        have p33 : 0 ≤ (en : Int) + 33 := by omega
        have t33 : ((en : Int) + 33).toNat = en + 33 := by omega
        have w33 : IntKind.i64.wrap ((en : Int) + 33) = (en : Int) + 33 := by rw [IntKind.wrap_i64]; omega
        have b33l := bt_lt im (en + 33)
        have c36 := HCD.out (en + 36) (by omega)
        have i36 : (en : Int) + 36 < (ni : Int) := by omega
        have p36 : 0 ≤ (en : Int) + 36 := by omega
        have t36 : ((en : Int) + 36).toNat = en + 36 := by omega
        have w36 : IntKind.i64.wrap ((en : Int) + 36) = (en : Int) + 36 := by rw [IntKind.wrap_i64]; omega
        have b36l := bt_lt im (en + 36)
        have c37 := HCD.out (en + 37) (by omega)
        have i37 : (en : Int) + 37 < (ni : Int) := by omega
        have p37 : 0 ≤ (en : Int) + 37 := by omega
        have t37 : ((en : Int) + 37).toNat = en + 37 := by omega
        have w37 : IntKind.i64.wrap ((en : Int) + 37) = (en : Int) + 37 := by rw [IntKind.wrap_i64]; omega
        have b37l := bt_lt im (en + 37)
        generalize bt im (en + 32) = x32 at *
        generalize bt im (en + 33) = x33 at *
        generalize bt im (en + 36) = x36 at *
        generalize bt im (en + 37) = x37 at *
        have y32 : IntKind.i64.wrap (x32 : Int) = (x32 : Int) := by rw [IntKind.wrap_i64]; omega
        have y33 : IntKind.i64.wrap (x33 : Int) = (x33 : Int) := by rw [IntKind.wrap_i64]; omega
        have y36 : IntKind.i64.wrap (x36 : Int) = (x36 : Int) := by rw [IntKind.wrap_i64]; omega
        have y37 : IntKind.i64.wrap (x37 : Int) = (x37 : Int) := by rw [IntKind.wrap_i64]; omega
        have m33 : IntKind.i64.wrap (256 * (x33 : Int)) = 256 * (x33 : Int) := by rw [IntKind.wrap_i64]; omega
        have m37 : IntKind.i64.wrap (256 * (x37 : Int)) = 256 * (x37 : Int) := by rw [IntKind.wrap_i64]; omega
        have s1 : IntKind.i64.wrap ((x32 : Int) + 256 * (x33 : Int)) = (a : Int) := by rw [IntKind.wrap_i64]; omega
        have s2 : IntKind.i64.wrap ((x36 : Int) + 256 * (x37 : Int)) = (dn : Int) := by rw [IntKind.wrap_i64]; omega
        clear hn1 hn2 b32l b33l b36l b37l
        refine wp_region_still_lit (by kernel_rfl) (by kernel_rfl) ?_
        repeat still_step
        refine wpStill_nil ?_
        change Exit.then _ _ Exit.normal _ wq.drew
        clear p32 p33 p36 p37 s1 s2 c32 c33 c36 c37 sl sl2 hs3 i32 i33 i36 i37 t32 t33 t36 t37 w32 w33 w36 w37 y32 y33 y36 y37 m33 m37 wn hsz
        have HWQ := Lib.hid HWD.out.drew
        clear HWD HYD z0d HCD
        generalize wq.drew = we at *
        go_wp2
        go_roundw
        case rel => exact ⟨i + 1, by go_num, by rw [HX1.out]; go_num, by omega, HWQ⟩
        case measure => simp [intOf]; omega
    · obtain rfl : i = ms.length := by omega
      have hl := HLY.out.last
      rw [hnn] at hl
      rw [hl] at u1 u2 u3
      have hgp := HGP.out
      rw [hl] at hgp
      have HGE := Lib.hid hgp
      clear hgp u4 HGP
      generalize P ms.length = pe at *
      have HWB := Lib.hid (bel_next8 HB2.out HW.out)
      go_wp2_with fail
      go_loop [6] (fun v6 => ∃ a : Nat, v6 = .int .i64 a ∧ pe ≤ a ∧ a ≤ ni) (fun v6 => ni - (intOf v6).toNat)
      case atStart => exact ⟨pe, rfl, Nat.le_refl _, u1⟩
      case round =>
        obtain ⟨a, rfl, ha1, ha2⟩ := hrel
        by_cases hma : a % 64 = 0
        case neg =>
          have hao : a < ni := by omega
          have fa : ((a : Int) % 64 != 0) = true := bne_iff_ne.2 (by omega)
          have fg : decide ((ni : Int) ≤ (a : Int)) = false := by simp; omega
          have fgn : decide (ni ≤ a) = false := by simp; omega
          have hc := HCB.out a (by omega)
          rw [HGE.out a ha1 hao] at hc
          have han : (a : Int) < (ni : Int) := by omega
          go_wp2
          go_round
          case rel => exact ⟨a + 1, by go_num, by omega, by omega⟩
          case measure => simp [intOf]; omega
        obtain rfl : a = ni := by omega
        have fa : ((a : Int) % 64 != 0) = false := by simp; omega
        have HAWR := Lib.hid (HAW.out wr)
        go_wp2_with fail
        go_fit HAWR.out
        rintro e w9 ⟨rfl, hb9⟩
        have HN := Lib.hid (bel_next8 HWB.out hb9)
        clear hb9
        go_wp2
        go_ret
        exact ⟨rfl, HN.out⟩
end Go.Proofs.YtcenonnccodfoaaDoor


namespace Go.Proofs.YtcenonnccodfoaaDoor
open Go.RowKit

/-- The world behind the conversion of a string into bytes. -/
def convW (W : World) (l : List UInt8) : World := Lib.bytesWorld W 5 ⟨l.toArray⟩
def convC (W : World) (l : List UInt8) : Nat := grownCap W l.length 0 5
theorem run_conv (W : World) (l : List UInt8) : (convert 9 23 (.string ⟨l.toArray⟩)).run Tryd.prog W = .ok (.slice (some ⟨W.heap.size, 0, none⟩) l.length (convC W l)) (convW W l) := by
  have h := Lib.run_convert_string_bytes (P := Tryd.prog) W 9 23 5 ⟨l.toArray⟩ (u := .string) Tryd.underlying9 Tryd.underlying23 Tryd.underlying5
  rw [ba_size] at h
  exact h
theorem conv_size (W : World) (l : List UInt8) : (convW W l).heap.size = W.heap.size + 1 := Lib.bytesWorld_size _ _ _
theorem conv_below (W : World) (l : List UInt8) : Below W.heap.size W (convW W l) :=
  ⟨by simp [convW, Lib.bytesWorld, World.freeze, World.alloc, World.drew, -World.alloc_eq, -World.drew_eq], by simp [convW, Lib.bytesWorld, World.freeze, World.alloc, World.drew, -World.alloc_eq, -World.drew_eq], by simp [convW, Lib.bytesWorld, World.freeze, World.alloc, World.drew, -World.alloc_eq, -World.drew_eq], by rw [conv_size]; omega, fun k hk => Lib.bytesWorld_at_old _ _ _ _ hk⟩
theorem conv_cells (W : World) (l : List UInt8) : (Lib.bytesCells W 5 ⟨l.toArray⟩) = (vals (l ++ zerosL (convC W l - l.length))).toArray ∧ l.length ≤ convC W l := by
  have hge := grownCap_ge W l.length 0 5
  refine ⟨?_, hge⟩
  unfold Lib.bytesCells convC
  rw [ba_size, vals_append]
  apply Array.ext'
  simp only [Array.toList_append, Array.toList_map, Array.toList_replicate]
  congr 1
  unfold vals zerosL
  rw [List.map_replicate]; rfl
theorem conv_block (W : World) (l : List UInt8) : (convW W l).heap[W.heap.size]? = some (.cells (vals (l ++ zerosL (convC W l - l.length))).toArray 5 (convC W l, convC W l + 1)) := by
  have h := Lib.bytesWorld_at_new W 5 ⟨l.toArray⟩
  obtain ⟨h1, h2⟩ := conv_cells W l
  rw [h1] at h
  have hs : (vals (l ++ zerosL (convC W l - l.length))).toArray.size = convC W l := by
    rw [List.size_toArray, length_vals, List.length_append, length_zeros]; omega
  rw [hs] at h
  exact h
theorem Own.lower {w : World} {b b' : Nat} {v : Value} {l : List UInt8} (h : Own w b' v l) (hb : b ≤ b') : Own w b v l := by
  refine ⟨h.1, ?_⟩
  rcases h.2 with h1 | ⟨g, cp, cur, hv, hb2, rest⟩
  · exact .inl h1
  · exact .inr ⟨g, cp, cur, hv, by omega, rest⟩
theorem Grow.lower {w wr w' : World} {v t : Value} {l k : List UInt8} (h : Grow w wr v l) (h2 : Grow wr w' t k) : Grow w w' t k := ⟨h2.1.lower h.2.size, bel_next8 h.2 h2.2⟩
theorem Grow.put8 {w wr : World} {A : Option Addr} {n c : Nat} {l : List UInt8} (h : Grow w wr (.slice A n c) l) (v k : Nat) (hn : n ≤ 4294967296) (hk : k ≤ 8) :
    Calls Tryd.prog 31 #[.slice A n c, .int .u64 (v : Int), .int .i64 (k : Int)] wr fun e w' => ∃ A' c', e = .returned (.slice A' (n + k) c') ∧ Grow w w' (.slice A' (n + k) c') (l ++ leB v k) ∧ Below wr.heap.size wr w' := by
  obtain ⟨A0, c0, e, hc, hb⟩ := h.form
  injection e with e1 e2 e3
  subst e1
  subst e2
  refine (put_any A l.length c wr.heap.size v k l wr hb hn hk).mono fun e w' h' => ?_
  obtain ⟨t, rfl, hg⟩ := h'
  have hg2 := h.lower hg
  obtain ⟨A', c', e, _, _⟩ := hg2.form
  rw [List.length_append, length_leB] at e
  subst e
  exact ⟨A', c', rfl, hg2, hg.2⟩
theorem bel_setCells (g : Nat) : ∀ (vs : List Value) (o : Nat) (W : World), Below g W (W.setCells g o vs)
  | [], _, W => Below.refl _ W
  | v :: r, o, W => ((Below.refl g W).setCell (p := ⟨g, o, none⟩) (Nat.le_refl g) v).trans (bel_setCells g r (o + 1) _)
theorem Grow.next {w wr w' : World} {v : Value} {l : List UInt8} (h : Grow w wr v l) (hb : Below wr.heap.size wr w') : Grow w w' v l := ⟨h.1.gbT (row := none) (gbN hb) (fun g e => by cases e), bel_next8 h.2 hb⟩
def byEnc (x : UInt8) : List Value := [.int .u8 (x.toNat : Int)]
theorem byEnc_len (x : UInt8) : (byEnc x).length = 1 := rfl
theorem byEnc_one (x : UInt8) : ∀ u ∈ byEnc x, u.oneCell' = true := by
  intro u hu
  simp [byEnc] at hu
  subst hu; rfl
theorem byEnc_vals (l : List UInt8) : gcells byEnc l = vals l := by
  unfold gcells vals
  induction l with
  | nil => rfl
  | cons x r ih => rw [List.flatMap_cons, ih]; rfl
theorem elt_byte : Elt 23 5 1 1 := Elt.of (.int .u8 0) Tryd.underlying23 (by kernel_rfl) rfl (by decide)
theorem Own.toG {w : World} {base : Nat} {v : Value} {l : List UInt8} : Own w base v l ↔ OwnG byEnc 5 1 w base v l := by
  unfold Own OwnG
  rw [byEnc_vals]
theorem Byt.toG {w : World} {B n : Nat} {A : Option Addr} {l : List UInt8} (h : Byt w B A n l) : GRow byEnc 1 w B A l := fun h0 => by
  obtain ⟨b, off, e, hb, hc⟩ := h.2 (by rw [← h.1]; exact h0)
  refine ⟨b, off, e, hb, fun i hi j u hu => ?_⟩
  have hj : j = 0 := by
    rcases Nat.eq_zero_or_pos j with h1 | h1
    · exact h1
    · rw [List.getElem?_eq_none (by rw [byEnc_len]; omega)] at hu; cases hu
  subst hj
  have h2 := hc i (by rw [← h.1]; exact hi)
  rw [Nat.mul_one, Nat.add_zero, h2]
  unfold byV bt
  rw [List.getD_eq_getElem?_getD, List.getElem?_eq_getElem hi]
  exact hu
/-- The append, with what it leaves asx it was. -/
theorem Own.appG {W : World} {base : Nat} {v : Value} {l : List UInt8} (h : Own W base v l) {B m : Nat} {A : Option Addr} (c : Nat) {l2 : List UInt8} (hs : Byt W B A m l2) (hbase : base ≤ W.heap.size) (hl : l.length + m ≤ 100000000) :
    ∃ v' w', (Builtin.append_ #[23, 23] 23 #[v, .slice A m c]).run Tryd.prog W = .ok v' w' ∧ Own w' base v' (l ++ l2) ∧ W.grownBy w' v.ownBlock := by
  obtain ⟨v', w', hrun, hown, hg, _⟩ := OwnG.app elt_byte byEnc_len byEnc_one (Own.toG.1 h) c hs.toG hbase (by rw [hs.1]; unfold maxLen; omega) (by rw [hs.1]; omega)
  rw [hs.1] at hrun
  exact ⟨v', w', hrun, Own.toG.2 hown, hg⟩
theorem Grow.appG {w wr : World} {v : Value} {l : List UInt8} (h : Grow w wr v l) {B m : Nat} {A : Option Addr} (c : Nat) {l2 : List UInt8} (hs : Byt wr B A m l2) (hl : l.length + m ≤ 100000000) :
    ∃ v' w', (Builtin.append_ #[23, 23] 23 #[v, .slice A m c]).run Tryd.prog wr = .ok v' w' ∧ Grow w w' v' (l ++ l2) ∧ wr.grownBy w' v.ownBlock := by
  obtain ⟨v', w', hr, ho, hg⟩ := h.1.appG c hs h.2.size hl
  exact ⟨v', w', hr, ⟨ho, h.2.grown hg h.2.size (fun g e => ((Own.toG.1 h.1).lt g e).1)⟩, hg⟩
theorem wpList_app2 {S S2 : TypeId} {ops : Array Oper} {rest : List Oper} {o : Oper} {a : Act} {Q : Exit → Act → World → Prop} {v y v' : Value} {W w' : World}
    (hrun : (Builtin.append_ #[S, S2] S #[v, y]).run Tryd.prog W = .ok v' w') (hgd : o.guard = none) {s x : Operand}
    (ho : o.op = .call { callee := .builtin .append, args := #[s, x], argTypes := #[S, S2] }) (hty : o.type = S) (hs : a.eval s = v) (hx : a.eval x = y)
    (h : wpList Tryd.prog ops Q rest (a.put o.dst v') w') : wpList Tryd.prog ops Q (o :: rest) a W := by
  refine wpList_plain hgd fun K hK => ?_
  unfold Oper.wp execOp
  simp only [ho, hty, resolve, invoke, builtin, Sem.run_bind, Sem.run_pure, Result.andThen_ok, List.map_toArray, List.map_cons, List.map_nil, hs, hx, hrun]
  exact hK _ _ h
set_option maxRecDepth 20000 in
/-- The zeros behind a string's bytes. -/
theorem conv_zeros (W : World) (l : List UInt8) (n : Nat) (hl : l.length + n ≤ 1000) :
    ∃ v' w', (Builtin.append_ #[23, 3] 23 #[.slice (some ⟨W.heap.size, 0, none⟩) l.length (convC W l), .int .i64 (n : Int)]).run Tryd.prog (convW W l) = .ok v' w' ∧ ∃ A c, v' = .slice A (l.length + n) c ∧ Byt w' w'.heap.size A (l.length + n) (l ++ zerosL n) ∧ Below W.heap.size W w' := by
  obtain ⟨i, hi, hz0, hz1, hz2⟩ := info_parts byte_info
  have ht := Tryd.underlying23
  have hlz := length_zeros n
  have hw : IntKind.i64.wrap (n : Int) = n := by rw [IntKind.wrap_i64]; omega
  have hneg : ¬ ((n : Int) < 0) := by omega
  have h48 : ¬ (281474976710656 < (n : Int)) := by omega
  have hblk := conv_block W l
  have hge := (conv_cells W l).2
  have hbw := conv_below W l
  have hsz := conv_size W l
  have hcell : ∀ j, (convW W l).cell? ⟨W.heap.size, j, none⟩ = (vals (l ++ zerosL (convC W l - l.length)))[j]? := fun j => by simp [World.cell?, hblk]
  have hfro : ∀ j, j < convC W l → (convW W l).frozen? ⟨W.heap.size, j, none⟩ = false := fun j hj => by
    simp [World.frozen?, hblk]; omega
  have hlen : (vals (l ++ zerosL (convC W l - l.length))).length = convC W l := by rw [length_vals, List.length_append, length_zeros]; omega
  have hlv : ∀ j, j < l.length → (convW W l).cell? ⟨W.heap.size, j, none⟩ = some (.int .u8 (bt l j : Int)) := fun j hj => by
    rw [hcell]
    unfold vals bt
    rw [List.getElem?_map, List.getElem?_append_left hj, List.getElem?_eq_getElem hj, List.getD_eq_getElem?_getD, List.getElem?_eq_getElem hj]; rfl
  have hsome : ∀ j, j < convC W l → ((convW W l).cell? ⟨W.heap.size, j, none⟩).isSome = true := fun j hj => by
    rw [hcell, List.getElem?_eq_getElem (by omega)]; rfl
  clear hcell hlen hblk
  generalize convC W l = cap at *
  generalize convW W l = V at *
  generalize hG : W.heap.size = g at *
  have hvl : (vals (zerosL n)).length = n := by rw [length_vals, hlz]
  have e1 : (l ++ zerosL n).length = l.length + n := by rw [List.length_append, hlz]
  have hbtl : ∀ j, j < l.length → bt (l ++ zerosL n) j = bt l j := fun j hj => by
    unfold bt
    rw [List.getD_eq_getElem?_getD, List.getElem?_append_left hj, List.getD_eq_getElem?_getD]
  have hbtz : ∀ j, l.length ≤ j → bt (l ++ zerosL n) j = 0 := fun j hj => by
    unfold bt zerosL
    rw [List.getD_eq_getElem?_getD, List.getElem?_append_right hj, List.getElem?_replicate]
    split <;> rfl
  by_cases hroom : l.length + n ≤ cap
  · have hst := run_storeCells_cells (P := Tryd.prog) g l.length (vals (zerosL n)) 0 V (fun j hj => hsome _ (by omega)) (fun j hj => hfro _ (by omega)) (vals_one _)
    rw [Nat.add_zero] at hst
    have hin := World.cell?_setCells_in g (vals (zerosL n)) l.length V (fun j hj => hsome _ (by omega))
    have hout := World.cell?_setCells_out g (vals (zerosL n)) l.length V
    have hbel : Below g V (V.setCells g l.length (vals (zerosL n))) := bel_setCells g (vals (zerosL n)) l.length V
    have hsz2 := hbel.size
    refine ⟨.slice (some ⟨g, 0, none⟩) (l.length + n) cap, V.setCells g l.length (vals (zerosL n)), ?_, _, _, rfl, ⟨e1, fun _ => ⟨g, 0, rfl, by omega, fun j hj => ?_⟩⟩, hbw.trans hbel⟩
    · by_cases hn : n = 0
      · subst hn
        have hw0 : IntKind.i64.wrap 0 = 0 := by decide
        simp [Builtin.append_, run_underlying ht, run_underlying und_int, sizeOf, typeInfo, hi, asInt, asIntOf, hw0, hge, storeCells]
        rfl
      · simp [Builtin.append_, run_underlying ht, run_underlying und_int, sizeOf, typeInfo, zeroValue, hi, hz0, hz1, hz2, asInt, asIntOf, hw, hneg, hn, h48, hroom, zero_cells2, Addr.add_lit, hst]
    · rw [Nat.zero_add]
      unfold byV
      rcases Nat.lt_or_ge j l.length with h1 | h1
      · rw [hout ⟨g, j, none⟩ (fun _ _ => .inl h1), hlv j h1, hbtl j h1]
      · have h2 := hin (j - l.length) (by omega)
        rw [show l.length + (j - l.length) = j by omega] at h2
        rw [h2, hbtz j h1]
        unfold vals zerosL
        simp
  · have hnn : ¬ (l.length + n ≤ cap) := hroom
    have hn : n ≠ 0 := by omega
    have h63' : ¬ (9223372036854775807 < ((l.length : Int) + (n : Int))) := by omega
    have hfits : Builtin.nextslicecap (l.length + n) cap * 1 ≤ 281474976710656 := growslice_fits (by omega) (by omega)
    have h48' : ¬ (281474976710656 < Builtin.nextslicecap (l.length + n) cap) := by omega
    have hfo := run_firstCells_some (P := Tryd.prog) V.drew 1 l.length ⟨g, 0, none⟩ l.length cap (vals l) (by rw [length_vals, Nat.mul_one]) (fun j v hv => by
      have hj : j < l.length := by
        rcases Nat.lt_or_ge j l.length with h1 | h1
        · exact h1
        · rw [List.getElem?_eq_none (by rw [length_vals]; exact h1)] at hv; cases hv
      have e : (⟨g, 0, none⟩ : Addr).add j = ⟨g, j, none⟩ := by unfold Addr.add; split <;> simp_all
      rw [e]
      show V.cell? ⟨g, j, none⟩ = some v
      rw [hlv j hj, ← hv]
      unfold vals bt
      rw [List.getElem?_map, List.getElem?_eq_getElem hj, List.getD_eq_getElem?_getD, List.getElem?_eq_getElem hj]; rfl)
    refine ⟨_, V.drew.alloc (.cells ((vals l).toArray ++ (vals (zerosL n)).toArray ++ Builtin.zeroCells #[Value.int .u8 0] (grownCap V (l.length + n) cap 5 - (l.length + n))) 5), ?_, some ⟨V.heap.size, 0, none⟩, grownCap V (l.length + n) cap 5, rfl, ?_, ?_⟩
    · simp [Builtin.append_, run_underlying ht, run_underlying und_int, sizeOf, typeInfo, zeroValue, hi, hz0, hz1, hz2, asInt, asIntOf, hw, hneg, hn, hnn, h63', h48', h48, Question.forced, hfo, newRow, grownCap, zero_cells, zero_cells2]
    · refine ⟨e1, fun _ => ⟨V.heap.size, 0, rfl, by simp, fun j hj => ?_⟩⟩
      rw [Nat.zero_add]
      have hnew := heap_alloc_new V.drew (.cells ((vals l).toArray ++ (vals (zerosL n)).toArray ++ Builtin.zeroCells #[Value.int .u8 0] (grownCap V (l.length + n) cap 5 - (l.length + n))) 5)
      have hc : (V.drew.alloc (.cells ((vals l).toArray ++ (vals (zerosL n)).toArray ++ Builtin.zeroCells #[Value.int .u8 0] (grownCap V (l.length + n) cap 5 - (l.length + n))) 5)).cell? ⟨V.heap.size, j, none⟩ = (vals (l ++ zerosL n))[j]? := by
        have hnew' : (V.drew.alloc (.cells ((vals l).toArray ++ (vals (zerosL n)).toArray ++ Builtin.zeroCells #[Value.int .u8 0] (grownCap V (l.length + n) cap 5 - (l.length + n))) 5)).heap[V.heap.size]? = _ := hnew
        simp only [World.cell?, hnew']
        rw [vals_append]
        have hjs : j < ((vals l).toArray ++ (vals (zerosL n)).toArray).size := by simp only [Array.size_append, List.size_toArray, length_vals, hlz]; omega
        rw [Array.getElem?_append_left hjs, ← Array.getElem?_toList]
        simp
      rw [hc]
      unfold byV vals bt
      rw [List.getElem?_map, List.getElem?_eq_getElem (by omega), List.getD_eq_getElem?_getD, List.getElem?_eq_getElem (by omega)]; rfl
    · exact hbw.trans ((Below.refl g V).drew.alloc (by show g ≤ V.heap.size; omega) _)
end Go.Proofs.YtcenonnccodfoaaDoor
