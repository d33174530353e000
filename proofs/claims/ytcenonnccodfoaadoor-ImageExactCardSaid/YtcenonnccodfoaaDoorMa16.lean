/-
  The reference's Select: the modules of a width, and those of width 0, in their order.
  Conditions: at most 1000 modules.
  The program's views: the modules that the table of an image names, if all of them lie inside.
  Conditions: 16 to 2^31 bytes.
  The law's few: whether modules are few and small.
  Conditions: none.
-/
import Derived.Test.YtcenonnccodfoaaDoorMa15
namespace Go.Proofs.YtcenonnccodfoaaDoor

open Go.RowKit

def selB (wd : Int) (m : GMod) : Bool := decide (m.width = wd) || decide (m.width = 0)
/-- What is selected so far. -/
structure SelI (w W : World) (v : Value) (ss : List SMod) (ms : List GMod) : Prop where
  own : OwnG SMod.cells 41 5 W w.heap.size v ss
  len : ss.length = ms.length
  each : ∀ i (h1 : i < ss.length) (h2 : i < ms.length), MHold w w.heap.size ss[i] ms[i]
  bel : Below w.heap.size w W
theorem SelI.row {w W : World} {v : Value} {ss : List SMod} {ms : List GMod} (h : SelI w W v ss ms) : ∃ A' c, v = .slice A' ms.length c ∧ MRow W W.heap.size A' ss ms := by
  obtain ⟨A', c, e, _, _, hr⟩ := h.own.row SMod.len
  exact ⟨A', c, by rw [← h.len]; exact e, ⟨hr, h.len, fun i h1 h2 => (h.each i h1 h2).next h.bel⟩⟩
set_option maxRecDepth 20000 in
theorem SelI.app {w W : World} {v : Value} {ss : List SMod} {ms : List GMod} (h : SelI w W v ss ms) {s : SMod} {m : GMod} (hs : MHold w w.heap.size s m) (hl : ms.length ≤ 1000) :
    ∃ v' w', (Builtin.append_ #[22, 22] 22 #[v, .slice (some ⟨W.heap.size, 0, none⟩) 1 1]).run Tryd.prog (W.alloc (objM s)) = .ok v' w' ∧ SelI w w' v' (ss ++ [s]) (ms ++ [m]) := by
  have hlen := h.len
  have hsz := h.bel.size
  obtain ⟨v', w', hrun, hown, hg, _⟩ := OwnG.app elt_mod SMod.len SMod.one (h.own.alloc (objM s)) 1 (lit_mod W s) (by simp; omega) (by unfold maxLen; simp; omega) (by simp; omega)
  refine ⟨v', w', hrun, hown, by simp [h.len], fun i h1 h2 => ?_, (h.bel.alloc hsz _).grown hg (by simp; omega) (fun g e => (h.own.lt g e).1)⟩
  rcases Nat.lt_or_ge i ss.length with hi | hi
  · rw [List.getElem_append_left hi, List.getElem_append_left (by omega)]
    exact h.each i hi (by omega)
  · have e : i = ss.length := by simp at h1; omega
    subst e
    have e2 : ms.length ≤ ss.length := by omega
    rw [List.getElem_append_right (Nat.le_refl _), List.getElem_append_right e2]
    simp
    exact hs
theorem filter_snoc {ms : List GMod} {p : GMod → Bool} {k : Nat} (h : k < ms.length) : (ms.take (k + 1)).filter p = (ms.take k).filter p ++ (if p ms[k] = true then [ms[k]] else []) := by
  rw [List.take_succ_eq_append_getElem h, List.filter_append]
  cases hp : p ms[k] <;> simp [hp]
theorem filter_few {ms : List GMod} {p : GMod → Bool} {k : Nat} : ((ms.take k).filter p).length ≤ ms.length :=
  Nat.le_trans (List.length_filter_le _ _) (by rw [List.length_take]; omega)
set_option maxRecDepth 20000 in
set_option maxHeartbeats 1000000 in
theorem rSelect_any (wd : Int) (ms : List GMod) (ss : List SMod) (A : Option Addr) (c : Nat) (w : World) (hb : MRow w w.heap.size A ss ms) (hn : ms.length ≤ 1000) :
    Calls Tryd.prog 21 #[.slice A ms.length c, .int .i64 wd] w fun e w' => ∃ A', ∃ c' : Nat, ∃ ss', e = .returned (.slice A' (ms.filter (selB wd)).length c') ∧ MRow w' w'.heap.size A' ss' (ms.filter (selB wd)) ∧ Below w.heap.size w w' := by
  have HB := Lib.hid hb
  have hlen := hb.len
  clear hb
  go_enter Tryd.func21, Tryd.ntmps21
  go_wp2
  go_loopw [5, 6] (fun v5 v6 wr => ∃ k : Nat, ∃ so, v6 = .int .i64 k ∧ k ≤ ms.length ∧ Hid (SelI w wr v5 so ((ms.take k).filter (selB wd)))) (fun _ v6 _ => ms.length - (intOf v6).toNat)
  case atStart => exact ⟨0, [], rfl, Nat.zero_le _, Lib.hid ⟨OwnG.nil _ _, rfl, fun i h => by simp at h, Below.refl _ _⟩⟩
  case round =>
    obtain ⟨k, so, rfl, hk, HS⟩ := hrel
    obtain ⟨Ao, co, rfl, hro⟩ := HS.out.row
    rcases Nat.lt_or_ge k ms.length with hlt | hge
    · have hls : k < ss.length := by omega
      obtain ⟨b1, o1, rfl, hb1, z0, z1, z2, z3, z4⟩ := (HB.out.row.below (Nat.le_refl _) HS.out.bel).mod5 hls
      have hold := HB.out.each k hls hlt
      have HFS := Lib.hid (filter_snoc (p := selB wd) hlt)
      have hw1 := hold.width
      have HWY : Hid (ss[k].width = ms[k].width) := Lib.hid hw1
      obtain ⟨v9, w9, hrun9, hse9⟩ := HS.out.app hold (Nat.le_trans filter_few hn)
      have HR9 := Lib.hid hrun9
      have HSA := Lib.hid hse9
      have hyes : selB wd ms[k] = true → Hid (SelI w w9 v9 (so ++ [ss[k]]) ((ms.take (k + 1)).filter (selB wd))) := fun h => Lib.hid (by rw [HFS.out, if_pos h]; exact HSA.out)
      have hno : ¬ selB wd ms[k] = true → Hid (SelI w wr (.slice Ao ((ms.take k).filter (selB wd)).length co) so ((ms.take (k + 1)).filter (selB wd))) := fun h => Lib.hid (by rw [HFS.out, if_neg h, List.append_nil]; exact HS.out)
      have HY := Lib.hid hyes
      have HNO := Lib.hid hno
      clear hyes hno hrun9 hse9 hold hw1 hro
      by_cases hq : ss[k].width = wd
      · have f1 : (ss[k].width == wd) = true := by simp [hq]
        have HN := HY.out (by simp [selB, ← HWY.out, hq])
        generalize ss[k] = y at *
        clear hq
        go_wp2_with (at_builtin; refine wpList_gapp HR9.out rfl rfl rfl rfl rfl ?_)
        go_roundw
        case rel => exact ⟨k + 1, _, by go_num, by omega, HN⟩
        case measure => simp [intOf]; omega
      · have f1 : (ss[k].width == wd) = false := by simp [hq]
        by_cases hv : ss[k].width = 0
        · have f2 : (ss[k].width == 0) = true := by simp [hv]
          have HN := HY.out (by simp [selB, ← HWY.out, hv])
          generalize ss[k] = y at *
          clear hq hv
          go_wp2_with (at_builtin; refine wpList_gapp HR9.out rfl rfl rfl rfl rfl ?_)
          go_roundw
          case rel => exact ⟨k + 1, _, by go_num, by omega, HN⟩
          case measure => simp [intOf]; omega
        · have f2 : (ss[k].width == 0) = false := by simp [hv]
          have HN := HNO.out (by simp [selB, ← HWY.out, hq, hv])
          generalize ss[k] = y at *
          clear hq hv
          go_wp2
          go_roundw
          case rel => exact ⟨k + 1, _, by go_num, by omega, HN⟩
          case measure => simp [intOf]; omega
    · have HEND : Hid (∃ A', ∃ c' : Nat, ∃ ss', Ending.returned (.slice Ao ((ms.take k).filter (selB wd)).length co) = .returned (.slice A' (ms.filter (selB wd)).length c') ∧ MRow wr wr.heap.size A' ss' (ms.filter (selB wd)) ∧ Below w.heap.size w wr) := Lib.hid (by
        rw [List.take_of_length_le hge] at hro ⊢
        exact ⟨Ao, co, so, rfl, hro, HS.out.bel⟩)
      clear hro
      go_wp2
      go_ret
      exact HEND.out
end Go.Proofs.YtcenonnccodfoaaDoor


namespace Go.Proofs.YtcenonnccodfoaaDoor

open Go.RowKit

theorem SelI.below {w W W' : World} {v : Value} {ss : List SMod} {ms : List GMod} (h : SelI w W v ss ms) (hb : Below W.heap.size W W') : SelI w W' v ss ms :=
  ⟨h.own.keep fun g hg => hb.block g (h.own.lt g hg).2, h.len, h.each, bel_next8 h.bel hb⟩
set_option maxRecDepth 20000 in
theorem SelI.app2 {w W : World} {v : Value} {ss : List SMod} {ms : List GMod} (h : SelI w W v ss ms) {s : SMod} {m : GMod} (hs : MHold w w.heap.size s m) (hl : ms.length ≤ 100000) :
    ∃ v' w', (Builtin.append_ #[22, 22] 22 #[v, .slice (some ⟨W.heap.size, 0, none⟩) 1 1]).run Tryd.prog (W.alloc (objM s)) = .ok v' w' ∧ SelI w w' v' (ss ++ [s]) (ms ++ [m]) := by
  have hlen := h.len
  have hsz := h.bel.size
  obtain ⟨v', w', hrun, hown, hg, _⟩ := OwnG.app elt_mod SMod.len SMod.one (h.own.alloc (objM s)) 1 (lit_mod W s) (by simp; omega) (by unfold maxLen; simp; omega) (by simp; omega)
  refine ⟨v', w', hrun, hown, by simp [h.len], fun i h1 h2 => ?_, (h.bel.alloc hsz _).grown hg (by simp; omega) (fun g e => (h.own.lt g e).1)⟩
  rcases Nat.lt_or_ge i ss.length with hi | hi
  · rw [List.getElem_append_left hi, List.getElem_append_left (by omega)]
    exact h.each i hi (by omega)
  · have e : i = ss.length := by simp at h1; omega
    subst e
    have e2 : ms.length ≤ ss.length := by omega
    rw [List.getElem_append_right (Nat.le_refl _), List.getElem_append_right e2]
    simp
    exact hs
def ViewsEnd (b : List UInt8) (w : World) (en : Ending) (w' : World) : Prop :=
  Below w.heap.size w w' ∧ ((viewsL b = none ∧ en = .returned (.tuple #[.slice none 0 0, .bool false])) ∨ (∃ v so l, viewsL b = some l ∧ en = .returned (.tuple #[v, .bool true]) ∧ SelI w w' v so l))
theorem viewsL_fail {b : List UInt8} {k : Nat} (h : foldV (viewAt b) k = none) (hk : k ≤ leUp b 6 2) : viewsL b = none := by
  unfold viewsL
  split
  · rfl
  · exact foldV_none _ h _ hk
set_option maxRecDepth 50000 in
set_option maxHeartbeats 1000000 in
theorem views_any (A : Option Addr) (n c : Nat) (b : List UInt8) (w : World) (hb : Byt w w.heap.size A n b) (hc : n ≤ c) (h16 : 16 ≤ n) (hn : n ≤ 2147483648) :
    Calls Tryd.prog 34 #[.slice A n c] w (ViewsEnd b w) := by
  have hln := hb.1
  have HB := Lib.hid hb
  have HD : Hid (viewsL b = if b.length < 16 + 48 * leUp b 6 2 then none else foldV (viewAt b) (leUp b 6 2)) := Lib.hid rfl
  have HF := Lib.hid fun k (h : foldV (viewAt b) k = none) (hk : k ≤ leUp b 6 2) => viewsL_fail h hk
  rw [hln] at HD
  clear hb
  go_enter Tryd.func34, Tryd.ntmps34
  go_wp2_with fail
  go_fit (headF_any w)
  rintro e w1 ⟨rfl, hf1, hb1⟩
  have HRF : Hid (Calls Tryd.prog 48 #[.slice A n c, .slice (some ⟨w.heap.size, 0, none⟩) 4 4] w1 fun e w' => ∃ r, e = .returned (.slice (some ⟨r, 0, none⟩) 4 4) ∧ NumsAt w' r (rdF b headF) ∧ w1.heap.size ≤ r ∧ Below w1.heap.size w1 w') := Lib.hid (readFields_any A n c w.heap.size b w.heap.size headF w1 (HB.out.below hb1) hb1.size hc (by omega) hf1 (by decide) (headF_ok (by omega)))
  have HB1 := Lib.hid hb1
  clear hb1 hf1
  go_wp2_with fail
  go_fit HRF.out
  rintro e w2 ⟨r, rfl, hnm, hrg, hb2⟩
  rw [show rdF b headF = [leUp b 4 2, leUp b 6 2, leUp b 8 4, leUp b 12 4] from rfl] at hnm
  have HBW := Lib.hid (bel_next8 HB1.out hb2)
  have v1 := NumsAt.cell hnm (k := 1) (by simp)
  have hrw2 := RowT.lt hnm
  simp only [List.getElem_cons_zero, List.getElem_cons_succ] at v1
  have q0 := leUp_lt b 6 2
  clear hnm HRF hb2 HB1
  generalize leUp b 6 2 = cnt at *
  have hcnt : cnt < 65536 := by simpa using q0
  clear q0
  have c1 : IntKind.i64.wrap (cnt : Int) = (cnt : Int) := by rw [IntKind.wrap_i64]; omega
  have HEA := Lib.hid fun i W (hi : i ≤ 65536) => entryAt_any i W (by omega)
  have HEC := Lib.hid (HEA.out cnt w2 (by omega))
  go_wp2_with fail
  go_fit HEC.out
  rintro e w3 ⟨rfl, rfl⟩
  clear HEC v1
  obtain ⟨E, hE⟩ : ∃ E, E = 16 + 48 * cnt := ⟨_, rfl⟩
  rw [← hE] at HD
  rw [← hE]
  by_cases hov : n < E
  case pos =>
    have HR : Hid (viewsL b = none) := Lib.hid (by rw [HD.out, if_pos hov])
    have g1 : decide ((n : Int) < (E : Int)) = true := by simp; omega
    have g2 : decide (n < E) = true := by simp; omega
    clear hov hE
    go_wp2
    go_ret2
    exact ⟨HBW.out, .inl ⟨HR.out, rfl⟩⟩
  have g1 : decide ((n : Int) < (E : Int)) = false := by simp; omega
  have g2 : decide (n < E) = false := by simp; omega
  rw [if_neg hov] at HD
  have hEn : 16 + 48 * cnt ≤ n := by omega
  clear hov hE
  go_wp2_with fail
  clear g1 g2
  go_loopw [5, 21] (fun v5 v21 wr => ∃ k : Nat, ∃ so l, v21 = .int .i64 k ∧ k ≤ cnt ∧ Hid (foldV (viewAt b) k = some l ∧ SelI w wr v5 so l)) (fun _ v21 _ => cnt - (intOf v21).toNat)
  case atStart => exact ⟨0, [], [], rfl, Nat.zero_le _, Lib.hid ⟨rfl, OwnG.nil _ _, rfl, fun i h => by simp at h, HBW.out⟩⟩
  case round =>
    obtain ⟨k, so, l, rfl, hk, HS⟩ := hrel
    have hll := foldV_len _ _ _ HS.out.1
    obtain ⟨Ao, co, rfl, hro⟩ := HS.out.2.row
    rcases Nat.lt_or_ge k cnt with hlt | hge
    · have HEC := Lib.hid (HEA.out k wr (by omega))
      have hcut : ∀ W : World, (Instr.slice 23 (.slice A n c) (some (.int .i64 ((16 + 48 * k : Nat) : Int))) none none).run Tryd.prog W = .ok (.slice (cutA A c (16 + 48 * k)) (n - (16 + 48 * k)) (c - (16 + 48 * k))) W := fun W => by
        have h := cut_from A n c (16 + 48 * k) (by omega) W
        rw [run_sliceAt_slice _ _ _ _ _ _ byte_elem] at h
        exact h
      have hcut2 : ∀ W : World, (Instr.sliceAt 23 (.slice A n c) (some (.int .i64 ((16 + 48 * k : Nat) : Int))) none none).run Tryd.prog W = .ok (.slice (cutA A c (16 + 48 * k)) (n - (16 + 48 * k)) (c - (16 + 48 * k))) W := fun W => cut_from A n c (16 + 48 * k) (by omega) W
      have HVC : Hid (Calls Tryd.prog 49 #[.slice A n c, .slice (cutA A c (16 + 48 * k)) (n - (16 + 48 * k)) (c - (16 + 48 * k))] wr (ViewEnd b (b.drop (16 + 48 * k)) w w.heap.size wr)) := Lib.hid (by
        have h := ((HB.out.below HS.out.2.bel).wide HS.out.2.bel.size).cut (cap := c) (j := 16 + 48 * k) (k := n) (by omega) (Nat.le_refl _) hc
        rw [List.take_of_length_le (by omega)] at h
        exact view_any A _ n c _ _ b _ w w.heap.size wr HB.out hc hn h (by omega) (by omega) (by omega))
      generalize hq : 16 + 48 * k = q at *
      go_wp2_with fail
      go_fit HEC.out
      rintro e w4 ⟨rfl, rfl⟩
      clear HEC
      go_wp2_with fail
      go_fit HVC.out
      rintro e w5 ⟨hb5, hve⟩
      have hS5 := HS.out.2.below hb5
      have HW5 := Lib.hid (bel_next8 HS.out.2.bel hb5)
      rcases hve with ⟨hnone, rfl⟩ | ⟨s, m, hsome, rfl, hmh⟩
      · have HR : Hid (viewsL b = none) := Lib.hid (HF.out (k + 1) (foldV_fail (by rw [viewAt, hq]; exact hnone)) (by omega))
        clear hb5 hS5 HVC hcut hcut2 hro hnone
        have HWL := Lib.hid (bel_lit8 HW5.out (objM ⟨[], 0, 0, 0, none, 0, 0⟩))
        unfold SMod.val
        go_wp2
        go_ret2
        exact ⟨HWL.out, .inl ⟨HR.out, rfl⟩⟩
      · have HFS := Lib.hid (foldV_some HS.out.1 (m := m) (by rw [viewAt, hq]; exact hsome))
        obtain ⟨v9, w9, hrun9, hse9⟩ := (hS5.below (bel_lit8 (Below.refl _ w5) (objM s))).app2 hmh (by omega)
        have hs5 : (w5.alloc (objM s)).heap.size = w5.heap.size + 1 := by simp
        rw [hs5, hll] at hrun9
        clear hs5
        have HR9 := Lib.hid hrun9
        have HSA := Lib.hid hse9
        clear hb5 hS5 HVC hcut hcut2 hro hsome hrun9 hse9
        unfold SMod.val
        go_wp2_with (at_builtin; refine wpList_gapp HR9.out rfl rfl rfl rfl rfl ?_)
        go_roundw
        case rel => exact ⟨k + 1, _, _, by go_num, by omega, Lib.hid ⟨HFS.out, HSA.out⟩⟩
        case measure => simp [intOf]; omega
    · have HEND : Hid (ViewsEnd b w (.returned (.tuple #[.slice Ao l.length co, .bool true])) wr) := Lib.hid (by
        refine ⟨HS.out.2.bel, .inr ⟨_, so, l, ?_, rfl, HS.out.2⟩⟩
        rw [HD.out, ← HS.out.1, show k = cnt by omega])
      clear hro
      go_wp2
      go_ret2
      exact HEND.out
end Go.Proofs.YtcenonnccodfoaaDoor


namespace Go.Proofs.YtcenonnccodfoaaDoor

open Go.RowKit

def smallM (m : GMod) : Bool := decide (m.name.length ≤ 60) && decide (m.data.length ≤ 2000)
def sumM (ms : List GMod) : Nat := (ms.map fun m => m.data.length).sum
def fewM (ms : List GMod) : Bool := decide (ms.length ≤ 70) && ms.all smallM && decide (sumM ms ≤ 5000)
theorem sumM_snoc {ms : List GMod} {k : Nat} (h : k < ms.length) : sumM (ms.take (k + 1)) = sumM (ms.take k) + ms[k].data.length := by
  rw [List.take_succ_eq_append_getElem h]; unfold sumM; rw [List.map_append, List.sum_append]; simp
theorem sumM_le {ms : List GMod} (h : ms.all smallM = true) : sumM ms ≤ 2000 * ms.length := by
  induction ms with
  | nil => simp [sumM]
  | cons m r ih =>
    rw [List.all_cons, Bool.and_eq_true] at h
    have h1 := ih h.2
    have h2 : m.data.length ≤ 2000 := by have := h.1; simp [smallM] at this; exact this.2
    simp only [sumM, List.map_cons, List.sum_cons, List.length_cons] at *
    omega
theorem all_snoc {ms : List GMod} {p : GMod → Bool} {k : Nat} (h : k < ms.length) (ha : (ms.take k).all p = true) (hp : p ms[k] = true) : (ms.take (k + 1)).all p = true := by
  rw [List.take_succ_eq_append_getElem h, List.all_append]; simp [ha, hp]
set_option maxRecDepth 20000 in
set_option maxHeartbeats 1000000 in
theorem few_any (ms : List GMod) (ss : List SMod) (A : Option Addr) (c : Nat) (w : World) (hb : MRow w w.heap.size A ss ms) (hn : ms.length ≤ 1000000) :
    Calls Tryd.prog 10 #[.slice A ms.length c] w fun e w' => e = .returned (.bool (fewM ms)) ∧ w' = w := by
  have HB := Lib.hid hb
  have hlen := hb.len
  clear hb
  go_enter Tryd.func10, Tryd.ntmps10
  rcases Nat.lt_or_ge 70 ms.length with h70 | h70
  · have HR : Hid (fewM ms = false) := Lib.hid (by simp [fewM]; omega)
    go_wp2
    go_ret
    exact ⟨congrArg (fun b => Ending.returned (Value.bool b)) HR.out.symm, rfl⟩
  · go_wp2
    go_loop [3, 4] (fun v3 v4 => ∃ k n : Nat, v3 = .int .i64 n ∧ v4 = .int .i64 k ∧ k ≤ ms.length ∧ n ≤ 140000 ∧ Hid ((ms.take k).all smallM = true) ∧ Hid (n = sumM (ms.take k))) (fun _ v4 => ms.length - (intOf v4).toNat)
    case atStart => exact ⟨0, 0, rfl, rfl, Nat.zero_le _, by omega, Lib.hid rfl, Lib.hid rfl⟩
    case round =>
      obtain ⟨k, n, rfl, rfl, hk, hn14, HT, HN⟩ := hrel
      rcases Nat.lt_or_ge k ms.length with hlt | hge
      · have hls : k < ss.length := by omega
        obtain ⟨b1, o1, rfl, hb1, z0, z1, z2, z3, z4⟩ := HB.out.row.mod5 hls
        have hold := HB.out.each k hls hlt
        have hn1 := hold.name
        have hn2 := hold.n
        rw [hn1] at z0
        rw [hn2] at z4
        have hfw := hold.few
        have HALL := Lib.hid fun h => all_snoc (p := smallM) hlt HT.out h
        have HSU := Lib.hid (sumM_snoc hlt)
        have HBAD : Hid (smallM ms[k] = false → fewM ms = false) := Lib.hid fun h => by
          have : ms.all smallM = false := by
            rw [List.all_eq_false]
            exact ⟨ms[k], List.getElem_mem hlt, by simp [h]⟩
          simp [fewM, this]
        have HLE : Hid (smallM ms[k] = true → sumM (ms.take (k + 1)) ≤ 140000) := Lib.hid fun h => by
          have h1 := sumM_le (HALL.out h)
          rw [List.length_take] at h1
          omega
        generalize ms[k] = y at *
        clear hold hn1 hn2 z1 z2 z3
        by_cases hq : y.name.length ≤ 60
        · by_cases hv : y.data.length ≤ 2000
          · have HS : Hid (smallM y = true) := Lib.hid (by simp [smallM, hq, hv])
            have HS1 := Lib.hid (HALL.out HS.out)
            have HS2 := Lib.hid (HLE.out HS.out)
            have HS3 : Hid (n + y.data.length = sumM (ms.take (k + 1))) := Lib.hid (by rw [HSU.out, ← HN.out])
            go_wp2
            go_round
            case rel => exact ⟨k + 1, n + y.data.length, by go_num, by go_num, by omega, by rw [HS3.out]; exact HS2.out, HS1, HS3⟩
            case measure => simp [intOf]; omega
          · have HR := Lib.hid (HBAD.out (by simp [smallM]; omega))
            go_wp2
            go_ret
            exact ⟨congrArg (fun b => Ending.returned (Value.bool b)) HR.out.symm, rfl⟩
        · have HR := Lib.hid (HBAD.out (by simp [smallM]; omega))
          go_wp2
          go_ret
          exact ⟨congrArg (fun b => Ending.returned (Value.bool b)) HR.out.symm, rfl⟩
      · have HR : Hid (fewM ms = decide ((n : Int) ≤ 5000)) := Lib.hid (by
          have h1 := HT.out
          have h2 := HN.out
          rw [List.take_of_length_le hge] at h1 h2
          subst h2
          simp [fewM, h1, h70]
          omega)
        go_wp2
        go_ret
        exact ⟨congrArg (fun b => Ending.returned (Value.bool b)) HR.out.symm, rfl⟩
end Go.Proofs.YtcenonnccodfoaaDoor
