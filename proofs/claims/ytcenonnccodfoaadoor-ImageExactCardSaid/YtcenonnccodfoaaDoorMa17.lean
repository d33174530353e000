/-
  The law's copied: the same modules, their data in memory of the call's own.
  Conditions: at most 70 modules of at most 2000 bytes each.
  The program's Select: the modules of a width, and those of width 0, with copies of their data.
  Conditions: at most 1000 modules of at most 2000 bytes each.
  What the program's Parse needs beside its walk: names of at most 24 bytes in what a table names; modules whose data are copied one after the other.
  Conditions: as each theorem says.
-/
import Derived.Test.YtcenonnccodfoaaDoorMa16
import Derived.Deep.DeepCutAuto
import Derived.Deep.RegionLaw
import Derived.Test.YtcenonnccodfoaaDoorMa14
import Derived.Test.YtcenonnccodfoaaDoorMa12
namespace Go.Proofs.YtcenonnccodfoaaDoor

open Go.RowKit

/-- The module s is m, its data a row of the call's own. -/
structure COwn (w : World) (base : Nat) (s : SMod) (m : GMod) : Prop where
  name : s.name = m.name
  kind : s.kind = m.kind
  width : s.width = m.width
  entry : s.entry = m.entry
  n : s.n = m.data.length
  own : Own w base (.slice s.A s.n s.c) m.data
  few : m.data.length ≤ 2000
theorem COwn.gbT {W W' : World} {base : Nat} {s : SMod} {m : GMod} {row : Option Nat} (h : COwn W base s m) (hg : W.grownBy W' row) (ht : ∀ g, row = some g → NoByte W g) : COwn W' base s m := ⟨h.name, h.kind, h.width, h.entry, h.n, h.own.gbT hg ht, h.few⟩
theorem COwn.hold {w : World} {base : Nat} {s : SMod} {m : GMod} (h : COwn w base s m) : MHold w w.heap.size s m := by
  obtain ⟨A, cap, e, _, _, hb⟩ := h.own.form
  injection e with e1 e2 e3
  refine ⟨h.name, h.kind, h.width, h.entry, ?_, by have := h.few; omega⟩
  rw [h.n, e1]
  exact hb
/-- What is copied so far. -/
structure CopI (w W : World) (v : Value) (ss : List SMod) (ms : List GMod) : Prop where
  own : OwnG SMod.cells 41 5 W w.heap.size v ss
  len : ss.length = ms.length
  each : ∀ i (h1 : i < ss.length) (h2 : i < ms.length), COwn W w.heap.size ss[i] ms[i]
  bel : Below w.heap.size w W
theorem CopI.row {w W : World} {v : Value} {ss : List SMod} {ms : List GMod} (h : CopI w W v ss ms) : ∃ A' c, v = .slice A' ms.length c ∧ MRow W W.heap.size A' ss ms := by
  obtain ⟨A', c, e, _, _, hr⟩ := h.own.row SMod.len
  exact ⟨A', c, by rw [← h.len]; exact e, ⟨hr, h.len, fun i h1 h2 => (h.each i h1 h2).hold⟩⟩
theorem CopI.below {w W W' : World} {v : Value} {ss : List SMod} {ms : List GMod} (h : CopI w W v ss ms) (hb : Below W.heap.size W W') : CopI w W' v ss ms :=
  ⟨h.own.keep fun g hg => hb.block g (h.own.lt g hg).2, h.len, fun i h1 h2 => (h.each i h1 h2).gbT (row := none) (gbN hb) (fun g e => by cases e), h.bel.trans ⟨hb.os, hb.tape, hb.output, hb.size, fun k hk => hb.block k (by have := h.bel.size; omega)⟩⟩
set_option maxRecDepth 20000 in
theorem CopI.app {w W : World} {v : Value} {ss : List SMod} {ms : List GMod} (h : CopI w W v ss ms) {s : SMod} {m : GMod} (hs : COwn W w.heap.size s m) (hl : ms.length ≤ 1000) :
    ∃ v' w', (Builtin.append_ #[22, 22] 22 #[v, .slice (some ⟨W.heap.size, 0, none⟩) 1 1]).run Tryd.prog (W.alloc (objM s)) = .ok v' w' ∧ CopI w w' v' (ss ++ [s]) (ms ++ [m]) := by
  have hlen := h.len
  have hd := h.below (bel_lit8 (Below.refl _ W) (objM s))
  have hsz := hd.bel.size
  obtain ⟨v', w', hrun, hown, hg, _⟩ := OwnG.app elt_mod SMod.len SMod.one hd.own 1 (lit_mod W s) (by omega) (by unfold maxLen; simp; omega) (by simp; omega)
  have hbt : ∀ g, v.ownBlock = some g → NoByte (W.alloc (objM s)) g := fun g e => by
    rcases hd.own.2 with ⟨hv, _⟩ | ⟨g', cp, cur, hv, _, hh, _⟩
    · rw [hv] at e; simp [Value.ownBlock] at e
    · rw [hv] at e
      simp [Value.ownBlock] at e
      subst e
      exact ⟨_, _, _, hh, by decide⟩
  refine ⟨v', w', hrun, hown, by simp [h.len], fun i h1 h2 => ?_, hd.bel.grown hg hsz (fun g e => (hd.own.lt g e).1)⟩
  rcases Nat.lt_or_ge i ss.length with hi | hi
  · rw [List.getElem_append_left hi, List.getElem_append_left (by omega)]
    exact (hd.each i hi (by omega)).gbT hg hbt
  · have e : i = ss.length := by simp at h1; omega
    subst e
    have e2 : ms.length ≤ ss.length := by omega
    rw [List.getElem_append_right (Nat.le_refl _), List.getElem_append_right e2]
    simp
    exact (hs.gbT (row := none) (gbN (bel_lit8 (Below.refl _ W) (objM s))) (fun g e => by cases e)).gbT hg hbt
set_option maxRecDepth 20000 in
/-- A round's module and the copy of its data. -/
theorem CopI.copy {w W : World} {v : Value} {ss : List SMod} {ms : List GMod} (h : CopI w W v ss ms) {s : SMod} {m : GMod} (hs : MHold w w.heap.size s m) (hl : m.data.length ≤ 2000) :
    ∃ v' w', (Builtin.append_ #[23, 23] 23 #[.slice none 0 0, .slice s.A s.n s.c]).run Tryd.prog (W.alloc (objM s)) = .ok v' w' ∧ ∃ B : Option Addr, ∃ c : Nat, v' = .slice B m.data.length c ∧ ModAt w' W.heap.size s ∧ ModAt (w'.setCell ⟨W.heap.size, 4, none⟩ (.slice B m.data.length c)) W.heap.size { s with A := B, n := m.data.length, c := c } ∧ CopI w (w'.setCell ⟨W.heap.size, 4, none⟩ (.slice B m.data.length c)) v ss ms ∧ COwn (w'.setCell ⟨W.heap.size, 4, none⟩ (.slice B m.data.length c)) w.heap.size { s with A := B, n := m.data.length, c := c } m := by
  have hsz := h.bel.size
  have hb1 : Below w.heap.size w (W.alloc (objM s)) := h.bel.alloc hsz _
  have hrow := hs.row.below hb1
  have hat : ModAt (W.alloc (objM s)) W.heap.size s := heap_alloc_new W _
  obtain ⟨v', w', hrun, hown, hb, hz⟩ := (Own.nil (W.alloc (objM s)) (W.heap.size + 1)).app s.c hrow (Below.refl (W.heap.size + 1) (W.alloc (objM s))) (by simp) (by have := hs.n; simp; omega)
  rw [List.nil_append] at hown
  obtain ⟨B, c, e, _, _, _⟩ := hown.form
  have hm : ModAt w' W.heap.size s := (hb.block _ (by omega)).trans hat
  have hbw : Below W.heap.size W (w'.setCell ⟨W.heap.size, 4, none⟩ (.slice B m.data.length c)) :=
    ((bel_lit8 (Below.refl _ W) (objM s)).trans ⟨hb.os, hb.tape, hb.output, hb.size, fun k hk => hb.block k (by omega)⟩).setCell (p := ⟨W.heap.size, 4, none⟩) (by show W.heap.size ≤ W.heap.size; omega) _
  refine ⟨v', w', hrun, B, c, e, hm, modAt_set4 hm B _ c, h.below hbw, hs.name, hs.kind, hs.width, hs.entry, rfl, ?_, hl⟩
  subst e
  have h2 := hown.gbT (row := some W.heap.size) (gb_set (j := 4) (v := .slice B m.data.length c)) fun g e => by cases e; exact hm.noByte
  refine ⟨h2.1, ?_⟩
  rcases h2.2 with h1 | ⟨g, cp, cur, hv, hb2, rest⟩
  · exact .inl h1
  · exact .inr ⟨g, cp, cur, hv, by omega, rest⟩
set_option maxRecDepth 20000 in
set_option maxHeartbeats 1000000 in
theorem copied_any (ms : List GMod) (ss : List SMod) (A : Option Addr) (c : Nat) (w : World) (hb : MRow w w.heap.size A ss ms) (hn : fewM ms = true) :
    Calls Tryd.prog 12 #[.slice A ms.length c] w fun e w' => ∃ v ss', e = .returned v ∧ CopI w w' v ss' ms := by
  have HB := Lib.hid hb
  have hlen := hb.len
  have h70 : ms.length ≤ 70 := by
    simp only [fewM, Bool.and_eq_true, decide_eq_true_eq] at hn
    exact hn.1.1
  have HSM : Hid (∀ m ∈ ms, m.data.length ≤ 2000) := Lib.hid fun m hm => by
    simp only [fewM, Bool.and_eq_true, decide_eq_true_eq, List.all_eq_true] at hn
    have h := hn.1.2 m hm
    simp only [smallM, Bool.and_eq_true, decide_eq_true_eq] at h
    exact h.2
  clear hb hn
  go_enter Tryd.func12, Tryd.ntmps12
  go_wp2
  go_loopw [3, 4] (fun v3 v4 wr => ∃ k : Nat, ∃ so, v4 = .int .i64 k ∧ k ≤ ms.length ∧ Hid (CopI w wr v3 so (ms.take k))) (fun _ v4 _ => ms.length - (intOf v4).toNat)
  case atStart => exact ⟨0, [], rfl, Nat.zero_le _, Lib.hid ⟨OwnG.nil _ _, rfl, fun i h => by simp at h, Below.refl _ _⟩⟩
  case round =>
    obtain ⟨k, so, rfl, hk, HS⟩ := hrel
    obtain ⟨Ao, co, rfl, hro⟩ := HS.out.row
    have hkl : (ms.take k).length = k := by rw [List.length_take]; omega
    rcases Nat.lt_or_ge k ms.length with hlt | hge
    · have hls : k < ss.length := by omega
      obtain ⟨b1, o1, rfl, hb1, z0, z1, z2, z3, z4⟩ := (HB.out.row.below (Nat.le_refl _) HS.out.bel).mod5 hls
      have hold := HB.out.each k hls hlt
      obtain ⟨v8, w8, hrun8, B8, c8, rfl, hm8, hm8', hcp, hco⟩ := HS.out.copy hold (HSM.out _ (List.getElem_mem hlt))
      obtain ⟨v9, w9, hrun9, hcp9⟩ := hcp.app hco (by omega)
      rw [← List.take_succ_eq_append_getElem hlt] at hcp9
      have hss : (w8.setCell ⟨wr.heap.size, 4, none⟩ (.slice B8 ms[k].data.length c8)).heap.size = w8.heap.size := by simp [World.setCell]
      rw [hkl, hss] at hrun9
      have HR8 := Lib.hid hrun8
      have HR9 := Lib.hid hrun9
      have HC9 := Lib.hid hcp9
      have hsw : (wr.alloc (objM ss[k])).heap[wr.heap.size]? = some (objM ss[k]) := heap_alloc_new wr _
      have HAT := Lib.hid (show ModAt (wr.alloc (.cells #[.string ⟨ss[k].name.toArray⟩, .int .i64 ss[k].kind, .int .i64 ss[k].width, .int .i64 ss[k].entry, .slice ss[k].A ss[k].n ss[k].c] 41)) wr.heap.size ss[k] from hsw)
      have hz4 := hm8.cells.2.2.2.2
      have hf8 : w8.frozen? ⟨wr.heap.size, 4, none⟩ = false := Lib.frozen_of_heap hm8 4
      obtain ⟨y0, y1, y2, y3, y4⟩ := hm8'.cells
      clear hrun8 hrun9 hcp hco hcp9 hm8 hm8' hsw hold hro hkl hss
      obtain ⟨x0, x1, x2, x3, x4⟩ := HAT.out.cells
      generalize ss[k] = y at *
      generalize ms[k].data.length = nd at *
      go_wp2_with (at_builtin; (first | refine wpList_app_run HR8.out rfl rfl rfl rfl rfl ?_ | refine wpList_gapp HR9.out rfl rfl rfl rfl rfl ?_))
      go_roundw
      case rel => exact ⟨k + 1, _, by go_num, by omega, HC9⟩
      case measure => simp [intOf]; omega
    · have HEND : Hid (∃ v ss', Ending.returned (.slice Ao (ms.take k).length co) = .returned v ∧ CopI w wr v ss' ms) := Lib.hid (by
        have h := HS.out
        rw [List.take_of_length_le hge] at h ⊢
        exact ⟨_, so, rfl, h⟩)
      clear hro hkl
      go_wp2
      go_ret
      exact HEND.out
end Go.Proofs.YtcenonnccodfoaaDoor


namespace Go.Proofs.YtcenonnccodfoaaDoor

open Go.RowKit

set_option maxRecDepth 20000 in
/-- A round's module with data of the call's own. -/
theorem CopI.put {w W : World} {v : Value} {ss : List SMod} {ms : List GMod} (h : CopI w W v ss ms) {s : SMod} {m : GMod} (hs : MHold w w.heap.size s m) (hl : m.data.length ≤ 2000) {w' : World} {B : Option Addr} {n c : Nat} (hown : Own w' (W.heap.size + 1) (.slice B n c) m.data) (hb : Below (W.heap.size + 1) (W.alloc (objM s)) w') :
    ModAt w' W.heap.size s ∧ ModAt (w'.setCell ⟨W.heap.size, 4, none⟩ (.slice B n c)) W.heap.size { s with A := B, n := n, c := c } ∧ CopI w (w'.setCell ⟨W.heap.size, 4, none⟩ (.slice B n c)) v ss ms ∧ COwn (w'.setCell ⟨W.heap.size, 4, none⟩ (.slice B n c)) w.heap.size { s with A := B, n := n, c := c } m := by
  have hsz := h.bel.size
  have hat : ModAt (W.alloc (objM s)) W.heap.size s := heap_alloc_new W _
  obtain ⟨B', c', e, _, _, _⟩ := hown.form
  injection e with e1 e2 e3
  have hm : ModAt w' W.heap.size s := (hb.block _ (by omega)).trans hat
  have hbw : Below W.heap.size W (w'.setCell ⟨W.heap.size, 4, none⟩ (.slice B n c)) :=
    ((bel_lit8 (Below.refl _ W) (objM s)).trans ⟨hb.os, hb.tape, hb.output, hb.size, fun k hk => hb.block k (by omega)⟩).setCell (p := ⟨W.heap.size, 4, none⟩) (by show W.heap.size ≤ W.heap.size; omega) _
  refine ⟨hm, modAt_set4 hm B n c, h.below hbw, hs.name, hs.kind, hs.width, hs.entry, e2, ?_, hl⟩
  have h2 := hown.gbT (row := some W.heap.size) (gb_set (j := 4) (v := .slice B n c)) fun g e => by cases e; exact hm.noByte
  refine ⟨h2.1, ?_⟩
  rcases h2.2 with h1 | ⟨g, cp, cur, hv, hb2, rest⟩
  · exact .inl h1
  · exact .inr ⟨g, cp, cur, hv, by omega, rest⟩
set_option maxRecDepth 50000 in
set_option maxHeartbeats 1000000 in
theorem pSelect_any (wd : Int) (ms : List GMod) (ss : List SMod) (A : Option Addr) (c : Nat) (w : World) (hb : MRow w w.heap.size A ss ms) (hn : ms.length ≤ 1000) (hd : ∀ m ∈ ms, m.data.length ≤ 2000) :
    Calls Tryd.prog 20 #[.slice A ms.length c, .int .i64 wd] w fun e w' => ∃ v ss', e = .returned v ∧ CopI w w' v ss' (ms.filter (selB wd)) := by
  have HB := Lib.hid hb
  have HDL := Lib.hid hd
  have hlen := hb.len
  clear hb hd
  go_enter Tryd.func20, Tryd.ntmps20
  go_wp2
  go_loopw [5, 10] (fun v5 v6 wr => ∃ k : Nat, ∃ so, v6 = .int .i64 k ∧ k ≤ ms.length ∧ Hid (CopI w wr v5 so ((ms.take k).filter (selB wd)))) (fun _ v6 _ => ms.length - (intOf v6).toNat)
  case atStart => exact ⟨0, [], rfl, Nat.zero_le _, Lib.hid ⟨OwnG.nil _ _, rfl, fun i h => by simp at h, Below.refl _ _⟩⟩
  case round =>
    obtain ⟨k, so, rfl, hk, HS⟩ := hrel
    obtain ⟨Ao, co, rfl, hro⟩ := HS.out.row
    rcases Nat.lt_or_ge k ms.length with hlt | hge
    · have hls : k < ss.length := by omega
      obtain ⟨b1, o1, rfl, hb1, z0, z1, z2, z3, z4⟩ := (HB.out.row.below (Nat.le_refl _) HS.out.bel).mod5 hls
      have hold := HB.out.each k hls hlt
      have HFS := Lib.hid (filter_snoc (p := selB wd) hlt)
      have hw1 := hold.width
      have HWY : Hid (ss[k].width = ms[k].width) := Lib.hid hw1
      have hdk := HDL.out _ (List.getElem_mem hlt)
      have HOLD := Lib.hid hold
      have hat : ModAt (wr.alloc (.cells #[.string ⟨ss[k].name.toArray⟩, .int .i64 ss[k].kind, .int .i64 ss[k].width, .int .i64 ss[k].entry, .slice ss[k].A ss[k].n ss[k].c] 41)) wr.heap.size ss[k] := heap_alloc_new wr _
      have hrowk : Byt (wr.alloc (objM ss[k])) wr.heap.size ss[k].A ss[k].n ms[k].data := (hold.row.below (bel_lit8 HS.out.bel (objM ss[k]))).wide HS.out.bel.size
      have hsa : (wr.alloc (objM ss[k])).heap.size = wr.heap.size + 1 := by simp
      have hcl0 := (clone_any ss[k].A ss[k].n ss[k].c wr.heap.size ms[k].data (wr.alloc (objM ss[k])) (hrowk.wide (by omega)) (by have := hold.n; omega))
      rw [hsa] at hcl0
      have HCL := Lib.hid hcl0
      clear hcl0 hsa
      have HPUT := Lib.hid fun w' B n c h1 h2 => HS.out.put hold hdk (w' := w') (B := B) (n := n) (c := c) h1 h2
      have HNOT : Hid (¬ selB wd ms[k] = true → CopI w (wr.alloc (objM ss[k])) (.slice Ao ((ms.take k).filter (selB wd)).length co) so ((ms.take (k + 1)).filter (selB wd))) := Lib.hid fun h => by
        rw [HFS.out, if_neg h, List.append_nil]
        exact HS.out.below (bel_lit8 (Below.refl _ wr) (objM ss[k]))
      have HYES : Hid (selB wd ms[k] = true → ∀ W s, CopI w W (.slice Ao ((ms.take k).filter (selB wd)).length co) so ((ms.take k).filter (selB wd)) → COwn W w.heap.size s ms[k] → ∃ v' w', (Builtin.append_ #[22, 22] 22 #[.slice Ao ((ms.take k).filter (selB wd)).length co, .slice (some ⟨W.heap.size, 0, none⟩) 1 1]).run Tryd.prog (W.alloc (objM s)) = .ok v' w' ∧ CopI w w' v' (so ++ [s]) ((ms.take (k + 1)).filter (selB wd))) := Lib.hid fun h W s h1 h2 => by
        rw [HFS.out, if_pos h]
        exact h1.app h2 (Nat.le_trans filter_few hn)
      have HAT := Lib.hid hat
      clear hro hold hw1 hrowk hat
      obtain ⟨x0, x1, x2, x3, x4⟩ := HAT.out.cells
      have hkr : Below w.heap.size w wr := HS.out.bel
      by_cases hq : ss[k].width = wd
      · have f1 : (ss[k].width == wd) = true := by simp [hq]
        have f2 : True := trivial
        · have HN := Lib.hid (HYES.out (by simp [selB, ← HWY.out, hq]))
          generalize ss[k] = y at *
          clear hq HYES HNOT HFS
          go_wp2_with fail
          go_fit HCL.out
          rintro e w6 ⟨B6, c6, rfl, hown6, hb6⟩
          obtain ⟨hm6, hm6', hcp, hco⟩ := HPUT.out w6 B6 _ c6 hown6 hb6
          obtain ⟨v9, w9, hrun9, hcp9⟩ := HN.out _ _ hcp hco
          have hss : (w6.setCell ⟨wr.heap.size, 4, none⟩ (.slice B6 y.n c6)).heap.size = w6.heap.size := by simp [World.setCell]
          rw [hss] at hrun9
          have HR9 := Lib.hid hrun9
          have HC9 := Lib.hid hcp9
          have hz4 := hm6.cells.2.2.2.2
          have hf6 : w6.frozen? ⟨wr.heap.size, 4, none⟩ = false := Lib.frozen_of_heap hm6 4
          clear x0 x1 x2 x3 x4
          obtain ⟨y0, y1, y2, y3, y4⟩ := hm6'.cells
          clear hrun9 hcp9 hcp hco hm6 hm6' hown6 hb6 hss HPUT HCL HN
          go_wp2_with (at_builtin; refine wpList_gapp HR9.out rfl rfl rfl rfl rfl ?_)
          go_roundw
          case rel => exact ⟨k + 1, _, by go_num, by omega, HC9⟩
          case measure => simp [intOf]; omega
      · have f1 : (ss[k].width == wd) = false := by simp [hq]
        by_cases hv : ss[k].width = 0
        · have f2 : (ss[k].width == 0) = true := by simp [hv]
          have HN := Lib.hid (HYES.out (by simp [selB, ← HWY.out, hv]))
          generalize ss[k] = y at *
          clear hq hv HYES HNOT HFS
          go_wp2_with fail
          go_fit HCL.out
          rintro e w6 ⟨B6, c6, rfl, hown6, hb6⟩
          obtain ⟨hm6, hm6', hcp, hco⟩ := HPUT.out w6 B6 _ c6 hown6 hb6
          obtain ⟨v9, w9, hrun9, hcp9⟩ := HN.out _ _ hcp hco
          have hss : (w6.setCell ⟨wr.heap.size, 4, none⟩ (.slice B6 y.n c6)).heap.size = w6.heap.size := by simp [World.setCell]
          rw [hss] at hrun9
          have HR9 := Lib.hid hrun9
          have HC9 := Lib.hid hcp9
          have hz4 := hm6.cells.2.2.2.2
          have hf6 : w6.frozen? ⟨wr.heap.size, 4, none⟩ = false := Lib.frozen_of_heap hm6 4
          clear x0 x1 x2 x3 x4
          obtain ⟨y0, y1, y2, y3, y4⟩ := hm6'.cells
          clear hrun9 hcp9 hcp hco hm6 hm6' hown6 hb6 hss HPUT HCL HN
          go_wp2_with (at_builtin; refine wpList_gapp HR9.out rfl rfl rfl rfl rfl ?_)
          go_roundw
          case rel => exact ⟨k + 1, _, by go_num, by omega, HC9⟩
          case measure => simp [intOf]; omega
        · have f2 : (ss[k].width == 0) = false := by simp [hv]
          have HN := Lib.hid (HNOT.out (by simp [selB, ← HWY.out, hq, hv]))
          generalize ss[k] = y at *
          clear hq hv HYES HPUT HCL
          go_wp2
          go_roundw
          case rel => exact ⟨k + 1, _, by go_num, by omega, HN⟩
          case measure => simp [intOf]; omega
    · have HEND : Hid (∃ v ss', Ending.returned (.slice Ao ((ms.take k).filter (selB wd)).length co) = .returned v ∧ CopI w wr v ss' (ms.filter (selB wd))) := Lib.hid (by
        have h := HS.out
        rw [List.take_of_length_le hge] at h ⊢
        exact ⟨_, so, rfl, h⟩)
      clear hro
      go_wp2
      go_ret
      exact HEND.out
end Go.Proofs.YtcenonnccodfoaaDoor


namespace Go.Proofs.YtcenonnccodfoaaDoor

open Go.RowKit

theorem trim_len (l : List UInt8) (c : UInt8) : (Lib.trimRightB l c).length ≤ l.length := by
  unfold Lib.trimRightB
  rw [List.length_reverse]
  have h := (List.dropWhile_sublist (fun x => x == c) (l := l.reverse)).length_le
  rwa [List.length_reverse] at h
theorem view_name {b e : List UInt8} {m : GMod} (h : viewM b e = some m) : m.name.length ≤ 24 := by
  unfold viewM at h
  split at h
  · cases h
    exact Nat.le_trans (trim_len _ _) (by rw [List.length_take]; omega)
  · cases h
theorem foldV_mem {f : Nat → Option GMod} : ∀ (k : Nat) (l : List GMod), foldV f k = some l → ∀ m ∈ l, ∃ i, f i = some m
  | 0, l, h => by simp only [foldV, Option.some.injEq] at h; subst h; simp
  | k + 1, l, h => by
    simp only [foldV] at h
    cases hk : foldV f k with
    | none => rw [hk] at h; simp at h
    | some l0 =>
      rw [hk] at h
      cases hm : f k with
      | none => rw [hm] at h; simp at h
      | some m =>
        rw [hm] at h
        simp at h
        subst h
        intro x hx
        rcases List.mem_append.1 hx with h1 | h1
        · exact foldV_mem k l0 hk x h1
        · exact ⟨k, by rw [hm, List.mem_singleton.1 h1]⟩
theorem views_small {b : List UInt8} {l : List GMod} (h : viewsL b = some l) : l.length ≤ 65535 ∧ ∀ m ∈ l, m.name.length ≤ 24 := by
  unfold viewsL at h
  split at h
  · cases h
  · refine ⟨?_, fun m hm => ?_⟩
    · rw [foldV_len _ _ _ h]
      have := leUp_lt b 6 2
      have : leUp b 6 2 < 65536 := by simpa using this
      omega
    · obtain ⟨i, hi⟩ := foldV_mem _ _ h m hm
      exact view_name hi

/-! ### An element's field is stored anew -/
section

variable {α : Type} {enc : α → List Value} {k : Nat}

theorem gcells_set1 (hk : ∀ x, (enc x).length = k) : ∀ (l : List α) (i j : Nat) (hi : i < l.length) (_ : j < k) (x : α) (v : Value) (_ : enc x = (enc l[i]).set j v), (gcells enc l).set (i * k + j) v = gcells enc (l.set i x)
  | [], i, j, hi, _, _, _, _ => by simp at hi
  | y :: r, 0, j, hi, hj, x, v, he => by
    show (enc y ++ gcells enc r).set (0 * k + j) v = enc x ++ gcells enc r
    rw [Nat.zero_mul, Nat.zero_add, List.set_append_left _ _ (by rw [hk]; exact hj), he]; rfl
  | y :: r, i + 1, j, hi, hj, x, v, he => by
    show (enc y ++ gcells enc r).set ((i + 1) * k + j) v = enc y ++ gcells enc (r.set i x)
    have e0 : (i + 1) * k = i * k + k := Nat.succ_mul i k
    rw [List.set_append_right _ _ (by rw [hk]; omega), hk, show (i + 1) * k + j - k = i * k + j by omega, gcells_set1 hk r i j (by simpa using hi) hj x v (by simpa using he)]
end

theorem take_setV (l : List Value) (n t : Nat) (v : Value) : (l.set t v).take n = (l.take n).set t v := by
  refine List.ext_getElem? fun j => ?_
  rw [List.getElem?_set, List.getElem?_take, List.getElem?_take, List.getElem?_set, List.length_take]
  by_cases hj : j < n
  · simp only [hj, if_true]
    by_cases ht : t = j
    · subst ht
      by_cases hl : t < l.length
      · simp [hl]; omega
      · simp [hl]; omega
    · simp [ht]
  · simp only [hj, if_false]
    by_cases ht : t = j
    · subst ht; simp; omega
    · simp [ht]
theorem own_set4 {W : World} {base g n cap : Nat} {ss : List SMod} (h : OwnG SMod.cells 41 5 W base (.slice (some ⟨g, 0, none⟩) n cap) ss) {i : Nat} (hi : i < ss.length) (B : Option Addr) (m c : Nat) :
    OwnG SMod.cells 41 5 (W.setCell ⟨g, i * 5 + 4, none⟩ (.slice B m c)) base (.slice (some ⟨g, 0, none⟩) n cap) (ss.set i { ss[i] with A := B, n := m, c := c }) := by
  refine ⟨gcells_len SMod.len _, ?_⟩
  rcases h.2 with ⟨hh, _⟩ | ⟨g', cap', cur, e, hb, hh, hn', hm, hs, ht⟩
  · cases hh
  · cases e
    refine .inr ⟨g, cap, _, by rw [List.length_set], hb, heap_setCell_same W g (i * 5 + 4) _ _ (.slice B m c) hh, by rw [List.length_set]; exact hn', hm, by simp [hs], ?_⟩
    rw [List.length_set, ← gcells_set1 SMod.len ss i 4 hi (by decide) { ss[i] with A := B, n := m, c := c } (.slice B m c) rfl, ← ht]
    simp [take_setV]
/-- The module s is m, its data a row of the call's own. -/
structure POwn (w : World) (base : Nat) (s : SMod) (m : GMod) : Prop where
  name : s.name = m.name
  kind : s.kind = m.kind
  width : s.width = m.width
  entry : s.entry = m.entry
  n : s.n = m.data.length
  own : Own w base (.slice s.A s.n s.c) m.data
  few : m.data.length ≤ 4294967296
theorem POwn.gbT {W W' : World} {base : Nat} {s : SMod} {m : GMod} {row : Option Nat} (h : POwn W base s m) (hg : W.grownBy W' row) (ht : ∀ g, row = some g → NoByte W g) : POwn W' base s m := ⟨h.name, h.kind, h.width, h.entry, h.n, h.own.gbT hg ht, h.few⟩
theorem POwn.hold {w : World} {base : Nat} {s : SMod} {m : GMod} (h : POwn w base s m) : MHold w w.heap.size s m := by
  obtain ⟨A, cap, e, _, _, hb⟩ := h.own.form
  injection e with e1 e2 e3
  refine ⟨h.name, h.kind, h.width, h.entry, ?_, h.few⟩
  rw [h.n, e1]
  exact hb
/-- The data of the first k modules are copied. -/
structure ParI (w W : World) (v : Value) (ss : List SMod) (ms : List GMod) (k : Nat) : Prop where
  own : OwnG SMod.cells 41 5 W w.heap.size v ss
  len : ss.length = ms.length
  done : ∀ i (h1 : i < ss.length) (h2 : i < ms.length), i < k → POwn W w.heap.size ss[i] ms[i]
  todo : ∀ i (h1 : i < ss.length) (h2 : i < ms.length), k ≤ i → MHold w w.heap.size ss[i] ms[i]
  bel : Below w.heap.size w W
theorem SelI.par {w W : World} {v : Value} {ss : List SMod} {ms : List GMod} (h : SelI w W v ss ms) : ParI w W v ss ms 0 := ⟨h.own, h.len, fun i _ _ h3 => by omega, fun i h1 h2 _ => h.each i h1 h2, h.bel⟩
theorem ParI.below {w W W' : World} {v : Value} {ss : List SMod} {ms : List GMod} {k : Nat} (h : ParI w W v ss ms k) (hb : Below W.heap.size W W') : ParI w W' v ss ms k :=
  ⟨h.own.keep fun g hg => hb.block g (h.own.lt g hg).2, h.len, fun i h1 h2 h3 => (h.done i h1 h2 h3).gbT (row := none) (gbN hb) (fun g e => by cases e), h.todo, bel_next8 h.bel hb⟩
theorem ParI.row {w W : World} {v : Value} {ss : List SMod} {ms : List GMod} (h : ParI w W v ss ms ms.length) : ∃ A' c, v = .slice A' ms.length c ∧ ms.length ≤ c ∧ MRow W W.heap.size A' ss ms := by
  obtain ⟨A', c, e, hc, _, hr⟩ := h.own.row SMod.len
  have hl := h.len
  exact ⟨A', c, by rw [← h.len]; exact e, by omega, ⟨hr, h.len, fun i h1 h2 => (h.done i h1 h2 h2).hold⟩⟩
/-- Where the next module lies. -/
theorem ParI.form {w W : World} {v : Value} {ss : List SMod} {ms : List GMod} {k : Nat} (h : ParI w W v ss ms k) (hk : k < ss.length) : ∃ g cap, v = .slice (some ⟨g, 0, none⟩) ms.length cap ∧ w.heap.size ≤ g ∧ g < W.heap.size ∧ NoByte W g ∧ (∀ j, W.frozen? ⟨g, j, none⟩ = false) ∧
    W.cell? ⟨g, k * 5, none⟩ = some (.string ⟨ss[k].name.toArray⟩) ∧ W.cell? ⟨g, k * 5 + 1, none⟩ = some (.int .i64 ss[k].kind) ∧ W.cell? ⟨g, k * 5 + 2, none⟩ = some (.int .i64 ss[k].width) ∧ W.cell? ⟨g, k * 5 + 3, none⟩ = some (.int .i64 ss[k].entry) ∧ W.cell? ⟨g, k * 5 + 4, none⟩ = some (.slice ss[k].A ss[k].n ss[k].c) := by
  obtain ⟨A', c, e, hc, _, hr⟩ := h.own.row SMod.len
  obtain ⟨b, off, e2, hb, z0, z1, z2, z3, z4⟩ := hr.mod5 hk
  rcases h.own.2 with ⟨hv, h0⟩ | ⟨g, cp, cur, hv, hbs, hh, _⟩
  · omega
  · rw [hv] at e
    injection e with e3 e4 e5
    rw [e2] at e3
    cases e3
    simp only [Nat.zero_add] at z0 z1 z2 z3 z4
    exact ⟨b, cp, by rw [hv, h.len], hbs, hb, ⟨cur, 41, (0, 0), hh, by decide⟩, fun j => Lib.frozen_of_heap hh j, z0, z1, z2, z3, z4⟩
set_option maxRecDepth 20000 in
theorem ParI.put {w W : World} {g cap : Nat} {ss : List SMod} {ms : List GMod} {k : Nat} (h : ParI w W (.slice (some ⟨g, 0, none⟩) ms.length cap) ss ms k) (h1 : k < ss.length) (h2 : k < ms.length) {w' : World} {B : Option Addr} {n c : Nat} (hown : Own w' W.heap.size (.slice B n c) ms[k].data) (hb : Below W.heap.size W w') :
    ParI w (w'.setCell ⟨g, k * 5 + 4, none⟩ (.slice B n c)) (.slice (some ⟨g, 0, none⟩) ms.length cap) (ss.set k { ss[k] with A := B, n := n, c := c }) ms (k + 1) := by
  have hd := h.below hb
  obtain ⟨g', cap', e, hg1, hg2, hno, _⟩ := hd.form h1
  cases e
  have hlt := h.bel.size
  obtain ⟨B', c', e, _, _, _⟩ := hown.form
  injection e with e1 e2 e3
  have hgb : w'.grownBy (w'.setCell ⟨g, k * 5 + 4, none⟩ (.slice B n c)) (some g) := gb_set
  have hold := h.todo k h1 h2 (Nat.le_refl _)
  refine ⟨own_set4 hd.own h1 B n c, by rw [List.length_set]; exact h.len, fun i i1 i2 i3 => ?_, fun i i1 i2 i3 => ?_, hd.bel.setCell (p := ⟨g, k * 5 + 4, none⟩) hg1 _⟩
  · have i1' : i < ss.length := by simpa using i1
    by_cases hik : k = i
    · subst hik
      rw [List.getElem_set_self]
      refine ⟨hold.name, hold.kind, hold.width, hold.entry, e2, ?_, hold.few⟩
      have h3 := hown.gbT (row := some g) hgb fun g' e => by cases e; exact hno
      refine ⟨h3.1, ?_⟩
      rcases h3.2 with h4 | ⟨g2, cp, cur, hv, hb2, rest⟩
      · exact .inl h4
      · exact .inr ⟨g2, cp, cur, hv, by omega, rest⟩
    · rw [List.getElem_set_ne hik]
      exact (hd.done i i1' i2 (by omega)).gbT hgb fun g' e => by cases e; exact hno
  · have i1' : i < ss.length := by simpa using i1
    rw [List.getElem_set_ne (by omega)]
    exact h.todo i i1' i2 (by omega)
def ParseEnd (b : List UInt8) (w : World) (e : Ending) (w' : World) : Prop :=
  Below w.heap.size w w' ∧ ∃ A, ∃ c : Nat, ∃ ss ms err, e = .returned (.tuple #[.slice A ms.length c, .int .i64 err]) ∧ MRow w' w'.heap.size A ss ms ∧ ms.length ≤ c ∧ IsParse8 b ms err
theorem ParseEnd.bad {b : List UInt8} {w w' : World} {x : Int} (hb : Below w.heap.size w w') (h : IsParse8 b [] x) : ParseEnd b w (.returned (.tuple #[.slice none 0 0, .int .i64 x])) w' :=
  ⟨hb, none, 0, [], [], x, rfl, ⟨GRow.nil, rfl, fun i h => by simp at h⟩, Nat.le_refl _, h⟩
end Go.Proofs.YtcenonnccodfoaaDoor
