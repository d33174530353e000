/-
  What the law ImageRefused needs: the error of good modules with a bad one behind them; the append of a module behind copied ones.
  Conditions: as each theorem says.
  The law ImageRefused returns true.
  Conditions: the numbers are the language's.
  The law ImageRoundTrip returns true.
  Conditions: the numbers and the bytes are the language's.
-/
import Derived.Test.YtcenonnccodfoaaDoorMa19
import Derived.Deep.DeepCutAuto
import Derived.Deep.RegionLaw
namespace Go.Proofs.YtcenonnccodfoaaDoor

open Go.RowKit

theorem firstE_app : ∀ (a b d : List GMod), firstE d (a ++ b) = if firstE d a = 0 then firstE (d ++ a) b else firstE d a
  | [], b, d => by simp [firstE]
  | m :: r, b, d => by
    show (if chkM d m = 0 then firstE (d ++ [m]) (r ++ b) else chkM d m) = _
    rw [firstE_app r b (d ++ [m])]
    by_cases h : chkM d m = 0
    · simp only [firstE, h, if_true, List.append_assoc, List.cons_append, List.nil_append]
    · simp only [firstE, h, if_false]
theorem err_bad {ms : List GMod} (h : AllMade ms) (hl : ms.length ≤ 5) {m : GMod} {x : Int} (hx : chkM ms m = x) (h0 : x ≠ 0) : errM (ms ++ [m]) = x := by
  have hg := made_good h hl
  have hf : firstE [] ms = 0 := by
    unfold errM at hg
    rw [if_neg (by omega)] at hg
    split at hg
    · assumption
    · exact hg
  have e : firstE [] (ms ++ [m]) = x := by
    rw [firstE_app, if_pos hf]
    simp only [List.nil_append, firstE, hx]
    rw [if_neg h0]
  unfold errM
  rw [if_neg (by simp; omega), e, if_neg h0]
theorem img_bad {ms : List GMod} {x : Int} (h : errM ms = x) (h0 : x ≠ 0) : imgM ms = [] := by
  unfold imgM
  rw [if_neg (by rw [h]; exact h0)]
def newL : List UInt8 := [110, 101, 119]
def badM : Nat → GMod
  | 0 => ⟨[49, 97], 3, 0, 0, []⟩
  | 1 => ⟨newL, 4, 32, 0, []⟩
  | 2 => ⟨newL, 2, 64, 0, []⟩
  | 3 => ⟨newL, 1, 32, 0, zerosL 12⟩
  | 4 => ⟨newL, 1, 39, 2, zerosL 16⟩
  | _ => ⟨newL, 3, 0, 1, []⟩
def badE : Nat → Int
  | 0 => 63
  | 3 => 59
  | _ => 6
theorem bad_chk (ms : List GMod) (k : Nat) (hk : k ≤ 5) : chkM ms (badM k) = badE k := by

  match k, hk with
  | 0, _ => unfold chkM badM; rw [if_pos (by decide)]; rfl
  | 1, _ => unfold chkM badM; rw [if_neg (by decide), if_pos (by decide)]; rfl
  | 2, _ => unfold chkM badM; rw [if_neg (by decide), if_pos (by decide)]; rfl
  | 3, _ => unfold chkM badM; rw [if_neg (by decide), if_neg (by decide), if_pos (by decide)]; rfl
  | 4, _ => unfold chkM badM; rw [if_neg (by decide), if_neg (by decide), if_neg (by decide), if_pos (by decide)]; rfl
  | 5, _ => unfold chkM badM; rw [if_neg (by decide), if_neg (by decide), if_neg (by decide), if_pos (by decide)]; rfl
theorem bad_ne (k : Nat) : badE k ≠ 0 := by
  unfold badE; split <;> decide
theorem dup_chk {ms : List GMod} (h : AllMade ms) (hn : 0 < ms.length) : chkM ms ms[0] = 56 := by
  have h0 := made_chk (h.1 ms[0] (List.getElem_mem hn)) [] (fun x hx => by simp at hx)
  have ha : ms.any (fun b => sameKey b ms[0]) = true := by
    rw [List.any_eq_true]
    exact ⟨ms[0], List.getElem_mem hn, by simp [sameKey]⟩
  unfold chkM at h0 ⊢
  split at h0
  · cases h0
  · rename_i h1
    rw [if_neg h1]
    split at h0
    · cases h0
    · rename_i h2
      rw [if_neg h2]
      split at h0
      · cases h0
      · rename_i h3
        rw [if_neg h3]
        split at h0
        · cases h0
        · rename_i h4
          rw [if_neg h4, if_pos ha]
theorem bad_name (k : Nat) : (badM k).name.length ≤ 24 := by
  unfold badM; split <;> decide
theorem made_name {m : GMod} (h : MadeM m) : m.name.length ≤ 24 := by
  obtain ⟨⟨r, hr, hn⟩, _⟩ := h
  rw [hn]
  unfold nameAt
  rw [List.length_drop]
  simp; omega
theorem made_sum : ∀ (ms : List GMod), (∀ m ∈ ms, MadeM m) → sumM ms ≤ 129 * ms.length
  | [], _ => by simp [sumM]
  | m :: r, h => by
    have h1 := made_sum r fun x hx => h x (List.mem_cons_of_mem _ hx)
    have h2 := made_len (h m List.mem_cons_self)
    simp only [sumM, List.map_cons, List.sum_cons, List.length_cons] at *
    omega
theorem made_few {ms : List GMod} (h : AllMade ms) (hl : ms.length ≤ 5) : fewM ms = true := by
  have h1 := made_sum ms h.1
  simp only [fewM, Bool.and_eq_true, decide_eq_true_eq, List.all_eq_true]
  refine ⟨⟨by omega, fun m hm => ?_⟩, by omega⟩
  have h2 := made_name (h.1 m hm)
  have h3 := made_len (h.1 m hm)
  simp only [smallM, Bool.and_eq_true, decide_eq_true_eq]
  omega
/-- What stands in the law's variable m. -/
def BadI (w1 : World) (p : Nat) (ms : List GMod) (wx : World) (x : Int) (s : SMod) (m : GMod) : Prop := ModAt wx p s ∧ MHold wx wx.heap.size s m ∧ Below w1.heap.size w1 wx ∧ errM (ms ++ [m]) = x ∧ x ≠ 0 ∧ m.name.length ≤ 24
theorem bad_nil {w1 W : World} {p : Nat} {ms : List GMod} (h : AllMade ms) (hl : ms.length ≤ 5) (k : Nat) (hk : k ≤ 5) (hd : (badM k).data = []) (hat : ModAt W p ⟨(badM k).name, (badM k).kind, (badM k).width, (badM k).entry, none, 0, 0⟩) (hb : Below w1.heap.size w1 W) :
    BadI w1 p ms W (badE k) ⟨(badM k).name, (badM k).kind, (badM k).width, (badM k).entry, none, 0, 0⟩ (badM k) :=
  ⟨hat, ⟨rfl, rfl, rfl, rfl, by rw [hd]; exact Byt.nil, by rw [hd]; simp⟩, hb, err_bad h hl (bad_chk ms k hk) (bad_ne k), bad_ne k, bad_name k⟩
theorem bad_row {w1 W : World} {p g n : Nat} {ms : List GMod} (h : AllMade ms) (hl : ms.length ≤ 5) (k : Nat) (hk : k ≤ 5) (hn : n ≤ 100) (hd : (badM k).data = zerosL n) (hat : ModAt W p ⟨(badM k).name, (badM k).kind, (badM k).width, (badM k).entry, some ⟨g, 0, none⟩, n, n⟩) (hb : Below w1.heap.size w1 W) (hr : Byt W W.heap.size (some ⟨g, 0, none⟩) n (zerosL n)) :
    BadI w1 p ms W (badE k) ⟨(badM k).name, (badM k).kind, (badM k).width, (badM k).entry, some ⟨g, 0, none⟩, n, n⟩ (badM k) :=
  ⟨hat, ⟨rfl, rfl, rfl, rfl, by rw [hd]; exact hr, by rw [hd, hr.1]; omega⟩, hb, err_bad h hl (bad_chk ms k hk) (bad_ne k), bad_ne k, bad_name k⟩
theorem bad_dup {w1 W : World} {p : Nat} {ms : List GMod} {s : SMod} (h : AllMade ms) (hl : ms.length ≤ 5) (hn : 0 < ms.length) (hat : ModAt W p s) (hm : MHold w1 w1.heap.size s ms[0]) (hb : Below w1.heap.size w1 W) :
    BadI w1 p ms W 56 s ms[0] :=
  ⟨hat, hm.next hb, hb, err_bad h hl (dup_chk h hn) (by decide), by decide, made_name (h.1 _ (List.getElem_mem hn))⟩
set_option maxRecDepth 20000 in
/-- The append behind copied modules. -/
theorem cop_app {w0 W : World} {v : Value} {ss : List SMod} {ms : List GMod} (h : CopI w0 W v ss ms) {g c : Nat} {s : SMod} {m : GMod} (hg : GRow SMod.cells 5 W W.heap.size (some ⟨g, 0, none⟩) [s]) (hs : MHold W W.heap.size s m) (hl : ms.length ≤ 1000) (hdt : ∀ b off, s.A = some ⟨b, off, none⟩ → 0 < s.n → ∀ k, v.ownBlock = some k → k ≠ b) :
    ∃ v' w', (Builtin.append_ #[22, 22] 22 #[v, .slice (some ⟨g, 0, none⟩) 1 c]).run Tryd.prog W = .ok v' w' ∧ ∃ A', ∃ c' : Nat, v' = .slice A' (ms.length + 1) c' ∧ ms.length + 1 ≤ c' ∧ MRow w' w'.heap.size A' (ss ++ [s]) (ms ++ [m]) ∧ Below w0.heap.size w0 w' := by
  have hlen := h.len
  have hsz := h.bel.size
  obtain ⟨v', w', hrun, hown, hgr, _⟩ := OwnG.app elt_mod SMod.len SMod.one h.own c hg (by omega) (by unfold maxLen; simp; omega) (by simp; omega)
  have hbt : ∀ g, v.ownBlock = some g → NoByte W g := fun g e => by
    rcases h.own.2 with ⟨hv, _⟩ | ⟨g', cp, cur, hv, _, hh, _⟩
    · rw [hv] at e; simp [Value.ownBlock] at e
    · rw [hv] at e
      simp [Value.ownBlock] at e
      subst e
      exact ⟨_, _, _, hh, by decide⟩
  obtain ⟨A', c', e, h1, _, hr⟩ := hown.row SMod.len
  have hsw : W.heap.size ≤ w'.heap.size := hgr.size
  refine ⟨v', w', hrun, A', c', by rw [e]; simp [hlen], by simp at h1; omega, ⟨hr, by simp [hlen], fun i h1 h2 => ?_⟩, h.bel.grown hgr hsz (fun g e => (h.own.lt g e).1)⟩
  rcases Nat.lt_or_ge i ss.length with hi | hi
  · rw [List.getElem_append_left hi, List.getElem_append_left (by omega)]
    exact ((h.each i hi (by omega)).gbT hgr hbt).hold
  · have e : i = ss.length := by simp at h1; omega
    subst e
    have e2 : ms.length ≤ ss.length := by omega
    rw [List.getElem_append_right (Nat.le_refl _), List.getElem_append_right e2]
    simp only [hlen, Nat.sub_self, List.getElem_cons_zero]
    refine ⟨hs.name, hs.kind, hs.width, hs.entry, ⟨hs.row.1, fun h0 => ?_⟩, hs.few⟩
    obtain ⟨b, off, e3, hb, hc⟩ := hs.row.2 h0
    refine ⟨b, off, e3, by omega, fun j hj => ?_⟩
    rw [← hc j hj]
    have := hgr.block b hb (fun e4 => hdt b off e3 h0 b e4.symm rfl)
    simp only [World.cell?, this]
theorem bad_row2 (w1 : World) {ms : List GMod} (h : AllMade ms) (hl : ms.length ≤ 5) (k : Nat) (hk : k ≤ 5) (n : Nat) (hn : n ≤ 100) (hd : (badM k).data = zerosL n) :
    BadI w1 w1.heap.size ms ((w1.alloc (objM ⟨(badM k).name, (badM k).kind, (badM k).width, (badM k).entry, some ⟨w1.heap.size + 1, 0, none⟩, n, n⟩)).alloc (.cells (vals (zerosL n)).toArray 5)) (badE k) ⟨(badM k).name, (badM k).kind, (badM k).width, (badM k).entry, some ⟨w1.heap.size + 1, 0, none⟩, n, n⟩ (badM k) := by
  refine bad_row h hl k hk hn hd ((Below.heap_alloc _ _ _ (by simp)).trans (heap_alloc_new w1 _)) (bel_lit8 (bel_lit8 (Below.refl _ w1) _) _) ?_
  exact (Byt.litAt (w1.alloc (objM ⟨(badM k).name, (badM k).kind, (badM k).width, (badM k).entry, some ⟨w1.heap.size + 1, 0, none⟩, n, n⟩)) (0, 0) (zerosL n) _ n (w1.heap.size + 1) (by simp) rfl (length_zeros n)).wide (by simp)
def AppR (wc : World) (ms : List GMod) (m : GMod) (v' : Value) (w' : World) : Prop := ∃ A', ∃ c' : Nat, ∃ ss, v' = .slice A' (ms.length + 1) c' ∧ ms.length + 1 ≤ c' ∧ MRow w' w'.heap.size A' ss (ms ++ [m]) ∧ Below wc.heap.size wc w'
theorem app_own {w0 w5 : World} {v : Value} {ss : List SMod} {ms : List GMod} (h : CopI w0 w5 v ss ms) {wc : World} {s : SMod} {m : GMod} (hs : MHold wc wc.heap.size s m) (hz : wc.heap.size ≤ w0.heap.size) : ∀ b off, s.A = some ⟨b, off, none⟩ → 0 < s.n → ∀ k, v.ownBlock = some k → k ≠ b := fun b off e h0 k hk => by
  obtain ⟨b', off', e2, hb, _⟩ := hs.row.2 h0
  rw [e] at e2
  cases e2
  have := (h.own.lt k hk).1
  omega
set_option maxRecDepth 20000 in
theorem app_late {wc w5 : World} {v : Value} {ss : List SMod} {ms : List GMod} {s : SMod} {m : GMod} (h : CopI wc.drew w5 v ss ms) (hs : MHold wc wc.heap.size s m) (hl : ms.length ≤ 1000) :
    ∃ v' w', (Builtin.append_ #[22, 22] 22 #[v, .slice (some ⟨w5.heap.size, 0, none⟩) 1 1]).run Tryd.prog (w5.alloc (objM s)) = .ok v' w' ∧ AppR wc ms m v' w' := by
  have hd := h.below (bel_lit8 (Below.refl _ w5) (objM s))
  have hb : Below wc.heap.size wc (w5.alloc (objM s)) := bel_next8 (Below.refl _ wc).drew hd.bel
  obtain ⟨v', w', hr, A', c', e, hc, hm, hbl⟩ := cop_app hd (g := w5.heap.size) (c := 1) (lit_mod w5 s) (hs.next hb) hl (app_own hd hs (Nat.le_refl _))
  exact ⟨v', w', hr, A', c', _, e, hc, hm, bel_next8 (Below.refl _ wc).drew hbl⟩
set_option maxRecDepth 20000 in
theorem app_early {wc w5 : World} {v : Value} {ss : List SMod} {ms : List GMod} {s : SMod} {m : GMod} (h : CopI (wc.alloc (objM s)).drew w5 v ss ms) (hs : MHold wc wc.heap.size s m) (hl : ms.length ≤ 1000) :
    ∃ v' w', (Builtin.append_ #[22, 22] 22 #[v, .slice (some ⟨wc.heap.size, 0, none⟩) 1 1]).run Tryd.prog w5 = .ok v' w' ∧ AppR wc ms m v' w' := by
  have hba : Below wc.heap.size wc (wc.alloc (objM s)).drew := (bel_lit8 (Below.refl _ wc) (objM s)).drew
  have hb : Below wc.heap.size wc w5 := bel_next8 hba h.bel
  have hg : GRow SMod.cells 5 w5 w5.heap.size (some ⟨wc.heap.size, 0, none⟩) [s] := ((lit_mod wc s).below (Nat.le_refl _) ((Below.refl _ _).drew.trans h.bel)).wide h.bel.size
  obtain ⟨v', w', hr, A', c', e, hc, hm, hbl⟩ := cop_app h (g := wc.heap.size) (c := 1) hg (hs.next hb) hl (app_own h hs hba.size)
  exact ⟨v', w', hr, A', c', _, e, hc, hm, bel_next8 hba hbl⟩
theorem build_bad {ms : List GMod} {m : GMod} {ss : List SMod} {A : Option Addr} {c : Nat} {w : World} {x : Int} (hm : MRow w w.heap.size A ss (ms ++ [m])) (ha : AllMade ms) (h5 : ms.length ≤ 5) (hc : ms.length + 1 ≤ c) (he : errM (ms ++ [m]) = x) (h0 : x ≠ 0) (hn : m.name.length ≤ 24) :
    Calls Tryd.prog 13 #[.slice A (ms.length + 1) c] w fun e w' => (∃ A c, e = .returned (.tuple #[.slice A 0 c, .int .i64 x])) ∧ Below w.heap.size w w' := by
  have hl : (ms ++ [m]).length = ms.length + 1 := by simp
  have h := pBuild_any (ms ++ [m]) ss A c w hm (by omega) (by omega) (fun y hy => by
    rcases List.mem_append.1 hy with h1 | h1
    · have := made_name (ha.1 y h1); omega
    · rw [List.mem_singleton.1 h1]; omega)
  rw [hl] at h
  refine h.mono fun e w' h => ?_
  obtain ⟨hb, A', c', rfl, _, _⟩ := h
  rw [img_bad he h0, he]
  exact ⟨⟨A', c', rfl⟩, hb⟩
end Go.Proofs.YtcenonnccodfoaaDoor


namespace Go.Proofs.YtcenonnccodfoaaDoor

open Go.RowKit

set_option maxRecDepth 50000 in
set_option maxHeartbeats 1000000 in
theorem lrefused_any (A : Option Addr) (len cap : Nat) (zs : List Int) (how : Int) (w : World) (hr : IRow w w.heap.size A len cap zs) :
    Calls Tryd.prog 9 #[.slice A len cap, .int .i64 how] w fun e w' => e = .returned (.bool true) ∧ Below w.heap.size w w' := by
  have HAW := Lib.hid awake_any
  have HMD := Lib.hid (modules_any A len cap zs w hr)
  have HAW0 := Lib.hid (awake_any w)
  clear hr
  by_cases h200 : 200 < len
  case pos =>
    have f0 : decide ((200 : Int) < (len : Int)) = true := by simp; omega
    have g0 : decide (200 < len) = true := by simp; omega
    clear HMD HAW
    go_enter Tryd.func9, Tryd.ntmps9
    go_wp2_with fail
    go_fit HAW0.out
    rintro e w5 ⟨rfl, hb5⟩
    have HN := Lib.hid hb5
    clear hb5
    go_wp2
    go_ret
    exact ⟨rfl, HN.out⟩
  have f0 : decide ((200 : Int) < (len : Int)) = false := by simp; omega
  have g0 : decide (200 < len) = false := by simp; omega
  clear HAW0
  go_enter Tryd.func9, Tryd.ntmps9
  go_wp2_with fail
  go_fit HMD.out
  rintro e w1 ⟨A1, c1, ss, ms, rfl, hm, ham, h5, hcap, hb1⟩
  have HM := Lib.hid hm
  have HA := Lib.hid ham
  have HB1 := Lib.hid hb1
  clear hm ham hb1 HMD
  have hlen := HM.out.len
  have hpb := placeI_bd how 7 (by omega)
  have HPL := Lib.hid (place_eq how 7 (by omega) (by omega))
  generalize placeI how 7 = kI at *
  obtain ⟨k, rfl⟩ : ∃ k : Nat, kI = k := ⟨kI.toNat, by omega⟩
  have hk : k < 7 := by omega
  clear hpb
  go_wp2_with fail
  go_fit (HPL.out _)
  rintro e w2 ⟨rfl, rfl⟩
  clear HPL
  go_simp
  rename_i hblk
  refine hblk _ _ ?_
  clear hblk
  go_simp
  rename_i hblk _
  refine hblk _ _ ?_
  clear hblk
  go_cut [7] (fun v7 wx => ∃ x s m, v7 = .int .i64 x ∧ Hid (BadI w1 w1.heap.size ms wx x s m))
  case first =>
    rcases (by omega : k = 0 ∨ k = 1 ∨ k = 2 ∨ k = 3 ∨ k = 4 ∨ k = 5 ∨ k = 6) with rfl | rfl | rfl | rfl | rfl | rfl | rfl
    · go_wp2_with fail
      go_meet
      exact ⟨_, _, _, rfl, Lib.hid (bad_nil HA.out h5 0 (by omega) rfl (heap_alloc_new w1 _) (bel_lit8 (Below.refl _ w1) _))⟩
    · go_wp2_with fail
      go_meet
      exact ⟨_, _, _, rfl, Lib.hid (bad_nil HA.out h5 1 (by omega) rfl (heap_alloc_new w1 _) (bel_lit8 (Below.refl _ w1) _))⟩
    · go_wp2_with fail
      go_meet
      exact ⟨_, _, _, rfl, Lib.hid (bad_nil HA.out h5 2 (by omega) rfl (heap_alloc_new w1 _) (bel_lit8 (Below.refl _ w1) _))⟩
    · have hmk : ∀ W : World, (Instr.makeSlice 23 (.int .i64 12) (.int .i64 12)).run Tryd.prog W = .ok (.slice (some ⟨W.heap.size, 0, none⟩) 12 12) (W.alloc (.cells (vals (zerosL 12)).toArray 5)) := fun W => make_bytes 12 (by omega) W
      go_wp2_with fail
      go_meet
      exact ⟨_, _, _, rfl, Lib.hid (bad_row2 w1 HA.out h5 3 (by omega) 12 (by omega) rfl)⟩
    · have hmk : ∀ W : World, (Instr.makeSlice 23 (.int .i64 16) (.int .i64 16)).run Tryd.prog W = .ok (.slice (some ⟨W.heap.size, 0, none⟩) 16 16) (W.alloc (.cells (vals (zerosL 16)).toArray 5)) := fun W => make_bytes 16 (by omega) W
      go_wp2_with fail
      go_meet
      exact ⟨_, _, _, rfl, Lib.hid (bad_row2 w1 HA.out h5 4 (by omega) 16 (by omega) rfl)⟩
    · go_wp2_with fail
      go_meet
      exact ⟨_, _, _, rfl, Lib.hid (bad_nil HA.out h5 5 (by omega) rfl (heap_alloc_new w1 _) (bel_lit8 (Below.refl _ w1) _))⟩
    · by_cases h0 : ms.length = 0
      · have fz : ((ms.length : Int) == 0) = true := by simp [h0]
        have HBE := Lib.hid (bel_lit8 HB1.out (.cells #[.string ⟨#[]⟩, .int .i64 0, .int .i64 0, .int .i64 0, .slice none 0 0] 41))
        go_wp2_with fail
        go_fit (HAW.out _)
        rintro e w5 ⟨rfl, hb5⟩
        have HN := Lib.hid (bel_next8 HBE.out hb5)
        clear hb5
        go_wp2
        go_ret
        exact ⟨rfl, HN.out⟩
      have fz : ((ms.length : Int) == 0) = false := beq_eq_false_iff_ne.2 (by omega)
      have hn0 : 0 < ms.length := by omega
      have hs0 : 0 < ss.length := by omega
      have HBA := Lib.hid (bel_lit8 (Below.refl _ w1) (.cells #[.string ⟨#[]⟩, .int .i64 0, .int .i64 0, .int .i64 0, .slice none 0 0] 41))
      obtain ⟨b1, o1, rfl, hb1, z0, z1, z2, z3, z4⟩ := (HM.out.row.below (Nat.le_refl _) HBA.out).mod5 hs0
      simp only [Nat.zero_mul, Nat.add_zero] at z0 z1 z2 z3 z4
      have HH := Lib.hid (HM.out.each 0 hs0 hn0)
      generalize ss[0] = y at *
      go_wp2_with fail
      go_meet
      exact ⟨_, _, _, rfl, Lib.hid (bad_dup HA.out h5 hn0 (heap_alloc_new w1 _) HH.out (bel_lit8 (Below.refl _ w1) _))⟩
  case rest =>
    obtain ⟨x, s, m, rfl, HI⟩ := hcut
    obtain ⟨hat, hmh, hbel, herr, hx0, hmn⟩ := HI.out
    have HBC := Lib.hid (bel_next8 HB1.out hbel)
    have HAT := Lib.hid hat
    have HCPA := Lib.hid (copied_any ms ss A1 c1 wc.drew (HM.out.next hbel.drew) (made_few HA.out h5))
    have HCPB := Lib.hid (copied_any ms ss A1 c1 (wc.alloc (objM s)).drew (HM.out.next (bel_lit8 hbel (objM s)).drew) (made_few HA.out h5))
    have HAA := Lib.hid fun v (w5 : World) so (h : CopI wc.drew w5 v so ms) => app_late (s := s) h hmh (by omega)
    have HAB := Lib.hid fun v (w5 : World) so (h : CopI (wc.alloc (objM s)).drew w5 v so ms) => app_early (s := s) h hmh (by omega)
    have HKP := Lib.hid fun v (w5 : World) so (h : CopI wc.drew w5 v so ms) => (show ModAt w5 w1.heap.size s from (h.bel.block _ (lt_heap HAT.out)).trans HAT.out).cells
    have HBD := Lib.hid fun w7 A7 (c7 : Nat) so (hm : MRow w7 w7.heap.size A7 so (ms ++ [m])) (hc : ms.length + 1 ≤ c7) => build_bad hm HA.out h5 hc herr hx0 hmn
    have hlit : (wc.alloc (objM s)).heap.size = wc.heap.size + 1 := by simp
    clear HI hbel hat hmh herr
    obtain ⟨y0, y1, y2, y3, y4⟩ := HAT.out.cells
    go_upto_region 22 with fail
    go_region_law
      (first
        | (go_simp; go_at_call 12; go_fit HCPA.out; rintro e w5 ⟨v5, so5, rfl, hcp5⟩; obtain ⟨u0, u1, u2, u3, u4⟩ := HKP.out _ _ _ hcp5)
        | (go_simp; go_at_call 12; go_fit HCPB.out; rintro e w5 ⟨v5, so5, rfl, hcp5⟩)
        | (go_simp; go_at_call 13; go_fit (HBD.out _ _ _ _ (by assumption) (by assumption)); rintro e w8 ⟨⟨A8, c8, rfl⟩, hb8⟩)
        | (refine step_app8 (HAA.out _ _ _ (by assumption)) rfl rfl rfl rfl rfl ?_; rintro v7 w7 ⟨A7, c7, so7, rfl, hc7, hm7, hb7⟩)
        | (refine step_app8 (HAB.out _ _ _ (by assumption)) rfl rfl rfl rfl rfl ?_; rintro v7 w7 ⟨A7, c7, so7, rfl, hc7, hm7, hb7⟩))
    all_goals
      have HBE := Lib.hid (bel_next8 (bel_next8 HBC.out hb7) hb8)
      have HAW8 := Lib.hid (HAW.out w8)
      clear hb7 hb8 hm7 hcp5
      go_wp2_with fail
      go_fit HAW8.out
      rintro e w9 ⟨rfl, hb9⟩
      have HN := Lib.hid (bel_next8 HBE.out hb9)
      clear hb9
      go_wp2
      go_ret
      exact ⟨rfl, HN.out⟩
end Go.Proofs.YtcenonnccodfoaaDoor


namespace Go.Proofs.YtcenonnccodfoaaDoor

open Go.RowKit

theorem parse_cases {b : List UInt8} {ms : List GMod} {e : Int} (h : IsParse8 b ms e) : (e = 0 ∧ errM ms = 0 ∧ imageL ms = b) ∨ (e ≠ 0 ∧ ms = []) := by
  unfold IsParse8 at h
  split at h
  · exact .inr ⟨by rw [h.2]; decide, h.1⟩
  split at h
  · exact .inr ⟨by rw [h.2]; decide, h.1⟩
  split at h
  · exact .inr ⟨by rw [h.2]; decide, h.1⟩
  split at h
  · exact .inr ⟨by rw [h.2]; decide, h.1⟩
  split at h
  · exact .inr ⟨by rw [h.2]; decide, h.1⟩
  split at h
  · exact .inr ⟨by rw [h.2]; decide, h.1⟩
  split at h
  · exact .inr ⟨by rw [h.2]; decide, h.1⟩
  rcases h with h | h
  · exact .inl h
  · exact .inr ⟨by rw [h.1]; decide, h.2.1⟩
theorem good_name {ms : List GMod} (h : errM ms = 0) : ∀ m ∈ ms, m.name.length ≤ 140737488355328 := fun m hm => by
  have := ((errM_good h).fit m hm).name
  omega
theorem img_len {ms : List GMod} (h : errM ms = 0) : (imgM ms).length ≤ 16777216 := by
  rw [imgM_ok h]; exact (image_facts h).2.1
set_option maxRecDepth 50000 in
set_option maxHeartbeats 1000000 in
theorem ltrip_any (A : Option Addr) (len cap : Nat) (zs : List Int) (B : Option Addr) (nb cb : Nat) (bl : List UInt8) (w : World) (hr : IRow w w.heap.size A len cap zs) (hb : Byt w w.heap.size B nb bl) (hc : nb ≤ cb) :
    Calls Tryd.prog 4 #[.slice A len cap, .slice B nb cb] w fun e w' => e = .returned (.bool true) ∧ Below w.heap.size w w' := by
  have HAW := Lib.hid awake_any
  have HMD := Lib.hid (modules_any A len cap zs w hr)
  have HAW0 := Lib.hid (awake_any w)
  have HY := Lib.hid hb
  clear hr hb
  have hnot : ∀ (x : Bool) (w : World), (Op.unary .not (.bool x)).run Tryd.prog w = .ok (.bool (!x)) w := fun _ _ => rfl
  by_cases h200 : 200 < len ∨ 6000 < nb
  case pos =>
    by_cases h2 : 200 < len
    case pos =>
      have f0 : decide ((200 : Int) < (len : Int)) = true := by simp; omega
      have g0 : decide (200 < len) = true := by simp; omega
      clear HMD HAW h200
      go_enter Tryd.func4, Tryd.ntmps4
      go_wp2_with fail
      go_fit HAW0.out
      rintro e w5 ⟨rfl, hb5⟩
      have HN := Lib.hid hb5
      clear hb5
      go_wp2
      go_ret
      exact ⟨rfl, HN.out⟩
    have h6 : 6000 < nb := by omega
    have f0 : decide ((200 : Int) < (len : Int)) = false := by simp; omega
    have g0 : decide (200 < len) = false := by simp; omega
    have f1 : decide ((6000 : Int) < (nb : Int)) = true := by simp; omega
    have g1 : decide (6000 < nb) = true := by simp; omega
    clear HMD HAW h200
    go_enter Tryd.func4, Tryd.ntmps4
    go_wp2_with fail
    go_fit HAW0.out
    rintro e w5 ⟨rfl, hb5⟩
    have HN := Lib.hid hb5
    clear hb5
    go_wp2
    go_ret
    exact ⟨rfl, HN.out⟩
  have f0 : decide ((200 : Int) < (len : Int)) = false := by simp; omega
  have g0 : decide (200 < len) = false := by simp; omega
  have f1 : decide ((6000 : Int) < (nb : Int)) = false := by simp; omega
  have g1 : decide (6000 < nb) = false := by simp; omega
  have h6 : nb ≤ 6000 := by omega
  clear HAW0 h200
  go_enter Tryd.func4, Tryd.ntmps4
  go_wp2_with fail
  go_fit HMD.out
  rintro e w1 ⟨A1, c1, ss, ms, rfl, hm, ham, h5, hcap, hb1⟩
  have HM := Lib.hid hm
  have HA := Lib.hid ham
  have HB1 := Lib.hid hb1
  have HE := Lib.hid (made_good ham h5)
  have HBC := Lib.hid (pBuild_any ms ss A1 c1 w1 hm (by omega) hcap (good_name (made_good ham h5)))
  have hil := img_len (made_good ham h5)
  have HIP := Lib.hid (img_ok (made_good ham h5))
  clear hm ham hb1 HMD
  go_wp2_with fail
  go_fit HBC.out
  rintro e w2 ⟨hb2, A2, c2, rfl, hby2, hc2⟩
  rw [HE.out]
  have HM2 := Lib.hid (HM.out.next hb2)
  have HB2 := Lib.hid (bel_next8 HB1.out hb2)
  generalize imgM ms = im at *
  have HPC := Lib.hid (pParse_any A2 im.length c2 im w2 hby2 hc2 (by omega))
  clear hb2 HBC hby2 HM
  generalize im.length = ni at *
  go_wp2_with fail
  go_fit HPC.out
  rintro e w3 ⟨hb3, A3, c3, sp, mp, err, rfl, hm3, hc3, hip⟩
  obtain ⟨rfl, rfl⟩ := HIP.out _ _ hip
  have HB3 := Lib.hid (bel_next8 HB2.out hb3)
  have HSM := Lib.hid (rSame8_any mp mp sp ss A3 A1 c3 c1 w3 hm3 (HM2.out.next hb3) (by omega))
  clear hip hb3 hm3 HPC HIP HM2
  go_wp2_with fail
  go_fit HSM.out
  rintro e w4 ⟨⟨q, rfl, hq⟩, hb4⟩
  obtain rfl : q = true := hq.2 rfl
  have HB4 := Lib.hid (bel_next8 HB3.out hb4)
  have HPB := Lib.hid (pParse_any B nb cb bl w4 ((HY.out.below HB4.out).wide HB4.out.size) hc (by omega))
  clear hb4 hq HSM
  go_wp2_with fail
  go_fit HPB.out
  rintro e w5 ⟨hb5, A5, c5, sq, mq, err, rfl, hm5, hc5, hip⟩
  have HB5 := Lib.hid (bel_next8 HB4.out hb5)
  rcases parse_cases hip with ⟨rfl, hq1, hq2⟩ | ⟨hne, rfl⟩
  case inr =>
    have fe : (err != 0) = true := by simp [hne]
    have HAW5 := Lib.hid (HAW.out w5)
    clear hip hb5 hm5 HPB hne
    go_wp2_with fail
    go_fit HAW5.out
    rintro e w9 ⟨rfl, hb9⟩
    have HN := Lib.hid (bel_next8 HB5.out hb9)
    clear hb9
    go_wp2
    go_ret
    exact ⟨rfl, HN.out⟩
  have h64 := (errM_good hq1).few
  have HBQ := Lib.hid (pBuild_any mq sq A5 c5 w5 hm5 (by omega) hc5 (good_name hq1))
  have HQ1 := Lib.hid hq1
  have HQ2 := Lib.hid ((imgM_ok hq1).trans hq2)
  clear hip hb5 hm5 HPB hq1 hq2
  go_wp2_with fail
  go_fit HBQ.out
  rintro e w6 ⟨hb6, A6, c6, rfl, hby6, hc6⟩
  rw [HQ1.out]
  rw [HQ2.out] at hby6 hc6 ⊢
  have HB6 := Lib.hid (bel_next8 HB5.out hb6)
  have hs1 := hby6.str c6
  have hs2 := ((HY.out.below HB6.out).wide HB6.out.size).str cb
  unfold bs at hs1 hs2
  have HAW6 := Lib.hid (HAW.out w6)
  clear hb6 hby6 hc6 HBQ
  generalize bl.length = nl at *
  go_wp2_with fail
  go_fit HAW6.out
  rintro e w9 ⟨rfl, hb9⟩
  have HN := Lib.hid (bel_next8 HB6.out hb9)
  clear hb9
  go_wp2
  go_ret
  exact ⟨rfl, HN.out⟩
end Go.Proofs.YtcenonnccodfoaaDoor
