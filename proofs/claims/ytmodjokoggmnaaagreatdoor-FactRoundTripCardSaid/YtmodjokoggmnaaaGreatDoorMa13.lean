/-
  facts.Parse at a text of one fact whose arguments are numbers: the parser's loop over facts, the position of the text's end.
  Conditions: as each theorem says.
  Copies: slices.Clone at values and at facts; the sort and the compaction of at most one fact.
  Conditions: as each theorem says.
  The set of a list of one fact: facts.merged, union, setOf.
  Conditions: the list has one fact, which has at most 1000 arguments, and they are no nil slice.
-/
import Derived.Test.YtmodjokoggmnaaaGreatDoorMa12
import Derived.Test.YtmodjokoggmnaaaGreatDoorMa5
import Derived.Lib.LazyBuf
import Derived.Laws.MakeOwn
namespace Go.Proofs.YtmodjokoggmnaaaGreatDoor

open Go.RowKit Go.Shelf

theorem endPos_some (l : List UInt8) (w : World) (hl : l.length ≤ 65536) :
    Calls Tryz.prog 21 #[.string ⟨l.toArray⟩] w fun e w' => (∃ x y, e = .returned (.agg #[.int .i64 x, .int .i64 y])) ∧ Below w.heap.size w w' := by
  have hsz : (⟨l.toArray⟩ : ByteArray).size = l.length := ba_size l
  have H1 := Lib.hid (Tryz.strings_Count_one ⟨l.toArray⟩ 10)
  have H2 := Lib.hid (Tryz.strings_LastIndexByte ⟨l.toArray⟩ 10 (by rw [hsz]; omega))
  go_enter Tryz.func21, Tryz.ntmps21
  go_wp2_with fail
  refine (H1.out _).mono ?_
  rintro e w1 ⟨rfl, rfl⟩
  generalize (Lib.countByte _ _ : Int) = c1 at *
  go_wp2_with fail
  refine (H2.out _).mono ?_
  rintro e w1 ⟨rfl, rfl⟩
  generalize (Lib.lastIndexByte _ _ : Int) = c2 at *
  go_wp2
  exact bodyPost_ret (v := .agg #[.int .i64 (wrap64 (1 + c1)), .int .i64 (wrap64 ((l.length : Int) - c2))]) (by simp [results, Tryz.results21, go_sem]) rfl ⟨⟨_, _, rfl⟩, bel_lit (Below.refl _ _) _⟩

/-- A fact asx it lies in memory: its relation, and the slice of its arguments. -/
structure SFact where
  rel : List UInt8
  A : Option Addr
  n : Nat
  c : Nat
def SFact.cells (f : SFact) : List Value := [.string ⟨f.rel.toArray⟩, .slice f.A f.n f.c]
theorem SFact.len (f : SFact) : f.cells.length = 2 := rfl
theorem SFact.one (f : SFact) : ∀ u ∈ f.cells, u.oneCell' = true := by intro u hu; simp [SFact.cells] at hu; rcases hu with rfl | rfl <;> rfl
theorem elt_fact : Elt 22 37 2 40 := Elt.of (.agg #[.string ⟨#[]⟩, .slice none 0 0]) Tryz.underlying22 (by kernel_rfl) rfl (by decide)

structure FactToks (r : List UInt8) (vs : List Int) (ts : List GTok) : Prop where
  len : ts.length = 2 * vs.length + 4
  rel : ∀ h : 0 < ts.length, ts[0].kind = 1 ∧ ts[0].text = r
  r1 : 1 ≤ r.length
  r2 : r.length ≤ 24
  args : ArgToks vs (ts.drop 1)
  fin : ∀ h : 2 * vs.length + 3 < ts.length, ts[2 * vs.length + 3].kind = 0
def FactsRel (r : List UInt8) (vs : List Int) (ts : List GTok) (p : Nat) (w : World) (vl : Value) (wr : World) : Prop :=
  (vl = .slice none 0 0 ∧ wr = w) ∨
  ∃ A n c, OwnG SFact.cells 37 2 wr w.heap.size vl [⟨r, A, n, c⟩] ∧ OwnG GVal.cells 40 3 wr w.heap.size (.slice A n c) (vs.map gnum) ∧ PS wr p (ts.drop (2 * vs.length + 3)) ∧ w.grownBy wr (some p)
def FactsMeas (vl : Value) : Nat := match vl with
  | .slice _ l _ => 1 - l
  | _ => 0
def FactsEnd (r : List UInt8) (vs : List Int) (p : Nat) (w : World) (e : Ending) (w' : World) : Prop :=
  ∃ v A n c, e = .returned (.tuple #[v, .int .i64 0]) ∧ OwnG SFact.cells 37 2 w' w.heap.size v [⟨r, A, n, c⟩] ∧ OwnG GVal.cells 40 3 w' w.heap.size (.slice A n c) (vs.map gnum) ∧ w.grownBy w' (some p)

set_option maxRecDepth 50000 in
set_option maxHeartbeats 1000000 in
theorem facts_one (p : Nat) (r : List UInt8) (vs : List Int) (ts : List GTok) (w : World) (h : PS w p ts) (ht : FactToks r vs ts) :
    Calls Tryz.prog 22 #[.pointer (some ⟨p, 0, none⟩)] w (FactsEnd r vs p w) := by
  have hl := ht.len
  have hpw := h.lt
  have HT := Lib.hid ht
  have H0 := Lib.hid h
  clear ht h
  go_enter Tryz.func22, Tryz.ntmps22
  go_wp2
  go_loopw [4] (fun vl wr => FactsRel r vs ts p w vl wr) (fun vl _ => FactsMeas vl)
  case atStart => exact .inl ⟨rfl, rfl⟩
  case round =>
    rcases hrel with ⟨rfl, rfl⟩ | ⟨A, n, c, ho, hv, hps, hgb⟩
    · have hd : ts = ts[0] :: ts[1] :: ts.drop 2 := by rw [← List.drop_eq_getElem_cons (by omega), ← List.drop_eq_getElem_cons (by omega)]; rfl
      have HD1 : Hid (ts.drop 1 = ts[1] :: ts.drop 2) := Lib.hid (List.drop_eq_getElem_cons (by omega))
      have HDD : Hid ((ts.drop 1).drop (2 * vs.length + 2) = ts.drop (2 * vs.length + 3)) := Lib.hid (by rw [List.drop_drop]; congr 1; omega)
      have h0 := H0.out
      rw [hd] at h0
      obtain ⟨b, off, cp, hbp, _, hc1, hc2, hh, hcp, hfz, hr, x0, x1, x2, x3, x4⟩ := h0.open
      obtain ⟨k1, tx⟩ := HT.out.rel (by omega)
      have HREL := Lib.hid (relation_any p ts[0] ts[1] (ts.drop 2) wr h0 k1 (by rw [tx]; exact HT.out.r1) (by rw [tx]; exact HT.out.r2))
      rw [tx] at HREL
      rw [k1] at x0
      have HARG := Lib.hid fun W hW => arguments_nums p vs (ts.drop 1) W hW HT.out.args
      rw [HD1.out] at HARG
      rw [← HD1.out] at HARG
      have hbw : b < wr.heap.size := by omega
      have fk : ((1 : Int) != 0) = true := by decide
      clear hd h0 hh hr k1 tx
      generalize ts[0] = t0 at *
      go_wp2_with fail
      refine HREL.out.mono ?_
      rintro e w1 ⟨rfl, hps1, hg1⟩
      have HG1 := Lib.hid hg1
      have hs1 := hg1.size
      have HA2 := Lib.hid (HARG.out w1 (by rw [HD1.out]; exact hps1))
      clear hps1 hg1
      go_wp2_with fail
      refine HA2.out.mono ?_
      rintro e w2 ⟨va, rfl, hva, hps2, hg2⟩
      obtain ⟨A, cap, rfl, _, _, _⟩ := hva.row GVal.len
      have hs2 := hg2.size
      have hlit := GRow.lit SFact.len w2 37 [⟨r, A, (vs.map gnum).length, cap⟩] #[.string ⟨r.toArray⟩, .slice A (vs.map gnum).length cap] rfl (by unfold maxLen; simp)
      obtain ⟨v', w3, hrun, hown3, hgr3, hob⟩ := OwnG.app elt_fact SFact.len SFact.one (OwnG.nil (T := 37) (w2.alloc (.cells #[.string ⟨r.toArray⟩, .slice A (vs.map gnum).length cap] 37)) wr.heap.size) 1 hlit (by simp; omega) (by unfold maxLen; simp) (by simp)
      have HV3 := Lib.hid ((hva.alloc (.cells #[.string ⟨r.toArray⟩, .slice A (vs.map gnum).length cap] 37)).keep (w' := w3) fun g hg => hgr3.block g (by have := (hva.lt g hg).2; simp; omega) (by simp [Value.ownBlock]))
      have HG3 := Lib.hid (gb_own (gb_trans HG1.out (gb_lit hg2 (.cells #[.string ⟨r.toArray⟩, .slice A (vs.map gnum).length cap] 37))) hgr3 (fun g hg => by simp [Value.ownBlock] at hg))
      have HP3 := Lib.hid ((hps2.lit (.cells #[.string ⟨r.toArray⟩, .slice A (vs.map gnum).length cap] 37)).own hgr3 (fun g hg => by simp [Value.ownBlock] at hg))
      rw [HDD.out] at HP3
      rw [List.nil_append] at hown3
      obtain ⟨A3, cap3, rfl, _, _, _⟩ := hown3.row SFact.len
      have HO3 := Lib.hid hown3
      have HRUN := Lib.hid hrun
      have HVB : Hid (OwnG GVal.cells 40 3 w3 wr.heap.size (.slice A (vs.map gnum).length cap) (vs.map gnum)) := Lib.hid (by
        refine ⟨HV3.out.1, ?_⟩
        rcases HV3.out.2 with hh | ⟨g, c', cur, e1, hb, rest⟩
        · exact .inl hh
        · exact .inr ⟨g, c', cur, e1, by omega, rest⟩)
      generalize (vs.map gnum).length = nl at *
      clear hps2 hg2 hlit hrun hown3 hgr3 hva hob
      go_wp2_with (at_builtin; refine wpList_gapp HRUN.out rfl rfl rfl rfl rfl ?_)
      go_wp2
      go_roundw
      case rel => exact .inr ⟨A, nl, cap, HO3.out, HVB.out, HP3.out, HG3.out⟩
      case measure => simp [FactsMeas]
    · have hd : ts.drop (2 * vs.length + 3) = [ts[2 * vs.length + 3]] := by rw [List.drop_eq_getElem_cons (by omega), List.drop_eq_nil_of_le (by omega)]
      rw [hd] at hps
      obtain ⟨b, off, cp, hbp, _, hc1, hc2, hh, hcp, hfz, hr, x0, x1, x2, x3, x4⟩ := hps.open
      have k0 := HT.out.fin (by omega)
      rw [k0] at x0
      have HO := Lib.hid ho
      have HV := Lib.hid hv
      have HG := Lib.hid hgb
      obtain ⟨A3, cap3, rfl, _, _, _⟩ := ho.row SFact.len
      clear hd hps hh hr k0 ho hv hgb
      go_wp2
      go_ret2
      exact ⟨_, A, n, c, rfl, HO.out, HV.out, HG.out⟩
end Go.Proofs.YtmodjokoggmnaaaGreatDoor


namespace Go.Proofs.YtmodjokoggmnaaaGreatDoor

open Go.RowKit Go.Shelf

theorem nil_no (T : TypeId) (ad : Addr) (n c : Nat) (e : TypeId) (hT : Tryz.prog.underlying T = some (.slice e)) (W : World) : (binOp .eql T (.slice (some ad) n c) (.slice none 0 0)).run Tryz.prog W = .ok (.bool false) W := by
  rw [_root_.Go.run_eql_slice_nil W T e _ _ _ hT]; rfl
theorem nil_yes (T : TypeId) (e : TypeId) (hT : Tryz.prog.underlying T = some (.slice e)) (W : World) : (binOp .eql T (.slice none 0 0) (.slice none 0 0)).run Tryz.prog W = .ok (.bool true) W := by
  rw [_root_.Go.run_eql_slice_nil W T e _ _ _ hT]; rfl
theorem below_of_own {w w1 w2 : World} {q : Option Nat} (h : Below w.heap.size w w1) (h2 : w1.grownBy w2 q) (hq : ∀ g, q = some g → w.heap.size ≤ g) : Below w.heap.size w w2 := h.grown h2 h.size hq
set_option maxRecDepth 50000 in
theorem cloneV_any (vs : List GVal) (A : Option Addr) (c : Nat) (w : World) (h : GRow GVal.cells 3 w w.heap.size A vs) (hA : A ≠ none) (hl : vs.length ≤ 1000000) :
    Calls Tryz.prog 95 #[.slice A vs.length c] w fun e w' => (∃ v, e = .returned v ∧ OwnG GVal.cells 40 3 w' w.heap.size v vs) ∧ Below w.heap.size w w' := by
  obtain ⟨ad, rfl⟩ : ∃ ad, A = some ad := by cases A with | none => exact absurd rfl hA | some a => exact ⟨a, rfl⟩
  have ho := OwnG.lit (T := 40) GVal.len w w.heap.size [] #[] rfl (Nat.le_refl _) (by unfold maxLen; simp)
  obtain ⟨v', w', hrun, hown, hgr, _⟩ := OwnG.app elt_val GVal.len GVal.one ho c ((h.below (Nat.le_refl _) (bel_lit (Below.refl _ w) (.cells #[] 40))).wide (Nat.le_succ _)) (by simp) (by unfold maxLen; simp; omega) (by simp; omega)
  rw [List.nil_append] at hown
  have HB := Lib.hid (below_of_own (bel_lit (Below.refl w.heap.size w) _) hgr (fun g hg => by simp [Value.ownBlock] at hg; omega))
  have HRUN := Lib.hid hrun
  have HO := Lib.hid hown
  have hq := nil_no 35 ad vs.length c _ Tryz.underlying35
  clear h ho hrun hown hgr
  go_enter Tryz.func95, Tryz.ntmps95
  go_wp2_with (at_builtin; refine wpList_gapp HRUN.out rfl rfl rfl rfl rfl ?_)
  go_wp2
  go_ret
  exact ⟨⟨_, rfl, HO.out⟩, HB.out⟩
set_option maxRecDepth 50000 in
theorem cloneF_any (fs : List SFact) (A : Option Addr) (c : Nat) (w : World) (h : GRow SFact.cells 2 w w.heap.size A fs) (hA : A ≠ none) (hl : fs.length ≤ 1000000) :
    Calls Tryz.prog 121 #[.slice A fs.length c] w fun e w' => (∃ v, e = .returned v ∧ OwnG SFact.cells 37 2 w' w.heap.size v fs) ∧ Below w.heap.size w w' := by
  obtain ⟨ad, rfl⟩ : ∃ ad, A = some ad := by cases A with | none => exact absurd rfl hA | some a => exact ⟨a, rfl⟩
  have ho := OwnG.lit (T := 37) SFact.len w w.heap.size [] #[] rfl (Nat.le_refl _) (by unfold maxLen; simp)
  obtain ⟨v', w', hrun, hown, hgr, _⟩ := OwnG.app elt_fact SFact.len SFact.one ho c ((h.below (Nat.le_refl _) (bel_lit (Below.refl _ w) (.cells #[] 37))).wide (Nat.le_succ _)) (by simp) (by unfold maxLen; simp; omega) (by simp; omega)
  rw [List.nil_append] at hown
  have HB := Lib.hid (below_of_own (bel_lit (Below.refl w.heap.size w) _) hgr (fun g hg => by simp [Value.ownBlock] at hg; omega))
  have HRUN := Lib.hid hrun
  have HO := Lib.hid hown
  have hq := nil_no 22 ad fs.length c _ Tryz.underlying22
  clear h ho hrun hown hgr
  go_enter Tryz.func121, Tryz.ntmps121
  go_wp2_with (at_builtin; refine wpList_gapp HRUN.out rfl rfl rfl rfl rfl ?_)
  go_wp2
  go_ret
  exact ⟨⟨_, rfl, HO.out⟩, HB.out⟩
set_option maxRecDepth 50000 in
theorem cloneF_nil (w : World) : Calls Tryz.prog 121 #[.slice none 0 0] w fun e w' => e = .returned (.slice none 0 0) ∧ w = w' := by
  have hq := nil_yes 22 _ Tryz.underlying22
  go_enter Tryz.func121, Tryz.ntmps121
  go_wp2
  go_ret
  exact ⟨rfl, rfl⟩
theorem insertion_tiny (A : Option Addr) (n c : Nat) (f : Value) (w : World) (hn : n ≤ 1) :
    Calls Tryz.prog 158 #[.slice A n c, .int .i64 0, .int .i64 n, f] w fun e w' => e = .returned (.tuple #[]) ∧ w = w' := by
  have hf : decide ((1 : Int) < (n : Int)) = false := by simp; omega
  have hf2 : ¬ (1 : Int) < (n : Int) := by omega
  go_enter Tryz.func158, Tryz.ntmps158
  go_wp2
  go_loop [8] (fun vi => vi = .int .i64 1) (fun _ => 0)
  case atStart => rfl
  case round =>
    obtain rfl := hrel
    go_wp2
    go_end0
    exact ⟨rfl, rfl⟩
set_option maxRecDepth 100000 in
theorem pdq_tiny (A : Option Addr) (n c : Nat) (l : Int) (f : Value) (w : World) (hn : n ≤ 1) :
    Calls Tryz.prog 142 #[.slice A n c, .int .i64 0, .int .i64 n, .int .i64 l, f] w fun e w' => e = .returned (.tuple #[]) ∧ w = w' := by
  have HI := Lib.hid (insertion_tiny A n c f w hn)
  have hf : decide ((n : Int) ≤ 12) = true := by simp; omega
  have hf2 : (n : Int) ≤ 12 := by omega
  go_enter Tryz.func142, Tryz.ntmps142
  go_wp2
  go_loop [1, 2, 3, 10, 11] (fun va vb vl v10 v11 => va = .int .i64 0 ∧ vb = .int .i64 n ∧ vl = .int .i64 l ∧ v10 = .bool true ∧ v11 = .bool true) (fun _ _ _ _ _ => 0)
  case atStart => exact ⟨rfl, rfl, rfl, rfl, rfl⟩
  case round =>
    obtain ⟨rfl, rfl, rfl, rfl, rfl⟩ := hrel
    go_wp2_with fail
    refine HI.out.mono ?_
    rintro e w1 ⟨rfl, rfl⟩
    go_wp2
    exact bodyPost_ret (v := .tuple #[]) (by simp [results, Tryz.results142]) rfl ⟨rfl, rfl⟩
theorem sort_tiny (A : Option Addr) (n c : Nat) (f : Value) (w : World) (hn : n ≤ 1) :
    Calls Tryz.prog 122 #[.slice A n c, f] w fun e w' => e = .returned (.tuple #[]) ∧ w = w' := by
  have HL := Lib.hid (Tryz.bits_Len (n : Int) w (by omega) (by omega))
  have HP := Lib.hid fun l => pdq_tiny A n c l f w hn
  have hw : IntKind.u64.wrap (n : Int) = n := IntWalk.u64_in _ (by omega)
  go_enter Tryz.func122, Tryz.ntmps122
  go_wp2_with fail
  refine HL.out.mono ?_
  rintro e w1 ⟨rfl, rfl⟩
  go_wp2_with fail
  refine (HP.out _).mono ?_
  rintro e w1 ⟨rfl, rfl⟩
  go_wp2
  go_end0
  exact ⟨rfl, rfl⟩
theorem compact_tiny (A : Option Addr) (n c : Nat) (f : Value) (w : World) (hn : n ≤ 1) :
    Calls Tryz.prog 123 #[.slice A n c, f] w fun e w' => e = .returned (.slice A n c) ∧ w = w' := by
  have hf : decide ((n : Int) < 2) = true := by simp; omega
  have hf2 : (n : Int) < 2 := by omega
  have hf3 : n < 2 := by omega
  go_enter Tryz.func123, Tryz.ntmps123
  go_wp2
  go_ret
  exact ⟨rfl, rfl⟩
end Go.Proofs.YtmodjokoggmnaaaGreatDoor


namespace Go.Proofs.YtmodjokoggmnaaaGreatDoor

open Go.RowKit Go.Shelf

theorem OwnG.base {α : Type} {enc : α → List Value} {T : TypeId} {k : Nat} {w : World} {b b' : Nat} {v : Value} {l : List α} (h : OwnG enc T k w b v l) (hb : b' ≤ b) : OwnG enc T k w b' v l := by
  refine ⟨h.1, ?_⟩
  rcases h.2 with hh | ⟨g, c, cur, e1, hbs, rest⟩
  · exact .inl hh
  · exact .inr ⟨g, c, cur, e1, by omega, rest⟩
theorem OwnG.nonnil {α : Type} {enc : α → List Value} {T : TypeId} {k : Nat} {w : World} {b : Nat} {v : Value} {x : α} {l : List α} (hk : ∀ x, (enc x).length = k) (h : OwnG enc T k w b v (x :: l)) : ∃ g cap, v = .slice (some ⟨g, 0, none⟩) (l.length + 1) cap ∧ b ≤ g ∧ g < w.heap.size ∧ l.length + 1 ≤ cap ∧ cap ≤ maxLen ∧ GRow enc k w w.heap.size (some ⟨g, 0, none⟩) (x :: l) := by
  obtain ⟨A, cap, e, hc, hm, hr⟩ := h.row hk
  rcases h.2 with ⟨_, h0⟩ | ⟨g, c, cur, e1, hbs, hh, _⟩
  · simp at h0
  · rw [e] at e1
    cases e1
    exact ⟨g, cap, e, hbs, (h.lt g (by rw [e]; rfl)).2, by simpa using hc, hm, hr⟩
set_option maxRecDepth 50000 in
set_option maxHeartbeats 1000000 in
theorem merged_one (f : SFact) (A : Addr) (c : Nat) (w : World) (h : GRow SFact.cells 2 w w.heap.size (some A) [f]) :
    Calls Tryz.prog 93 #[.slice (some A) 1 c, .slice none 0 0, .func (.func 94) #[] #[]] w fun e w' => (∃ v, e = .returned v ∧ OwnG SFact.cells 37 2 w' w.heap.size v [f]) ∧ Below w.heap.size w w' := by
  have HC := Lib.hid (cloneF_any [f] (some A) c (w.alloc (.cells #[.func (.func 94) #[] #[]] 44)) ((h.below (Nat.le_refl _) (bel_lit (Below.refl _ w) _)).wide (by simp)) (by simp) (by simp))
  rw [show [f].length = 1 from rfl] at HC
  go_enter Tryz.func93, Tryz.ntmps93
  go_wp2_with fail
  refine HC.out.mono ?_
  rintro e w1 ⟨⟨v1, rfl, ho1⟩, hb1⟩
  obtain ⟨g, cap, rfl, hg0, hg1, hc1, hcm, hr1⟩ := ho1.nonnil SFact.len
  have HO1 := Lib.hid ho1
  have HB1 := Lib.hid (bel_alloc (Below.refl _ w) hb1)
  have hbx : w1.cell? ⟨w.heap.size, 0, none⟩ = some (.func (.func 94) #[] #[]) := (hb1.cell (p := ⟨w.heap.size, 0, none⟩) (by simp)).trans (by go_simp)
  have hz1 : w.heap.size < w1.heap.size := by have := hb1.size; simp at this; omega
  have HR1 := Lib.hid hr1
  clear ho1 hb1 hr1
  go_wp2_with fail
  refine (cloneF_nil _).mono ?_
  rintro e w2 ⟨rfl, rfl⟩
  go_wp2_with fail
  refine (sort_tiny _ _ _ _ _ (by simp)).mono ?_
  rintro e w2 ⟨rfl, rfl⟩
  go_wp2_with fail
  refine (sort_tiny _ _ _ _ _ (by simp)).mono ?_
  rintro e w2 ⟨rfl, rfl⟩
  obtain ⟨i0, z, hi0, hz0, hz1, hz2, _⟩ := elt_fact.inf
  obtain ⟨w2, hmk, hm0, hgm⟩ := run_make_own (P := Tryz.prog) w1 w.heap.size 22 37 i0 z 2 elt_fact.und hi0 hz0 hz1 .i64 .i64 1 (by rw [hz2]; decide) (by unfold maxLen; decide) (by omega)
  have hm : OwnG SFact.cells 37 2 w2 w.heap.size (.slice (some ⟨w1.heap.size, 0, none⟩) 0 1) [] := hm0
  have hmk' : (Instr.makeSlice 22 (.int .i64 0) (.int .i64 1)).run Tryz.prog w1 = .ok (.slice (some ⟨w1.heap.size, 0, none⟩) 0 1) w2 := hmk
  have hb12 : Below w1.heap.size w1 w2 := (Below.refl _ _).grown hgm (Nat.le_refl _) (fun k hk => by cases hk)
  have hs12 := hb12.size
  obtain ⟨v3, w3, hrun3, hown3, hgr3, _⟩ := OwnG.app elt_fact SFact.len SFact.one hm cap ((HR1.out.below (Nat.le_refl _) hb12).wide hs12) (by omega) (by unfold maxLen; simp) (by simp)
  rw [List.nil_append] at hown3
  obtain ⟨v4, w4, hrun4, hown4, hgr4, _⟩ := OwnG.app elt_fact SFact.len SFact.one hown3 0 (GRow.nil (A := none) (B := 0)) (by have := hgr3.size; omega) (by unfold maxLen; simp) (by simp)
  rw [List.append_nil] at hown4
  obtain ⟨g3, cap3, rfl, _, _, _, _, _⟩ := hown3.nonnil SFact.len
  have HB3 := Lib.hid (below_of_own (bel_next HB1.out hb12) hgr3 (fun g hg => by simp [Value.ownBlock] at hg; omega))
  have HB4 := Lib.hid (below_of_own HB3.out hgr4 (fun g hg => (hown3.lt g hg).1))
  have HR3 := Lib.hid hrun3
  have HR4 := Lib.hid hrun4
  obtain ⟨g4, cap4, rfl, _, _, _, _, _⟩ := hown4.nonnil SFact.len
  have HO4 := Lib.hid hown4
  have HCT := Lib.hid fun F W => compact_tiny (some ⟨g4, 0, none⟩) 1 cap4 F W (by simp)
  clear hm hm0 hmk hgm hb12 hrun3 hown3 hgr3 hrun4 hown4 hgr4 hi0 hz0 hz1 hz2
  simp only [List.length_nil, Nat.zero_add] at *
  go_wp2
  go_loopw [0, 1, 7] (fun va vb vl wr => va = .slice (some ⟨g, 0, none⟩) 1 cap ∧ vb = .slice none 0 0 ∧ vl = .slice (some ⟨w1.heap.size, 0, none⟩) 0 1 ∧ wr = w2) (fun _ _ _ _ => 0)
  case atStart => exact ⟨rfl, rfl, rfl, rfl⟩
  case round =>
    obtain ⟨rfl, rfl, rfl, rfl⟩ := hrel
    clear hmk'
    go_wp2_with (at_builtin; (first | refine wpList_gapp (s := .tmp 51) (x := .tmp 52) HR3.out rfl rfl rfl rfl rfl ?_ | refine wpList_gapp (s := .tmp 53) (x := .tmp 54) HR4.out rfl rfl rfl rfl rfl ?_))
    refine (HCT.out _ _).mono ?_
    rintro e w5 ⟨rfl, rfl⟩
    go_wp2
    go_ret
    exact ⟨⟨_, rfl, HO4.out⟩, HB4.out⟩
end Go.Proofs.YtmodjokoggmnaaaGreatDoor
