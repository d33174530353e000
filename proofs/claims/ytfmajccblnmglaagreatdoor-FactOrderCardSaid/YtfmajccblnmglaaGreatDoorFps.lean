/-
  facts.Parse at a text of one fact whose arguments are numbers: the parser's loop over facts, the position of the text's end.
  Conditions: as each theorem says.
-/
import Derived.Test.YtfmajccblnmglaaGreatDoorFpr
import Derived.Test.YtfmajccblnmglaaGreatDoorAwk
namespace Go.Proofs.YtfmajccblnmglaaGreatDoor
open Go.RowKit Go.Shelf

theorem endPos_some (l : List UInt8) (w : World) (hl : l.length ≤ 65536) :
    Calls Tryz.prog 46 #[.string ⟨l.toArray⟩] w fun e w' => (∃ x y, e = .returned (.agg #[.int .i64 x, .int .i64 y])) ∧ Below w.heap.size w w' := by
  have hsz : (⟨l.toArray⟩ : ByteArray).size = l.length := ba_size l
  have H1 := Lib.hid (Tryz.strings_Count_one ⟨l.toArray⟩ 10)
  have H2 := Lib.hid (Tryz.strings_LastIndexByte ⟨l.toArray⟩ 10 (by rw [hsz]; omega))
  go_enter Tryz.func46, Tryz.ntmps46
  go_wp2_with fail
  refine (H1.out _).mono ?_
  rintro e w1 ⟨rfl, rfl⟩
  generalize (Lib.countByte _ _ : Int) = c1 at *
  go_wp2_with fail
  refine (H2.out _).mono ?_
  rintro e w1 ⟨rfl, rfl⟩
  generalize (Lib.lastIndexByte _ _ : Int) = c2 at *
  go_wp2
  exact bodyPost_ret (v := .agg #[.int .i64 (wrap64 (1 + c1)), .int .i64 (wrap64 ((l.length : Int) - c2))]) (by simp [results, Tryz.results46, go_sem]) rfl ⟨⟨_, _, rfl⟩, bel_lit (Below.refl _ _) _⟩

/-- A fact as it lies in memory: its relation, and the slice of its arguments. -/
structure SFact where
  rel : List UInt8
  A : Option Addr
  n : Nat
  c : Nat
def SFact.cells (f : SFact) : List Value := [.string ⟨f.rel.toArray⟩, .slice f.A f.n f.c]
theorem SFact.len (f : SFact) : f.cells.length = 2 := rfl
theorem SFact.one (f : SFact) : ∀ u ∈ f.cells, u.oneCell' = true := by intro u hu; simp [SFact.cells] at hu; rcases hu with rfl | rfl <;> rfl
theorem elt_fact : Elt 22 25 2 40 := Elt.of (.agg #[.string ⟨#[]⟩, .slice none 0 0]) Tryz.underlying22 (by kernel_rfl) rfl (by decide)

structure FactToks (r : List UInt8) (vs : List Int) (ts : List GTok) : Prop where
  len : ts.length = 2 * vs.length + 4
  rel : ∀ h : 0 < ts.length, ts[0].kind = 1 ∧ ts[0].text = r
  r1 : 1 ≤ r.length
  r2 : r.length ≤ 24
  args : ArgToks vs (ts.drop 1)
  fin : ∀ h : 2 * vs.length + 3 < ts.length, ts[2 * vs.length + 3].kind = 0
def FactsRel (r : List UInt8) (vs : List Int) (ts : List GTok) (p : Nat) (w : World) (vl : Value) (wr : World) : Prop :=
  (vl = .slice none 0 0 ∧ wr = w) ∨
  ∃ A n c, OwnG SFact.cells 25 2 wr w.heap.size vl [⟨r, A, n, c⟩] ∧ OwnG GVal.cells 40 3 wr w.heap.size (.slice A n c) (vs.map gnum) ∧ PS wr p (ts.drop (2 * vs.length + 3)) ∧ w.grownBy wr (some p)
def FactsMeas (vl : Value) : Nat := match vl with
  | .slice _ l _ => 1 - l
  | _ => 0
def FactsEnd (r : List UInt8) (vs : List Int) (p : Nat) (w : World) (e : Ending) (w' : World) : Prop :=
  ∃ v A n c, e = .returned (.tuple #[v, .int .i64 0]) ∧ OwnG SFact.cells 25 2 w' w.heap.size v [⟨r, A, n, c⟩] ∧ OwnG GVal.cells 40 3 w' w.heap.size (.slice A n c) (vs.map gnum) ∧ w.grownBy w' (some p)

set_option maxRecDepth 50000 in
set_option maxHeartbeats 1000000 in
theorem facts_one (p : Nat) (r : List UInt8) (vs : List Int) (ts : List GTok) (w : World) (h : PS w p ts) (ht : FactToks r vs ts) :
    Calls Tryz.prog 47 #[.pointer (some ⟨p, 0, none⟩)] w (FactsEnd r vs p w) := by
  have hl := ht.len
  have hpw := h.lt
  have HT := Lib.hid ht
  have H0 := Lib.hid h
  clear ht h
  go_enter Tryz.func47, Tryz.ntmps47
  go_wp2
  go_loopw [4] (fun vl wr => FactsRel r vs ts p w vl wr) (fun vl _ => FactsMeas vl)
  case atStart => exact .inl ⟨rfl, rfl⟩
  case round =>
    rcases hrel with ⟨rfl, rfl⟩ | ⟨A, n, c, ho, hv, hps, hgb⟩
    · have hd : ts = ts[0] :: ts[1] :: ts.drop 2 := by rw [← List.drop_eq_getElem_cons (by omega), ← List.drop_eq_getElem_cons (by omega)]; rfl
      have HD1 : Hid (ts.drop 1 = ts[1] :: ts.drop 2) := Lib.hid (List.drop_eq_getElem_cons (by omega))
      have HDD : Hid ((ts.drop 1).drop (2 * vs.length + 2) = ts.drop (2 * vs.length + 3)) := Lib.hid (by rw [List.drop_drop]; congr 1; omega)
      have h0 := H0.out
      rw [hd] at h0
      obtain ⟨b, off, cp, hbp, _, hc1, hc2, hh, hcp, hfz, hr, x0, x1, x2, x3, x4⟩ := h0.open
      obtain ⟨k1, tx⟩ := HT.out.rel (by omega)
      have HREL := Lib.hid (relation_any p ts[0] ts[1] (ts.drop 2) wr h0 k1 (by rw [tx]; exact HT.out.r1) (by rw [tx]; exact HT.out.r2))
      rw [tx] at HREL
      rw [k1] at x0
      have HARG := Lib.hid fun W hW => arguments_nums p vs (ts.drop 1) W hW HT.out.args
      rw [HD1.out] at HARG
      rw [← HD1.out] at HARG
      have hbw : b < wr.heap.size := by omega
      have fk : ((1 : Int) != 0) = true := by decide
      clear hd h0 hh hr k1 tx
      generalize ts[0] = t0 at *
      go_wp2_with fail
      refine HREL.out.mono ?_
      rintro e w1 ⟨rfl, hps1, hg1⟩
      have HG1 := Lib.hid hg1
      have hs1 := hg1.size
      have HA2 := Lib.hid (HARG.out w1 (by rw [HD1.out]; exact hps1))
      clear hps1 hg1
      go_wp2_with fail
      refine HA2.out.mono ?_
      rintro e w2 ⟨va, rfl, hva, hps2, hg2⟩
      obtain ⟨A, cap, rfl, _, _, _⟩ := hva.row GVal.len
      have hs2 := hg2.size
      have hlit := GRow.lit SFact.len w2 25 [⟨r, A, (vs.map gnum).length, cap⟩] #[.string ⟨r.toArray⟩, .slice A (vs.map gnum).length cap] rfl (by unfold maxLen; simp)
      obtain ⟨v', w3, hrun, hown3, hgr3, hob⟩ := OwnG.app elt_fact SFact.len SFact.one (OwnG.nil (T := 25) (w2.alloc (.cells #[.string ⟨r.toArray⟩, .slice A (vs.map gnum).length cap] 25)) wr.heap.size) 1 hlit (by simp; omega) (by unfold maxLen; simp) (by simp)
      have HV3 := Lib.hid ((hva.alloc (.cells #[.string ⟨r.toArray⟩, .slice A (vs.map gnum).length cap] 25)).keep (w' := w3) fun g hg => hgr3.block g (by have := (hva.lt g hg).2; simp; omega) (by simp [Value.ownBlock]))
      have HG3 := Lib.hid (gb_own (gb_trans HG1.out (gb_lit hg2 (.cells #[.string ⟨r.toArray⟩, .slice A (vs.map gnum).length cap] 25))) hgr3 (fun g hg => by simp [Value.ownBlock] at hg))
      have HP3 := Lib.hid ((hps2.lit (.cells #[.string ⟨r.toArray⟩, .slice A (vs.map gnum).length cap] 25)).own hgr3 (fun g hg => by simp [Value.ownBlock] at hg))
      rw [HDD.out] at HP3
      rw [List.nil_append] at hown3
      obtain ⟨A3, cap3, rfl, _, _, _⟩ := hown3.row SFact.len
      have HO3 := Lib.hid hown3
      have HRUN := Lib.hid hrun
      have HVB : Hid (OwnG GVal.cells 40 3 w3 wr.heap.size (.slice A (vs.map gnum).length cap) (vs.map gnum)) := Lib.hid (by
        refine ⟨HV3.out.1, ?_⟩
        rcases HV3.out.2 with hh | ⟨g, c', cur, e1, hb, rest⟩
        · exact .inl hh
        · exact .inr ⟨g, c', cur, e1, by omega, rest⟩)
      generalize (vs.map gnum).length = nl at *
      clear hps2 hg2 hlit hrun hown3 hgr3 hva hob
      go_wp2_with (at_builtin; refine wpList_gapp HRUN.out rfl rfl rfl rfl rfl ?_)
      go_wp2
      go_roundw
      case rel => exact .inr ⟨A, nl, cap, HO3.out, HVB.out, HP3.out, HG3.out⟩
      case measure => simp [FactsMeas]
    · have hd : ts.drop (2 * vs.length + 3) = [ts[2 * vs.length + 3]] := by rw [List.drop_eq_getElem_cons (by omega), List.drop_eq_nil_of_le (by omega)]
      rw [hd] at hps
      obtain ⟨b, off, cp, hbp, _, hc1, hc2, hh, hcp, hfz, hr, x0, x1, x2, x3, x4⟩ := hps.open
      have k0 := HT.out.fin (by omega)
      rw [k0] at x0
      have HO := Lib.hid ho
      have HV := Lib.hid hv
      have HG := Lib.hid hgb
      obtain ⟨A3, cap3, rfl, _, _, _⟩ := ho.row SFact.len
      clear hd hps hh hr k0 ho hv hgb
      go_wp2
      go_ret2
      exact ⟨_, A, n, c, rfl, HO.out, HV.out, HG.out⟩
end Go.Proofs.YtfmajccblnmglaaGreatDoor
