/-
  The set of a list of one fact: facts.merged, union, setOf.
  Conditions: the list has one fact, which has at most 1000 arguments, and they are no nil slice.
-/
import Derived.Test.YtfmajccblnmglaaGreatDoorFcl
import Derived.Laws.MakeOwn
namespace Go.Proofs.YtfmajccblnmglaaGreatDoor
open Go.RowKit Go.Shelf

theorem OwnG.base {α : Type} {enc : α → List Value} {T : TypeId} {k : Nat} {w : World} {b b' : Nat} {v : Value} {l : List α} (h : OwnG enc T k w b v l) (hb : b' ≤ b) : OwnG enc T k w b' v l := by
  refine ⟨h.1, ?_⟩
  rcases h.2 with hh | ⟨g, c, cur, e1, hbs, rest⟩
  · exact .inl hh
  · exact .inr ⟨g, c, cur, e1, by omega, rest⟩
theorem OwnG.nonnil {α : Type} {enc : α → List Value} {T : TypeId} {k : Nat} {w : World} {b : Nat} {v : Value} {x : α} {l : List α} (hk : ∀ x, (enc x).length = k) (h : OwnG enc T k w b v (x :: l)) : ∃ g cap, v = .slice (some ⟨g, 0, none⟩) (l.length + 1) cap ∧ b ≤ g ∧ g < w.heap.size ∧ l.length + 1 ≤ cap ∧ cap ≤ maxLen ∧ GRow enc k w w.heap.size (some ⟨g, 0, none⟩) (x :: l) := by
  obtain ⟨A, cap, e, hc, hm, hr⟩ := h.row hk
  rcases h.2 with ⟨_, h0⟩ | ⟨g, c, cur, e1, hbs, hh, _⟩
  · simp at h0
  · rw [e] at e1
    cases e1
    exact ⟨g, cap, e, hbs, (h.lt g (by rw [e]; rfl)).2, by simpa using hc, hm, hr⟩
set_option maxRecDepth 50000 in
set_option maxHeartbeats 1000000 in
theorem merged_one (f : SFact) (A : Addr) (c : Nat) (w : World) (h : GRow SFact.cells 2 w w.heap.size (some A) [f]) :
    Calls Tryz.prog 55 #[.slice (some A) 1 c, .slice none 0 0, .func (.func 56) #[] #[]] w fun e w' => (∃ v, e = .returned v ∧ OwnG SFact.cells 25 2 w' w.heap.size v [f]) ∧ Below w.heap.size w w' := by
  have HC := Lib.hid (cloneF_any [f] (some A) c (w.alloc (.cells #[.func (.func 56) #[] #[]] 34)) ((h.below (Nat.le_refl _) (bel_lit (Below.refl _ w) _)).wide (by simp)) (by simp) (by simp))
  rw [show [f].length = 1 from rfl] at HC
  go_enter Tryz.func55, Tryz.ntmps55
  go_wp2_with fail
  refine HC.out.mono ?_
  rintro e w1 ⟨⟨v1, rfl, ho1⟩, hb1⟩
  obtain ⟨g, cap, rfl, hg0, hg1, hc1, hcm, hr1⟩ := ho1.nonnil SFact.len
  have HO1 := Lib.hid ho1
  have HB1 := Lib.hid (bel_alloc (Below.refl _ w) hb1)
  have hbx : w1.cell? ⟨w.heap.size, 0, none⟩ = some (.func (.func 56) #[] #[]) := (hb1.cell (p := ⟨w.heap.size, 0, none⟩) (by simp)).trans (by go_simp)
  have hz1 : w.heap.size < w1.heap.size := by have := hb1.size; simp at this; omega
  have HR1 := Lib.hid hr1
  clear ho1 hb1 hr1
  go_wp2_with fail
  refine (cloneF_nil _).mono ?_
  rintro e w2 ⟨rfl, rfl⟩
  go_wp2_with fail
  refine (sort_tiny _ _ _ _ _ (by simp)).mono ?_
  rintro e w2 ⟨rfl, rfl⟩
  go_wp2_with fail
  refine (sort_tiny _ _ _ _ _ (by simp)).mono ?_
  rintro e w2 ⟨rfl, rfl⟩
  obtain ⟨i0, z, hi0, hz0, hz1, hz2, _⟩ := elt_fact.inf
  obtain ⟨w2, hmk, hm0, hgm⟩ := run_make_own (P := Tryz.prog) w1 w.heap.size 22 25 i0 z 2 elt_fact.und hi0 hz0 hz1 .i64 .i64 1 (by rw [hz2]; decide) (by unfold maxLen; decide) (by omega)
  have hm : OwnG SFact.cells 25 2 w2 w.heap.size (.slice (some ⟨w1.heap.size, 0, none⟩) 0 1) [] := hm0
  have hmk' : (Instr.makeSlice 22 (.int .i64 0) (.int .i64 1)).run Tryz.prog w1 = .ok (.slice (some ⟨w1.heap.size, 0, none⟩) 0 1) w2 := hmk
  have hb12 : Below w1.heap.size w1 w2 := (Below.refl _ _).grown hgm (Nat.le_refl _) (fun k hk => by cases hk)
  have hs12 := hb12.size
  obtain ⟨v3, w3, hrun3, hown3, hgr3, _⟩ := OwnG.app elt_fact SFact.len SFact.one hm cap ((HR1.out.below (Nat.le_refl _) hb12).wide hs12) (by omega) (by unfold maxLen; simp) (by simp)
  rw [List.nil_append] at hown3
  obtain ⟨v4, w4, hrun4, hown4, hgr4, _⟩ := OwnG.app elt_fact SFact.len SFact.one hown3 0 (GRow.nil (A := none) (B := 0)) (by have := hgr3.size; omega) (by unfold maxLen; simp) (by simp)
  rw [List.append_nil] at hown4
  obtain ⟨g3, cap3, rfl, _, _, _, _, _⟩ := hown3.nonnil SFact.len
  have HB3 := Lib.hid (below_of_own (bel_next HB1.out hb12) hgr3 (fun g hg => by simp [Value.ownBlock] at hg; omega))
  have HB4 := Lib.hid (below_of_own HB3.out hgr4 (fun g hg => (hown3.lt g hg).1))
  have HR3 := Lib.hid hrun3
  have HR4 := Lib.hid hrun4
  obtain ⟨g4, cap4, rfl, _, _, _, _, _⟩ := hown4.nonnil SFact.len
  have HO4 := Lib.hid hown4
  have HCT := Lib.hid fun F W => compact_tiny (some ⟨g4, 0, none⟩) 1 cap4 F W (by simp)
  clear hm hm0 hmk hgm hb12 hrun3 hown3 hgr3 hrun4 hown4 hgr4 hi0 hz0 hz1 hz2
  simp only [List.length_nil, Nat.zero_add] at *
  go_wp2
  go_loopw [0, 1, 7] (fun va vb vl wr => va = .slice (some ⟨g, 0, none⟩) 1 cap ∧ vb = .slice none 0 0 ∧ vl = .slice (some ⟨w1.heap.size, 0, none⟩) 0 1 ∧ wr = w2) (fun _ _ _ _ => 0)
  case atStart => exact ⟨rfl, rfl, rfl, rfl⟩
  case round =>
    obtain ⟨rfl, rfl, rfl, rfl⟩ := hrel
    clear hmk'
    go_wp2_with (at_builtin; (first | refine wpList_gapp (s := .tmp 51) (x := .tmp 52) HR3.out rfl rfl rfl rfl rfl ?_ | refine wpList_gapp (s := .tmp 53) (x := .tmp 54) HR4.out rfl rfl rfl rfl rfl ?_))
    refine (HCT.out _ _).mono ?_
    rintro e w5 ⟨rfl, rfl⟩
    go_wp2
    go_ret
    exact ⟨⟨_, rfl, HO4.out⟩, HB4.out⟩
end Go.Proofs.YtfmajccblnmglaaGreatDoor
