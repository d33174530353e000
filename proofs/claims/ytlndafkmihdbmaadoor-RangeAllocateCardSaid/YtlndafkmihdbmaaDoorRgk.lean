/-
  The maker of lists of ranges; copies of a row of ranges.
  Conditions: none beyond what each theorem says.
-/
import Derived.Test.YtlndafkmihdbmaaDoorRgj
namespace Go.Proofs.YtlndafkmihdbmaaDoor
open Go.RowKit

/-- A list of small ranges in memory of the call's own. -/
structure SmlEnd (w : World) (v : Value) (rs : List GR) (w' : World) : Prop where
  own : OwnR w' w.heap.size v rs
  few : rs.length ≤ 40
  ok : ∀ r ∈ rs, VR r ∧ r.bits ≤ 16
  bel : Below w.heap.size w w'
set_option maxRecDepth 20000 in
set_option maxHeartbeats 1000000 in
theorem mSmalls_any (A : Option Addr) (len cap : Nat) (zs : List Int) (w : World) (hr : IRow w w.heap.size A len cap zs) :
    Calls Tryd.prog 36 #[.slice A len cap] w fun e w' => ∃ v, e = .returned v ∧ ∃ rs, SmlEnd w v rs w' := by
  have HR := Lib.hid hr
  have HSM := Lib.hid fun a b W => mSmall_any a b W
  have hle := hr.le
  have hmx := hr.max
  clear hr
  go_enter Tryd.func36, Tryd.ntmps36
  go_wp2
  go_loopw [3, 4] (fun v3 v4 wr => ∃ i rs, v4 = .int .i64 (i : Nat) ∧ i ≤ 80 ∧ Hid (OwnR wr w.heap.size v3 rs ∧ 2 * rs.length = i ∧ (∀ r ∈ rs, VR r ∧ r.bits ≤ 16) ∧ Below w.heap.size w wr)) (fun _ v4 _ => 100 - (intOf v4).toNat)
  case atStart => exact ⟨0, [], rfl, by omega, Lib.hid ⟨OwnG.nil _ _, rfl, fun r h => by simp at h, Below.refl _ _⟩⟩
  case round =>
    obtain ⟨i, rs, rfl, hi, HO⟩ := hrel
    obtain ⟨An, cn, rfl, hcn, hmn, hrn⟩ := HO.out.1.row GR.len
    have HEND : Hid (∃ v, Ending.returned (.slice An rs.length cn) = .returned v ∧ ∃ rs', SmlEnd w v rs' wr) := Lib.hid ⟨_, rfl, rs, HO.out.1, by have := HO.out.2.1; omega, HO.out.2.2.1, HO.out.2.2.2⟩
    have hli := HO.out.2.1
    clear hcn hmn hrn
    by_cases h1 : i + 1 < len
    · have f1 : (i : Int) + 1 < len := by omega
      have f2 : decide ((i : Int) + 1 < len) = true := by simpa using f1
      by_cases h2 : i < 80
      · have f3 : decide ((i : Int) < 80) = true := by simp; omega
        obtain ⟨b1, o1, rfl, hb1, hat⟩ := HR.out.row (by omega)
        have HCL := Lib.hid fun W (hW : Below w.heap.size w W) => (show W.cell? ⟨b1, o1 + i, none⟩ = some (.int .i64 (zs.getD i 0)) ∧ W.cell? ⟨b1, o1 + (i + 1), none⟩ = some (.int .i64 (zs.getD (i + 1) 0)) from
          ⟨(hW.cell (p := ⟨b1, o1 + i, none⟩) hb1).trans (hat i (by omega)), (hW.cell (p := ⟨b1, o1 + (i + 1), none⟩) hb1).trans (hat (i + 1) (by omega))⟩)
        have HSJ := Lib.hid (HSM.out (zs.getD i 0) (zs.getD (i + 1) 0) wr.drew)
        have HB := Lib.hid HO.out.2.2.2.drew
        generalize zs.getD i 0 = z0 at *
        generalize zs.getD (i + 1) 0 = z1 at *
        have hrl : rs.length ≤ 40 := by omega
        have h3 : i < len := by omega
        have h5 : (0 : Int) ≤ (i : Int) + 1 := by omega
        have hwi : IntKind.i64.wrap ((i : Int) + 1) = ((i + 1 : Nat) : Int) := IntWalk.i64_in _ (by omega)
        generalize hnl : rs.length = nl at *
        clear hat
        go_upto_region 5 with fail
        refine wp_region_growS (S := fun W => Below w.heap.size w W) [(0, true), (1, true), (2, true), (3, true), (4, true), (5, true), (6, true), (7, true), (8, true), (9, true), (10, false), (11, false), (12, false), (13, true)] (by kernel_rfl) (by kernel_rfl) (by kernel_rfl) (by kernel_rfl) (by intro c a d v w h; cases d <;> exact h) HB.out ?_
        iterate 10
          (refine wpGrowS_float (v := ?_) (by simp only [List.getElem?_toArray, List.getElem?_cons_succ, List.getElem?_cons_zero]; rfl) (by rfl) ?_ ?_
           rotate_left
           · (intro W hW; obtain ⟨u0, u1⟩ := HCL.out W hW; go_simp; try with_reducible rfl)
           simp only [Act.put, List.setIfInBounds_toArray, List.set_cons_zero, List.set_cons_succ])
        refine wpGrowS_call (by simp only [List.getElem?_toArray, List.getElem?_cons_succ, List.getElem?_cons_zero]; rfl) (by rfl) fun K hK => ?_
        go_simp
        go_fit HSJ.out
        rintro e w5 ⟨⟨xb, xn⟩, hv, hb16, _, rfl, hb5⟩
        have hB5 : Below w.heap.size w w5 := beln HB.out hb5
        go_simp
        refine hK _ _ hB5 ?_
        clear hK K
        try simp only [Act.put, List.setIfInBounds_toArray, List.set_cons_zero, List.set_cons_succ]
        have HV := Lib.hid (show VR ⟨xb, xn⟩ ∧ (⟨xb, xn⟩ : GR).bits ≤ 16 from ⟨hv, hb16⟩)
        have ho5 : OwnR w5 w.heap.size (.slice An nl cn) rs := (HO.out.1.next (Below.refl _ wr).drew).next hb5
        obtain ⟨v9, w9, hrun9, hown9, hb9⟩ := OwnR.snoc ho5 hB5 ⟨xb, xn⟩ (by omega)
        simp only [GR.val]
        refine wpGrowS_call (by simp only [List.getElem?_toArray, List.getElem?_cons_succ, List.getElem?_cons_zero]; rfl) (by rfl) fun K hK => ?_
        go_simp
        refine hK _ _ (belt hB5 _) ?_
        clear hK K
        try simp only [Act.put, List.setIfInBounds_toArray, List.set_cons_zero, List.set_cons_succ]
        refine wpGrowS_call (by simp only [List.getElem?_toArray, List.getElem?_cons_succ, List.getElem?_cons_zero]; rfl) (by rfl) fun K hK => ?_
        refine oper_app10 (R := fun v W => v = v9 ∧ W = w9) ⟨v9, w9, hrun9, rfl, rfl⟩ rfl rfl rfl rfl ?_
        rintro v8 w8 ⟨rfl, rfl⟩
        refine hK _ _ hb9 ?_
        clear hK K
        try simp only [Act.put, List.setIfInBounds_toArray, List.set_cons_zero, List.set_cons_succ]
        iterate 1
          (refine wpGrowS_float (v := ?_) (by simp only [List.getElem?_toArray, List.getElem?_cons_succ, List.getElem?_cons_zero]; rfl) (by rfl) ?_ ?_
           rotate_left
           · (intro W hW; go_simp; try with_reducible rfl)
           simp only [Act.put, List.setIfInBounds_toArray, List.set_cons_zero, List.set_cons_succ])
        refine wpGrowS_nil ?_
        have HN : Hid (OwnR w8 w.heap.size v8 (rs ++ [⟨xb, xn⟩]) ∧ 2 * (rs ++ [(⟨xb, xn⟩ : GR)]).length = i + 2 ∧ (∀ r ∈ rs ++ [(⟨xb, xn⟩ : GR)], VR r ∧ r.bits ≤ 16) ∧ Below w.heap.size w w8) := Lib.hid ⟨hown9, by simp; omega, fun r hr => by
          rcases List.mem_append.1 hr with h | h
          · exact HO.out.2.2.1 r h
          · rw [List.mem_singleton] at h; subst h; exact HV.out, hb9⟩
        clear hrun9 hown9 hb9 ho5 hB5 hb5 hv hb16
        go_wp2
        go_roundw
        case rel => exact ⟨i + 2, _, by go_num, by omega, HN⟩
        case measure => simp [intOf]; omega
      · have f3 : decide ((i : Int) < 80) = false := by simp; omega
        have f4 : ¬ (i : Int) < 80 := by omega
        generalize rs.length = nl at *
        go_wp2
        go_ret
        exact HEND.out
    · have f1 : ¬ (i : Int) + 1 < len := by omega
      have f2 : decide ((i : Int) + 1 < len) = false := by simp; omega
      generalize rs.length = nl at *
      go_wp2
      go_ret
      exact HEND.out
theorem copied_any (l : List GR) (A : Option Addr) (c : Nat) (w : World) (h : GRow GR.cells 2 w w.heap.size A l) (hl : l.length ≤ 100000) :
    Calls Tryd.prog 28 #[.slice A l.length c] w fun e w' => ∃ v, e = .returned v ∧ OwnR w' w.heap.size v l ∧ Below w.heap.size w w' := by
  obtain ⟨v', w', hrun, hown, hg, _⟩ := OwnG.app elt_rng GR.len GR.one (OwnG.nil w w.heap.size : OwnR w w.heap.size _ []) c h (Nat.le_refl _) (by unfold maxLen; simp; omega) (by simp; omega)
  have HRUN := Lib.hid hrun
  have HEND : Hid (∃ v, Ending.returned v' = .returned v ∧ OwnR w' w.heap.size v l ∧ Below w.heap.size w w') := Lib.hid ⟨v', rfl, hown, (Below.refl _ w).grown hg (Nat.le_refl _) (fun g e => by simp [Value.ownBlock] at e)⟩
  clear hrun hown hg h hl
  generalize l.length = n at *
  go_enter Tryd.func28, Tryd.ntmps28
  go_wp2_with (at_builtin; refine wpList_gapp HRUN.out rfl rfl rfl rfl rfl ?_)
  go_ret
  exact HEND.out
end Go.Proofs.YtlndafkmihdbmaaDoor
