/-
  The outermost ranges of a list, as the program finds them.
  Conditions: at most 100000 ranges.
-/
import Derived.Test.YtndppbfdcceflaaGreatDoorMrd
import Derived.Test.YtndppbfdcceflaaGreatDoorMre
namespace Go.Proofs.YtndppbfdcceflaaGreatDoor

open Go.RowKit

theorem insertion_tiny (A : Option Addr) (n c : Nat) (f : Value) (w : World) (hn : n ≤ 1) :
    Calls Tryz.prog 152 #[.slice A n c, .int .i64 0, .int .i64 n, f] w fun e w' => e = .returned (.tuple #[]) ∧ w = w' := by
  have hf : decide ((1 : Int) < (n : Int)) = false := by simp; omega
  have hf2 : ¬ (1 : Int) < (n : Int) := by omega
  go_enter Tryz.func152, Tryz.ntmps152
  go_wp2
  go_loop [8] (fun vi => vi = .int .i64 1) (fun _ => 0)
  case atStart => rfl
  case round =>
    obtain rfl := hrel
    go_wp2
    go_end0
    exact ⟨rfl, rfl⟩
set_option maxRecDepth 100000 in
theorem pdq_tiny (A : Option Addr) (n c : Nat) (l : Int) (f : Value) (w : World) (hn : n ≤ 1) :
    Calls Tryz.prog 144 #[.slice A n c, .int .i64 0, .int .i64 n, .int .i64 l, f] w fun e w' => e = .returned (.tuple #[]) ∧ w = w' := by
  have HI := Lib.hid (insertion_tiny A n c f w hn)
  have hf : decide ((n : Int) ≤ 12) = true := by simp; omega
  have hf2 : (n : Int) ≤ 12 := by omega
  go_enter Tryz.func144, Tryz.ntmps144
  go_wp2
  go_loop [1, 2, 3, 10, 11] (fun va vb vl v10 v11 => va = .int .i64 0 ∧ vb = .int .i64 n ∧ vl = .int .i64 l ∧ v10 = .bool true ∧ v11 = .bool true) (fun _ _ _ _ _ => 0)
  case atStart => exact ⟨rfl, rfl, rfl, rfl, rfl⟩
  case round =>
    obtain ⟨rfl, rfl, rfl, rfl, rfl⟩ := hrel
    go_wp2_with fail
    refine HI.out.mono ?_
    rintro e w1 ⟨rfl, rfl⟩
    go_wp2
    exact bodyPost_ret (v := .tuple #[]) (by simp [results, Tryz.results144]) rfl ⟨rfl, rfl⟩
theorem sort_tiny (A : Option Addr) (n c : Nat) (f : Value) (w : World) (hn : n ≤ 1) :
    Calls Tryz.prog 128 #[.slice A n c, f] w fun e w' => e = .returned (.tuple #[]) ∧ w = w' := by
  have HL := Lib.hid (Tryz.bits_Len (n : Int) w (by omega) (by omega))
  have HP := Lib.hid fun l => pdq_tiny A n c l f w hn
  have hw : IntKind.u64.wrap (n : Int) = n := IntWalk.u64_in _ (by omega)
  go_enter Tryz.func128, Tryz.ntmps128
  go_wp2_with fail
  refine HL.out.mono ?_
  rintro e w1 ⟨rfl, rfl⟩
  go_wp2_with fail
  refine (HP.out _).mono ?_
  rintro e w1 ⟨rfl, rfl⟩
  go_wp2
  go_end0
  exact ⟨rfl, rfl⟩
theorem sortR_all (v : Value) (es : List GR) (base : Nat) (w : World) (h : OwnR w base v es) (hn : es.length ≤ 1000000) :
    Calls Tryz.prog 128 #[v, .func (.func 129) #[] #[]] w fun e w' => e = .returned (.tuple #[]) ∧ ∃ es' : List GR, es'.Perm es ∧ es'.Pairwise leR ∧ OwnR w' base v es' ∧ w.grownBy w' v.ownBlock := by
  rcases h.2 with ⟨hv, h0⟩ | ⟨g, cap, cur, hv, _⟩
  · have he : es = [] := List.eq_nil_of_length_eq_zero h0
    subst hv he
    refine (sort_tiny none 0 0 _ w (by omega)).mono ?_
    rintro e w' ⟨rfl, rfl⟩
    exact ⟨rfl, [], List.Perm.refl _, List.Pairwise.nil, OwnG.nil _ _, World.grownBy.refl _ _⟩
  · subst hv
    refine (sortR_own es base w g cap h (by omega)).mono ?_
    rintro e w' ⟨rfl, es', h1, h2, h3, h4⟩
    exact ⟨rfl, es', h1, h2, h3, h4⟩
/-- How outermost ends: some outermost ranges of the list, in memory of the call's own. -/
def OutEnd (us : List GR) (w : World) (e : Ending) (w' : World) : Prop := ∃ v os, e = .returned v ∧ OutS us os ∧ os.length ≤ us.length ∧ OwnR w' w.heap.size v os ∧ Below w.heap.size w w'
/-- The loop over the sorted ranges: what is kept, the end of the last one kept, and what is left. -/
structure OutI (ss : List GR) (k : Nat) (n : Int) (l : List GR) : Prop where
  res : l ++ outF n (ss.drop k) = outF 0 ss
  len : l.length ≤ k
theorem OutI.start (ss : List GR) : OutI ss 0 0 [] := ⟨rfl, Nat.le_refl _⟩
theorem OutI.skip {ss : List GR} {k : Nat} {n : Int} {l : List GR} (h : OutI ss k n l) (hk : k < ss.length) (hn : ss[k].base < n) : OutI ss (k + 1) n l := by
  refine ⟨?_, Nat.le_succ_of_le h.len⟩
  rw [← h.res, List.drop_eq_getElem_cons hk, outF, if_neg (by omega)]
theorem OutI.take {ss : List GR} {k : Nat} {n : Int} {l : List GR} (h : OutI ss k n l) (hk : k < ss.length) (hn : n ≤ ss[k].base) : OutI ss (k + 1) (ss[k].base + ss[k].sz) (l ++ [ss[k]]) := by
  refine ⟨?_, by rw [List.length_append, List.length_singleton]; have := h.len; omega⟩
  rw [← h.res, List.drop_eq_getElem_cons hk, outF, if_pos hn, List.append_assoc]; rfl
theorem v_snoc {us : List GR} {k : Nat} (h : k < us.length) : (us.take (k + 1)).filter vR = (us.take k).filter vR ++ (if vR us[k] = true then [us[k]] else []) := by
  rw [List.take_succ_eq_append_getElem h, List.filter_append]
  cases hp : vR us[k] <;> simp [hp]
set_option maxRecDepth 20000 in
set_option maxHeartbeats 1000000 in
theorem pOut_any (us : List GR) (A : Option Addr) (c : Nat) (w : World) (h : GRow GR.cells 2 w w.heap.size A us) (hl : us.length ≤ 100000) :
    Calls Tryz.prog 112 #[.slice A us.length c] w (OutEnd us w) := by
  have HU := Lib.hid h
  have HL := Lib.hid hl
  clear h
  go_enter Tryz.func112, Tryz.ntmps112
  go_wp2
  go_loopw [3, 12] (fun v3 v12 wr => ∃ j : Nat, v12 = .int .i64 j ∧ j ≤ us.length ∧ Hid (OwnR wr w.heap.size v3 ((us.take j).filter vR)) ∧ Hid (Below w.heap.size w wr)) (fun _ v12 _ => us.length - (intOf v12).toNat)
  case atStart => exact ⟨0, rfl, Nat.zero_le _, Lib.hid (OwnG.nil _ _), Lib.hid (Below.refl _ _)⟩
  case round =>
    obtain ⟨j, rfl, hj, HO, HB⟩ := hrel
    obtain ⟨An, cn, rfl, hcn, hmn, hrn⟩ := HO.out.row GR.len
    clear hcn hmn hrn
    rcases Nat.lt_or_ge j us.length with hlt | hge
    · obtain ⟨b1, o1, rfl, hb1, x0, x1⟩ := (HU.out.next HB.out).rng hlt
      have HSN := Lib.hid (v_snoc hlt)
      have hfl : ((us.take j).filter vR).length ≤ 100000 := Nat.le_trans (List.length_filter_le _ _) (by rw [List.length_take]; have := HL.out; omega)
      have HFL := Lib.hid hfl
      have HVJ := Lib.hid (pValid_any us[j] (wr.alloc (.cells #[.int .i64 us[j].base, .int .i64 us[j].bits] 58)))
      have HXJ := Lib.hid (RB.new wr us[j])
      generalize us[j] = x at *
      obtain ⟨xb, xn⟩ := x
      simp only [GR.val] at *
      clear hfl
      go_wp2_with fail
      go_fit HVJ.out
      rintro e w2 ⟨rfl, hb2⟩
      have HX2 := Lib.hid (RB.next HXJ.out hb2)
      have HB2 := Lib.hid (bela HB.out hb2)
      have HO2 := Lib.hid ((HO.out.alloc (.cells #[.int .i64 xb, .int .i64 xn] 58)).next hb2)
      clear hb2 x0 x1 HVJ HXJ HO HB
      obtain ⟨y0, y1, _, _⟩ := HX2.out.facts
      have hlb := HX2.out.lt
      cases hv : vR ⟨xb, xn⟩
      · have HN : Hid (OwnR w2 w.heap.size (.slice An ((us.take j).filter vR).length cn) ((us.take (j + 1)).filter vR)) := Lib.hid (by
          rw [HSN.out, hv, if_neg (by simp), List.append_nil]; exact HO2.out)
        clear hv
        go_wp2
        go_roundw
        case rel => exact ⟨j + 1, by go_num, by omega, HN, HB2⟩
        case measure => simp [intOf]; omega
      · obtain ⟨v9, w9, hrun, hown9, hb9⟩ := OwnR.snoc HO2.out HB2.out ⟨xb, xn⟩ (by have := HFL.out; omega)
        have HRUN := Lib.hid hrun
        have HB9 := Lib.hid hb9
        have HN : Hid (OwnR w9 w.heap.size v9 ((us.take (j + 1)).filter vR)) := Lib.hid (by
          rw [HSN.out, hv, if_pos rfl]; exact hown9)
        clear hrun hown9 hb9 hv
        generalize ((us.take j).filter vR).length = nl at *
        go_wp2_with (at_builtin; refine wpList_gapp HRUN.out rfl rfl rfl rfl rfl ?_)
        go_roundw
        case rel => exact ⟨j + 1, by go_num, by omega, HN, HB9⟩
        case measure => simp [intOf]; omega
    · obtain rfl : j = us.length := by omega
      rw [List.take_of_length_le (Nat.le_refl _)] at *
      have HFL : Hid ((us.filter vR).length ≤ us.length) := Lib.hid (List.length_filter_le _ _)
      have HS := Lib.hid (sortR_all _ _ _ wr HO.out (by have := HFL.out; have := HL.out; omega))
      have HLT := Lib.hid HO.out.lt
      generalize hft : us.filter vR = ft at *
      have HFT := Lib.hid hft
      clear hft hge hj
      generalize wr = wA at *
      go_wp2_with fail
      go_fit HS.out
      rintro e w2 ⟨rfl, ss, hp, hs, ho2, hg2⟩
      have hlen : ss.length = ft.length := hp.length_eq
      have HSS : Hid (OutS us (outF 0 ss)) := Lib.hid (out_ok (by rw [HFT.out]; exact hp) hs)
      have HV : Hid (∀ u ∈ ss, VR u) := Lib.hid fun u hu => by
        have := (hp.mem_iff (a := u)).1 hu
        rw [← HFT.out, List.mem_filter, vR_iff] at this
        exact this.2
      have HB2 := Lib.hid (HB.out.grown hg2 HB.out.size (fun g e => (HLT.out g e).1))
      obtain ⟨As, cs, hvs, hcs, hms, hrs⟩ := ho2.row GR.len
      have HRS := Lib.hid hrs
      rw [hlen] at hvs
      injection hvs with e1 e2 e3
      subst e1 e3
      have HLL : Hid (ss.length ≤ us.length) := Lib.hid (by have := HFL.out; omega)
      rw [← hlen]
      clear hp hs ho2 hg2 hcs hms hrs hlen HS HLT HFT HB HO HFL
      go_wp2
      go_loopw [6, 7, 27] (fun v6 v7 v27 wr => ∃ (j : Nat) (n : Int) (l : List GR), v7 = .int .i64 n ∧ v27 = .int .i64 j ∧ j ≤ ss.length ∧ Hid (OutI ss j n l) ∧ Hid (OwnR wr w2.heap.size v6 l) ∧ Hid (Below w2.heap.size w2 wr)) (fun _ _ v27 _ => ss.length - (intOf v27).toNat)
      case atStart => exact ⟨0, 0, [], rfl, rfl, Nat.zero_le _, Lib.hid (OutI.start ss), Lib.hid (OwnG.nil _ _), Lib.hid (Below.refl _ _)⟩
      case round =>
        obtain ⟨j, n, l, rfl, rfl, hj, HI, HO, HB⟩ := hrel
        obtain ⟨Al, cl, rfl, hcl, hml, hrl⟩ := HO.out.row GR.len
        clear hcl hml hrl
        generalize wr = wB at *
        have hsl := HLL.out
        rcases Nat.lt_or_ge j ss.length with hlt | hge
        · obtain ⟨b1, o1, rfl, hb1, x0, x1⟩ := (HRS.out.next HB.out).rng hlt
          have HVX := Lib.hid (HV.out _ (List.getElem_mem hlt))
          by_cases hge : n ≤ ss[j].base
          · have HI2 := Lib.hid (HI.out.take hlt hge)
            have HEE := Lib.hid HVX.out.endR
            obtain ⟨v9, w9, hrun, hown9, hb9, hbox, _, _⟩ := OwnR.boxed HO.out HB.out ss[j] (by have := HI.out.len; have := HLL.out; have := HL.out; omega)
            have HRUN := Lib.hid hrun
            have HO9 := Lib.hid hown9
            have HB9 := Lib.hid hb9
            have HX9 := Lib.hid hbox
            have HE9 := Lib.hid (pEnd_any ss[j] w9)
            rw [HEE.out] at HE9
            clear hrun hown9 hb9 hbox HEE HI HO HB HVX
            generalize ss[j].sz = z at *
            generalize ss[j] = x at *
            obtain ⟨xb, xn⟩ := x
            simp only [GR.val] at *
            obtain ⟨y0, y1, _, _⟩ := HX9.out.facts
            have hbl := HX9.out.lt
            have f1 : decide (n ≤ xb) = true := decide_eq_true hge
            generalize l.length = nl at *
            go_wp2_with (first | (at_builtin; refine wpList_gapp HRUN.out rfl rfl rfl rfl rfl ?_) | (go_at_call 114; go_fit HE9.out; rintro e w3 ⟨rfl, hb3⟩))
            have HO3 := Lib.hid (HO9.out.next hb3)
            have HB3 := Lib.hid (beln HB9.out hb3)
            go_roundw
            case rel => exact ⟨j + 1, _, _, rfl, by go_num, by omega, HI2, HO3, HB3⟩
            case measure => simp [intOf]; omega
          · have HI2 := Lib.hid (HI.out.skip hlt (by omega))
            have HO3 := Lib.hid (HO.out.alloc (.cells #[.int .i64 ss[j].base, .int .i64 ss[j].bits] 58))
            have HB3 := Lib.hid (belt HB.out (.cells #[.int .i64 ss[j].base, .int .i64 ss[j].bits] 58))
            clear HI HO HB HVX
            generalize ss[j] = x at *
            obtain ⟨xb, xn⟩ := x
            simp only at *
            have f1 : decide (n ≤ xb) = false := decide_eq_false hge
            go_wp2
            go_roundw
            case rel => exact ⟨j + 1, _, _, rfl, by go_num, by omega, HI2, HO3, HB3⟩
            case measure => simp [intOf]; omega
        · obtain rfl : j = ss.length := by omega
          have hres := HI.out.res
          rw [List.drop_length, outF, List.append_nil] at hres
          have HE : Hid (OutEnd us w (.returned (.slice Al l.length cl)) wB) := Lib.hid ⟨_, l, rfl, hres ▸ HSS.out, by have := HI.out.len; have := HLL.out; omega, HO.out.base HB2.out.size, beln HB2.out HB.out⟩
          clear hres HI HO HB HSS hj hge
          go_wp2
          go_ret
          exact HE.out
end Go.Proofs.YtndppbfdcceflaaGreatDoor
