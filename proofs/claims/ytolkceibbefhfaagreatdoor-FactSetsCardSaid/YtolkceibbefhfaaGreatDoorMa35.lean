/-
  The text of a set of one fact: facts.Format.
  Conditions: the fact is well formed, its argument list is no nil slice; the table of powers of ten lies as the program's text writes it.
  The sanity check of layer 4 (awake) returns true.
  Conditions: strconv.ErrRange and the table of powers of ten lie as the program's start lays them.
-/
import Derived.Test.YtolkceibbefhfaaGreatDoorMa31
import Derived.Test.YtolkceibbefhfaaGreatDoorMa22
import Derived.Test.YtolkceibbefhfaaGreatDoorMa10
namespace Go.Proofs.YtolkceibbefhfaaGreatDoor
open Go.RowKit Go.Shelf

def argsT : List GVal → List UInt8
  | [] => []
  | v :: r => vtextL v ++ r.flatMap fun v => 44 :: 32 :: vtextL v
theorem argsT_snoc (a : List GVal) (v : GVal) : argsT (a ++ [v]) = if a = [] then vtextL v else argsT a ++ 44 :: 32 :: vtextL v := by
  cases a with
  | nil => simp [argsT]
  | cons b r => simp [argsT]
theorem argsT_take {vs : List GVal} {k : Nat} (h : k < vs.length) : argsT (vs.take (k + 1)) = if k = 0 then vtextL vs[k] else argsT (vs.take k) ++ 44 :: 32 :: vtextL vs[k] := by
  rw [List.take_succ_eq_append_getElem h, argsT_snoc]
  by_cases h0 : k = 0
  · subst h0; simp
  · rw [if_neg h0, if_neg]
    intro he
    have := congrArg List.length he
    rw [List.length_take, List.length_nil] at this
    omega
theorem argsT_len : ∀ (vs : List GVal), (∀ v ∈ vs, (vtextL v).length ≤ 70000) → (argsT vs).length ≤ vs.length * 70002 := by
  have key : ∀ (vs : List GVal), (∀ v ∈ vs, (vtextL v).length ≤ 70000) → (vs.flatMap fun v => 44 :: 32 :: vtextL v).length ≤ vs.length * 70002 := by
    intro vs
    induction vs with
    | nil => intro _; simp
    | cons v r ih =>
      intro h
      have h1 := h v List.mem_cons_self
      have h2 := ih fun x hx => h x (List.mem_cons_of_mem _ hx)
      rw [List.flatMap_cons, List.length_append, List.length_cons, List.length_cons, List.length_cons]
      omega
  intro vs h
  cases vs with
  | nil => simp [argsT]
  | cons v r =>
    have h1 := h v List.mem_cons_self
    have h2 := key r fun x hx => h x (List.mem_cons_of_mem _ hx)
    show (vtextL v ++ _).length ≤ _
    rw [List.length_append, List.length_cons]
    omega
def factText (f : GFact) : List UInt8 := f.rel ++ [40] ++ argsT f.args ++ [41, 46, 10]
theorem OwnG.kept {α : Type} {enc : α → List Value} {T : TypeId} {k : Nat} {w w' : World} {base b : Nat} {v : Value} {l : List α} (h : OwnG enc T k w base v l) (hT : T ≠ 5) (hb : b < base) (hk : Kept b w w') : OwnG enc T k w' base v l := by
  refine ⟨h.1, ?_⟩
  rcases h.2 with hh | ⟨g, cap, cur, hv, hbs, hh, rest⟩
  · exact .inl hh
  · exact .inr ⟨g, cap, cur, hv, hbs, hk g _ hh (by simp; omega) (by rintro c fz he; cases he; exact hT rfl), rest⟩
def ValAt (w : World) (N : Nat) (v : GVal) : Prop := w.heap[N]? = some (.cells #[.int .i64 v.kind, .int .i64 v.int, .string ⟨v.word.toArray⟩] 40 (0, 0))
theorem ValAt.kept {w w' : World} {N b : Nat} {v : GVal} (h : ValAt w N v) (hk : Kept b w w') (hne : N ≠ b) : ValAt w' N v := hk N _ h (by simp; omega) (by rintro c fz he; cases he)
theorem ValAt.cells {w : World} {N : Nat} {v : GVal} (h : ValAt w N v) : w.cell? ⟨N, 0, none⟩ = some (.int .i64 v.kind) ∧ w.cell? ⟨N, 1, none⟩ = some (.int .i64 v.int) ∧ w.cell? ⟨N, 2, none⟩ = some (.string ⟨v.word.toArray⟩) := by
  unfold ValAt at h
  refine ⟨?_, ?_, ?_⟩ <;> (rw [Lib.cell_of_heap h]; rfl)

set_option maxRecDepth 50000 in
set_option maxHeartbeats 2000000 in
theorem fformat_one (f : GFact) (s : SFact) (A : Addr) (c : Nat) (w : World) (h : GRow SFact.cells 2 w w.heap.size (some A) [s]) (hf : FHold w w.heap.size s f) (hA : s.A ≠ none) (hwf : gwfF f = true) (hr : f.rel.length ≤ 65536) (hi : ∀ v ∈ f.args, v.word.length ≤ 65536 ∧ -9223372036854775808 ≤ v.int ∧ v.int ≤ 9223372036854775807 ∧ (vtextL v).length ≤ 70000) (hP : Pow w) :
    Calls Tryz.prog 25 #[.slice (some A) 1 c] w fun e w' => e = .returned (.string ⟨(factText f).toArray⟩) ∧ Below w.heap.size w w' := by
  obtain ⟨r, vs⟩ := f
  obtain ⟨sr, sA, sn, sc⟩ := s
  have e1 := hf.rel
  have e2 := hf.n
  simp only at e1 e2 hr hi hA
  subst e1 e2
  have h8 : vs.length ≤ 8 := by have := hwf; simp [gwfF] at this; omega
  have HB0 := Lib.hid (bld_new w)
  have hb0 := bel_lit (Below.refl w.heap.size w) (.cells #[.pointer none, .slice none 0 0] 77)
  have HSO := Lib.hid (setOf_one ⟨sr, sA, vs.length, sc⟩ vs A c (w.alloc (.cells #[.pointer none, .slice none 0 0] 77)) (h.next hb0) rfl hA (hf.row.next hb0) (by omega))
  have HW := Lib.hid fun W (hW : Below w.heap.size w W) A' c' (hA' : GRow GVal.cells 3 W W.heap.size A' vs) => fwellFormed_any ⟨sr, vs⟩ A' c' W hA' hr (by simp; omega) (fun v hv => (hi v hv).1) (hP.next hW)
  simp only [hwf, factV] at HW
  have HV := Lib.hid fun W (hW : Below w.heap.size w W) v (hv : v ∈ vs) => valueText_any v W (hi v hv).1 (hi v hv).2.1 (hi v hv).2.2.1 (hP.next hW)
  have HL := Lib.hid fun v hv => (hi v hv).2.2.2
  have hqe : (⟨sr.toArray⟩ ++ ⟨#[40]⟩ : ByteArray) = ⟨(sr ++ [40]).toArray⟩ := ByteArray.ext (by simp [ByteArray.data_append])
  have hws : (w.alloc (.cells #[.pointer none, .slice none 0 0] 77)).heap.size = w.heap.size + 1 := by simp
  have HFT : Hid (factText ⟨sr, vs⟩ = sr ++ [40] ++ argsT vs ++ [41, 46, 10]) := Lib.hid rfl
  clear h hf hP hi hA hb0 hwf
  generalize factText ⟨sr, vs⟩ = ft at *
  go_enter Tryz.func25, Tryz.ntmps25
  go_wp2_with fail
  refine HSO.out.mono ?_
  rintro e w2 ⟨v2, A6, n6, c6, rfl, ho6, hv6, hb6⟩
  obtain ⟨g, cap, rfl, hg0, hg1, hc1, hcm, hr6⟩ := ho6.nonnil SFact.len
  obtain ⟨A7, c7, e7, hc7, hm7, hr7⟩ := hv6.row GVal.len
  cases e7
  rw [hws] at hg0 hv6
  obtain ⟨b6, o6, eA, _, x0, x1⟩ := hr6.fact2 (i := 0) (by simp)
  cases eA
  simp only [Nat.zero_mul, Nat.zero_add, List.getElem_cons_zero] at x0 x1
  have HBL2 := Lib.hid (HB0.out.next hb6)
  have HBW2 := Lib.hid (bel_alloc (Below.refl _ w) hb6)
  have hz2 : w.heap.size < w2.heap.size := by have := hb6.size; rw [hws] at this; omega
  have HV6 := Lib.hid hv6
  have HR7 := Lib.hid hr7
  simp only [List.length_nil, Nat.zero_add]
  clear ho6 hv6 hb6 hr6 hr7 HSO HB0 hws
  go_wp2
  go_loopw [11] (fun vi wr => (vi = .int .i64 0 ∧ wr = w2) ∨ (vi = .int .i64 1 ∧ Hid (Bld wr w.heap.size w.heap.size ft) ∧ Hid (Below w.heap.size w wr))) (fun vi _ => 1 - (intOf vi).toNat)
  case atStart => exact .inl ⟨rfl, rfl⟩
  case round =>
    rcases hrel with ⟨rfl, hw⟩ | ⟨rfl, HLT, HBW⟩
    · subst hw
      have HB3 := Lib.hid (bel_lit HBW2.out (.cells #[.string ⟨sr.toArray⟩, .slice A6 vs.length c6] 25))
      have HWc := Lib.hid (HW.out _ HB3.out A6 c6 (HR7.out.next (bel_lit (Below.refl _ _) _)))
      go_wp2_with fail
      refine HWc.out.mono ?_
      rintro e w3 ⟨rfl, hb3⟩
      have hfx : w3.heap[wr.heap.size]? = some (.cells #[.string ⟨sr.toArray⟩, .slice A6 vs.length c6] 25 (0, 0)) := (hb3.block _ (by simp)).trans (heap_alloc_new wr _)
      have y0 : w3.cell? ⟨wr.heap.size, 0, none⟩ = some (.string ⟨sr.toArray⟩) := by rw [Lib.cell_of_heap hfx]; rfl
      have HFX := Lib.hid hfx
      have HBL3 := Lib.hid ((HBL2.out.alloc _).next hb3)
      have HBW3 := Lib.hid (bel_alloc HBW2.out hb3)
      have HV3 := Lib.hid ((HV6.out.alloc _).next hb3)
      have hz3 := HBW3.out.size
      clear hfx hb3 HWc
      go_wp2_with fail
      refine (bld_str _ _ _ (sr ++ [40]) _ HBL3.out (by simp; omega) (by omega)).mono ?_
      rintro e w4 ⟨rfl, hbl4, hb4, hk4⟩
      have hfx4 := hk4 _ _ HFX.out (by simp; omega) (by rintro c fz he; cases he)
      have y1 : w4.cell? ⟨wr.heap.size, 1, none⟩ = some (.slice A6 vs.length c6) := by rw [Lib.cell_of_heap hfx4]; rfl
      rw [List.nil_append] at hbl4
      have HBL4 := Lib.hid hbl4
      have HV4 := Lib.hid (HV3.out.kept (by decide) (Nat.lt_succ_self _) hk4)
      have HBW4 := Lib.hid (HBW3.out.trans hb4)
      clear hfx4 hbl4 hb4 hk4 y0
      go_wp2
      go_loopw [25] (fun vi wx => ∃ k : Nat, vi = .int .i64 k ∧ k ≤ vs.length ∧ Hid (Bld wx w.heap.size w.heap.size (sr ++ [40] ++ argsT (vs.take k))) ∧ Hid (OwnG GVal.cells 40 3 wx (w.heap.size + 1) (.slice A6 vs.length c6) vs) ∧ Hid (Below w.heap.size w wx)) (fun vi _ => vs.length - (intOf vi).toNat)
      case atStart => exact ⟨0, rfl, Nat.zero_le _, Lib.hid (by simpa [argsT] using HBL4.out), HV4, HBW4⟩
      case round =>
        obtain ⟨k, rfl, hk, HLk, HVk, HWk⟩ := hrel
        have hzz : w.heap.size < wr.heap.size := by
          rcases HLk.out with h | h
          · exact h.lt
          · exact h.lt
        rcases Nat.lt_or_ge k vs.length with hlt | hge
        · obtain ⟨A8, c8, e8, _, _, hr8⟩ := HVk.out.row GVal.len
          cases e8
          obtain ⟨b1, o1, rfl, hb1, x0, x1, x2⟩ := hr8.val3 hlt
          have HVT := Lib.hid fun W hW => HV.out W hW vs[k] (List.getElem_mem hlt)
          have hvl := HL.out vs[k] (List.getElem_mem hlt)
          have HJ := Lib.hid (argsT_take hlt)
          have hjl : (argsT (vs.take k)).length ≤ 560016 := by
            have h1 := argsT_len (vs.take k) (fun v hv => HL.out v (List.mem_of_mem_take hv))
            rw [List.length_take] at h1
            have h2 : min k vs.length * 70002 ≤ 8 * 70002 := Nat.mul_le_mul_right _ (by omega)
            omega
          generalize vs[k] = v at *
          obtain ⟨vk, vi, vw⟩ := v
          simp only [GVal.val] at x0 x1 x2 HVT
          generalize vtextL ⟨vk, vi, vw⟩ = vt at *
          have HVA : Hid (ValAt (wr.alloc (.cells #[.int .i64 vk, .int .i64 vi, .string ⟨vw.toArray⟩] 40)) wr.heap.size ⟨vk, vi, vw⟩) := Lib.hid (heap_alloc_new wr _)
          have HLa := Lib.hid (HLk.out.alloc (.cells #[.int .i64 vk, .int .i64 vi, .string ⟨vw.toArray⟩] 40))
          have HVa := Lib.hid (HVk.out.alloc (.cells #[.int .i64 vk, .int .i64 vi, .string ⟨vw.toArray⟩] 40))
          have HWa := Lib.hid (bel_lit HWk.out (.cells #[.int .i64 vk, .int .i64 vi, .string ⟨vw.toArray⟩] 40))
          clear hr8
          by_cases hk0 : k = 0
          · have fk : decide ((0 : Int) < (k : Int)) = false := by simp; omega
            have fk2 : ¬ 0 < k := by omega
            have HJ0 : Hid (argsT (vs.take (k + 1)) = vt) := Lib.hid (by rw [HJ.out, if_pos hk0])
            have HJE : Hid (argsT (vs.take k) = []) := Lib.hid (by rw [hk0]; rfl)
            have HT := Lib.hid (HVT.out _ HWa.out)
            clear hk0
            go_wp2_with fail
            refine HT.out.mono ?_
            rintro e w5 ⟨rfl, hb5⟩
            have HL5 := Lib.hid (HLa.out.next hb5)
            have HV5 := Lib.hid (HVa.out.next hb5)
            have HW5 := Lib.hid (bel_next HWa.out hb5)
            have hz5 := HW5.out.size
            clear hb5 HT
            go_wp2_with fail
            refine (bld_str _ _ _ vt _ HL5.out (by simp; omega) (by omega)).mono ?_
            rintro e w6 ⟨rfl, hbl6, hb6, hk6⟩
            have HL6 : Hid (Bld w6 w.heap.size w.heap.size (sr ++ [40] ++ argsT (vs.take (k + 1)))) := Lib.hid (by rw [HJ0.out]; rw [HJE.out, List.append_nil] at hbl6; exact hbl6)
            have HV6 := Lib.hid (HV5.out.kept (by decide) (Nat.lt_succ_self _) hk6)
            have HW6 := Lib.hid (HW5.out.trans hb6)
            clear hbl6 hb6 hk6
            go_wp2
            go_roundw
            case rel => exact ⟨k + 1, by go_num, by omega, HL6, HV6, HW6⟩
            case measure => simp [intOf]; omega
          · have fk : decide ((0 : Int) < (k : Int)) = true := by simp; omega
            have fk2 : 0 < k := by omega
            have HJ0 : Hid (argsT (vs.take (k + 1)) = argsT (vs.take k) ++ 44 :: 32 :: vt) := Lib.hid (by rw [HJ.out, if_neg hk0])
            clear hk0
            go_wp2_with fail
            refine (bld_str _ _ _ [44, 32] _ HLa.out (by simp; omega) (by simp; omega)).mono ?_
            rintro e w5 ⟨rfl, hbl5, hb5, hk5⟩
            obtain ⟨y0, y1, y2⟩ := (HVA.out.kept hk5 (by omega)).cells
            simp only at y0 y1 y2
            have HL5 := Lib.hid hbl5
            have HV5 := Lib.hid (HVa.out.kept (by decide) (Nat.lt_succ_self _) hk5)
            have HW5 := Lib.hid (HWa.out.trans hb5)
            have HT := Lib.hid (HVT.out _ HW5.out)
            have hz5 := HW5.out.size
            clear hbl5 hb5 hk5 x0 x1 x2
            go_wp2_with fail
            refine HT.out.mono ?_
            rintro e w6 ⟨rfl, hb6⟩
            have HL6 := Lib.hid (HL5.out.next hb6)
            have HV6 := Lib.hid (HV5.out.next hb6)
            have HW6 := Lib.hid (bel_next HW5.out hb6)
            have hz6 := HW6.out.size
            clear hb6 HT
            go_wp2_with fail
            refine (bld_str _ _ _ vt _ HL6.out (by simp; omega) (by omega)).mono ?_
            rintro e w7 ⟨rfl, hbl7, hb7, hk7⟩
            have HL7 : Hid (Bld w7 w.heap.size w.heap.size (sr ++ [40] ++ argsT (vs.take (k + 1)))) := Lib.hid (by rw [HJ0.out]; simpa using hbl7)
            have HV7 := Lib.hid (HV6.out.kept (by decide) (Nat.lt_succ_self _) hk7)
            have HW7 := Lib.hid (HW6.out.trans hb7)
            clear hbl7 hb7 hk7
            go_wp2
            go_roundw
            case rel => exact ⟨k + 1, by go_num, by omega, HL7, HV7, HW7⟩
            case measure => simp [intOf]; omega
        · have hjl : (argsT (vs.take k)).length ≤ 560016 := by
            have h1 := argsT_len (vs.take k) (fun v hv => HL.out v (List.mem_of_mem_take hv))
            rw [List.length_take] at h1
            have h2 : min k vs.length * 70002 ≤ 8 * 70002 := Nat.mul_le_mul_right _ (by omega)
            omega
          have HTK : Hid (argsT (vs.take k) = argsT vs) := Lib.hid (by rw [List.take_of_length_le hge])
          go_wp2_with fail
          refine (bld_str _ _ _ [41, 46, 10] _ HLk.out (by simp; omega) (by omega)).mono ?_
          rintro e w6 ⟨rfl, hbl6, hb6, hk6⟩
          have HL6 : Hid (Bld w6 w.heap.size w.heap.size ft) := Lib.hid (by rw [HFT.out, ← HTK.out]; exact hbl6)
          have HW6 := Lib.hid (HWk.out.trans hb6)
          clear hbl6 hb6 hk6
          go_wp2
          go_roundw
          case rel => exact .inr ⟨by go_num, HL6, HW6⟩
          case measure => simp [intOf]
    · have hz := HBW.out.size
      go_wp2_with fail
      refine (bld_string _ _ _ _ HLT.out (by omega)).mono ?_
      rintro e w5 ⟨rfl, hb5⟩
      have HB5 := Lib.hid (HBW.out.trans hb5)
      clear hb5
      go_wp2
      go_ret
      exact ⟨rfl, HB5.out⟩
end Go.Proofs.YtolkceibbefhfaaGreatDoor


namespace Go.Proofs.YtolkceibbefhfaaGreatDoor
open Go.RowKit Go.Shelf

theorem rInt_any (n : Int) (w : World) : Calls Tryz.prog 23 #[.int .i64 n] w fun e w' => e = .returned (GVal.val ⟨1, n, []⟩) ∧ Below w.heap.size w w' := by
  go_enter Tryz.func23, Tryz.ntmps23
  go_wp2
  exact bodyPost_ret (v := GVal.val ⟨1, n, []⟩) (by simp [results, Tryz.results23, go_sem, GVal.val]) rfl ⟨rfl, bel_lit (Below.refl _ _) _⟩
theorem rWordV_any (l : List UInt8) (w : World) : Calls Tryz.prog 24 #[.string ⟨l.toArray⟩] w fun e w' => e = .returned (GVal.val ⟨2, 0, l⟩) ∧ Below w.heap.size w w' := by
  go_enter Tryz.func24, Tryz.ntmps24
  go_wp2
  exact bodyPost_ret (v := GVal.val ⟨2, 0, l⟩) (by simp [results, Tryz.results24, go_sem, GVal.val]) rfl ⟨rfl, bel_lit (Below.refl _ _) _⟩
set_option maxRecDepth 50000 in
set_option maxHeartbeats 1000000 in
theorem rFact_any (r : List UInt8) (vs : List GVal) (A : Option Addr) (c : Nat) (w : World) (h : GRow GVal.cells 3 w w.heap.size A vs) (hl : vs.length ≤ 1000000) :
    Calls Tryz.prog 22 #[.string ⟨r.toArray⟩, .slice A vs.length c] w fun e w' => (∃ A' c', e = .returned (.agg #[.string ⟨r.toArray⟩, .slice A' vs.length c']) ∧ OwnG GVal.cells 40 3 w' w.heap.size (.slice A' vs.length c') vs) ∧ Below w.heap.size w w' := by
  have hb0 := bel_lit (Below.refl w.heap.size w) (.cells #[.string ⟨#[]⟩, .slice none 0 0] 25)
  obtain ⟨v3, w3, hrun3, hown3, hgr3, hbk3⟩ := OwnG.app elt_val GVal.len GVal.one (OwnG.nil (w.alloc (.cells #[.string ⟨#[]⟩, .slice none 0 0] 25)) (w.heap.size + 1)) c ((h.below (Nat.le_refl _) hb0).wide hb0.size) (by simp) (by unfold maxLen; simp; omega) (by simp; omega)
  rw [List.nil_append] at hown3
  obtain ⟨A3, c3, rfl, hc3, hm3, hr3⟩ := hown3.row GVal.len
  have hb3 : Below w.heap.size w w3 := below_of_own hb0 hgr3 (fun g hg => by simp [Value.ownBlock] at hg)
  have hk : w3.heap[w.heap.size]? = some (.cells #[.string ⟨#[]⟩, .slice none 0 0] 25 (0, 0)) := (hgr3.block _ (by simp) (by simp [Value.ownBlock])).trans (heap_alloc_new w _)
  have z0 := Lib.frozen_of_heap hk 0
  have z1 := Lib.frozen_of_heap hk 1
  have q0 : w3.cell? ⟨w.heap.size, 0, none⟩ = some (.string ⟨#[]⟩) := by rw [Lib.cell_of_heap hk]; rfl
  have q1 : w3.cell? ⟨w.heap.size, 1, none⟩ = some (.slice none 0 0) := by rw [Lib.cell_of_heap hk]; rfl
  have hne : Value.ownBlock (.slice A3 vs.length c3) ≠ some w.heap.size := by intro e; have := (hown3.lt _ e).1; omega
  have HO := Lib.hid (((hown3.base (b' := w.heap.size) (by omega)).other ⟨w.heap.size, 0, none⟩ (.string ⟨r.toArray⟩) hne).other ⟨w.heap.size, 1, none⟩ (.slice A3 vs.length c3) hne)
  have HB := Lib.hid ((hb3.setCell (p := ⟨w.heap.size, 0, none⟩) (Nat.le_refl _) (.string ⟨r.toArray⟩)).setCell (p := ⟨w.heap.size, 1, none⟩) (Nat.le_refl _) (.slice A3 vs.length c3))
  have HRUN := Lib.hid hrun3
  clear h hb0 hrun3 hown3 hgr3 hr3 hb3 hk hne hbk3
  go_enter Tryz.func22, Tryz.ntmps22
  go_wp2_with (at_builtin; refine wpList_gapp HRUN.out rfl rfl rfl rfl rfl ?_)
  go_wp2
  exact bodyPost_ret (v := .agg #[.string ⟨r.toArray⟩, .slice A3 vs.length c3]) (by simp [results, Tryz.results22, go_sem, q0, q1]) rfl ⟨⟨A3, c3, rfl, HO.out⟩, HB.out⟩

def awkL : List UInt8 := [99, 111, 114, 101, 40, 48, 44, 32, 51, 50, 44, 32, 48, 44, 32, 49, 48, 48, 41, 46]
def awkVs : List GVal := [⟨1, -5, []⟩, ⟨2, 0, [97, 32, 98]⟩]
def awkF : GFact := ⟨[112], awkVs⟩
def awkToks : List Tok := [⟨1, [99, 111, 114, 101], 0, 1, 1⟩, ⟨4, [40], 0, 1, 5⟩, ⟨2, [], 0, 1, 6⟩, ⟨4, [44], 0, 1, 7⟩, ⟨2, [], 32, 1, 9⟩, ⟨4, [44], 0, 1, 11⟩, ⟨2, [], 0, 1, 13⟩, ⟨4, [44], 0, 1, 14⟩, ⟨2, [], 100, 1, 16⟩, ⟨4, [41], 0, 1, 19⟩, ⟨4, [46], 0, 1, 20⟩]
theorem awk_scan : scan awkL = .ok awkToks := by decide +kernel
theorem awk_toks (x y : Int) : FactToks [99, 111, 114, 101] [0, 32, 0, 100] (awkToks.map Tok.g ++ [⟨0, [], 0, x, y⟩]) := by
  refine ⟨rfl, fun _ => ⟨rfl, rfl⟩, by decide, by decide, ⟨by simp [awkToks], by decide, by decide, by decide, fun _ => ⟨rfl, rfl⟩, fun i h _ => ?_, fun i h _ => ?_, fun _ => ⟨rfl, rfl⟩, fun _ => ⟨rfl, rfl⟩⟩, fun _ => rfl⟩
  · match i, h with
    | 0, _ => exact ⟨rfl, rfl⟩
    | 1, _ => exact ⟨rfl, rfl⟩
    | 2, _ => exact ⟨rfl, rfl⟩
    | 3, _ => exact ⟨rfl, rfl⟩
  · match i, h with
    | 0, _ => exact ⟨rfl, rfl⟩
    | 1, _ => exact ⟨rfl, rfl⟩
    | 2, _ => exact ⟨rfl, rfl⟩
theorem itoa5 : Lib.itoa (-5) = [45, 53] := by
  unfold Lib.itoa
  rw [if_pos (by decide), Lib.decDigits]
  rfl
theorem awk_v1 : vtextL ⟨1, -5, []⟩ = [45, 53] := by
  show Lib.itoa (-5) = _
  exact itoa5
theorem awk_v2 : vtextL ⟨2, 0, [97, 32, 98]⟩ = [34, 97, 32, 98, 34] := by
  have h1 : nameB [97, 32, 98] = false := by decide +kernel
  have h2 : quoteL [97, 32, 98] = [34, 97, 32, 98, 34] := by decide +kernel
  simp [vtextL, h1, h2]
theorem awk_text : factText awkF = [112, 40, 45, 53, 44, 32, 34, 97, 32, 98, 34, 41, 46, 10] := by
  simp [factText, awkF, awkVs, argsT, awk_v1, awk_v2]
theorem awk_wf : gwfF awkF = true := by decide +kernel
theorem awk_vals : ∀ v ∈ awkF.args, v.word.length ≤ 65536 ∧ -9223372036854775808 ≤ v.int ∧ v.int ≤ 9223372036854775807 ∧ (vtextL v).length ≤ 70000 := by
  intro v hv
  have hv' : v = ⟨1, -5, []⟩ ∨ v = ⟨2, 0, [97, 32, 98]⟩ := by simpa [awkF, awkVs] using hv
  rcases hv' with rfl | rfl
  · rw [awk_v1]; simp
  · rw [awk_v2]; simp
def awkC : GFact := ⟨[99, 111, 114, 101], [0, 32, 0, 100].map gnum⟩
theorem awk_self : [awkC].any (isF awkC) = true := by simp [isF, ord_fact.self]
set_option maxRecDepth 50000 in
set_option maxHeartbeats 2000000 in
theorem awake_any (w : World) (hG : Glob2 w) : Calls Tryz.prog 7 #[] w fun e w' => e = .returned (.bool true) ∧ Below w.heap.size w w' := by
  have HPA := Lib.hid (parse_one awkL awkToks awk_scan _ _ (by decide) awk_toks w hG.1)
  have HP := Lib.hid hG.2
  have HFM := Lib.hid fun A c W (h1 : GRow SFact.cells 2 W W.heap.size (some A) [c]) hf hA hP => fformat_one awkF c A 1 W h1 hf hA awk_wf (by decide) awk_vals hP
  rw [awk_text] at HFM
  clear hG
  go_enter Tryz.func7, Tryz.ntmps7
  go_wp2_with fail
  refine HPA.out.mono ?_
  rintro e w1 ⟨v1, A1, n1, c1, rfl, ho1, hv1, hb1⟩
  obtain ⟨g1, cap1, rfl, hg0, hg1, hc1, hcm, hr1⟩ := ho1.nonnil SFact.len
  obtain ⟨A2, c2, e2, hc2, hm2, hr2⟩ := hv1.row GVal.len
  cases e2
  have HFR : Hid (FRow w1 w1.heap.size (some ⟨g1, 0, none⟩) [⟨[99, 111, 114, 101], A1, 4, c1⟩] [awkC]) := Lib.hid ⟨hr1, rfl, fun i h1 _ => by
    have h0 : i = 0 := by simp at h1; omega
    subst h0
    exact ⟨rfl, rfl, hr2, by simp [awkC]⟩⟩
  have HB1 := Lib.hid hb1
  simp only [List.length_nil, Nat.zero_add]
  clear ho1 hv1 hb1 hr1 hr2 HPA
  go_wp2_with fail
  refine (rInt_any _ _).mono ?_
  rintro e w2 ⟨rfl, hb2⟩
  have HFR2 := Lib.hid ((HFR.out.next (Nat.le_refl _) (bel_lit (Below.refl _ w1) _)).next (Nat.le_refl _) hb2)
  have HB2 := Lib.hid (bel_alloc HB1.out hb2)
  clear hb2
  go_wp2_with fail
  refine (rWordV_any [97, 32, 98] _).mono ?_
  rintro e w3 ⟨rfl, hb3⟩
  have HFR3 := Lib.hid (HFR2.out.next (Nat.le_refl _) hb3)
  have HB3 := Lib.hid (bel_next HB2.out hb3)
  clear hb3
  simp only [GVal.val]
  have HBS := Lib.hid (bel_lit (Below.refl w3.heap.size w3) (.cells #[.int .i64 1, .int .i64 (-5), .string ⟨#[]⟩, .int .i64 2, .int .i64 0, .string ⟨#[97, 32, 98]⟩] 40))
  have HRF := Lib.hid (rFact_any [112] awkVs (some ⟨w3.heap.size, 0, none⟩) 2 (w3.alloc (.cells #[.int .i64 1, .int .i64 (-5), .string ⟨#[]⟩, .int .i64 2, .int .i64 0, .string ⟨#[97, 32, 98]⟩] 40)) (GRow.lit GVal.len w3 _ awkVs _ rfl (by decide)) (by decide))
  rw [show awkVs.length = 2 from rfl] at HRF
  go_wp2_with fail
  refine HRF.out.mono ?_
  rintro e w4 ⟨⟨A5, c5, rfl, ho5⟩, hb4⟩
  obtain ⟨A6, c6, e6, _, _, hr5⟩ := ho5.row GVal.len
  cases e6
  have hA5 : A5 ≠ none := by
    intro e
    subst e
    obtain ⟨b, off, e, _⟩ := hr5 (by decide)
    cases e
  have HB4 := Lib.hid (bel_next (bel_lit HB3.out _) hb4)
  have HFR4 := Lib.hid ((HFR3.out.next (Nat.le_refl _) HBS.out).next (Nat.le_refl _) hb4)
  have HH4 : Hid (FHold w4 w4.heap.size ⟨[112], A5, 2, c5⟩ awkF) := Lib.hid ⟨rfl, rfl, hr5, by decide⟩
  obtain ⟨b1, o1, eA, hl1, x0, x1⟩ := HFR4.out.row.fact2 (i := 0) (by simp)
  cases eA
  simp only [Nat.zero_mul, Nat.zero_add, List.getElem_cons_zero] at x0 x1
  have HBF := Lib.hid (bel_lit (bel_lit (Below.refl w4.heap.size w4) (.cells #[.string ⟨#[112]⟩, .slice A5 2 c5] 25)) (.cells #[.string ⟨#[112]⟩, .slice A5 2 c5] 25))
  have HFC := Lib.hid (HFM.out ⟨w4.heap.size + 1, 0, none⟩ ⟨[112], A5, 2, c5⟩ ((w4.alloc (.cells #[.string ⟨#[112]⟩, .slice A5 2 c5] 25)).alloc (.cells #[.string ⟨#[112]⟩, .slice A5 2 c5] 25)) (by
      have := GRow.lit SFact.len (w4.alloc (.cells #[.string ⟨#[112]⟩, .slice A5 2 c5] 25)) 25 [(⟨[112], A5, 2, c5⟩ : SFact)] #[.string ⟨#[112]⟩, .slice A5 2 c5] rfl (by unfold maxLen; simp)
      simpa using this) (HH4.out.next (Nat.le_refl _) HBF.out) hA5 ((HP.out.next HB4.out).next HBF.out))
  clear ho5 hb4 hr5 HRF HFM hA5
  go_wp2_with fail
  refine HFC.out.mono ?_
  rintro e w7 ⟨rfl, hb7⟩
  have HB47 := Lib.hid (bel_next HBF.out hb7)
  have hz7 : w4.heap.size + 1 < w7.heap.size := by have := hb7.size; simp at this; omega
  have hk7 : w7.heap[w4.heap.size]? = some (.cells #[.string ⟨#[112]⟩, .slice A5 2 c5] 25 (0, 0)) := (hb7.block _ (by simp; omega)).trans (by rw [Below.heap_alloc _ _ _ (by simp)]; exact heap_alloc_new w4 _)
  have y0 : w7.cell? ⟨w4.heap.size, 0, none⟩ = some (.string ⟨#[112]⟩) := by rw [Lib.cell_of_heap hk7]; rfl
  have y1 : w7.cell? ⟨w4.heap.size, 1, none⟩ = some (.slice A5 2 c5) := by rw [Lib.cell_of_heap hk7]; rfl
  have HH7 := Lib.hid (HH4.out.next (Nat.le_refl _) HB47.out)
  have HCM := Lib.hid (compare_any awkF awkF A5 A5 c5 c5 w7 HH7.out.row HH7.out.row (by decide) (by decide))
  rw [ord_fact.self] at HCM
  have HFR7 := Lib.hid (HFR4.out.next (Nat.le_refl _) HB47.out)
  clear hb7 hk7 x0 x1
  simp only [factV] at HCM
  go_wp2_with fail
  refine HCM.out.mono ?_
  rintro e w8 ⟨rfl, hb8⟩
  have HFR8 := Lib.hid (HFR7.out.next (Nat.le_refl _) hb8)
  have HB8 := Lib.hid (bel_next (bel_next HB4.out HB47.out) hb8)
  obtain ⟨b1, o1, eA, hl8, x0, x1⟩ := HFR8.out.row.fact2 (i := 0) (by simp)
  cases eA
  simp only [Nat.zero_mul, Nat.zero_add, List.getElem_cons_zero] at x0 x1
  have hrow := HFR8.out.each 0 (by simp) (by simp)
  simp only [List.getElem_cons_zero] at hrow
  have hCT := fcontains_any awkC ⟨[99, 111, 114, 101], A1, 4, c1⟩ [⟨[99, 111, 114, 101], A1, 4, c1⟩] [awkC] (some ⟨g1, 0, none⟩) cap1 w8 hrow HFR8.out (by simp)
  rw [awk_self] at hCT
  have HCT := Lib.hid hCT
  clear hCT hrow hb8 y0 y1
  go_wp2_with fail
  refine HCT.out.mono ?_
  rintro e w9 ⟨rfl, hb9⟩
  go_wp2
  go_ret
  exact ⟨rfl, bel_next HB8.out hb9⟩
end Go.Proofs.YtolkceibbefhfaaGreatDoor
