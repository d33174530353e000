/-
  The text of a set of one fact: facts.Format.
  Conditions: the fact is well formed, its argument list is no nil slice; the table of powers of ten lies as the program's text writes it.
-/
import Derived.Test.YtfmajccblnmglaaGreatDoorFwf
import Derived.Test.YtfmajccblnmglaaGreatDoorFct
namespace Go.Proofs.YtfmajccblnmglaaGreatDoor
open Go.RowKit Go.Shelf

def argsT : List GVal → List UInt8
  | [] => []
  | v :: r => vtextL v ++ r.flatMap fun v => 44 :: 32 :: vtextL v
theorem argsT_snoc (a : List GVal) (v : GVal) : argsT (a ++ [v]) = if a = [] then vtextL v else argsT a ++ 44 :: 32 :: vtextL v := by
  cases a with
  | nil => simp [argsT]
  | cons b r => simp [argsT]
theorem argsT_take {vs : List GVal} {k : Nat} (h : k < vs.length) : argsT (vs.take (k + 1)) = if k = 0 then vtextL vs[k] else argsT (vs.take k) ++ 44 :: 32 :: vtextL vs[k] := by
  rw [List.take_succ_eq_append_getElem h, argsT_snoc]
  by_cases h0 : k = 0
  · subst h0; simp
  · rw [if_neg h0, if_neg]
    intro he
    have := congrArg List.length he
    rw [List.length_take, List.length_nil] at this
    omega
theorem argsT_len : ∀ (vs : List GVal), (∀ v ∈ vs, (vtextL v).length ≤ 70000) → (argsT vs).length ≤ vs.length * 70002 := by
  have key : ∀ (vs : List GVal), (∀ v ∈ vs, (vtextL v).length ≤ 70000) → (vs.flatMap fun v => 44 :: 32 :: vtextL v).length ≤ vs.length * 70002 := by
    intro vs
    induction vs with
    | nil => intro _; simp
    | cons v r ih =>
      intro h
      have h1 := h v List.mem_cons_self
      have h2 := ih fun x hx => h x (List.mem_cons_of_mem _ hx)
      rw [List.flatMap_cons, List.length_append, List.length_cons, List.length_cons, List.length_cons]
      omega
  intro vs h
  cases vs with
  | nil => simp [argsT]
  | cons v r =>
    have h1 := h v List.mem_cons_self
    have h2 := key r fun x hx => h x (List.mem_cons_of_mem _ hx)
    show (vtextL v ++ _).length ≤ _
    rw [List.length_append, List.length_cons]
    omega
def factText (f : GFact) : List UInt8 := f.rel ++ [40] ++ argsT f.args ++ [41, 46, 10]
theorem OwnG.kept {α : Type} {enc : α → List Value} {T : TypeId} {k : Nat} {w w' : World} {base b : Nat} {v : Value} {l : List α} (h : OwnG enc T k w base v l) (hT : T ≠ 5) (hb : b < base) (hk : Kept b w w') : OwnG enc T k w' base v l := by
  refine ⟨h.1, ?_⟩
  rcases h.2 with hh | ⟨g, cap, cur, hv, hbs, hh, rest⟩
  · exact .inl hh
  · exact .inr ⟨g, cap, cur, hv, hbs, hk g _ hh (by simp; omega) (by rintro c fz he; cases he; exact hT rfl), rest⟩
def ValAt (w : World) (N : Nat) (v : GVal) : Prop := w.heap[N]? = some (.cells #[.int .i64 v.kind, .int .i64 v.int, .string ⟨v.word.toArray⟩] 40 (0, 0))
theorem ValAt.kept {w w' : World} {N b : Nat} {v : GVal} (h : ValAt w N v) (hk : Kept b w w') (hne : N ≠ b) : ValAt w' N v := hk N _ h (by simp; omega) (by rintro c fz he; cases he)
theorem ValAt.cells {w : World} {N : Nat} {v : GVal} (h : ValAt w N v) : w.cell? ⟨N, 0, none⟩ = some (.int .i64 v.kind) ∧ w.cell? ⟨N, 1, none⟩ = some (.int .i64 v.int) ∧ w.cell? ⟨N, 2, none⟩ = some (.string ⟨v.word.toArray⟩) := by
  unfold ValAt at h
  refine ⟨?_, ?_, ?_⟩ <;> (rw [Lib.cell_of_heap h]; rfl)

set_option maxRecDepth 50000 in
set_option maxHeartbeats 2000000 in
theorem fformat_one (f : GFact) (s : SFact) (A : Addr) (c : Nat) (w : World) (h : GRow SFact.cells 2 w w.heap.size (some A) [s]) (hf : FHold w w.heap.size s f) (hA : s.A ≠ none) (hwf : gwfF f = true) (hr : f.rel.length ≤ 65536) (hi : ∀ v ∈ f.args, v.word.length ≤ 65536 ∧ -9223372036854775808 ≤ v.int ∧ v.int ≤ 9223372036854775807 ∧ (vtextL v).length ≤ 70000) (hP : Pow w) :
    Calls Tryz.prog 25 #[.slice (some A) 1 c] w fun e w' => e = .returned (.string ⟨(factText f).toArray⟩) ∧ Below w.heap.size w w' := by
  obtain ⟨r, vs⟩ := f
  obtain ⟨sr, sA, sn, sc⟩ := s
  have e1 := hf.rel
  have e2 := hf.n
  simp only at e1 e2 hr hi hA
  subst e1 e2
  have h8 : vs.length ≤ 8 := by have := hwf; simp [gwfF] at this; omega
  have HB0 := Lib.hid (bld_new w)
  have hb0 := bel_lit (Below.refl w.heap.size w) (.cells #[.pointer none, .slice none 0 0] 77)
  have HSO := Lib.hid (setOf_one ⟨sr, sA, vs.length, sc⟩ vs A c (w.alloc (.cells #[.pointer none, .slice none 0 0] 77)) (h.next hb0) rfl hA (hf.row.next hb0) (by omega))
  have HW := Lib.hid fun W (hW : Below w.heap.size w W) A' c' (hA' : GRow GVal.cells 3 W W.heap.size A' vs) => fwellFormed_any ⟨sr, vs⟩ A' c' W hA' hr (by simp; omega) (fun v hv => (hi v hv).1) (hP.next hW)
  simp only [hwf, factV] at HW
  have HV := Lib.hid fun W (hW : Below w.heap.size w W) v (hv : v ∈ vs) => valueText_any v W (hi v hv).1 (hi v hv).2.1 (hi v hv).2.2.1 (hP.next hW)
  have HL := Lib.hid fun v hv => (hi v hv).2.2.2
  have hqe : (⟨sr.toArray⟩ ++ ⟨#[40]⟩ : ByteArray) = ⟨(sr ++ [40]).toArray⟩ := ByteArray.ext (by simp [ByteArray.data_append])
  have hws : (w.alloc (.cells #[.pointer none, .slice none 0 0] 77)).heap.size = w.heap.size + 1 := by simp
  have HFT : Hid (factText ⟨sr, vs⟩ = sr ++ [40] ++ argsT vs ++ [41, 46, 10]) := Lib.hid rfl
  clear h hf hP hi hA hb0 hwf
  generalize factText ⟨sr, vs⟩ = ft at *
  go_enter Tryz.func25, Tryz.ntmps25
  go_wp2_with fail
  refine HSO.out.mono ?_
  rintro e w2 ⟨v2, A6, n6, c6, rfl, ho6, hv6, hb6⟩
  obtain ⟨g, cap, rfl, hg0, hg1, hc1, hcm, hr6⟩ := ho6.nonnil SFact.len
  obtain ⟨A7, c7, e7, hc7, hm7, hr7⟩ := hv6.row GVal.len
  cases e7
  rw [hws] at hg0 hv6
  obtain ⟨b6, o6, eA, _, x0, x1⟩ := hr6.fact2 (i := 0) (by simp)
  cases eA
  simp only [Nat.zero_mul, Nat.zero_add, List.getElem_cons_zero] at x0 x1
  have HBL2 := Lib.hid (HB0.out.next hb6)
  have HBW2 := Lib.hid (bel_alloc (Below.refl _ w) hb6)
  have hz2 : w.heap.size < w2.heap.size := by have := hb6.size; rw [hws] at this; omega
  have HV6 := Lib.hid hv6
  have HR7 := Lib.hid hr7
  simp only [List.length_nil, Nat.zero_add]
  clear ho6 hv6 hb6 hr6 hr7 HSO HB0 hws
  go_wp2
  go_loopw [11] (fun vi wr => (vi = .int .i64 0 ∧ wr = w2) ∨ (vi = .int .i64 1 ∧ Hid (Bld wr w.heap.size w.heap.size ft) ∧ Hid (Below w.heap.size w wr))) (fun vi _ => 1 - (intOf vi).toNat)
  case atStart => exact .inl ⟨rfl, rfl⟩
  case round =>
    rcases hrel with ⟨rfl, hw⟩ | ⟨rfl, HLT, HBW⟩
    · subst hw
      have HB3 := Lib.hid (bel_lit HBW2.out (.cells #[.string ⟨sr.toArray⟩, .slice A6 vs.length c6] 25))
      have HWc := Lib.hid (HW.out _ HB3.out A6 c6 (HR7.out.next (bel_lit (Below.refl _ _) _)))
      go_wp2_with fail
      refine HWc.out.mono ?_
      rintro e w3 ⟨rfl, hb3⟩
      have hfx : w3.heap[wr.heap.size]? = some (.cells #[.string ⟨sr.toArray⟩, .slice A6 vs.length c6] 25 (0, 0)) := (hb3.block _ (by simp)).trans (heap_alloc_new wr _)
      have y0 : w3.cell? ⟨wr.heap.size, 0, none⟩ = some (.string ⟨sr.toArray⟩) := by rw [Lib.cell_of_heap hfx]; rfl
      have HFX := Lib.hid hfx
      have HBL3 := Lib.hid ((HBL2.out.alloc _).next hb3)
      have HBW3 := Lib.hid (bel_alloc HBW2.out hb3)
      have HV3 := Lib.hid ((HV6.out.alloc _).next hb3)
      have hz3 := HBW3.out.size
      clear hfx hb3 HWc
      go_wp2_with fail
      refine (bld_str _ _ _ (sr ++ [40]) _ HBL3.out (by simp; omega) (by omega)).mono ?_
      rintro e w4 ⟨rfl, hbl4, hb4, hk4⟩
      have hfx4 := hk4 _ _ HFX.out (by simp; omega) (by rintro c fz he; cases he)
      have y1 : w4.cell? ⟨wr.heap.size, 1, none⟩ = some (.slice A6 vs.length c6) := by rw [Lib.cell_of_heap hfx4]; rfl
      rw [List.nil_append] at hbl4
      have HBL4 := Lib.hid hbl4
      have HV4 := Lib.hid (HV3.out.kept (by decide) (Nat.lt_succ_self _) hk4)
      have HBW4 := Lib.hid (HBW3.out.trans hb4)
      clear hfx4 hbl4 hb4 hk4 y0
      go_wp2
      go_loopw [25] (fun vi wx => ∃ k : Nat, vi = .int .i64 k ∧ k ≤ vs.length ∧ Hid (Bld wx w.heap.size w.heap.size (sr ++ [40] ++ argsT (vs.take k))) ∧ Hid (OwnG GVal.cells 40 3 wx (w.heap.size + 1) (.slice A6 vs.length c6) vs) ∧ Hid (Below w.heap.size w wx)) (fun vi _ => vs.length - (intOf vi).toNat)
      case atStart => exact ⟨0, rfl, Nat.zero_le _, Lib.hid (by simpa [argsT] using HBL4.out), HV4, HBW4⟩
      case round =>
        obtain ⟨k, rfl, hk, HLk, HVk, HWk⟩ := hrel
        have hzz : w.heap.size < wr.heap.size := by
          rcases HLk.out with h | h
          · exact h.lt
          · exact h.lt
        rcases Nat.lt_or_ge k vs.length with hlt | hge
        · obtain ⟨A8, c8, e8, _, _, hr8⟩ := HVk.out.row GVal.len
          cases e8
          obtain ⟨b1, o1, rfl, hb1, x0, x1, x2⟩ := hr8.val3 hlt
          have HVT := Lib.hid fun W hW => HV.out W hW vs[k] (List.getElem_mem hlt)
          have hvl := HL.out vs[k] (List.getElem_mem hlt)
          have HJ := Lib.hid (argsT_take hlt)
          have hjl : (argsT (vs.take k)).length ≤ 560016 := by
            have h1 := argsT_len (vs.take k) (fun v hv => HL.out v (List.mem_of_mem_take hv))
            rw [List.length_take] at h1
            have h2 : min k vs.length * 70002 ≤ 8 * 70002 := Nat.mul_le_mul_right _ (by omega)
            omega
          generalize vs[k] = v at *
          obtain ⟨vk, vi, vw⟩ := v
          simp only [GVal.val] at x0 x1 x2 HVT
          generalize vtextL ⟨vk, vi, vw⟩ = vt at *
          have HVA : Hid (ValAt (wr.alloc (.cells #[.int .i64 vk, .int .i64 vi, .string ⟨vw.toArray⟩] 40)) wr.heap.size ⟨vk, vi, vw⟩) := Lib.hid (heap_alloc_new wr _)
          have HLa := Lib.hid (HLk.out.alloc (.cells #[.int .i64 vk, .int .i64 vi, .string ⟨vw.toArray⟩] 40))
          have HVa := Lib.hid (HVk.out.alloc (.cells #[.int .i64 vk, .int .i64 vi, .string ⟨vw.toArray⟩] 40))
          have HWa := Lib.hid (bel_lit HWk.out (.cells #[.int .i64 vk, .int .i64 vi, .string ⟨vw.toArray⟩] 40))
          clear hr8
          by_cases hk0 : k = 0
          · have fk : decide ((0 : Int) < (k : Int)) = false := by simp; omega
            have fk2 : ¬ 0 < k := by omega
            have HJ0 : Hid (argsT (vs.take (k + 1)) = vt) := Lib.hid (by rw [HJ.out, if_pos hk0])
            have HJE : Hid (argsT (vs.take k) = []) := Lib.hid (by rw [hk0]; rfl)
            have HT := Lib.hid (HVT.out _ HWa.out)
            clear hk0
            go_wp2_with fail
            refine HT.out.mono ?_
            rintro e w5 ⟨rfl, hb5⟩
            have HL5 := Lib.hid (HLa.out.next hb5)
            have HV5 := Lib.hid (HVa.out.next hb5)
            have HW5 := Lib.hid (bel_next HWa.out hb5)
            have hz5 := HW5.out.size
            clear hb5 HT
            go_wp2_with fail
            refine (bld_str _ _ _ vt _ HL5.out (by simp; omega) (by omega)).mono ?_
            rintro e w6 ⟨rfl, hbl6, hb6, hk6⟩
            have HL6 : Hid (Bld w6 w.heap.size w.heap.size (sr ++ [40] ++ argsT (vs.take (k + 1)))) := Lib.hid (by rw [HJ0.out]; rw [HJE.out, List.append_nil] at hbl6; exact hbl6)
            have HV6 := Lib.hid (HV5.out.kept (by decide) (Nat.lt_succ_self _) hk6)
            have HW6 := Lib.hid (HW5.out.trans hb6)
            clear hbl6 hb6 hk6
            go_wp2
            go_roundw
            case rel => exact ⟨k + 1, by go_num, by omega, HL6, HV6, HW6⟩
            case measure => simp [intOf]; omega
          · have fk : decide ((0 : Int) < (k : Int)) = true := by simp; omega
            have fk2 : 0 < k := by omega
            have HJ0 : Hid (argsT (vs.take (k + 1)) = argsT (vs.take k) ++ 44 :: 32 :: vt) := Lib.hid (by rw [HJ.out, if_neg hk0])
            clear hk0
            go_wp2_with fail
            refine (bld_str _ _ _ [44, 32] _ HLa.out (by simp; omega) (by simp; omega)).mono ?_
            rintro e w5 ⟨rfl, hbl5, hb5, hk5⟩
            obtain ⟨y0, y1, y2⟩ := (HVA.out.kept hk5 (by omega)).cells
            simp only at y0 y1 y2
            have HL5 := Lib.hid hbl5
            have HV5 := Lib.hid (HVa.out.kept (by decide) (Nat.lt_succ_self _) hk5)
            have HW5 := Lib.hid (HWa.out.trans hb5)
            have HT := Lib.hid (HVT.out _ HW5.out)
            have hz5 := HW5.out.size
            clear hbl5 hb5 hk5 x0 x1 x2
            go_wp2_with fail
            refine HT.out.mono ?_
            rintro e w6 ⟨rfl, hb6⟩
            have HL6 := Lib.hid (HL5.out.next hb6)
            have HV6 := Lib.hid (HV5.out.next hb6)
            have HW6 := Lib.hid (bel_next HW5.out hb6)
            have hz6 := HW6.out.size
            clear hb6 HT
            go_wp2_with fail
            refine (bld_str _ _ _ vt _ HL6.out (by simp; omega) (by omega)).mono ?_
            rintro e w7 ⟨rfl, hbl7, hb7, hk7⟩
            have HL7 : Hid (Bld w7 w.heap.size w.heap.size (sr ++ [40] ++ argsT (vs.take (k + 1)))) := Lib.hid (by rw [HJ0.out]; simpa using hbl7)
            have HV7 := Lib.hid (HV6.out.kept (by decide) (Nat.lt_succ_self _) hk7)
            have HW7 := Lib.hid (HW6.out.trans hb7)
            clear hbl7 hb7 hk7
            go_wp2
            go_roundw
            case rel => exact ⟨k + 1, by go_num, by omega, HL7, HV7, HW7⟩
            case measure => simp [intOf]; omega
        · have hjl : (argsT (vs.take k)).length ≤ 560016 := by
            have h1 := argsT_len (vs.take k) (fun v hv => HL.out v (List.mem_of_mem_take hv))
            rw [List.length_take] at h1
            have h2 : min k vs.length * 70002 ≤ 8 * 70002 := Nat.mul_le_mul_right _ (by omega)
            omega
          have HTK : Hid (argsT (vs.take k) = argsT vs) := Lib.hid (by rw [List.take_of_length_le hge])
          go_wp2_with fail
          refine (bld_str _ _ _ [41, 46, 10] _ HLk.out (by simp; omega) (by omega)).mono ?_
          rintro e w6 ⟨rfl, hbl6, hb6, hk6⟩
          have HL6 : Hid (Bld w6 w.heap.size w.heap.size ft) := Lib.hid (by rw [HFT.out, ← HTK.out]; exact hbl6)
          have HW6 := Lib.hid (HWk.out.trans hb6)
          clear hbl6 hb6 hk6
          go_wp2
          go_roundw
          case rel => exact .inr ⟨by go_num, HL6, HW6⟩
          case measure => simp [intOf]
    · have hz := HBW.out.size
      go_wp2_with fail
      refine (bld_string _ _ _ _ HLT.out (by omega)).mono ?_
      rintro e w5 ⟨rfl, hb5⟩
      have HB5 := Lib.hid (HBW.out.trans hb5)
      clear hb5
      go_wp2
      go_ret
      exact ⟨rfl, HB5.out⟩
end Go.Proofs.YtfmajccblnmglaaGreatDoor
