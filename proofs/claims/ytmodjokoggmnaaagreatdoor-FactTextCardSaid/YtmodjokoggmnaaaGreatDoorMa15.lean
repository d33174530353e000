/-
  The contract of hwlex.Format: the tokens' text, or the empty string if one of them is not well formed.
  Conditions: at most 65536 tokens, each of at most 65536 bytes, each value one of a uint64; the table of powers of ten lies as the program's text writes it.
  Well-formed values, and the text of a value: facts.quoted, nameSized, wellFormedValue, valueText.
  Conditions: the table of powers of ten lies as the program's text writes it; a word has at most 65536 bytes.
  Well-formed facts and membership: facts.wellFormed, facts.Contains.
  Conditions: the table of powers of ten lies as the program's text writes it; words have at most 65536 bytes, facts at most 2^40 arguments.
-/
import Derived.Test.YtmodjokoggmnaaaGreatDoorMa14
import Derived.Test.YtmodjokoggmnaaaGreatDoorMa6
import Derived.Test.YtmodjokoggmnaaaGreatDoorMa9
namespace Go.Proofs.YtmodjokoggmnaaaGreatDoor

open Go.RowKit Go.Shelf

/-- Tokens that are few and short. -/
def Few (ts : List GTok) : Prop := ts.length ≤ 65536 ∧ ∀ t ∈ ts, t.text.length ≤ 65536 ∧ 0 ≤ t.value ∧ t.value < 18446744073709551616
theorem txt_len (t : GTok) (h : t.text.length ≤ 65536) (h0 : 0 ≤ t.value) (h1 : t.value < 18446744073709551616) : (txt t).length ≤ 65538 := by
  unfold txt
  split
  · have := (isDec t.value.toNat (by omega)).len; omega
  · split
    · simp; omega
    · omega
theorem tail_len : ∀ (ts : List GTok), (∀ t ∈ ts, t.text.length ≤ 65536 ∧ 0 ≤ t.value ∧ t.value < 18446744073709551616) → (tailT ts).length ≤ ts.length * 65539 := by
  intro ts
  induction ts with
  | nil => intro _; simp [tailT]
  | cons t r ih =>
    intro h
    obtain ⟨h1, h2, h3⟩ := h t List.mem_cons_self
    have := ih fun x hx => h x (List.mem_cons_of_mem _ hx)
    have := txt_len t h1 h2 h3
    have e : tailT (t :: r) = 32 :: (txt t ++ tailT r) := by simp [tailT]
    rw [e]; simp; omega
theorem join_len (ts : List GTok) (h : ∀ t ∈ ts, t.text.length ≤ 65536 ∧ 0 ≤ t.value ∧ t.value < 18446744073709551616) : (joinT ts).length ≤ ts.length * 65539 := by
  cases ts with
  | nil => simp [joinT]
  | cons t r =>
    obtain ⟨h1, h2, h3⟩ := h t List.mem_cons_self
    have := tail_len r fun x hx => h x (List.mem_cons_of_mem _ hx)
    have := txt_len t h1 h2 h3
    show (txt t ++ tailT r).length ≤ _
    simp; omega
theorem Bld.next {w w' : World} {B b : Nat} {l : List UInt8} (h : Bld w B b l) (hb : Below w.heap.size w w') : Bld w' B b l := by
  have key : ∀ p, Lib.BuilderAt 69 5 B b p (Lib.byteCells l) w → Lib.BuilderAt 69 5 B b p (Lib.byteCells l) w' := by
    rintro p ⟨hB, v, hbk, hown, hne⟩
    have hlt : ∀ g o, w.heap[g]? = some o → g < w.heap.size := fun g o hg => by
      rcases Nat.lt_or_ge g w.heap.size with h' | h'
      · exact h'
      · simp [Array.getElem?_eq_none h'] at hg
    refine ⟨hB, v, (hb.block b (hlt b _ hbk)).trans hbk, ⟨hown.1, ?_⟩, hne⟩
    rcases hown.2 with hh | ⟨g, cap, cur, hv, hbs, hh, rest⟩
    · exact .inl hh
    · exact .inr ⟨g, cap, cur, hv, hbs, (hb.block g (hlt g _ hh)).trans hh, rest⟩
  rcases h with h | h
  · exact .inl (key _ h)
  · exact .inr (key _ h)
theorem all_snoc {ts : List GTok} {k : Nat} (h : k < ts.length) (ha : (ts.take k).all wf = true) (hw : wf ts[k] = true) : (ts.take (k + 1)).all wf = true := by
  rw [List.take_succ_eq_append_getElem h, List.all_append, ha]; simp [hw]
theorem all_fail {ts : List GTok} {k : Nat} (h : k < ts.length) (hw : wf ts[k] = false) : fmtL ts = [] := by
  unfold fmtL
  rw [if_neg]
  intro hh
  rw [List.all_eq_true] at hh
  rw [hh _ (List.getElem_mem h)] at hw
  cases hw
theorem fmt_done {ts : List GTok} {k : Nat} (h : ts.length ≤ k) (ha : (ts.take k).all wf = true) : fmtL ts = joinT (ts.take k) := by
  rw [List.take_of_length_le h] at ha ⊢
  unfold fmtL; rw [if_pos ha]
/-- A token's block. -/
def TokAt (w : World) (N : Nat) (t : GTok) : Prop := w.heap[N]? = some (.cells #[.int .i64 t.kind, .string ⟨t.text.toArray⟩, .int .u64 t.value, .int .i64 t.line, .int .i64 t.col] 52 (0, 0))
theorem TokAt.kept {w w' : World} {N b : Nat} {t : GTok} (h : TokAt w N t) (hk : Kept b w w') (hne : N ≠ b) : TokAt w' N t := hk N _ h (by simp; omega) (by rintro c fz he; cases he)

set_option maxRecDepth 50000 in
set_option maxHeartbeats 2000000 in
theorem format_any (ts : List GTok) (A : Option Addr) (cap : Nat) (w : World) (hA : TRow w w.heap.size A ts) (hF : Few ts) (hP : Pow w) :
    Calls Tryz.prog 105 #[.slice A ts.length cap] w fun e w' => e = .returned (.string ⟨(fmtL ts).toArray⟩) ∧ Below w.heap.size w w' := by
  have HA := Lib.hid hA
  have HP := Lib.hid hP
  have HX := Lib.hid hF.2
  have hn := hF.1
  have HB0 := Lib.hid (bld_new w)
  clear hA hP hF
  go_enter Tryz.func105, Tryz.ntmps105
  go_wp2
  go_loopw [8] (fun vi wr => ∃ k : Nat, vi = .int .i64 k ∧ k ≤ ts.length ∧ Hid (Bld wr w.heap.size w.heap.size (joinT (ts.take k))) ∧ Hid (Below w.heap.size w wr) ∧ Hid ((ts.take k).all wf = true)) (fun vi _ => ts.length - (intOf vi).toNat)
  case atStart => exact ⟨0, rfl, Nat.zero_le _, HB0, Lib.hid ((Below.refl _ _).alloc (Nat.le_refl _) _), Lib.hid rfl⟩
  case round =>
    obtain ⟨k, rfl, hk, HL, HW, HAL⟩ := hrel
    rcases Nat.lt_or_ge k ts.length with hlt | hge
    · obtain ⟨b1, o1, rfl, hb1, x0, x1, x2, x3, x4⟩ := (HA.out.below (Nat.le_refl _) HW.out).cells5 hlt
      have hx := HX.out ts[k] (List.getElem_mem hlt)
      have HJ := Lib.hid (joinT_take hlt)
      have hjl : (joinT (ts.take k)).length ≤ 65536 * 65539 := by
        have h1 := join_len (ts.take k) (fun t ht => HX.out t (List.mem_of_mem_take ht))
        rw [List.length_take] at h1
        have h2 : min k ts.length * 65539 ≤ 65536 * 65539 := Nat.mul_le_mul_right _ (by omega)
        exact Nat.le_trans h1 h2
      have HAS := Lib.hid fun h => all_snoc hlt HAL.out h
      have HAF := Lib.hid fun h => all_fail hlt h
      generalize ts[k] = t at *
      obtain ⟨kd, tx, v, ln, cl⟩ := t
      simp only at x0 x1 x2 x3 x4
      obtain ⟨hx1, hx2, hx3⟩ := hx
      simp only at hx1 hx2 hx3
      have hwz : w.heap.size < wr.heap.size := by
        rcases HL.out with h | h
        · exact h.lt
        · exact h.lt
      have HWF := Lib.hid fun W => wellFormed_any ⟨kd, tx, v, ln, cl⟩ W (by unfold maxLen; exact Nat.le_trans hx1 (by decide))
      unfold GTok.val at HWF
      simp only at HWF
      have HT0 : Hid (TokAt (wr.alloc (.cells #[.int .i64 kd, .string ⟨tx.toArray⟩, .int .u64 v, .int .i64 ln, .int .i64 cl] 52)) wr.heap.size ⟨kd, tx, v, ln, cl⟩) := Lib.hid (heap_alloc_new wr _)
      have hzb : b1 < wr.heap.size := by omega
      have HLW := Lib.hid (HL.out.alloc (.cells #[.int .i64 kd, .string ⟨tx.toArray⟩, .int .u64 v, .int .i64 ln, .int .i64 cl] 52))
      cases hw : wf ⟨kd, tx, v, ln, cl⟩
      · have HFL := Lib.hid (HAF.out hw)
        rw [hw] at HWF
        clear hw
        go_wp2_with fail
        refine (HWF.out _).mono ?_
        rintro e w2 ⟨rfl, hb2⟩
        go_wp2
        go_ret
        exact ⟨by rw [HFL.out]; rfl, bel_alloc HW.out hb2⟩
      · have HALL := Lib.hid (HAS.out hw)
        rw [hw] at HWF
        clear hw
        go_wp2_with fail
        refine (HWF.out _).mono ?_
        rintro e w2 ⟨rfl, hb2⟩
        have HT := Lib.hid (show TokAt w2 wr.heap.size ⟨kd, tx, v, ln, cl⟩ from (hb2.block _ (by simp)).trans HT0.out)
        have HBL := Lib.hid (HLW.out.next hb2)
        have HBW := Lib.hid (bel_alloc HW.out hb2)
        have hs2 : wr.heap.size < w2.heap.size := by have := hb2.size; simp at this; omega
        clear hb2 x0 x1 x2 x3 x4
        by_cases hk0 : k = 0
        · have HJ0 := HJ.out
          rw [if_pos hk0] at HJ0
          have HJL : Hid (joinT (ts.take k) = []) := Lib.hid (by rw [hk0]; rfl)
          rw [HJL.out] at HBL
          have HJ := Lib.hid HJ0
          clear HJ0
          have fk : decide ((0 : Int) < (k : Int)) = false := by simp; omega
          have fk2 : ¬ 0 < k := by omega
          have c0 : w2.cell? ⟨wr.heap.size, 0, none⟩ = some (.int .i64 kd) := by have := HT.out; unfold TokAt at this; simp [World.cell?, this]
          have c1 : w2.cell? ⟨wr.heap.size, 1, none⟩ = some (.string ⟨tx.toArray⟩) := by have := HT.out; unfold TokAt at this; simp [World.cell?, this]
          have c2 : w2.cell? ⟨wr.heap.size, 2, none⟩ = some (.int .u64 v) := by have := HT.out; unfold TokAt at this; simp [World.cell?, this]
          have hzW : w.heap.size ≤ w2.heap.size := HBW.out.size
          by_cases h2 : kd = 2
          · obtain ⟨vn, rfl⟩ : ∃ n : Nat, v = (n : Int) := ⟨v.toNat, by omega⟩
            subst h2
            have HFU := Lib.hid (formatUint_any vn (by omega) _ (HP.out.next HBW.out))
            have HTX : Hid (txt ⟨2, tx, vn, ln, cl⟩ = decL vn) := Lib.hid rfl
            have hdl := (isDec vn (by omega)).len
            go_wp2_with fail
            refine HFU.out.mono ?_
            rintro e w5 ⟨rfl, hb5⟩
            have HB5 := Lib.hid hb5
            have hs5 := hb5.size
            clear hb5
            go_wp2_with fail
            refine (bld_str _ _ _ (decL vn) _ (HBL.out.next HB5.out) (by simp only [List.length_nil]; omega) (by omega)).mono ?_
            rintro e w6 ⟨rfl, hbl6, hb6, hk6⟩
            have HL6 : Hid (Bld w6 w.heap.size w.heap.size (joinT (ts.take (k + 1)))) := Lib.hid (by rw [HJ.out, HTX.out]; exact hbl6)
            have HB6 := Lib.hid ((bel_next HBW.out HB5.out).trans hb6)
            clear hbl6 hb6 hk6 c0 c1 c2
            go_wp2
            go_roundw
            case rel => exact ⟨k + 1, by go_num, by omega, HL6, HB6, HALL⟩
            case measure => simp [intOf]; omega
          have f2 : (kd == 2) = false := by simpa using h2
          by_cases h3 : kd = 3
          · subst h3
            have HTX : Hid (txt ⟨3, tx, v, ln, cl⟩ = 34 :: (tx ++ [34])) := Lib.hid rfl
            have hqe := quot_eq tx
            go_wp2_with fail
            refine (bld_str _ _ _ (34 :: (tx ++ [34])) _ HBL.out (by simp only [List.length_nil]; simp; omega) hzW).mono ?_
            rintro e w6 ⟨rfl, hbl6, hb6, hk6⟩
            have HL6 : Hid (Bld w6 w.heap.size w.heap.size (joinT (ts.take (k + 1)))) := Lib.hid (by rw [HJ.out, HTX.out]; exact hbl6)
            have HB6 := Lib.hid (HBW.out.trans hb6)
            clear hbl6 hb6 hk6 c0 c1 c2 hqe
            go_wp2
            go_roundw
            case rel => exact ⟨k + 1, by go_num, by omega, HL6, HB6, HALL⟩
            case measure => simp [intOf]; omega
          have f3 : (kd == 3) = false := by simpa using h3
          have HTX : Hid (txt ⟨kd, tx, v, ln, cl⟩ = tx) := Lib.hid (by simp [txt, h2, h3])
          go_wp2_with fail
          refine (bld_str _ _ _ tx _ HBL.out (by simp only [List.length_nil]; omega) hzW).mono ?_
          rintro e w6 ⟨rfl, hbl6, hb6, hk6⟩
          have HL6 : Hid (Bld w6 w.heap.size w.heap.size (joinT (ts.take (k + 1)))) := Lib.hid (by rw [HJ.out, HTX.out]; exact hbl6)
          have HB6 := Lib.hid (HBW.out.trans hb6)
          clear hbl6 hb6 hk6 c0 c1 c2
          go_wp2
          go_roundw
          case rel => exact ⟨k + 1, by go_num, by omega, HL6, HB6, HALL⟩
          case measure => simp [intOf]; omega
        · have HJ0 := HJ.out
          rw [if_neg hk0] at HJ0
          have HJ := Lib.hid HJ0
          clear HJ0
          have fk : decide ((0 : Int) < (k : Int)) = true := by simp; omega
          have fk2 : 0 < k := by omega
          go_wp2_with fail
          refine (bld_byte _ _ _ 32 _ HBL.out (by omega) (by omega)).mono ?_
          rintro e w3 ⟨rfl, hbl3, hb3, hk3⟩
          have HT3 := Lib.hid (HT.out.kept hk3 (by omega))
          have HBW3 := Lib.hid (HBW.out.trans hb3)
          have HBL3 := Lib.hid hbl3
          clear HT HBW HBL hbl3 hb3 hk3
          have HT := HT3
          have HBW := HBW3
          have HBL := HBL3
          clear HT3 HBW3 HBL3
          have c0 : w3.cell? ⟨wr.heap.size, 0, none⟩ = some (.int .i64 kd) := by have := HT.out; unfold TokAt at this; simp [World.cell?, this]
          have c1 : w3.cell? ⟨wr.heap.size, 1, none⟩ = some (.string ⟨tx.toArray⟩) := by have := HT.out; unfold TokAt at this; simp [World.cell?, this]
          have c2 : w3.cell? ⟨wr.heap.size, 2, none⟩ = some (.int .u64 v) := by have := HT.out; unfold TokAt at this; simp [World.cell?, this]
          have hzW : w.heap.size ≤ w3.heap.size := HBW.out.size
          by_cases h2 : kd = 2
          · obtain ⟨vn, rfl⟩ : ∃ n : Nat, v = (n : Int) := ⟨v.toNat, by omega⟩
            subst h2
            have HFU := Lib.hid (formatUint_any vn (by omega) _ (HP.out.next HBW.out))
            have HTX : Hid (txt ⟨2, tx, vn, ln, cl⟩ = decL vn) := Lib.hid rfl
            have hdl := (isDec vn (by omega)).len
            go_wp2_with fail
            refine HFU.out.mono ?_
            rintro e w5 ⟨rfl, hb5⟩
            have HB5 := Lib.hid hb5
            have hs5 := hb5.size
            clear hb5
            go_wp2_with fail
            refine (bld_str _ _ _ (decL vn) _ (HBL.out.next HB5.out) (by simp only [List.length_append, List.length_cons, List.length_nil]; omega) (by omega)).mono ?_
            rintro e w6 ⟨rfl, hbl6, hb6, hk6⟩
            have HL6 : Hid (Bld w6 w.heap.size w.heap.size (joinT (ts.take (k + 1)))) := Lib.hid (by rw [HJ.out, HTX.out]; rw [List.append_assoc] at hbl6; exact hbl6)
            have HB6 := Lib.hid ((bel_next HBW.out HB5.out).trans hb6)
            clear hbl6 hb6 hk6 c0 c1 c2
            go_wp2
            go_roundw
            case rel => exact ⟨k + 1, by go_num, by omega, HL6, HB6, HALL⟩
            case measure => simp [intOf]; omega
          have f2 : (kd == 2) = false := by simpa using h2
          by_cases h3 : kd = 3
          · subst h3
            have HTX : Hid (txt ⟨3, tx, v, ln, cl⟩ = 34 :: (tx ++ [34])) := Lib.hid rfl
            have hqe := quot_eq tx
            go_wp2_with fail
            refine (bld_str _ _ _ (34 :: (tx ++ [34])) _ HBL.out (by simp only [List.length_append, List.length_cons, List.length_nil]; simp; omega) hzW).mono ?_
            rintro e w6 ⟨rfl, hbl6, hb6, hk6⟩
            have HL6 : Hid (Bld w6 w.heap.size w.heap.size (joinT (ts.take (k + 1)))) := Lib.hid (by rw [HJ.out, HTX.out]; rw [List.append_assoc] at hbl6; exact hbl6)
            have HB6 := Lib.hid (HBW.out.trans hb6)
            clear hbl6 hb6 hk6 c0 c1 c2 hqe
            go_wp2
            go_roundw
            case rel => exact ⟨k + 1, by go_num, by omega, HL6, HB6, HALL⟩
            case measure => simp [intOf]; omega
          have f3 : (kd == 3) = false := by simpa using h3
          have HTX : Hid (txt ⟨kd, tx, v, ln, cl⟩ = tx) := Lib.hid (by simp [txt, h2, h3])
          go_wp2_with fail
          refine (bld_str _ _ _ tx _ HBL.out (by simp only [List.length_append, List.length_cons, List.length_nil]; omega) hzW).mono ?_
          rintro e w6 ⟨rfl, hbl6, hb6, hk6⟩
          have HL6 : Hid (Bld w6 w.heap.size w.heap.size (joinT (ts.take (k + 1)))) := Lib.hid (by rw [HJ.out, HTX.out]; rw [List.append_assoc] at hbl6; exact hbl6)
          have HB6 := Lib.hid (HBW.out.trans hb6)
          clear hbl6 hb6 hk6 c0 c1 c2
          go_wp2
          go_roundw
          case rel => exact ⟨k + 1, by go_num, by omega, HL6, HB6, HALL⟩
          case measure => simp [intOf]; omega
    · have HFD := Lib.hid (fmt_done hge HAL.out)
      have hzW : w.heap.size ≤ wr.heap.size := HW.out.size
      go_wp2_with fail
      refine (bld_string _ _ _ _ HL.out hzW).mono ?_
      rintro e w2 ⟨rfl, hb2⟩
      have HB2 := Lib.hid (HW.out.trans hb2)
      clear hb2
      go_wp2
      go_ret
      exact ⟨by rw [HFD.out]; rfl, HB2.out⟩
end Go.Proofs.YtmodjokoggmnaaaGreatDoor


namespace Go.Proofs.YtmodjokoggmnaaaGreatDoor

open Go.RowKit Go.Shelf

def strTok (l : List UInt8) : GTok := ⟨3, l, 0, 0, 0⟩
def quoteL (l : List UInt8) : List UInt8 := if l.all isStr then 34 :: (l ++ [34]) else []
theorem quoteL_eq (l : List UInt8) : fmtL [strTok l] = quoteL l := by
  simp [fmtL, quoteL, wf, strTok, joinT, tailT, txt]
set_option maxRecDepth 50000 in
set_option maxHeartbeats 1000000 in
theorem quoted_any (l : List UInt8) (w : World) (hl : l.length ≤ 65536) (hP : Pow w) :
    Calls Tryz.prog 69 #[.string ⟨l.toArray⟩] w fun e w' => e = .returned (.string ⟨(quoteL l).toArray⟩) ∧ Below w.heap.size w w' := by
  have hb := bel_lit (Below.refl w.heap.size w) (.cells #[.int .i64 3, .string ⟨l.toArray⟩, .int .u64 0, .int .i64 0, .int .i64 0] 52)
  have hF := format_any [strTok l] (some ⟨w.heap.size, 0, none⟩) 1 (w.alloc (.cells #[.int .i64 3, .string ⟨l.toArray⟩, .int .u64 0, .int .i64 0, .int .i64 0] 52)) (GRow.lit GTok.len5 w 52 [strTok l] #[.int .i64 3, .string ⟨l.toArray⟩, .int .u64 0, .int .i64 0, .int .i64 0] rfl (by unfold maxLen; simp)) ⟨by simp, fun t ht => by simp at ht; subst ht; exact ⟨hl, by simp [strTok], by simp [strTok]⟩⟩ (hP.next hb)
  rw [quoteL_eq] at hF
  have HF := Lib.hid hF
  have HB := Lib.hid hb
  clear hF hb hP
  go_enter Tryz.func69, Tryz.ntmps69
  go_wp2_with fail
  refine HF.out.mono ?_
  rintro e w1 ⟨rfl, hb1⟩
  go_wp2
  go_ret
  exact ⟨rfl, bel_next HB.out hb1⟩

def sizedB (l : List UInt8) : Bool := decide (1 ≤ l.length) && decide (l.length ≤ 24)
theorem nameSized_any (l : List UInt8) (w : World) (hl : l.length ≤ maxLen) :
    Calls Tryz.prog 89 #[.string ⟨l.toArray⟩] w fun e w' => e = .returned (.bool (sizedB l)) ∧ w = w' := by
  have hsz : (⟨l.toArray⟩ : ByteArray).size = l.length := ba_size l
  unfold maxLen at hl
  have HS : Hid (sizedB l = (decide (1 ≤ l.length) && decide (l.length ≤ 24))) := Lib.hid rfl
  by_cases h1 : 1 ≤ l.length
  · by_cases h2 : l.length ≤ 24
    · go_enter Tryz.func89, Tryz.ntmps89
      go_wp2
      go_ret
      exact ⟨ret_bool (by rw [HS.out]; simp [h1, h2]; omega), rfl⟩
    · go_enter Tryz.func89, Tryz.ntmps89
      go_wp2
      go_ret
      exact ⟨ret_bool (by rw [HS.out]; simp [h1, h2]; omega), rfl⟩
  · go_enter Tryz.func89, Tryz.ntmps89
    go_wp2
    go_ret
    exact ⟨ret_bool (by rw [HS.out]; simp [h1]), rfl⟩

/-- A well-formed value. -/
def gwfV (v : GVal) : Bool := if v.kind = 1 then v.word.isEmpty else if v.kind = 2 then decide (v.int = 0) && sizedB v.word && v.word.all isStr else false
theorem quote_ne (l : List UInt8) : (quoteL l = []) ↔ l.all isStr = false := by
  unfold quoteL
  by_cases h : l.all isStr = true
  · rw [if_pos h, h]; simp
  · rw [if_neg h]; simp at h ⊢; exact h
set_option maxRecDepth 50000 in
set_option maxHeartbeats 1000000 in
theorem wellFormedValue_any (v : GVal) (w : World) (hl : v.word.length ≤ 65536) (hP : Pow w) :
    Calls Tryz.prog 66 #[v.val] w fun e w' => e = .returned (.bool (gwfV v)) ∧ Below w.heap.size w w' := by
  obtain ⟨kd, n, l⟩ := v
  simp only at hl
  unfold GVal.val
  have hsz : (⟨l.toArray⟩ : ByteArray).size = l.length := ba_size l
  have HN := Lib.hid fun W => nameSized_any l W (by unfold maxLen; omega)
  have HQ := Lib.hid fun W (hb : Below w.heap.size w W) => quoted_any l W hl (hP.next hb)
  have HE := Lib.hid (quote_ne l)
  clear hP
  by_cases h1 : kd = 1
  · subst h1
    have HF : Hid (gwfV ⟨1, n, l⟩ = l.isEmpty) := Lib.hid rfl
    cases l with
    | nil =>
      go_enter Tryz.func66, Tryz.ntmps66
      go_wp2
      go_ret
      exact ⟨ret_bool (by rw [HF.out]; rfl), (Below.refl _ _).alloc (Nat.le_refl _) _⟩
    | cons c r =>
      go_enter Tryz.func66, Tryz.ntmps66
      go_wp2
      go_ret
      exact ⟨ret_bool (by rw [HF.out]; rfl), (Below.refl _ _).alloc (Nat.le_refl _) _⟩
  by_cases h2 : kd = 2
  · subst h2
    have HF : Hid (gwfV ⟨2, n, l⟩ = (decide (n = 0) && sizedB l && l.all isStr)) := Lib.hid rfl
    by_cases h0 : n = 0
    · subst h0
      have HB := Lib.hid (bel_lit (Below.refl w.heap.size w) (.cells #[.int .i64 2, .int .i64 0, .string ⟨l.toArray⟩] 40))
      cases hs : sizedB l
      · rw [hs] at HN HF
        go_enter Tryz.func66, Tryz.ntmps66
        go_wp2_with fail
        refine (HN.out _).mono ?_
        rintro e w1 ⟨rfl, rfl⟩
        go_wp2
        go_ret
        exact ⟨ret_bool (by rw [HF.out]; rfl), HB.out⟩
      · rw [hs] at HN HF
        generalize quoteL l = q at *
        cases ha : l.all isStr
        · rw [ha] at HE HF
          obtain rfl : q = [] := HE.out.2 rfl
          go_enter Tryz.func66, Tryz.ntmps66
          go_wp2_with fail
          refine (HN.out _).mono ?_
          rintro e w1 ⟨rfl, rfl⟩
          go_wp2_with fail
          refine (HQ.out _ HB.out).mono ?_
          rintro e w1 ⟨rfl, hb1⟩
          go_wp2
          go_ret
          exact ⟨ret_bool (by rw [HF.out]; rfl), bel_next HB.out hb1⟩
        · rw [ha] at HE HF
          obtain ⟨c, r, rfl⟩ : ∃ c r, q = c :: r := by
            cases q with
            | nil => have := HE.out.1 rfl; cases this
            | cons c r => exact ⟨c, r, rfl⟩
          go_enter Tryz.func66, Tryz.ntmps66
          go_wp2_with fail
          refine (HN.out _).mono ?_
          rintro e w1 ⟨rfl, rfl⟩
          go_wp2_with fail
          refine (HQ.out _ HB.out).mono ?_
          rintro e w1 ⟨rfl, hb1⟩
          go_wp2
          go_ret
          exact ⟨ret_bool (by rw [HF.out]; rfl), bel_next HB.out hb1⟩
    · have f0 : (n == 0) = false := by simpa using h0
      go_enter Tryz.func66, Tryz.ntmps66
      go_wp2
      go_ret
      exact ⟨ret_bool (by rw [HF.out]; simp [h0]), (Below.refl _ _).alloc (Nat.le_refl _) _⟩
  · have HF : Hid (gwfV ⟨kd, n, l⟩ = false) := Lib.hid (by simp [gwfV, h1, h2])
    have f1 : (kd == 1) = false := by simpa using h1
    have f2 : (kd == 2) = false := by simpa using h2
    go_enter Tryz.func66, Tryz.ntmps66
    go_wp2
    go_ret
    exact ⟨ret_bool HF.out.symm, (Below.refl _ _).alloc (Nat.le_refl _) _⟩

/-- The text of a value. -/
def vtextL (v : GVal) : List UInt8 := if v.kind = 1 then Lib.itoa v.int else if nameB v.word then v.word else quoteL v.word
set_option maxRecDepth 50000 in
set_option maxHeartbeats 1000000 in
theorem valueText_any (v : GVal) (w : World) (hl : v.word.length ≤ 65536) (h0 : -9223372036854775808 ≤ v.int) (h1 : v.int ≤ 9223372036854775807) (hP : Pow w) :
    Calls Tryz.prog 36 #[v.val] w fun e w' => e = .returned (.string ⟨(vtextL v).toArray⟩) ∧ Below w.heap.size w w' := by
  obtain ⟨kd, n, l⟩ := v
  simp only at hl h0 h1
  unfold GVal.val
  have HB := Lib.hid (bel_lit (Below.refl w.heap.size w) (.cells #[.int .i64 kd, .int .i64 n, .string ⟨l.toArray⟩] 40))
  have HI := Lib.hid (Tryz.strconv_FormatInt_10 n h0 h1 _ (hP.next HB.out))
  have HQ := Lib.hid (quoted_any l _ hl (hP.next HB.out))
  have HN := Lib.hid fun W => isName_any l W (by unfold maxLen; omega)
  clear hP
  by_cases hk : kd = 1
  · subst hk
    have HF : Hid (vtextL ⟨1, n, l⟩ = Lib.itoa n) := Lib.hid rfl
    go_enter Tryz.func36, Tryz.ntmps36
    go_wp2_with fail
    refine HI.out.mono ?_
    rintro e w1 ⟨rfl, k, os, rfl⟩
    go_wp2
    go_ret
    exact ⟨by rw [HF.out]; rfl, bel_next HB.out (Lib.below_grow _ _ (Nat.le_refl _) k os)⟩
  · have f1 : (kd == 1) = false := by simpa using hk
    cases hn : nameB l
    · rw [hn] at HN
      have HF : Hid (vtextL ⟨kd, n, l⟩ = quoteL l) := Lib.hid (by simp [vtextL, hk, hn])
      generalize quoteL l = q at *
      go_enter Tryz.func36, Tryz.ntmps36
      go_wp2_with fail
      refine (HN.out _).mono ?_
      rintro e w1 ⟨rfl, rfl⟩
      go_wp2_with fail
      refine HQ.out.mono ?_
      rintro e w1 ⟨rfl, hb1⟩
      go_wp2
      go_ret
      exact ⟨by rw [HF.out]; rfl, bel_next HB.out hb1⟩
    · rw [hn] at HN
      have HF : Hid (vtextL ⟨kd, n, l⟩ = l) := Lib.hid (by simp [vtextL, hk, hn])
      go_enter Tryz.func36, Tryz.ntmps36
      go_wp2_with fail
      refine (HN.out _).mono ?_
      rintro e w1 ⟨rfl, rfl⟩
      go_wp2
      go_ret
      exact ⟨by rw [HF.out]; rfl, HB.out⟩
end Go.Proofs.YtmodjokoggmnaaaGreatDoor


namespace Go.Proofs.YtmodjokoggmnaaaGreatDoor

open Go.RowKit Go.Shelf

set_option maxRecDepth 50000 in
theorem wfClosure_any (v : GVal) (w : World) (hl : v.word.length ≤ 65536) (hP : Pow w) :
    Calls Tryz.prog 65 #[v.val] w fun e w' => e = .returned (.bool (!gwfV v)) ∧ Below w.heap.size w w' := by
  have HB := Lib.hid (bel_lit (Below.refl w.heap.size w) (.cells #[.int .i64 v.kind, .int .i64 v.int, .string ⟨v.word.toArray⟩] 40))
  have HW := Lib.hid (wellFormedValue_any v _ hl (hP.next HB.out))
  clear hP
  obtain ⟨kd, n, l⟩ := v
  simp only [GVal.val] at *
  generalize gwfV ⟨kd, n, l⟩ = g at *
  go_enter Tryz.func65, Tryz.ntmps65
  go_wp2_with fail
  refine HW.out.mono ?_
  rintro e w1 ⟨rfl, hb1⟩
  have hnot : ∀ (x : Bool) (w : World), (Op.unary .not (.bool x)).run Tryz.prog w = .ok (.bool (!x)) w := fun _ _ => rfl
  go_wp2
  go_ret
  exact ⟨rfl, bel_next HB.out hb1⟩
theorem allV_snoc {vs : List GVal} {k : Nat} (h : k < vs.length) (ha : (vs.take k).all gwfV = true) (hw : gwfV vs[k] = true) : (vs.take (k + 1)).all gwfV = true := by
  rw [List.take_succ_eq_append_getElem h, List.all_append, ha]; simp [hw]
theorem allV_fail {vs : List GVal} {k : Nat} (h : k < vs.length) (hw : gwfV vs[k] = false) : vs.all gwfV = false := by
  rw [List.all_eq_false]
  exact ⟨_, List.getElem_mem h, by rw [hw]; simp⟩
set_option maxRecDepth 50000 in
set_option maxHeartbeats 1000000 in
theorem indexV_any (vs : List GVal) (A : Option Addr) (c : Nat) (w : World) (hA : GRow GVal.cells 3 w w.heap.size A vs) (hn : vs.length ≤ 1099511627776) (hs : ∀ v ∈ vs, v.word.length ≤ 65536) (hP : Pow w) :
    Calls Tryz.prog 102 #[.slice A vs.length c, .func (.func 65) #[] #[]] w fun e w' => (∃ r : Int, e = .returned (.int .i64 r) ∧ decide (0 ≤ r) = !vs.all gwfV) ∧ Below w.heap.size w w' := by
  have HA := Lib.hid hA
  have HS := Lib.hid hs
  have HP := Lib.hid hP
  clear hA hs hP
  go_enter Tryz.func102, Tryz.ntmps102
  go_wp2
  go_loopw [8] (fun vi wr => ∃ k : Nat, vi = .int .i64 k ∧ k ≤ vs.length ∧ Hid ((vs.take k).all gwfV = true) ∧ Hid (Below w.heap.size w wr)) (fun vi _ => vs.length - (intOf vi).toNat)
  case atStart => exact ⟨0, rfl, Nat.zero_le _, Lib.hid rfl, Lib.hid (Below.refl _ _)⟩
  case round =>
    obtain ⟨k, rfl, hk, HT, HW⟩ := hrel
    rcases Nat.lt_or_ge k vs.length with hlt | hge
    · obtain ⟨b1, o1, rfl, hb1, x0, x1, x2⟩ := (HA.out.below (Nat.le_refl _) HW.out).val3 hlt
      have hv := HS.out vs[k] (List.getElem_mem hlt)
      have HAS := Lib.hid fun h => allV_snoc hlt HT.out h
      have HAF := Lib.hid fun h => allV_fail hlt h
      have hsz := HW.out.size
      have hl1 : b1 < wr.heap.size := by omega
      have HC := Lib.hid (wfClosure_any vs[k] wr hv (HP.out.next HW.out))
      generalize vs[k] = x at *
      obtain ⟨xk, xi, xw⟩ := x
      simp only [GVal.val] at *
      generalize gwfV ⟨xk, xi, xw⟩ = g at *
      go_wp2_with fail
      refine HC.out.mono ?_
      rintro e w1 ⟨rfl, hb3⟩
      have HN := Lib.hid (bel_next HW.out hb3)
      clear hb3
      cases g
      · have HF := Lib.hid (HAF.out rfl)
        go_wp2
        go_ret
        refine ⟨⟨_, rfl, ?_⟩, HN.out⟩
        rw [HF.out]
        simp
      · have HS2 := Lib.hid (HAS.out rfl)
        go_wp2
        go_roundw
        case rel => exact ⟨k + 1, by go_num, by omega, HS2, HN⟩
        case measure => simp [intOf]; omega
    · go_wp2
      go_ret
      refine ⟨⟨_, rfl, ?_⟩, HW.out⟩
      have := HT.out
      rw [List.take_of_length_le hge] at this
      rw [this]
      rfl
set_option maxRecDepth 50000 in
theorem containsV_any (vs : List GVal) (A : Option Addr) (c : Nat) (w : World) (hA : GRow GVal.cells 3 w w.heap.size A vs) (hn : vs.length ≤ 1099511627776) (hs : ∀ v ∈ vs, v.word.length ≤ 65536) (hP : Pow w) :
    Calls Tryz.prog 64 #[.slice A vs.length c, .func (.func 65) #[] #[]] w fun e w' => e = .returned (.bool (!vs.all gwfV)) ∧ Below w.heap.size w w' := by
  have HI := Lib.hid (indexV_any vs A c w hA hn hs hP)
  clear hA hs hP
  generalize vs.all gwfV = g at *
  go_enter Tryz.func64, Tryz.ntmps64
  go_wp2_with fail
  refine HI.out.mono ?_
  rintro e w1 ⟨⟨r, rfl, hr⟩, hb⟩
  have HR := Lib.hid hr
  have HB := Lib.hid hb
  clear hr hb HI
  go_wp2
  go_ret
  exact ⟨ret_bool HR.out, HB.out⟩

/-- A well-formed fact. -/
def gwfF (f : GFact) : Bool := nameB f.rel && decide (1 ≤ f.args.length) && decide (f.args.length ≤ 8) && f.args.all gwfV
set_option maxRecDepth 50000 in
set_option maxHeartbeats 1000000 in
theorem fwellFormed_any (f : GFact) (A : Option Addr) (c : Nat) (w : World) (hA : GRow GVal.cells 3 w w.heap.size A f.args) (hr : f.rel.length ≤ 65536) (hn : f.args.length ≤ 1099511627776) (hs : ∀ v ∈ f.args, v.word.length ≤ 65536) (hP : Pow w) :
    Calls Tryz.prog 34 #[factV f.rel A f.args.length c] w fun e w' => e = .returned (.bool (gwfF f)) ∧ Below w.heap.size w w' := by
  obtain ⟨r, vs⟩ := f
  simp only at *
  have HF : Hid (gwfF ⟨r, vs⟩ = (nameB r && decide (1 ≤ vs.length) && decide (vs.length ≤ 8) && vs.all gwfV)) := Lib.hid rfl
  have HB := Lib.hid (bel_lit (Below.refl w.heap.size w) (.cells #[.string ⟨r.toArray⟩, .slice A vs.length c] 37))
  have HN := Lib.hid fun W => isName_any r W (by unfold maxLen; omega)
  have HC := Lib.hid (containsV_any vs A c (w.alloc (.cells #[.string ⟨r.toArray⟩, .slice A vs.length c] 37)) ((hA.below (Nat.le_refl _) HB.out).wide HB.out.size) hn hs (hP.next HB.out))
  clear hA hs hP
  simp only [factV]
  generalize gwfF ⟨r, vs⟩ = gf at *
  generalize vs.all gwfV = g at *
  have hnot : ∀ (x : Bool) (w : World), (Op.unary .not (.bool x)).run Tryz.prog w = .ok (.bool (!x)) w := fun _ _ => rfl
  cases hnm : nameB r
  · rw [hnm] at HN HF
    go_enter Tryz.func34, Tryz.ntmps34
    go_wp2_with fail
    refine (HN.out _).mono ?_
    rintro e w1 ⟨rfl, rfl⟩
    go_wp2
    go_ret
    exact ⟨ret_bool (by rw [HF.out]; rfl), HB.out⟩
  rw [hnm] at HN HF
  by_cases h1 : 1 ≤ vs.length
  · by_cases h2 : vs.length ≤ 8
    · go_enter Tryz.func34, Tryz.ntmps34
      go_wp2_with fail
      refine (HN.out _).mono ?_
      rintro e w1 ⟨rfl, rfl⟩
      go_wp2_with fail
      refine HC.out.mono ?_
      rintro e w1 ⟨rfl, hb1⟩
      go_wp2
      go_ret
      exact ⟨ret_bool (by rw [HF.out]; simp [h1, h2]), bel_next HB.out hb1⟩
    · go_enter Tryz.func34, Tryz.ntmps34
      go_wp2_with fail
      refine (HN.out _).mono ?_
      rintro e w1 ⟨rfl, rfl⟩
      go_wp2
      go_ret
      exact ⟨ret_bool (by rw [HF.out]; simp [h2]), HB.out⟩
  · go_enter Tryz.func34, Tryz.ntmps34
    go_wp2_with fail
    refine (HN.out _).mono ?_
    rintro e w1 ⟨rfl, rfl⟩
    go_wp2
    go_ret
    exact ⟨ret_bool (by rw [HF.out]; simp [h1]), HB.out⟩
end Go.Proofs.YtmodjokoggmnaaaGreatDoor
