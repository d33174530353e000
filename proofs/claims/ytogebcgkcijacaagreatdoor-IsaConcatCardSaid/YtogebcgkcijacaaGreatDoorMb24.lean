/-
  The contract of strconv.FormatUint at base 10: the number's decimal digits. And what the table of powers of ten gives.
  Conditions: the table internal/strconv.uint64pow10 lies as the program's text writes it.
  The contract of the law's same: of two slices that hold the same tokens (with bare: the same but for their positions) it returns true.
  Conditions: the slices have at most 65536 elements.
  The contract of hwlex.Format: the tokens' text, or the empty string if one of them is not well formed.
  Conditions: at most 65536 tokens, each of at most 65536 bytes, each value one of a uint64; the table of powers of ten lies as the program's text writes it.
-/
import Derived.Test.YtogebcgkcijacaaGreatDoorMb23
import Derived.Test.YtogebcgkcijacaaGreatDoorMb15
import Derived.Lib.AppendIntMem
import Derived.Test.YtogebcgkcijacaaGreatDoorMb7
namespace Go.Proofs.YtogebcgkcijacaaGreatDoor

open Go.RowKit Go.Shelf Go.Sort

theorem decDigits_decL (u : Nat) : Lib.decDigits u = decL u := by
  induction u using Nat.strongRecOn with
  | _ u ih =>
    rw [Lib.decDigits]
    by_cases h : u < 10
    · rw [dif_pos h, decL_lt h]; rfl
    · rw [dif_neg h, decL_ge h, ih (u / 10) (by omega)]; rfl

def Pow (w : World) : Prop := Lib.TabIs Tryz.prog w "internal/strconv.uint64pow10" .u64 Lib.pow10Tab
theorem gPow : Tryz.prog.globalNamed "internal/strconv.uint64pow10" = some 2 := by kernel_rfl
theorem Pow.next {w w' : World} (h : Pow w) (hb : Below w.heap.size w w') : Pow w' := by
  unfold Pow Lib.TabIs World.var? at h ⊢
  rw [gPow] at h ⊢
  simp only [Option.bind_some] at h ⊢
  have hlt : 2 < w.heap.size := by
    rcases Nat.lt_or_ge 2 w.heap.size with h' | h'
    · exact h'
    · rw [Array.getElem?_eq_none h'] at h; cases h
  rw [hb.block _ hlt]
  exact h

set_option maxRecDepth 100000 in
set_option maxHeartbeats 1000000 in
theorem ifu_any (u : Nat) (hu64 : u < 18446744073709551616) (w : World) (hP : Pow w) :
    Calls Tryz.prog 85 #[.int .u64 u, .int .i64 10] w fun e w' => e = .returned (.string ⟨(decL u).toArray⟩) ∧ Below w.heap.size w w' := by
  rcases Nat.lt_or_ge u 100 with h100 | h100
  · have HS := Lib.hid (Tryz.internal_strconv_small u h100)
    have HE := Lib.hid (decDigits_decL u)
    go_enter Tryz.func85, Tryz.ntmps85
    go_wp2_with fail
    refine (HS.out _).mono ?_
    rintro e w' ⟨rfl, rfl⟩
    go_wp2
    go_ret
    exact ⟨by rw [HE.out]; rfl, Below.refl _ _⟩
  · have hu1 : 1 ≤ u := by omega
    have hnd20 : Lib.nDigits u ≤ 20 := by have := Lib.numDigits_eq u hu1 hu64; split at this <;> omega
    have hal : Tryz.prog.arrayLen 154 = 24 := by kernel_rfl
    have hsl : ∀ W, (Instr.sliceAt 154 (.pointer (some ⟨w.heap.size, 0, none⟩)) none (some (.int .i64 (Lib.nDigits u : Int))) none).run Tryz.prog W = .ok (.slice (some ⟨w.heap.size, 0, none⟩) (Lib.nDigits u) 24) W := fun W => by
      rw [run_sliceAt_array_h W 154 ⟨w.heap.size, 0, none⟩ (by kernel_rfl) .i64 (Lib.nDigits u : Int) (by omega) (by rw [hal]; omega)]
      go_simp
      try rfl
    have hH0 := Lib.holds_zero0 w 154 (Lib.nDigits u) (by omega)
    have hfmt := Tryz.internal_strconv_formatBase10 w.heap.size 0 24 u (Array.replicate (Lib.nDigits u) 0) (w.alloc (.cells Lib.zeros24 154)) hH0 (by rw [Array.size_replicate]; exact Lib.lt_pow_nDigits u) hu64 (by rw [Array.size_replicate]; omega)
    rw [Array.size_replicate] at hfmt
    have HF := Lib.hid hfmt
    have HN := Lib.hid (Tryz.internal_strconv_numDigits u hu1 hu64 _ (Lib.tabIs_alloc hP (.cells Lib.zeros24 154)))
    have HH0 := Lib.hid hH0
    have HE := Lib.hid (decDigits_decL u)
    clear hH0 hal hfmt hP
    go_enter Tryz.func85, Tryz.ntmps85
    go_wp2_with fail
    refine HN.out.mono ?_
    rintro e w' ⟨rfl, rfl⟩
    go_wp2_with fail
    refine HF.out.mono ?_
    rintro e w' ⟨rfl, k, v', dk, rfl, hF⟩
    have hcv : (convert 23 9 (.slice (some ⟨w.heap.size, 0, none⟩) (Lib.nDigits u) 24)).run Tryz.prog ((putRow (fun (b : UInt8) => Value.int .u8 (b.toNat : Int)) (w.alloc (.cells Lib.zeros24 154)) w.heap.size 0 dk).drewN k) = .ok (.string ⟨(Lib.decDigits u).toArray⟩) ((putRow (fun (b : UInt8) => Value.int .u8 (b.toNat : Int)) (w.alloc (.cells Lib.zeros24 154)) w.heap.size 0 dk).drewN k) := by
      have h := run_convert_bytes_back (P := Tryz.prog) ((putRow (fun (b : UInt8) => Value.int .u8 (b.toNat : Int)) (w.alloc (.cells Lib.zeros24 154)) w.heap.size 0 dk).drewN k) 23 9 5 ⟨w.heap.size, 0, none⟩ 24 (Lib.decDigits u) Tryz.underlying23 Tryz.underlying5 Tryz.underlying9 (fun j hj => by
        rw [Lib.row_is_numeral hF j hj, Lib.add_plain, World.cell?_drewN]
        exact cell?_putRow (fun (b : UInt8) => Value.int .u8 (b.toNat : Int)) _ w.heap.size 0 _ dk HH0.out (by rw [hF.size, Array.size_replicate]) j (by rw [hF.size]; rw [Lib.decDigits_length] at hj; exact hj))
      rw [Lib.decDigits_length] at h
      exact h
    have HB : Hid (Below w.heap.size w ((putRow (fun (b : UInt8) => Value.int .u8 (b.toNat : Int)) (w.alloc (.cells Lib.zeros24 154)) w.heap.size 0 dk).drewN k)) := Lib.hid (by
      rw [alloc_eq_grow]
      obtain ⟨os', _, e⟩ := putRow_grow_new (fun (b : UInt8) => Value.int .u8 (b.toNat : Int)) w #[.cells Lib.zeros24 154] w.heap.size 0 dk (Nat.le_refl _)
      rw [e]
      exact Lib.below_grow _ w (Nat.le_refl _) k os')
    clear hF
    go_wp2
    go_ret
    exact ⟨by rw [← HE.out]; rfl, HB.out⟩
theorem formatUint_any (u : Nat) (hu64 : u < 18446744073709551616) (w : World) (hP : Pow w) :
    Calls Tryz.prog 56 #[.int .u64 u, .int .i64 10] w fun e w' => e = .returned (.string ⟨(decL u).toArray⟩) ∧ Below w.heap.size w w' := by
  have HC := Lib.hid (ifu_any u hu64 w hP)
  clear hP
  go_enter Tryz.func56, Tryz.ntmps56
  go_wp2_with fail
  refine HC.out.mono ?_
  rintro e w1 ⟨rfl, hb⟩
  go_wp2
  go_ret
  exact ⟨rfl, hb⟩
end Go.Proofs.YtogebcgkcijacaaGreatDoor


namespace Go.Proofs.YtogebcgkcijacaaGreatDoor

open Go.RowKit Go.Shelf

/-- The same token, positions aside. -/
def GTok.like (a b : GTok) : Prop := a.kind = b.kind ∧ a.text = b.text ∧ a.value = b.value
theorem TRow.cells5 {w : World} {B : Nat} {A : Option Addr} {ts : List GTok} (h : TRow w B A ts) {i : Nat} (hi : i < ts.length) : ∃ b off, A = some ⟨b, off, none⟩ ∧ b < B ∧
    w.cell? ⟨b, off + i * 5, none⟩ = some (.int .i64 ts[i].kind) ∧ w.cell? ⟨b, off + i * 5 + 1, none⟩ = some (.string ⟨ts[i].text.toArray⟩) ∧ w.cell? ⟨b, off + i * 5 + 2, none⟩ = some (.int .u64 ts[i].value) ∧
    w.cell? ⟨b, off + i * 5 + 3, none⟩ = some (.int .i64 ts[i].line) ∧ w.cell? ⟨b, off + i * 5 + 4, none⟩ = some (.int .i64 ts[i].col) := by
  obtain ⟨b, off, e, hb, hc⟩ := h (by omega)
  exact ⟨b, off, e, hb, by have := hc i hi 0 _ rfl; simpa [Nat.add_assoc] using this, by have := hc i hi 1 _ rfl; simpa [Nat.add_assoc] using this, by have := hc i hi 2 _ rfl; simpa [Nat.add_assoc] using this,
    by have := hc i hi 3 _ rfl; simpa [Nat.add_assoc] using this, by have := hc i hi 4 _ rfl; simpa [Nat.add_assoc] using this⟩

end Go.Proofs.YtogebcgkcijacaaGreatDoor


namespace Go.Proofs.YtogebcgkcijacaaGreatDoor

open Go.RowKit Go.Shelf

/-- Tokens that are few and short. -/
def Few (ts : List GTok) : Prop := ts.length ≤ 65536 ∧ ∀ t ∈ ts, t.text.length ≤ 65536 ∧ 0 ≤ t.value ∧ t.value < 18446744073709551616
theorem txt_len (t : GTok) (h : t.text.length ≤ 65536) (h0 : 0 ≤ t.value) (h1 : t.value < 18446744073709551616) : (txt t).length ≤ 65538 := by
  unfold txt
  split
  · have := (isDec t.value.toNat (by omega)).len; omega
  · split
    · simp; omega
    · omega
theorem tail_len : ∀ (ts : List GTok), (∀ t ∈ ts, t.text.length ≤ 65536 ∧ 0 ≤ t.value ∧ t.value < 18446744073709551616) → (tailT ts).length ≤ ts.length * 65539 := by
  intro ts
  induction ts with
  | nil => intro _; simp [tailT]
  | cons t r ih =>
    intro h
    obtain ⟨h1, h2, h3⟩ := h t List.mem_cons_self
    have := ih fun x hx => h x (List.mem_cons_of_mem _ hx)
    have := txt_len t h1 h2 h3
    have e : tailT (t :: r) = 32 :: (txt t ++ tailT r) := by simp [tailT]
    rw [e]; simp; omega
theorem join_len (ts : List GTok) (h : ∀ t ∈ ts, t.text.length ≤ 65536 ∧ 0 ≤ t.value ∧ t.value < 18446744073709551616) : (joinT ts).length ≤ ts.length * 65539 := by
  cases ts with
  | nil => simp [joinT]
  | cons t r =>
    obtain ⟨h1, h2, h3⟩ := h t List.mem_cons_self
    have := tail_len r fun x hx => h x (List.mem_cons_of_mem _ hx)
    have := txt_len t h1 h2 h3
    show (txt t ++ tailT r).length ≤ _
    simp; omega
theorem Bld.next {w w' : World} {B b : Nat} {l : List UInt8} (h : Bld w B b l) (hb : Below w.heap.size w w') : Bld w' B b l := by
  have key : ∀ p, Lib.BuilderAt 68 5 B b p (Lib.byteCells l) w → Lib.BuilderAt 68 5 B b p (Lib.byteCells l) w' := by
    rintro p ⟨hB, v, hbk, hown, hne⟩
    have hlt : ∀ g o, w.heap[g]? = some o → g < w.heap.size := fun g o hg => by
      rcases Nat.lt_or_ge g w.heap.size with h' | h'
      · exact h'
      · simp [Array.getElem?_eq_none h'] at hg
    refine ⟨hB, v, (hb.block b (hlt b _ hbk)).trans hbk, ⟨hown.1, ?_⟩, hne⟩
    rcases hown.2 with hh | ⟨g, cap, cur, hv, hbs, hh, rest⟩
    · exact .inl hh
    · exact .inr ⟨g, cap, cur, hv, hbs, (hb.block g (hlt g _ hh)).trans hh, rest⟩
  rcases h with h | h
  · exact .inl (key _ h)
  · exact .inr (key _ h)
theorem all_snoc {ts : List GTok} {k : Nat} (h : k < ts.length) (ha : (ts.take k).all wf = true) (hw : wf ts[k] = true) : (ts.take (k + 1)).all wf = true := by
  rw [List.take_succ_eq_append_getElem h, List.all_append, ha]; simp [hw]
theorem all_fail {ts : List GTok} {k : Nat} (h : k < ts.length) (hw : wf ts[k] = false) : fmtL ts = [] := by
  unfold fmtL
  rw [if_neg]
  intro hh
  rw [List.all_eq_true] at hh
  rw [hh _ (List.getElem_mem h)] at hw
  cases hw
theorem fmt_done {ts : List GTok} {k : Nat} (h : ts.length ≤ k) (ha : (ts.take k).all wf = true) : fmtL ts = joinT (ts.take k) := by
  rw [List.take_of_length_le h] at ha ⊢
  unfold fmtL; rw [if_pos ha]
/-- A token's block. -/
def TokAt (w : World) (N : Nat) (t : GTok) : Prop := w.heap[N]? = some (.cells #[.int .i64 t.kind, .string ⟨t.text.toArray⟩, .int .u64 t.value, .int .i64 t.line, .int .i64 t.col] 47 (0, 0))
theorem TokAt.kept {w w' : World} {N b : Nat} {t : GTok} (h : TokAt w N t) (hk : Kept b w w') (hne : N ≠ b) : TokAt w' N t := hk N _ h (by simp; omega) (by rintro c fz he; cases he)

set_option maxRecDepth 50000 in
set_option maxHeartbeats 2000000 in
theorem format_any (ts : List GTok) (A : Option Addr) (cap : Nat) (w : World) (hA : TRow w w.heap.size A ts) (hF : Few ts) (hP : Pow w) :
    Calls Tryz.prog 23 #[.slice A ts.length cap] w fun e w' => e = .returned (.string ⟨(fmtL ts).toArray⟩) ∧ Below w.heap.size w w' := by
  have HA := Lib.hid hA
  have HP := Lib.hid hP
  have HX := Lib.hid hF.2
  have hn := hF.1
  have HB0 := Lib.hid (bld_new w)
  clear hA hP hF
  go_enter Tryz.func23, Tryz.ntmps23
  go_wp2
  go_loopw [8] (fun vi wr => ∃ k : Nat, vi = .int .i64 k ∧ k ≤ ts.length ∧ Hid (Bld wr w.heap.size w.heap.size (joinT (ts.take k))) ∧ Hid (Below w.heap.size w wr) ∧ Hid ((ts.take k).all wf = true)) (fun vi _ => ts.length - (intOf vi).toNat)
  case atStart => exact ⟨0, rfl, Nat.zero_le _, HB0, Lib.hid ((Below.refl _ _).alloc (Nat.le_refl _) _), Lib.hid rfl⟩
  case round =>
    obtain ⟨k, rfl, hk, HL, HW, HAL⟩ := hrel
    rcases Nat.lt_or_ge k ts.length with hlt | hge
    · obtain ⟨b1, o1, rfl, hb1, x0, x1, x2, x3, x4⟩ := (HA.out.below (Nat.le_refl _) HW.out).cells5 hlt
      have hx := HX.out ts[k] (List.getElem_mem hlt)
      have HJ := Lib.hid (joinT_take hlt)
      have hjl : (joinT (ts.take k)).length ≤ 65536 * 65539 := by
        have h1 := join_len (ts.take k) (fun t ht => HX.out t (List.mem_of_mem_take ht))
        rw [List.length_take] at h1
        have h2 : min k ts.length * 65539 ≤ 65536 * 65539 := Nat.mul_le_mul_right _ (by omega)
        exact Nat.le_trans h1 h2
      have HAS := Lib.hid fun h => all_snoc hlt HAL.out h
      have HAF := Lib.hid fun h => all_fail hlt h
      generalize ts[k] = t at *
      obtain ⟨kd, tx, v, ln, cl⟩ := t
      simp only at x0 x1 x2 x3 x4
      obtain ⟨hx1, hx2, hx3⟩ := hx
      simp only at hx1 hx2 hx3
      have hwz : w.heap.size < wr.heap.size := by
        rcases HL.out with h | h
        · exact h.lt
        · exact h.lt
      have HWF := Lib.hid fun W => wellFormed_any ⟨kd, tx, v, ln, cl⟩ W (by unfold maxLen; exact Nat.le_trans hx1 (by decide))
      unfold GTok.val at HWF
      simp only at HWF
      have HT0 : Hid (TokAt (wr.alloc (.cells #[.int .i64 kd, .string ⟨tx.toArray⟩, .int .u64 v, .int .i64 ln, .int .i64 cl] 47)) wr.heap.size ⟨kd, tx, v, ln, cl⟩) := Lib.hid (heap_alloc_new wr _)
      have hzb : b1 < wr.heap.size := by omega
      have HLW := Lib.hid (HL.out.alloc (.cells #[.int .i64 kd, .string ⟨tx.toArray⟩, .int .u64 v, .int .i64 ln, .int .i64 cl] 47))
      cases hw : wf ⟨kd, tx, v, ln, cl⟩
      · have HFL := Lib.hid (HAF.out hw)
        rw [hw] at HWF
        clear hw
        go_wp2_with fail
        refine (HWF.out _).mono ?_
        rintro e w2 ⟨rfl, hb2⟩
        go_wp2
        go_ret
        exact ⟨by rw [HFL.out]; rfl, bel_alloc HW.out hb2⟩
      · have HALL := Lib.hid (HAS.out hw)
        rw [hw] at HWF
        clear hw
        go_wp2_with fail
        refine (HWF.out _).mono ?_
        rintro e w2 ⟨rfl, hb2⟩
        have HT := Lib.hid (show TokAt w2 wr.heap.size ⟨kd, tx, v, ln, cl⟩ from (hb2.block _ (by simp)).trans HT0.out)
        have HBL := Lib.hid (HLW.out.next hb2)
        have HBW := Lib.hid (bel_alloc HW.out hb2)
        have hs2 : wr.heap.size < w2.heap.size := by have := hb2.size; simp at this; omega
        clear hb2 x0 x1 x2 x3 x4
        by_cases hk0 : k = 0
        · have HJ0 := HJ.out
          rw [if_pos hk0] at HJ0
          have HJL : Hid (joinT (ts.take k) = []) := Lib.hid (by rw [hk0]; rfl)
          rw [HJL.out] at HBL
          have HJ := Lib.hid HJ0
          clear HJ0
          have fk : decide ((0 : Int) < (k : Int)) = false := by simp; omega
          have fk2 : ¬ 0 < k := by omega
          have c0 : w2.cell? ⟨wr.heap.size, 0, none⟩ = some (.int .i64 kd) := by have := HT.out; unfold TokAt at this; simp [World.cell?, this]
          have c1 : w2.cell? ⟨wr.heap.size, 1, none⟩ = some (.string ⟨tx.toArray⟩) := by have := HT.out; unfold TokAt at this; simp [World.cell?, this]
          have c2 : w2.cell? ⟨wr.heap.size, 2, none⟩ = some (.int .u64 v) := by have := HT.out; unfold TokAt at this; simp [World.cell?, this]
          have hzW : w.heap.size ≤ w2.heap.size := HBW.out.size
          by_cases h2 : kd = 2
          · obtain ⟨vn, rfl⟩ : ∃ n : Nat, v = (n : Int) := ⟨v.toNat, by omega⟩
            subst h2
            have HFU := Lib.hid (formatUint_any vn (by omega) _ (HP.out.next HBW.out))
            have HTX : Hid (txt ⟨2, tx, vn, ln, cl⟩ = decL vn) := Lib.hid rfl
            have hdl := (isDec vn (by omega)).len
            go_wp2_with fail
            refine HFU.out.mono ?_
            rintro e w5 ⟨rfl, hb5⟩
            have HB5 := Lib.hid hb5
            have hs5 := hb5.size
            clear hb5
            go_wp2_with fail
            refine (bld_str _ _ _ (decL vn) _ (HBL.out.next HB5.out) (by simp only [List.length_nil]; omega) (by omega)).mono ?_
            rintro e w6 ⟨rfl, hbl6, hb6, hk6⟩
            have HL6 : Hid (Bld w6 w.heap.size w.heap.size (joinT (ts.take (k + 1)))) := Lib.hid (by rw [HJ.out, HTX.out]; exact hbl6)
            have HB6 := Lib.hid ((bel_next HBW.out HB5.out).trans hb6)
            clear hbl6 hb6 hk6 c0 c1 c2
            go_wp2
            go_roundw
            case rel => exact ⟨k + 1, by go_num, by omega, HL6, HB6, HALL⟩
            case measure => simp [intOf]; omega
          have f2 : (kd == 2) = false := by simpa using h2
          by_cases h3 : kd = 3
          · subst h3
            have HTX : Hid (txt ⟨3, tx, v, ln, cl⟩ = 34 :: (tx ++ [34])) := Lib.hid rfl
            have hqe := quot_eq tx
            go_wp2_with fail
            refine (bld_str _ _ _ (34 :: (tx ++ [34])) _ HBL.out (by simp only [List.length_nil]; simp; omega) hzW).mono ?_
            rintro e w6 ⟨rfl, hbl6, hb6, hk6⟩
            have HL6 : Hid (Bld w6 w.heap.size w.heap.size (joinT (ts.take (k + 1)))) := Lib.hid (by rw [HJ.out, HTX.out]; exact hbl6)
            have HB6 := Lib.hid (HBW.out.trans hb6)
            clear hbl6 hb6 hk6 c0 c1 c2 hqe
            go_wp2
            go_roundw
            case rel => exact ⟨k + 1, by go_num, by omega, HL6, HB6, HALL⟩
            case measure => simp [intOf]; omega
          have f3 : (kd == 3) = false := by simpa using h3
          have HTX : Hid (txt ⟨kd, tx, v, ln, cl⟩ = tx) := Lib.hid (by simp [txt, h2, h3])
          go_wp2_with fail
          refine (bld_str _ _ _ tx _ HBL.out (by simp only [List.length_nil]; omega) hzW).mono ?_
          rintro e w6 ⟨rfl, hbl6, hb6, hk6⟩
          have HL6 : Hid (Bld w6 w.heap.size w.heap.size (joinT (ts.take (k + 1)))) := Lib.hid (by rw [HJ.out, HTX.out]; exact hbl6)
          have HB6 := Lib.hid (HBW.out.trans hb6)
          clear hbl6 hb6 hk6 c0 c1 c2
          go_wp2
          go_roundw
          case rel => exact ⟨k + 1, by go_num, by omega, HL6, HB6, HALL⟩
          case measure => simp [intOf]; omega
        · have HJ0 := HJ.out
          rw [if_neg hk0] at HJ0
          have HJ := Lib.hid HJ0
          clear HJ0
          have fk : decide ((0 : Int) < (k : Int)) = true := by simp; omega
          have fk2 : 0 < k := by omega
          go_wp2_with fail
          refine (bld_byte _ _ _ 32 _ HBL.out (by omega) (by omega)).mono ?_
          rintro e w3 ⟨rfl, hbl3, hb3, hk3⟩
          have HT3 := Lib.hid (HT.out.kept hk3 (by omega))
          have HBW3 := Lib.hid (HBW.out.trans hb3)
          have HBL3 := Lib.hid hbl3
          clear HT HBW HBL hbl3 hb3 hk3
          have HT := HT3
          have HBW := HBW3
          have HBL := HBL3
          clear HT3 HBW3 HBL3
          have c0 : w3.cell? ⟨wr.heap.size, 0, none⟩ = some (.int .i64 kd) := by have := HT.out; unfold TokAt at this; simp [World.cell?, this]
          have c1 : w3.cell? ⟨wr.heap.size, 1, none⟩ = some (.string ⟨tx.toArray⟩) := by have := HT.out; unfold TokAt at this; simp [World.cell?, this]
          have c2 : w3.cell? ⟨wr.heap.size, 2, none⟩ = some (.int .u64 v) := by have := HT.out; unfold TokAt at this; simp [World.cell?, this]
          have hzW : w.heap.size ≤ w3.heap.size := HBW.out.size
          by_cases h2 : kd = 2
          · obtain ⟨vn, rfl⟩ : ∃ n : Nat, v = (n : Int) := ⟨v.toNat, by omega⟩
            subst h2
            have HFU := Lib.hid (formatUint_any vn (by omega) _ (HP.out.next HBW.out))
            have HTX : Hid (txt ⟨2, tx, vn, ln, cl⟩ = decL vn) := Lib.hid rfl
            have hdl := (isDec vn (by omega)).len
            go_wp2_with fail
            refine HFU.out.mono ?_
            rintro e w5 ⟨rfl, hb5⟩
            have HB5 := Lib.hid hb5
            have hs5 := hb5.size
            clear hb5
            go_wp2_with fail
            refine (bld_str _ _ _ (decL vn) _ (HBL.out.next HB5.out) (by simp only [List.length_append, List.length_cons, List.length_nil]; omega) (by omega)).mono ?_
            rintro e w6 ⟨rfl, hbl6, hb6, hk6⟩
            have HL6 : Hid (Bld w6 w.heap.size w.heap.size (joinT (ts.take (k + 1)))) := Lib.hid (by rw [HJ.out, HTX.out]; rw [List.append_assoc] at hbl6; exact hbl6)
            have HB6 := Lib.hid ((bel_next HBW.out HB5.out).trans hb6)
            clear hbl6 hb6 hk6 c0 c1 c2
            go_wp2
            go_roundw
            case rel => exact ⟨k + 1, by go_num, by omega, HL6, HB6, HALL⟩
            case measure => simp [intOf]; omega
          have f2 : (kd == 2) = false := by simpa using h2
          by_cases h3 : kd = 3
          · subst h3
            have HTX : Hid (txt ⟨3, tx, v, ln, cl⟩ = 34 :: (tx ++ [34])) := Lib.hid rfl
            have hqe := quot_eq tx
            go_wp2_with fail
            refine (bld_str _ _ _ (34 :: (tx ++ [34])) _ HBL.out (by simp only [List.length_append, List.length_cons, List.length_nil]; simp; omega) hzW).mono ?_
            rintro e w6 ⟨rfl, hbl6, hb6, hk6⟩
            have HL6 : Hid (Bld w6 w.heap.size w.heap.size (joinT (ts.take (k + 1)))) := Lib.hid (by rw [HJ.out, HTX.out]; rw [List.append_assoc] at hbl6; exact hbl6)
            have HB6 := Lib.hid (HBW.out.trans hb6)
            clear hbl6 hb6 hk6 c0 c1 c2 hqe
            go_wp2
            go_roundw
            case rel => exact ⟨k + 1, by go_num, by omega, HL6, HB6, HALL⟩
            case measure => simp [intOf]; omega
          have f3 : (kd == 3) = false := by simpa using h3
          have HTX : Hid (txt ⟨kd, tx, v, ln, cl⟩ = tx) := Lib.hid (by simp [txt, h2, h3])
          go_wp2_with fail
          refine (bld_str _ _ _ tx _ HBL.out (by simp only [List.length_append, List.length_cons, List.length_nil]; omega) hzW).mono ?_
          rintro e w6 ⟨rfl, hbl6, hb6, hk6⟩
          have HL6 : Hid (Bld w6 w.heap.size w.heap.size (joinT (ts.take (k + 1)))) := Lib.hid (by rw [HJ.out, HTX.out]; rw [List.append_assoc] at hbl6; exact hbl6)
          have HB6 := Lib.hid (HBW.out.trans hb6)
          clear hbl6 hb6 hk6 c0 c1 c2
          go_wp2
          go_roundw
          case rel => exact ⟨k + 1, by go_num, by omega, HL6, HB6, HALL⟩
          case measure => simp [intOf]; omega
    · have HFD := Lib.hid (fmt_done hge HAL.out)
      have hzW : w.heap.size ≤ wr.heap.size := HW.out.size
      go_wp2_with fail
      refine (bld_string _ _ _ _ HL.out hzW).mono ?_
      rintro e w2 ⟨rfl, hb2⟩
      have HB2 := Lib.hid (HW.out.trans hb2)
      clear hb2
      go_wp2
      go_ret
      exact ⟨by rw [HFD.out]; rfl, HB2.out⟩
end Go.Proofs.YtogebcgkcijacaaGreatDoor
