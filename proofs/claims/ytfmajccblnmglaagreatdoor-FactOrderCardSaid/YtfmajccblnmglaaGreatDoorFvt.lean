/-
  Well-formed values, and the text of a value: facts.quoted, nameSized, wellFormedValue, valueText.
  Conditions: the table of powers of ten lies as the program's text writes it; a word has at most 65536 bytes.
-/
import Derived.Test.YtfmajccblnmglaaGreatDoorFpz
import Derived.Test.YtfmajccblnmglaaGreatDoorFmt
namespace Go.Proofs.YtfmajccblnmglaaGreatDoor
open Go.RowKit Go.Shelf

def strTok (l : List UInt8) : GTok := ⟨3, l, 0, 0, 0⟩
def quoteL (l : List UInt8) : List UInt8 := if l.all isStr then 34 :: (l ++ [34]) else []
theorem quoteL_eq (l : List UInt8) : fmtL [strTok l] = quoteL l := by
  simp [fmtL, quoteL, wf, strTok, joinT, tailT, txt]
set_option maxRecDepth 50000 in
set_option maxHeartbeats 1000000 in
theorem quoted_any (l : List UInt8) (w : World) (hl : l.length ≤ 65536) (hP : Pow w) :
    Calls Tryz.prog 74 #[.string ⟨l.toArray⟩] w fun e w' => e = .returned (.string ⟨(quoteL l).toArray⟩) ∧ Below w.heap.size w w' := by
  have hb := bel_lit (Below.refl w.heap.size w) (.cells #[.int .i64 3, .string ⟨l.toArray⟩, .int .u64 0, .int .i64 0, .int .i64 0] 70)
  have hF := format_any [strTok l] (some ⟨w.heap.size, 0, none⟩) 1 (w.alloc (.cells #[.int .i64 3, .string ⟨l.toArray⟩, .int .u64 0, .int .i64 0, .int .i64 0] 70)) (GRow.lit GTok.len5 w 70 [strTok l] #[.int .i64 3, .string ⟨l.toArray⟩, .int .u64 0, .int .i64 0, .int .i64 0] rfl (by unfold maxLen; simp)) ⟨by simp, fun t ht => by simp at ht; subst ht; exact ⟨hl, by simp [strTok], by simp [strTok]⟩⟩ (hP.next hb)
  rw [quoteL_eq] at hF
  have HF := Lib.hid hF
  have HB := Lib.hid hb
  clear hF hb hP
  go_enter Tryz.func74, Tryz.ntmps74
  go_wp2_with fail
  refine HF.out.mono ?_
  rintro e w1 ⟨rfl, hb1⟩
  go_wp2
  go_ret
  exact ⟨rfl, bel_next HB.out hb1⟩

def sizedB (l : List UInt8) : Bool := decide (1 ≤ l.length) && decide (l.length ≤ 24)
theorem nameSized_any (l : List UInt8) (w : World) (hl : l.length ≤ maxLen) :
    Calls Tryz.prog 77 #[.string ⟨l.toArray⟩] w fun e w' => e = .returned (.bool (sizedB l)) ∧ w = w' := by
  have hsz : (⟨l.toArray⟩ : ByteArray).size = l.length := ba_size l
  unfold maxLen at hl
  have HS : Hid (sizedB l = (decide (1 ≤ l.length) && decide (l.length ≤ 24))) := Lib.hid rfl
  by_cases h1 : 1 ≤ l.length
  · by_cases h2 : l.length ≤ 24
    · go_enter Tryz.func77, Tryz.ntmps77
      go_wp2
      go_ret
      exact ⟨ret_bool (by rw [HS.out]; simp [h1, h2]; omega), rfl⟩
    · go_enter Tryz.func77, Tryz.ntmps77
      go_wp2
      go_ret
      exact ⟨ret_bool (by rw [HS.out]; simp [h1, h2]; omega), rfl⟩
  · go_enter Tryz.func77, Tryz.ntmps77
    go_wp2
    go_ret
    exact ⟨ret_bool (by rw [HS.out]; simp [h1]), rfl⟩

/-- A well-formed value. -/
def gwfV (v : GVal) : Bool := if v.kind = 1 then v.word.isEmpty else if v.kind = 2 then decide (v.int = 0) && sizedB v.word && v.word.all isStr else false
theorem quote_ne (l : List UInt8) : (quoteL l = []) ↔ l.all isStr = false := by
  unfold quoteL
  by_cases h : l.all isStr = true
  · rw [if_pos h, h]; simp
  · rw [if_neg h]; simp at h ⊢; exact h
set_option maxRecDepth 50000 in
set_option maxHeartbeats 1000000 in
theorem wellFormedValue_any (v : GVal) (w : World) (hl : v.word.length ≤ 65536) (hP : Pow w) :
    Calls Tryz.prog 54 #[v.val] w fun e w' => e = .returned (.bool (gwfV v)) ∧ Below w.heap.size w w' := by
  obtain ⟨kd, n, l⟩ := v
  simp only at hl
  unfold GVal.val
  have hsz : (⟨l.toArray⟩ : ByteArray).size = l.length := ba_size l
  have HN := Lib.hid fun W => nameSized_any l W (by unfold maxLen; omega)
  have HQ := Lib.hid fun W (hb : Below w.heap.size w W) => quoted_any l W hl (hP.next hb)
  have HE := Lib.hid (quote_ne l)
  clear hP
  by_cases h1 : kd = 1
  · subst h1
    have HF : Hid (gwfV ⟨1, n, l⟩ = l.isEmpty) := Lib.hid rfl
    cases l with
    | nil =>
      go_enter Tryz.func54, Tryz.ntmps54
      go_wp2
      go_ret
      exact ⟨ret_bool (by rw [HF.out]; rfl), (Below.refl _ _).alloc (Nat.le_refl _) _⟩
    | cons c r =>
      go_enter Tryz.func54, Tryz.ntmps54
      go_wp2
      go_ret
      exact ⟨ret_bool (by rw [HF.out]; rfl), (Below.refl _ _).alloc (Nat.le_refl _) _⟩
  by_cases h2 : kd = 2
  · subst h2
    have HF : Hid (gwfV ⟨2, n, l⟩ = (decide (n = 0) && sizedB l && l.all isStr)) := Lib.hid rfl
    by_cases h0 : n = 0
    · subst h0
      have HB := Lib.hid (bel_lit (Below.refl w.heap.size w) (.cells #[.int .i64 2, .int .i64 0, .string ⟨l.toArray⟩] 40))
      cases hs : sizedB l
      · rw [hs] at HN HF
        go_enter Tryz.func54, Tryz.ntmps54
        go_wp2_with fail
        refine (HN.out _).mono ?_
        rintro e w1 ⟨rfl, rfl⟩
        go_wp2
        go_ret
        exact ⟨ret_bool (by rw [HF.out]; rfl), HB.out⟩
      · rw [hs] at HN HF
        generalize quoteL l = q at *
        cases ha : l.all isStr
        · rw [ha] at HE HF
          obtain rfl : q = [] := HE.out.2 rfl
          go_enter Tryz.func54, Tryz.ntmps54
          go_wp2_with fail
          refine (HN.out _).mono ?_
          rintro e w1 ⟨rfl, rfl⟩
          go_wp2_with fail
          refine (HQ.out _ HB.out).mono ?_
          rintro e w1 ⟨rfl, hb1⟩
          go_wp2
          go_ret
          exact ⟨ret_bool (by rw [HF.out]; rfl), bel_next HB.out hb1⟩
        · rw [ha] at HE HF
          obtain ⟨c, r, rfl⟩ : ∃ c r, q = c :: r := by
            cases q with
            | nil => have := HE.out.1 rfl; cases this
            | cons c r => exact ⟨c, r, rfl⟩
          go_enter Tryz.func54, Tryz.ntmps54
          go_wp2_with fail
          refine (HN.out _).mono ?_
          rintro e w1 ⟨rfl, rfl⟩
          go_wp2_with fail
          refine (HQ.out _ HB.out).mono ?_
          rintro e w1 ⟨rfl, hb1⟩
          go_wp2
          go_ret
          exact ⟨ret_bool (by rw [HF.out]; rfl), bel_next HB.out hb1⟩
    · have f0 : (n == 0) = false := by simpa using h0
      go_enter Tryz.func54, Tryz.ntmps54
      go_wp2
      go_ret
      exact ⟨ret_bool (by rw [HF.out]; simp [h0]), (Below.refl _ _).alloc (Nat.le_refl _) _⟩
  · have HF : Hid (gwfV ⟨kd, n, l⟩ = false) := Lib.hid (by simp [gwfV, h1, h2])
    have f1 : (kd == 1) = false := by simpa using h1
    have f2 : (kd == 2) = false := by simpa using h2
    go_enter Tryz.func54, Tryz.ntmps54
    go_wp2
    go_ret
    exact ⟨ret_bool HF.out.symm, (Below.refl _ _).alloc (Nat.le_refl _) _⟩

/-- The text of a value. -/
def vtextL (v : GVal) : List UInt8 := if v.kind = 1 then Lib.itoa v.int else if nameB v.word then v.word else quoteL v.word
set_option maxRecDepth 50000 in
set_option maxHeartbeats 1000000 in
theorem valueText_any (v : GVal) (w : World) (hl : v.word.length ≤ 65536) (h0 : -9223372036854775808 ≤ v.int) (h1 : v.int ≤ 9223372036854775807) (hP : Pow w) :
    Calls Tryz.prog 49 #[v.val] w fun e w' => e = .returned (.string ⟨(vtextL v).toArray⟩) ∧ Below w.heap.size w w' := by
  obtain ⟨kd, n, l⟩ := v
  simp only at hl h0 h1
  unfold GVal.val
  have HB := Lib.hid (bel_lit (Below.refl w.heap.size w) (.cells #[.int .i64 kd, .int .i64 n, .string ⟨l.toArray⟩] 40))
  have HI := Lib.hid (Tryz.strconv_FormatInt_10 n h0 h1 _ (hP.next HB.out))
  have HQ := Lib.hid (quoted_any l _ hl (hP.next HB.out))
  have HN := Lib.hid fun W => isName_any l W (by unfold maxLen; omega)
  clear hP
  by_cases hk : kd = 1
  · subst hk
    have HF : Hid (vtextL ⟨1, n, l⟩ = Lib.itoa n) := Lib.hid rfl
    go_enter Tryz.func49, Tryz.ntmps49
    go_wp2_with fail
    refine HI.out.mono ?_
    rintro e w1 ⟨rfl, k, os, rfl⟩
    go_wp2
    go_ret
    exact ⟨by rw [HF.out]; rfl, bel_next HB.out (Lib.below_grow _ _ (Nat.le_refl _) k os)⟩
  · have f1 : (kd == 1) = false := by simpa using hk
    cases hn : nameB l
    · rw [hn] at HN
      have HF : Hid (vtextL ⟨kd, n, l⟩ = quoteL l) := Lib.hid (by simp [vtextL, hk, hn])
      generalize quoteL l = q at *
      go_enter Tryz.func49, Tryz.ntmps49
      go_wp2_with fail
      refine (HN.out _).mono ?_
      rintro e w1 ⟨rfl, rfl⟩
      go_wp2_with fail
      refine HQ.out.mono ?_
      rintro e w1 ⟨rfl, hb1⟩
      go_wp2
      go_ret
      exact ⟨by rw [HF.out]; rfl, bel_next HB.out hb1⟩
    · rw [hn] at HN
      have HF : Hid (vtextL ⟨kd, n, l⟩ = l) := Lib.hid (by simp [vtextL, hk, hn])
      go_enter Tryz.func49, Tryz.ntmps49
      go_wp2_with fail
      refine (HN.out _).mono ?_
      rintro e w1 ⟨rfl, rfl⟩
      go_wp2
      go_ret
      exact ⟨by rw [HF.out]; rfl, HB.out⟩
end Go.Proofs.YtfmajccblnmglaaGreatDoor
