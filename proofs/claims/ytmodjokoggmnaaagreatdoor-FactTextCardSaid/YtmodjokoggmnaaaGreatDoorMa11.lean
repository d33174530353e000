/-
  The contracts of the reference's marks, mark and end.
  Conditions: the text has at most 65536 bytes, the offset lies in it.
  The contracts of hwlex.wellFormed and of the reference's Plain and Text.
  Conditions: the token's text is one of the language's strings.
  The parser of facts: its tokens, take, nameSized, marks.
  Conditions: the last token is never taken.
-/
import Derived.Test.YtmodjokoggmnaaaGreatDoorMa10
import Derived.Test.YtmodjokoggmnaaaGreatDoorMa6
import Derived.Test.YtmodjokoggmnaaaGreatDoorMa8
import Derived.Deep.QuietTactic
import Derived.BigQuiet
import Derived.Test.YtmodjokoggmnaaaGreatDoorMa9
namespace Go.Proofs.YtmodjokoggmnaaaGreatDoor

open Go.RowKit Go.Shelf

def marksL : List (List UInt8) := marks2 ++ marks1.map fun c => [c]
/-- The mark at the beginning of a text. -/
def markOf (d : List UInt8) : List UInt8 := if 1 < d.length ∧ punct (d.take 2) = true then d.take 2 else if punct (d.take 1) = true then d.take 1 else []
def isMark (k : Nat) (d : List UInt8) : Bool := (marksL.getD k []).isPrefixOf d
theorem marksL_len : marksL.length = 24 := rfl
theorem mark_hit : ∀ k : Fin 24, (k.val < 5 → (marksL.getD k.val []).length = 2 ∧ punct (marksL.getD k.val []) = true) ∧ (5 ≤ k.val → (marksL.getD k.val []).length = 1 ∧ punct (marksL.getD k.val []) = true) := by decide
theorem pref_take {m d : List UInt8} (h : m.isPrefixOf d = true) : d.take m.length = m ∧ m.length ≤ d.length := by
  obtain ⟨t, ht⟩ := List.isPrefixOf_iff_prefix.1 h
  subst ht; simp
theorem take_pref {m d : List UInt8} (h : d.take m.length = m) : m.isPrefixOf d = true := List.isPrefixOf_iff_prefix.2 (by rw [← h]; exact List.take_prefix _ _)
theorem no_two (d : List UInt8) (h : ∀ k, k < 5 → isMark k d = false) : ¬ (1 < d.length ∧ punct (d.take 2) = true) := by
  rintro ⟨hl, hp⟩
  have hl2 : (d.take 2).length = 2 := by rw [List.length_take]; omega
  unfold punct at hp
  rw [Bool.or_eq_true] at hp
  rcases hp with hp | hp
  · have : ∃ k, k < 5 ∧ d.take 2 = marksL.getD k [] := by
      simp [marks2] at hp
      rcases hp with hp | hp | hp | hp | hp
      · exact ⟨0, by omega, hp⟩
      · exact ⟨1, by omega, hp⟩
      · exact ⟨2, by omega, hp⟩
      · exact ⟨3, by omega, hp⟩
      · exact ⟨4, by omega, hp⟩
    obtain ⟨k, hk, e⟩ := this
    have hk2 := (mark_hit ⟨k, by omega⟩).1 hk
    have : isMark k d = true := take_pref (by rw [hk2.1]; exact e)
    rw [h k hk] at this; cases this
  · split at hp
    · rename_i heq; rw [heq] at hl2; simp at hl2
    · cases hp
theorem markOf_hit (d : List UInt8) (k : Nat) (hk : k < 24) (hno : ∀ j, j < k → isMark j d = false) (h : isMark k d = true) : markOf d = marksL.getD k [] := by
  obtain ⟨h1, h2⟩ := pref_take h
  unfold markOf
  rcases Nat.lt_or_ge k 5 with h5 | h5
  · obtain ⟨e1, e2⟩ := (mark_hit ⟨k, hk⟩).1 h5
    simp only at e1 e2
    rw [e1] at h1 h2
    rw [if_pos ⟨by omega, by rw [h1]; exact e2⟩, h1]
  · obtain ⟨e1, e2⟩ := (mark_hit ⟨k, hk⟩).2 h5
    simp only at e1 e2
    rw [e1] at h1 h2
    rw [if_neg (no_two d fun j hj => hno j (by omega)), if_pos (by rw [h1]; exact e2), h1]
theorem markOf_none (d : List UInt8) (hno : ∀ j, j < 24 → isMark j d = false) : markOf d = [] := by
  unfold markOf
  rw [if_neg (no_two d fun j hj => hno j (by omega)), if_neg]
  intro hp
  unfold punct at hp
  rw [Bool.or_eq_true] at hp
  rcases hp with hp | hp
  · simp [marks2] at hp
    have hle : (d.take 1).length ≤ 1 := by rw [List.length_take]; omega
    rcases hp with hp | hp | hp | hp | hp <;> (rw [hp] at hle; simp at hle)
  · split at hp
    · rename_i c heq
      have : ∃ k, 5 ≤ k ∧ k < 24 ∧ [c] = marksL.getD k [] := by
        simp [marks1] at hp
        rcases hp with rfl | rfl | rfl | rfl | rfl | rfl | rfl | rfl | rfl | rfl | rfl | rfl | rfl | rfl | rfl | rfl | rfl | rfl | rfl
        · exact ⟨5, by omega, by omega, rfl⟩
        · exact ⟨6, by omega, by omega, rfl⟩
        · exact ⟨7, by omega, by omega, rfl⟩
        · exact ⟨8, by omega, by omega, rfl⟩
        · exact ⟨9, by omega, by omega, rfl⟩
        · exact ⟨10, by omega, by omega, rfl⟩
        · exact ⟨11, by omega, by omega, rfl⟩
        · exact ⟨12, by omega, by omega, rfl⟩
        · exact ⟨13, by omega, by omega, rfl⟩
        · exact ⟨14, by omega, by omega, rfl⟩
        · exact ⟨15, by omega, by omega, rfl⟩
        · exact ⟨16, by omega, by omega, rfl⟩
        · exact ⟨17, by omega, by omega, rfl⟩
        · exact ⟨18, by omega, by omega, rfl⟩
        · exact ⟨19, by omega, by omega, rfl⟩
        · exact ⟨20, by omega, by omega, rfl⟩
        · exact ⟨21, by omega, by omega, rfl⟩
        · exact ⟨22, by omega, by omega, rfl⟩
        · exact ⟨23, by omega, by omega, rfl⟩
      obtain ⟨k, h5, h24, e⟩ := this
      have hk2 := (mark_hit ⟨k, h24⟩).2 h5
      have : isMark k d = true := take_pref (by rw [hk2.1, heq]; exact e)
      rw [hno k h24] at this; cases this
    · cases hp

theorem bel_drewN (B : Nat) (w : World) (n : Nat) : Below B w (w.drewN n) := by
  induction n with
  | zero => exact Below.refl _ _
  | succ n ih => exact ih.drew
def marksC : Array Value := (marksL.map fun m => Value.string ⟨m.toArray⟩).toArray
theorem marks_any (w : World) : Calls Tryz.prog 144 #[] w fun e w' => e = .returned (.slice (some ⟨w.heap.size, 0, none⟩) 24 24) ∧ w' = w.alloc (.cells marksC 9) := by
  go_enter Tryz.func144, Tryz.ntmps144
  go_wp2
  go_ret
  exact ⟨rfl, rfl⟩
theorem marks_cell (w : World) (k : Nat) (hk : k < 24) : (w.alloc (.cells marksC 9)).cell? ⟨w.heap.size, k, none⟩ = some (.string ⟨(marksL.getD k []).toArray⟩) := by
  have e : (w.alloc (.cells marksC 9)).cell? ⟨w.heap.size, k, none⟩ = marksC[k]? := by
    unfold World.cell?
    rw [show (w.alloc (.cells marksC 9)).heap[(⟨w.heap.size, k, none⟩ : Addr).block]? = some (.cells marksC 9 (0, 0)) from heap_alloc_new w _]
    rfl
  rw [e]
  have : ∀ k : Fin 24, marksC[k.val]? = some (.string ⟨(marksL.getD k.val []).toArray⟩) := by
    intro k
    unfold marksC
    rw [List.getElem?_toArray, List.getElem?_map, List.getD_eq_getElem?_getD]
    have : k.val < marksL.length := by rw [marksL_len]; exact k.isLt
    rw [List.getElem?_eq_getElem this]; rfl
  exact this ⟨k, hk⟩

set_option maxRecDepth 50000 in
set_option maxHeartbeats 1000000 in
theorem mark_any (l : List UInt8) (i : Nat) (hi : i ≤ l.length) (hl : l.length ≤ 9223372036854775807) (w : World) :
    Calls Tryz.prog 125 #[.string ⟨l.toArray⟩, .int .i64 i] w fun e w' => e = .returned (.string ⟨(markOf (l.drop i)).toArray⟩) ∧ Below w.heap.size w w' := by
  have HM := Lib.hid (marks_any w)
  have HCL := Lib.hid (marks_cell w)
  have HBW := Lib.hid ((Below.refl w.heap.size w).alloc (Nat.le_refl _) (.cells marksC 9))
  have HSZ : Hid ((w.alloc (.cells marksC 9)).heap.size = w.heap.size + 1) := Lib.hid (by simp)
  generalize w.alloc (.cells marksC 9) = w1 at *
  go_enter Tryz.func125, Tryz.ntmps125
  go_wp2_with fail
  refine HM.out.mono ?_
  rintro e w' ⟨rfl, rfl⟩
  go_wp2_with fail
  go_loopw [6] (fun vk wr => ∃ k : Nat, k ≤ 24 ∧ vk = .int .i64 k ∧ Hid (∀ j, j < k → isMark j (l.drop i) = false) ∧ Hid (Below (w.heap.size + 1) w' wr)) (fun vk _ => 24 - (intOf vk).toNat)
  case atStart => exact ⟨0, Nat.zero_le _, rfl, Lib.hid fun j hj => by omega, Lib.hid (Below.refl _ _)⟩
  case round =>
    obtain ⟨k, hk, rfl, HNO, HW⟩ := hrel
    rcases Nat.lt_or_ge k 24 with hlt | hge
    · have hc := (HW.out.cell (p := ⟨w.heap.size, k, none⟩) (Nat.lt_succ_self _)).trans (HCL.out k hlt)
      have hml : (marksL.getD k []).length = 1 ∨ (marksL.getD k []).length = 2 := by
        rcases Nat.lt_or_ge k 5 with h5 | h5
        · exact .inr ((mark_hit ⟨k, hlt⟩).1 h5).1
        · exact .inl ((mark_hit ⟨k, hlt⟩).2 h5).1
      have HHIT : Hid (isMark k (l.drop i) = true → markOf (l.drop i) = marksL.getD k []) := Lib.hid (markOf_hit (l.drop i) k hlt HNO.out)
      have HIS : Hid (isMark k (l.drop i) = (marksL.getD k []).isPrefixOf (l.drop i)) := Lib.hid rfl
      generalize marksL.getD k [] = m at *
      by_cases hgd : m.length ≤ l.length - i
      · have hsl := slice_run l i (i + m.length) (by omega) (by omega) (i : Int) ((i : Int) + (m.length : Int)) rfl (by omega)
        have hgb : decide ((m.length : Int) ≤ (l.length : Int) - (i : Int)) = true := by simp; omega
        have he : (l.take (i + m.length)).drop i = (l.drop i).take m.length := by rw [List.drop_take]; congr 1; omega
        rw [he] at hsl
        by_cases hq : (l.drop i).take m.length = m
        · have hqb : ((l.drop i).take m.length == m) = true := by rw [beq_iff_eq]; exact hq
          have HF : Hid (markOf (l.drop i) = m) := Lib.hid (HHIT.out (by rw [HIS.out]; exact take_pref hq))
          clear hq he
          go_wp2
          go_quiet (fail)
          go_wp2
          go_ret
          rw [HF.out]
          exact ⟨rfl, HBW.out.trans (((HW.out.mono (Nat.le_succ _))).trans (bel_drewN _ _ _))⟩
        · have hqb : ((l.drop i).take m.length == m) = false := by rw [beq_eq_false_iff_ne]; exact hq
          have hmis : isMark k (l.drop i) = false := by
            cases h : isMark k (l.drop i) with
            | false => rfl
            | true => rw [HIS.out] at h; exact absurd (pref_take h).1 hq
          have HNX : Hid (∀ j, j < k + 1 → isMark j (l.drop i) = false) := Lib.hid fun j hj => by
            rcases Nat.lt_or_ge j k with h | h
            · exact HNO.out j h
            · rw [show j = k by omega]; exact hmis
          clear hq he hmis
          go_wp2
          go_quiet (fail)
          go_wp2
          go_roundw
          case rel => exact ⟨k + 1, by omega, by go_num, HNX, Lib.hid (HW.out.trans (bel_drewN _ _ _))⟩
          case measure => simp [intOf]; omega
      · have hgb : decide ((m.length : Int) ≤ (l.length : Int) - (i : Int)) = false := by simp; omega
        have hmis : isMark k (l.drop i) = false := by
          cases h : isMark k (l.drop i) with
          | false => rfl
          | true =>
            rw [HIS.out] at h
            have := (pref_take h).2
            rw [List.length_drop] at this; omega
        have HNX : Hid (∀ j, j < k + 1 → isMark j (l.drop i) = false) := Lib.hid fun j hj => by
          rcases Nat.lt_or_ge j k with h | h
          · exact HNO.out j h
          · rw [show j = k by omega]; exact hmis
        clear hmis hgd
        go_wp2
        go_quiet (fail)
        go_wp2
        go_roundw
        case rel => exact ⟨k + 1, by omega, by go_num, HNX, Lib.hid (HW.out.trans (bel_drewN _ _ _))⟩
        case measure => simp [intOf]; omega
    · have HF : Hid (markOf (l.drop i) = []) := Lib.hid (markOf_none _ fun j hj => HNO.out j (by omega))
      go_wp2
      go_ret
      rw [HF.out]
      exact ⟨rfl, HBW.out.trans (HW.out.mono (Nat.le_succ _))⟩
end Go.Proofs.YtmodjokoggmnaaaGreatDoor


namespace Go.Proofs.YtmodjokoggmnaaaGreatDoor

open Go.RowKit Go.Shelf

def GTok.val (t : GTok) : Value := .agg #[.int .i64 t.kind, .string ⟨t.text.toArray⟩, .int .u64 t.value, .int .i64 t.line, .int .i64 t.col]
theorem bel_q {w w1 : World} (h : Below w.heap.size w w1) (n : Nat) : Below w.heap.size w (w1.drewN n) := h.trans (bel_drewN _ _ _)
set_option maxRecDepth 50000 in
set_option maxHeartbeats 1000000 in
theorem wellFormed_any (t : GTok) (w : World) (hl : t.text.length ≤ maxLen) :
    Calls Tryz.prog 131 #[t.val] w fun e w' => e = .returned (.bool (wf t)) ∧ Below w.heap.size w w' := by
  obtain ⟨kd, tx, v, ln, cl⟩ := t
  have HW := Lib.hid fun W => isWord_any tx W hl
  have HS := Lib.hid fun W => stringLen_any tx W hl
  have HP := Lib.hid fun W => isPunct_any tx W
  have hl2 : tx.length ≤ maxLen := hl
  unfold maxLen at hl2
  have hsz : (⟨tx.toArray⟩ : ByteArray).size = tx.length := ba_size tx
  unfold GTok.val
  clear hl
  by_cases h1 : kd = 1
  · subst h1
    have HF : Hid (wf ⟨1, tx, v, ln, cl⟩ = (decide (v = 0) && wordB tx)) := Lib.hid rfl
    by_cases hv : v = 0
    · subst hv
      go_enter Tryz.func131, Tryz.ntmps131
      go_wp2_with (go_at_call 101; refine (HW.out _).mono ?_; rintro e w' ⟨rfl, rfl⟩)
      go_ret
      exact ⟨ret_bool (by rw [HF.out]; rfl), (Below.refl _ _).alloc (Nat.le_refl _) _⟩
    · have fv : (v == 0) = false := by simpa using hv
      go_enter Tryz.func131, Tryz.ntmps131
      go_wp2
      go_ret
      exact ⟨ret_bool (by rw [HF.out]; simp [hv]), (Below.refl _ _).alloc (Nat.le_refl _) _⟩
  by_cases h2 : kd = 2
  · subst h2
    have HF : Hid (wf ⟨2, tx, v, ln, cl⟩ = tx.isEmpty) := Lib.hid rfl
    cases tx with
    | nil =>
      go_enter Tryz.func131, Tryz.ntmps131
      go_wp2
      go_ret
      exact ⟨ret_bool (by rw [HF.out]; rfl), (Below.refl _ _).alloc (Nat.le_refl _) _⟩
    | cons c r =>
      go_enter Tryz.func131, Tryz.ntmps131
      go_wp2
      go_ret
      exact ⟨ret_bool (by rw [HF.out]; rfl), (Below.refl _ _).alloc (Nat.le_refl _) _⟩
  by_cases h3 : kd = 3
  · subst h3
    have HF : Hid (wf ⟨3, tx, v, ln, cl⟩ = (decide (v = 0) && tx.all isStr)) := Lib.hid rfl
    by_cases hv : v = 0
    · subst hv
      have hrl := @run_le isStr tx
      have HA : Hid (tx.all isStr = decide (run isStr tx = tx.length)) := Lib.hid (by rw [Bool.eq_iff_iff, decide_eq_true_eq, run_all_iff])
      generalize run isStr tx = m at *
      by_cases hm : m = tx.length
      · have fm : ((m : Int) == (tx.length : Int)) = true := by simp; omega
        go_enter Tryz.func131, Tryz.ntmps131
        go_wp2
        go_quiet ((go_at_call 83; exact (HS.out _).mono fun _ _ ⟨he, hw⟩ => ⟨he, _, hw.symm⟩))
        go_wp2
        go_ret
        exact ⟨ret_bool (by rw [HF.out, HA.out]; simp [hm]), bel_q ((Below.refl _ _).alloc (Nat.le_refl _) _) _⟩
      · have fm : ((m : Int) == (tx.length : Int)) = false := by simp; omega
        go_enter Tryz.func131, Tryz.ntmps131
        go_wp2
        go_quiet ((go_at_call 83; exact (HS.out _).mono fun _ _ ⟨he, hw⟩ => ⟨he, _, hw.symm⟩))
        go_wp2
        go_ret
        exact ⟨ret_bool (by rw [HF.out, HA.out]; simp [hm]), bel_q ((Below.refl _ _).alloc (Nat.le_refl _) _) _⟩
    · have fv : (v == 0) = false := by simpa using hv
      go_enter Tryz.func131, Tryz.ntmps131
      go_wp2
      go_quiet (fail)
      go_wp2
      go_ret
      exact ⟨ret_bool (by rw [HF.out]; simp [hv]), bel_q ((Below.refl _ _).alloc (Nat.le_refl _) _) _⟩
  by_cases h4 : kd = 4
  · subst h4
    have HF : Hid (wf ⟨4, tx, v, ln, cl⟩ = (decide (v = 0) && punct tx)) := Lib.hid rfl
    by_cases hv : v = 0
    · subst hv
      go_enter Tryz.func131, Tryz.ntmps131
      go_wp2_with (go_at_call 84; refine (HP.out _).mono ?_; rintro e w' ⟨rfl, rfl⟩)
      go_ret
      exact ⟨ret_bool (by rw [HF.out]; rfl), (Below.refl _ _).alloc (Nat.le_refl _) _⟩
    · have fv : (v == 0) = false := by simpa using hv
      go_enter Tryz.func131, Tryz.ntmps131
      go_wp2
      go_ret
      exact ⟨ret_bool (by rw [HF.out]; simp [hv]), (Below.refl _ _).alloc (Nat.le_refl _) _⟩
  · have HF : Hid (wf ⟨kd, tx, v, ln, cl⟩ = false) := Lib.hid (by simp [wf, h1, h2, h3, h4])
    have f1 : (kd == 1) = false := by simpa using h1
    have f2 : (kd == 2) = false := by simpa using h2
    have f3 : (kd == 3) = false := by simpa using h3
    have f4 : (kd == 4) = false := by simpa using h4
    go_enter Tryz.func131, Tryz.ntmps131
    go_wp2
    go_ret
    exact ⟨ret_bool (by rw [HF.out]), (Below.refl _ _).alloc (Nat.le_refl _) _⟩
end Go.Proofs.YtmodjokoggmnaaaGreatDoor


namespace Go.Proofs.YtmodjokoggmnaaaGreatDoor

open Go.RowKit Go.Shelf

theorem GTok.len5 (t : GTok) : t.cells.length = 5 := rfl
theorem elt_tok : Elt 46 52 5 48 := Elt.of (.agg #[.int .i64 0, .string ⟨#[]⟩, .int .u64 0, .int .i64 0, .int .i64 0]) Tryz.underlying46 (by kernel_rfl) rfl (by decide)
/-- The parser in block p has the tokens ts left. -/
def PS (w : World) (p : Nat) (ts : List GTok) : Prop := ∃ A cap, w.heap[p]? = some (.cells #[.slice A ts.length cap] 54 (0, 0)) ∧ ts.length ≤ cap ∧ cap ≤ maxLen ∧ GRow GTok.cells 5 w p A ts
theorem PS.lt {w : World} {p : Nat} {ts : List GTok} (h : PS w p ts) : p < w.heap.size := by
  obtain ⟨A, cap, hh, _⟩ := h
  rcases Nat.lt_or_ge p w.heap.size with h1 | h1
  · exact h1
  · rw [Array.getElem?_eq_none h1] at hh; cases hh
theorem PS.next {w w' : World} {p : Nat} {ts : List GTok} (h : PS w p ts) (hb : Below w.heap.size w w') : PS w' p ts := by
  have hp := h.lt
  obtain ⟨A, cap, hh, h1, h2, h3⟩ := h
  exact ⟨A, cap, (hb.block p hp).trans hh, h1, h2, h3.keep fun g hg => hb.block g (by omega)⟩
/-- What lies in memory for a walk that looks at the first token. -/
theorem PS.open {w : World} {p : Nat} {t : GTok} {ts : List GTok} (h : PS w p (t :: ts)) : ∃ b off cap, b < p ∧ p < w.heap.size ∧ ts.length + 1 ≤ cap ∧ cap ≤ maxLen ∧ w.heap[p]? = some (.cells #[.slice (some ⟨b, off, none⟩) (ts.length + 1) cap] 54 (0, 0)) ∧
    w.cell? ⟨p, 0, none⟩ = some (.slice (some ⟨b, off, none⟩) (ts.length + 1) cap) ∧ w.frozen? ⟨p, 0, none⟩ = false ∧ GRow GTok.cells 5 w p (some ⟨b, off, none⟩) (t :: ts) ∧
    w.cell? ⟨b, off, none⟩ = some (.int .i64 t.kind) ∧ w.cell? ⟨b, off + 1, none⟩ = some (.string ⟨t.text.toArray⟩) ∧ w.cell? ⟨b, off + 2, none⟩ = some (.int .u64 t.value) ∧ w.cell? ⟨b, off + 3, none⟩ = some (.int .i64 t.line) ∧ w.cell? ⟨b, off + 4, none⟩ = some (.int .i64 t.col) := by
  have hp := h.lt
  obtain ⟨A, cap, hh, h1, h2, h3⟩ := h
  obtain ⟨b, off, rfl, hb, hc⟩ := h3 (by simp)
  have c := fun j u hu => hc 0 (by simp) j u hu
  simp only [Nat.zero_mul, Nat.zero_add, List.getElem_cons_zero] at c
  exact ⟨b, off, cap, hb, hp, by simpa using h1, h2, by simpa using hh, by rw [Lib.cell_of_heap hh]; rfl, Lib.frozen_of_heap hh 0, h3, c 0 _ rfl, c 1 _ rfl, c 2 _ rfl, c 3 _ rfl, c 4 _ rfl⟩
theorem gb_set (w : World) (p : Nat) (v : Value) : w.grownBy (w.setCell ⟨p, 0, none⟩ v) (some p) := ⟨rfl, rfl, rfl, by simp, fun k _ hk => Below.heap_setCell _ _ _ k (fun e => hk (by rw [e]))⟩
theorem gb_lit {p : Option Nat} {w w1 : World} (h : w.grownBy w1 p) (o : Obj) : w.grownBy (w1.alloc o) p :=
  ⟨h.os, h.tape, h.output, by have := h.size; simp; omega, fun k hk hne => (Below.heap_alloc w1 o k (by have := h.size; omega)).trans (h.block k hk hne)⟩
theorem PS.set {w : World} {p : Nat} {old : Value} {A : Option Addr} {cap : Nat} {ts : List GTok} (hh : w.heap[p]? = some (.cells #[old] 54 (0, 0))) (h1 : ts.length ≤ cap) (h2 : cap ≤ maxLen) (hr : GRow GTok.cells 5 w p A ts) :
    PS (w.setCell ⟨p, 0, none⟩ (.slice A ts.length cap)) p ts :=
  ⟨A, cap, by simp [World.setCell, Array.getElem?_modify, hh], h1, h2, hr.keep fun g hg => Below.heap_setCell _ _ _ _ (fun e => by simp at e; omega)⟩
theorem PS.lit {w : World} {p : Nat} {ts : List GTok} (h : PS w p ts) (o : Obj) : PS (w.alloc o) p ts := h.next ((Below.refl _ _).alloc (Nat.le_refl _) o)
set_option maxRecDepth 50000 in
set_option maxHeartbeats 1000000 in
theorem take_any (p : Nat) (t u : GTok) (ts : List GTok) (w : World) (h : PS w p (t :: u :: ts)) :
    Calls Tryz.prog 90 #[.pointer (some ⟨p, 0, none⟩)] w fun e w' => e = .returned t.val ∧ PS w' p (u :: ts) ∧ w.grownBy w' (some p) := by
  obtain ⟨b, off, cap, hb, hp, hc1, hc2, hh, hcp, hfz, hr, x0, x1, x2, x3, x4⟩ := h.open
  have HH := Lib.hid hh
  have HR := Lib.hid hr
  obtain ⟨tk, tt, tv, tl, tc⟩ := t
  simp only [GTok.val] at *
  have hbw : b < w.heap.size := by omega
  have hbp : b ≠ p := by omega
  have hn1 : ¬ cap = 1 := by simp at hc1; omega
  have hn2 : ¬ (1 : Int) = (cap : Int) := by omega
  simp only [List.length_cons] at hc1 hcp
  unfold maxLen at hc2
  clear hh hr h
  go_enter Tryz.func90, Tryz.ntmps90
  go_wp2
  refine bodyPost_ret (v := .agg #[.int .i64 tk, .string ⟨tt.toArray⟩, .int .u64 tv, .int .i64 tl, .int .i64 tc]) (by simp [results, Tryz.results90, go_sem]) rfl ⟨rfl, ?_, ?_⟩
  · exact ((PS.set HH.out (by simp; omega) (by unfold maxLen; omega) HR.out.tail).lit _).lit _
  · exact gb_lit (gb_lit (gb_set _ _ _) _) _
theorem nameSized_yes (l : List UInt8) (w : World) (h1 : 1 ≤ l.length) (h2 : l.length ≤ 24) :
    Calls Tryz.prog 89 #[.string ⟨l.toArray⟩] w fun e w' => e = .returned (.bool true) ∧ w = w' := by
  have hsz : (⟨l.toArray⟩ : ByteArray).size = l.length := ba_size l
  go_enter Tryz.func89, Tryz.ntmps89
  go_wp2
  go_ret
  exact ⟨ret_bool (by simp; omega), rfl⟩
def encS (s : List UInt8) : List Value := [.string ⟨s.toArray⟩]
def MarkRel (ss : List (List UInt8)) (ts : List GTok) (p : Nat) (w : World) (vi : Value) (wr : World) : Prop := ∃ k : Nat, vi = .int .i64 k ∧ k ≤ ss.length ∧ PS wr p (ts.drop k) ∧ w.grownBy wr (some p)
theorem GRow.gb {α : Type} {enc : α → List Value} {k : Nat} {w w' : World} {A : Option Addr} {xs : List α} {p : Nat} (h : GRow enc k w w.heap.size A xs) (hp : ∀ b off, A = some ⟨b, off, none⟩ → b ≠ p) (hg : w.grownBy w' (some p)) : GRow enc k w' w'.heap.size A xs := fun hn => by
  obtain ⟨b, off, rfl, hlt, hc⟩ := h hn
  refine ⟨b, off, rfl, Nat.lt_of_lt_of_le hlt hg.size, fun i hi j u hu => (World.cell?_of_block (a := ⟨b, off + (i * k + j), none⟩) (hg.block b hlt ?_)).trans (hc i hi j u hu)⟩
  intro e; cases e; exact hp _ _ rfl rfl
set_option maxRecDepth 50000 in
set_option maxHeartbeats 1000000 in
/-- marks(ss..) where the next tokens are these marks, and one is left. -/
theorem marks_hit (p : Nat) (ss : List (List UInt8)) (A : Option Addr) (cap : Nat) (ts : List GTok) (w : World) (h : PS w p ts) (hs : GRow encS 1 w w.heap.size A ss) (hp : ∀ b off, A = some ⟨b, off, none⟩ → b ≠ p)
    (hl : ss.length < ts.length) (hs8 : ss.length ≤ 1000) (hit : ∀ i (h1 : i < ss.length) (h2 : i < ts.length), ts[i].kind = 4 ∧ ts[i].text = ss[i]) :
    Calls Tryz.prog 91 #[.pointer (some ⟨p, 0, none⟩), .slice A ss.length cap] w fun e w' => e = .returned (.int .i64 0) ∧ PS w' p (ts.drop ss.length) ∧ w.grownBy w' (some p) := by
  have HS := Lib.hid hs
  have HIT := Lib.hid hit
  have HP := Lib.hid hp
  have H0 := Lib.hid h
  clear hs hit hp h
  go_enter Tryz.func91, Tryz.ntmps91
  go_wp2
  go_loopw [10] (fun vi wr => MarkRel ss ts p w vi wr) (fun vi _ => ss.length - (intOf vi).toNat)
  case atStart => exact ⟨0, rfl, by omega, by simpa using H0.out, gb_refl _⟩
  case round =>
    rename_i wr
    obtain ⟨k, rfl, hk, hps, hgb⟩ := hrel
    rcases Nat.lt_or_ge k ss.length with hlt | hge
    · obtain ⟨tk4, ttx⟩ := HIT.out k hlt (by omega)
      have hd : ts.drop k = ts[k] :: ts[k + 1] :: ts.drop (k + 2) := by rw [List.drop_eq_getElem_cons (by omega), List.drop_eq_getElem_cons (by omega)]
      have HD1 : Hid (ts.drop (k + 1) = ts[k + 1] :: ts.drop (k + 2)) := Lib.hid (List.drop_eq_getElem_cons (by omega))
      rw [hd] at hps
      have HPS := Lib.hid hps
      obtain ⟨b, off, cp, hbp, hpw, hc1, hc2, hh, hcp, hfz, hr, x0, x1, x2, x3, x4⟩ := hps.open
      have hgsz := hgb.size
      obtain ⟨sb, so, rfl, hsb, hsc⟩ := (HS.out.gb HP.out hgb) (by omega)
      have y0 := hsc k hlt 0 _ rfl
      simp only [Nat.mul_one, Nat.add_zero] at y0
      rw [← ttx] at y0
      have HTK := Lib.hid (take_any p ts[k] ts[k + 1] (ts.drop (k + 2)))
      generalize ts[k + 1] = u at *
      generalize ts[k] = t at *
      obtain ⟨tk, tt, tv, tl, tc⟩ := t
      simp only at tk4 x0 x1 x2 x3 x4 y0
      subst tk4
      have HG := Lib.hid hgb
      have hbw : b < wr.heap.size := by omega
      have ftt : (tt != tt) = false := by simp
      clear hps hd hh hr hgb hsc ttx
      simp only [List.length_cons] at hcp hc1
      go_wp2_with fail
      refine (HTK.out _ (HPS.out.lit _)).mono ?_
      rintro e w1 ⟨rfl, hps1, hg1⟩
      have HP1 := Lib.hid hps1
      have HG1 := Lib.hid (gb_trans (gb_lit HG.out _) hg1)
      clear hps1 hg1
      go_wp2
      go_roundw
      case rel => exact ⟨k + 1, by go_num, by omega, by rw [HD1.out]; exact HP1.out, HG1.out⟩
      case measure => simp [intOf]; omega
    · have HPS := Lib.hid hps
      have HG := Lib.hid hgb
      clear hps hgb
      go_wp2
      go_ret
      exact ⟨rfl, by rw [show ss.length = k by omega]; exact HPS.out, HG.out⟩
set_option maxRecDepth 50000 in
set_option maxHeartbeats 1000000 in
/-- marks(s) where the next token is another mark. -/
theorem marks_miss (p : Nat) (s : List UInt8) (N : Nat) (t : GTok) (ts : List GTok) (w : World) (h : PS w p (t :: ts)) (hs : w.cell? ⟨N, 0, none⟩ = some (.string ⟨s.toArray⟩)) (hk : t.kind = 4) (ht : t.text ≠ s) :
    Calls Tryz.prog 91 #[.pointer (some ⟨p, 0, none⟩), .slice (some ⟨N, 0, none⟩) 1 1] w fun e w' => e = .returned (.int .i64 50) ∧ PS w' p (t :: ts) ∧ w.grownBy w' (some p) := by
  have HPS := Lib.hid h
  obtain ⟨b, off, cp, hbp, hpw, hc1, hc2, hh, hcp, hfz, hr, x0, x1, x2, x3, x4⟩ := h.open
  obtain ⟨tk, tt, tv, tl, tc⟩ := t
  simp only at hk ht x0 x1 x2 x3 x4
  subst hk
  have hbw : b < w.heap.size := by omega
  have ftt : (tt == s) = false := by simp [ht]
  clear h hh hr
  go_enter Tryz.func91, Tryz.ntmps91
  go_wp2
  go_loopw [10] (fun vi wr => vi = .int .i64 0 ∧ wr = w) (fun _ _ => 0)
  case atStart => exact ⟨rfl, rfl⟩
  case round =>
    rename_i wr
    obtain ⟨rfl, rfl⟩ := hrel
    go_wp2
    go_ret
    exact ⟨rfl, HPS.out.lit _, gb_lit (gb_refl _) _⟩
end Go.Proofs.YtmodjokoggmnaaaGreatDoor
