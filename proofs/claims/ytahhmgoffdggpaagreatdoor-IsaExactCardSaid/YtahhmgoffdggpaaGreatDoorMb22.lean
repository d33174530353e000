/-
  Texts of tokens: what a well-formed token's text is, that it is scanned as that token, and what a text of tokens with gaps between them is scanned as. Plain mathematics.
  Conditions: a number's value is less than 2^64.
  The contracts of the reference's marks, mark and end.
  Conditions: the text has at most 65536 bytes, the offset lies in it.
  The contracts of hwlex.wellFormed and of the reference's Plain and Text.
  Conditions: the token's text is one of the language's strings.
-/
import Derived.Test.YtahhmgoffdggpaaGreatDoorMb15
import Derived.Test.YtahhmgoffdggpaaGreatDoorMb19
import Derived.Test.YtahhmgoffdggpaaGreatDoorMb5
import Derived.Test.YtahhmgoffdggpaaGreatDoorMb6
import Derived.Test.YtahhmgoffdggpaaGreatDoorMb7
import Derived.Deep.QuietTactic
import Derived.BigQuiet
namespace Go.Proofs.YtahhmgoffdggpaaGreatDoor

open Go.RowKit Go.Shelf

/-- Is a token well formed? -/
def wf (t : GTok) : Bool :=
  if t.kind = 1 then decide (t.value = 0) && wordB t.text
  else if t.kind = 2 then t.text.isEmpty
  else if t.kind = 3 then decide (t.value = 0) && t.text.all isStr
  else if t.kind = 4 then decide (t.value = 0) && punct t.text
  else false
/-- The text of a well-formed token. -/
def txt (t : GTok) : List UInt8 := if t.kind = 2 then decL t.value.toNat else if t.kind = 3 then 34 :: (t.text ++ [34]) else t.text
def tailT (ts : List GTok) : List UInt8 := ts.flatMap fun t => 32 :: txt t
/-- Texts, separated by single spaces. -/
def joinT : List GTok → List UInt8
  | [] => []
  | t :: r => txt t ++ tailT r
def fmtL (ts : List GTok) : List UInt8 := if ts.all wf then joinT ts else []
theorem joinT_snoc (a : List GTok) (t : GTok) : joinT (a ++ [t]) = if a = [] then txt t else joinT a ++ 32 :: txt t := by
  cases a with
  | nil => simp [joinT, tailT]
  | cons b r => simp [joinT, tailT]
theorem joinT_take {ts : List GTok} {k : Nat} (h : k < ts.length) : joinT (ts.take (k + 1)) = if k = 0 then txt ts[k] else joinT (ts.take k) ++ 32 :: txt ts[k] := by
  rw [List.take_succ_eq_append_getElem h, joinT_snoc]
  by_cases h0 : k = 0
  · subst h0; simp
  · rw [if_neg h0, if_neg]
    intro e
    have := congrArg List.length e
    rw [List.length_take, List.length_nil] at this
    omega

/-- What may follow a token: nothing, or a byte that cannot belong to it. -/
def Sep (m : List UInt8) : Prop := m = [] ∨ ∃ g r, m = g :: r ∧ isWB g = false ∧ g ≠ 61 ∧ g ≠ 46 ∧ g ≠ 62
theorem run_sep (p : UInt8 → Bool) (l m : List UInt8) (h : l.all p = true) (hm : m = [] ∨ ∃ g r, m = g :: r ∧ p g = false) : run p (l ++ m) = l.length := by
  rcases hm with rfl | ⟨g, r, rfl, hg⟩
  · rw [List.append_nil]; exact run_whole p l h
  · rw [run_app l r g hg]; exact run_whole p l h
theorem dig_wb (c : UInt8) (h : isDig c = true) : isWB c = true := by rw [wb_eq, h]; simp
theorem wb_sp (c : UInt8) (h : isWB c = true) : isSp c = false ∧ c ≠ 35 := by
  constructor
  · cases hs : isSp c with
    | false => rfl
    | true =>
      simp only [isSp, spI, decide_eq_true_eq] at hs
      simp only [isWB, wbI, ltrI, digI, Bool.or_eq_true, decide_eq_true_eq] at h
      omega
  · rintro rfl; revert h; decide
theorem num_decL (x : Nat) (hx : x < 18446744073709551616) : num (decL x) = .val x := by
  have h := num_dec x 0 (by omega) hx
  have e : suf 0 = [] := rfl
  rw [e, List.append_nil] at h
  rw [h, numRes]
  simp [hx]
theorem decL_wb (x : Nat) (hx : x < 18446744073709551616) : (decL x).all isWB = true := by
  have h := (isDec x hx).all
  rw [List.all_eq_true] at h ⊢
  exact fun c hc => dig_wb c (h c hc)
/-- The punctuation marks are scanned asx themselves. -/
theorem marks_ok : ∀ l ∈ marks2 ++ marks1.map (fun c => [c]), marked l = .tok 4 l 0 l.length ∧ (∃ c r, l = c :: r ∧ isSp c = false ∧ c ≠ 35 ∧ isDig c = false ∧ isWB c = false ∧ c ≠ 34) := by
  intro l hl
  simp only [marks2, marks1, List.map_cons, List.map_nil, List.cons_append, List.nil_append, List.mem_cons, List.not_mem_nil, or_false] at hl
  rcases hl with rfl | rfl | rfl | rfl | rfl | rfl | rfl | rfl | rfl | rfl | rfl | rfl | rfl | rfl | rfl | rfl | rfl | rfl | rfl | rfl | rfl | rfl | rfl | rfl
  all_goals exact ⟨by decide, _, _, rfl, by decide, by decide, by decide, by decide, by decide⟩
theorem punct_mem (l : List UInt8) (h : punct l = true) : l ∈ marks2 ++ marks1.map (fun c => [c]) := by
  unfold punct at h
  rw [Bool.or_eq_true] at h
  rw [List.mem_append]
  rcases h with h | h
  · exact .inl (by simpa using h)
  · right
    split at h
    · rename_i c; exact List.mem_map.2 ⟨c, by simpa using h, rfl⟩
    · cases h

theorem step_txt (t : GTok) (h : wf t = true) (hv0 : 0 ≤ t.value) (hv : t.value < 18446744073709551616) (m : List UInt8) (hm : Sep m) :
    step (txt t ++ m) = .tok t.kind.toNat t.text t.value.toNat (txt t).length ∧ txt t ≠ [] := by
  obtain ⟨kd, tx, v, ln, cl⟩ := t
  simp only [wf, txt] at *
  by_cases h1 : kd = 1
  · subst h1
    simp only [if_true, Bool.and_eq_true, decide_eq_true_eq, show ¬ (1 : Int) = 2 by omega, show ¬ (1 : Int) = 3 by omega, if_false] at *
    obtain ⟨rfl, hw⟩ := h
    cases tx with
    | nil => simp [wordB] at hw
    | cons c r =>
      simp only [wordB, Bool.and_eq_true] at hw
      have hwb : isWB c = true := by rw [wb_eq, hw.1]; rfl
      have hdg : isDig c = false := by
        cases hd : isDig c with
        | false => rfl
        | true => have := let_dig c hd; rw [hw.1] at this; cases this
      have hall : (c :: r).all isWB = true := by rw [List.all_cons, hwb, hw.2]; rfl
      have hrun := run_sep isWB (c :: r) m hall (by rcases hm with h | ⟨g, s, h, h2, _⟩; exact .inl h; exact .inr ⟨g, s, h, h2⟩)
      refine ⟨?_, by simp⟩
      have e : step ((c :: r) ++ m) = first ((c :: r) ++ m) := by
        rw [List.cons_append]; simp [step, (wb_sp c hwb).1, (wb_sp c hwb).2]
      rw [e]
      have e2 : first ((c :: r) ++ m) = .tok 1 (((c :: r) ++ m).take (run isWB ((c :: r) ++ m))) 0 (run isWB ((c :: r) ++ m)) := by
        rw [List.cons_append]; simp [first, hdg, hwb]
      rw [e2, hrun, List.take_left]; rfl
  by_cases h2 : kd = 2
  · subst h2
    simp only [show ¬ (2 : Int) = 1 by omega, if_true, if_false, List.isEmpty_iff] at *
    subst h
    obtain ⟨x, rfl⟩ : ∃ x : Nat, v = (x : Int) := ⟨v.toNat, by omega⟩
    have hx : x < 18446744073709551616 := by omega
    rw [Int.toNat_natCast]
    have hd := isDec x hx
    have hall := decL_wb x hx
    have hn := num_decL x hx
    have hda := hd.all
    obtain ⟨c, r, hc⟩ := List.exists_cons_of_ne_nil hd.ne
    rw [hc] at hall hn hda ⊢
    have hdg : isDig c = true := by rw [List.all_cons, Bool.and_eq_true] at hda; exact hda.1
    have hwb := dig_wb c hdg
    have hrun := run_sep isWB (c :: r) m hall (by rcases hm with h | ⟨g, s, h, h2, _⟩; exact .inl h; exact .inr ⟨g, s, h, h2⟩)
    refine ⟨?_, by simp⟩
    have e : step ((c :: r) ++ m) = first ((c :: r) ++ m) := by
      rw [List.cons_append]; simp [step, (wb_sp c hwb).1, (wb_sp c hwb).2]
    rw [e]
    have e2 : first ((c :: r) ++ m) = (match num (((c :: r) ++ m).take (run isWB ((c :: r) ++ m))) with | .bad => .err 50 | .big => .err 6 | .val v => .tok 2 [] v (run isWB ((c :: r) ++ m))) := by
      rw [List.cons_append]; simp only [first, hdg, if_true]; rfl
    rw [e2, hrun, List.take_left, hn]; rfl
  by_cases h3 : kd = 3
  · subst h3
    simp only [show ¬ (3 : Int) = 1 by omega, show ¬ (3 : Int) = 2 by omega, if_true, if_false, Bool.and_eq_true, decide_eq_true_eq] at *
    obtain ⟨rfl, hs⟩ := h
    refine ⟨?_, by simp⟩
    have e : step (34 :: (tx ++ [34]) ++ m) = quoted (tx ++ 34 :: m) := by
      rw [List.cons_append, List.append_assoc]; rfl
    rw [e]
    have hrun : run isStr (tx ++ 34 :: m) = tx.length := by rw [run_app tx m 34 (by decide)]; exact run_whole _ _ hs
    unfold quoted
    rw [hrun, List.drop_left, List.take_left]
    simp
  by_cases h4 : kd = 4
  · subst h4
    simp only [show ¬ (4 : Int) = 1 by omega, show ¬ (4 : Int) = 2 by omega, show ¬ (4 : Int) = 3 by omega, if_true, if_false, Bool.and_eq_true, decide_eq_true_eq] at *
    obtain ⟨rfl, hp⟩ := h
    obtain ⟨hk, c, r, rfl, hs, h35, hdg, hwb, h34⟩ := marks_ok tx (punct_mem tx hp)
    refine ⟨?_, by simp⟩
    have e : step ((c :: r) ++ m) = marked ((c :: r) ++ m) := by
      rw [List.cons_append]; simp [step, hs, h35, first, hdg, hwb, h34]
    rw [e]
    rcases hm with rfl | ⟨g, s, rfl, _, hg⟩
    · rw [List.append_nil, hk]; rfl
    · rw [marked_app (c :: r) s g (by simp) hg, hk]; rfl
  · simp [h1, h2, h3, h4] at h

/-- The same tokens, positions aside. -/
def GTok.bare (t : GTok) : Int × List UInt8 × Int := (t.kind, t.text, t.value)
def bareEq (us : List Tok) (ts : List GTok) : Prop := us.map (fun u => u.g.bare) = ts.map GTok.bare
def WfAll (ts : List GTok) : Prop := ∀ t ∈ ts, wf t = true ∧ 0 ≤ t.value ∧ t.value < 18446744073709551616
theorem wf_kind (t : GTok) (h : wf t = true) : 0 ≤ t.kind := by
  unfold wf at h
  (repeat' split at h) <;> first | omega | cases h
theorem lex_txt (t : GTok) (h : wf t = true) (hv0 : 0 ≤ t.value) (hv : t.value < 18446744073709551616) (m : List UInt8) (hm : Sep m) (p : Nat × Nat) :
    ∃ (q : Nat × Nat) (u : Tok), u.g.bare = t.bare ∧ lex 0 p (txt t ++ m) = (lex 0 q m).cons u := by
  obtain ⟨hs, hne⟩ := step_txt t h hv0 hv m hm
  refine ⟨adv p ((txt t ++ m).take (txt t).length), ⟨t.kind.toNat, t.text, t.value.toNat, p.1, p.2⟩, ?_, ?_⟩
  · have := wf_kind t h
    simp only [GTok.bare, Tok.g]
    rw [Int.toNat_of_nonneg this, Int.toNat_of_nonneg hv0]
  · rw [lex_tk p (by simp [hne]) hs, List.drop_left]
theorem sep_sp (m : List UInt8) : Sep (32 :: m) := .inr ⟨32, m, rfl, by decide, by decide, by decide, by decide⟩
theorem lex_tail : ∀ (ts : List GTok) (_ : WfAll ts) (p : Nat × Nat), ∃ us, lex 0 p (tailT ts) = .ok us ∧ bareEq us ts := by
  intro ts
  induction ts with
  | nil => intro _ p; exact ⟨[], by simp [tailT, lex_nil], rfl⟩
  | cons t r ih =>
    intro hw p
    have e : tailT (t :: r) = 32 :: (txt t ++ tailT r) := by simp [tailT]
    rw [e]
    have hsk : step (32 :: (txt t ++ tailT r)) = .skip 1 := by simp [step, isSp, spI]
    rw [lex_sk p (by simp) hsk]
    simp only [List.take_succ_cons, List.take_zero, List.drop_succ_cons, List.drop_zero]
    obtain ⟨h1, h2, h3⟩ := hw t List.mem_cons_self
    have hsep : Sep (tailT r) := by
      cases r with
      | nil => exact .inl rfl
      | cons a b =>
        have : tailT (a :: b) = 32 :: (txt a ++ tailT b) := by simp [tailT]
        rw [this]; exact sep_sp _
    obtain ⟨q, u, hu, hl⟩ := lex_txt t h1 h2 h3 (tailT r) hsep (adv p [32])
    obtain ⟨us, hus, hb⟩ := ih (fun x hx => hw x (List.mem_cons_of_mem _ hx)) q
    refine ⟨u :: us, ?_, ?_⟩
    · rw [hl, hus]; rfl
    · unfold bareEq at hb ⊢; simp only [List.map_cons, hu, hb]
theorem lex_join (ts : List GTok) (hw : WfAll ts) (p : Nat × Nat) : ∃ us, lex 0 p (joinT ts) = .ok us ∧ bareEq us ts := by
  cases ts with
  | nil => exact ⟨[], by simp [joinT, lex_nil], rfl⟩
  | cons t r =>
    obtain ⟨h1, h2, h3⟩ := hw t List.mem_cons_self
    have hsep : Sep (tailT r) := by
      cases r with
      | nil => exact .inl rfl
      | cons a b =>
        have : tailT (a :: b) = 32 :: (txt a ++ tailT b) := by simp [tailT]
        rw [this]; exact sep_sp _
    obtain ⟨q, u, hu, hl⟩ := lex_txt t h1 h2 h3 (tailT r) hsep p
    obtain ⟨us, hus, hb⟩ := lex_tail r (fun x hx => hw x (List.mem_cons_of_mem _ hx)) q
    refine ⟨u :: us, ?_, ?_⟩
    · show lex 0 p (txt t ++ tailT r) = _
      rw [hl, hus]; rfl
    · unfold bareEq at hb ⊢; simp only [List.map_cons, hu, hb]
/-- Well-formedness and text look at a token's bare parts alone. -/
theorem wf_bare {a b : GTok} (h : a.bare = b.bare) : wf a = wf b ∧ txt a = txt b := by
  obtain ⟨k, t, v, _, _⟩ := a
  obtain ⟨k', t', v', _, _⟩ := b
  simp only [GTok.bare, Prod.mk.injEq] at h
  obtain ⟨rfl, rfl, rfl⟩ := h
  exact ⟨rfl, rfl⟩
theorem fmtL_bare : ∀ (xs bs : List GTok), xs.map GTok.bare = bs.map GTok.bare → xs.all wf = bs.all wf ∧ xs.map txt = bs.map txt := by
  intro xs
  induction xs with
  | nil => intro bs h; cases bs with
    | nil => exact ⟨rfl, rfl⟩
    | cons b r => simp at h
  | cons a r ih =>
    intro bs h
    cases bs with
    | nil => simp at h
    | cons b s =>
      simp only [List.map_cons, List.cons.injEq] at h
      obtain ⟨h1, h2⟩ := ih s h.2
      obtain ⟨h3, h4⟩ := wf_bare h.1
      exact ⟨by simp only [List.all_cons, h3, h1], by simp only [List.map_cons, h4, h2]⟩
theorem joinT_map (xs bs : List GTok) (h : xs.map txt = bs.map txt) : joinT xs = joinT bs := by
  have ht : ∀ zs : List GTok, tailT zs = (zs.map txt).flatMap (fun t => 32 :: t) := by intro zs; simp [tailT, List.flatMap_map]
  cases xs with
  | nil => cases bs with
    | nil => rfl
    | cons b r => simp at h
  | cons a r => cases bs with
    | nil => simp at h
    | cons b s =>
      simp only [List.map_cons, List.cons.injEq] at h
      show txt a ++ tailT r = txt b ++ tailT s
      rw [ht, ht, h.1, h.2]
theorem fmtL_same (xs bs : List GTok) (h : xs.map GTok.bare = bs.map GTok.bare) : fmtL xs = fmtL bs := by
  obtain ⟨h1, h2⟩ := fmtL_bare xs bs h
  unfold fmtL
  rw [h1, joinT_map xs bs h2]
end Go.Proofs.YtahhmgoffdggpaaGreatDoor


namespace Go.Proofs.YtahhmgoffdggpaaGreatDoor

open Go.RowKit Go.Shelf

def marksL : List (List UInt8) := marks2 ++ marks1.map fun c => [c]
/-- The mark at the beginning of a text. -/
def markOf (d : List UInt8) : List UInt8 := if 1 < d.length ∧ punct (d.take 2) = true then d.take 2 else if punct (d.take 1) = true then d.take 1 else []
def isMark (k : Nat) (d : List UInt8) : Bool := (marksL.getD k []).isPrefixOf d
theorem marksL_len : marksL.length = 24 := rfl
theorem mark_hit : ∀ k : Fin 24, (k.val < 5 → (marksL.getD k.val []).length = 2 ∧ punct (marksL.getD k.val []) = true) ∧ (5 ≤ k.val → (marksL.getD k.val []).length = 1 ∧ punct (marksL.getD k.val []) = true) := by decide
theorem pref_take {m d : List UInt8} (h : m.isPrefixOf d = true) : d.take m.length = m ∧ m.length ≤ d.length := by
  obtain ⟨t, ht⟩ := List.isPrefixOf_iff_prefix.1 h
  subst ht; simp
theorem take_pref {m d : List UInt8} (h : d.take m.length = m) : m.isPrefixOf d = true := List.isPrefixOf_iff_prefix.2 (by rw [← h]; exact List.take_prefix _ _)
theorem no_two (d : List UInt8) (h : ∀ k, k < 5 → isMark k d = false) : ¬ (1 < d.length ∧ punct (d.take 2) = true) := by
  rintro ⟨hl, hp⟩
  have hl2 : (d.take 2).length = 2 := by rw [List.length_take]; omega
  unfold punct at hp
  rw [Bool.or_eq_true] at hp
  rcases hp with hp | hp
  · have : ∃ k, k < 5 ∧ d.take 2 = marksL.getD k [] := by
      simp [marks2] at hp
      rcases hp with hp | hp | hp | hp | hp
      · exact ⟨0, by omega, hp⟩
      · exact ⟨1, by omega, hp⟩
      · exact ⟨2, by omega, hp⟩
      · exact ⟨3, by omega, hp⟩
      · exact ⟨4, by omega, hp⟩
    obtain ⟨k, hk, e⟩ := this
    have hk2 := (mark_hit ⟨k, by omega⟩).1 hk
    have : isMark k d = true := take_pref (by rw [hk2.1]; exact e)
    rw [h k hk] at this; cases this
  · split at hp
    · rename_i heq; rw [heq] at hl2; simp at hl2
    · cases hp
theorem markOf_hit (d : List UInt8) (k : Nat) (hk : k < 24) (hno : ∀ j, j < k → isMark j d = false) (h : isMark k d = true) : markOf d = marksL.getD k [] := by
  obtain ⟨h1, h2⟩ := pref_take h
  unfold markOf
  rcases Nat.lt_or_ge k 5 with h5 | h5
  · obtain ⟨e1, e2⟩ := (mark_hit ⟨k, hk⟩).1 h5
    simp only at e1 e2
    rw [e1] at h1 h2
    rw [if_pos ⟨by omega, by rw [h1]; exact e2⟩, h1]
  · obtain ⟨e1, e2⟩ := (mark_hit ⟨k, hk⟩).2 h5
    simp only at e1 e2
    rw [e1] at h1 h2
    rw [if_neg (no_two d fun j hj => hno j (by omega)), if_pos (by rw [h1]; exact e2), h1]
theorem markOf_none (d : List UInt8) (hno : ∀ j, j < 24 → isMark j d = false) : markOf d = [] := by
  unfold markOf
  rw [if_neg (no_two d fun j hj => hno j (by omega)), if_neg]
  intro hp
  unfold punct at hp
  rw [Bool.or_eq_true] at hp
  rcases hp with hp | hp
  · simp [marks2] at hp
    have hle : (d.take 1).length ≤ 1 := by rw [List.length_take]; omega
    rcases hp with hp | hp | hp | hp | hp <;> (rw [hp] at hle; simp at hle)
  · split at hp
    · rename_i c heq
      have : ∃ k, 5 ≤ k ∧ k < 24 ∧ [c] = marksL.getD k [] := by
        simp [marks1] at hp
        rcases hp with rfl | rfl | rfl | rfl | rfl | rfl | rfl | rfl | rfl | rfl | rfl | rfl | rfl | rfl | rfl | rfl | rfl | rfl | rfl
        · exact ⟨5, by omega, by omega, rfl⟩
        · exact ⟨6, by omega, by omega, rfl⟩
        · exact ⟨7, by omega, by omega, rfl⟩
        · exact ⟨8, by omega, by omega, rfl⟩
        · exact ⟨9, by omega, by omega, rfl⟩
        · exact ⟨10, by omega, by omega, rfl⟩
        · exact ⟨11, by omega, by omega, rfl⟩
        · exact ⟨12, by omega, by omega, rfl⟩
        · exact ⟨13, by omega, by omega, rfl⟩
        · exact ⟨14, by omega, by omega, rfl⟩
        · exact ⟨15, by omega, by omega, rfl⟩
        · exact ⟨16, by omega, by omega, rfl⟩
        · exact ⟨17, by omega, by omega, rfl⟩
        · exact ⟨18, by omega, by omega, rfl⟩
        · exact ⟨19, by omega, by omega, rfl⟩
        · exact ⟨20, by omega, by omega, rfl⟩
        · exact ⟨21, by omega, by omega, rfl⟩
        · exact ⟨22, by omega, by omega, rfl⟩
        · exact ⟨23, by omega, by omega, rfl⟩
      obtain ⟨k, h5, h24, e⟩ := this
      have hk2 := (mark_hit ⟨k, h24⟩).2 h5
      have : isMark k d = true := take_pref (by rw [hk2.1, heq]; exact e)
      rw [hno k h24] at this; cases this
    · cases hp

theorem bel_drewN (B : Nat) (w : World) (n : Nat) : Below B w (w.drewN n) := by
  induction n with
  | zero => exact Below.refl _ _
  | succ n ih => exact ih.drew
def marksC : Array Value := (marksL.map fun m => Value.string ⟨m.toArray⟩).toArray
theorem marks_any (w : World) : Calls Tryz.prog 128 #[] w fun e w' => e = .returned (.slice (some ⟨w.heap.size, 0, none⟩) 24 24) ∧ w' = w.alloc (.cells marksC 9) := by
  go_enter Tryz.func128, Tryz.ntmps128
  go_wp2
  go_ret
  exact ⟨rfl, rfl⟩
theorem marks_cell (w : World) (k : Nat) (hk : k < 24) : (w.alloc (.cells marksC 9)).cell? ⟨w.heap.size, k, none⟩ = some (.string ⟨(marksL.getD k []).toArray⟩) := by
  have e : (w.alloc (.cells marksC 9)).cell? ⟨w.heap.size, k, none⟩ = marksC[k]? := by
    unfold World.cell?
    rw [show (w.alloc (.cells marksC 9)).heap[(⟨w.heap.size, k, none⟩ : Addr).block]? = some (.cells marksC 9 (0, 0)) from heap_alloc_new w _]
    rfl
  rw [e]
  have : ∀ k : Fin 24, marksC[k.val]? = some (.string ⟨(marksL.getD k.val []).toArray⟩) := by
    intro k
    unfold marksC
    rw [List.getElem?_toArray, List.getElem?_map, List.getD_eq_getElem?_getD]
    have : k.val < marksL.length := by rw [marksL_len]; exact k.isLt
    rw [List.getElem?_eq_getElem this]; rfl
  exact this ⟨k, hk⟩

set_option maxRecDepth 50000 in
set_option maxHeartbeats 1000000 in
theorem mark_any (l : List UInt8) (i : Nat) (hi : i ≤ l.length) (hl : l.length ≤ 9223372036854775807) (w : World) :
    Calls Tryz.prog 108 #[.string ⟨l.toArray⟩, .int .i64 i] w fun e w' => e = .returned (.string ⟨(markOf (l.drop i)).toArray⟩) ∧ Below w.heap.size w w' := by
  have HM := Lib.hid (marks_any w)
  have HCL := Lib.hid (marks_cell w)
  have HBW := Lib.hid ((Below.refl w.heap.size w).alloc (Nat.le_refl _) (.cells marksC 9))
  have HSZ : Hid ((w.alloc (.cells marksC 9)).heap.size = w.heap.size + 1) := Lib.hid (by simp)
  generalize w.alloc (.cells marksC 9) = w1 at *
  go_enter Tryz.func108, Tryz.ntmps108
  go_wp2_with fail
  refine HM.out.mono ?_
  rintro e w' ⟨rfl, rfl⟩
  go_wp2_with fail
  go_loopw [6] (fun vk wr => ∃ k : Nat, k ≤ 24 ∧ vk = .int .i64 k ∧ Hid (∀ j, j < k → isMark j (l.drop i) = false) ∧ Hid (Below (w.heap.size + 1) w' wr)) (fun vk _ => 24 - (intOf vk).toNat)
  case atStart => exact ⟨0, Nat.zero_le _, rfl, Lib.hid fun j hj => by omega, Lib.hid (Below.refl _ _)⟩
  case round =>
    obtain ⟨k, hk, rfl, HNO, HW⟩ := hrel
    rcases Nat.lt_or_ge k 24 with hlt | hge
    · have hc := (HW.out.cell (p := ⟨w.heap.size, k, none⟩) (Nat.lt_succ_self _)).trans (HCL.out k hlt)
      have hml : (marksL.getD k []).length = 1 ∨ (marksL.getD k []).length = 2 := by
        rcases Nat.lt_or_ge k 5 with h5 | h5
        · exact .inr ((mark_hit ⟨k, hlt⟩).1 h5).1
        · exact .inl ((mark_hit ⟨k, hlt⟩).2 h5).1
      have HHIT : Hid (isMark k (l.drop i) = true → markOf (l.drop i) = marksL.getD k []) := Lib.hid (markOf_hit (l.drop i) k hlt HNO.out)
      have HIS : Hid (isMark k (l.drop i) = (marksL.getD k []).isPrefixOf (l.drop i)) := Lib.hid rfl
      generalize marksL.getD k [] = m at *
      by_cases hgd : m.length ≤ l.length - i
      · have hsl := slice_run l i (i + m.length) (by omega) (by omega) (i : Int) ((i : Int) + (m.length : Int)) rfl (by omega)
        have hgb : decide ((m.length : Int) ≤ (l.length : Int) - (i : Int)) = true := by simp; omega
        have he : (l.take (i + m.length)).drop i = (l.drop i).take m.length := by rw [List.drop_take]; congr 1; omega
        rw [he] at hsl
        by_cases hq : (l.drop i).take m.length = m
        · have hqb : ((l.drop i).take m.length == m) = true := by rw [beq_iff_eq]; exact hq
          have HF : Hid (markOf (l.drop i) = m) := Lib.hid (HHIT.out (by rw [HIS.out]; exact take_pref hq))
          clear hq he
          go_wp2
          go_quiet (fail)
          go_wp2
          go_ret
          rw [HF.out]
          exact ⟨rfl, HBW.out.trans (((HW.out.mono (Nat.le_succ _))).trans (bel_drewN _ _ _))⟩
        · have hqb : ((l.drop i).take m.length == m) = false := by rw [beq_eq_false_iff_ne]; exact hq
          have hmis : isMark k (l.drop i) = false := by
            cases h : isMark k (l.drop i) with
            | false => rfl
            | true => rw [HIS.out] at h; exact absurd (pref_take h).1 hq
          have HNX : Hid (∀ j, j < k + 1 → isMark j (l.drop i) = false) := Lib.hid fun j hj => by
            rcases Nat.lt_or_ge j k with h | h
            · exact HNO.out j h
            · rw [show j = k by omega]; exact hmis
          clear hq he hmis
          go_wp2
          go_quiet (fail)
          go_wp2
          go_roundw
          case rel => exact ⟨k + 1, by omega, by go_num, HNX, Lib.hid (HW.out.trans (bel_drewN _ _ _))⟩
          case measure => simp [intOf]; omega
      · have hgb : decide ((m.length : Int) ≤ (l.length : Int) - (i : Int)) = false := by simp; omega
        have hmis : isMark k (l.drop i) = false := by
          cases h : isMark k (l.drop i) with
          | false => rfl
          | true =>
            rw [HIS.out] at h
            have := (pref_take h).2
            rw [List.length_drop] at this; omega
        have HNX : Hid (∀ j, j < k + 1 → isMark j (l.drop i) = false) := Lib.hid fun j hj => by
          rcases Nat.lt_or_ge j k with h | h
          · exact HNO.out j h
          · rw [show j = k by omega]; exact hmis
        clear hmis hgd
        go_wp2
        go_quiet (fail)
        go_wp2
        go_roundw
        case rel => exact ⟨k + 1, by omega, by go_num, HNX, Lib.hid (HW.out.trans (bel_drewN _ _ _))⟩
        case measure => simp [intOf]; omega
    · have HF : Hid (markOf (l.drop i) = []) := Lib.hid (markOf_none _ fun j hj => HNO.out j (by omega))
      go_wp2
      go_ret
      rw [HF.out]
      exact ⟨rfl, HBW.out.trans (HW.out.mono (Nat.le_succ _))⟩
end Go.Proofs.YtahhmgoffdggpaaGreatDoor


namespace Go.Proofs.YtahhmgoffdggpaaGreatDoor

open Go.RowKit Go.Shelf

def GTok.val (t : GTok) : Value := .agg #[.int .i64 t.kind, .string ⟨t.text.toArray⟩, .int .u64 t.value, .int .i64 t.line, .int .i64 t.col]
theorem bel_q {w w1 : World} (h : Below w.heap.size w w1) (n : Nat) : Below w.heap.size w (w1.drewN n) := h.trans (bel_drewN _ _ _)
end Go.Proofs.YtahhmgoffdggpaaGreatDoor
