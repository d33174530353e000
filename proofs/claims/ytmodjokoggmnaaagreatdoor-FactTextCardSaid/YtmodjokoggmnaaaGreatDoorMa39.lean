/-
  The text of well-formed facts is scanned as their tokens. Plain mathematics.
  Conditions: the numbers are numbers of 64 bits.
  The tokens of well-formed facts are parsed as these facts. Plain mathematics.
  Conditions: the numbers are numbers of 64 bits.
  What is parsed is well formed, its text is not much longer, and is parsed as the same set. Plain mathematics.
  Conditions: texts of at most 2000 bytes.
-/
import Derived.Test.YtmodjokoggmnaaaGreatDoorMa27
import Derived.Test.YtmodjokoggmnaaaGreatDoorMa38
import Derived.Test.YtmodjokoggmnaaaGreatDoorMa16
import Derived.Test.YtmodjokoggmnaaaGreatDoorMa37
import Derived.Test.YtmodjokoggmnaaaGreatDoorMa31
namespace Go.Proofs.YtmodjokoggmnaaaGreatDoor
open Go.RowKit Go.Shelf

def mkT (c : UInt8) : GTok := ⟨4, [c], 0, 0, 0⟩
def wdT (l : List UInt8) : GTok := ⟨1, l, 0, 0, 0⟩
def nuT (n : Int) : GTok := ⟨2, [], n, 0, 0⟩
def stT (l : List UInt8) : GTok := ⟨3, l, 0, 0, 0⟩
def valT (v : GVal) : List GTok := if v.kind = 1 then (if v.int < 0 then [mkT 45, nuT (-v.int)] else [nuT v.int]) else if nameB v.word then [wdT v.word] else [stT v.word]
def argsTok : List GVal → List GTok
  | [] => []
  | v :: r => valT v ++ r.flatMap fun v => mkT 44 :: valT v
def factT (f : GFact) : List GTok := wdT f.rel :: mkT 40 :: (argsTok f.args ++ [mkT 41, mkT 46])
/-- A value that is well formed, its number one of 64 bits. -/
def OkV (v : GVal) : Prop := gwfV v = true ∧ -9223372036854775808 ≤ v.int ∧ v.int ≤ 9223372036854775807
def OkF (f : GFact) : Prop := gwfF f = true ∧ ∀ v ∈ f.args, OkV v
/-- The text T is scanned asx the tokens ts, wherever what follows is asx P says. -/
def SpIf (P : List UInt8 → Prop) (T : List UInt8) (ts : List GTok) : Prop := ∀ m, P m → ∀ p, ∃ q us, lex 0 p (T ++ m) = (lex 0 q m).app us ∧ bareEq us ts
theorem app_app (r : Res) (a b : List Tok) : (r.app a).app b = r.app (b ++ a) := by cases r <;> simp [Res.app]
theorem SpIf.cat {P Q : List UInt8 → Prop} {T T2 : List UInt8} {ts ts2 : List GTok} (h1 : SpIf P T ts) (h2 : SpIf Q T2 ts2) (h : ∀ m, Q m → P (T2 ++ m)) : SpIf Q (T ++ T2) (ts ++ ts2) := fun m hm p => by
  obtain ⟨q, us, e1, b1⟩ := h1 (T2 ++ m) (h m hm) p
  obtain ⟨q2, us2, e2, b2⟩ := h2 m hm q
  refine ⟨q2, us ++ us2, ?_, ?_⟩
  · rw [List.append_assoc, e1, e2, app_app]
  · unfold bareEq at *
    rw [List.map_append, List.map_append, b1, b2]
theorem SpIf.mono {P Q : List UInt8 → Prop} {T : List UInt8} {ts : List GTok} (h : SpIf P T ts) (hq : ∀ m, Q m → P m) : SpIf Q T ts := fun m hm p => h m (hq m hm) p
theorem SpIf.nil {P : List UInt8 → Prop} : SpIf P [] [] := fun m _ p => ⟨p, [], by rw [app_nil]; rfl, rfl⟩
theorem SpIf.tok (t : GTok) (h : wf t = true) (hv0 : 0 ≤ t.value) (hv : t.value < 18446744073709551616) : SpIf Sep (txt t) [t] := fun m hm p => by
  obtain ⟨q, u, hu, hl⟩ := lex_txt t h hv0 hv m hm p
  refine ⟨q, [u], ?_, ?_⟩
  · rw [hl]; cases lex 0 q m <;> rfl
  · unfold bareEq; simp [hu]
theorem SpIf.space (b : UInt8) (hb : isSp b = true) {P : List UInt8 → Prop} : SpIf P [b] [] := fun m _ p => by
  refine ⟨adv p [b], [], ?_, rfl⟩
  rw [app_nil]
  exact lex_s b hb m p
/-- What comes next cannot make a mark longer. -/
def Front (m : List UInt8) : Prop := ∃ g r, m = g :: r ∧ g ≠ 61 ∧ g ≠ 46 ∧ g ≠ 62
theorem SpIf.mark (c : UInt8) (hc : c = 40 ∨ c = 41 ∨ c = 44 ∨ c = 45 ∨ c = 46) {P : List UInt8 → Prop} (hP : ∀ m, P m → ∀ g r, m = g :: r → punct [c, g] = false) : SpIf P [c] [mkT c] := fun m hm p => by
  have hs : step ([c] ++ m) = .tok 4 [c] 0 1 := by
    have e : step ([c] ++ m) = marked ([c] ++ m) := by
      rcases hc with rfl | rfl | rfl | rfl | rfl <;> rfl
    rw [e]
    unfold marked
    have h1 : punct (([c] ++ m).take 1) = true := by
      rcases hc with rfl | rfl | rfl | rfl | rfl <;> rfl
    have h2 : ¬ (1 < ([c] ++ m).length ∧ punct (([c] ++ m).take 2) = true) := by
      rintro ⟨hl, hp⟩
      cases m with
      | nil => simp at hl
      | cons g r =>
        have := hP _ hm g r rfl
        have e2 : ([c] ++ g :: r).take 2 = [c, g] := rfl
        rw [e2, this] at hp
        cases hp
    rw [if_neg h2, if_pos h1]
    rfl
  refine ⟨adv p ([c] ++ m |>.take 1), [⟨4, [c], 0, p.1, p.2⟩], ?_, rfl⟩
  rw [lex_tk p (by simp) hs]
  have : ([c] ++ m).drop 1 = m := rfl
  rw [this]
  cases lex 0 (adv p (([c] ++ m).take 1)) m <;> rfl
theorem punct_front (c : UInt8) {m : List UInt8} (hm : Front m) : ∀ g r, m = g :: r → punct [c, g] = false := by
  obtain ⟨g, r, rfl, h1, h2, h3⟩ := hm
  rintro g' r' e
  injection e with e1 e2
  subst e1
  cases h : punct [c, g] with
  | false => rfl
  | true =>
    unfold punct at h
    simp [marks2] at h
    rcases h with h | h | h | h | h <;> first | exact absurd h.2 h1 | exact absurd h.2 h2 | exact absurd h.2 h3
theorem Front.app {a : List UInt8} (h : Front a) (m : List UInt8) : Front (a ++ m) := by
  obtain ⟨g, r, rfl, h⟩ := h
  exact ⟨g, r ++ m, rfl, h⟩
theorem Sep.front {m : List UInt8} (h : Sep m) (hn : m ≠ []) : Front m := by
  rcases h with h | ⟨g, r, h, _, h2⟩
  · exact absurd h hn
  · exact ⟨g, r, h, h2⟩
theorem dec_front (x : Nat) (hx : x < 18446744073709551616) : Front (decL x) := by
  have hd := isDec x hx
  have hall := hd.all
  obtain ⟨c, r, hc⟩ := List.exists_cons_of_ne_nil hd.ne
  rw [hc] at hall ⊢
  rw [List.all_cons, Bool.and_eq_true] at hall
  refine ⟨c, r, rfl, ?_, ?_, ?_⟩ <;> (rintro rfl; exact absurd hall.1 (by decide))
theorem nu_txt (n : Int) : txt (nuT n) = decL n.toNat := rfl
theorem itoa_text (n : Int) : Lib.itoa n = if n < 0 then 45 :: decL (-n).toNat else decL n.toNat := by
  unfold Lib.itoa
  by_cases h : n < 0
  · rw [if_pos h, if_pos h, dec_eq _ _ (Nat.le_refl _), show (-n).toNat = n.natAbs by omega]
  · rw [if_neg h, if_neg h, dec_eq _ _ (Nat.le_refl _), show n.toNat = n.natAbs by omega]
theorem val_parts {v : GVal} (h : OkV v) : (v.kind = 1 ∧ v.word = [] ∧ ((v.int < 0 ∧ valT v = [mkT 45, nuT (-v.int)] ∧ vtextL v = [45] ++ txt (nuT (-v.int))) ∨ (0 ≤ v.int ∧ valT v = [nuT v.int] ∧ vtextL v = txt (nuT v.int)))) ∨
    (v.kind = 2 ∧ v.int = 0 ∧ v.word.length ≤ 24 ∧ 1 ≤ v.word.length ∧ v.word.all isStr = true ∧ ((wordB v.word = true ∧ valT v = [wdT v.word] ∧ vtextL v = txt (wdT v.word)) ∨ (wordB v.word = false ∧ valT v = [stT v.word] ∧ vtextL v = txt (stT v.word)))) := by
  obtain ⟨k, n, l⟩ := v
  obtain ⟨hg, h0, h1⟩ := h
  unfold gwfV at hg
  unfold valT vtextL
  simp only at *
  by_cases hk : k = 1
  · left
    rw [if_pos hk] at hg ⊢
    rw [if_pos hk]
    refine ⟨hk, by simpa using hg, ?_⟩
    rw [itoa_text]
    by_cases hn : n < 0
    · left
      rw [if_pos hn, if_pos hn]
      exact ⟨hn, rfl, rfl⟩
    · right
      rw [if_neg hn, if_neg hn]
      exact ⟨by omega, rfl, rfl⟩
  · right
    rw [if_neg hk] at hg ⊢
    rw [if_neg hk]
    by_cases h2 : k = 2
    · rw [if_pos h2] at hg
      simp only [Bool.and_eq_true, decide_eq_true_eq] at hg
      obtain ⟨⟨hi, hs⟩, ha⟩ := hg
      have h24 : l.length ≤ 24 := by unfold sizedB at hs; simp at hs; omega
      have h01 : 1 ≤ l.length := by unfold sizedB at hs; simp at hs; omega
      have hnb : nameB l = wordB l := by simp [nameB, h24]
      rw [hnb]
      refine ⟨h2, hi, h24, h01, ha, ?_⟩
      cases hw : wordB l
      · right
        refine ⟨rfl, by simp, ?_⟩
        unfold quoteL
        simp [ha, txt, stT]
      · left
        exact ⟨rfl, by simp, by simp [txt, wdT]⟩
    · rw [if_neg h2] at hg; cases hg
theorem word_front {l : List UInt8} (h : wordB l = true) : Front l := by
  cases l with
  | nil => cases h
  | cons c r =>
    simp only [wordB, Bool.and_eq_true] at h
    refine ⟨c, r, rfl, ?_, ?_, ?_⟩ <;> (rintro rfl; exact absurd h.1 (by decide))
theorem val_front {v : GVal} (h : OkV v) : Front (vtextL v) := by
  have hb := h.2
  rcases val_parts h with ⟨_, _, ⟨h1, _, e⟩ | ⟨h1, _, e⟩⟩ | ⟨_, _, _, _, _, ⟨h1, _, e⟩ | ⟨h1, _, e⟩⟩
  · rw [e]; exact ⟨45, _, rfl, by decide, by decide, by decide⟩
  · rw [e, nu_txt]; exact dec_front _ (by omega)
  · rw [e]; exact word_front h1
  · rw [e]; exact ⟨34, _, rfl, by decide, by decide, by decide⟩
theorem val_lex {v : GVal} (h : OkV v) : SpIf Sep (vtextL v) (valT v) := by
  have hb := h.2
  rcases val_parts h with ⟨_, _, ⟨h1, e1, e2⟩ | ⟨h1, e1, e2⟩⟩ | ⟨_, _, _, _, hs, ⟨h1, e1, e2⟩ | ⟨h1, e1, e2⟩⟩
  · rw [e1, e2]
    exact SpIf.cat (SpIf.mark 45 (by simp) (P := Front) fun m hm => punct_front 45 hm) (SpIf.tok (nuT (-v.int)) rfl (by show 0 ≤ -v.int; omega) (by show -v.int < _; omega)) fun m _ => Front.app (by rw [nu_txt]; exact dec_front _ (by omega)) m
  · rw [e1, e2]
    exact SpIf.tok (nuT v.int) rfl h1 (by show v.int < _; omega)
  · rw [e1, e2]
    exact SpIf.tok (wdT v.word) (by simp [wf, wdT, h1]) (by show (0 : Int) ≤ 0; omega) (by show (0 : Int) < _; omega)
  · rw [e1, e2]
    exact SpIf.tok (stT v.word) (by simp only [wf, stT]; simp [hs]) (by show (0 : Int) ≤ 0; omega) (by show (0 : Int) < _; omega)
theorem sep44 (m : List UInt8) : Sep (44 :: m) := .inr ⟨44, m, rfl, by decide, by decide, by decide, by decide⟩
theorem sep41 (m : List UInt8) : Sep (41 :: m) := .inr ⟨41, m, rfl, by decide, by decide, by decide, by decide⟩
theorem sep40 (m : List UInt8) : Sep (40 :: m) := .inr ⟨40, m, rfl, by decide, by decide, by decide, by decide⟩
theorem more_lex : ∀ (vs : List GVal), (∀ v ∈ vs, OkV v) → SpIf Sep (vs.flatMap fun v => 44 :: 32 :: vtextL v) (vs.flatMap fun v => mkT 44 :: valT v)
  | [], _ => SpIf.nil
  | v :: r, h => by
    have h1 := h v List.mem_cons_self
    have h2 := more_lex r fun x hx => h x (List.mem_cons_of_mem _ hx)
    have a1 : SpIf Sep ([44] ++ [32]) ([mkT 44] ++ []) := SpIf.cat (SpIf.mark 44 (by simp) (P := fun m => ∃ r, m = 32 :: r) fun m hm g r e => by
      obtain ⟨r', rfl⟩ := hm
      injection e with e1 e2
      subst e1
      decide) (SpIf.space 32 (by decide)) fun m _ => ⟨m, rfl⟩
    have a1' : SpIf (fun _ => True) ([44] ++ [32]) ([mkT 44] ++ []) := SpIf.cat (SpIf.mark 44 (by simp) (P := fun m => ∃ r, m = 32 :: r) fun m hm g r e => by
      obtain ⟨r', rfl⟩ := hm
      injection e with e1 e2
      subst e1
      decide) (SpIf.space 32 (by decide)) fun m _ => ⟨m, rfl⟩
    have a2 := SpIf.cat (SpIf.cat a1' (val_lex h1) fun m _ => trivial) h2 fun m hm => by
      cases r with
      | nil => exact hm
      | cons a b => exact sep44 _
    simpa using a2
theorem args_lex {vs : List GVal} (h : ∀ v ∈ vs, OkV v) : SpIf Sep (argsT vs) (argsTok vs) := by
  cases vs with
  | nil => exact SpIf.nil
  | cons v r =>
    refine SpIf.cat (val_lex (h v List.mem_cons_self)) (more_lex r fun x hx => h x (List.mem_cons_of_mem _ hx)) fun m hm => ?_
    cases r with
    | nil => exact hm
    | cons a b => exact sep44 _
theorem args_front {vs : List GVal} (h : ∀ v ∈ vs, OkV v) (hn : vs ≠ []) (m : List UInt8) : Front (argsT vs ++ m) := by
  cases vs with
  | nil => exact absurd rfl hn
  | cons v r => exact ((val_front (h v List.mem_cons_self)).app _).app m
theorem okF_parts {f : GFact} (h : OkF f) : wordB f.rel = true ∧ f.rel.length ≤ 24 ∧ 1 ≤ f.args.length ∧ f.args.length ≤ 8 := by
  have := h.1
  simp only [gwfF, Bool.and_eq_true, decide_eq_true_eq, nameB] at this
  exact ⟨this.1.1.1.2, this.1.1.1.1, this.1.1.2, this.1.2⟩
theorem fact_lex {f : GFact} (h : OkF f) {P : List UInt8 → Prop} : SpIf P (factText f) (factT f) := by
  obtain ⟨h1, _, h2, _⟩ := okF_parts h
  have hn : f.args ≠ [] := by intro e; rw [e] at h2; simp at h2
  have b1 : SpIf Sep f.rel [wdT f.rel] := SpIf.tok (wdT f.rel) (by simp [wf, wdT, h1]) (by show (0 : Int) ≤ 0; omega) (by show (0 : Int) < _; omega)
  have b2 : SpIf Front (f.rel ++ [40]) ([wdT f.rel] ++ [mkT 40]) := SpIf.cat b1 (SpIf.mark 40 (by simp) fun m hm => punct_front 40 hm) fun m _ => sep40 m
  have b3 : SpIf Sep (f.rel ++ [40] ++ argsT f.args) ([wdT f.rel] ++ [mkT 40] ++ argsTok f.args) := SpIf.cat b2 (args_lex h.2) fun m _ => args_front h.2 hn m
  have b4 : SpIf (fun m => ∃ r, m = 46 :: r) (f.rel ++ [40] ++ argsT f.args ++ [41]) ([wdT f.rel] ++ [mkT 40] ++ argsTok f.args ++ [mkT 41]) := SpIf.cat b3 (SpIf.mark 41 (by simp) fun m hm g r e => by
    obtain ⟨r', rfl⟩ := hm
    injection e with e1 e2
    subst e1
    decide) fun m _ => sep41 m
  have b5 : SpIf (fun m => ∃ r, m = 10 :: r) (f.rel ++ [40] ++ argsT f.args ++ [41] ++ [46]) ([wdT f.rel] ++ [mkT 40] ++ argsTok f.args ++ [mkT 41] ++ [mkT 46]) := SpIf.cat b4 (SpIf.mark 46 (by simp) fun m hm g r e => by
    obtain ⟨r', rfl⟩ := hm
    injection e with e1 e2
    subst e1
    decide) fun m _ => ⟨m, rfl⟩
  have b6 := SpIf.cat b5 (SpIf.space 10 (by decide) (P := P)) fun m _ => ⟨m, rfl⟩
  have e1 : factText f = f.rel ++ [40] ++ argsT f.args ++ [41] ++ [46] ++ [10] := by simp [factText]
  have e2 : factT f = [wdT f.rel] ++ [mkT 40] ++ argsTok f.args ++ [mkT 41] ++ [mkT 46] ++ [] := by simp [factT]
  rw [e1, e2]
  exact b6
theorem facts_lex : ∀ (fs : List GFact), (∀ f ∈ fs, OkF f) → SpIf (fun _ => True) (fs.flatMap factText) (fs.flatMap factT)
  | [], _ => SpIf.nil
  | f :: r, h => by
    rw [List.flatMap_cons, List.flatMap_cons]
    exact SpIf.cat (fact_lex (h f List.mem_cons_self) (P := fun _ => True)) (facts_lex r fun x hx => h x (List.mem_cons_of_mem _ hx)) fun _ _ => trivial
theorem facts_scan {fs : List GFact} (h : ∀ f ∈ fs, OkF f) (hl : (fs.flatMap factText).length ≤ 65536) : ∃ us, scan (fs.flatMap factText) = .ok us ∧ bareEq us (fs.flatMap factT) := by
  obtain ⟨q, us, e, b⟩ := facts_lex fs h [] trivial (1, 1)
  refine ⟨us, ?_, b⟩
  rw [List.append_nil, lex_nil] at e
  unfold scan
  rw [if_neg (by omega), e]
  simp [Res.app]
end Go.Proofs.YtmodjokoggmnaaaGreatDoor


namespace Go.Proofs.YtmodjokoggmnaaaGreatDoor
open Go.RowKit Go.Shelf

theorem bare_cons {a : List GTok} {b : GTok} {c : List GTok} (h : a.map GTok.bare = (b :: c).map GTok.bare) : ∃ x xs, a = x :: xs ∧ x.bare = b.bare ∧ xs.map GTok.bare = c.map GTok.bare := by
  cases a with
  | nil => simp at h
  | cons x xs =>
    simp only [List.map_cons, List.cons.injEq] at h
    exact ⟨x, xs, rfl, h.1, h.2⟩
theorem bare_app {a b c : List GTok} (h : a.map GTok.bare = (b ++ c).map GTok.bare) : ∃ x y, a = x ++ y ∧ x.map GTok.bare = b.map GTok.bare ∧ y.map GTok.bare = c.map GTok.bare := by
  rw [List.map_append] at h
  obtain ⟨x, y, h1, h2, h3⟩ := List.map_eq_append_iff.1 h
  exact ⟨x, y, h1, h2, h3⟩
theorem bare_nil {a : List GTok} (h : a.map GTok.bare = ([] : List GTok).map GTok.bare) : a = [] := by simpa using h
theorem bare_parts {x : GTok} {k : Int} {t : List UInt8} {n : Int} (h : x.bare = (⟨k, t, n, 0, 0⟩ : GTok).bare) : x.kind = k ∧ x.text = t ∧ x.value = n := by
  simp only [GTok.bare, Prod.mk.injEq] at h
  exact h
theorem bare_mark {x : GTok} {c : UInt8} (h : x.bare = (mkT c).bare) (s : List UInt8) : tMark s x = decide (s = [c]) := by
  obtain ⟨h1, h2, _⟩ := bare_parts (k := 4) (t := [c]) (n := 0) h
  unfold tMark
  rw [h1, h2]
  simp [eq_comm]
theorem pArg_val {v : GVal} (h : OkV v) (us rest : List GTok) (hu : us.map GTok.bare = (valT v).map GTok.bare) : pArg true (us ++ rest) = (0, v, rest) := by
  have hb := h.2
  rcases val_parts h with ⟨hk, hw, ⟨h1, e1, _⟩ | ⟨h1, e1, _⟩⟩ | ⟨hk, hi, h24, h01, hs, ⟨h1, e1, _⟩ | ⟨h1, e1, _⟩⟩
  all_goals rw [e1] at hu
  · obtain ⟨a, u1, rfl, ha, h2⟩ := bare_cons hu
    obtain ⟨b, u2, rfl, hb2, h3⟩ := bare_cons h2
    obtain rfl := bare_nil h3
    obtain ⟨a1, a2, a3⟩ := bare_parts (k := 4) (t := [45]) (n := 0) ha
    obtain ⟨b1, b2, b3⟩ := bare_parts (k := 2) (t := []) (n := -v.int) hb2
    have he : errArg a = 0 := by unfold errArg; rw [a1, a2]; simp
    show pArg true (a :: b :: rest) = _
    rw [pArg_cons, if_neg (by simp [he]), if_neg (by simp), if_pos a1, pNeg_cons, if_neg (by simp [b1]), if_neg (by rw [b3]; omega), b3]
    obtain ⟨k, n, l⟩ := v
    simp only at hk hw ⊢
    rw [hk, hw, Int.neg_neg]
  · obtain ⟨a, u1, rfl, ha, h2⟩ := bare_cons hu
    obtain rfl := bare_nil h2
    obtain ⟨a1, a2, a3⟩ := bare_parts (k := 2) (t := []) (n := v.int) ha
    have he : errArg a = 0 := by unfold errArg; rw [a1, a3, if_neg (by omega)]; simp
    show pArg true (a :: rest) = _
    rw [pArg_cons, if_neg (by simp [he]), if_neg (by simp), if_neg (by omega), if_pos a1, a3]
    obtain ⟨k, n, l⟩ := v
    simp only at hk hw ⊢
    rw [hk, hw]
  · obtain ⟨a, u1, rfl, ha, h2⟩ := bare_cons hu
    obtain rfl := bare_nil h2
    obtain ⟨a1, a2, a3⟩ := bare_parts (k := 1) (t := v.word) (n := 0) ha
    have hz : sizedP v.word = true := by unfold sizedP; simp [h01, h24]
    have he : errArg a = 0 := by unfold errArg; rw [a1, a2, hz]; simp
    show pArg true (a :: rest) = _
    rw [pArg_cons, if_neg (by simp [he]), if_neg (by simp), if_neg (by omega), if_neg (by omega), a2]
    obtain ⟨k, n, l⟩ := v
    simp only at hk hi ⊢
    rw [hk, hi]
  · obtain ⟨a, u1, rfl, ha, h2⟩ := bare_cons hu
    obtain rfl := bare_nil h2
    obtain ⟨a1, a2, a3⟩ := bare_parts (k := 3) (t := v.word) (n := 0) ha
    have hz : sizedP v.word = true := by unfold sizedP; simp [h01, h24]
    have he : errArg a = 0 := by unfold errArg; rw [a1, a2, hz]; simp
    show pArg true (a :: rest) = _
    rw [pArg_cons, if_neg (by simp [he]), if_neg (by simp), if_neg (by omega), if_neg (by omega), a2]
    obtain ⟨k, n, l⟩ := v
    simp only at hk hi ⊢
    rw [hk, hi]
theorem pArgs_vals : ∀ (vs : List GVal) (v : GVal) (args : List GVal) (n : Nat) (us rest : List GTok), (∀ x ∈ v :: vs, OkV x) → args.length + (v :: vs).length ≤ 8 → us.map GTok.bare = (argsTok (v :: vs) ++ [mkT 41, mkT 46]).map GTok.bare → vs.length < n → pArgs n args (us ++ rest) = (0, args ++ v :: vs, rest)
  | vs, v, args, 0, us, rest, _, _, _, hn => absurd hn (by omega)
  | [], v, args, n + 1, us, rest, hw, hl, hu, _ => by
    have e0 : argsTok [v] ++ [mkT 41, mkT 46] = valT v ++ [mkT 41, mkT 46] := by simp [argsTok]
    rw [e0] at hu
    obtain ⟨u1, u2, rfl, h1, h2⟩ := bare_app hu
    obtain ⟨a, u3, rfl, ha, h3⟩ := bare_cons h2
    obtain ⟨b, u4, rfl, hb, h4⟩ := bare_cons h3
    obtain rfl := bare_nil h4
    have hr : decide (args.length < 8) = true := by simp at hl ⊢; omega
    have hp := pArg_val (hw v List.mem_cons_self) u1 ([a, b] ++ rest) h1
    rw [List.append_assoc]
    unfold pArgs
    rw [hr, hp]
    have m1 : tMark [44] a = false := by rw [bare_mark ha]; decide
    have m2 : tMark [41] a = true := by rw [bare_mark ha]; decide
    have m3 : tMark [46] b = true := by rw [bare_mark hb]; decide
    simp [m1, m2, m3]
  | w :: vs, v, args, n + 1, us, rest, hw, hl, hu, hn => by
    have e0 : argsTok (v :: w :: vs) ++ [mkT 41, mkT 46] = valT v ++ (mkT 44 :: (argsTok (w :: vs) ++ [mkT 41, mkT 46])) := by simp [argsTok]
    rw [e0] at hu
    obtain ⟨u1, u2, rfl, h1, h2⟩ := bare_app hu
    obtain ⟨a, u3, rfl, ha, h3⟩ := bare_cons h2
    have hr : decide (args.length < 8) = true := by simp at hl ⊢; omega
    have hp := pArg_val (hw v List.mem_cons_self) u1 ((a :: u3) ++ rest) h1
    have ih := pArgs_vals vs w (args ++ [v]) n u3 rest (fun x hx => hw x (List.mem_cons_of_mem _ hx)) (by simp at hl ⊢; omega) h3 (by simp at hn; omega)
    rw [List.append_assoc]
    unfold pArgs
    rw [hr, hp]
    have m1 : tMark [44] a = true := by rw [bare_mark ha]; decide
    simp only [List.cons_append, m1, if_true]
    rw [if_neg (by simp), ih]
    simp
theorem pFacts_facts : ∀ (fs l : List GFact) (n : Nat) (us : List GTok) (e : GTok), e.kind = 0 → (∀ f ∈ fs, OkF f) → l.length + fs.length ≤ 8192 → us.map GTok.bare = (fs.flatMap factT).map GTok.bare → fs.length < n → pFacts n l (us ++ [e]) = (0, l ++ fs, [e])
  | fs, l, 0, us, e, _, _, _, _, hn => absurd hn (by omega)
  | [], l, n + 1, us, e, he, _, _, hu, _ => by
    obtain rfl := bare_nil (by simpa using hu)
    show pFacts (n + 1) l (e :: []) = _
    rw [pFacts_step, if_pos he, List.append_nil]
  | f :: fs, l, n + 1, us, e, he, hw, hl, hu, hn => by
    have hf := hw f List.mem_cons_self
    obtain ⟨hwr, h24, ha1, ha8⟩ := okF_parts hf
    obtain ⟨v, vs, hvs⟩ : ∃ v vs, f.args = v :: vs := by
      cases h : f.args with
      | nil => rw [h] at ha1; simp at ha1
      | cons v vs => exact ⟨v, vs, rfl⟩
    have e0 : (f :: fs).flatMap factT = wdT f.rel :: mkT 40 :: ((argsTok f.args ++ [mkT 41, mkT 46]) ++ fs.flatMap factT) := by simp [factT]
    rw [e0] at hu
    obtain ⟨a, u1, rfl, ha, h1⟩ := bare_cons hu
    obtain ⟨b, u2, rfl, hb, h2⟩ := bare_cons h1
    obtain ⟨u3, u4, rfl, h3, h4⟩ := bare_app h2
    obtain ⟨a1, a2, a3⟩ := bare_parts (k := 1) (t := f.rel) (n := 0) ha
    have hsz : sizedP f.rel = true := by
      have h1 : 1 ≤ f.rel.length := by
        cases hr : f.rel with
        | nil => rw [hr] at hwr; cases hwr
        | cons c r => simp
      unfold sizedP; simp [h1, h24]
    have hroom : decide (l.length < 8192) = true := by simp at hl ⊢; omega
    have hrel : pRel true (a :: (b :: (u3 ++ u4) ++ [e])) = (0, f.rel, b :: (u3 ++ u4) ++ [e]) := by
      rw [pRel_cons, if_neg (by simp [a1]), a2, if_neg (by simp [hsz]), if_neg (by simp)]
    have hargs : pArguments (b :: (u3 ++ u4) ++ [e]).length (b :: (u3 ++ u4) ++ [e]) = (0, f.args, u4 ++ [e]) := by
      show (if tMark [40] b then pArgs _ [] (u3 ++ u4 ++ [e]) else _) = _
      rw [bare_mark hb, if_pos (by decide), List.append_assoc, hvs]
      have hlen : vs.length ≤ u3.length := by
        have e3 := congrArg List.length h3
        rw [List.length_map, List.length_map, List.length_append, hvs] at e3
        have e4 : vs.length ≤ (argsTok (v :: vs)).length := by
          have key : ∀ (r : List GVal), r.length ≤ (r.flatMap fun v => mkT 44 :: valT v).length := by
            intro r
            induction r with
            | nil => simp
            | cons x r ih => rw [List.flatMap_cons, List.length_append, List.length_cons, List.length_cons]; omega
          have := key vs
          show _ ≤ (valT v ++ _).length
          rw [List.length_append]
          omega
        simp at e3
        omega
      exact pArgs_vals vs v [] _ u3 (u4 ++ [e]) (by rw [← hvs]; exact hf.2) (by rw [← hvs]; simpa using ha8) (by rw [← hvs]; exact h3) (by simp; omega)
    show pFacts (n + 1) l (a :: (b :: (u3 ++ u4) ++ [e])) = _
    rw [pFacts_step, if_neg (by omega), hroom, hrel]
    simp only
    rw [if_neg (by simp), hargs]
    simp only
    rw [if_neg (by simp)]
    have hfe : (⟨f.rel, f.args⟩ : GFact) = f := rfl
    rw [hfe, pFacts_facts fs (l ++ [f]) n u4 e he (fun x hx => hw x (List.mem_cons_of_mem _ hx)) (by simp at hl ⊢; omega) h4 (by simp at hn; omega)]
    simp
theorem flat_count : ∀ (fs : List GFact), fs.length ≤ (fs.flatMap factT).length
  | [] => by simp
  | f :: r => by
    have := flat_count r
    rw [List.flatMap_cons, List.length_append, List.length_cons]
    have h1 : 1 ≤ (factT f).length := by unfold factT; simp
    omega
theorem pAll_facts {fs : List GFact} (h : ∀ f ∈ fs, OkF f) (hn : fs.length ≤ 8192) (hl : (fs.flatMap factText).length ≤ 65536) : pAll (fs.flatMap factText) = .ok fs := by
  obtain ⟨us, hs, hb⟩ := facts_scan h hl
  have hb2 : (us.map Tok.g).map GTok.bare = (fs.flatMap factT).map GTok.bare := by
    unfold bareEq at hb
    rw [List.map_map]
    exact hb
  have hlen : fs.length ≤ us.length := by
    have := congrArg List.length hb2
    simp only [List.length_map] at this
    have := flat_count fs
    omega
  unfold pAll
  rw [hs]
  simp only
  rw [pFacts_facts fs [] _ (us.map Tok.g) (endTok (fs.flatMap factText)) rfl h (by simpa using hn) hb2 (by simp; omega)]
  simp
end Go.Proofs.YtmodjokoggmnaaaGreatDoor


namespace Go.Proofs.YtmodjokoggmnaaaGreatDoor
open Go.RowKit Go.Shelf

structure TokO (t : GTok) : Prop where
  tok : TokW t
  word : t.kind = 1 → wordB t.text = true
  str : t.kind = 3 → t.text.all isStr = true
def TOs (ts : List GTok) : Prop := ∀ t ∈ ts, t.kind = 0 ∨ TokO t
theorem wb_str (c : UInt8) (h : isWB c = true) : isStr c = true := by
  simp only [isWB, wbI, ltrI, digI, Bool.or_eq_true, decide_eq_true_eq] at h
  simp only [isStr, strI, decide_eq_true_eq]
  omega
theorem word_str {l : List UInt8} (h : wordB l = true) : l.all isStr = true := by
  cases l with
  | nil => rfl
  | cons c r =>
    simp only [wordB, Bool.and_eq_true] at h
    have hc : isWB c = true := by rw [wb_eq, h.1]; rfl
    rw [List.all_cons, wb_str c hc, Bool.true_and]
    exact List.all_eq_true.2 fun x hx => wb_str x (List.all_eq_true.1 h.2 x hx)
theorem first_kinds {l : List UInt8} {kd v n : Nat} {tx : List UInt8} (h : first l = .tok kd tx v n) : (kd = 1 → wordB tx = true) ∧ (kd = 3 → tx.all isStr = true) := by
  cases l with
  | nil => cases h
  | cons c r =>
    unfold first at h
    simp only at h
    split at h
    · split at h
      · cases h
      · cases h
      · injection h with h1 h2 h3 h4
        exact ⟨fun e => by omega, fun e => by omega⟩
    · split at h
      · rename_i hd hw
        injection h with h1 h2 h3 h4
        refine ⟨fun _ => ?_, fun e => by omega⟩
        have hlet : isLet c = true := by
          rw [wb_eq] at hw
          simp at hd
          rw [hd] at hw
          simpa using hw
        have hall : ∀ x ∈ tx, isWB x = true := fun x hx => by rw [← h2] at hx; exact run_all x hx
        cases tx with
        | nil => simp [run, hw] at h2
        | cons d s =>
          have hdc : d = c := by
            simp [run, hw] at h2
            exact h2.1.symm
          subst hdc
          show (isLet d && s.all isWB) = true
          rw [hlet, Bool.true_and]
          exact List.all_eq_true.2 fun x hx => hall x (List.mem_cons_of_mem _ hx)
      · split at h
        · unfold quoted at h
          split at h
          · injection h with h1 h2 h3 h4
            refine ⟨fun e => by omega, fun _ => ?_⟩
            rw [← h2]
            exact List.all_eq_true.2 fun x hx => run_all x hx
          · cases h
        · unfold marked at h
          split at h
          · injection h with h1 h2 h3 h4
            exact ⟨fun e => by omega, fun e => by omega⟩
          · split at h
            · injection h with h1 h2 h3 h4
              exact ⟨fun e => by omega, fun e => by omega⟩
            · cases h
theorem step_kinds {l : List UInt8} {kd v n : Nat} {tx : List UInt8} (h : step l = .tok kd tx v n) : (kd = 1 → wordB tx = true) ∧ (kd = 3 → tx.all isStr = true) := by
  cases l with
  | nil => cases h
  | cons c r =>
    unfold step at h
    simp only at h
    split at h
    · cases h
    · split at h
      · cases h
      · exact first_kinds h
theorem lex_kinds : ∀ (l : List UInt8) (k : Nat) (p : Nat × Nat) (ts : List Tok), lex k p l = .ok ts → ∀ t ∈ ts, (t.kind = 1 → wordB t.text = true) ∧ (t.kind = 3 → t.text.all isStr = true)
  | [], k, p, ts, h => by
    rw [lex_nil] at h
    injection h with h
    subst h
    intro t ht
    cases ht
  | c :: r, k + 1, p, ts, h => by
    rw [lex] at h
    exact lex_kinds r k _ ts h
  | c :: r, 0, p, ts, h => by
    rw [lex] at h
    cases hs : step (c :: r) with
    | skip n =>
      rw [hs] at h
      exact lex_kinds r _ _ ts h
    | tok kd tx v n =>
      rw [hs] at h
      simp only at h
      cases hl : lex (n - 1) (adv1 p c) r with
      | ok us =>
        rw [hl] at h
        injection h with h
        subst h
        intro t ht
        rcases List.mem_cons.1 ht with rfl | ht
        · exact step_kinds hs
        · exact lex_kinds r _ _ us hl t ht
      | no x y e => rw [hl] at h; cases h
    | err e => rw [hs] at h; cases h
theorem scan_kinds {l : List UInt8} {ts : List Tok} (h : scan l = .ok ts) : TOs (ts.map Tok.g ++ [endTok l]) ∧ ts.length ≤ l.length := by
  have hl : lex 0 (1, 1) l = .ok ts := by
    unfold scan at h
    split at h
    · cases h
    · exact h
  refine ⟨fun t ht => ?_, lex_count l 0 _ ts hl⟩
  rcases List.mem_append.1 ht with ht | ht
  · right
    obtain ⟨u, hu, rfl⟩ := List.mem_map.1 ht
    obtain ⟨h1, h2⟩ := lex_kinds l 0 _ ts hl u hu
    refine ⟨(scan_tokB h).2 u hu, fun e => h1 ?_, fun e => h2 ?_⟩
    · have : (u.kind : Int) = 1 := e; omega
    · have : (u.kind : Int) = 3 := e; omega
  · left
    simp at ht
    subst ht
    rfl
theorem TOs.tail {t : GTok} {ts : List GTok} (h : TOs (t :: ts)) : TOs ts := fun x hx => h x (List.mem_cons_of_mem _ hx)
theorem TOs.hd {t : GTok} {ts : List GTok} (h : TOs (t :: ts)) (hk : t.kind ≠ 0) : TokO t := (h t List.mem_cons_self).resolve_left hk
theorem pNeg_ok {ts : List GTok} {v : GVal} {rest : List GTok} (h : TOs ts) (e : pNeg ts = (0, v, rest)) : OkV v ∧ TOs rest ∧ rest.length + 1 ≤ ts.length := by
  cases ts with
  | nil => unfold pNeg at e; cases e
  | cons t ts =>
    rw [pNeg_cons] at e
    split at e
    · cases e
    · rename_i hk
      split at e
      · cases e
      · rename_i hv
        injection e with e1 e2
        injection e2 with e2 e3
        subst e2 e3
        have ht := h.hd (by omega)
        have := ht.tok.low
        refine ⟨⟨by simp [gwfV], ?_, ?_⟩, h.tail, by simp⟩
        · show _ ≤ -t.value; omega
        · show -t.value ≤ _; omega
theorem pArg_ok {room : Bool} {ts : List GTok} {v : GVal} {rest : List GTok} (h : TOs ts) (e : pArg room ts = (0, v, rest)) : OkV v ∧ TOs rest ∧ rest.length + 1 ≤ ts.length ∧ room = true := by
  cases ts with
  | nil => unfold pArg at e; cases e
  | cons t ts =>
    rw [pArg_cons] at e
    split at e
    · rename_i hne
      injection e with e1 e2
      exact absurd e1 hne
    · rename_i hne
      have he : errArg t = 0 := by simpa using hne
      split at e
      · cases e
      · rename_i hr
        have hroom : room = true := by simpa using hr
        split at e
        · obtain ⟨h1, h2, h3⟩ := pNeg_ok h.tail e
          exact ⟨h1, h2, by simp; omega, hroom⟩
        · rename_i hk4
          have h0 : t.kind ≠ 0 := fun h0 => by rw [errArg_zero h0] at he; cases he
          have ht := h.hd h0
          have hlow := ht.tok.low
          split at e
          · rename_i hk2
            injection e with e1 e2
            injection e2 with e2 e3
            subst e2 e3
            have hv : ¬ (9223372036854775807 < t.value) := fun hv => by
              unfold errArg at he
              rw [if_pos ⟨hk2, hv⟩] at he
              cases he
            refine ⟨⟨by simp [gwfV], ?_, ?_⟩, h.tail, by simp, hroom⟩
            · show _ ≤ t.value; omega
            · show t.value ≤ _; omega
          · rename_i hk2
            injection e with e1 e2
            injection e2 with e2 e3
            subst e2 e3
            have hk13 : t.kind = 1 ∨ t.kind = 3 := by rcases ht.tok.kind with h | h | h | h <;> first | omega
            have hsz : sizedP t.text = true := by
              cases hs : sizedP t.text with
              | true => rfl
              | false =>
                unfold errArg at he
                rw [if_neg (by omega), if_pos ⟨hk13, hs⟩] at he
                cases he
            have hst : t.text.all isStr = true := by
              rcases hk13 with hk | hk
              · exact word_str (ht.word hk)
              · exact ht.str hk
            refine ⟨⟨?_, by show _ ≤ (0 : Int); omega, by show (0 : Int) ≤ _; omega⟩, h.tail, by simp, hroom⟩
            show gwfV ⟨2, 0, t.text⟩ = true
            unfold gwfV
            have : sizedB t.text = true := hsz
            simp [this, hst]
theorem pArgs_ok : ∀ (n : Nat) (args : List GVal) (ts : List GTok) (vs : List GVal) (rest : List GTok), TOs ts → (∀ v ∈ args, OkV v) → pArgs n args ts = (0, vs, rest) → (∀ v ∈ vs, OkV v) ∧ TOs rest ∧ vs.length + rest.length ≤ args.length + ts.length ∧ 1 ≤ vs.length ∧ vs.length ≤ 8
  | 0, args, ts, vs, rest, _, _, e => by unfold pArgs at e; cases e
  | n + 1, args, ts, vs, rest, h, ha, e => by
    unfold pArgs at e
    obtain ⟨pe, pv, pr⟩ : ∃ q : Int × GVal × List GTok, q = pArg (decide (args.length < 8)) ts := ⟨_, rfl⟩
    generalize hq : pArg (decide (args.length < 8)) ts = q at e
    obtain ⟨qe, qv, qr⟩ := q
    simp only at e
    split at e
    · rename_i hne
      injection e with e1 e2
      exact absurd e1 hne
    · rename_i hne
      have hqe : qe = 0 := by simpa using hne
      subst hqe
      obtain ⟨h1, h2, h3, h4⟩ := pArg_ok h hq
      have h8 : args.length < 8 := by simpa using h4
      have ha2 : ∀ v ∈ args ++ [qv], OkV v := fun v hv => by
        rcases List.mem_append.1 hv with hv | hv
        · exact ha v hv
        · simp at hv; subst hv; exact h1
      split at e
      · cases e
      · rename_i t ts2
        split at e
        · obtain ⟨g1, g2, g3, g4, g5⟩ := pArgs_ok n (args ++ [qv]) ts2 vs rest h2.tail ha2 e
          refine ⟨g1, g2, ?_, g4, g5⟩
          simp at g3 h3
          omega
        · split at e
          · cases e
          · split at e
            · cases e
            · rename_i u ts3
              split at e
              · injection e with e1 e2
                injection e2 with e2 e3
                subst e2 e3
                refine ⟨ha2, h2.tail.tail, ?_, by simp, by simp; omega⟩
                simp at h3 ⊢
                omega
              · cases e
def weight (fs : List GFact) : Nat := (fs.map fun f => 1 + f.args.length).sum
theorem weight_cons (f : GFact) (r : List GFact) : weight (f :: r) = 1 + f.args.length + weight r := by unfold weight; simp
theorem weight_app (a b : List GFact) : weight (a ++ b) = weight a + weight b := by unfold weight; simp
theorem weight_sub : ∀ (a b : List GFact), a.Nodup → (∀ x ∈ a, x ∈ b) → weight a ≤ weight b
  | [], b, _, _ => by unfold weight; simp
  | x :: r, b, hn, hs => by
    obtain ⟨b1, b2, rfl⟩ := List.append_of_mem (hs x List.mem_cons_self)
    rw [List.nodup_cons] at hn
    have ih := weight_sub r (b1 ++ b2) hn.2 fun y hy => by
      have := hs y (List.mem_cons_of_mem _ hy)
      rcases List.mem_append.1 this with h | h
      · exact List.mem_append.2 (.inl h)
      · rcases List.mem_cons.1 h with rfl | h
        · exact absurd hy hn.1
        · exact List.mem_append.2 (.inr h)
    rw [weight_app] at ih
    rw [weight_cons, weight_app, weight_cons]
    omega
theorem pRel_ok {room : Bool} {t : GTok} {r : List GTok} {nm : List UInt8} {rest : List GTok} (e : pRel room (t :: r) = (0, nm, rest)) : t.kind = 1 ∧ sizedP t.text = true ∧ t.text = nm ∧ r = rest := by
  rw [pRel_cons] at e
  split at e
  · cases e
  · rename_i hk
    split at e
    · cases e
    · rename_i hs
      split at e
      · cases e
      · injection e with e1 e2
        injection e2 with e2 e3
        exact ⟨by simpa using hk, by simpa using hs, e2, e3⟩
theorem pFacts_ok : ∀ (n : Nat) (l : List GFact) (ts : List GTok) (fs : List GFact) (rest : List GTok), TOs ts → (∀ f ∈ l, OkF f) → pFacts n l ts = (0, fs, rest) → (∀ f ∈ fs, OkF f) ∧ weight fs + rest.length ≤ weight l + ts.length
  | 0, l, ts, fs, rest, _, _, e => by unfold pFacts at e; cases e
  | n + 1, l, [], fs, rest, _, hl, e => by
    unfold pFacts at e
    injection e with e1 e2
    injection e2 with e2 e3
    subst e2 e3
    exact ⟨hl, Nat.le_refl _⟩
  | n + 1, l, t :: r, fs, rest, h, hl, e => by
    rw [pFacts_step] at e
    split at e
    · injection e with e1 e2
      injection e2 with e2 e3
      subst e2 e3
      exact ⟨hl, Nat.le_refl _⟩
    · rename_i hk
      have ht := h.hd hk
      generalize hp : pRel (decide (l.length < 8192)) (t :: r) = pr at e
      obtain ⟨pe, pn, pt⟩ := pr
      simp only at e
      split at e
      · rename_i hne
        injection e with e1 e2
        exact absurd e1 hne
      · rename_i hne
        have he0 : pe = 0 := by simpa using hne
        subst he0
        obtain ⟨hk1, hsz, rfl, rfl⟩ := pRel_ok hp
        generalize hq : pArguments r.length r = q at e
        obtain ⟨qe, qv, qr⟩ := q
        simp only at e
        split at e
        · rename_i hne2
          injection e with e1 e2
          exact absurd e1 hne2
        · rename_i hne2
          have hp0 : qe = 0 := by simpa using hne2
          subst hp0
          cases r with
          | nil => unfold pArguments at hq; cases hq
          | cons u r2 =>
            have hq2 : (if tMark [40] u then pArgs (u :: r2).length [] r2 else (50, [], u :: r2)) = (0, qv, qr) := hq
            split at hq2
            · obtain ⟨g1, g2, g3, g4, g5⟩ := pArgs_ok _ [] r2 qv qr h.tail.tail (fun v hv => by cases hv) hq2
              have hf : OkF ⟨t.text, qv⟩ := by
                refine ⟨?_, g1⟩
                have hw := ht.word hk1
                have h24 : t.text.length ≤ 24 := by unfold sizedP at hsz; simp at hsz; omega
                simp only [gwfF, nameB, hw, h24, g4, g5]
                simp
                exact fun v hv => (g1 v hv).1
              obtain ⟨f1, f2⟩ := pFacts_ok n (l ++ [⟨t.text, qv⟩]) qr fs rest g2 (fun f hf2 => by
                rcases List.mem_append.1 hf2 with hf2 | hf2
                · exact hl f hf2
                · simp at hf2; subst hf2; exact hf) e
              refine ⟨f1, ?_⟩
              rw [weight_app, weight_cons] at f2
              have e0 : weight [] = 0 := rfl
              simp only [e0, List.length_nil, List.length_cons] at *
              omega
            · cases hq2
theorem pAll_ok {l : List UInt8} {fs : List GFact} (h : pAll l = .ok fs) : (∀ f ∈ fs, OkF f) ∧ weight fs ≤ l.length + 1 := by
  unfold pAll at h
  cases hs : scan l with
  | no x y e => rw [hs] at h; cases h
  | ok toks =>
    rw [hs] at h
    simp only at h
    obtain ⟨h1, h2⟩ := scan_kinds hs
    generalize hq : pFacts (toks.map Tok.g ++ [endTok l]).length [] (toks.map Tok.g ++ [endTok l]) = q at h
    obtain ⟨qe, qf, qt⟩ := q
    simp only at h
    by_cases he : qe = 0
    · rw [if_pos he] at h
      injection h with h
      subst h he
      obtain ⟨f1, f2⟩ := pFacts_ok _ [] _ qf qt h1 (fun f hf => by cases hf) hq
      refine ⟨f1, ?_⟩
      have e0 : weight [] = 0 := rfl
      rw [e0] at f2
      simp at f2
      omega
    · rw [if_neg he] at h
      cases qt with
      | nil => cases h
      | cons t r => cases h
theorem val_len {v : GVal} (h : OkV v) : (vtextL v).length ≤ 26 := by
  have hb := h.2
  rcases val_parts h with ⟨_, _, ⟨h1, _, e⟩ | ⟨h1, _, e⟩⟩ | ⟨_, _, h24, _, _, ⟨h1, _, e⟩ | ⟨h1, _, e⟩⟩
  · rw [e, nu_txt, List.length_append]
    have := (isDec (-v.int).toNat (by omega)).len
    simp; omega
  · rw [e, nu_txt]
    have := (isDec v.int.toNat (by omega)).len
    omega
  · rw [e]; simp [txt, wdT]; omega
  · rw [e]; simp [txt, stT]; omega
theorem args_len28 : ∀ (vs : List GVal), (∀ v ∈ vs, OkV v) → (argsT vs).length ≤ vs.length * 28 := by
  have key : ∀ (vs : List GVal), (∀ v ∈ vs, OkV v) → (vs.flatMap fun v => 44 :: 32 :: vtextL v).length ≤ vs.length * 28 := by
    intro vs
    induction vs with
    | nil => intro _; simp
    | cons v r ih =>
      intro h
      have h1 := val_len (h v List.mem_cons_self)
      have h2 := ih fun x hx => h x (List.mem_cons_of_mem _ hx)
      rw [List.flatMap_cons, List.length_append, List.length_cons, List.length_cons, List.length_cons]
      omega
  intro vs h
  cases vs with
  | nil => simp [argsT]
  | cons v r =>
    have h1 := val_len (h v List.mem_cons_self)
    have h2 := key r fun x hx => h x (List.mem_cons_of_mem _ hx)
    show (vtextL v ++ _).length ≤ _
    rw [List.length_append, List.length_cons]
    omega
theorem facts_len : ∀ (fs : List GFact), (∀ f ∈ fs, OkF f) → (fs.flatMap factText).length ≤ weight fs * 28
  | [], _ => by simp
  | f :: r, h => by
    have h1 := facts_len r fun x hx => h x (List.mem_cons_of_mem _ hx)
    have hf := h f List.mem_cons_self
    obtain ⟨_, h24, _, _⟩ := okF_parts hf
    have h2 := args_len28 f.args hf.2
    rw [List.flatMap_cons, List.length_append, weight_cons]
    have h3 : (factText f).length ≤ 28 + f.args.length * 28 := by unfold factText; simp; omega
    rw [Nat.add_mul, Nat.add_mul]
    omega
theorem weight_count (fs : List GFact) : fs.length ≤ weight fs := by
  induction fs with
  | nil => simp
  | cons f r ih => rw [weight_cons, List.length_cons]; omega
theorem fmtT_ok {fs : List GFact} (h : ∀ f ∈ fs, OkF f) : fmtT fs = fs.flatMap factText := by
  unfold fmtT
  rw [if_pos (List.all_eq_true.2 fun f hf => (h f hf).1)]
/-- The text of well-formed facts, few enough, is parsed asx these facts. -/
theorem pAll_fmt {fs : List GFact} (h : ∀ f ∈ fs, OkF f) (hw : weight fs ≤ 2340) : pAll (fmtT fs) = .ok fs ∧ (fmtT fs).length ≤ 65536 := by
  have hl := facts_len fs h
  have hc := weight_count fs
  rw [fmtT_ok h]
  have hl2 : (fs.flatMap factText).length ≤ 65536 := by omega
  exact ⟨pAll_facts h (by omega) hl2, hl2⟩
/-- What is parsed of a text of at most 2000 bytes: its set has a text that is parsed asx the same set. -/
theorem back_ok {l : List UInt8} {fs fs' : List GFact} (h : pAll l = .ok fs) (hl : l.length ≤ 2000) (hs : StrictF fs') (hm : ∀ f, f ∈ fs' ↔ f ∈ fs) : (∀ f ∈ fs', OkF f) ∧ pAll (fmtT fs') = .ok fs' ∧ (fmtT fs').length ≤ 65536 ∧ fs'.length ≤ 2340 := by
  obtain ⟨h1, h2⟩ := pAll_ok h
  have h3 : ∀ f ∈ fs', OkF f := fun f hf => h1 f ((hm f).1 hf)
  have h4 := weight_sub fs' fs (strict_count hs) fun f hf => (hm f).1 hf
  obtain ⟨h5, h6⟩ := pAll_fmt h3 (by omega)
  have := weight_count fs'
  exact ⟨h3, h5, h6, by omega⟩
end Go.Proofs.YtmodjokoggmnaaaGreatDoor
