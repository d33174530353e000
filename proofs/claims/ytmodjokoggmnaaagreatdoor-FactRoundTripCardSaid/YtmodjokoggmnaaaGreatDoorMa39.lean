/-
  Texts of tokens with white space and comments between them are scanned as these tokens. Plain mathematics.
  Conditions: a number's value is less than 2^64.
  The text of well-formed facts is scanned as their tokens. Plain mathematics.
  Conditions: the numbers are numbers of 64 bits.
  The tokens of well-formed facts are parsed as these facts. Plain mathematics.
  Conditions: the numbers are numbers of 64 bits.
-/
import Derived.Test.YtmodjokoggmnaaaGreatDoorMa11
import Derived.Test.YtmodjokoggmnaaaGreatDoorMa27
import Derived.Test.YtmodjokoggmnaaaGreatDoorMa16
import Derived.Test.YtmodjokoggmnaaaGreatDoorMa37
namespace Go.Proofs.YtmodjokoggmnaaaGreatDoor

open Go.RowKit Go.Shelf

def gapsL : List (List UInt8) := [[32], [10], [9, 13, 10], [32, 35, 32, 97, 32, 99, 111, 109, 109, 101, 110, 116, 32, 34, 32, 123, 32, 10], [35, 10, 35, 10], [32, 32, 9]]
def gapL (k : Nat) : List UInt8 := gapsL.getD k []
theorem lex_s (b : UInt8) (hb : isSp b = true) (m : List UInt8) (p : Nat × Nat) : lex 0 p (b :: m) = lex 0 (adv p [b]) m := by
  have h : step (b :: m) = .skip 1 := by simp [step, hb]
  rw [lex_sk p (by simp) h]; rfl
theorem lex_c (c : List UInt8) (hc : c.all notNl = true) (m : List UInt8) (p : Nat × Nat) : ∃ q, lex 0 p (35 :: (c ++ 10 :: m)) = lex 0 q m := by
  have hr : run notNl ((35 :: c) ++ 10 :: m) = (35 :: c).length := run_sep notNl (35 :: c) (10 :: m) (by rw [List.all_cons, hc]; rfl) (.inr ⟨10, m, rfl, by decide⟩)
  have h : step ((35 :: c) ++ 10 :: m) = .skip (run notNl ((35 :: c) ++ 10 :: m)) := rfl
  rw [hr] at h
  have e : lex 0 p ((35 :: c) ++ 10 :: m) = lex 0 (adv (adv p (((35 :: c) ++ 10 :: m).take (35 :: c).length)) [10]) m := by
    rw [lex_sk p (by simp) h, List.drop_left, lex_s 10 (by decide)]
  exact ⟨_, e⟩
theorem lex_end (p : Nat × Nat) : lex 0 p [35, 32, 116, 104, 101, 32, 101, 110, 100] = .ok [] := by
  have h : step [35, 32, 116, 104, 101, 32, 101, 110, 100] = .skip 9 := by decide
  rw [lex_sk p (by simp) h]; rfl
theorem lex_gap (k : Nat) (hk : k < 6) (m : List UInt8) (p : Nat × Nat) : ∃ q, lex 0 p (gapL k ++ m) = lex 0 q m := by
  obtain rfl | rfl | rfl | rfl | rfl | rfl : k = 0 ∨ k = 1 ∨ k = 2 ∨ k = 3 ∨ k = 4 ∨ k = 5 := by omega
  · exact ⟨_, lex_s 32 (by decide) m p⟩
  · exact ⟨_, lex_s 10 (by decide) m p⟩
  · exact ⟨_, (lex_s 9 (by decide) _ p).trans ((lex_s 13 (by decide) _ _).trans (lex_s 10 (by decide) m _))⟩
  · obtain ⟨q, hq⟩ := lex_c [32, 97, 32, 99, 111, 109, 109, 101, 110, 116, 32, 34, 32, 123, 32] (by decide) m (adv p [32])
    exact ⟨q, (lex_s 32 (by decide) _ p).trans hq⟩
  · obtain ⟨q, hq⟩ := lex_c [] rfl (35 :: ([] ++ 10 :: m)) p
    obtain ⟨q2, hq2⟩ := lex_c [] rfl m q
    exact ⟨q2, hq.trans hq2⟩
  · exact ⟨_, (lex_s 32 (by decide) _ p).trans ((lex_s 32 (by decide) _ _).trans (lex_s 9 (by decide) m _))⟩
theorem sep_gap (k : Nat) (hk : k < 6) (m : List UInt8) : Sep (gapL k ++ m) := by
  obtain rfl | rfl | rfl | rfl | rfl | rfl : k = 0 ∨ k = 1 ∨ k = 2 ∨ k = 3 ∨ k = 4 ∨ k = 5 := by omega
  all_goals exact .inr ⟨_, _, rfl, by decide, by decide, by decide, by decide⟩
theorem gap_len (k : Nat) (hk : k < 6) : (gapL k).length ≤ 18 := by
  obtain rfl | rfl | rfl | rfl | rfl | rfl : k = 0 ∨ k = 1 ∨ k = 2 ∨ k = 3 ∨ k = 4 ∨ k = 5 := by omega
  all_goals decide
/-- The text T is scanned asx the tokens ts, whatever follows. -/
def SpInv (T : List UInt8) (ts : List GTok) : Prop := ∀ (m : List UInt8) (p : Nat × Nat), ∃ q us, lex 0 p (T ++ m) = (lex 0 q m).app us ∧ bareEq us ts
theorem SpInv.start (k : Nat) (hk : k < 6) : SpInv (gapL k) [] := fun m p => by
  obtain ⟨q, hq⟩ := lex_gap k hk m p
  exact ⟨q, [], by rw [hq, app_nil], rfl⟩
theorem SpInv.go {T : List UInt8} {ts : List GTok} (h : SpInv T ts) (t : GTok) (hw : wf t = true) (hv0 : 0 ≤ t.value) (hv : t.value < 18446744073709551616) (k : Nat) (hk : k < 6) : SpInv (T ++ txt t ++ gapL k) (ts ++ [t]) := fun m p => by
  obtain ⟨q, us, hl, hb⟩ := h (txt t ++ (gapL k ++ m)) p
  obtain ⟨q2, u, hu, hl2⟩ := lex_txt t hw hv0 hv (gapL k ++ m) (sep_gap k hk m) q
  obtain ⟨q3, hl3⟩ := lex_gap k hk m q2
  refine ⟨q3, us ++ [u], ?_, ?_⟩
  · rw [List.append_assoc, List.append_assoc, hl, hl2, hl3, app_cons]
  · unfold bareEq at hb ⊢
    rw [List.map_append, List.map_append, hb]
    simp [hu]
theorem SpInv.fin {T : List UInt8} {ts : List GTok} (h : SpInv T ts) (p : Nat × Nat) : ∃ us, lex 0 p (T ++ [35, 32, 116, 104, 101, 32, 101, 110, 100]) = .ok us ∧ bareEq us ts := by
  obtain ⟨q, us, hl, hb⟩ := h [35, 32, 116, 104, 101, 32, 101, 110, 100] p
  exact ⟨us, by rw [hl, lex_end]; simp [Res.app], hb⟩
end Go.Proofs.YtmodjokoggmnaaaGreatDoor


namespace Go.Proofs.YtmodjokoggmnaaaGreatDoor
open Go.RowKit Go.Shelf

def mkT (c : UInt8) : GTok := ⟨4, [c], 0, 0, 0⟩
def wdT (l : List UInt8) : GTok := ⟨1, l, 0, 0, 0⟩
def nuT (n : Int) : GTok := ⟨2, [], n, 0, 0⟩
def stT (l : List UInt8) : GTok := ⟨3, l, 0, 0, 0⟩
def valT (v : GVal) : List GTok := if v.kind = 1 then (if v.int < 0 then [mkT 45, nuT (-v.int)] else [nuT v.int]) else if nameB v.word then [wdT v.word] else [stT v.word]
def argsTok : List GVal → List GTok
  | [] => []
  | v :: r => valT v ++ r.flatMap fun v => mkT 44 :: valT v
def factT (f : GFact) : List GTok := wdT f.rel :: mkT 40 :: (argsTok f.args ++ [mkT 41, mkT 46])
/-- A value that is well formed, its number one of 64 bits. -/
def OkV (v : GVal) : Prop := gwfV v = true ∧ -9223372036854775808 ≤ v.int ∧ v.int ≤ 9223372036854775807
def OkF (f : GFact) : Prop := gwfF f = true ∧ ∀ v ∈ f.args, OkV v
/-- The text T is scanned asx the tokens ts, wherever what follows is asx P says. -/
def SpIf (P : List UInt8 → Prop) (T : List UInt8) (ts : List GTok) : Prop := ∀ m, P m → ∀ p, ∃ q us, lex 0 p (T ++ m) = (lex 0 q m).app us ∧ bareEq us ts
theorem app_app (r : Res) (a b : List Tok) : (r.app a).app b = r.app (b ++ a) := by cases r <;> simp [Res.app]
theorem SpIf.cat {P Q : List UInt8 → Prop} {T T2 : List UInt8} {ts ts2 : List GTok} (h1 : SpIf P T ts) (h2 : SpIf Q T2 ts2) (h : ∀ m, Q m → P (T2 ++ m)) : SpIf Q (T ++ T2) (ts ++ ts2) := fun m hm p => by
  obtain ⟨q, us, e1, b1⟩ := h1 (T2 ++ m) (h m hm) p
  obtain ⟨q2, us2, e2, b2⟩ := h2 m hm q
  refine ⟨q2, us ++ us2, ?_, ?_⟩
  · rw [List.append_assoc, e1, e2, app_app]
  · unfold bareEq at *
    rw [List.map_append, List.map_append, b1, b2]
theorem SpIf.mono {P Q : List UInt8 → Prop} {T : List UInt8} {ts : List GTok} (h : SpIf P T ts) (hq : ∀ m, Q m → P m) : SpIf Q T ts := fun m hm p => h m (hq m hm) p
theorem SpIf.nil {P : List UInt8 → Prop} : SpIf P [] [] := fun m _ p => ⟨p, [], by rw [app_nil]; rfl, rfl⟩
theorem SpIf.tok (t : GTok) (h : wf t = true) (hv0 : 0 ≤ t.value) (hv : t.value < 18446744073709551616) : SpIf Sep (txt t) [t] := fun m hm p => by
  obtain ⟨q, u, hu, hl⟩ := lex_txt t h hv0 hv m hm p
  refine ⟨q, [u], ?_, ?_⟩
  · rw [hl]; cases lex 0 q m <;> rfl
  · unfold bareEq; simp [hu]
theorem SpIf.space (b : UInt8) (hb : isSp b = true) {P : List UInt8 → Prop} : SpIf P [b] [] := fun m _ p => by
  refine ⟨adv p [b], [], ?_, rfl⟩
  rw [app_nil]
  exact lex_s b hb m p
/-- What comes next cannot make a mark longer. -/
def Front (m : List UInt8) : Prop := ∃ g r, m = g :: r ∧ g ≠ 61 ∧ g ≠ 46 ∧ g ≠ 62
theorem SpIf.mark (c : UInt8) (hc : c = 40 ∨ c = 41 ∨ c = 44 ∨ c = 45 ∨ c = 46) {P : List UInt8 → Prop} (hP : ∀ m, P m → ∀ g r, m = g :: r → punct [c, g] = false) : SpIf P [c] [mkT c] := fun m hm p => by
  have hs : step ([c] ++ m) = .tok 4 [c] 0 1 := by
    have e : step ([c] ++ m) = marked ([c] ++ m) := by
      rcases hc with rfl | rfl | rfl | rfl | rfl <;> rfl
    rw [e]
    unfold marked
    have h1 : punct (([c] ++ m).take 1) = true := by
      rcases hc with rfl | rfl | rfl | rfl | rfl <;> rfl
    have h2 : ¬ (1 < ([c] ++ m).length ∧ punct (([c] ++ m).take 2) = true) := by
      rintro ⟨hl, hp⟩
      cases m with
      | nil => simp at hl
      | cons g r =>
        have := hP _ hm g r rfl
        have e2 : ([c] ++ g :: r).take 2 = [c, g] := rfl
        rw [e2, this] at hp
        cases hp
    rw [if_neg h2, if_pos h1]
    rfl
  refine ⟨adv p ([c] ++ m |>.take 1), [⟨4, [c], 0, p.1, p.2⟩], ?_, rfl⟩
  rw [lex_tk p (by simp) hs]
  have : ([c] ++ m).drop 1 = m := rfl
  rw [this]
  cases lex 0 (adv p (([c] ++ m).take 1)) m <;> rfl
theorem punct_front (c : UInt8) {m : List UInt8} (hm : Front m) : ∀ g r, m = g :: r → punct [c, g] = false := by
  obtain ⟨g, r, rfl, h1, h2, h3⟩ := hm
  rintro g' r' e
  injection e with e1 e2
  subst e1
  cases h : punct [c, g] with
  | false => rfl
  | true =>
    unfold punct at h
    simp [marks2] at h
    rcases h with h | h | h | h | h <;> first | exact absurd h.2 h1 | exact absurd h.2 h2 | exact absurd h.2 h3
theorem Front.app {a : List UInt8} (h : Front a) (m : List UInt8) : Front (a ++ m) := by
  obtain ⟨g, r, rfl, h⟩ := h
  exact ⟨g, r ++ m, rfl, h⟩
theorem Sep.front {m : List UInt8} (h : Sep m) (hn : m ≠ []) : Front m := by
  rcases h with h | ⟨g, r, h, _, h2⟩
  · exact absurd h hn
  · exact ⟨g, r, h, h2⟩
theorem dec_front (x : Nat) (hx : x < 18446744073709551616) : Front (decL x) := by
  have hd := isDec x hx
  have hall := hd.all
  obtain ⟨c, r, hc⟩ := List.exists_cons_of_ne_nil hd.ne
  rw [hc] at hall ⊢
  rw [List.all_cons, Bool.and_eq_true] at hall
  refine ⟨c, r, rfl, ?_, ?_, ?_⟩ <;> (rintro rfl; exact absurd hall.1 (by decide))
theorem nu_txt (n : Int) : txt (nuT n) = decL n.toNat := rfl
theorem itoa_text (n : Int) : Lib.itoa n = if n < 0 then 45 :: decL (-n).toNat else decL n.toNat := by
  unfold Lib.itoa
  by_cases h : n < 0
  · rw [if_pos h, if_pos h, dec_eq _ _ (Nat.le_refl _), show (-n).toNat = n.natAbs by omega]
  · rw [if_neg h, if_neg h, dec_eq _ _ (Nat.le_refl _), show n.toNat = n.natAbs by omega]
theorem val_parts {v : GVal} (h : OkV v) : (v.kind = 1 ∧ v.word = [] ∧ ((v.int < 0 ∧ valT v = [mkT 45, nuT (-v.int)] ∧ vtextL v = [45] ++ txt (nuT (-v.int))) ∨ (0 ≤ v.int ∧ valT v = [nuT v.int] ∧ vtextL v = txt (nuT v.int)))) ∨
    (v.kind = 2 ∧ v.int = 0 ∧ v.word.length ≤ 24 ∧ 1 ≤ v.word.length ∧ v.word.all isStr = true ∧ ((wordB v.word = true ∧ valT v = [wdT v.word] ∧ vtextL v = txt (wdT v.word)) ∨ (wordB v.word = false ∧ valT v = [stT v.word] ∧ vtextL v = txt (stT v.word)))) := by
  obtain ⟨k, n, l⟩ := v
  obtain ⟨hg, h0, h1⟩ := h
  unfold gwfV at hg
  unfold valT vtextL
  simp only at *
  by_cases hk : k = 1
  · left
    rw [if_pos hk] at hg ⊢
    rw [if_pos hk]
    refine ⟨hk, by simpa using hg, ?_⟩
    rw [itoa_text]
    by_cases hn : n < 0
    · left
      rw [if_pos hn, if_pos hn]
      exact ⟨hn, rfl, rfl⟩
    · right
      rw [if_neg hn, if_neg hn]
      exact ⟨by omega, rfl, rfl⟩
  · right
    rw [if_neg hk] at hg ⊢
    rw [if_neg hk]
    by_cases h2 : k = 2
    · rw [if_pos h2] at hg
      simp only [Bool.and_eq_true, decide_eq_true_eq] at hg
      obtain ⟨⟨hi, hs⟩, ha⟩ := hg
      have h24 : l.length ≤ 24 := by unfold sizedB at hs; simp at hs; omega
      have h01 : 1 ≤ l.length := by unfold sizedB at hs; simp at hs; omega
      have hnb : nameB l = wordB l := by simp [nameB, h24]
      rw [hnb]
      refine ⟨h2, hi, h24, h01, ha, ?_⟩
      cases hw : wordB l
      · right
        refine ⟨rfl, by simp, ?_⟩
        unfold quoteL
        simp [ha, txt, stT]
      · left
        exact ⟨rfl, by simp, by simp [txt, wdT]⟩
    · rw [if_neg h2] at hg; cases hg
theorem word_front {l : List UInt8} (h : wordB l = true) : Front l := by
  cases l with
  | nil => cases h
  | cons c r =>
    simp only [wordB, Bool.and_eq_true] at h
    refine ⟨c, r, rfl, ?_, ?_, ?_⟩ <;> (rintro rfl; exact absurd h.1 (by decide))
theorem val_front {v : GVal} (h : OkV v) : Front (vtextL v) := by
  have hb := h.2
  rcases val_parts h with ⟨_, _, ⟨h1, _, e⟩ | ⟨h1, _, e⟩⟩ | ⟨_, _, _, _, _, ⟨h1, _, e⟩ | ⟨h1, _, e⟩⟩
  · rw [e]; exact ⟨45, _, rfl, by decide, by decide, by decide⟩
  · rw [e, nu_txt]; exact dec_front _ (by omega)
  · rw [e]; exact word_front h1
  · rw [e]; exact ⟨34, _, rfl, by decide, by decide, by decide⟩
theorem val_lex {v : GVal} (h : OkV v) : SpIf Sep (vtextL v) (valT v) := by
  have hb := h.2
  rcases val_parts h with ⟨_, _, ⟨h1, e1, e2⟩ | ⟨h1, e1, e2⟩⟩ | ⟨_, _, _, _, hs, ⟨h1, e1, e2⟩ | ⟨h1, e1, e2⟩⟩
  · rw [e1, e2]
    exact SpIf.cat (SpIf.mark 45 (by simp) (P := Front) fun m hm => punct_front 45 hm) (SpIf.tok (nuT (-v.int)) rfl (by show 0 ≤ -v.int; omega) (by show -v.int < _; omega)) fun m _ => Front.app (by rw [nu_txt]; exact dec_front _ (by omega)) m
  · rw [e1, e2]
    exact SpIf.tok (nuT v.int) rfl h1 (by show v.int < _; omega)
  · rw [e1, e2]
    exact SpIf.tok (wdT v.word) (by simp [wf, wdT, h1]) (by show (0 : Int) ≤ 0; omega) (by show (0 : Int) < _; omega)
  · rw [e1, e2]
    exact SpIf.tok (stT v.word) (by simp only [wf, stT]; simp [hs]) (by show (0 : Int) ≤ 0; omega) (by show (0 : Int) < _; omega)
theorem sep44 (m : List UInt8) : Sep (44 :: m) := .inr ⟨44, m, rfl, by decide, by decide, by decide, by decide⟩
theorem sep41 (m : List UInt8) : Sep (41 :: m) := .inr ⟨41, m, rfl, by decide, by decide, by decide, by decide⟩
theorem sep40 (m : List UInt8) : Sep (40 :: m) := .inr ⟨40, m, rfl, by decide, by decide, by decide, by decide⟩
theorem more_lex : ∀ (vs : List GVal), (∀ v ∈ vs, OkV v) → SpIf Sep (vs.flatMap fun v => 44 :: 32 :: vtextL v) (vs.flatMap fun v => mkT 44 :: valT v)
  | [], _ => SpIf.nil
  | v :: r, h => by
    have h1 := h v List.mem_cons_self
    have h2 := more_lex r fun x hx => h x (List.mem_cons_of_mem _ hx)
    have a1 : SpIf Sep ([44] ++ [32]) ([mkT 44] ++ []) := SpIf.cat (SpIf.mark 44 (by simp) (P := fun m => ∃ r, m = 32 :: r) fun m hm g r e => by
      obtain ⟨r', rfl⟩ := hm
      injection e with e1 e2
      subst e1
      decide) (SpIf.space 32 (by decide)) fun m _ => ⟨m, rfl⟩
    have a1' : SpIf (fun _ => True) ([44] ++ [32]) ([mkT 44] ++ []) := SpIf.cat (SpIf.mark 44 (by simp) (P := fun m => ∃ r, m = 32 :: r) fun m hm g r e => by
      obtain ⟨r', rfl⟩ := hm
      injection e with e1 e2
      subst e1
      decide) (SpIf.space 32 (by decide)) fun m _ => ⟨m, rfl⟩
    have a2 := SpIf.cat (SpIf.cat a1' (val_lex h1) fun m _ => trivial) h2 fun m hm => by
      cases r with
      | nil => exact hm
      | cons a b => exact sep44 _
    simpa using a2
theorem args_lex {vs : List GVal} (h : ∀ v ∈ vs, OkV v) : SpIf Sep (argsT vs) (argsTok vs) := by
  cases vs with
  | nil => exact SpIf.nil
  | cons v r =>
    refine SpIf.cat (val_lex (h v List.mem_cons_self)) (more_lex r fun x hx => h x (List.mem_cons_of_mem _ hx)) fun m hm => ?_
    cases r with
    | nil => exact hm
    | cons a b => exact sep44 _
theorem args_front {vs : List GVal} (h : ∀ v ∈ vs, OkV v) (hn : vs ≠ []) (m : List UInt8) : Front (argsT vs ++ m) := by
  cases vs with
  | nil => exact absurd rfl hn
  | cons v r => exact ((val_front (h v List.mem_cons_self)).app _).app m
theorem okF_parts {f : GFact} (h : OkF f) : wordB f.rel = true ∧ f.rel.length ≤ 24 ∧ 1 ≤ f.args.length ∧ f.args.length ≤ 8 := by
  have := h.1
  simp only [gwfF, Bool.and_eq_true, decide_eq_true_eq, nameB] at this
  exact ⟨this.1.1.1.2, this.1.1.1.1, this.1.1.2, this.1.2⟩
theorem fact_lex {f : GFact} (h : OkF f) {P : List UInt8 → Prop} : SpIf P (factText f) (factT f) := by
  obtain ⟨h1, _, h2, _⟩ := okF_parts h
  have hn : f.args ≠ [] := by intro e; rw [e] at h2; simp at h2
  have b1 : SpIf Sep f.rel [wdT f.rel] := SpIf.tok (wdT f.rel) (by simp [wf, wdT, h1]) (by show (0 : Int) ≤ 0; omega) (by show (0 : Int) < _; omega)
  have b2 : SpIf Front (f.rel ++ [40]) ([wdT f.rel] ++ [mkT 40]) := SpIf.cat b1 (SpIf.mark 40 (by simp) fun m hm => punct_front 40 hm) fun m _ => sep40 m
  have b3 : SpIf Sep (f.rel ++ [40] ++ argsT f.args) ([wdT f.rel] ++ [mkT 40] ++ argsTok f.args) := SpIf.cat b2 (args_lex h.2) fun m _ => args_front h.2 hn m
  have b4 : SpIf (fun m => ∃ r, m = 46 :: r) (f.rel ++ [40] ++ argsT f.args ++ [41]) ([wdT f.rel] ++ [mkT 40] ++ argsTok f.args ++ [mkT 41]) := SpIf.cat b3 (SpIf.mark 41 (by simp) fun m hm g r e => by
    obtain ⟨r', rfl⟩ := hm
    injection e with e1 e2
    subst e1
    decide) fun m _ => sep41 m
  have b5 : SpIf (fun m => ∃ r, m = 10 :: r) (f.rel ++ [40] ++ argsT f.args ++ [41] ++ [46]) ([wdT f.rel] ++ [mkT 40] ++ argsTok f.args ++ [mkT 41] ++ [mkT 46]) := SpIf.cat b4 (SpIf.mark 46 (by simp) fun m hm g r e => by
    obtain ⟨r', rfl⟩ := hm
    injection e with e1 e2
    subst e1
    decide) fun m _ => ⟨m, rfl⟩
  have b6 := SpIf.cat b5 (SpIf.space 10 (by decide) (P := P)) fun m _ => ⟨m, rfl⟩
  have e1 : factText f = f.rel ++ [40] ++ argsT f.args ++ [41] ++ [46] ++ [10] := by simp [factText]
  have e2 : factT f = [wdT f.rel] ++ [mkT 40] ++ argsTok f.args ++ [mkT 41] ++ [mkT 46] ++ [] := by simp [factT]
  rw [e1, e2]
  exact b6
theorem facts_lex : ∀ (fs : List GFact), (∀ f ∈ fs, OkF f) → SpIf (fun _ => True) (fs.flatMap factText) (fs.flatMap factT)
  | [], _ => SpIf.nil
  | f :: r, h => by
    rw [List.flatMap_cons, List.flatMap_cons]
    exact SpIf.cat (fact_lex (h f List.mem_cons_self) (P := fun _ => True)) (facts_lex r fun x hx => h x (List.mem_cons_of_mem _ hx)) fun _ _ => trivial
theorem facts_scan {fs : List GFact} (h : ∀ f ∈ fs, OkF f) (hl : (fs.flatMap factText).length ≤ 65536) : ∃ us, scan (fs.flatMap factText) = .ok us ∧ bareEq us (fs.flatMap factT) := by
  obtain ⟨q, us, e, b⟩ := facts_lex fs h [] trivial (1, 1)
  refine ⟨us, ?_, b⟩
  rw [List.append_nil, lex_nil] at e
  unfold scan
  rw [if_neg (by omega), e]
  simp [Res.app]
end Go.Proofs.YtmodjokoggmnaaaGreatDoor


namespace Go.Proofs.YtmodjokoggmnaaaGreatDoor
open Go.RowKit Go.Shelf

theorem bare_cons {a : List GTok} {b : GTok} {c : List GTok} (h : a.map GTok.bare = (b :: c).map GTok.bare) : ∃ x xs, a = x :: xs ∧ x.bare = b.bare ∧ xs.map GTok.bare = c.map GTok.bare := by
  cases a with
  | nil => simp at h
  | cons x xs =>
    simp only [List.map_cons, List.cons.injEq] at h
    exact ⟨x, xs, rfl, h.1, h.2⟩
theorem bare_app {a b c : List GTok} (h : a.map GTok.bare = (b ++ c).map GTok.bare) : ∃ x y, a = x ++ y ∧ x.map GTok.bare = b.map GTok.bare ∧ y.map GTok.bare = c.map GTok.bare := by
  rw [List.map_append] at h
  obtain ⟨x, y, h1, h2, h3⟩ := List.map_eq_append_iff.1 h
  exact ⟨x, y, h1, h2, h3⟩
theorem bare_nil {a : List GTok} (h : a.map GTok.bare = ([] : List GTok).map GTok.bare) : a = [] := by simpa using h
theorem bare_parts {x : GTok} {k : Int} {t : List UInt8} {n : Int} (h : x.bare = (⟨k, t, n, 0, 0⟩ : GTok).bare) : x.kind = k ∧ x.text = t ∧ x.value = n := by
  simp only [GTok.bare, Prod.mk.injEq] at h
  exact h
theorem bare_mark {x : GTok} {c : UInt8} (h : x.bare = (mkT c).bare) (s : List UInt8) : tMark s x = decide (s = [c]) := by
  obtain ⟨h1, h2, _⟩ := bare_parts (k := 4) (t := [c]) (n := 0) h
  unfold tMark
  rw [h1, h2]
  simp [eq_comm]
theorem pArg_val {v : GVal} (h : OkV v) (us rest : List GTok) (hu : us.map GTok.bare = (valT v).map GTok.bare) : pArg true (us ++ rest) = (0, v, rest) := by
  have hb := h.2
  rcases val_parts h with ⟨hk, hw, ⟨h1, e1, _⟩ | ⟨h1, e1, _⟩⟩ | ⟨hk, hi, h24, h01, hs, ⟨h1, e1, _⟩ | ⟨h1, e1, _⟩⟩
  all_goals rw [e1] at hu
  · obtain ⟨a, u1, rfl, ha, h2⟩ := bare_cons hu
    obtain ⟨b, u2, rfl, hb2, h3⟩ := bare_cons h2
    obtain rfl := bare_nil h3
    obtain ⟨a1, a2, a3⟩ := bare_parts (k := 4) (t := [45]) (n := 0) ha
    obtain ⟨b1, b2, b3⟩ := bare_parts (k := 2) (t := []) (n := -v.int) hb2
    have he : errArg a = 0 := by unfold errArg; rw [a1, a2]; simp
    show pArg true (a :: b :: rest) = _
    rw [pArg_cons, if_neg (by simp [he]), if_neg (by simp), if_pos a1, pNeg_cons, if_neg (by simp [b1]), if_neg (by rw [b3]; omega), b3]
    obtain ⟨k, n, l⟩ := v
    simp only at hk hw ⊢
    rw [hk, hw, Int.neg_neg]
  · obtain ⟨a, u1, rfl, ha, h2⟩ := bare_cons hu
    obtain rfl := bare_nil h2
    obtain ⟨a1, a2, a3⟩ := bare_parts (k := 2) (t := []) (n := v.int) ha
    have he : errArg a = 0 := by unfold errArg; rw [a1, a3, if_neg (by omega)]; simp
    show pArg true (a :: rest) = _
    rw [pArg_cons, if_neg (by simp [he]), if_neg (by simp), if_neg (by omega), if_pos a1, a3]
    obtain ⟨k, n, l⟩ := v
    simp only at hk hw ⊢
    rw [hk, hw]
  · obtain ⟨a, u1, rfl, ha, h2⟩ := bare_cons hu
    obtain rfl := bare_nil h2
    obtain ⟨a1, a2, a3⟩ := bare_parts (k := 1) (t := v.word) (n := 0) ha
    have hz : sizedP v.word = true := by unfold sizedP; simp [h01, h24]
    have he : errArg a = 0 := by unfold errArg; rw [a1, a2, hz]; simp
    show pArg true (a :: rest) = _
    rw [pArg_cons, if_neg (by simp [he]), if_neg (by simp), if_neg (by omega), if_neg (by omega), a2]
    obtain ⟨k, n, l⟩ := v
    simp only at hk hi ⊢
    rw [hk, hi]
  · obtain ⟨a, u1, rfl, ha, h2⟩ := bare_cons hu
    obtain rfl := bare_nil h2
    obtain ⟨a1, a2, a3⟩ := bare_parts (k := 3) (t := v.word) (n := 0) ha
    have hz : sizedP v.word = true := by unfold sizedP; simp [h01, h24]
    have he : errArg a = 0 := by unfold errArg; rw [a1, a2, hz]; simp
    show pArg true (a :: rest) = _
    rw [pArg_cons, if_neg (by simp [he]), if_neg (by simp), if_neg (by omega), if_neg (by omega), a2]
    obtain ⟨k, n, l⟩ := v
    simp only at hk hi ⊢
    rw [hk, hi]
theorem pArgs_vals : ∀ (vs : List GVal) (v : GVal) (args : List GVal) (n : Nat) (us rest : List GTok), (∀ x ∈ v :: vs, OkV x) → args.length + (v :: vs).length ≤ 8 → us.map GTok.bare = (argsTok (v :: vs) ++ [mkT 41, mkT 46]).map GTok.bare → vs.length < n → pArgs n args (us ++ rest) = (0, args ++ v :: vs, rest)
  | vs, v, args, 0, us, rest, _, _, _, hn => absurd hn (by omega)
  | [], v, args, n + 1, us, rest, hw, hl, hu, _ => by
    have e0 : argsTok [v] ++ [mkT 41, mkT 46] = valT v ++ [mkT 41, mkT 46] := by simp [argsTok]
    rw [e0] at hu
    obtain ⟨u1, u2, rfl, h1, h2⟩ := bare_app hu
    obtain ⟨a, u3, rfl, ha, h3⟩ := bare_cons h2
    obtain ⟨b, u4, rfl, hb, h4⟩ := bare_cons h3
    obtain rfl := bare_nil h4
    have hr : decide (args.length < 8) = true := by simp at hl ⊢; omega
    have hp := pArg_val (hw v List.mem_cons_self) u1 ([a, b] ++ rest) h1
    rw [List.append_assoc]
    unfold pArgs
    rw [hr, hp]
    have m1 : tMark [44] a = false := by rw [bare_mark ha]; decide
    have m2 : tMark [41] a = true := by rw [bare_mark ha]; decide
    have m3 : tMark [46] b = true := by rw [bare_mark hb]; decide
    simp [m1, m2, m3]
  | w :: vs, v, args, n + 1, us, rest, hw, hl, hu, hn => by
    have e0 : argsTok (v :: w :: vs) ++ [mkT 41, mkT 46] = valT v ++ (mkT 44 :: (argsTok (w :: vs) ++ [mkT 41, mkT 46])) := by simp [argsTok]
    rw [e0] at hu
    obtain ⟨u1, u2, rfl, h1, h2⟩ := bare_app hu
    obtain ⟨a, u3, rfl, ha, h3⟩ := bare_cons h2
    have hr : decide (args.length < 8) = true := by simp at hl ⊢; omega
    have hp := pArg_val (hw v List.mem_cons_self) u1 ((a :: u3) ++ rest) h1
    have ih := pArgs_vals vs w (args ++ [v]) n u3 rest (fun x hx => hw x (List.mem_cons_of_mem _ hx)) (by simp at hl ⊢; omega) h3 (by simp at hn; omega)
    rw [List.append_assoc]
    unfold pArgs
    rw [hr, hp]
    have m1 : tMark [44] a = true := by rw [bare_mark ha]; decide
    simp only [List.cons_append, m1, if_true]
    rw [if_neg (by simp), ih]
    simp
theorem pFacts_facts : ∀ (fs l : List GFact) (n : Nat) (us : List GTok) (e : GTok), e.kind = 0 → (∀ f ∈ fs, OkF f) → l.length + fs.length ≤ 8192 → us.map GTok.bare = (fs.flatMap factT).map GTok.bare → fs.length < n → pFacts n l (us ++ [e]) = (0, l ++ fs, [e])
  | fs, l, 0, us, e, _, _, _, _, hn => absurd hn (by omega)
  | [], l, n + 1, us, e, he, _, _, hu, _ => by
    obtain rfl := bare_nil (by simpa using hu)
    show pFacts (n + 1) l (e :: []) = _
    rw [pFacts_step, if_pos he, List.append_nil]
  | f :: fs, l, n + 1, us, e, he, hw, hl, hu, hn => by
    have hf := hw f List.mem_cons_self
    obtain ⟨hwr, h24, ha1, ha8⟩ := okF_parts hf
    obtain ⟨v, vs, hvs⟩ : ∃ v vs, f.args = v :: vs := by
      cases h : f.args with
      | nil => rw [h] at ha1; simp at ha1
      | cons v vs => exact ⟨v, vs, rfl⟩
    have e0 : (f :: fs).flatMap factT = wdT f.rel :: mkT 40 :: ((argsTok f.args ++ [mkT 41, mkT 46]) ++ fs.flatMap factT) := by simp [factT]
    rw [e0] at hu
    obtain ⟨a, u1, rfl, ha, h1⟩ := bare_cons hu
    obtain ⟨b, u2, rfl, hb, h2⟩ := bare_cons h1
    obtain ⟨u3, u4, rfl, h3, h4⟩ := bare_app h2
    obtain ⟨a1, a2, a3⟩ := bare_parts (k := 1) (t := f.rel) (n := 0) ha
    have hsz : sizedP f.rel = true := by
      have h1 : 1 ≤ f.rel.length := by
        cases hr : f.rel with
        | nil => rw [hr] at hwr; cases hwr
        | cons c r => simp
      unfold sizedP; simp [h1, h24]
    have hroom : decide (l.length < 8192) = true := by simp at hl ⊢; omega
    have hrel : pRel true (a :: (b :: (u3 ++ u4) ++ [e])) = (0, f.rel, b :: (u3 ++ u4) ++ [e]) := by
      rw [pRel_cons, if_neg (by simp [a1]), a2, if_neg (by simp [hsz]), if_neg (by simp)]
    have hargs : pArguments (b :: (u3 ++ u4) ++ [e]).length (b :: (u3 ++ u4) ++ [e]) = (0, f.args, u4 ++ [e]) := by
      show (if tMark [40] b then pArgs _ [] (u3 ++ u4 ++ [e]) else _) = _
      rw [bare_mark hb, if_pos (by decide), List.append_assoc, hvs]
      have hlen : vs.length ≤ u3.length := by
        have e3 := congrArg List.length h3
        rw [List.length_map, List.length_map, List.length_append, hvs] at e3
        have e4 : vs.length ≤ (argsTok (v :: vs)).length := by
          have key : ∀ (r : List GVal), r.length ≤ (r.flatMap fun v => mkT 44 :: valT v).length := by
            intro r
            induction r with
            | nil => simp
            | cons x r ih => rw [List.flatMap_cons, List.length_append, List.length_cons, List.length_cons]; omega
          have := key vs
          show _ ≤ (valT v ++ _).length
          rw [List.length_append]
          omega
        simp at e3
        omega
      exact pArgs_vals vs v [] _ u3 (u4 ++ [e]) (by rw [← hvs]; exact hf.2) (by rw [← hvs]; simpa using ha8) (by rw [← hvs]; exact h3) (by simp; omega)
    show pFacts (n + 1) l (a :: (b :: (u3 ++ u4) ++ [e])) = _
    rw [pFacts_step, if_neg (by omega), hroom, hrel]
    simp only
    rw [if_neg (by simp), hargs]
    simp only
    rw [if_neg (by simp)]
    have hfe : (⟨f.rel, f.args⟩ : GFact) = f := rfl
    rw [hfe, pFacts_facts fs (l ++ [f]) n u4 e he (fun x hx => hw x (List.mem_cons_of_mem _ hx)) (by simp at hl ⊢; omega) h4 (by simp at hn; omega)]
    simp
theorem flat_count : ∀ (fs : List GFact), fs.length ≤ (fs.flatMap factT).length
  | [] => by simp
  | f :: r => by
    have := flat_count r
    rw [List.flatMap_cons, List.length_append, List.length_cons]
    have h1 : 1 ≤ (factT f).length := by unfold factT; simp
    omega
theorem pAll_facts {fs : List GFact} (h : ∀ f ∈ fs, OkF f) (hn : fs.length ≤ 8192) (hl : (fs.flatMap factText).length ≤ 65536) : pAll (fs.flatMap factText) = .ok fs := by
  obtain ⟨us, hs, hb⟩ := facts_scan h hl
  have hb2 : (us.map Tok.g).map GTok.bare = (fs.flatMap factT).map GTok.bare := by
    unfold bareEq at hb
    rw [List.map_map]
    exact hb
  have hlen : fs.length ≤ us.length := by
    have := congrArg List.length hb2
    simp only [List.length_map] at this
    have := flat_count fs
    omega
  unfold pAll
  rw [hs]
  simp only
  rw [pFacts_facts fs [] _ (us.map Tok.g) (endTok (fs.flatMap factText)) rfl h (by simpa using hn) hb2 (by simp; omega)]
  simp
end Go.Proofs.YtmodjokoggmnaaaGreatDoor
