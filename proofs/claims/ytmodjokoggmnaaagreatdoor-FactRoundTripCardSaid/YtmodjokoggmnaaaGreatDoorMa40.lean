/-
  What is parsed is well formed, its text is not much longer, and is parsed as the same set. Plain mathematics.
  Conditions: texts of at most 2000 bytes.
  The reference's parser of facts gives what the grammar gives: the states and the tokens left; one argument.
  The reference's parser of facts gives what the grammar gives: the arguments, the facts, the whole text.
-/
import Derived.Test.YtmodjokoggmnaaaGreatDoorMa39
import Derived.Test.YtmodjokoggmnaaaGreatDoorMa32
import Derived.Test.YtmodjokoggmnaaaGreatDoorMa38
import Derived.Test.YtmodjokoggmnaaaGreatDoorMa37
namespace Go.Proofs.YtmodjokoggmnaaaGreatDoor
open Go.RowKit Go.Shelf

structure TokO (t : GTok) : Prop where
  tok : TokW t
  word : t.kind = 1 → wordB t.text = true
  str : t.kind = 3 → t.text.all isStr = true
def TOs (ts : List GTok) : Prop := ∀ t ∈ ts, t.kind = 0 ∨ TokO t
theorem wb_str (c : UInt8) (h : isWB c = true) : isStr c = true := by
  simp only [isWB, wbI, ltrI, digI, Bool.or_eq_true, decide_eq_true_eq] at h
  simp only [isStr, strI, decide_eq_true_eq]
  omega
theorem word_str {l : List UInt8} (h : wordB l = true) : l.all isStr = true := by
  cases l with
  | nil => rfl
  | cons c r =>
    simp only [wordB, Bool.and_eq_true] at h
    have hc : isWB c = true := by rw [wb_eq, h.1]; rfl
    rw [List.all_cons, wb_str c hc, Bool.true_and]
    exact List.all_eq_true.2 fun x hx => wb_str x (List.all_eq_true.1 h.2 x hx)
theorem first_kinds {l : List UInt8} {kd v n : Nat} {tx : List UInt8} (h : first l = .tok kd tx v n) : (kd = 1 → wordB tx = true) ∧ (kd = 3 → tx.all isStr = true) := by
  cases l with
  | nil => cases h
  | cons c r =>
    unfold first at h
    simp only at h
    split at h
    · split at h
      · cases h
      · cases h
      · injection h with h1 h2 h3 h4
        exact ⟨fun e => by omega, fun e => by omega⟩
    · split at h
      · rename_i hd hw
        injection h with h1 h2 h3 h4
        refine ⟨fun _ => ?_, fun e => by omega⟩
        have hlet : isLet c = true := by
          rw [wb_eq] at hw
          simp at hd
          rw [hd] at hw
          simpa using hw
        have hall : ∀ x ∈ tx, isWB x = true := fun x hx => by rw [← h2] at hx; exact run_all x hx
        cases tx with
        | nil => simp [run, hw] at h2
        | cons d s =>
          have hdc : d = c := by
            simp [run, hw] at h2
            exact h2.1.symm
          subst hdc
          show (isLet d && s.all isWB) = true
          rw [hlet, Bool.true_and]
          exact List.all_eq_true.2 fun x hx => hall x (List.mem_cons_of_mem _ hx)
      · split at h
        · unfold quoted at h
          split at h
          · injection h with h1 h2 h3 h4
            refine ⟨fun e => by omega, fun _ => ?_⟩
            rw [← h2]
            exact List.all_eq_true.2 fun x hx => run_all x hx
          · cases h
        · unfold marked at h
          split at h
          · injection h with h1 h2 h3 h4
            exact ⟨fun e => by omega, fun e => by omega⟩
          · split at h
            · injection h with h1 h2 h3 h4
              exact ⟨fun e => by omega, fun e => by omega⟩
            · cases h
theorem step_kinds {l : List UInt8} {kd v n : Nat} {tx : List UInt8} (h : step l = .tok kd tx v n) : (kd = 1 → wordB tx = true) ∧ (kd = 3 → tx.all isStr = true) := by
  cases l with
  | nil => cases h
  | cons c r =>
    unfold step at h
    simp only at h
    split at h
    · cases h
    · split at h
      · cases h
      · exact first_kinds h
theorem lex_kinds : ∀ (l : List UInt8) (k : Nat) (p : Nat × Nat) (ts : List Tok), lex k p l = .ok ts → ∀ t ∈ ts, (t.kind = 1 → wordB t.text = true) ∧ (t.kind = 3 → t.text.all isStr = true)
  | [], k, p, ts, h => by
    rw [lex_nil] at h
    injection h with h
    subst h
    intro t ht
    cases ht
  | c :: r, k + 1, p, ts, h => by
    rw [lex] at h
    exact lex_kinds r k _ ts h
  | c :: r, 0, p, ts, h => by
    rw [lex] at h
    cases hs : step (c :: r) with
    | skip n =>
      rw [hs] at h
      exact lex_kinds r _ _ ts h
    | tok kd tx v n =>
      rw [hs] at h
      simp only at h
      cases hl : lex (n - 1) (adv1 p c) r with
      | ok us =>
        rw [hl] at h
        injection h with h
        subst h
        intro t ht
        rcases List.mem_cons.1 ht with rfl | ht
        · exact step_kinds hs
        · exact lex_kinds r _ _ us hl t ht
      | no x y e => rw [hl] at h; cases h
    | err e => rw [hs] at h; cases h
theorem scan_kinds {l : List UInt8} {ts : List Tok} (h : scan l = .ok ts) : TOs (ts.map Tok.g ++ [endTok l]) ∧ ts.length ≤ l.length := by
  have hl : lex 0 (1, 1) l = .ok ts := by
    unfold scan at h
    split at h
    · cases h
    · exact h
  refine ⟨fun t ht => ?_, lex_count l 0 _ ts hl⟩
  rcases List.mem_append.1 ht with ht | ht
  · right
    obtain ⟨u, hu, rfl⟩ := List.mem_map.1 ht
    obtain ⟨h1, h2⟩ := lex_kinds l 0 _ ts hl u hu
    refine ⟨(scan_tokB h).2 u hu, fun e => h1 ?_, fun e => h2 ?_⟩
    · have : (u.kind : Int) = 1 := e; omega
    · have : (u.kind : Int) = 3 := e; omega
  · left
    simp at ht
    subst ht
    rfl
theorem TOs.tail {t : GTok} {ts : List GTok} (h : TOs (t :: ts)) : TOs ts := fun x hx => h x (List.mem_cons_of_mem _ hx)
theorem TOs.hd {t : GTok} {ts : List GTok} (h : TOs (t :: ts)) (hk : t.kind ≠ 0) : TokO t := (h t List.mem_cons_self).resolve_left hk
theorem pNeg_ok {ts : List GTok} {v : GVal} {rest : List GTok} (h : TOs ts) (e : pNeg ts = (0, v, rest)) : OkV v ∧ TOs rest ∧ rest.length + 1 ≤ ts.length := by
  cases ts with
  | nil => unfold pNeg at e; cases e
  | cons t ts =>
    rw [pNeg_cons] at e
    split at e
    · cases e
    · rename_i hk
      split at e
      · cases e
      · rename_i hv
        injection e with e1 e2
        injection e2 with e2 e3
        subst e2 e3
        have ht := h.hd (by omega)
        have := ht.tok.low
        refine ⟨⟨by simp [gwfV], ?_, ?_⟩, h.tail, by simp⟩
        · show _ ≤ -t.value; omega
        · show -t.value ≤ _; omega
theorem pArg_ok {room : Bool} {ts : List GTok} {v : GVal} {rest : List GTok} (h : TOs ts) (e : pArg room ts = (0, v, rest)) : OkV v ∧ TOs rest ∧ rest.length + 1 ≤ ts.length ∧ room = true := by
  cases ts with
  | nil => unfold pArg at e; cases e
  | cons t ts =>
    rw [pArg_cons] at e
    split at e
    · rename_i hne
      injection e with e1 e2
      exact absurd e1 hne
    · rename_i hne
      have he : errArg t = 0 := by simpa using hne
      split at e
      · cases e
      · rename_i hr
        have hroom : room = true := by simpa using hr
        split at e
        · obtain ⟨h1, h2, h3⟩ := pNeg_ok h.tail e
          exact ⟨h1, h2, by simp; omega, hroom⟩
        · rename_i hk4
          have h0 : t.kind ≠ 0 := fun h0 => by rw [errArg_zero h0] at he; cases he
          have ht := h.hd h0
          have hlow := ht.tok.low
          split at e
          · rename_i hk2
            injection e with e1 e2
            injection e2 with e2 e3
            subst e2 e3
            have hv : ¬ (9223372036854775807 < t.value) := fun hv => by
              unfold errArg at he
              rw [if_pos ⟨hk2, hv⟩] at he
              cases he
            refine ⟨⟨by simp [gwfV], ?_, ?_⟩, h.tail, by simp, hroom⟩
            · show _ ≤ t.value; omega
            · show t.value ≤ _; omega
          · rename_i hk2
            injection e with e1 e2
            injection e2 with e2 e3
            subst e2 e3
            have hk13 : t.kind = 1 ∨ t.kind = 3 := by rcases ht.tok.kind with h | h | h | h <;> first | omega
            have hsz : sizedP t.text = true := by
              cases hs : sizedP t.text with
              | true => rfl
              | false =>
                unfold errArg at he
                rw [if_neg (by omega), if_pos ⟨hk13, hs⟩] at he
                cases he
            have hst : t.text.all isStr = true := by
              rcases hk13 with hk | hk
              · exact word_str (ht.word hk)
              · exact ht.str hk
            refine ⟨⟨?_, by show _ ≤ (0 : Int); omega, by show (0 : Int) ≤ _; omega⟩, h.tail, by simp, hroom⟩
            show gwfV ⟨2, 0, t.text⟩ = true
            unfold gwfV
            have : sizedB t.text = true := hsz
            simp [this, hst]
theorem pArgs_ok : ∀ (n : Nat) (args : List GVal) (ts : List GTok) (vs : List GVal) (rest : List GTok), TOs ts → (∀ v ∈ args, OkV v) → pArgs n args ts = (0, vs, rest) → (∀ v ∈ vs, OkV v) ∧ TOs rest ∧ vs.length + rest.length ≤ args.length + ts.length ∧ 1 ≤ vs.length ∧ vs.length ≤ 8
  | 0, args, ts, vs, rest, _, _, e => by unfold pArgs at e; cases e
  | n + 1, args, ts, vs, rest, h, ha, e => by
    unfold pArgs at e
    obtain ⟨pe, pv, pr⟩ : ∃ q : Int × GVal × List GTok, q = pArg (decide (args.length < 8)) ts := ⟨_, rfl⟩
    generalize hq : pArg (decide (args.length < 8)) ts = q at e
    obtain ⟨qe, qv, qr⟩ := q
    simp only at e
    split at e
    · rename_i hne
      injection e with e1 e2
      exact absurd e1 hne
    · rename_i hne
      have hqe : qe = 0 := by simpa using hne
      subst hqe
      obtain ⟨h1, h2, h3, h4⟩ := pArg_ok h hq
      have h8 : args.length < 8 := by simpa using h4
      have ha2 : ∀ v ∈ args ++ [qv], OkV v := fun v hv => by
        rcases List.mem_append.1 hv with hv | hv
        · exact ha v hv
        · simp at hv; subst hv; exact h1
      split at e
      · cases e
      · rename_i t ts2
        split at e
        · obtain ⟨g1, g2, g3, g4, g5⟩ := pArgs_ok n (args ++ [qv]) ts2 vs rest h2.tail ha2 e
          refine ⟨g1, g2, ?_, g4, g5⟩
          simp at g3 h3
          omega
        · split at e
          · cases e
          · split at e
            · cases e
            · rename_i u ts3
              split at e
              · injection e with e1 e2
                injection e2 with e2 e3
                subst e2 e3
                refine ⟨ha2, h2.tail.tail, ?_, by simp, by simp; omega⟩
                simp at h3 ⊢
                omega
              · cases e
def weight (fs : List GFact) : Nat := (fs.map fun f => 1 + f.args.length).sum
theorem weight_cons (f : GFact) (r : List GFact) : weight (f :: r) = 1 + f.args.length + weight r := by unfold weight; simp
theorem weight_app (a b : List GFact) : weight (a ++ b) = weight a + weight b := by unfold weight; simp
theorem weight_sub : ∀ (a b : List GFact), a.Nodup → (∀ x ∈ a, x ∈ b) → weight a ≤ weight b
  | [], b, _, _ => by unfold weight; simp
  | x :: r, b, hn, hs => by
    obtain ⟨b1, b2, rfl⟩ := List.append_of_mem (hs x List.mem_cons_self)
    rw [List.nodup_cons] at hn
    have ih := weight_sub r (b1 ++ b2) hn.2 fun y hy => by
      have := hs y (List.mem_cons_of_mem _ hy)
      rcases List.mem_append.1 this with h | h
      · exact List.mem_append.2 (.inl h)
      · rcases List.mem_cons.1 h with rfl | h
        · exact absurd hy hn.1
        · exact List.mem_append.2 (.inr h)
    rw [weight_app] at ih
    rw [weight_cons, weight_app, weight_cons]
    omega
theorem pRel_ok {room : Bool} {t : GTok} {r : List GTok} {nm : List UInt8} {rest : List GTok} (e : pRel room (t :: r) = (0, nm, rest)) : t.kind = 1 ∧ sizedP t.text = true ∧ t.text = nm ∧ r = rest := by
  rw [pRel_cons] at e
  split at e
  · cases e
  · rename_i hk
    split at e
    · cases e
    · rename_i hs
      split at e
      · cases e
      · injection e with e1 e2
        injection e2 with e2 e3
        exact ⟨by simpa using hk, by simpa using hs, e2, e3⟩
theorem pFacts_ok : ∀ (n : Nat) (l : List GFact) (ts : List GTok) (fs : List GFact) (rest : List GTok), TOs ts → (∀ f ∈ l, OkF f) → pFacts n l ts = (0, fs, rest) → (∀ f ∈ fs, OkF f) ∧ weight fs + rest.length ≤ weight l + ts.length
  | 0, l, ts, fs, rest, _, _, e => by unfold pFacts at e; cases e
  | n + 1, l, [], fs, rest, _, hl, e => by
    unfold pFacts at e
    injection e with e1 e2
    injection e2 with e2 e3
    subst e2 e3
    exact ⟨hl, Nat.le_refl _⟩
  | n + 1, l, t :: r, fs, rest, h, hl, e => by
    rw [pFacts_step] at e
    split at e
    · injection e with e1 e2
      injection e2 with e2 e3
      subst e2 e3
      exact ⟨hl, Nat.le_refl _⟩
    · rename_i hk
      have ht := h.hd hk
      generalize hp : pRel (decide (l.length < 8192)) (t :: r) = pr at e
      obtain ⟨pe, pn, pt⟩ := pr
      simp only at e
      split at e
      · rename_i hne
        injection e with e1 e2
        exact absurd e1 hne
      · rename_i hne
        have he0 : pe = 0 := by simpa using hne
        subst he0
        obtain ⟨hk1, hsz, rfl, rfl⟩ := pRel_ok hp
        generalize hq : pArguments r.length r = q at e
        obtain ⟨qe, qv, qr⟩ := q
        simp only at e
        split at e
        · rename_i hne2
          injection e with e1 e2
          exact absurd e1 hne2
        · rename_i hne2
          have hp0 : qe = 0 := by simpa using hne2
          subst hp0
          cases r with
          | nil => unfold pArguments at hq; cases hq
          | cons u r2 =>
            have hq2 : (if tMark [40] u then pArgs (u :: r2).length [] r2 else (50, [], u :: r2)) = (0, qv, qr) := hq
            split at hq2
            · obtain ⟨g1, g2, g3, g4, g5⟩ := pArgs_ok _ [] r2 qv qr h.tail.tail (fun v hv => by cases hv) hq2
              have hf : OkF ⟨t.text, qv⟩ := by
                refine ⟨?_, g1⟩
                have hw := ht.word hk1
                have h24 : t.text.length ≤ 24 := by unfold sizedP at hsz; simp at hsz; omega
                simp only [gwfF, nameB, hw, h24, g4, g5]
                simp
                exact fun v hv => (g1 v hv).1
              obtain ⟨f1, f2⟩ := pFacts_ok n (l ++ [⟨t.text, qv⟩]) qr fs rest g2 (fun f hf2 => by
                rcases List.mem_append.1 hf2 with hf2 | hf2
                · exact hl f hf2
                · simp at hf2; subst hf2; exact hf) e
              refine ⟨f1, ?_⟩
              rw [weight_app, weight_cons] at f2
              have e0 : weight [] = 0 := rfl
              simp only [e0, List.length_nil, List.length_cons] at *
              omega
            · cases hq2
theorem pAll_ok {l : List UInt8} {fs : List GFact} (h : pAll l = .ok fs) : (∀ f ∈ fs, OkF f) ∧ weight fs ≤ l.length + 1 := by
  unfold pAll at h
  cases hs : scan l with
  | no x y e => rw [hs] at h; cases h
  | ok toks =>
    rw [hs] at h
    simp only at h
    obtain ⟨h1, h2⟩ := scan_kinds hs
    generalize hq : pFacts (toks.map Tok.g ++ [endTok l]).length [] (toks.map Tok.g ++ [endTok l]) = q at h
    obtain ⟨qe, qf, qt⟩ := q
    simp only at h
    by_cases he : qe = 0
    · rw [if_pos he] at h
      injection h with h
      subst h he
      obtain ⟨f1, f2⟩ := pFacts_ok _ [] _ qf qt h1 (fun f hf => by cases hf) hq
      refine ⟨f1, ?_⟩
      have e0 : weight [] = 0 := rfl
      rw [e0] at f2
      simp at f2
      omega
    · rw [if_neg he] at h
      cases qt with
      | nil => cases h
      | cons t r => cases h
theorem val_len {v : GVal} (h : OkV v) : (vtextL v).length ≤ 26 := by
  have hb := h.2
  rcases val_parts h with ⟨_, _, ⟨h1, _, e⟩ | ⟨h1, _, e⟩⟩ | ⟨_, _, h24, _, _, ⟨h1, _, e⟩ | ⟨h1, _, e⟩⟩
  · rw [e, nu_txt, List.length_append]
    have := (isDec (-v.int).toNat (by omega)).len
    simp; omega
  · rw [e, nu_txt]
    have := (isDec v.int.toNat (by omega)).len
    omega
  · rw [e]; simp [txt, wdT]; omega
  · rw [e]; simp [txt, stT]; omega
theorem args_len28 : ∀ (vs : List GVal), (∀ v ∈ vs, OkV v) → (argsT vs).length ≤ vs.length * 28 := by
  have key : ∀ (vs : List GVal), (∀ v ∈ vs, OkV v) → (vs.flatMap fun v => 44 :: 32 :: vtextL v).length ≤ vs.length * 28 := by
    intro vs
    induction vs with
    | nil => intro _; simp
    | cons v r ih =>
      intro h
      have h1 := val_len (h v List.mem_cons_self)
      have h2 := ih fun x hx => h x (List.mem_cons_of_mem _ hx)
      rw [List.flatMap_cons, List.length_append, List.length_cons, List.length_cons, List.length_cons]
      omega
  intro vs h
  cases vs with
  | nil => simp [argsT]
  | cons v r =>
    have h1 := val_len (h v List.mem_cons_self)
    have h2 := key r fun x hx => h x (List.mem_cons_of_mem _ hx)
    show (vtextL v ++ _).length ≤ _
    rw [List.length_append, List.length_cons]
    omega
theorem facts_len : ∀ (fs : List GFact), (∀ f ∈ fs, OkF f) → (fs.flatMap factText).length ≤ weight fs * 28
  | [], _ => by simp
  | f :: r, h => by
    have h1 := facts_len r fun x hx => h x (List.mem_cons_of_mem _ hx)
    have hf := h f List.mem_cons_self
    obtain ⟨_, h24, _, _⟩ := okF_parts hf
    have h2 := args_len28 f.args hf.2
    rw [List.flatMap_cons, List.length_append, weight_cons]
    have h3 : (factText f).length ≤ 28 + f.args.length * 28 := by unfold factText; simp; omega
    rw [Nat.add_mul, Nat.add_mul]
    omega
theorem weight_count (fs : List GFact) : fs.length ≤ weight fs := by
  induction fs with
  | nil => simp
  | cons f r ih => rw [weight_cons, List.length_cons]; omega
theorem fmtT_ok {fs : List GFact} (h : ∀ f ∈ fs, OkF f) : fmtT fs = fs.flatMap factText := by
  unfold fmtT
  rw [if_pos (List.all_eq_true.2 fun f hf => (h f hf).1)]
/-- The text of well-formed facts, few enough, is parsed asx these facts. -/
theorem pAll_fmt {fs : List GFact} (h : ∀ f ∈ fs, OkF f) (hw : weight fs ≤ 2340) : pAll (fmtT fs) = .ok fs ∧ (fmtT fs).length ≤ 65536 := by
  have hl := facts_len fs h
  have hc := weight_count fs
  rw [fmtT_ok h]
  have hl2 : (fs.flatMap factText).length ≤ 65536 := by omega
  exact ⟨pAll_facts h (by omega) hl2, hl2⟩
/-- What is parsed of a text of at most 2000 bytes: its set has a text that is parsed asx the same set. -/
theorem back_ok {l : List UInt8} {fs fs' : List GFact} (h : pAll l = .ok fs) (hl : l.length ≤ 2000) (hs : StrictF fs') (hm : ∀ f, f ∈ fs' ↔ f ∈ fs) : (∀ f ∈ fs', OkF f) ∧ pAll (fmtT fs') = .ok fs' ∧ (fmtT fs').length ≤ 65536 ∧ fs'.length ≤ 2340 := by
  obtain ⟨h1, h2⟩ := pAll_ok h
  have h3 : ∀ f ∈ fs', OkF f := fun f hf => h1 f ((hm f).1 hf)
  have h4 := weight_sub fs' fs (strict_count hs) fun f hf => (hm f).1 hf
  obtain ⟨h5, h6⟩ := pAll_fmt h3 (by omega)
  have := weight_count fs'
  exact ⟨h3, h5, h6, by omega⟩
end Go.Proofs.YtmodjokoggmnaaaGreatDoor


namespace Go.Proofs.YtmodjokoggmnaaaGreatDoor
open Go.RowKit Go.Shelf

/-- Tokens asx a scan gives them. -/
structure GsW (gs : List GTok) : Prop where
  tok : ∀ g ∈ gs, TokW g
  word : ∀ g ∈ gs, g.kind = 1 → g.text ≠ []
def hdR (l : List UInt8) (gs : List GTok) (i : Nat) : GTok := (gs[i]?).getD (endTok l)
def atR (l : List UInt8) (gs : List GTok) (i : Nat) : List GTok := gs.drop i ++ [endTok l]
theorem hd_lt {l : List UInt8} {gs : List GTok} {i : Nat} (hi : i < gs.length) : hdR l gs i = gs[i] := by unfold hdR; rw [List.getElem?_eq_getElem hi]; rfl
theorem hd_ge {l : List UInt8} {gs : List GTok} {i : Nat} (hi : gs.length ≤ i) : hdR l gs i = endTok l := by unfold hdR; rw [List.getElem?_eq_none hi]; rfl
theorem at_lt {l : List UInt8} {gs : List GTok} {i : Nat} (hi : i < gs.length) : atR l gs i = hdR l gs i :: atR l gs (i + 1) := by
  unfold atR
  rw [hd_lt hi, List.drop_eq_getElem_cons hi]
  rfl
theorem at_ge {l : List UInt8} {gs : List GTok} {i : Nat} (hi : gs.length ≤ i) : atR l gs i = [hdR l gs i] := by
  unfold atR
  rw [hd_ge hi, List.drop_eq_nil_of_le hi]
  rfl
theorem at_cons (l : List UInt8) (gs : List GTok) (i : Nat) : ∃ r, atR l gs i = hdR l gs i :: r := by
  rcases Nat.lt_or_ge i gs.length with h | h
  · exact ⟨_, at_lt h⟩
  · exact ⟨_, at_ge h⟩
theorem hd_kind {l : List UInt8} {gs : List GTok} {i : Nat} (hk : (hdR l gs i).kind ≠ 0) : i < gs.length := by
  rcases Nat.lt_or_ge i gs.length with h | h
  · exact h
  · rw [hd_ge h] at hk; exact absurd rfl hk
theorem hd_tok {l : List UInt8} {gs : List GTok} (h : GsW gs) {i : Nat} (hk : (hdR l gs i).kind ≠ 0) : TokW (hdR l gs i) := by
  have hi := hd_kind hk
  rw [hd_lt hi]
  exact h.tok _ (List.getElem_mem hi)
theorem hd_word {l : List UInt8} {gs : List GTok} (h : GsW gs) {i : Nat} (hk : (hdR l gs i).kind = 1) : (hdR l gs i).text ≠ [] := by
  have hi := hd_kind (l := l) (gs := gs) (i := i) (by omega)
  rw [hd_lt hi] at hk ⊢
  exact h.word _ (List.getElem_mem hi) hk
theorem kind_hd (l : List UInt8) {gs : List GTok} {s : RS} {k : Int} (he : s.e = 0) (hk : k ≠ 0) : kindR gs s k = decide ((hdR l gs s.i).kind = k) := by
  unfold kindR doneR
  rw [he]
  rcases Nat.lt_or_ge s.i gs.length with h | h
  · rw [hd_lt h, List.getElem?_eq_getElem h]
    simp [Nat.not_le.2 h]
    exact Bool.beq_eq_decide_eq _ _
  · rw [hd_ge h, List.getElem?_eq_none h]
    have : ¬ (endTok l).kind = k := fun e => hk e.symm
    simp [h, this]
theorem peek_hd (l : List UInt8) {gs : List GTok} {s : RS} (tx : List UInt8) (he : s.e = 0) : peekR gs s 4 tx = tMark tx (hdR l gs s.i) := by
  unfold peekR doneR tMark
  rw [he]
  rcases Nat.lt_or_ge s.i gs.length with h | h
  · rw [hd_lt h, List.getElem?_eq_getElem h]
    simp [Nat.not_le.2 h]
    rw [Bool.beq_eq_decide_eq, Bool.beq_eq_decide_eq]
  · rw [hd_ge h, List.getElem?_eq_none h]
    have : ¬ (endTok l).kind = 4 := fun e => by cases e
    simp [h, this]
theorem fail_hd (l : List UInt8) (gs : List GTok) (s : RS) (j er : Int) (he : s.e = 0) : failR l gs s j er = ⟨s.i, (hdR l gs j.toNat).line, (hdR l gs j.toNat).col, er⟩ := by
  unfold failR hdR
  rw [if_pos he]
  cases gs[j.toNat]? <;> rfl
theorem anyT_hd (l : List UInt8) {gs : List GTok} {s : RS} {k : Int} (he : s.e = 0) (hk : k ≠ 0) (h : (hdR l gs s.i).kind = k) : anyT gs s k = hdR l gs s.i := by
  unfold anyT
  rw [kind_hd l he hk, decide_eq_true h, if_pos rfl, hd_lt (hd_kind (by rw [h]; exact hk)), List.getElem?_eq_getElem (hd_kind (l := l) (by rw [h]; exact hk))]
  rfl
theorem anyS_hd (l : List UInt8) {gs : List GTok} {s : RS} {k : Int} (he : s.e = 0) (hk : k ≠ 0) (h : (hdR l gs s.i).kind = k) : anyS l gs s k = ⟨s.i + 1, s.x, s.y, 0⟩ := by
  unfold anyS
  rw [kind_hd l he hk, decide_eq_true h, if_pos rfl, ← he]
theorem anyS_no (l : List UInt8) {gs : List GTok} {s : RS} {k : Int} (he : s.e = 0) (hk : k ≠ 0) (h : (hdR l gs s.i).kind ≠ k) : anyS l gs s k = ⟨s.i, (hdR l gs s.i).line, (hdR l gs s.i).col, 50⟩ := by
  unfold anyS
  rw [kind_hd l he hk, decide_eq_false h, if_neg (by simp), fail_hd _ _ _ _ _ he]
  rfl
theorem back_one (i : Nat) : (((i + 1 : Nat) : Int) - 1).toNat = i := by omega
theorem name_hd (l : List UInt8) {gs : List GTok} {s : RS} {k : Int} (he : s.e = 0) (hk : k ≠ 0) (h : (hdR l gs s.i).kind = k) : nameR l gs s k =
    if 24 < (hdR l gs s.i).text.length then ⟨s.i + 1, (hdR l gs s.i).line, (hdR l gs s.i).col, 63⟩ else ⟨s.i + 1, s.x, s.y, 0⟩ := by
  unfold nameR
  rw [anyT_hd l he hk h, anyS_hd l he hk h, fail_hd _ _ _ _ _ rfl]
  simp only [back_one]
theorem name_no (l : List UInt8) {gs : List GTok} {s : RS} {k : Int} (he : s.e = 0) (hk : k ≠ 0) (h : (hdR l gs s.i).kind ≠ k) : nameR l gs s k = ⟨s.i, (hdR l gs s.i).line, (hdR l gs s.i).col, 50⟩ := by
  unfold nameR anyT
  rw [kind_hd l he hk, decide_eq_false h, anyS_no l he hk h]
  simp
/-- A state of the reference's parser, and what the grammar gives: an error with the tokens at which it arose, or the tokens left. -/
def StR (l : List UInt8) (gs : List GTok) (s : RS) (e : Int) (ts : List GTok) : Prop :=
  s.e = e ∧ (e = 0 → s.i ≤ gs.length ∧ ts = atR l gs s.i) ∧ (e ≠ 0 → ∃ t r, ts = t :: r ∧ s.x = t.line ∧ s.y = t.col)
theorem StR.bad {l : List UInt8} {gs : List GTok} {i j : Nat} {e : Int} {r : List GTok} (he : e ≠ 0) : StR l gs ⟨i, (hdR l gs j).line, (hdR l gs j).col, e⟩ e (hdR l gs j :: r) := ⟨rfl, fun h => absurd h he, fun _ => ⟨_, _, rfl, rfl, rfl⟩⟩
theorem StR.good {l : List UInt8} {gs : List GTok} {i : Nat} {x y : Int} (hi : i ≤ gs.length) : StR l gs ⟨i, x, y, 0⟩ 0 (atR l gs i) := ⟨rfl, fun _ => ⟨hi, rfl⟩, fun h => absurd rfl h⟩
theorem errArg_mark {t : GTok} (h : tMark [45] t = true) : errArg t = 0 := by
  unfold tMark at h
  simp at h
  unfold errArg
  rw [if_neg (by omega), if_neg (by omega), if_neg (by simp [h.1, h.2])]
/-- The argument at a minus. -/
theorem arg_minus (l : List UInt8) {gs : List GTok} (hw : GsW gs) (s : RS) (he : s.e = 0) (hm : tMark [45] (hdR l gs s.i) = true) :
    StR l gs (argR l gs s).2 (pNeg (atR l gs (s.i + 1))).1 (pNeg (atR l gs (s.i + 1))).2.2 ∧ ((pNeg (atR l gs (s.i + 1))).1 = 0 → (argR l gs s).1 = (pNeg (atR l gs (s.i + 1))).2.1 ∧ s.i < (argR l gs s).2.i) := by
  have hp : peekR gs s 4 [45] = true := by rw [peek_hd l _ he]; exact hm
  have hk4 : (hdR l gs s.i).kind = 4 := by unfold tMark at hm; simp at hm; exact hm.1
  have hil := hd_kind (l := l) (gs := gs) (i := s.i) (by omega)
  have htk : takeR gs s 4 [45] = ⟨s.i + 1, s.x, s.y, 0⟩ := by unfold takeR; rw [hp, if_pos rfl, ← he]
  have ha : argR l gs s = (⟨1, (intR l gs s).1, []⟩, (intR l gs s).2) := by unfold argR; rw [if_pos (.inr hp)]
  rw [ha]
  obtain ⟨r, hr⟩ := at_cons l gs (s.i + 1)
  by_cases h2 : (hdR l gs (s.i + 1)).kind = 2
  · have hil2 := hd_kind (l := l) (gs := gs) (i := s.i + 1) (by omega)
    have htw := hd_tok (l := l) hw (i := s.i + 1) (by omega)
    have hT : anyT gs ⟨s.i + 1, s.x, s.y, 0⟩ 2 = hdR l gs (s.i + 1) := anyT_hd l rfl (by decide) h2
    have hS : anyS l gs ⟨s.i + 1, s.x, s.y, 0⟩ 2 = ⟨s.i + 1 + 1, s.x, s.y, 0⟩ := anyS_hd l rfl (by decide) h2
    rw [at_lt hil2, pNeg_cons, if_neg (by simp [h2])]
    by_cases hv : (hdR l gs (s.i + 1)).value ≤ 9223372036854775808
    · have hI : intR l gs s = (wrap64 (-(wrap64 (hdR l gs (s.i + 1)).value)), ⟨s.i + 1 + 1, s.x, s.y, 0⟩) := by
        unfold intR
        rw [htk, hT, hS, if_pos ⟨hp, hv⟩]
      rw [hI, if_neg (by omega)]
      refine ⟨StR.good (by omega), fun _ => ⟨?_, by show s.i < s.i + 1 + 1; omega⟩⟩
      have : wrap64 (-(wrap64 (hdR l gs (s.i + 1)).value)) = -(hdR l gs (s.i + 1)).value := by
        have := htw.low
        unfold wrap64; omega
      simp only [this]
    · have hI : intR l gs s = (0, ⟨s.i + 1 + 1, (hdR l gs (s.i + 1)).line, (hdR l gs (s.i + 1)).col, 6⟩) := by
        unfold intR
        rw [htk, hT, hS, if_neg (fun h => hv h.2), if_neg (fun h => by rw [hp] at h; cases h.1), fail_hd _ _ _ _ _ rfl]
        simp only [back_one]
      rw [hI, if_pos (by omega)]
      exact ⟨StR.bad (by decide), fun h => by cases h⟩
  · have hS : anyS l gs ⟨s.i + 1, s.x, s.y, 0⟩ 2 = ⟨s.i + 1, (hdR l gs (s.i + 1)).line, (hdR l gs (s.i + 1)).col, 50⟩ := anyS_no l rfl (by decide) h2
    have hI : (intR l gs s).2 = ⟨s.i + 1, (hdR l gs (s.i + 1)).line, (hdR l gs (s.i + 1)).col, 50⟩ := by
      unfold intR
      rw [htk, hS]
      split
      · rfl
      · split
        · rfl
        · simp only; exact failR_keep _ _ (fun h => by cases h)
    rw [hr, pNeg_cons, if_pos h2, hI]
    exact ⟨StR.bad (by decide), fun h => by cases h⟩
/-- The argument elsewhere. -/
theorem arg_other (l : List UInt8) {gs : List GTok} (hw : GsW gs) (s : RS) (he : s.e = 0) (hm : tMark [45] (hdR l gs s.i) = false) :
    if errArg (hdR l gs s.i) ≠ 0 then ∃ i, (argR l gs s).2 = ⟨i, (hdR l gs s.i).line, (hdR l gs s.i).col, errArg (hdR l gs s.i)⟩
    else (hdR l gs s.i).kind ≠ 4 ∧ (hdR l gs s.i).kind ≠ 0 ∧ argR l gs s = (if (hdR l gs s.i).kind = 2 then ⟨1, (hdR l gs s.i).value, []⟩ else ⟨2, 0, (hdR l gs s.i).text⟩, ⟨s.i + 1, s.x, s.y, 0⟩) := by
  have hp : peekR gs s 4 [45] = false := by rw [peek_hd l _ he]; exact hm
  have htk : takeR gs s 4 [45] = s := by unfold takeR; rw [hp]; rfl
  have hk1 := kind_hd l (gs := gs) (k := 1) he (by decide)
  have hk2 := kind_hd l (gs := gs) (k := 2) he (by decide)
  have hk3 := kind_hd l (gs := gs) (k := 3) he (by decide)
  by_cases h2 : (hdR l gs s.i).kind = 2
  · have htw := hd_tok (l := l) hw (i := s.i) (by omega)
    have hlo := htw.low
    have hT := anyT_hd l (gs := gs) (k := 2) he (by decide) h2
    have hS := anyS_hd l (gs := gs) (k := 2) he (by decide) h2
    have ha : argR l gs s = (⟨1, (intR l gs s).1, []⟩, (intR l gs s).2) := by unfold argR; rw [if_pos (.inl (by rw [hk2]; exact decide_eq_true h2))]
    rw [ha]
    by_cases hv : (hdR l gs s.i).value < 9223372036854775808
    · have hI : intR l gs s = (wrap64 (hdR l gs s.i).value, ⟨s.i + 1, s.x, s.y, 0⟩) := by
        unfold intR
        rw [htk, hT, hS, if_neg (fun h => by rw [hp] at h; cases h.1), if_pos ⟨hp, hv⟩]
      have hE : errArg (hdR l gs s.i) = 0 := by unfold errArg; rw [if_neg (by omega), if_neg (by omega), if_neg (by omega)]
      rw [if_neg (by simp [hE]), hI, if_pos h2, wrap64_in hlo (by omega)]
      exact ⟨by omega, by omega, rfl⟩
    · have hI : intR l gs s = (0, ⟨s.i + 1, (hdR l gs s.i).line, (hdR l gs s.i).col, 6⟩) := by
        unfold intR
        rw [htk, hT, hS, if_neg (fun h => by rw [hp] at h; cases h.1), if_neg (fun h => hv h.2), fail_hd _ _ _ _ _ rfl]
        simp only [back_one]
      have hE : errArg (hdR l gs s.i) = 6 := by unfold errArg; rw [if_pos ⟨h2, by omega⟩]
      rw [if_pos (by rw [hE]; decide), hI, hE]
      exact ⟨_, rfl⟩
  · have hn2 : ¬ (kindR gs s 2 = true ∨ peekR gs s 4 [45] = true) := by rw [hk2, hp]; simp [h2]
    by_cases h13 : (hdR l gs s.i).kind = 1 ∨ (hdR l gs s.i).kind = 3
    · have hil := hd_kind (l := l) (gs := gs) (i := s.i) (by omega)
      have hkd : kd gs s = (hdR l gs s.i).kind := by unfold kd; rw [List.getElem?_eq_getElem hil, hd_lt hil]
      have h0 : (hdR l gs s.i).kind ≠ 0 := by omega
      have hT := anyT_hd l (gs := gs) he h0 rfl
      have hN := name_hd l (gs := gs) he h0 rfl
      have ha : argR l gs s = (⟨2, 0, (hdR l gs s.i).text⟩, if (hdR l gs s.i).text = [] then failR l gs (nameR l gs s (hdR l gs s.i).kind) ((nameR l gs s (hdR l gs s.i).kind).i - 1) 63 else nameR l gs s (hdR l gs s.i).kind) := by
        unfold argR
        rw [if_neg hn2, if_pos (by rw [hk1, hk3]; simpa using h13), hkd, hT]
      rw [ha]
      by_cases hsz : sizedP (hdR l gs s.i).text = true
      · have hE : errArg (hdR l gs s.i) = 0 := by unfold errArg; rw [if_neg (by omega), if_neg (by simp [hsz]), if_neg (by omega)]
        have hs := hsz
        unfold sizedP at hs
        simp at hs
        rw [if_neg (by simp [hE]), if_neg h2, if_neg (by intro h; rw [h] at hs; simp at hs), hN, if_neg (by omega)]
        exact ⟨by omega, h0, rfl⟩
      · have hE : errArg (hdR l gs s.i) = 63 := by unfold errArg; rw [if_neg (by omega), if_pos ⟨h13, by simpa using hsz⟩]
        have hs := hsz
        unfold sizedP at hs
        simp at hs
        rw [if_pos (by rw [hE]; decide), hE]
        refine ⟨s.i + 1, ?_⟩
        simp only
        by_cases h24 : 24 < (hdR l gs s.i).text.length
        · rw [if_neg (by intro h; rw [h] at h24; simp at h24), hN, if_pos h24]
        · have hnil : (hdR l gs s.i).text = [] := by
            by_cases h : (hdR l gs s.i).text = []
            · exact h
            · exact absurd (hs (List.length_pos_iff.2 h)) h24
          rw [if_pos hnil, hN, if_neg h24, fail_hd _ _ _ _ _ rfl]
          simp only [back_one]
    · have hE : errArg (hdR l gs s.i) = 50 := by
        unfold errArg
        rw [if_neg (by omega), if_neg (fun h => h13 h.1), if_pos]
        by_cases h0 : (hdR l gs s.i).kind = 0
        · exact .inr h0
        · have hk := (hd_tok (l := l) hw h0).kind
          have h4 : (hdR l gs s.i).kind = 4 := by omega
          refine .inl ⟨h4, fun h => ?_⟩
          unfold tMark at hm
          simp [h4, h] at hm
      have ha : argR l gs s = (z0V, failR l gs s s.i 50) := by
        unfold argR
        rw [if_neg hn2, if_neg (by rw [hk1, hk3]; simpa using h13)]
      rw [if_pos (by rw [hE]; decide), hE, ha, fail_hd _ _ _ _ _ he]
      exact ⟨_, rfl⟩
end Go.Proofs.YtmodjokoggmnaaaGreatDoor


namespace Go.Proofs.YtmodjokoggmnaaaGreatDoor
open Go.RowKit Go.Shelf

theorem arg_keep {l : List UInt8} {gs : List GTok} {s : RS} (he : s.e ≠ 0) : argR l gs s = (z0V, s) := by
  have hk : ∀ k, kindR gs s k = false := fun k => by unfold kindR; simp [he]
  unfold argR
  rw [if_neg (by rw [hk, peek_no _ _ he]; simp), if_neg (by rw [hk, hk]; simp), failR_keep _ _ he]
theorem arg_room (l : List UInt8) {gs : List GTok} (hw : GsW gs) (s : RS) (n : Nat) (he : s.e = 0) :
    StR l gs (endS l gs s n) (pArg (decide (n < 8)) (atR l gs s.i)).1 (pArg (decide (n < 8)) (atR l gs s.i)).2.2 ∧
    ((pArg (decide (n < 8)) (atR l gs s.i)).1 = 0 → (argR l gs (midS l gs s n)).1 = (pArg (decide (n < 8)) (atR l gs s.i)).2.1 ∧ s.i < (endS l gs s n).i) := by
  obtain ⟨r, hr⟩ := at_cons l gs s.i
  by_cases hn : n < 8
  · have hmid : midS l gs s n = s := by unfold midS; rw [if_neg (by omega)]
    have hend : endS l gs s n = (argR l gs s).2 := by unfold endS; rw [if_neg (by omega), hmid]
    rw [hend, hmid, decide_eq_true hn]
    cases hm : tMark [45] (hdR l gs s.i)
    · have ho := arg_other l hw s he hm
      rw [hr, pArg_cons]
      by_cases hE : errArg (hdR l gs s.i) ≠ 0
      · rw [if_pos hE] at ho ⊢
        obtain ⟨i, hi⟩ := ho
        rw [hi]
        exact ⟨StR.bad hE, fun h => absurd h hE⟩
      · rw [if_neg hE] at ho ⊢
        obtain ⟨h4, h0, ha⟩ := ho
        have hil := hd_kind h0
        rw [at_lt hil] at hr
        injection hr with _ hr
        rw [if_neg (by decide), if_neg h4, ha, ← hr]
        by_cases h2 : (hdR l gs s.i).kind = 2
        · rw [if_pos h2, if_pos h2]
          exact ⟨StR.good (by omega), fun _ => ⟨rfl, by show s.i < s.i + 1; omega⟩⟩
        · rw [if_neg h2, if_neg h2]
          exact ⟨StR.good (by omega), fun _ => ⟨rfl, by show s.i < s.i + 1; omega⟩⟩
    · have h4 := (tMark_iff.1 hm).1
      have hil := hd_kind (l := l) (gs := gs) (i := s.i) (by omega)
      rw [at_lt hil, pArg_cons, if_neg (by simp [errArg_mark hm]), if_neg (by decide), if_pos h4]
      exact arg_minus l hw s he hm
  · rw [decide_eq_false hn]
    cases hm : tMark [45] (hdR l gs s.i)
    · have hp : peekR gs s 4 [45] = false := by rw [peek_hd l _ he]; exact hm
      have hmid : midS l gs s n = s := by unfold midS; rw [if_neg (by simp [hp])]
      have hend : endS l gs s n = failR l gs (argR l gs s).2 s.i 15 := by unfold endS; rw [if_pos (by omega), hmid]
      have ho := arg_other l hw s he hm
      rw [hend, hmid, hr, pArg_cons]
      by_cases hE : errArg (hdR l gs s.i) ≠ 0
      · rw [if_pos hE] at ho ⊢
        obtain ⟨i, hi⟩ := ho
        rw [hi, failR_keep _ _ hE]
        exact ⟨StR.bad hE, fun h => absurd h hE⟩
      · rw [if_neg hE] at ho ⊢
        obtain ⟨h4, h0, ha⟩ := ho
        rw [if_pos rfl, ha, fail_hd _ _ _ _ _ rfl]
        exact ⟨StR.bad (by decide), fun h => by cases h⟩
    · have hp : peekR gs s 4 [45] = true := by rw [peek_hd l _ he]; exact hm
      have hmid : midS l gs s n = ⟨s.i, (hdR l gs s.i).line, (hdR l gs s.i).col, 15⟩ := by unfold midS; rw [if_pos ⟨by omega, hp⟩, fail_hd _ _ _ _ _ he]; rfl
      have hend : endS l gs s n = ⟨s.i, (hdR l gs s.i).line, (hdR l gs s.i).col, 15⟩ := by
        unfold endS
        rw [if_pos (by omega), hmid, arg_keep (fun h => by cases h)]
        exact failR_keep _ _ (fun h => by cases h)
      rw [hend, hr, pArg_cons, if_neg (by simp [errArg_mark hm]), if_pos rfl]
      exact ⟨StR.bad (by decide), fun h => by cases h⟩
theorem need_hd (l : List UInt8) {gs : List GTok} {s : RS} (tx : List UInt8) (he : s.e = 0) : needR l gs s 4 tx = if tMark tx (hdR l gs s.i) then ⟨s.i + 1, s.x, s.y, 0⟩ else ⟨s.i, (hdR l gs s.i).line, (hdR l gs s.i).col, 50⟩ := by
  unfold needR
  rw [peek_hd l tx he, fail_hd _ _ _ _ _ he, ← he]
  rfl
theorem need_keep (l : List UInt8) {gs : List GTok} {s : RS} (tx : List UInt8) (he : s.e ≠ 0) : needR l gs s 4 tx = s := by
  unfold needR
  rw [peek_no _ _ he, failR_keep _ _ he]
  rfl
theorem two0_cons (s s2 : List UInt8) (t : GTok) (ts : List GTok) : two0 s s2 (t :: ts) = if tMark s t = false then ((50 : Int), t :: ts) else match ts with | [] => ((50 : Int), []) | u :: r => if tMark s2 u then ((0 : Int), r) else ((50 : Int), u :: r) := rfl
theorem need2_st (l : List UInt8) {gs : List GTok} (s : RS) (he : s.e = 0) :
    StR l gs (needR l gs (needR l gs s 4 [41]) 4 [46]) (two0 [41] [46] (atR l gs s.i)).1 (two0 [41] [46] (atR l gs s.i)).2 ∧ s.i ≤ (needR l gs (needR l gs s 4 [41]) 4 [46]).i := by
  obtain ⟨r, hr⟩ := at_cons l gs s.i
  rw [need_hd l [41] he, hr, two0_cons]
  cases hm : tMark [41] (hdR l gs s.i)
  · rw [if_neg (by simp), if_pos rfl, need_keep l [46] (fun h => by cases h)]
    exact ⟨StR.bad (by decide), Nat.le_refl _⟩
  · have hil := hd_kind (l := l) (gs := gs) (i := s.i) (by have := (tMark_iff.1 hm).1; omega)
    rw [at_lt hil] at hr
    injection hr with _ hr
    obtain ⟨r2, hr2⟩ := at_cons l gs (s.i + 1)
    rw [if_pos rfl, if_neg (by simp), ← hr, hr2, need_hd l [46] (s := ⟨s.i + 1, s.x, s.y, 0⟩) rfl]
    simp only
    cases hm2 : tMark [46] (hdR l gs (s.i + 1))
    · rw [if_neg (by simp), if_neg (by simp)]
      exact ⟨StR.bad (by decide), by show s.i ≤ s.i + 1; omega⟩
    · have hil2 := hd_kind (l := l) (gs := gs) (i := s.i + 1) (by have := (tMark_iff.1 hm2).1; omega)
      rw [at_lt hil2] at hr2
      injection hr2 with _ hr2
      rw [if_pos rfl, if_pos rfl, ← hr2]
      exact ⟨StR.good (by omega), by show s.i ≤ s.i + 1 + 1; omega⟩
theorem at_len (l : List UInt8) {gs : List GTok} {i : Nat} (hi : i ≤ gs.length) : (atR l gs i).length + i = gs.length + 1 := by unfold atR; simp; omega
theorem at_ends (l : List UInt8) {gs : List GTok} (hw : GsW gs) (i : Nat) : TEnds (atR l gs i) := ends_of _ _ (fun g hg => hw.tok g (List.mem_of_mem_drop hg)) rfl rfl
/-- The arguments and the two marks behind them. -/
theorem args_st (l : List UInt8) {gs : List GTok} (hw : GsW gs) : ∀ (n m : Nat) (s : RS) (a : List GVal), s.e = 0 → s.i ≤ gs.length → (atR l gs s.i).length ≤ n → gs.length + 1 ≤ m + s.i →
    StR l gs (needR l gs (needR l gs (rArgsR l gs m s a).1 4 [41]) 4 [46]) (pArgs n a (atR l gs s.i)).1 (pArgs n a (atR l gs s.i)).2.2 ∧
    ((pArgs n a (atR l gs s.i)).1 = 0 → (rArgsR l gs m s a).2 = (pArgs n a (atR l gs s.i)).2.1 ∧ s.i < (needR l gs (needR l gs (rArgsR l gs m s a).1 4 [41]) 4 [46]).i)
  | 0, m, s, a, he, hi, hn, hm => by have := at_len l hi; omega
  | n + 1, m, s, a, he, hi, hn, hm => by
    obtain ⟨m, rfl⟩ : ∃ k, m = k + 1 := ⟨m - 1, by omega⟩
    obtain ⟨h1, h2⟩ := arg_room l hw s a.length he
    have hst : pArgs (n + 1) a (atR l gs s.i) = if (pArg (decide (a.length < 8)) (atR l gs s.i)).1 ≠ 0 then ((pArg (decide (a.length < 8)) (atR l gs s.i)).1, [], (pArg (decide (a.length < 8)) (atR l gs s.i)).2.2) else
      match (pArg (decide (a.length < 8)) (atR l gs s.i)).2.2 with
      | [] => (50, a ++ [(pArg (decide (a.length < 8)) (atR l gs s.i)).2.1], [])
      | u :: ts2 => if tMark [44] u then pArgs n (a ++ [(pArg (decide (a.length < 8)) (atR l gs s.i)).2.1]) ts2 else ((two0 [41] [46] (u :: ts2)).1, a ++ [(pArg (decide (a.length < 8)) (atR l gs s.i)).2.1], (two0 [41] [46] (u :: ts2)).2) := by
      obtain ⟨r, hr⟩ := at_cons l gs s.i
      have := at_ends l hw s.i
      rw [hr] at this ⊢
      exact pArgs_step n a this
    rw [hst, rArgsR_step l gs m s a he]
    generalize pArg (decide (a.length < 8)) (atR l gs s.i) = q at *
    obtain ⟨qe, qv, qts⟩ := q
    generalize endS l gs s a.length = z at *
    generalize (argR l gs (midS l gs s a.length)).1 = v at *
    simp only at *
    by_cases hq : qe = 0
    · subst hq
      obtain ⟨rfl, hlt⟩ := h2 rfl
      obtain ⟨hze, hz, _⟩ := h1
      obtain ⟨hzi, rfl⟩ := hz rfl
      obtain ⟨r, hr⟩ := at_cons l gs z.i
      rw [if_neg (show ¬ ((0 : Int) ≠ 0) from fun h => h rfl), hr, peek_hd l [44] hze]
      simp only
      cases hk : tMark [44] (hdR l gs z.i)
      · rw [if_neg (by simp), if_neg (by simp), ← hr]
        obtain ⟨h3, h4⟩ := need2_st l z hze
        exact ⟨h3, fun _ => ⟨rfl, by simp only; omega⟩⟩
      · have hil := hd_kind (l := l) (gs := gs) (i := z.i) (by have := (tMark_iff.1 hk).1; omega)
        rw [at_lt hil] at hr
        injection hr with _ hr
        have htk : takeR gs z 4 [44] = ⟨z.i + 1, z.x, z.y, 0⟩ := by unfold takeR; rw [peek_hd l [44] hze, hk, if_pos rfl, ← hze]
        rw [if_pos rfl, if_pos rfl, htk, ← hr]
        have e1 := at_len l hi
        have e2 := at_len l (gs := gs) (i := z.i + 1) (by omega)
        obtain ⟨h3, h4⟩ := args_st l hw n m ⟨z.i + 1, z.x, z.y, 0⟩ (a ++ [v]) rfl (by show z.i + 1 ≤ gs.length; omega) (by show (atR l gs (z.i + 1)).length ≤ n; omega) (by show gs.length + 1 ≤ m + (z.i + 1); omega)
        exact ⟨h3, fun h => ⟨(h4 h).1, by have := (h4 h).2; simp only at this; omega⟩⟩
    · rw [if_pos hq]
      have hze : z.e ≠ 0 := by rw [h1.1]; exact hq
      rw [peek_no _ _ hze, if_neg (by simp)]
      simp only
      rw [need_keep l _ hze, need_keep l _ hze]
      exact ⟨h1, fun h => absurd h hq⟩
end Go.Proofs.YtmodjokoggmnaaaGreatDoor
