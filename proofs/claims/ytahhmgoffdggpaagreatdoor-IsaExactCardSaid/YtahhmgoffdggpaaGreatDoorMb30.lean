/-
  The text of a valid program is scanned as its tokens. Plain mathematics.
  Conditions: as each theorem says.
  The text of a valid program, scanned and assembled, is the program. Plain mathematics.
  Conditions: as each theorem says.
  The tokens of a program's text, the labels renamed. Plain mathematics.
  Conditions: as each theorem says.
-/
import Derived.Test.YtahhmgoffdggpaaGreatDoorMb27
import Derived.Test.YtahhmgoffdggpaaGreatDoorMb29
import Derived.Test.YtahhmgoffdggpaaGreatDoorMb14
import Derived.Test.YtahhmgoffdggpaaGreatDoorMb24
namespace Go.Proofs.YtahhmgoffdggpaaGreatDoor

open Go.RowKit Go.Shelf

/-- The text T is scanned asx the tokens bs, wherever what follows is asx P says. -/
def SpB (P : List UInt8 → Prop) (T : List UInt8) (bs : List Bare) : Prop := ∀ m, P m → ∀ p, ∃ q us, lex 0 p (T ++ m) = (lex 0 q m).app us ∧ us.map (fun u => u.g.bare) = bs
theorem app_app9 (r : Res) (a b : List Tok) : (r.app a).app b = r.app (b ++ a) := by cases r <;> simp [Res.app]
theorem SpB.cat {P Q : List UInt8 → Prop} {T T2 : List UInt8} {bs bs2 : List Bare} (h1 : SpB P T bs) (h2 : SpB Q T2 bs2) (h : ∀ m, Q m → P (T2 ++ m)) : SpB Q (T ++ T2) (bs ++ bs2) := fun m hm p => by
  obtain ⟨q, us, e1, b1⟩ := h1 (T2 ++ m) (h m hm) p
  obtain ⟨q2, us2, e2, b2⟩ := h2 m hm q
  exact ⟨q2, us ++ us2, by rw [List.append_assoc, e1, e2, app_app9], by rw [List.map_append, b1, b2]⟩
theorem SpB.mono {P Q : List UInt8 → Prop} {T : List UInt8} {bs : List Bare} (h : SpB P T bs) (hq : ∀ m, Q m → P m) : SpB Q T bs := fun m hm p => h m (hq m hm) p
theorem SpB.nil {P : List UInt8 → Prop} : SpB P [] [] := fun m _ p => ⟨p, [], by rw [app_nil]; rfl, rfl⟩
theorem SpB.tok (t : GTok) (h : wf t = true) (hv0 : 0 ≤ t.value) (hv : t.value < 18446744073709551616) : SpB Sep (txt t) [t.bare] := fun m hm p => by
  obtain ⟨q, u, hu, hl⟩ := lex_txt t h hv0 hv m hm p
  refine ⟨q, [u], ?_, ?_⟩
  · rw [hl]; cases lex 0 q m <;> rfl
  · simp [hu]
theorem SpB.word {w : List UInt8} (h : wordB w = true) : SpB Sep w [wdB w] := SpB.tok ⟨1, w, 0, 0, 0⟩ (by simp [wf, h]) (by show (0 : Int) ≤ 0; omega) (by show (0 : Int) < _; omega)
theorem SpB.num (v : Nat) (h : v < 18446744073709551616) : SpB Sep (decL v) [nB v] := by
  have := SpB.tok ⟨2, [], (v : Int), 0, 0⟩ rfl (by show (0 : Int) ≤ v; omega) (by show (v : Int) < _; omega)
  exact this
theorem SpB.space (b : UInt8) (hb : isSp b = true) {P : List UInt8 → Prop} : SpB P [b] [] := fun m _ p => ⟨adv p [b], [], by rw [app_nil]; exact lex_s b hb m p, rfl⟩
theorem SpB.mark (c : UInt8) (hc : c = 44 ∨ c = 45 ∨ c = 58 ∨ c = 59) {P : List UInt8 → Prop} (hP : ∀ m, P m → ∀ g r, m = g :: r → punct [c, g] = false) : SpB P [c] [mB c] := fun m hm p => by
  have hs : step ([c] ++ m) = .tok 4 [c] 0 1 := by
    have e : step ([c] ++ m) = marked ([c] ++ m) := by
      rcases hc with rfl | rfl | rfl | rfl <;> rfl
    rw [e]
    unfold marked
    have h1 : punct (([c] ++ m).take 1) = true := by
      rcases hc with rfl | rfl | rfl | rfl <;> rfl
    have h2 : ¬ (1 < ([c] ++ m).length ∧ punct (([c] ++ m).take 2) = true) := by
      rintro ⟨hl, hp⟩
      cases m with
      | nil => simp at hl
      | cons g r =>
        have := hP _ hm g r rfl
        have e2 : ([c] ++ g :: r).take 2 = [c, g] := rfl
        rw [e2, this] at hp
        cases hp
    rw [if_neg h2, if_pos h1]
    rfl
  refine ⟨adv p ([c] ++ m |>.take 1), [⟨4, [c], 0, p.1, p.2⟩], ?_, rfl⟩
  rw [lex_tk p (by simp) hs]
  have : ([c] ++ m).drop 1 = m := rfl
  rw [this]
  cases lex 0 (adv p (([c] ++ m).take 1)) m <;> rfl
theorem sep44b (m : List UInt8) : Sep (44 :: m) := .inr ⟨44, m, rfl, by decide, by decide, by decide, by decide⟩
theorem sep58b (m : List UInt8) : Sep (58 :: m) := .inr ⟨58, m, rfl, by decide, by decide, by decide, by decide⟩
theorem sep59b (m : List UInt8) : Sep (59 :: m) := .inr ⟨59, m, rfl, by decide, by decide, by decide, by decide⟩
/-- A mark and one white byte behind it. -/
theorem SpB.markSp (c b : UInt8) (hc : c = 44 ∨ c = 58 ∨ c = 59) (hb : b = 32 ∨ b = 10) {P : List UInt8 → Prop} : SpB P [c, b] [mB c] := by
  have h := SpB.cat (SpB.mark c (by rcases hc with rfl | rfl | rfl <;> simp) (P := fun m => ∃ r, m = b :: r) fun m hm g r e => by
    obtain ⟨r', rfl⟩ := hm
    injection e with e1 e2
    subst e1
    rcases hc with rfl | rfl | rfl <;> rcases hb with rfl | rfl <;> decide) (SpB.space b (by rcases hb with rfl | rfl <;> decide) (P := P)) fun m _ => ⟨m, rfl⟩
  simpa using h
theorem itoa9 (n : Int) : Lib.itoa n = if n < 0 then 45 :: decL (-n).toNat else decL n.toNat := by
  unfold Lib.itoa
  by_cases h : n < 0
  · rw [if_pos h, if_pos h, decDigits_decL, show (-n).toNat = n.natAbs by omega]
  · rw [if_neg h, if_neg h, decDigits_decL]
theorem lab_word {n : Int} (h0 : 0 ≤ n) (h1 : n < 18446744073709551616) : wordB (labW n) = true := by
  unfold labW
  rw [itoa9, if_neg (by omega)]
  have := decL_wb n.toNat (by omega)
  simp [wordB, this]
  decide
theorem fmt_word {k : Nat} (h : k < 28) : wordB (fmtN k).1 = true := by
  have : ∀ k : Fin 28, wordB (fmtN k.val).1 = true := by decide +kernel
  exact this ⟨k, h⟩
theorem reg_word {r : Nat} (h : r < 16) : wordB (regW r) = true := by
  have : ∀ r : Fin 16, wordB (regW r.val) = true := by decide
  exact this ⟨r, h⟩
theorem imm_lex {n : Int} (h0 : -9223372036854775808 ≤ n) (h1 : n ≤ 9223372036854775807) : SpB Sep (Lib.itoa n) (immB n) := by
  rw [itoa9]
  unfold immB
  by_cases hn : n < 0
  · rw [if_pos hn, if_pos hn]
    have hd := isDec (-n).toNat (by omega)
    obtain ⟨c, r, hc⟩ := List.exists_cons_of_ne_nil hd.ne
    have hall := hd.all
    rw [hc, List.all_cons, Bool.and_eq_true] at hall
    have h := SpB.cat (SpB.mark 45 (by simp) (P := fun m => ∃ g r, m = g :: r ∧ g ≠ 62) fun m hm g r e => by
      obtain ⟨g', r', rfl, hne⟩ := hm
      injection e with e1 e2
      subst e1
      simp [punct, marks2, hne]) (SpB.num (-n).toNat (by omega)) fun m _ => ⟨c, r ++ m, by rw [hc]; rfl, by rintro rfl; exact absurd hall.1 (by decide)⟩
    exact h
  · rw [if_neg hn, if_neg hn]
    exact SpB.num _ (by omega)
def joinB : List (List Bare) → List Bare
  | [] => []
  | b :: r => b ++ r.flatMap fun b => mB 44 :: b
theorem join_more : ∀ (ws : List (List UInt8 × List Bare)), (∀ y ∈ ws, SpB Sep y.1 y.2) → SpB Sep (ws.flatMap fun y => [44, 32] ++ y.1) ((ws.map Prod.snd).flatMap fun b => mB 44 :: b)
  | [], _ => SpB.nil
  | y :: r, h => by
    have h1 := h y List.mem_cons_self
    have h2 := join_more r fun x hx => h x (List.mem_cons_of_mem _ hx)
    have a1 : SpB (fun _ => True) [44, 32] [mB 44] := SpB.markSp 44 32 (by simp) (by simp)
    have a2 := SpB.cat (SpB.cat a1 h1 fun m _ => trivial) h2 fun m hm => by
      cases r with
      | nil => exact hm
      | cons a b => exact sep44b _
    simpa using a2
theorem joinW_eq : ∀ ws : List (List UInt8 × List Bare), joinW (ws.map Prod.fst) = match ws with | [] => [] | y :: r => y.1 ++ r.flatMap fun y => [44, 32] ++ y.1
  | [] => by simp [joinW, Lib.join_nil]
  | [y] => by simp [joinW, Lib.join_one]
  | y :: z :: r => by
    have := joinW_eq (z :: r)
    rw [List.map_cons, List.map_cons, joinW_cons, ← List.map_cons, this]
    simp
theorem join_lex (ws : List (List UInt8 × List Bare)) (h : ∀ y ∈ ws, SpB Sep y.1 y.2) : SpB Sep (joinW (ws.map Prod.fst)) (joinB (ws.map Prod.snd)) := by
  rw [joinW_eq]
  cases ws with
  | nil => exact SpB.nil
  | cons y r =>
    refine SpB.cat (h y List.mem_cons_self) (join_more r fun x hx => h x (List.mem_cons_of_mem _ hx)) fun m hm => ?_
    cases r with
    | nil => exact hm
    | cons a b => exact sep44b _
theorem regsB_join : ∀ (rs : List Nat) (i : Nat), regsB i rs = if 0 < i then (rs.map fun r => [wdB (regW r)]).flatMap (fun b => mB 44 :: b) else joinB (rs.map fun r => [wdB (regW r)])
  | [], i => by simp [regsB, joinB]
  | r :: rs, i => by
    rw [regsB, regsB_join rs (i + 1), if_pos (by omega)]
    unfold comB
    by_cases hi : 0 < i
    · rw [if_pos hi, if_pos hi]; simp
    · rw [if_neg hi, if_neg hi]; simp [joinB]
theorem joinB_app (a b : List (List Bare)) : joinB (a ++ b) = joinB a ++ (if a = [] then joinB b else b.flatMap fun b => mB 44 :: b) := by
  cases a with
  | nil => simp [joinB]
  | cons x r => simp [joinB]
end Go.Proofs.YtahhmgoffdggpaaGreatDoor


namespace Go.Proofs.YtahhmgoffdggpaaGreatDoor

open Go.RowKit Go.Shelf

def nmW (n : Nat) : List UInt8 := labW (n : Int)
theorem sep32b (m : List UInt8) : Sep (32 :: m) := .inr ⟨32, m, rfl, by decide, by decide, by decide, by decide⟩
theorem pre_lex (ps : List GIns) (k : Nat) (hk : k < 18446744073709551616) : SpB (fun _ => True) (preD ps k) (if tgt ps k = true then [wdB (nmW k), mB 58] else []) := by
  unfold preD
  by_cases h : tgt ps k = true
  · rw [if_pos h, if_pos h]
    exact SpB.cat (SpB.word (lab_word (n := (k : Int)) (by omega) (by omega))) (SpB.markSp 58 32 (by simp) (by simp)) fun m _ => sep58b _
  · rw [if_neg h, if_neg h]; exact SpB.nil
def opsP (x : GIns) : List (List UInt8 × List Bare) :=
  (regsN x (fmtN x.op.toNat).2.1).map (fun r => (regW r, [wdB (regW r)])) ++
    (if (fmtN x.op.toNat).2.2 = 1 then [(Lib.itoa x.imm, immB x.imm)] else if (fmtN x.op.toNat).2.2 = 2 then [(labW x.imm, [wdB (labW x.imm)])] else [])
theorem opsP_fst (x : GIns) : (opsP x).map Prod.fst = opW x := by
  unfold opsP opW regsW immW regsN
  rw [List.map_append, List.map_map]
  congr 1
  · show List.map regW _ = _
    rw [List.map_take]
    rfl
  · split
    · rfl
    · split <;> rfl
theorem opsP_snd {k n : Nat} (hk : k < 28) {x : GIns} (h : InsOk k n x) : joinB ((opsP x).map Prod.snd) = regsB 0 (regsN x (fmtN x.op.toNat).2.1) ++ lastB nmW (fmtN x.op.toNat).2 x.imm := by
  have hop : x.op.toNat = k := by rw [h.op]; rfl
  rw [hop]
  obtain ⟨hf1, hf2⟩ := fmt_few hk
  have htg := h.tg
  have hlen := regsN_len (x := x) hf1
  unfold opsP lastB
  rw [hop]
  generalize (fmtN k).2.1 = f at *
  have hr0 := regsB_join (regsN x f) 0
  rw [if_neg (by omega)] at hr0
  rw [hr0, List.map_append, joinB_app, List.map_map]
  have e1 : List.map (Prod.snd ∘ fun r => (regW r, [wdB (regW r)])) (regsN x f) = (regsN x f).map fun r => [wdB (regW r)] := rfl
  rw [e1]
  congr 1
  have hz : ((regsN x f).map fun r => [wdB (regW r)]) = [] ↔ f = 0 := by
    rw [List.map_eq_nil_iff, ← List.length_eq_zero_iff, hlen]
  unfold comB
  generalize (regsN x f).map (fun r => [wdB (regW r)]) = a at *
  by_cases h1 : (fmtN k).2.2 = 1
  · rw [if_pos h1, if_pos h1]
    by_cases h0 : f = 0
    · rw [if_pos (hz.2 h0), if_neg (by omega)]; simp [joinB]
    · rw [if_neg (fun hh => h0 (hz.1 hh)), if_pos (by omega)]; simp
  · rw [if_neg h1, if_neg h1]
    by_cases h2 : (fmtN k).2.2 = 2
    · obtain ⟨t0, _⟩ := htg h2
      have en : nmW x.imm.toNat = labW x.imm := by unfold nmW; rw [Int.toNat_of_nonneg t0]
      rw [if_pos h2, if_pos h2, en]
      by_cases h0 : f = 0
      · rw [if_pos (hz.2 h0), if_neg (by omega)]; simp [joinB]
      · rw [if_neg (fun hh => h0 (hz.1 hh)), if_pos (by omega)]; simp
    · rw [if_neg h2, if_neg h2]; simp [joinB]
theorem ins_lex {k n : Nat} (hk : k < 28) {x : GIns} (h : InsOk k n x) : SpB (fun _ => True) (insD x) (instB nmW x) := by
  have hop : x.op.toNat = k := by rw [h.op]; rfl
  have hs := opsP_snd hk h
  have hall : ∀ y ∈ opsP x, SpB Sep y.1 y.2 := fun y hy => by
    unfold opsP at hy
    rcases List.mem_append.1 hy with hm | hm
    · obtain ⟨r, hr, rfl⟩ := List.mem_map.1 hm
      exact SpB.word (reg_word (regsN_lt h _ r hr))
    · split at hm
      · simp at hm; subst hm
        exact imm_lex (by have := h.lo; omega) (by have := h.hi; omega)
      · split at hm
        · rename_i h2
          simp at hm; subst hm
          have := h.tg (by rw [← hop]; exact h2)
          have := h.hi
          exact SpB.word (lab_word (by omega) (by omega))
        · simp at hm
  have hj := join_lex (opsP x) hall
  rw [opsP_fst, hs] at hj
  have he : SpB (fun _ => True) [59, 10] [mB 59] := SpB.markSp 59 10 (by simp) (by simp)
  have hw : SpB Sep (fmtN x.op.toNat).1 [wdB (fmtN x.op.toNat).1] := SpB.word (by rw [hop]; exact fmt_word hk)
  have e : instB nmW x = [wdB (fmtN x.op.toNat).1] ++ ((regsB 0 (regsN x (fmtN x.op.toNat).2.1) ++ lastB nmW (fmtN x.op.toNat).2 x.imm) ++ [mB 59]) := by unfold instB; simp
  rw [e]
  unfold insD
  by_cases h0 : 0 < (opW x).length
  · rw [if_pos h0]
    have h1 : SpB Sep (32 :: joinW (opW x)) (regsB 0 (regsN x (fmtN x.op.toNat).2.1) ++ lastB nmW (fmtN x.op.toNat).2 x.imm) :=
      SpB.cat (P := fun _ => True) (SpB.space 32 (by decide)) hj fun _ _ => trivial
    exact SpB.cat hw (SpB.cat h1 he fun m _ => sep59b _) fun m _ => sep32b _
  · rw [if_neg h0]
    have hnil : opW x = [] := List.length_eq_zero_iff.1 (by omega)
    have hn2 : opsP x = [] := by
      have := congrArg List.length (opsP_fst x)
      rw [hnil, List.length_map] at this
      exact List.length_eq_zero_iff.1 this
    rw [hn2] at hs
    rw [← hs]
    exact SpB.cat hw he fun m _ => sep59b _
theorem progB_snoc {nm : Nat → List UInt8} {tg : Nat → Bool} : ∀ (xs : List GIns) (x : GIns) (i : Nat), progB nm nm tg i (xs ++ [x]) = progB nm nm tg i xs ++ lineB nm nm tg (i + xs.length) x
  | [], x, i => by simp [progB]
  | y :: r, x, i => by
    rw [List.cons_append, progB, progB, progB_snoc r x (i + 1), List.append_assoc, List.length_cons, show i + 1 + r.length = i + (r.length + 1) by omega]
theorem disF_lex {ps : List GIns} (h : AllOk ps.length ps) (hn : ps.length ≤ 4096) : ∀ k, k ≤ ps.length → SpB (fun _ => True) (disF ps k) (progB nmW nmW (tgt ps) 0 (ps.take k))
  | 0, _ => by simpa [disF, progB] using (SpB.nil (P := fun _ => True))
  | k + 1, hk => by
    have hlt : k < ps.length := by omega
    obtain ⟨o, ho, hx⟩ := h ps[k] (List.getElem_mem hlt)
    have h1 := disF_lex h hn k (by omega)
    rw [disF_succ ps k hlt, List.take_succ_eq_append_getElem hlt, progB_snoc, List.length_take, Nat.min_eq_left (by omega), Nat.zero_add]
    refine SpB.cat h1 ?_ fun _ _ => trivial
    unfold lineB
    exact SpB.cat (pre_lex ps k (by omega)) (ins_lex ho hx) fun _ _ => trivial
theorem nm_inj {a b : Nat} (ha : a < 18446744073709551616) (hb : b < 18446744073709551616) (h : nmW a = nmW b) : a = b := by
  unfold nmW labW at h
  rw [itoa9, itoa9, if_neg (by omega), if_neg (by omega)] at h
  injection h with _ h
  have h1 := (isDec a ha).val
  have h2 := (isDec b hb).val
  simp only [Int.toNat_natCast] at h
  rw [h] at h1
  omega
theorem nm_noreg (a : Nat) : regNo (nmW a) = none := by
  cases hr : regNo (nmW a) with
  | none => rfl
  | some r =>
    exfalso
    have := firstN_lt hr
    have h2 : regW r = nmW a := by simpa using this.2.2
    have hd : ∀ r : Fin 16, (regW r.val).head? ≠ some 76 := by decide
    refine hd ⟨r, by omega⟩ ?_
    show (regW r).head? = some 76
    rw [h2]; rfl
theorem dis_asm {ps : List GIns} (h : AllOk ps.length ps) (h1 : 1 ≤ ps.length) (h2 : ps.length ≤ 400) : ∃ s, asmAll (disF ps ps.length) = .ok () s ∧ s.prog = ps := by
  have hlex := disF_lex h (by omega) ps.length (Nat.le_refl _)
  rw [List.take_length] at hlex
  have hl := disF_len ps h.imm (by omega) ps.length (Nat.le_refl _)
  obtain ⟨q, us, e, hb⟩ := hlex [] trivial (1, 1)
  rw [List.append_nil] at e
  have hsc : scan (disF ps ps.length) = .ok us := by
    unfold scan
    rw [if_neg (by omega), e]
    simp [lex, Res.app]
  unfold asmAll
  rw [hsc]
  refine all_prog (nm := nmW) (tg := tgt ps) h1 (by omega) h ?_ ?_ ?_ ?_
  · intro a b ha hb' hab
    exact nm_inj (by omega) (by omega) hab
  · exact fun a _ => nm_noreg a
  · intro x hx hf
    obtain ⟨k, hk, h3⟩ := h x hx
    have hop : x.op.toNat = k := by rw [h3.op]; rfl
    obtain ⟨t0, _⟩ := h3.tg (by rw [← hop]; exact hf)
    unfold tgt
    rw [List.any_eq_true]
    exact ⟨x, hx, by simp [hf]; omega⟩
  · rw [List.map_append, List.map_map, ← hb]; rfl
end Go.Proofs.YtahhmgoffdggpaaGreatDoor


namespace Go.Proofs.YtahhmgoffdggpaaGreatDoor

open Go.RowKit Go.Shelf

/-- A token that is a label's word. -/
def isLB (b : Bare) : Bool := decide (b.1 = 1) && (b.2.1.head? == some 76)
def renB (p : List UInt8) (b : Bare) : Bare := if isLB b then (b.1, p ++ b.2.1, b.2.2) else b
def nextT : List Bare → List UInt8
  | [] => []
  | b :: _ => b.2.1
def useB (b : Bare) (r : List Bare) : Bool := isLB b && !(nextT r == [58])
def ren2 (ms : List UInt8) : List Bare → List Bare
  | [] => []
  | b :: r => (if useB b r then (b.1, ms, b.2.2) else b) :: ren2 ms r
def any2 : List Bare → Bool
  | [] => false
  | b :: r => useB b r || any2 r
theorem ren2_skip (ms : List UInt8) : ∀ (a r : List Bare), (∀ b ∈ a, isLB b = false) → ren2 ms (a ++ r) = a ++ ren2 ms r
  | [], r, _ => rfl
  | b :: a, r, h => by
    have hb := h b List.mem_cons_self
    rw [List.cons_append, ren2, ren2_skip ms a r (fun x hx => h x (List.mem_cons_of_mem _ hx))]
    simp [useB, hb]
theorem any2_skip : ∀ (a r : List Bare), (∀ b ∈ a, isLB b = false) → any2 (a ++ r) = any2 r
  | [], r, _ => rfl
  | b :: a, r, h => by
    have hb := h b List.mem_cons_self
    rw [List.cons_append, any2, any2_skip a r (fun x hx => h x (List.mem_cons_of_mem _ hx))]
    simp [useB, hb]
theorem renB_skip (p : List UInt8) (a : List Bare) (h : ∀ b ∈ a, isLB b = false) : a.map (renB p) = a := by
  have e : a.map (renB p) = a.map id := List.map_congr_left fun b hb => by simp [renB, h b hb]
  rw [e, List.map_id]
theorem isLB_fmt {k : Nat} (hk : k < 28) : isLB (wdB (fmtN k).1) = false := by
  have : ∀ k : Fin 28, isLB (wdB (fmtN k.val).1) = false := by decide +kernel
  exact this ⟨k, hk⟩
theorem isLB_reg {r : Nat} (h : r < 16) : isLB (wdB (regW r)) = false := by
  have : ∀ r : Fin 16, isLB (wdB (regW r.val)) = false := by decide
  exact this ⟨r, h⟩
theorem isLB_m (c : UInt8) : isLB (mB c) = false := by simp [isLB, mB]
theorem isLB_n (v : Nat) : isLB (nB v) = false := by simp [isLB, nB]
theorem isLB_nm (n : Nat) : isLB (wdB (nmW n)) = true := by simp [isLB, wdB, nmW, labW]
theorem com_no (i : Nat) : ∀ b ∈ comB i, isLB b = false := by
  intro b hb; unfold comB at hb; split at hb
  · simp at hb; subst hb; exact isLB_m _
  · simp at hb
theorem regs_no : ∀ (rs : List Nat) (i : Nat), (∀ r ∈ rs, r < 16) → ∀ b ∈ regsB i rs, isLB b = false
  | [], i, _, b, hb => by simp [regsB] at hb
  | r :: rs, i, h, b, hb => by
    rw [regsB] at hb
    rcases List.mem_append.1 hb with h1 | h1
    · exact com_no i b h1
    · rcases List.mem_cons.1 h1 with rfl | h2
      · exact isLB_reg (h r List.mem_cons_self)
      · exact regs_no rs (i + 1) (fun x hx => h x (List.mem_cons_of_mem _ hx)) b h2
theorem imm_no (v : Int) : ∀ b ∈ immB v, isLB b = false := by
  intro b hb; unfold immB at hb; split at hb
  · simp at hb; rcases hb with rfl | rfl
    · exact isLB_m _
    · exact isLB_n _
  · simp at hb; subst hb; exact isLB_n _
/-- What stands before an instruction's last operand. -/
def headB (x : GIns) : List Bare := wdB (fmtN x.op.toNat).1 :: regsB 0 (regsN x (fmtN x.op.toNat).2.1)
theorem head_no {k n : Nat} (hk : k < 28) {x : GIns} (h : InsOk k n x) : ∀ b ∈ headB x, isLB b = false := by
  have hop : x.op.toNat = k := by rw [h.op]; rfl
  intro b hb
  unfold headB at hb
  rw [hop] at hb
  rcases List.mem_cons.1 hb with rfl | hb
  · exact isLB_fmt hk
  · exact regs_no _ _ (regsN_lt h _) b hb
theorem inst_head (use : Nat → List UInt8) (x : GIns) : instB use x = headB x ++ (lastB use (fmtN x.op.toNat).2 x.imm ++ [mB 59]) := by unfold instB headB; simp
theorem inst_ren {k n : Nat} (hk : k < 28) {x : GIns} (h : InsOk k n x) (p : List UInt8) : (instB nmW x).map (renB p) = instB (fun i => p ++ nmW i) x := by
  rw [inst_head, inst_head, List.map_append, renB_skip p _ (head_no hk h), List.map_append]
  congr 1
  rw [show [mB 59].map (renB p) = [mB 59] from renB_skip p _ (by simp [isLB_m])]
  congr 1
  unfold lastB
  split
  · rw [renB_skip]
    intro b hb
    rcases List.mem_append.1 hb with h1 | h1
    · exact com_no _ b h1
    · exact imm_no _ b h1
  · split
    · rw [List.map_append, renB_skip p _ (com_no _)]
      congr 1
    · rfl
theorem inst_ren2 {k n : Nat} (hk : k < 28) {x : GIns} (h : InsOk k n x) (ms : List UInt8) (r : List Bare) : ren2 ms (instB nmW x ++ r) = instB (fun _ => ms) x ++ ren2 ms r := by
  have h59 : ∀ b ∈ [mB 59], isLB b = false := by simp [isLB_m]
  rw [inst_head, inst_head]
  simp only [List.append_assoc]
  rw [ren2_skip ms _ _ (head_no hk h)]
  congr 1
  unfold lastB
  by_cases h1 : (fmtN x.op.toNat).2.2 = 1
  · rw [if_pos h1, if_pos h1, ren2_skip ms _ _ (fun b hb => by
      rcases List.mem_append.1 hb with h1 | h1
      · exact com_no _ b h1
      · exact imm_no _ b h1), ren2_skip ms _ _ h59]
  · rw [if_neg h1, if_neg h1]
    by_cases h2 : (fmtN x.op.toNat).2.2 = 2
    · rw [if_pos h2, if_pos h2, List.append_assoc, List.append_assoc, ren2_skip ms _ _ (com_no _)]
      congr 1
    · rw [if_neg h2, if_neg h2, List.nil_append, List.nil_append, ren2_skip ms _ _ h59]
theorem inst_any2 {k n : Nat} (hk : k < 28) {x : GIns} (h : InsOk k n x) (r : List Bare) : any2 (instB nmW x ++ r) = (decide ((fmtN x.op.toNat).2.2 = 2) || any2 r) := by
  have h59 : ∀ b ∈ [mB 59], isLB b = false := by simp [isLB_m]
  rw [inst_head]
  simp only [List.append_assoc]
  rw [any2_skip _ _ (head_no hk h)]
  unfold lastB
  by_cases h1 : (fmtN x.op.toNat).2.2 = 1
  · rw [if_pos h1, any2_skip _ _ (fun b hb => by
      rcases List.mem_append.1 hb with h1 | h1
      · exact com_no _ b h1
      · exact imm_no _ b h1), any2_skip _ _ h59, h1]
    rfl
  · rw [if_neg h1]
    by_cases h2 : (fmtN x.op.toNat).2.2 = 2
    · rw [if_pos h2, List.append_assoc, any2_skip _ _ (com_no _)]
      show any2 (wdB (nmW x.imm.toNat) :: mB 59 :: r) = _
      rw [any2, any2]
      have u1 : useB (wdB (nmW x.imm.toNat)) (mB 59 :: r) = true := by simp [useB, isLB_nm, nextT, mB]
      rw [u1, h2]
      rfl
    · rw [if_neg h2, List.nil_append, any2_skip _ _ h59]
      simp [h2]
theorem def_ren2 (tg : Nat → Bool) (i : Nat) (ms : List UInt8) (r : List Bare) : ren2 ms ((if tg i then [wdB (nmW i), mB 58] else []) ++ r) = (if tg i then [wdB (nmW i), mB 58] else []) ++ ren2 ms r := by
  by_cases h : tg i = true
  · rw [if_pos h]
    show ren2 ms (wdB (nmW i) :: mB 58 :: r) = _
    rw [ren2, ren2]
    have u1 : useB (wdB (nmW i)) (mB 58 :: r) = false := by simp [useB, nextT, mB]
    have u2 : useB (mB 58) r = false := by simp [useB, isLB_m]
    rw [u1, u2]
    rfl
  · rw [if_neg h]; rfl
theorem def_any2 (tg : Nat → Bool) (i : Nat) (r : List Bare) : any2 ((if tg i then [wdB (nmW i), mB 58] else []) ++ r) = any2 r := by
  by_cases h : tg i = true
  · rw [if_pos h]
    show any2 (wdB (nmW i) :: mB 58 :: r) = _
    rw [any2, any2]
    have u1 : useB (wdB (nmW i)) (mB 58 :: r) = false := by simp [useB, nextT, mB]
    have u2 : useB (mB 58) r = false := by simp [useB, isLB_m]
    rw [u1, u2]
    rfl
  · rw [if_neg h]; rfl
theorem prog_ren {n : Nat} {tg : Nat → Bool} (p : List UInt8) : ∀ (xs : List GIns) (i : Nat), AllOk n xs → (progB nmW nmW tg i xs).map (renB p) = progB (fun i => p ++ nmW i) (fun i => p ++ nmW i) tg i xs
  | [], i, _ => rfl
  | x :: xs, i, h => by
    obtain ⟨k, hk, hx⟩ := h x List.mem_cons_self
    rw [progB, progB, List.map_append, prog_ren p xs (i + 1) (fun y hy => h y (List.mem_cons_of_mem _ hy))]
    congr 1
    unfold lineB
    rw [List.map_append, inst_ren hk hx p]
    congr 1
    split
    · show [renB p (wdB (nmW i)), renB p (mB 58)] = _
      rw [renB, if_pos (isLB_nm _), renB, if_neg (by rw [isLB_m]; decide)]
      rfl
    · rfl
theorem prog_ren2 {n : Nat} {tg : Nat → Bool} (ms : List UInt8) : ∀ (xs : List GIns) (i : Nat), AllOk n xs → ren2 ms (progB nmW nmW tg i xs) = progB nmW (fun _ => ms) tg i xs
  | [], i, _ => rfl
  | x :: xs, i, h => by
    obtain ⟨k, hk, hx⟩ := h x List.mem_cons_self
    have ih := prog_ren2 (tg := tg) ms xs (i + 1) (fun y hy => h y (List.mem_cons_of_mem _ hy))
    rw [progB, progB]
    unfold lineB
    rw [List.append_assoc, def_ren2, inst_ren2 hk hx, ih, List.append_assoc]
theorem prog_any2 {n : Nat} {tg : Nat → Bool} : ∀ (xs : List GIns) (i : Nat), AllOk n xs → any2 (progB nmW nmW tg i xs) = xs.any fun x => decide ((fmtN x.op.toNat).2.2 = 2)
  | [], i, _ => rfl
  | x :: xs, i, h => by
    obtain ⟨k, hk, hx⟩ := h x List.mem_cons_self
    have ih := prog_any2 (tg := tg) xs (i + 1) (fun y hy => h y (List.mem_cons_of_mem _ hy))
    rw [progB]
    unfold lineB
    rw [List.append_assoc, def_any2, inst_any2 hk hx, ih, List.any_cons]
/-- Where no operand is a label, the labels' names do not matter. -/
theorem prog_nouse {dfn u1 u2 : Nat → List UInt8} {tg : Nat → Bool} : ∀ (xs : List GIns) (i : Nat), (∀ x ∈ xs, (fmtN x.op.toNat).2.2 ≠ 2) → progB dfn u1 tg i xs = progB dfn u2 tg i xs
  | [], i, _ => rfl
  | x :: xs, i, h => by
    rw [progB, progB, prog_nouse xs (i + 1) (fun y hy => h y (List.mem_cons_of_mem _ hy))]
    congr 1
    unfold lineB instB lastB
    have := h x List.mem_cons_self
    simp [this]
/-- A bare token that has a text. -/
structure BOk (b : Bare) : Prop where
  wf : wf ⟨b.1, b.2.1, b.2.2, 0, 0⟩ = true
  v0 : 0 ≤ b.2.2
  v1 : b.2.2 < 18446744073709551616
  len : b.2.1.length ≤ 45
  tx : (txt ⟨b.1, b.2.1, b.2.2, 0, 0⟩).length ≤ 45
theorem ok_word {w : List UInt8} (h : wordB w = true) (hl : w.length ≤ 45) : BOk (wdB w) := ⟨by simp [wdB, wf, h], by simp [wdB], by simp [wdB], hl, by simpa [wdB, txt] using hl⟩
theorem ok_num {v : Nat} (h : v < 18446744073709551616) : BOk (nB v) := ⟨by simp [nB, wf], by simp [nB], by simp [nB]; omega, by simp [nB], by have := (isDec v h).len; simp [nB, txt]; omega⟩
theorem ok_m (c : UInt8) (h : c = 44 ∨ c = 45 ∨ c = 58 ∨ c = 59) : BOk (mB c) := ⟨by rcases h with rfl | rfl | rfl | rfl <;> rfl, by simp [mB], by simp [mB], by simp [mB], by simp [mB, txt]⟩
theorem ok_com (i : Nat) : ∀ b ∈ comB i, BOk b := by
  intro b hb; unfold comB at hb; split at hb
  · simp at hb; subst hb; exact ok_m _ (by simp)
  · simp at hb
theorem ok_regs : ∀ (rs : List Nat) (i : Nat), (∀ r ∈ rs, r < 16) → ∀ b ∈ regsB i rs, BOk b
  | [], i, _, b, hb => by simp [regsB] at hb
  | r :: rs, i, h, b, hb => by
    rw [regsB] at hb
    rcases List.mem_append.1 hb with h1 | h1
    · exact ok_com i b h1
    · rcases List.mem_cons.1 h1 with rfl | h2
      · exact ok_word (reg_word (h r List.mem_cons_self)) (by have := regW_short r; omega)
      · exact ok_regs rs (i + 1) (fun x hx => h x (List.mem_cons_of_mem _ hx)) b h2
theorem ok_prog {n N : Nat} {dfn use : Nat → List UInt8} {tg : Nat → Bool} (hd : ∀ i, i < N → wordB (dfn i) = true ∧ (dfn i).length ≤ 45) (hu : ∀ i, i < n → wordB (use i) = true ∧ (use i).length ≤ 45) :
    ∀ (xs : List GIns) (i : Nat), AllOk n xs → i + xs.length ≤ N → ∀ b ∈ progB dfn use tg i xs, BOk b
  | [], i, _, _, b, hb => by simp [progB] at hb
  | x :: xs, i, h, hN, b, hb => by
    obtain ⟨k, hk, hx⟩ := h x List.mem_cons_self
    have hop : x.op.toNat = k := by rw [hx.op]; rfl
    simp only [List.length_cons] at hN
    rw [progB] at hb
    rcases List.mem_append.1 hb with hb | hb
    · unfold lineB at hb
      rcases List.mem_append.1 hb with hb | hb
      · split at hb
        · simp at hb
          rcases hb with rfl | rfl
          · exact ok_word (hd i (by omega)).1 (hd i (by omega)).2
          · exact ok_m _ (by simp)
        · simp at hb
      · unfold instB at hb
        rcases List.mem_cons.1 hb with rfl | hb
        · exact ok_word (by rw [hop]; exact fmt_word hk) (by have := fmt_short x.op.toNat; omega)
        · rcases List.mem_append.1 hb with hb | hb
          · exact ok_regs _ _ (regsN_lt hx _) b hb
          · rcases List.mem_append.1 hb with hb | hb
            · unfold lastB at hb
              split at hb
              · rcases List.mem_append.1 hb with hb | hb
                · exact ok_com _ b hb
                · have h1 := hx.lo
                  have h2 := hx.hi
                  unfold immB at hb
                  split at hb
                  · simp at hb
                    rcases hb with rfl | rfl
                    · exact ok_m _ (by simp)
                    · exact ok_num (by omega)
                  · simp at hb; subst hb
                    exact ok_num (by omega)
              · split at hb
                · rename_i h2
                  rcases List.mem_append.1 hb with hb | hb
                  · exact ok_com _ b hb
                  · have := hx.tg (by rw [← hop]; exact h2)
                    simp at hb; subst hb
                    exact ok_word (hu _ (by omega)).1 (hu _ (by omega)).2
                · simp at hb
            · simp at hb; subst hb; exact ok_m _ (by simp)
    · exact ok_prog hd hu xs (i + 1) (fun y hy => h y (List.mem_cons_of_mem _ hy)) (by omega) b hb
theorem regsB_len : ∀ (rs : List Nat) (i : Nat), (regsB i rs).length ≤ 2 * rs.length
  | [], i => by simp [regsB]
  | r :: rs, i => by
    have := regsB_len rs (i + 1)
    have h2 : (comB i).length ≤ 1 := by unfold comB; split <;> simp
    rw [regsB]
    simp only [List.length_append, List.length_cons]
    omega
theorem progB_few {dfn use : Nat → List UInt8} {tg : Nat → Bool} : ∀ (xs : List GIns) (i : Nat), (progB dfn use tg i xs).length ≤ 13 * xs.length
  | [], i => by simp [progB]
  | x :: xs, i => by
    have ih := progB_few (dfn := dfn) (use := use) (tg := tg) xs (i + 1)
    have h1 := regsB_len (regsN x (fmtN x.op.toNat).2.1) 0
    have h2 : (regsN x (fmtN x.op.toNat).2.1).length ≤ 3 := by unfold regsN; rw [List.length_take]; simp; omega
    have h4 : (comB (fmtN x.op.toNat).2.1).length ≤ 1 := by unfold comB; split <;> simp
    have h5 : (immB x.imm).length ≤ 2 := by unfold immB; split <;> simp
    have h3 : (lastB use (fmtN x.op.toNat).2 x.imm).length ≤ 3 := by
      unfold lastB
      split
      · simp only [List.length_append]; omega
      · split
        · simp only [List.length_append, List.length_cons, List.length_nil]; omega
        · simp
    have h6 : (lineB dfn use tg i x).length ≤ 13 := by
      unfold lineB instB
      split <;> simp only [List.length_append, List.length_cons, List.length_nil] <;> omega
    rw [progB, List.length_append, List.length_cons]
    omega
theorem bok_wf {ts : List GTok} (h : ∀ b ∈ ts.map GTok.bare, BOk b) : WfAll ts := fun t ht => by
  have hb := h t.bare (List.mem_map_of_mem ht)
  exact ⟨(wf_bare (a := t) (b := ⟨t.bare.1, t.bare.2.1, t.bare.2.2, 0, 0⟩) rfl).1.trans hb.wf, hb.v0, hb.v1⟩
theorem bok_tx {ts : List GTok} (h : ∀ b ∈ ts.map GTok.bare, BOk b) : ∀ t ∈ ts, (txt t).length ≤ 45 ∧ t.text.length ≤ 45 := fun t ht => by
  have hb := h t.bare (List.mem_map_of_mem ht)
  have e := (wf_bare (a := t) (b := ⟨t.bare.1, t.bare.2.1, t.bare.2.2, 0, 0⟩) rfl).2
  exact ⟨by rw [e]; exact hb.tx, hb.len⟩
theorem tail_len9 : ∀ (ts : List GTok), (∀ t ∈ ts, (txt t).length ≤ 45) → (tailT ts).length ≤ 46 * ts.length
  | [], _ => by simp [tailT]
  | t :: r, h => by
    have h1 := h t List.mem_cons_self
    have h2 := tail_len9 r fun x hx => h x (List.mem_cons_of_mem _ hx)
    unfold tailT at *
    rw [List.flatMap_cons]
    simp only [List.length_append, List.length_cons]
    omega
theorem join_len9 (ts : List GTok) (h : ∀ t ∈ ts, (txt t).length ≤ 45) : (joinT ts).length ≤ 46 * ts.length := by
  cases ts with
  | nil => simp [joinT]
  | cons t r =>
    have h1 := h t List.mem_cons_self
    have h2 := tail_len9 r fun x hx => h x (List.mem_cons_of_mem _ hx)
    rw [joinT, List.length_append, List.length_cons]
    omega
/-- Formatted tokens, assembled: the tokens are those again, and the end behind them. -/
theorem fmt_asm {ts : List GTok} {P : List Bare} (h : ts.map GTok.bare = P) (hok : ∀ b ∈ P, BOk b) (hl : P.length ≤ 400) : ∃ us : List GTok, us.map GTok.bare = P ++ [eB] ∧ asmAll (fmtL ts) = aAll us ∧ (fmtL ts).length ≤ 18400 ∧ Few ts := by
  subst h
  have hw := bok_wf hok
  have ht := bok_tx hok
  rw [List.length_map] at hl
  have hf : fmtL ts = joinT ts := by
    unfold fmtL
    rw [if_pos (List.all_eq_true.2 fun t ht => (hw t ht).1)]
  have hlen := join_len9 ts fun t h => (ht t h).1
  obtain ⟨us, e, hb⟩ := lex_join ts hw (1, 1)
  refine ⟨us.map Tok.g ++ [endTok (fmtL ts)], ?_, ?_, by rw [hf]; omega, by omega, fun t h => ⟨by have := (ht t h).2; omega, (hw t h).2⟩⟩
  · rw [List.map_append, List.map_map]
    unfold bareEq at hb
    rw [← hb]
    rfl
  · unfold asmAll
    rw [hf]
    have : scan (joinT ts) = .ok us := by
      unfold scan
      rw [if_neg (by omega), e]
    rw [this]
theorem word_app {p q : List UInt8} (hp : wordB p = true) (hq : wordB q = true) : wordB (p ++ q) = true := by
  cases p with
  | nil => simp [wordB] at hp
  | cons c r =>
    cases q with
    | nil => simp [wordB] at hq
    | cons d u =>
      simp only [wordB, Bool.and_eq_true] at hp hq
      have hd : isWB d = true := by rw [wb_eq, hq.1]; rfl
      simp [wordB, hp.1, hp.2, hq.2, hd]
theorem nm_word (n : Nat) (h : n < 9223372036854775808) : wordB (nmW n) = true ∧ (nmW n).length ≤ 22 := by
  have := Lib.itoa_length_le (n : Int) (by omega) (by omega)
  exact ⟨lab_word (by omega) (by omega), by simp [nmW, labW]; omega⟩
theorem has_noreg {w : List UInt8} (h : (76 : UInt8) ∈ w) : regNo w = none := by
  cases hr : regNo w with
  | none => rfl
  | some r =>
    exfalso
    have := firstN_lt hr
    have h2 : regW r = w := by simpa using this.2.2
    have hd : ∀ r : Fin 16, (76 : UInt8) ∉ regW r.val := by decide
    exact hd ⟨r, by omega⟩ (by show (76 : UInt8) ∈ regW r; rw [h2]; exact h)
def msW : List UInt8 := [109, 105, 115, 115, 105, 110, 103]
theorem tgt_mem {ps : List GIns} (h : AllOk ps.length ps) : ∀ x ∈ ps, (fmtN x.op.toNat).2.2 = 2 → tgt ps x.imm.toNat = true := by
  intro x hx hf
  obtain ⟨k, hk, h3⟩ := h x hx
  have hop : x.op.toNat = k := by rw [h3.op]; rfl
  obtain ⟨t0, _⟩ := h3.tg (by rw [← hop]; exact hf)
  unfold tgt
  rw [List.any_eq_true]
  exact ⟨x, hx, by simp [hf]; omega⟩
theorem labs_ok {ps : List GIns} (h : AllOk ps.length ps) (h1 : 1 ≤ ps.length) (h2 : ps.length ≤ 12) {p : List UInt8} (hp : wordB p = true) (hpl : p.length ≤ 20) {T U : List GTok} (hT : T.map GTok.bare = progB nmW nmW (tgt ps) 0 ps) (hU : U.map GTok.bare = (T.map GTok.bare).map (renB p)) :
    ∃ s, asmAll (fmtL U) = .ok () s ∧ s.prog = ps ∧ (fmtL U).length ≤ 18400 ∧ Few U := by
  rw [hT, prog_ren p ps 0 h] at hU
  have hw : ∀ i, i < ps.length → wordB (p ++ nmW i) = true ∧ (p ++ nmW i).length ≤ 45 := fun i hi => by
    obtain ⟨w1, w2⟩ := nm_word i (by omega)
    exact ⟨word_app hp w1, by rw [List.length_append]; omega⟩
  have hf := progB_few (dfn := fun i => p ++ nmW i) (use := fun i => p ++ nmW i) (tg := tgt ps) ps 0
  obtain ⟨us, hb, ha, hl, hF⟩ := fmt_asm hU (ok_prog (n := ps.length) (N := ps.length) hw hw ps 0 h (by omega)) (by omega)
  obtain ⟨s, hs, hq⟩ := all_prog (nm := fun i => p ++ nmW i) (tg := tgt ps) h1 (by omega) h (fun a b ha hb' hab => nm_inj (by omega) (by omega) (List.append_cancel_left hab)) (fun a _ => has_noreg (by simp [nmW, labW])) (tgt_mem h) hb
  exact ⟨s, by rw [ha, hs], hq, hl, hF⟩
theorem labs_miss {ps : List GIns} (h : AllOk ps.length ps) (h1 : 1 ≤ ps.length) (h2 : ps.length ≤ 12) {T W : List GTok} (hT : T.map GTok.bare = progB nmW nmW (tgt ps) 0 ps) (hW : W.map GTok.bare = ren2 msW (T.map GTok.bare)) :
    (if any2 (T.map GTok.bare) = true then ∃ a b, asmAll (fmtL W) = .thr a b 72 else ∃ s, asmAll (fmtL W) = .ok () s) ∧ (fmtL W).length ≤ 18400 ∧ Few W := by
  rw [hT, prog_ren2 msW ps 0 h] at hW
  rw [hT, prog_any2 ps 0 h]
  have hw : ∀ i, i < ps.length → wordB (nmW i) = true ∧ (nmW i).length ≤ 45 := fun i hi => by
    obtain ⟨w1, w2⟩ := nm_word i (by omega)
    exact ⟨w1, by omega⟩
  have hf := progB_few (dfn := nmW) (use := fun _ => msW) (tg := tgt ps) ps 0
  obtain ⟨us, hb, ha, hl, hF⟩ := fmt_asm hW (ok_prog (n := ps.length) (N := ps.length) hw (fun _ _ => ⟨by decide, by decide⟩) ps 0 h (by omega)) (by omega)
  refine ⟨?_, hl, hF⟩
  have hinj : ∀ a b, a < ps.length → b < ps.length → nmW a = nmW b → a = b := fun a b ha hb' hab => nm_inj (by omega) (by omega) hab
  split
  · rename_i hj
    obtain ⟨x, hx, hf2⟩ := List.any_eq_true.1 hj
    obtain ⟨a, b, e⟩ := all_miss (dfn := nmW) (miss := msW) (tg := tgt ps) h1 (by omega) h hinj (fun a _ => nm_noreg a) (by decide) (fun a _ hh => by simp [nmW, labW, msW] at hh) ⟨x, hx, by simpa using hf2⟩ hb
    exact ⟨a, b, by rw [ha, e]⟩
  · rename_i hj
    have hno : ∀ x ∈ ps, (fmtN x.op.toNat).2.2 ≠ 2 := fun x hx hh => hj (List.any_eq_true.2 ⟨x, hx, by simpa using hh⟩)
    rw [prog_nouse (u2 := nmW) ps 0 hno] at hb
    obtain ⟨s, hs, _⟩ := all_prog (nm := nmW) (tg := tgt ps) h1 (by omega) h hinj (fun a _ => nm_noreg a) (tgt_mem h) hb
    exact ⟨s, by rw [ha, hs]⟩
end Go.Proofs.YtahhmgoffdggpaaGreatDoor
