/-
  The text of a valid program is scanned as its tokens. Plain mathematics.
  Conditions: as each theorem says.
  The text of a valid program, scanned and assembled, is the program. Plain mathematics.
  Conditions: as each theorem says.
  Encoding and decoding are inverse, plain.
  Conditions: as each theorem says.
-/
import Derived.Test.YtogebcgkcijacaaGreatDoorMb27
import Derived.Test.YtogebcgkcijacaaGreatDoorMb29
import Derived.Test.YtogebcgkcijacaaGreatDoorMb14
import Derived.Test.YtogebcgkcijacaaGreatDoorMb25
namespace Go.Proofs.YtogebcgkcijacaaGreatDoor

open Go.RowKit Go.Shelf

/-- The text T is scanned asx the tokens bs, wherever what follows is asx P says. -/
def SpB (P : List UInt8 → Prop) (T : List UInt8) (bs : List Bare) : Prop := ∀ m, P m → ∀ p, ∃ q us, lex 0 p (T ++ m) = (lex 0 q m).app us ∧ us.map (fun u => u.g.bare) = bs
theorem app_app9 (r : Res) (a b : List Tok) : (r.app a).app b = r.app (b ++ a) := by cases r <;> simp [Res.app]
theorem SpB.cat {P Q : List UInt8 → Prop} {T T2 : List UInt8} {bs bs2 : List Bare} (h1 : SpB P T bs) (h2 : SpB Q T2 bs2) (h : ∀ m, Q m → P (T2 ++ m)) : SpB Q (T ++ T2) (bs ++ bs2) := fun m hm p => by
  obtain ⟨q, us, e1, b1⟩ := h1 (T2 ++ m) (h m hm) p
  obtain ⟨q2, us2, e2, b2⟩ := h2 m hm q
  exact ⟨q2, us ++ us2, by rw [List.append_assoc, e1, e2, app_app9], by rw [List.map_append, b1, b2]⟩
theorem SpB.mono {P Q : List UInt8 → Prop} {T : List UInt8} {bs : List Bare} (h : SpB P T bs) (hq : ∀ m, Q m → P m) : SpB Q T bs := fun m hm p => h m (hq m hm) p
theorem SpB.nil {P : List UInt8 → Prop} : SpB P [] [] := fun m _ p => ⟨p, [], by rw [app_nil]; rfl, rfl⟩
theorem SpB.tok (t : GTok) (h : wf t = true) (hv0 : 0 ≤ t.value) (hv : t.value < 18446744073709551616) : SpB Sep (txt t) [t.bare] := fun m hm p => by
  obtain ⟨q, u, hu, hl⟩ := lex_txt t h hv0 hv m hm p
  refine ⟨q, [u], ?_, ?_⟩
  · rw [hl]; cases lex 0 q m <;> rfl
  · simp [hu]
theorem SpB.word {w : List UInt8} (h : wordB w = true) : SpB Sep w [wdB w] := SpB.tok ⟨1, w, 0, 0, 0⟩ (by simp [wf, h]) (by show (0 : Int) ≤ 0; omega) (by show (0 : Int) < _; omega)
theorem SpB.num (v : Nat) (h : v < 18446744073709551616) : SpB Sep (decL v) [nB v] := by
  have := SpB.tok ⟨2, [], (v : Int), 0, 0⟩ rfl (by show (0 : Int) ≤ v; omega) (by show (v : Int) < _; omega)
  exact this
theorem SpB.space (b : UInt8) (hb : isSp b = true) {P : List UInt8 → Prop} : SpB P [b] [] := fun m _ p => ⟨adv p [b], [], by rw [app_nil]; exact lex_s b hb m p, rfl⟩
theorem SpB.mark (c : UInt8) (hc : c = 44 ∨ c = 45 ∨ c = 58 ∨ c = 59) {P : List UInt8 → Prop} (hP : ∀ m, P m → ∀ g r, m = g :: r → punct [c, g] = false) : SpB P [c] [mB c] := fun m hm p => by
  have hs : step ([c] ++ m) = .tok 4 [c] 0 1 := by
    have e : step ([c] ++ m) = marked ([c] ++ m) := by
      rcases hc with rfl | rfl | rfl | rfl <;> rfl
    rw [e]
    unfold marked
    have h1 : punct (([c] ++ m).take 1) = true := by
      rcases hc with rfl | rfl | rfl | rfl <;> rfl
    have h2 : ¬ (1 < ([c] ++ m).length ∧ punct (([c] ++ m).take 2) = true) := by
      rintro ⟨hl, hp⟩
      cases m with
      | nil => simp at hl
      | cons g r =>
        have := hP _ hm g r rfl
        have e2 : ([c] ++ g :: r).take 2 = [c, g] := rfl
        rw [e2, this] at hp
        cases hp
    rw [if_neg h2, if_pos h1]
    rfl
  refine ⟨adv p ([c] ++ m |>.take 1), [⟨4, [c], 0, p.1, p.2⟩], ?_, rfl⟩
  rw [lex_tk p (by simp) hs]
  have : ([c] ++ m).drop 1 = m := rfl
  rw [this]
  cases lex 0 (adv p (([c] ++ m).take 1)) m <;> rfl
theorem sep44b (m : List UInt8) : Sep (44 :: m) := .inr ⟨44, m, rfl, by decide, by decide, by decide, by decide⟩
theorem sep58b (m : List UInt8) : Sep (58 :: m) := .inr ⟨58, m, rfl, by decide, by decide, by decide, by decide⟩
theorem sep59b (m : List UInt8) : Sep (59 :: m) := .inr ⟨59, m, rfl, by decide, by decide, by decide, by decide⟩
/-- A mark and one white byte behind it. -/
theorem SpB.markSp (c b : UInt8) (hc : c = 44 ∨ c = 58 ∨ c = 59) (hb : b = 32 ∨ b = 10) {P : List UInt8 → Prop} : SpB P [c, b] [mB c] := by
  have h := SpB.cat (SpB.mark c (by rcases hc with rfl | rfl | rfl <;> simp) (P := fun m => ∃ r, m = b :: r) fun m hm g r e => by
    obtain ⟨r', rfl⟩ := hm
    injection e with e1 e2
    subst e1
    rcases hc with rfl | rfl | rfl <;> rcases hb with rfl | rfl <;> decide) (SpB.space b (by rcases hb with rfl | rfl <;> decide) (P := P)) fun m _ => ⟨m, rfl⟩
  simpa using h
theorem itoa9 (n : Int) : Lib.itoa n = if n < 0 then 45 :: decL (-n).toNat else decL n.toNat := by
  unfold Lib.itoa
  by_cases h : n < 0
  · rw [if_pos h, if_pos h, decDigits_decL, show (-n).toNat = n.natAbs by omega]
  · rw [if_neg h, if_neg h, decDigits_decL]
theorem lab_word {n : Int} (h0 : 0 ≤ n) (h1 : n < 18446744073709551616) : wordB (labW n) = true := by
  unfold labW
  rw [itoa9, if_neg (by omega)]
  have := decL_wb n.toNat (by omega)
  simp [wordB, this]
  decide
theorem fmt_word {k : Nat} (h : k < 28) : wordB (fmtN k).1 = true := by
  have : ∀ k : Fin 28, wordB (fmtN k.val).1 = true := by decide +kernel
  exact this ⟨k, h⟩
theorem reg_word {r : Nat} (h : r < 16) : wordB (regW r) = true := by
  have : ∀ r : Fin 16, wordB (regW r.val) = true := by decide
  exact this ⟨r, h⟩
theorem imm_lex {n : Int} (h0 : -9223372036854775808 ≤ n) (h1 : n ≤ 9223372036854775807) : SpB Sep (Lib.itoa n) (immB n) := by
  rw [itoa9]
  unfold immB
  by_cases hn : n < 0
  · rw [if_pos hn, if_pos hn]
    have hd := isDec (-n).toNat (by omega)
    obtain ⟨c, r, hc⟩ := List.exists_cons_of_ne_nil hd.ne
    have hall := hd.all
    rw [hc, List.all_cons, Bool.and_eq_true] at hall
    have h := SpB.cat (SpB.mark 45 (by simp) (P := fun m => ∃ g r, m = g :: r ∧ g ≠ 62) fun m hm g r e => by
      obtain ⟨g', r', rfl, hne⟩ := hm
      injection e with e1 e2
      subst e1
      simp [punct, marks2, hne]) (SpB.num (-n).toNat (by omega)) fun m _ => ⟨c, r ++ m, by rw [hc]; rfl, by rintro rfl; exact absurd hall.1 (by decide)⟩
    exact h
  · rw [if_neg hn, if_neg hn]
    exact SpB.num _ (by omega)
def joinB : List (List Bare) → List Bare
  | [] => []
  | b :: r => b ++ r.flatMap fun b => mB 44 :: b
theorem join_more : ∀ (ws : List (List UInt8 × List Bare)), (∀ y ∈ ws, SpB Sep y.1 y.2) → SpB Sep (ws.flatMap fun y => [44, 32] ++ y.1) ((ws.map Prod.snd).flatMap fun b => mB 44 :: b)
  | [], _ => SpB.nil
  | y :: r, h => by
    have h1 := h y List.mem_cons_self
    have h2 := join_more r fun x hx => h x (List.mem_cons_of_mem _ hx)
    have a1 : SpB (fun _ => True) [44, 32] [mB 44] := SpB.markSp 44 32 (by simp) (by simp)
    have a2 := SpB.cat (SpB.cat a1 h1 fun m _ => trivial) h2 fun m hm => by
      cases r with
      | nil => exact hm
      | cons a b => exact sep44b _
    simpa using a2
theorem joinW_eq : ∀ ws : List (List UInt8 × List Bare), joinW (ws.map Prod.fst) = match ws with | [] => [] | y :: r => y.1 ++ r.flatMap fun y => [44, 32] ++ y.1
  | [] => by simp [joinW, Lib.join_nil]
  | [y] => by simp [joinW, Lib.join_one]
  | y :: z :: r => by
    have := joinW_eq (z :: r)
    rw [List.map_cons, List.map_cons, joinW_cons, ← List.map_cons, this]
    simp
theorem join_lex (ws : List (List UInt8 × List Bare)) (h : ∀ y ∈ ws, SpB Sep y.1 y.2) : SpB Sep (joinW (ws.map Prod.fst)) (joinB (ws.map Prod.snd)) := by
  rw [joinW_eq]
  cases ws with
  | nil => exact SpB.nil
  | cons y r =>
    refine SpB.cat (h y List.mem_cons_self) (join_more r fun x hx => h x (List.mem_cons_of_mem _ hx)) fun m hm => ?_
    cases r with
    | nil => exact hm
    | cons a b => exact sep44b _
theorem regsB_join : ∀ (rs : List Nat) (i : Nat), regsB i rs = if 0 < i then (rs.map fun r => [wdB (regW r)]).flatMap (fun b => mB 44 :: b) else joinB (rs.map fun r => [wdB (regW r)])
  | [], i => by simp [regsB, joinB]
  | r :: rs, i => by
    rw [regsB, regsB_join rs (i + 1), if_pos (by omega)]
    unfold comB
    by_cases hi : 0 < i
    · rw [if_pos hi, if_pos hi]; simp
    · rw [if_neg hi, if_neg hi]; simp [joinB]
theorem joinB_app (a b : List (List Bare)) : joinB (a ++ b) = joinB a ++ (if a = [] then joinB b else b.flatMap fun b => mB 44 :: b) := by
  cases a with
  | nil => simp [joinB]
  | cons x r => simp [joinB]
end Go.Proofs.YtogebcgkcijacaaGreatDoor


namespace Go.Proofs.YtogebcgkcijacaaGreatDoor

open Go.RowKit Go.Shelf

def nmW (n : Nat) : List UInt8 := labW (n : Int)
theorem sep32b (m : List UInt8) : Sep (32 :: m) := .inr ⟨32, m, rfl, by decide, by decide, by decide, by decide⟩
theorem pre_lex (ps : List GIns) (k : Nat) (hk : k < 18446744073709551616) : SpB (fun _ => True) (preD ps k) (if tgt ps k = true then [wdB (nmW k), mB 58] else []) := by
  unfold preD
  by_cases h : tgt ps k = true
  · rw [if_pos h, if_pos h]
    exact SpB.cat (SpB.word (lab_word (n := (k : Int)) (by omega) (by omega))) (SpB.markSp 58 32 (by simp) (by simp)) fun m _ => sep58b _
  · rw [if_neg h, if_neg h]; exact SpB.nil
def opsP (x : GIns) : List (List UInt8 × List Bare) :=
  (regsN x (fmtN x.op.toNat).2.1).map (fun r => (regW r, [wdB (regW r)])) ++
    (if (fmtN x.op.toNat).2.2 = 1 then [(Lib.itoa x.imm, immB x.imm)] else if (fmtN x.op.toNat).2.2 = 2 then [(labW x.imm, [wdB (labW x.imm)])] else [])
theorem opsP_fst (x : GIns) : (opsP x).map Prod.fst = opW x := by
  unfold opsP opW regsW immW regsN
  rw [List.map_append, List.map_map]
  congr 1
  · show List.map regW _ = _
    rw [List.map_take]
    rfl
  · split
    · rfl
    · split <;> rfl
theorem opsP_snd {k n : Nat} (hk : k < 28) {x : GIns} (h : InsOk k n x) : joinB ((opsP x).map Prod.snd) = regsB 0 (regsN x (fmtN x.op.toNat).2.1) ++ lastB nmW (fmtN x.op.toNat).2 x.imm := by
  have hop : x.op.toNat = k := by rw [h.op]; rfl
  rw [hop]
  obtain ⟨hf1, hf2⟩ := fmt_few hk
  have htg := h.tg
  have hlen := regsN_len (x := x) hf1
  unfold opsP lastB
  rw [hop]
  generalize (fmtN k).2.1 = f at *
  have hr0 := regsB_join (regsN x f) 0
  rw [if_neg (by omega)] at hr0
  rw [hr0, List.map_append, joinB_app, List.map_map]
  have e1 : List.map (Prod.snd ∘ fun r => (regW r, [wdB (regW r)])) (regsN x f) = (regsN x f).map fun r => [wdB (regW r)] := rfl
  rw [e1]
  congr 1
  have hz : ((regsN x f).map fun r => [wdB (regW r)]) = [] ↔ f = 0 := by
    rw [List.map_eq_nil_iff, ← List.length_eq_zero_iff, hlen]
  unfold comB
  generalize (regsN x f).map (fun r => [wdB (regW r)]) = a at *
  by_cases h1 : (fmtN k).2.2 = 1
  · rw [if_pos h1, if_pos h1]
    by_cases h0 : f = 0
    · rw [if_pos (hz.2 h0), if_neg (by omega)]; simp [joinB]
    · rw [if_neg (fun hh => h0 (hz.1 hh)), if_pos (by omega)]; simp
  · rw [if_neg h1, if_neg h1]
    by_cases h2 : (fmtN k).2.2 = 2
    · obtain ⟨t0, _⟩ := htg h2
      have en : nmW x.imm.toNat = labW x.imm := by unfold nmW; rw [Int.toNat_of_nonneg t0]
      rw [if_pos h2, if_pos h2, en]
      by_cases h0 : f = 0
      · rw [if_pos (hz.2 h0), if_neg (by omega)]; simp [joinB]
      · rw [if_neg (fun hh => h0 (hz.1 hh)), if_pos (by omega)]; simp
    · rw [if_neg h2, if_neg h2]; simp [joinB]
theorem ins_lex {k n : Nat} (hk : k < 28) {x : GIns} (h : InsOk k n x) : SpB (fun _ => True) (insD x) (instB nmW x) := by
  have hop : x.op.toNat = k := by rw [h.op]; rfl
  have hs := opsP_snd hk h
  have hall : ∀ y ∈ opsP x, SpB Sep y.1 y.2 := fun y hy => by
    unfold opsP at hy
    rcases List.mem_append.1 hy with hm | hm
    · obtain ⟨r, hr, rfl⟩ := List.mem_map.1 hm
      exact SpB.word (reg_word (regsN_lt h _ r hr))
    · split at hm
      · simp at hm; subst hm
        exact imm_lex (by have := h.lo; omega) (by have := h.hi; omega)
      · split at hm
        · rename_i h2
          simp at hm; subst hm
          have := h.tg (by rw [← hop]; exact h2)
          have := h.hi
          exact SpB.word (lab_word (by omega) (by omega))
        · simp at hm
  have hj := join_lex (opsP x) hall
  rw [opsP_fst, hs] at hj
  have he : SpB (fun _ => True) [59, 10] [mB 59] := SpB.markSp 59 10 (by simp) (by simp)
  have hw : SpB Sep (fmtN x.op.toNat).1 [wdB (fmtN x.op.toNat).1] := SpB.word (by rw [hop]; exact fmt_word hk)
  have e : instB nmW x = [wdB (fmtN x.op.toNat).1] ++ ((regsB 0 (regsN x (fmtN x.op.toNat).2.1) ++ lastB nmW (fmtN x.op.toNat).2 x.imm) ++ [mB 59]) := by unfold instB; simp
  rw [e]
  unfold insD
  by_cases h0 : 0 < (opW x).length
  · rw [if_pos h0]
    have h1 : SpB Sep (32 :: joinW (opW x)) (regsB 0 (regsN x (fmtN x.op.toNat).2.1) ++ lastB nmW (fmtN x.op.toNat).2 x.imm) :=
      SpB.cat (P := fun _ => True) (SpB.space 32 (by decide)) hj fun _ _ => trivial
    exact SpB.cat hw (SpB.cat h1 he fun m _ => sep59b _) fun m _ => sep32b _
  · rw [if_neg h0]
    have hnil : opW x = [] := List.length_eq_zero_iff.1 (by omega)
    have hn2 : opsP x = [] := by
      have := congrArg List.length (opsP_fst x)
      rw [hnil, List.length_map] at this
      exact List.length_eq_zero_iff.1 this
    rw [hn2] at hs
    rw [← hs]
    exact SpB.cat hw he fun m _ => sep59b _
theorem progB_snoc {nm : Nat → List UInt8} {tg : Nat → Bool} : ∀ (xs : List GIns) (x : GIns) (i : Nat), progB nm nm tg i (xs ++ [x]) = progB nm nm tg i xs ++ lineB nm nm tg (i + xs.length) x
  | [], x, i => by simp [progB]
  | y :: r, x, i => by
    rw [List.cons_append, progB, progB, progB_snoc r x (i + 1), List.append_assoc, List.length_cons, show i + 1 + r.length = i + (r.length + 1) by omega]
theorem disF_lex {ps : List GIns} (h : AllOk ps.length ps) (hn : ps.length ≤ 4096) : ∀ k, k ≤ ps.length → SpB (fun _ => True) (disF ps k) (progB nmW nmW (tgt ps) 0 (ps.take k))
  | 0, _ => by simpa [disF, progB] using (SpB.nil (P := fun _ => True))
  | k + 1, hk => by
    have hlt : k < ps.length := by omega
    obtain ⟨o, ho, hx⟩ := h ps[k] (List.getElem_mem hlt)
    have h1 := disF_lex h hn k (by omega)
    rw [disF_succ ps k hlt, List.take_succ_eq_append_getElem hlt, progB_snoc, List.length_take, Nat.min_eq_left (by omega), Nat.zero_add]
    refine SpB.cat h1 ?_ fun _ _ => trivial
    unfold lineB
    exact SpB.cat (pre_lex ps k (by omega)) (ins_lex ho hx) fun _ _ => trivial
theorem nm_inj {a b : Nat} (ha : a < 18446744073709551616) (hb : b < 18446744073709551616) (h : nmW a = nmW b) : a = b := by
  unfold nmW labW at h
  rw [itoa9, itoa9, if_neg (by omega), if_neg (by omega)] at h
  injection h with _ h
  have h1 := (isDec a ha).val
  have h2 := (isDec b hb).val
  simp only [Int.toNat_natCast] at h
  rw [h] at h1
  omega
theorem nm_noreg (a : Nat) : regNo (nmW a) = none := by
  cases hr : regNo (nmW a) with
  | none => rfl
  | some r =>
    exfalso
    have := firstN_lt hr
    have h2 : regW r = nmW a := by simpa using this.2.2
    have hd : ∀ r : Fin 16, (regW r.val).head? ≠ some 76 := by decide
    refine hd ⟨r, by omega⟩ ?_
    show (regW r).head? = some 76
    rw [h2]; rfl
theorem dis_asm {ps : List GIns} (h : AllOk ps.length ps) (h1 : 1 ≤ ps.length) (h2 : ps.length ≤ 400) : ∃ s, asmAll (disF ps ps.length) = .ok () s ∧ s.prog = ps := by
  have hlex := disF_lex h (by omega) ps.length (Nat.le_refl _)
  rw [List.take_length] at hlex
  have hl := disF_len ps h.imm (by omega) ps.length (Nat.le_refl _)
  obtain ⟨q, us, e, hb⟩ := hlex [] trivial (1, 1)
  rw [List.append_nil] at e
  have hsc : scan (disF ps ps.length) = .ok us := by
    unfold scan
    rw [if_neg (by omega), e]
    simp [lex, Res.app]
  unfold asmAll
  rw [hsc]
  refine all_prog (nm := nmW) (tg := tgt ps) h1 (by omega) h ?_ ?_ ?_ ?_
  · intro a b ha hb' hab
    exact nm_inj (by omega) (by omega) hab
  · exact fun a _ => nm_noreg a
  · intro x hx hf
    obtain ⟨k, hk, h3⟩ := h x hx
    have hop : x.op.toNat = k := by rw [h3.op]; rfl
    obtain ⟨t0, _⟩ := h3.tg (by rw [← hop]; exact hf)
    unfold tgt
    rw [List.any_eq_true]
    exact ⟨x, hx, by simp [hf]; omega⟩
  · rw [List.map_append, List.map_map, ← hb]; rfl
end Go.Proofs.YtogebcgkcijacaaGreatDoor


namespace Go.Proofs.YtogebcgkcijacaaGreatDoor

open Go.RowKit

theorem bt_left {a b : List UInt8} {j : Nat} (h : j < a.length) : bt (a ++ b) j = bt a j := by
  unfold bt; rw [List.getD_eq_getElem?_getD, List.getD_eq_getElem?_getD, List.getElem?_append_left h]
theorem bt_right {a b : List UInt8} {j : Nat} : bt (a ++ b) (a.length + j) = bt b j := by
  unfold bt; rw [List.getD_eq_getElem?_getD, List.getD_eq_getElem?_getD, List.getElem?_append_right (by omega), Nat.add_sub_cancel_left]
theorem bt_enc : ∀ (ps : List GIns) (i j : Nat) (h : i < ps.length), j < 8 → bt (encL ps) (8 * i + j) = bt (encB ps[i]) j
  | [], i, j, h, _ => by simp at h
  | x :: r, 0, j, h, hj => by
    show bt (encB x ++ encL r) (8 * 0 + j) = _
    rw [Nat.mul_zero, Nat.zero_add, bt_left (by rw [length_encB]; exact hj)]; rfl
  | x :: r, i + 1, j, h, hj => by
    show bt (encB x ++ encL r) (8 * (i + 1) + j) = _
    have e : 8 * (i + 1) + j = (encB x).length + (8 * i + j) := by rw [length_encB]; omega
    rw [e, bt_right, bt_enc r i j (by simpa using h) hj]
    rfl
theorem leUp_cong {l m : List UInt8} {o p : Nat} : ∀ k, (∀ j < k, bt l (o + j) = bt m (p + j)) → leUp l o k = leUp m p k
  | 0, _ => rfl
  | k + 1, h => by
    show leUp l o k + bt l (o + k) * 256 ^ k = leUp m p k + bt m (p + k) * 256 ^ k
    rw [leUp_cong k (fun j hj => h j (by omega)), h k (by omega)]
theorem bt_b4 {x : GIns} (h : ByteOk x) : ((bt (encB x) 0 : Nat) : Int) = x.op ∧ ((bt (encB x) 1 : Nat) : Int) = x.a ∧ ((bt (encB x) 2 : Nat) : Int) = x.b ∧ ((bt (encB x) 3 : Nat) : Int) = x.c :=
  ⟨(byte_ok h.op).2, (byte_ok h.a).2, (byte_ok h.b).2, (byte_ok h.c).2⟩
theorem up_leB (v : Nat) (h : v < 4294967296) : leUp (leB v 4) 0 4 = v := by
  simp only [leB, leUp, bt, Nat.zero_add]
  simp
  omega
theorem up_enc {x : GIns} : leUp (encB x) 4 4 = u32N x.imm := by
  have h : u32N x.imm < 4294967296 := by unfold u32N; omega
  rw [← up_leB _ h]
  refine leUp_cong 4 fun j hj => ?_
  have e : 4 + j = (b4 x).length + j := rfl
  unfold encB
  rw [e, bt_right, Nat.zero_add]
theorem wrap_u32N {v : Int} (h : -2147483648 ≤ v ∧ v ≤ 2147483647) : IntKind.i32.wrap (u32N v : Nat) = v := by
  rw [IntKind.wrap_i32]; unfold u32N; omega
theorem dec_enc (ps : List GIns) (hn : ps.length ≤ 4096) (hb : ∀ x ∈ ps, ByteOk x) (hi : ∀ x ∈ ps, ImmOk x) : decP (encL ps) = ps := by
  have hl := length_encL ps
  have hN : decN (encL ps) = ps.length := by unfold decN; rw [hl]; omega
  refine List.ext_getElem (by rw [decP_len, hN]) fun i h1 h2 => ?_
  rw [decP_get]
  obtain ⟨c0, c1, c2, c3⟩ := bt_b4 (hb _ (List.getElem_mem h2))
  have e0 := bt_enc ps i 0 h2 (by omega)
  have e1 := bt_enc ps i 1 h2 (by omega)
  have e2 := bt_enc ps i 2 h2 (by omega)
  have e3 := bt_enc ps i 3 h2 (by omega)
  have e4 : uintV (encL ps) ((8 * i + 4 : Nat) : Int) 4 = u32N ps[i].imm := by
    unfold uintV
    rw [if_neg (by rw [hl]; omega), Int.toNat_natCast, ← up_enc]
    refine leUp_cong 4 fun j hj => ?_
    rw [show 8 * i + 4 + j = 8 * i + (4 + j) by omega]
    exact bt_enc ps i (4 + j) h2 (by omega)
  have h5 := wrap_u32N (hi _ (List.getElem_mem h2))
  unfold decI
  rw [Nat.add_zero] at e0
  rw [e0, e1, e2, e3, e4, c0, c1, c2, c3, h5]
theorem u32N_wrap {u : Nat} (h : u < 4294967296) : u32N (IntKind.i32.wrap (u : Nat)) = u := by
  rw [IntKind.wrap_i32]; unfold u32N; omega
theorem leB_digits {a b c d : Nat} (h0 : a < 256) (h1 : b < 256) (h2 : c < 256) (h3 : d < 256) : bt (leB (a + b * 256 + c * 65536 + d * 16777216) 4) 0 = a ∧ bt (leB (a + b * 256 + c * 65536 + d * 16777216) 4) 1 = b ∧ bt (leB (a + b * 256 + c * 65536 + d * 16777216) 4) 2 = c ∧ bt (leB (a + b * 256 + c * 65536 + d * 16777216) 4) 3 = d := by
  refine ⟨?_, ?_, ?_, ?_⟩
  · show (UInt8.ofNat ((a + b * 256 + c * 65536 + d * 16777216) / 256 ^ 0 % 256)).toNat = a
    rw [UInt8.toNat_ofNat']; omega
  · show (UInt8.ofNat ((a + b * 256 + c * 65536 + d * 16777216) / 256 ^ 1 % 256)).toNat = b
    rw [UInt8.toNat_ofNat']; omega
  · show (UInt8.ofNat ((a + b * 256 + c * 65536 + d * 16777216) / 256 ^ 2 % 256)).toNat = c
    rw [UInt8.toNat_ofNat']; omega
  · show (UInt8.ofNat ((a + b * 256 + c * 65536 + d * 16777216) / 256 ^ 3 % 256)).toNat = d
    rw [UInt8.toNat_ofNat']; omega
theorem leB_leUp (l : List UInt8) (o : Nat) : ∀ j, j < 4 → bt (leB (leUp l o 4) 4) j = bt l (o + j) := by
  have e : leUp l o 4 = bt l o + bt l (o + 1) * 256 + bt l (o + 2) * 65536 + bt l (o + 3) * 16777216 := by simp [leUp]
  obtain ⟨d0, d1, d2, d3⟩ := leB_digits (bt_lt l o) (bt_lt l (o + 1)) (bt_lt l (o + 2)) (bt_lt l (o + 3))
  rw [e]
  intro j hj
  rcases (by omega : j = 0 ∨ j = 1 ∨ j = 2 ∨ j = 3) with rfl | rfl | rfl | rfl
  · exact d0
  · exact d1
  · exact d2
  · exact d3
theorem encB_dec (l : List UInt8) (i : Nat) (h : 8 * i + 8 ≤ l.length) : ∀ j, j < 8 → bt (encB (decI l i)) j = bt l (8 * i + j) := by
  intro j hj
  have hu : uintV l ((8 * i + 4 : Nat) : Int) 4 = leUp l (8 * i + 4) 4 := by
    unfold uintV
    rw [if_neg (by omega), Int.toNat_natCast]
  rcases Nat.lt_or_ge j 4 with h4 | h4
  · unfold encB
    rw [bt_left (by show j < 4; exact h4)]
    have hb : ∀ m, (UInt8.ofNat ((bt l m : Nat) : Int).toNat).toNat = bt l m := fun m => by
      have := bt_lt l m
      rw [Int.toNat_natCast, UInt8.toNat_ofNat']; omega
    rcases (by omega : j = 0 ∨ j = 1 ∨ j = 2 ∨ j = 3) with rfl | rfl | rfl | rfl
    · exact hb (8 * i)
    · exact hb (8 * i + 1)
    · exact hb (8 * i + 2)
    · exact hb (8 * i + 3)
  · unfold encB
    have e : j = (b4 (decI l i)).length + (j - 4) := by show j = 4 + (j - 4); omega
    rw [e, bt_right]
    have hl4 : (b4 (decI l i)).length = 4 := rfl
    show bt (leB (u32N (IntKind.i32.wrap (uintV l ((8 * i + 4 : Nat) : Int) 4 : Nat))) 4) (j - 4) = _
    rw [hu, u32N_wrap (by have := leUp_lt l (8 * i + 4) 4; omega), leB_leUp l (8 * i + 4) (j - 4) (by omega), hl4]
    congr 1; omega
theorem enc_dec (l : List UInt8) (hm : l.length % 8 = 0) (hn : l.length / 8 ≤ 4096) : encL (decP l) = l := by
  have hN : decN l = l.length / 8 := by unfold decN; omega
  have hl : (encL (decP l)).length = l.length := by rw [length_encL, decP_len, hN]; omega
  refine List.ext_getElem hl fun m h1 h2 => ?_
  have hi : m / 8 < (decP l).length := by rw [decP_len, hN]; omega
  have e1 := bt_enc (decP l) (m / 8) (m % 8) hi (by omega)
  rw [decP_get, encB_dec l (m / 8) (by omega) (m % 8) (by omega), show 8 * (m / 8) + m % 8 = m by omega] at e1
  unfold bt at e1
  rw [List.getD_eq_getElem?_getD, List.getD_eq_getElem?_getD, List.getElem?_eq_getElem h1, List.getElem?_eq_getElem h2] at e1
  exact UInt8.toNat_inj.1 e1
end Go.Proofs.YtogebcgkcijacaaGreatDoor
