/-
  A program's tokens, with whatever names for its labels; they are assembled as the program. Plain mathematics.
  Conditions: as each theorem says.
  The tokens of a valid program are assembled as the program; where the operands that are labels have another name, the first of them is refused. Plain mathematics.
  Conditions: as each theorem says.
  Texts of tokens with white space and comments between them are scanned as these tokens. Plain mathematics.
  Conditions: a number's value is less than 2^64.
-/
import Derived.Test.YtahhmgoffdggpaaGreatDoorMb28
import Derived.Test.YtahhmgoffdggpaaGreatDoorMb22
namespace Go.Proofs.YtahhmgoffdggpaaGreatDoor

open Go.RowKit

abbrev Bare := Int × List UInt8 × Int
def wdB (s : List UInt8) : Bare := (1, s, 0)
def mB (c : UInt8) : Bare := (4, [c], 0)
def nB (v : Nat) : Bare := (2, [], (v : Int))
def eB : Bare := (0, [], 0)
def comB (i : Nat) : List Bare := if 0 < i then [mB 44] else []
def immB (v : Int) : List Bare := if v < 0 then [mB 45, nB (-v).toNat] else [nB v.toNat]
def regsB : Nat → List Nat → List Bare
  | _, [] => []
  | i, r :: rs => comB i ++ (wdB (regW r) :: regsB (i + 1) rs)
def lastB (use : Nat → List UInt8) (f : Nat × Nat) (v : Int) : List Bare :=
  if f.2 = 1 then comB f.1 ++ immB v else if f.2 = 2 then comB f.1 ++ [wdB (use v.toNat)] else []
def regsN (x : GIns) (n : Nat) : List Nat := [x.a.toNat, x.b.toNat, x.c.toNat].take n
def instB (use : Nat → List UInt8) (x : GIns) : List Bare :=
  wdB (fmtN x.op.toNat).1 :: (regsB 0 (regsN x (fmtN x.op.toNat).2.1) ++ (lastB use (fmtN x.op.toNat).2 x.imm ++ [mB 59]))
def lineB (dfn use : Nat → List UInt8) (tg : Nat → Bool) (i : Nat) (x : GIns) : List Bare := (if tg i then [wdB (dfn i), mB 58] else []) ++ instB use x
def progB (dfn use : Nat → List UInt8) (tg : Nat → Bool) : Nat → List GIns → List Bare
  | _, [] => []
  | i, x :: r => lineB dfn use tg i x ++ progB dfn use tg (i + 1) r

theorem take_b {k : Int} {tx : List UInt8} {v : Int} {ts : List GTok} {rest : List Bare} (h : ts.map GTok.bare = (k, tx, v) :: rest) :
    ∃ t us, ts = t :: us ∧ t.kind = k ∧ t.text = tx ∧ t.value = v ∧ us.map GTok.bare = rest := by
  obtain ⟨t, us, rfl, h1, h2⟩ := List.map_eq_cons_iff.1 h
  simp only [GTok.bare, Prod.mk.injEq] at h1
  exact ⟨t, us, rfl, h1.1, h1.2.1, h1.2.2, h2⟩
theorem regNo_w {r : Nat} (h : r < 16) : regNo (regW r) = some r := by
  have : ∀ r : Fin 16, regNo (regW r.val) = some r.val := by decide
  exact this ⟨r, h⟩
theorem opNo_w {k : Nat} (h : k < 28) : opNo (fmtN k).1 = some k := by
  have : ∀ k : Fin 28, opNo (fmtN k.val).1 = some k.val := by decide +kernel
  exact this ⟨k, h⟩
theorem fmt_few {k : Nat} (h : k < 28) : (fmtN k).2.1 ≤ 3 ∧ (fmtN k).2.2 ≤ 2 := by
  have : ∀ k : Fin 28, (fmtN k.val).2.1 ≤ 3 ∧ (fmtN k.val).2.2 ≤ 2 := by decide +kernel
  exact this ⟨k, h⟩
theorem aReg_b {r : Nat} (hr : r < 16) {s : ASt} {rest : List Bare} (h : s.ts.map GTok.bare = wdB (regW r) :: rest) :
    ∃ ts, ts.map GTok.bare = rest ∧ aReg s = .ok (r : Int) { s with ts := ts } := by
  obtain ⟨t, us, hs, hk, ht, _, h2⟩ := take_b h
  obtain ⟨_, p, l, u⟩ := s
  simp only at hs; subst hs
  exact ⟨us, h2, by simp [aReg, aTake, ASt.hd, ASt.next, ARes.bind, hk, ht, regNo_w hr]⟩
theorem aMark_b {c : UInt8} {s : ASt} {rest : List Bare} (h : s.ts.map GTok.bare = mB c :: rest) :
    ∃ ts, ts.map GTok.bare = rest ∧ aMark [c] s = .ok () { s with ts := ts } := by
  obtain ⟨t, us, hs, hk, ht, _, h2⟩ := take_b h
  obtain ⟨_, p, l, u⟩ := s
  simp only at hs; subst hs
  exact ⟨us, h2, by simp [aMark, isMk, ASt.hd, ASt.next, hk, ht]⟩
theorem aComma_b {i : Nat} {s : ASt} {rest : List Bare} (h : s.ts.map GTok.bare = comB i ++ rest) :
    ∃ ts, ts.map GTok.bare = rest ∧ aComma i s = .ok () { s with ts := ts } := by
  unfold comB at h
  unfold aComma
  by_cases hi : 0 < i
  · rw [if_pos hi] at h ⊢
    exact aMark_b h
  · rw [if_neg hi] at h ⊢
    exact ⟨s.ts, h, rfl⟩
theorem aRegs_b : ∀ (rs : List Nat) (i : Nat) {s : ASt} {rest : List Bare}, (∀ r ∈ rs, r < 16) → s.ts.map GTok.bare = regsB i rs ++ rest →
    ∃ ts, ts.map GTok.bare = rest ∧ aRegs i rs.length s = .ok (rs.map fun (r : Nat) => (r : Int)) { s with ts := ts }
  | [], i, s, rest, _, h => ⟨s.ts, h, rfl⟩
  | r :: rs, i, s, rest, hr, h => by
    rw [regsB, List.append_assoc, List.cons_append] at h
    obtain ⟨t1, h1, e1⟩ := aComma_b h
    obtain ⟨t2, h2, e2⟩ := aReg_b (hr r (by simp)) (s := { s with ts := t1 }) h1
    obtain ⟨t3, h3, e3⟩ := aRegs_b rs (i + 1) (s := { s with ts := t2 }) (fun x hx => hr x (by simp [hx])) h2
    refine ⟨t3, h3, ?_⟩
    show (aComma i s).bind _ = _
    rw [e1]
    show (aReg _).bind _ = _
    rw [e2]
    show (aRegs (i + 1) rs.length _).bind _ = _
    rw [e3]; rfl
theorem aNumber_b {g : Int} {v : Nat} (hv : (v : Int) ≤ g) {s : ASt} {rest : List Bare} (h : s.ts.map GTok.bare = nB v :: rest) :
    ∃ ts, ts.map GTok.bare = rest ∧ aNumber g s = .ok (v : Int) { s with ts := ts } := by
  obtain ⟨t, us, hs, hk, ht, hw, h2⟩ := take_b h
  obtain ⟨_, p, l, u⟩ := s
  simp only at hs; subst hs
  refine ⟨us, h2, ?_⟩
  simp only [aNumber, aTake, ASt.hd, ASt.next, ARes.bind, List.headD_cons, List.tail_cons, hk, if_true, hw]
  rw [if_neg (by omega)]
theorem aImm_b {v : Int} (h1 : -2147483648 ≤ v) (h2 : v ≤ 2147483647) {s : ASt} {rest : List Bare} (h : s.ts.map GTok.bare = immB v ++ rest) :
    ∃ ts, ts.map GTok.bare = rest ∧ aImm s = .ok v { s with ts := ts } := by
  unfold immB at h
  by_cases hv : v < 0
  · rw [if_pos hv] at h
    obtain ⟨t, us, hs, hk, ht, _, h3⟩ := take_b (rest := nB (-v).toNat :: rest) h
    obtain ⟨t3, h4, e⟩ := aNumber_b (g := 2147483648) (v := (-v).toNat) (by omega) (s := { s with ts := us }) h3
    obtain ⟨_, p, l, u⟩ := s
    simp only at hs; subst hs
    refine ⟨t3, h4, ?_⟩
    simp only [aImm, isMk, ASt.hd, ASt.next, List.headD_cons, List.tail_cons, hk, ht]
    rw [if_neg (by decide), if_pos (by decide), e]
    show ARes.ok (-((-v).toNat : Int)) _ = _
    rw [Int.toNat_of_nonneg (by omega), Int.neg_neg]
  · rw [if_neg hv] at h
    obtain ⟨t3, h4, e⟩ := aNumber_b (g := 2147483647) (v := v.toNat) (by omega) h
    obtain ⟨t, us, hs, hk, ht, _, h3⟩ := take_b h
    refine ⟨t3, h4, ?_⟩
    have hh : s.hd.kind = 2 := by unfold ASt.hd; rw [hs]; exact hk
    unfold aImm
    rw [if_neg (by omega), if_neg (by unfold isMk; rw [hh]; simp), e, Int.toNat_of_nonneg (by omega)]
theorem aUse_b {w : List UInt8} (hw : regNo w = none) {s : ASt} {rest : List Bare} (h : s.ts.map GTok.bare = wdB w :: rest) :
    ∃ t ts, ts.map GTok.bare = rest ∧ t.kind = 1 ∧ t.text = w ∧ s.hd.kind = 1 ∧ aUse s = .ok () { s with ts := ts, refs := s.refs ++ [⟨t, s.prog.length⟩] } := by
  obtain ⟨t, us, hs, hk, ht, _, h2⟩ := take_b h
  obtain ⟨_, p, l, u⟩ := s
  simp only at hs; subst hs
  exact ⟨t, us, h2, hk, ht, hk, by simp [aUse, aTake, aKeep, ASt.hd, ASt.next, ARes.bind, hk, ht, hw]⟩
/-- The operands of an instruction that are labels: one where Imm is a target. -/
def RefI (use : Nat → List UInt8) (f : Nat) (v : Int) (k : Nat) (rf : List GRef) : Prop := if f = 2 then ∃ t : GTok, t.kind = 1 ∧ t.text = use v.toNat ∧ rf = [⟨t, k⟩] else rf = []
theorem aLast_b {use : Nat → List UInt8} {f : Nat × Nat} {v : Int} (hu : f.2 = 2 → regNo (use v.toNat) = none) (h1 : -2147483648 ≤ v) (h2 : v ≤ 2147483647) (h0 : f.2 = 0 → v = 0) (hf : f.2 ≤ 2) {s : ASt} {rest : List Bare} (h : s.ts.map GTok.bare = lastB use f v ++ rest) :
    ∃ ts rf, ts.map GTok.bare = rest ∧ aLast f s = .ok (if f.2 = 2 then 0 else v) { s with ts := ts, refs := s.refs ++ rf } ∧ RefI use f.2 v s.prog.length rf := by
  unfold lastB at h
  unfold aLast RefI
  by_cases hf1 : f.2 = 1
  · rw [if_pos hf1, List.append_assoc] at h
    obtain ⟨t1, g1, e1⟩ := aComma_b h
    obtain ⟨t2, g2, e2⟩ := aImm_b h1 h2 (s := { s with ts := t1 }) g1
    refine ⟨t2, [], g2, ?_, by rw [if_neg (by omega)]⟩
    rw [if_pos hf1, e1, if_neg (by omega : ¬ f.2 = 2), List.append_nil]
    exact e2
  · rw [if_neg hf1] at h
    by_cases hf2 : f.2 = 2
    · rw [if_pos hf2, List.append_assoc] at h
      obtain ⟨t1, g1, e1⟩ := aComma_b h
      obtain ⟨t, t2, g2, k1, k2, k3, e2⟩ := aUse_b (hu hf2) (s := { s with ts := t1 }) g1
      refine ⟨t2, [⟨t, s.prog.length⟩], g2, ?_, by rw [if_pos hf2]; exact ⟨t, k1, k2, rfl⟩⟩
      rw [if_neg hf1, if_pos hf2, if_pos hf2, e1]
      show aTarget _ = _
      unfold aTarget
      rw [if_pos k3, e2]; rfl
    · rw [if_neg hf2] at h
      refine ⟨s.ts, [], h, ?_, by rw [if_neg hf2]⟩
      rw [if_neg hf1, if_neg hf2, if_neg hf2, h0 (by omega), List.append_nil]
def strip (x : GIns) : GIns := if (fmtN x.op.toNat).2.2 = 2 then { x with imm := 0 } else x
theorem regB_use {f i : Nat} {r : Int} (h : regB f i r = true) : 0 ≤ r ∧ r < 16 ∧ (f ≤ i → r = 0) := by
  simp only [regB, Bool.and_eq_true, Bool.or_eq_true, decide_eq_true_eq] at h
  omega
theorem regsN_lt {k n : Nat} {x : GIns} (h : InsOk k n x) (f : Nat) : ∀ r ∈ regsN x f, r < 16 := fun r hr => by
  have ha := regB_use h.a
  have hb := regB_use h.b
  have hc := regB_use h.c
  have := List.mem_of_mem_take hr
  simp only [List.mem_cons, List.not_mem_nil, or_false] at this
  omega
theorem regsN_get {k n : Nat} (hk : k < 28) {x : GIns} (h : InsOk k n x) : (((regsN x (fmtN k).2.1).map fun (r : Nat) => (r : Int)).getD 0 0, ((regsN x (fmtN k).2.1).map fun (r : Nat) => (r : Int)).getD 1 0, ((regsN x (fmtN k).2.1).map fun (r : Nat) => (r : Int)).getD 2 0) = (x.a, x.b, x.c) := by
  have ha := regB_use h.a
  have hb := regB_use h.b
  have hc := regB_use h.c
  have hf := (fmt_few hk).1
  have e1 := Int.toNat_of_nonneg ha.1
  have e2 := Int.toNat_of_nonneg hb.1
  have e3 := Int.toNat_of_nonneg hc.1
  generalize (fmtN k).2.1 = f at *
  unfold regsN
  obtain rfl | rfl | rfl | rfl : f = 0 ∨ f = 1 ∨ f = 2 ∨ f = 3 := by omega
  · have := ha.2.2 (by omega); have := hb.2.2 (by omega); have := hc.2.2 (by omega); simp [*]
  · have := hb.2.2 (by omega); have := hc.2.2 (by omega); simp [*]
  · have := hc.2.2 (by omega); simp [*]
  · simp [*]
theorem regsN_len {x : GIns} {f : Nat} (h : f ≤ 3) : (regsN x f).length = f := by unfold regsN; simp; omega
theorem aInstr_b {use : Nat → List UInt8} {k n : Nat} (hk : k < 28) {x : GIns} (hx : InsOk k n x) (hu : (fmtN k).2.2 = 2 → regNo (use x.imm.toNat) = none) {s : ASt} {rest : List Bare} (hp : s.prog.length < 4096) (h : s.ts.map GTok.bare = instB use x ++ rest) :
    ∃ ts rf, ts.map GTok.bare = rest ∧ aInstr s = .ok () { s with ts := ts, prog := s.prog ++ [strip x], refs := s.refs ++ rf } ∧ RefI use (fmtN k).2.2 x.imm s.prog.length rf := by
  have hop : x.op.toNat = k := by rw [hx.op]; rfl
  have hf := fmt_few hk
  unfold instB at h
  rw [hop, List.cons_append] at h
  obtain ⟨t, us, hs, ht1, ht2, _, h1⟩ := take_b h
  rw [List.append_assoc, List.append_assoc] at h1
  obtain ⟨t2, g2, e2⟩ := aRegs_b (regsN x (fmtN k).2.1) 0 (s := { s with ts := us }) (regsN_lt hx _) h1
  rw [regsN_len hf.1] at e2
  obtain ⟨t3, rf, g3, e3, hrf⟩ := aLast_b (use := use) (f := (fmtN k).2) (v := x.imm) hu hx.lo hx.hi hx.un hf.2 (s := { s with ts := t2 }) g2
  obtain ⟨t4, g4, e4⟩ := aMark_b (c := 59) (rest := rest) (s := { s with ts := t3, refs := s.refs ++ rf }) g3
  refine ⟨t4, rf, g4, ?_, hrf⟩
  have hget := regsN_get hk hx
  simp only [Prod.mk.injEq] at hget
  obtain ⟨ga, gb, gc⟩ := hget
  have e0 : aTake 1 s = .ok t { s with ts := us } := by
    unfold aTake ASt.hd ASt.next
    rw [hs]
    exact if_pos ht1
  have eo : aOps (fmtN k).2 { s with ts := us } = .ok ⟨0, x.a, x.b, x.c, if (fmtN k).2.2 = 2 then 0 else x.imm⟩ { s with ts := t3, refs := s.refs ++ rf } := by
    unfold aOps
    rw [e2]
    show (aLast (fmtN k).2 _).bind _ = _
    rw [e3]
    show ARes.ok _ _ = _
    rw [ga, gb, gc]
  unfold aInstr
  rw [e0]
  show (match opNo t.text with | none => _ | some op => _) = _
  rw [ht2, opNo_w hk]
  show (if s.prog.length = 4096 then _ else _) = _
  rw [if_neg (by omega), eo]
  show (aMark [59] _).bind _ = _
  rw [e4]
  show ARes.ok () _ = _
  have : strip x = ⟨(k : Int), x.a, x.b, x.c, if (fmtN k).2.2 = 2 then 0 else x.imm⟩ := by
    unfold strip
    rw [hop]
    have := hx.op
    split
    · rw [← this]
    · rw [← this]
  rw [this]
theorem inst_nolab {use : Nat → List UInt8} {k n : Nat} (hk : k < 28) {x : GIns} (hx : InsOk k n x) {s : ASt} {rest : List Bare} (h : s.ts.map GTok.bare = instB use x ++ rest) : atLab s = false := by
  have hop : x.op.toNat = k := by rw [hx.op]; rfl
  have hf := fmt_few hk
  have hl := regsN_len (x := x) hf.1
  unfold instB at h
  rw [hop, List.cons_append] at h
  obtain ⟨t, us, hs, ht1, ht2, _, h1⟩ := take_b h
  have key : ∃ k' tx v' r', us.map GTok.bare = (k', tx, v') :: r' ∧ ¬ (k' = 4 ∧ tx = [58]) := by
    rw [h1]
    generalize (fmtN k).2 = f at *
    cases hq : regsN x f.1 with
    | cons r rs => exact ⟨1, regW r, 0, regsB (0 + 1) rs ++ (lastB use f x.imm ++ [mB 59]) ++ rest, rfl, by simp⟩
    | nil =>
      rw [hq] at hl
      simp only [List.length_nil] at hl
      unfold lastB comB immB
      rw [← hl]
      by_cases hf1 : f.2 = 1
      · by_cases hv : x.imm < 0
        · exact ⟨4, [45], 0, nB (-x.imm).toNat :: (mB 59 :: rest), by simp [hf1, hv, regsB, mB], by simp⟩
        · exact ⟨2, [], x.imm.toNat, mB 59 :: rest, by simp [hf1, hv, regsB, nB], by simp⟩
      · by_cases hf2 : f.2 = 2
        · exact ⟨1, use x.imm.toNat, 0, mB 59 :: rest, by simp [hf2, regsB, wdB], by simp⟩
        · exact ⟨4, [59], 0, rest, by simp [hf1, hf2, regsB, mB], by simp⟩
  obtain ⟨k', tx, v', r', hb, hne⟩ := key
  obtain ⟨t', us', hs', hk', ht', _, _⟩ := take_b hb
  unfold atLab isMk ASt.next ASt.hd
  rw [hs, List.tail_cons]
  simp only [hs', List.headD_cons, hk', ht']
  by_cases hq : k' = 4
  · have : tx ≠ [58] := fun e => hne ⟨hq, e⟩
    simp [this]
  · simp [hq]
end Go.Proofs.YtahhmgoffdggpaaGreatDoor


namespace Go.Proofs.YtahhmgoffdggpaaGreatDoor

open Go.RowKit

/-- What one turn of the statements' loop yields at a line of the program. -/
theorem line_b {dfn use : Nat → List UInt8} {tg : Nat → Bool} {k n i : Nat} (hk : k < 28) {x : GIns} (hx : InsOk k n x) (hu : (fmtN k).2.2 = 2 → regNo (use x.imm.toNat) = none)
    {s : ASt} {rest : List Bare} (hp : s.prog.length = i) (hi : i < 4096) (hd : tg i = true → regNo (dfn i) = none ∧ labOf s.labs (dfn i) = none) (h : s.ts.map GTok.bare = lineB dfn use tg i x ++ rest) (fuel : Nat) (hfu : 1 ≤ fuel) :
    s.hd.kind = 1 ∧ ∃ ts rf, ts.map GTok.bare = rest ∧ RefI use (fmtN k).2.2 x.imm i rf ∧
      ((aLabels fuel s).bind fun _ s1 => aInstr s1) = .ok () { ts := ts, prog := s.prog ++ [strip x], labs := if tg i then (dfn i, i) :: s.labs else s.labs, refs := s.refs ++ rf } := by
  obtain ⟨f, rfl⟩ : ∃ f, fuel = f + 1 := ⟨fuel - 1, by omega⟩
  unfold lineB at h
  by_cases ht : tg i = true
  · rw [if_pos ht] at h
    obtain ⟨hd1, hd2⟩ := hd ht
    obtain ⟨t, us, hs, k1, k2, _, h1⟩ := take_b (rest := mB 58 :: (instB use x ++ rest)) h
    obtain ⟨t', us', hs', k1', k2', _, h2⟩ := take_b h1
    have hh : s.hd = t := by unfold ASt.hd; rw [hs]; rfl
    refine ⟨by rw [hh]; exact k1, ?_⟩
    have e1 : atLab s = true := by
      unfold atLab isMk ASt.next ASt.hd
      rw [hs, List.tail_cons]
      simp only [hs', List.headD_cons, k1, k1', k2']
      rfl
    have e2 : aLabel s = .ok () { s with ts := us', labs := (dfn i, i) :: s.labs } := by
      unfold aLabel aTake
      rw [hh, if_pos k1]
      show (if (regNo t.text).isSome then _ else _) = _
      rw [k2, hd1, if_neg (by simp)]
      show (if (labOf s.labs (dfn i)).isSome then _ else _) = _
      rw [hd2, if_neg (by simp)]
      unfold aMark isMk ASt.next ASt.hd
      simp only [hs, List.tail_cons, hs', List.headD_cons, k1', k2', hp]
      rfl
    obtain ⟨ts, rf, g1, e3, hr⟩ := aInstr_b hk hx hu (s := { s with ts := us', labs := (dfn i, i) :: s.labs }) (by simp only; omega) h2
    have e4 : atLab { s with ts := us', labs := (dfn i, i) :: s.labs } = false := inst_nolab hk hx h2
    refine ⟨ts, rf, g1, by rw [← hp]; exact hr, ?_⟩
    rw [aLabels, if_pos e1, e2]
    show (aLabels f _).bind _ = _
    have e5 : aLabels f { s with ts := us', labs := (dfn i, i) :: s.labs } = .ok () { s with ts := us', labs := (dfn i, i) :: s.labs } := by
      cases f with
      | zero => rfl
      | succ f => rw [aLabels, if_neg (by rw [e4]; simp)]
    rw [e5]
    show aInstr _ = _
    rw [e3, if_pos ht]
  · rw [if_neg ht, List.nil_append] at h
    have e1 : atLab s = false := inst_nolab hk hx h
    obtain ⟨ts, rf, g1, e3, hr⟩ := aInstr_b hk hx hu (by omega) h
    have hh : s.hd.kind = 1 := by
      unfold instB at h
      rw [List.cons_append] at h
      obtain ⟨t, us, hs, k1, _, _, _⟩ := take_b h
      unfold ASt.hd; rw [hs]; exact k1
    refine ⟨hh, ts, rf, g1, by rw [← hp]; exact hr, ?_⟩
    rw [aLabels, if_neg (by rw [e1]; simp)]
    show aInstr s = _
    rw [e3, if_neg ht]
def RefsI (use : Nat → List UInt8) : Nat → List GIns → List GRef → Prop
  | _, [], rf => rf = []
  | i, x :: r, rf => ∃ a b, rf = a ++ b ∧ RefI use (fmtN x.op.toNat).2.2 x.imm i a ∧ RefsI use (i + 1) r b
def labsI (dfn : Nat → List UInt8) (tg : Nat → Bool) : Nat → Nat → List (List UInt8 × Nat) → List (List UInt8 × Nat)
  | _, 0, l => l
  | i, m + 1, l => labsI dfn tg (i + 1) m (if tg i then (dfn i, i) :: l else l)
theorem labs_old {dfn : Nat → List UInt8} {tg : Nat → Bool} {w : List UInt8} : ∀ (m i : Nat) (l : List (List UInt8 × Nat)), (∀ j, i ≤ j → j < i + m → dfn j ≠ w) → labOf (labsI dfn tg i m l) w = labOf l w
  | 0, _, _, _ => rfl
  | m + 1, i, l, h => by
    rw [labsI, labs_old m (i + 1) _ fun j h1 h2 => h j (by omega) (by omega)]
    split
    · rw [labOf, if_neg (fun e => h i (Nat.le_refl _) (by omega) e.symm)]
    · rfl
theorem labs_here {dfn : Nat → List UInt8} {tg : Nat → Bool} {N : Nat} (hd : ∀ a b, a < N → b < N → dfn a = dfn b → a = b) {j : Nat} (ht : tg j = true) : ∀ (m i : Nat) (l : List (List UInt8 × Nat)), i ≤ j → j < i + m → i + m ≤ N → labOf (labsI dfn tg i m l) (dfn j) = some j
  | 0, i, _, h1, h2, _ => by omega
  | m + 1, i, l, h1, h2, h3 => by
    rw [labsI]
    by_cases he : i = j
    · subst he
      rw [labs_old _ _ _ fun a ha hb e => by have := hd a i (by omega) (by omega) e; omega, if_pos ht, labOf, if_pos rfl]
    · exact labs_here hd ht m (i + 1) _ (by omega) (by omega) (by omega)
theorem stats_b {dfn use : Nat → List UInt8} {tg : Nat → Bool} {n N : Nat} (hN : N ≤ 4096) (hd : ∀ a b, a < N → b < N → dfn a = dfn b → a = b) (hdr : ∀ a, a < N → regNo (dfn a) = none) :
    ∀ (xs : List GIns) (i : Nat) (s : ASt) (fuel : Nat), (∀ x ∈ xs, ∃ k, k < 28 ∧ InsOk k n x ∧ ((fmtN k).2.2 = 2 → regNo (use x.imm.toNat) = none)) → s.prog.length = i → i + xs.length = N → 1 ≤ N → xs.length < fuel →
      (∀ j, i ≤ j → j < N → labOf s.labs (dfn j) = none) → s.ts.map GTok.bare = progB dfn use tg i xs ++ [eB] →
      ∃ ts rf, aStats fuel s = .ok () { ts := ts, prog := s.prog ++ xs.map strip, labs := labsI dfn tg i xs.length s.labs, refs := s.refs ++ rf } ∧ RefsI use i xs rf
  | [], i, s, fuel, _, hp, hN2, h1, hf, _, h => by
    obtain ⟨f, rfl⟩ : ∃ f, fuel = f + 1 := ⟨fuel - 1, by omega⟩
    obtain ⟨t, us, hs, k1, _⟩ := take_b (rest := []) h
    have hh : s.hd.kind = 0 := by unfold ASt.hd; rw [hs]; exact k1
    refine ⟨s.ts, [], ?_, rfl⟩
    rw [aStats, if_pos hh, if_neg (by simp only [List.length_nil] at hN2; omega), List.map_nil, List.append_nil, List.append_nil]
    rfl
  | x :: r, i, s, fuel, hall, hp, hN2, h1, hf, hl, h => by
    obtain ⟨f, rfl⟩ : ∃ f, fuel = f + 1 := ⟨fuel - 1, by omega⟩
    obtain ⟨k, hk, hx, hu⟩ := hall x (by simp)
    simp only [List.length_cons] at hN2 hf
    rw [progB, List.append_assoc] at h
    have hts : 1 ≤ s.ts.length := by
      rcases Nat.eq_zero_or_pos s.ts.length with e | e
      · rw [List.length_eq_zero_iff] at e
        rw [e] at h
        unfold lineB instB at h
        have := congrArg List.length h
        simp at this
      · exact e
    obtain ⟨hkd, ts, rf, g1, hr, e1⟩ := line_b hk hx hu hp (by omega) (fun ht => ⟨hdr i (by omega), hl i (Nat.le_refl _) (by omega)⟩) h s.ts.length hts
    obtain ⟨ts2, rf2, e2, hr2⟩ := stats_b hN hd hdr r (i + 1) { ts := ts, prog := s.prog ++ [strip x], labs := if tg i then (dfn i, i) :: s.labs else s.labs, refs := s.refs ++ rf } f
      (fun y hy => hall y (by simp [hy])) (by simp [hp]) (by omega) h1 (by omega)
      (fun j h3 h4 => by
        simp only
        split
        · rw [labOf, if_neg (fun e => by have := hd j i h4 (by omega) e; omega)]; exact hl j (by omega) h4
        · exact hl j (by omega) h4) g1
    have hop : x.op.toNat = k := by rw [hx.op]; rfl
    refine ⟨ts2, rf ++ rf2, ?_, rf, rf2, rfl, by rw [hop]; exact hr, hr2⟩
    rw [aStats, if_neg (by omega)]
    have e3 : ((aLabels s.ts.length s).bind fun _ s1 => (aInstr s1).bind fun _ s2 => aStats f s2) = ((aLabels s.ts.length s).bind fun _ s1 => aInstr s1).bind fun _ s2 => aStats f s2 := by
      cases aLabels s.ts.length s <;> rfl
    rw [e3, e1]
    show aStats f _ = _
    rw [e2]
    simp only [List.map_cons, List.append_assoc, List.cons_append, List.nil_append, List.length_cons, labsI]
theorem modify_mid {α : Type} (f : α → α) : ∀ (d : List α) (x : α) (r : List α), (d ++ x :: r).modify d.length f = d ++ f x :: r
  | [], _, _ => rfl
  | a :: d, x, r => by rw [List.cons_append, List.length_cons, List.modify_succ_cons, modify_mid f d x r]; rfl
theorem resolve_b {use : Nat → List UInt8} {n : Nat} : ∀ (xs : List GIns) (i : Nat) (done : List GIns) (rf : List GRef) (s : ASt), (∀ x ∈ xs, ∃ k, k < 28 ∧ InsOk k n x) → RefsI use i xs rf → s.prog = done ++ xs.map strip → done.length = i →
      (∀ x ∈ xs, (fmtN x.op.toNat).2.2 = 2 → labOf s.labs (use x.imm.toNat) = some x.imm.toNat) → aResolve rf s = .ok () { s with prog := done ++ xs }
  | [], i, done, rf, s, _, hr, hp, _, _ => by
    rw [show rf = [] from hr, aResolve]
    rw [List.map_nil] at hp
    rw [← hp]
  | x :: r, i, done, rf, s, hall, hr, hp, hd, hl => by
    obtain ⟨a, b, rfl, ha, hb⟩ := hr
    obtain ⟨k, hk, hx⟩ := hall x (by simp)
    have hop : x.op.toNat = k := by rw [hx.op]; rfl
    unfold RefI at ha
    by_cases hf : (fmtN x.op.toNat).2.2 = 2
    · rw [if_pos hf] at ha
      obtain ⟨t, k1, k2, rfl⟩ := ha
      have h0 := hx.tg (by rw [← hop]; exact hf)
      rw [List.cons_append, List.nil_append, aResolve]
      simp only [k1, k2, hl x (by simp) hf, if_true]
      have e : (s.prog.modify (i : Int).toNat fun y => { y with imm := ((x.imm.toNat : Nat) : Int) }) = (done ++ [x]) ++ r.map strip := by
        rw [hp, Int.toNat_natCast, ← hd, List.map_cons, modify_mid]
        simp only [List.append_assoc, List.cons_append, List.nil_append]
        rw [Int.toNat_of_nonneg h0.1]
        unfold strip
        rw [if_pos hf]
      rw [e]
      have := resolve_b (use := use) (n := n) r (i + 1) (done ++ [x]) b { s with prog := (done ++ [x]) ++ r.map strip } (fun y hy => hall y (by simp [hy])) hb rfl (by simp [hd]) (fun y hy => hl y (by simp [hy]))
      rw [this]
      simp
    · rw [if_neg hf] at ha
      subst ha
      rw [List.nil_append]
      have hs : strip x = x := by unfold strip; rw [if_neg hf]
      have := resolve_b (use := use) (n := n) r (i + 1) (done ++ [x]) b s (fun y hy => hall y (by simp [hy])) hb (by rw [hp, List.map_cons, hs]; simp) (by simp [hd]) (fun y hy => hl y (by simp [hy]))
      rw [this]
      simp
theorem lineB_len {dfn use : Nat → List UInt8} {tg : Nat → Bool} {i : Nat} {x : GIns} : 1 ≤ (lineB dfn use tg i x).length := by unfold lineB instB; simp; omega
theorem progB_len {dfn use : Nat → List UInt8} {tg : Nat → Bool} : ∀ (xs : List GIns) (i : Nat), xs.length ≤ (progB dfn use tg i xs).length
  | [], _ => Nat.le_refl _
  | x :: r, i => by
    have := progB_len (dfn := dfn) (use := use) (tg := tg) r (i + 1)
    have := lineB_len (dfn := dfn) (use := use) (tg := tg) (i := i) (x := x)
    rw [progB, List.length_append, List.length_cons]
    omega
/-- The tokens of a valid program, its labels under names of their own, are assembled asx the program. -/
theorem all_prog {nm : Nat → List UInt8} {tg : Nat → Bool} {xs : List GIns} (h1 : 1 ≤ xs.length) (h2 : xs.length ≤ 4096) (hx : AllOk xs.length xs) (hinj : ∀ a b, a < xs.length → b < xs.length → nm a = nm b → a = b) (hreg : ∀ a, a < xs.length → regNo (nm a) = none)
    (htg : ∀ x ∈ xs, (fmtN x.op.toNat).2.2 = 2 → tg x.imm.toNat = true) {ts : List GTok} (h : ts.map GTok.bare = progB nm nm tg 0 xs ++ [eB]) : ∃ s, aAll ts = .ok () s ∧ s.prog = xs := by
  have hlen : xs.length < ts.length := by
    have := congrArg List.length h
    have := progB_len (dfn := nm) (use := nm) (tg := tg) xs 0
    simp only [List.length_map, List.length_append, List.length_cons, List.length_nil] at *
    omega
  obtain ⟨t2, rf, e, hr⟩ := stats_b (n := xs.length) h2 hinj hreg xs 0 ⟨ts, [], [], []⟩ ts.length
    (fun x hxx => by
      obtain ⟨k, hk, h3⟩ := hx x hxx
      exact ⟨k, hk, h3, fun hf => hreg _ (by have := h3.tg hf; omega)⟩) rfl (by simp) h1 hlen (fun _ _ _ => rfl) h
  have e2 := resolve_b (use := nm) (n := xs.length) xs 0 [] rf ⟨t2, [] ++ xs.map strip, labsI nm tg 0 xs.length [], [] ++ rf⟩ hx hr rfl rfl
    (fun x hxx hf => by
      obtain ⟨k, hk, h3⟩ := hx x hxx
      have hop : x.op.toNat = k := by rw [h3.op]; rfl
      have := h3.tg (by rw [← hop]; exact hf)
      exact labs_here (N := xs.length) hinj (htg x hxx hf) xs.length 0 [] (by omega) (by omega) (by omega))
  refine ⟨{ ts := t2, prog := xs, labs := labsI nm tg 0 xs.length [], refs := rf }, ?_, rfl⟩
  unfold aAll
  rw [e]
  show aResolve _ _ = _
  exact e2
/-- Where the operands that are labels have a name that no label has, the first of them is refused. -/
theorem resolve_miss {use : Nat → List UInt8} {n : Nat} : ∀ (xs : List GIns) (i : Nat) (rf : List GRef) (s : ASt), (∀ x ∈ xs, ∃ k, k < 28 ∧ InsOk k n x) → RefsI use i xs rf → (∀ j, labOf s.labs (use j) = none) →
      (∃ x ∈ xs, (fmtN x.op.toNat).2.2 = 2) → ∃ a b, aResolve rf s = .thr a b 72
  | [], _, _, _, _, _, _, ⟨x, hx, _⟩ => absurd hx (by simp)
  | x :: r, i, rf, s, hall, hr, hl, hj => by
    obtain ⟨a, b, rfl, ha, hb⟩ := hr
    unfold RefI at ha
    by_cases hf : (fmtN x.op.toNat).2.2 = 2
    · rw [if_pos hf] at ha
      obtain ⟨t, k1, k2, rfl⟩ := ha
      refine ⟨t.line, t.col, ?_⟩
      rw [List.cons_append, List.nil_append, aResolve]
      simp only [k1, k2, hl, if_true]
      rfl
    · rw [if_neg hf] at ha
      subst ha
      rw [List.nil_append]
      refine resolve_miss r (i + 1) b s (fun y hy => hall y (by simp [hy])) hb hl ?_
      obtain ⟨y, hy, hyf⟩ := hj
      rcases List.mem_cons.1 hy with rfl | h3
      · exact absurd hyf hf
      · exact ⟨y, h3, hyf⟩
theorem all_miss {dfn : Nat → List UInt8} {miss : List UInt8} {tg : Nat → Bool} {xs : List GIns} (h1 : 1 ≤ xs.length) (h2 : xs.length ≤ 4096) (hx : AllOk xs.length xs) (hinj : ∀ a b, a < xs.length → b < xs.length → dfn a = dfn b → a = b) (hreg : ∀ a, a < xs.length → regNo (dfn a) = none)
    (hm : regNo miss = none) (hne : ∀ a, a < xs.length → dfn a ≠ miss) (hj : ∃ x ∈ xs, (fmtN x.op.toNat).2.2 = 2) {ts : List GTok} (h : ts.map GTok.bare = progB dfn (fun _ => miss) tg 0 xs ++ [eB]) : ∃ a b, aAll ts = .thr a b 72 := by
  have hlen : xs.length < ts.length := by
    have := congrArg List.length h
    have := progB_len (dfn := dfn) (use := fun _ => miss) (tg := tg) xs 0
    simp only [List.length_map, List.length_append, List.length_cons, List.length_nil] at *
    omega
  obtain ⟨t2, rf, e, hr⟩ := stats_b (n := xs.length) (use := fun _ => miss) h2 hinj hreg xs 0 ⟨ts, [], [], []⟩ ts.length
    (fun x hxx => by
      obtain ⟨k, hk, h3⟩ := hx x hxx
      exact ⟨k, hk, h3, fun _ => hm⟩) rfl (by simp) h1 hlen (fun _ _ _ => rfl) h
  obtain ⟨a, b, e2⟩ := resolve_miss (use := fun _ => miss) (n := xs.length) xs 0 rf ⟨t2, [] ++ xs.map strip, labsI dfn tg 0 xs.length [], [] ++ rf⟩ hx hr
    (fun _ => by
      show labOf (labsI dfn tg 0 xs.length []) miss = none
      rw [labs_old _ _ _ fun j _ h3 => hne j (by omega)]; rfl) hj
  refine ⟨a, b, ?_⟩
  unfold aAll
  rw [e]
  show aResolve _ _ = _
  exact e2
end Go.Proofs.YtahhmgoffdggpaaGreatDoor


namespace Go.Proofs.YtahhmgoffdggpaaGreatDoor

open Go.RowKit Go.Shelf

def gapsL : List (List UInt8) := [[32], [10], [9, 13, 10], [32, 35, 32, 97, 32, 99, 111, 109, 109, 101, 110, 116, 32, 34, 32, 123, 32, 10], [35, 10, 35, 10], [32, 32, 9]]
def gapL (k : Nat) : List UInt8 := gapsL.getD k []
theorem lex_s (b : UInt8) (hb : isSp b = true) (m : List UInt8) (p : Nat × Nat) : lex 0 p (b :: m) = lex 0 (adv p [b]) m := by
  have h : step (b :: m) = .skip 1 := by simp [step, hb]
  rw [lex_sk p (by simp) h]; rfl
theorem lex_c (c : List UInt8) (hc : c.all notNl = true) (m : List UInt8) (p : Nat × Nat) : ∃ q, lex 0 p (35 :: (c ++ 10 :: m)) = lex 0 q m := by
  have hr : run notNl ((35 :: c) ++ 10 :: m) = (35 :: c).length := run_sep notNl (35 :: c) (10 :: m) (by rw [List.all_cons, hc]; rfl) (.inr ⟨10, m, rfl, by decide⟩)
  have h : step ((35 :: c) ++ 10 :: m) = .skip (run notNl ((35 :: c) ++ 10 :: m)) := rfl
  rw [hr] at h
  have e : lex 0 p ((35 :: c) ++ 10 :: m) = lex 0 (adv (adv p (((35 :: c) ++ 10 :: m).take (35 :: c).length)) [10]) m := by
    rw [lex_sk p (by simp) h, List.drop_left, lex_s 10 (by decide)]
  exact ⟨_, e⟩
theorem lex_end (p : Nat × Nat) : lex 0 p [35, 32, 116, 104, 101, 32, 101, 110, 100] = .ok [] := by
  have h : step [35, 32, 116, 104, 101, 32, 101, 110, 100] = .skip 9 := by decide
  rw [lex_sk p (by simp) h]; rfl
theorem lex_gap (k : Nat) (hk : k < 6) (m : List UInt8) (p : Nat × Nat) : ∃ q, lex 0 p (gapL k ++ m) = lex 0 q m := by
  obtain rfl | rfl | rfl | rfl | rfl | rfl : k = 0 ∨ k = 1 ∨ k = 2 ∨ k = 3 ∨ k = 4 ∨ k = 5 := by omega
  · exact ⟨_, lex_s 32 (by decide) m p⟩
  · exact ⟨_, lex_s 10 (by decide) m p⟩
  · exact ⟨_, (lex_s 9 (by decide) _ p).trans ((lex_s 13 (by decide) _ _).trans (lex_s 10 (by decide) m _))⟩
  · obtain ⟨q, hq⟩ := lex_c [32, 97, 32, 99, 111, 109, 109, 101, 110, 116, 32, 34, 32, 123, 32] (by decide) m (adv p [32])
    exact ⟨q, (lex_s 32 (by decide) _ p).trans hq⟩
  · obtain ⟨q, hq⟩ := lex_c [] rfl (35 :: ([] ++ 10 :: m)) p
    obtain ⟨q2, hq2⟩ := lex_c [] rfl m q
    exact ⟨q2, hq.trans hq2⟩
  · exact ⟨_, (lex_s 32 (by decide) _ p).trans ((lex_s 32 (by decide) _ _).trans (lex_s 9 (by decide) m _))⟩
theorem sep_gap (k : Nat) (hk : k < 6) (m : List UInt8) : Sep (gapL k ++ m) := by
  obtain rfl | rfl | rfl | rfl | rfl | rfl : k = 0 ∨ k = 1 ∨ k = 2 ∨ k = 3 ∨ k = 4 ∨ k = 5 := by omega
  all_goals exact .inr ⟨_, _, rfl, by decide, by decide, by decide, by decide⟩
theorem gap_len (k : Nat) (hk : k < 6) : (gapL k).length ≤ 18 := by
  obtain rfl | rfl | rfl | rfl | rfl | rfl : k = 0 ∨ k = 1 ∨ k = 2 ∨ k = 3 ∨ k = 4 ∨ k = 5 := by omega
  all_goals decide
/-- The text T is scanned asx the tokens ts, whatever follows. -/
def SpInv (T : List UInt8) (ts : List GTok) : Prop := ∀ (m : List UInt8) (p : Nat × Nat), ∃ q us, lex 0 p (T ++ m) = (lex 0 q m).app us ∧ bareEq us ts
theorem SpInv.start (k : Nat) (hk : k < 6) : SpInv (gapL k) [] := fun m p => by
  obtain ⟨q, hq⟩ := lex_gap k hk m p
  exact ⟨q, [], by rw [hq, app_nil], rfl⟩
theorem SpInv.go {T : List UInt8} {ts : List GTok} (h : SpInv T ts) (t : GTok) (hw : wf t = true) (hv0 : 0 ≤ t.value) (hv : t.value < 18446744073709551616) (k : Nat) (hk : k < 6) : SpInv (T ++ txt t ++ gapL k) (ts ++ [t]) := fun m p => by
  obtain ⟨q, us, hl, hb⟩ := h (txt t ++ (gapL k ++ m)) p
  obtain ⟨q2, u, hu, hl2⟩ := lex_txt t hw hv0 hv (gapL k ++ m) (sep_gap k hk m) q
  obtain ⟨q3, hl3⟩ := lex_gap k hk m q2
  refine ⟨q3, us ++ [u], ?_, ?_⟩
  · rw [List.append_assoc, List.append_assoc, hl, hl2, hl3, app_cons]
  · unfold bareEq at hb ⊢
    rw [List.map_append, List.map_append, hb]
    simp [hu]
theorem SpInv.fin {T : List UInt8} {ts : List GTok} (h : SpInv T ts) (p : Nat × Nat) : ∃ us, lex 0 p (T ++ [35, 32, 116, 104, 101, 32, 101, 110, 100]) = .ok us ∧ bareEq us ts := by
  obtain ⟨q, us, hl, hb⟩ := h [35, 32, 116, 104, 101, 32, 101, 110, 100] p
  exact ⟨us, by rw [hl, lex_end]; simp [Res.app], hb⟩
end Go.Proofs.YtahhmgoffdggpaaGreatDoor
