/-
  The tokens of a program's text, the labels renamed. Plain mathematics.
  Conditions: as each theorem says.
  Tokens renamed one by one, as lists; two lists of one's own, one of them grown. Plain, but for the last.
  Conditions: as each theorem says.
  The law IsaLabels returns true, whatever the numbers and the prefix.
  Conditions: the listed variables lie as the program's start lays them.
-/
import Derived.Test.YtogebcgkcijacaaGreatDoorMb30
import Derived.Test.YtogebcgkcijacaaGreatDoorMb24
import Derived.Test.YtogebcgkcijacaaGreatDoorMb31
import Derived.Test.YtogebcgkcijacaaGreatDoorMb10
namespace Go.Proofs.YtogebcgkcijacaaGreatDoor
open Go.RowKit Go.Shelf

/-- A token that is a label's word. -/
def isLB (b : Bare) : Bool := decide (b.1 = 1) && (b.2.1.head? == some 76)
def renB (p : List UInt8) (b : Bare) : Bare := if isLB b then (b.1, p ++ b.2.1, b.2.2) else b
def nextT : List Bare → List UInt8
  | [] => []
  | b :: _ => b.2.1
def useB (b : Bare) (r : List Bare) : Bool := isLB b && !(nextT r == [58])
def ren2 (ms : List UInt8) : List Bare → List Bare
  | [] => []
  | b :: r => (if useB b r then (b.1, ms, b.2.2) else b) :: ren2 ms r
def any2 : List Bare → Bool
  | [] => false
  | b :: r => useB b r || any2 r
theorem ren2_skip (ms : List UInt8) : ∀ (a r : List Bare), (∀ b ∈ a, isLB b = false) → ren2 ms (a ++ r) = a ++ ren2 ms r
  | [], r, _ => rfl
  | b :: a, r, h => by
    have hb := h b List.mem_cons_self
    rw [List.cons_append, ren2, ren2_skip ms a r (fun x hx => h x (List.mem_cons_of_mem _ hx))]
    simp [useB, hb]
theorem any2_skip : ∀ (a r : List Bare), (∀ b ∈ a, isLB b = false) → any2 (a ++ r) = any2 r
  | [], r, _ => rfl
  | b :: a, r, h => by
    have hb := h b List.mem_cons_self
    rw [List.cons_append, any2, any2_skip a r (fun x hx => h x (List.mem_cons_of_mem _ hx))]
    simp [useB, hb]
theorem renB_skip (p : List UInt8) (a : List Bare) (h : ∀ b ∈ a, isLB b = false) : a.map (renB p) = a := by
  have e : a.map (renB p) = a.map id := List.map_congr_left fun b hb => by simp [renB, h b hb]
  rw [e, List.map_id]
theorem isLB_fmt {k : Nat} (hk : k < 28) : isLB (wdB (fmtN k).1) = false := by
  have : ∀ k : Fin 28, isLB (wdB (fmtN k.val).1) = false := by decide +kernel
  exact this ⟨k, hk⟩
theorem isLB_reg {r : Nat} (h : r < 16) : isLB (wdB (regW r)) = false := by
  have : ∀ r : Fin 16, isLB (wdB (regW r.val)) = false := by decide
  exact this ⟨r, h⟩
theorem isLB_m (c : UInt8) : isLB (mB c) = false := by simp [isLB, mB]
theorem isLB_n (v : Nat) : isLB (nB v) = false := by simp [isLB, nB]
theorem isLB_nm (n : Nat) : isLB (wdB (nmW n)) = true := by simp [isLB, wdB, nmW, labW]
theorem com_no (i : Nat) : ∀ b ∈ comB i, isLB b = false := by
  intro b hb; unfold comB at hb; split at hb
  · simp at hb; subst hb; exact isLB_m _
  · simp at hb
theorem regs_no : ∀ (rs : List Nat) (i : Nat), (∀ r ∈ rs, r < 16) → ∀ b ∈ regsB i rs, isLB b = false
  | [], i, _, b, hb => by simp [regsB] at hb
  | r :: rs, i, h, b, hb => by
    rw [regsB] at hb
    rcases List.mem_append.1 hb with h1 | h1
    · exact com_no i b h1
    · rcases List.mem_cons.1 h1 with rfl | h2
      · exact isLB_reg (h r List.mem_cons_self)
      · exact regs_no rs (i + 1) (fun x hx => h x (List.mem_cons_of_mem _ hx)) b h2
theorem imm_no (v : Int) : ∀ b ∈ immB v, isLB b = false := by
  intro b hb; unfold immB at hb; split at hb
  · simp at hb; rcases hb with rfl | rfl
    · exact isLB_m _
    · exact isLB_n _
  · simp at hb; subst hb; exact isLB_n _
/-- What stands before an instruction's last operand. -/
def headB (x : GIns) : List Bare := wdB (fmtN x.op.toNat).1 :: regsB 0 (regsN x (fmtN x.op.toNat).2.1)
theorem head_no {k n : Nat} (hk : k < 28) {x : GIns} (h : InsOk k n x) : ∀ b ∈ headB x, isLB b = false := by
  have hop : x.op.toNat = k := by rw [h.op]; rfl
  intro b hb
  unfold headB at hb
  rw [hop] at hb
  rcases List.mem_cons.1 hb with rfl | hb
  · exact isLB_fmt hk
  · exact regs_no _ _ (regsN_lt h _) b hb
theorem inst_head (use : Nat → List UInt8) (x : GIns) : instB use x = headB x ++ (lastB use (fmtN x.op.toNat).2 x.imm ++ [mB 59]) := by unfold instB headB; simp
theorem inst_ren {k n : Nat} (hk : k < 28) {x : GIns} (h : InsOk k n x) (p : List UInt8) : (instB nmW x).map (renB p) = instB (fun i => p ++ nmW i) x := by
  rw [inst_head, inst_head, List.map_append, renB_skip p _ (head_no hk h), List.map_append]
  congr 1
  rw [show [mB 59].map (renB p) = [mB 59] from renB_skip p _ (by simp [isLB_m])]
  congr 1
  unfold lastB
  split
  · rw [renB_skip]
    intro b hb
    rcases List.mem_append.1 hb with h1 | h1
    · exact com_no _ b h1
    · exact imm_no _ b h1
  · split
    · rw [List.map_append, renB_skip p _ (com_no _)]
      congr 1
    · rfl
theorem inst_ren2 {k n : Nat} (hk : k < 28) {x : GIns} (h : InsOk k n x) (ms : List UInt8) (r : List Bare) : ren2 ms (instB nmW x ++ r) = instB (fun _ => ms) x ++ ren2 ms r := by
  have h59 : ∀ b ∈ [mB 59], isLB b = false := by simp [isLB_m]
  rw [inst_head, inst_head]
  simp only [List.append_assoc]
  rw [ren2_skip ms _ _ (head_no hk h)]
  congr 1
  unfold lastB
  by_cases h1 : (fmtN x.op.toNat).2.2 = 1
  · rw [if_pos h1, if_pos h1, ren2_skip ms _ _ (fun b hb => by
      rcases List.mem_append.1 hb with h1 | h1
      · exact com_no _ b h1
      · exact imm_no _ b h1), ren2_skip ms _ _ h59]
  · rw [if_neg h1, if_neg h1]
    by_cases h2 : (fmtN x.op.toNat).2.2 = 2
    · rw [if_pos h2, if_pos h2, List.append_assoc, List.append_assoc, ren2_skip ms _ _ (com_no _)]
      congr 1
    · rw [if_neg h2, if_neg h2, List.nil_append, List.nil_append, ren2_skip ms _ _ h59]
theorem inst_any2 {k n : Nat} (hk : k < 28) {x : GIns} (h : InsOk k n x) (r : List Bare) : any2 (instB nmW x ++ r) = (decide ((fmtN x.op.toNat).2.2 = 2) || any2 r) := by
  have h59 : ∀ b ∈ [mB 59], isLB b = false := by simp [isLB_m]
  rw [inst_head]
  simp only [List.append_assoc]
  rw [any2_skip _ _ (head_no hk h)]
  unfold lastB
  by_cases h1 : (fmtN x.op.toNat).2.2 = 1
  · rw [if_pos h1, any2_skip _ _ (fun b hb => by
      rcases List.mem_append.1 hb with h1 | h1
      · exact com_no _ b h1
      · exact imm_no _ b h1), any2_skip _ _ h59, h1]
    rfl
  · rw [if_neg h1]
    by_cases h2 : (fmtN x.op.toNat).2.2 = 2
    · rw [if_pos h2, List.append_assoc, any2_skip _ _ (com_no _)]
      show any2 (wdB (nmW x.imm.toNat) :: mB 59 :: r) = _
      rw [any2, any2]
      have u1 : useB (wdB (nmW x.imm.toNat)) (mB 59 :: r) = true := by simp [useB, isLB_nm, nextT, mB]
      rw [u1, h2]
      rfl
    · rw [if_neg h2, List.nil_append, any2_skip _ _ h59]
      simp [h2]
theorem def_ren2 (tg : Nat → Bool) (i : Nat) (ms : List UInt8) (r : List Bare) : ren2 ms ((if tg i then [wdB (nmW i), mB 58] else []) ++ r) = (if tg i then [wdB (nmW i), mB 58] else []) ++ ren2 ms r := by
  by_cases h : tg i = true
  · rw [if_pos h]
    show ren2 ms (wdB (nmW i) :: mB 58 :: r) = _
    rw [ren2, ren2]
    have u1 : useB (wdB (nmW i)) (mB 58 :: r) = false := by simp [useB, nextT, mB]
    have u2 : useB (mB 58) r = false := by simp [useB, isLB_m]
    rw [u1, u2]
    rfl
  · rw [if_neg h]; rfl
theorem def_any2 (tg : Nat → Bool) (i : Nat) (r : List Bare) : any2 ((if tg i then [wdB (nmW i), mB 58] else []) ++ r) = any2 r := by
  by_cases h : tg i = true
  · rw [if_pos h]
    show any2 (wdB (nmW i) :: mB 58 :: r) = _
    rw [any2, any2]
    have u1 : useB (wdB (nmW i)) (mB 58 :: r) = false := by simp [useB, nextT, mB]
    have u2 : useB (mB 58) r = false := by simp [useB, isLB_m]
    rw [u1, u2]
    rfl
  · rw [if_neg h]; rfl
theorem prog_ren {n : Nat} {tg : Nat → Bool} (p : List UInt8) : ∀ (xs : List GIns) (i : Nat), AllOk n xs → (progB nmW nmW tg i xs).map (renB p) = progB (fun i => p ++ nmW i) (fun i => p ++ nmW i) tg i xs
  | [], i, _ => rfl
  | x :: xs, i, h => by
    obtain ⟨k, hk, hx⟩ := h x List.mem_cons_self
    rw [progB, progB, List.map_append, prog_ren p xs (i + 1) (fun y hy => h y (List.mem_cons_of_mem _ hy))]
    congr 1
    unfold lineB
    rw [List.map_append, inst_ren hk hx p]
    congr 1
    split
    · show [renB p (wdB (nmW i)), renB p (mB 58)] = _
      rw [renB, if_pos (isLB_nm _), renB, if_neg (by rw [isLB_m]; decide)]
      rfl
    · rfl
theorem prog_ren2 {n : Nat} {tg : Nat → Bool} (ms : List UInt8) : ∀ (xs : List GIns) (i : Nat), AllOk n xs → ren2 ms (progB nmW nmW tg i xs) = progB nmW (fun _ => ms) tg i xs
  | [], i, _ => rfl
  | x :: xs, i, h => by
    obtain ⟨k, hk, hx⟩ := h x List.mem_cons_self
    have ih := prog_ren2 (tg := tg) ms xs (i + 1) (fun y hy => h y (List.mem_cons_of_mem _ hy))
    rw [progB, progB]
    unfold lineB
    rw [List.append_assoc, def_ren2, inst_ren2 hk hx, ih, List.append_assoc]
theorem prog_any2 {n : Nat} {tg : Nat → Bool} : ∀ (xs : List GIns) (i : Nat), AllOk n xs → any2 (progB nmW nmW tg i xs) = xs.any fun x => decide ((fmtN x.op.toNat).2.2 = 2)
  | [], i, _ => rfl
  | x :: xs, i, h => by
    obtain ⟨k, hk, hx⟩ := h x List.mem_cons_self
    have ih := prog_any2 (tg := tg) xs (i + 1) (fun y hy => h y (List.mem_cons_of_mem _ hy))
    rw [progB]
    unfold lineB
    rw [List.append_assoc, def_any2, inst_any2 hk hx, ih, List.any_cons]
/-- Where no operand is a label, the labels' names do not matter. -/
theorem prog_nouse {dfn u1 u2 : Nat → List UInt8} {tg : Nat → Bool} : ∀ (xs : List GIns) (i : Nat), (∀ x ∈ xs, (fmtN x.op.toNat).2.2 ≠ 2) → progB dfn u1 tg i xs = progB dfn u2 tg i xs
  | [], i, _ => rfl
  | x :: xs, i, h => by
    rw [progB, progB, prog_nouse xs (i + 1) (fun y hy => h y (List.mem_cons_of_mem _ hy))]
    congr 1
    unfold lineB instB lastB
    have := h x List.mem_cons_self
    simp [this]
/-- A bare token that has a text. -/
structure BOk (b : Bare) : Prop where
  wf : wf ⟨b.1, b.2.1, b.2.2, 0, 0⟩ = true
  v0 : 0 ≤ b.2.2
  v1 : b.2.2 < 18446744073709551616
  len : b.2.1.length ≤ 45
  tx : (txt ⟨b.1, b.2.1, b.2.2, 0, 0⟩).length ≤ 45
theorem ok_word {w : List UInt8} (h : wordB w = true) (hl : w.length ≤ 45) : BOk (wdB w) := ⟨by simp [wdB, wf, h], by simp [wdB], by simp [wdB], hl, by simpa [wdB, txt] using hl⟩
theorem ok_num {v : Nat} (h : v < 18446744073709551616) : BOk (nB v) := ⟨by simp [nB, wf], by simp [nB], by simp [nB]; omega, by simp [nB], by have := (isDec v h).len; simp [nB, txt]; omega⟩
theorem ok_m (c : UInt8) (h : c = 44 ∨ c = 45 ∨ c = 58 ∨ c = 59) : BOk (mB c) := ⟨by rcases h with rfl | rfl | rfl | rfl <;> rfl, by simp [mB], by simp [mB], by simp [mB], by simp [mB, txt]⟩
theorem ok_com (i : Nat) : ∀ b ∈ comB i, BOk b := by
  intro b hb; unfold comB at hb; split at hb
  · simp at hb; subst hb; exact ok_m _ (by simp)
  · simp at hb
theorem ok_regs : ∀ (rs : List Nat) (i : Nat), (∀ r ∈ rs, r < 16) → ∀ b ∈ regsB i rs, BOk b
  | [], i, _, b, hb => by simp [regsB] at hb
  | r :: rs, i, h, b, hb => by
    rw [regsB] at hb
    rcases List.mem_append.1 hb with h1 | h1
    · exact ok_com i b h1
    · rcases List.mem_cons.1 h1 with rfl | h2
      · exact ok_word (reg_word (h r List.mem_cons_self)) (by have := regW_short r; omega)
      · exact ok_regs rs (i + 1) (fun x hx => h x (List.mem_cons_of_mem _ hx)) b h2
theorem ok_prog {n N : Nat} {dfn use : Nat → List UInt8} {tg : Nat → Bool} (hd : ∀ i, i < N → wordB (dfn i) = true ∧ (dfn i).length ≤ 45) (hu : ∀ i, i < n → wordB (use i) = true ∧ (use i).length ≤ 45) :
    ∀ (xs : List GIns) (i : Nat), AllOk n xs → i + xs.length ≤ N → ∀ b ∈ progB dfn use tg i xs, BOk b
  | [], i, _, _, b, hb => by simp [progB] at hb
  | x :: xs, i, h, hN, b, hb => by
    obtain ⟨k, hk, hx⟩ := h x List.mem_cons_self
    have hop : x.op.toNat = k := by rw [hx.op]; rfl
    simp only [List.length_cons] at hN
    rw [progB] at hb
    rcases List.mem_append.1 hb with hb | hb
    · unfold lineB at hb
      rcases List.mem_append.1 hb with hb | hb
      · split at hb
        · simp at hb
          rcases hb with rfl | rfl
          · exact ok_word (hd i (by omega)).1 (hd i (by omega)).2
          · exact ok_m _ (by simp)
        · simp at hb
      · unfold instB at hb
        rcases List.mem_cons.1 hb with rfl | hb
        · exact ok_word (by rw [hop]; exact fmt_word hk) (by have := fmt_short x.op.toNat; omega)
        · rcases List.mem_append.1 hb with hb | hb
          · exact ok_regs _ _ (regsN_lt hx _) b hb
          · rcases List.mem_append.1 hb with hb | hb
            · unfold lastB at hb
              split at hb
              · rcases List.mem_append.1 hb with hb | hb
                · exact ok_com _ b hb
                · have h1 := hx.lo
                  have h2 := hx.hi
                  unfold immB at hb
                  split at hb
                  · simp at hb
                    rcases hb with rfl | rfl
                    · exact ok_m _ (by simp)
                    · exact ok_num (by omega)
                  · simp at hb; subst hb
                    exact ok_num (by omega)
              · split at hb
                · rename_i h2
                  rcases List.mem_append.1 hb with hb | hb
                  · exact ok_com _ b hb
                  · have := hx.tg (by rw [← hop]; exact h2)
                    simp at hb; subst hb
                    exact ok_word (hu _ (by omega)).1 (hu _ (by omega)).2
                · simp at hb
            · simp at hb; subst hb; exact ok_m _ (by simp)
    · exact ok_prog hd hu xs (i + 1) (fun y hy => h y (List.mem_cons_of_mem _ hy)) (by omega) b hb
theorem regsB_len : ∀ (rs : List Nat) (i : Nat), (regsB i rs).length ≤ 2 * rs.length
  | [], i => by simp [regsB]
  | r :: rs, i => by
    have := regsB_len rs (i + 1)
    have h2 : (comB i).length ≤ 1 := by unfold comB; split <;> simp
    rw [regsB]
    simp only [List.length_append, List.length_cons]
    omega
theorem progB_few {dfn use : Nat → List UInt8} {tg : Nat → Bool} : ∀ (xs : List GIns) (i : Nat), (progB dfn use tg i xs).length ≤ 13 * xs.length
  | [], i => by simp [progB]
  | x :: xs, i => by
    have ih := progB_few (dfn := dfn) (use := use) (tg := tg) xs (i + 1)
    have h1 := regsB_len (regsN x (fmtN x.op.toNat).2.1) 0
    have h2 : (regsN x (fmtN x.op.toNat).2.1).length ≤ 3 := by unfold regsN; rw [List.length_take]; simp; omega
    have h4 : (comB (fmtN x.op.toNat).2.1).length ≤ 1 := by unfold comB; split <;> simp
    have h5 : (immB x.imm).length ≤ 2 := by unfold immB; split <;> simp
    have h3 : (lastB use (fmtN x.op.toNat).2 x.imm).length ≤ 3 := by
      unfold lastB
      split
      · simp only [List.length_append]; omega
      · split
        · simp only [List.length_append, List.length_cons, List.length_nil]; omega
        · simp
    have h6 : (lineB dfn use tg i x).length ≤ 13 := by
      unfold lineB instB
      split <;> simp only [List.length_append, List.length_cons, List.length_nil] <;> omega
    rw [progB, List.length_append, List.length_cons]
    omega
theorem bok_wf {ts : List GTok} (h : ∀ b ∈ ts.map GTok.bare, BOk b) : WfAll ts := fun t ht => by
  have hb := h t.bare (List.mem_map_of_mem ht)
  exact ⟨(wf_bare (a := t) (b := ⟨t.bare.1, t.bare.2.1, t.bare.2.2, 0, 0⟩) rfl).1.trans hb.wf, hb.v0, hb.v1⟩
theorem bok_tx {ts : List GTok} (h : ∀ b ∈ ts.map GTok.bare, BOk b) : ∀ t ∈ ts, (txt t).length ≤ 45 ∧ t.text.length ≤ 45 := fun t ht => by
  have hb := h t.bare (List.mem_map_of_mem ht)
  have e := (wf_bare (a := t) (b := ⟨t.bare.1, t.bare.2.1, t.bare.2.2, 0, 0⟩) rfl).2
  exact ⟨by rw [e]; exact hb.tx, hb.len⟩
theorem tail_len9 : ∀ (ts : List GTok), (∀ t ∈ ts, (txt t).length ≤ 45) → (tailT ts).length ≤ 46 * ts.length
  | [], _ => by simp [tailT]
  | t :: r, h => by
    have h1 := h t List.mem_cons_self
    have h2 := tail_len9 r fun x hx => h x (List.mem_cons_of_mem _ hx)
    unfold tailT at *
    rw [List.flatMap_cons]
    simp only [List.length_append, List.length_cons]
    omega
theorem join_len9 (ts : List GTok) (h : ∀ t ∈ ts, (txt t).length ≤ 45) : (joinT ts).length ≤ 46 * ts.length := by
  cases ts with
  | nil => simp [joinT]
  | cons t r =>
    have h1 := h t List.mem_cons_self
    have h2 := tail_len9 r fun x hx => h x (List.mem_cons_of_mem _ hx)
    rw [joinT, List.length_append, List.length_cons]
    omega
/-- Formatted tokens, assembled: the tokens are those again, and the end behind them. -/
theorem fmt_asm {ts : List GTok} {P : List Bare} (h : ts.map GTok.bare = P) (hok : ∀ b ∈ P, BOk b) (hl : P.length ≤ 400) : ∃ us : List GTok, us.map GTok.bare = P ++ [eB] ∧ asmAll (fmtL ts) = aAll us ∧ (fmtL ts).length ≤ 18400 ∧ Few ts := by
  subst h
  have hw := bok_wf hok
  have ht := bok_tx hok
  rw [List.length_map] at hl
  have hf : fmtL ts = joinT ts := by
    unfold fmtL
    rw [if_pos (List.all_eq_true.2 fun t ht => (hw t ht).1)]
  have hlen := join_len9 ts fun t h => (ht t h).1
  obtain ⟨us, e, hb⟩ := lex_join ts hw (1, 1)
  refine ⟨us.map Tok.g ++ [endTok (fmtL ts)], ?_, ?_, by rw [hf]; omega, by omega, fun t h => ⟨by have := (ht t h).2; omega, (hw t h).2⟩⟩
  · rw [List.map_append, List.map_map]
    unfold bareEq at hb
    rw [← hb]
    rfl
  · unfold asmAll
    rw [hf]
    have : scan (joinT ts) = .ok us := by
      unfold scan
      rw [if_neg (by omega), e]
    rw [this]
theorem word_app {p q : List UInt8} (hp : wordB p = true) (hq : wordB q = true) : wordB (p ++ q) = true := by
  cases p with
  | nil => simp [wordB] at hp
  | cons c r =>
    cases q with
    | nil => simp [wordB] at hq
    | cons d u =>
      simp only [wordB, Bool.and_eq_true] at hp hq
      have hd : isWB d = true := by rw [wb_eq, hq.1]; rfl
      simp [wordB, hp.1, hp.2, hq.2, hd]
theorem nm_word (n : Nat) (h : n < 9223372036854775808) : wordB (nmW n) = true ∧ (nmW n).length ≤ 22 := by
  have := Lib.itoa_length_le (n : Int) (by omega) (by omega)
  exact ⟨lab_word (by omega) (by omega), by simp [nmW, labW]; omega⟩
theorem has_noreg {w : List UInt8} (h : (76 : UInt8) ∈ w) : regNo w = none := by
  cases hr : regNo w with
  | none => rfl
  | some r =>
    exfalso
    have := firstN_lt hr
    have h2 : regW r = w := by simpa using this.2.2
    have hd : ∀ r : Fin 16, (76 : UInt8) ∉ regW r.val := by decide
    exact hd ⟨r, by omega⟩ (by show (76 : UInt8) ∈ regW r; rw [h2]; exact h)
def msW : List UInt8 := [109, 105, 115, 115, 105, 110, 103]
theorem tgt_mem {ps : List GIns} (h : AllOk ps.length ps) : ∀ x ∈ ps, (fmtN x.op.toNat).2.2 = 2 → tgt ps x.imm.toNat = true := by
  intro x hx hf
  obtain ⟨k, hk, h3⟩ := h x hx
  have hop : x.op.toNat = k := by rw [h3.op]; rfl
  obtain ⟨t0, _⟩ := h3.tg (by rw [← hop]; exact hf)
  unfold tgt
  rw [List.any_eq_true]
  exact ⟨x, hx, by simp [hf]; omega⟩
theorem labs_ok {ps : List GIns} (h : AllOk ps.length ps) (h1 : 1 ≤ ps.length) (h2 : ps.length ≤ 12) {p : List UInt8} (hp : wordB p = true) (hpl : p.length ≤ 20) {T U : List GTok} (hT : T.map GTok.bare = progB nmW nmW (tgt ps) 0 ps) (hU : U.map GTok.bare = (T.map GTok.bare).map (renB p)) :
    ∃ s, asmAll (fmtL U) = .ok () s ∧ s.prog = ps ∧ (fmtL U).length ≤ 18400 ∧ Few U := by
  rw [hT, prog_ren p ps 0 h] at hU
  have hw : ∀ i, i < ps.length → wordB (p ++ nmW i) = true ∧ (p ++ nmW i).length ≤ 45 := fun i hi => by
    obtain ⟨w1, w2⟩ := nm_word i (by omega)
    exact ⟨word_app hp w1, by rw [List.length_append]; omega⟩
  have hf := progB_few (dfn := fun i => p ++ nmW i) (use := fun i => p ++ nmW i) (tg := tgt ps) ps 0
  obtain ⟨us, hb, ha, hl, hF⟩ := fmt_asm hU (ok_prog (n := ps.length) (N := ps.length) hw hw ps 0 h (by omega)) (by omega)
  obtain ⟨s, hs, hq⟩ := all_prog (nm := fun i => p ++ nmW i) (tg := tgt ps) h1 (by omega) h (fun a b ha hb' hab => nm_inj (by omega) (by omega) (List.append_cancel_left hab)) (fun a _ => has_noreg (by simp [nmW, labW])) (tgt_mem h) hb
  exact ⟨s, by rw [ha, hs], hq, hl, hF⟩
theorem labs_miss {ps : List GIns} (h : AllOk ps.length ps) (h1 : 1 ≤ ps.length) (h2 : ps.length ≤ 12) {T W : List GTok} (hT : T.map GTok.bare = progB nmW nmW (tgt ps) 0 ps) (hW : W.map GTok.bare = ren2 msW (T.map GTok.bare)) :
    (if any2 (T.map GTok.bare) = true then ∃ a b, asmAll (fmtL W) = .thr a b 72 else ∃ s, asmAll (fmtL W) = .ok () s) ∧ (fmtL W).length ≤ 18400 ∧ Few W := by
  rw [hT, prog_ren2 msW ps 0 h] at hW
  rw [hT, prog_any2 ps 0 h]
  have hw : ∀ i, i < ps.length → wordB (nmW i) = true ∧ (nmW i).length ≤ 45 := fun i hi => by
    obtain ⟨w1, w2⟩ := nm_word i (by omega)
    exact ⟨w1, by omega⟩
  have hf := progB_few (dfn := nmW) (use := fun _ => msW) (tg := tgt ps) ps 0
  obtain ⟨us, hb, ha, hl, hF⟩ := fmt_asm hW (ok_prog (n := ps.length) (N := ps.length) hw (fun _ _ => ⟨by decide, by decide⟩) ps 0 h (by omega)) (by omega)
  refine ⟨?_, hl, hF⟩
  have hinj : ∀ a b, a < ps.length → b < ps.length → nmW a = nmW b → a = b := fun a b ha hb' hab => nm_inj (by omega) (by omega) hab
  split
  · rename_i hj
    obtain ⟨x, hx, hf2⟩ := List.any_eq_true.1 hj
    obtain ⟨a, b, e⟩ := all_miss (dfn := nmW) (miss := msW) (tg := tgt ps) h1 (by omega) h hinj (fun a _ => nm_noreg a) (by decide) (fun a _ hh => by simp [nmW, labW, msW] at hh) ⟨x, hx, by simpa using hf2⟩ hb
    exact ⟨a, b, by rw [ha, e]⟩
  · rename_i hj
    have hno : ∀ x ∈ ps, (fmtN x.op.toNat).2.2 ≠ 2 := fun x hx hh => hj (List.any_eq_true.2 ⟨x, hx, by simpa using hh⟩)
    rw [prog_nouse (u2 := nmW) ps 0 hno] at hb
    obtain ⟨s, hs, _⟩ := all_prog (nm := nmW) (tg := tgt ps) h1 (by omega) h hinj (fun a _ => nm_noreg a) (tgt_mem h) hb
    exact ⟨s, by rw [ha, hs]⟩
end Go.Proofs.YtogebcgkcijacaaGreatDoor


namespace Go.Proofs.YtogebcgkcijacaaGreatDoor
open Go.RowKit Go.Shelf

def renG (p : List UInt8) (t : GTok) : GTok := if isLB t.bare then { t with text := p ++ t.text } else t
theorem renG_bare (p : List UInt8) (t : GTok) : (renG p t).bare = renB p t.bare := by
  unfold renG renB; split <;> rfl
/-- The token i is a label's word at its use. -/
def useAt : List GTok → Nat → Bool
  | [], _ => false
  | t :: r, 0 => useB t.bare (r.map GTok.bare)
  | _ :: r, i + 1 => useAt r i
def misG (ms : List UInt8) (q : Bool) (t : GTok) : GTok := if q then { t with text := ms } else t
def ren2G (ms : List UInt8) : List GTok → List GTok
  | [] => []
  | t :: r => misG ms (useB t.bare (r.map GTok.bare)) t :: ren2G ms r
theorem ren2G_len (ms : List UInt8) : ∀ ts, (ren2G ms ts).length = ts.length
  | [] => rfl
  | t :: r => by rw [ren2G, List.length_cons, List.length_cons, ren2G_len ms r]
theorem ren2G_bare (ms : List UInt8) : ∀ ts, (ren2G ms ts).map GTok.bare = ren2 ms (ts.map GTok.bare)
  | [] => rfl
  | t :: r => by
    rw [ren2G, List.map_cons, List.map_cons, ren2, ren2G_bare ms r]
    congr 1
    unfold misG; split <;> rfl
theorem ren2G_get (ms : List UInt8) : ∀ (ts : List GTok) (i : Nat) (h : i < ts.length), (ren2G ms ts)[i]'(by rw [ren2G_len]; exact h) = misG ms (useAt ts i) ts[i]
  | t :: r, 0, _ => rfl
  | t :: r, i + 1, h => ren2G_get ms r i (by simpa using h)
def anyU (ts : List GTok) (i : Nat) : Bool := (List.range i).any (useAt ts)
theorem anyU_succ (ts : List GTok) (i : Nat) : anyU ts (i + 1) = (anyU ts i || useAt ts i) := by
  unfold anyU; rw [List.range_succ, List.any_append]; simp
theorem anyU_all : ∀ ts : List GTok, anyU ts ts.length = any2 (ts.map GTok.bare)
  | [] => rfl
  | t :: r => by
    rw [List.map_cons, any2, ← anyU_all r]
    unfold anyU
    rw [List.length_cons, List.range_succ_eq_map, List.any_cons, List.any_map]
    rfl
theorem useAt_no {ts : List GTok} {i : Nat} (h : i < ts.length) (hn : isLB ts[i].bare = false) : useAt ts i = false := by
  induction ts generalizing i with
  | nil => rfl
  | cons t r ih =>
    cases i with
    | zero => simp only [List.getElem_cons_zero] at hn; simp [useAt, useB, hn]
    | succ i => exact ih (by simpa using h) hn
theorem useAt_end {ts : List GTok} {i : Nat} (h : i < ts.length) (hn : isLB ts[i].bare = true) (he : ts.length ≤ i + 1) : useAt ts i = true := by
  induction ts generalizing i with
  | nil => simp at h
  | cons t r ih =>
    cases i with
    | zero =>
      have : r = [] := List.length_eq_zero_iff.1 (by rw [List.length_cons] at he; omega)
      subst this
      simp only [List.getElem_cons_zero] at hn
      simp [useAt, useB, hn, nextT]
    | succ i => exact ih (by simpa using h) hn (by simpa using he)
theorem useAt_next {ts : List GTok} {i : Nat} (h : i + 1 < ts.length) (hn : isLB (ts[i]'(by omega)).bare = true) : useAt ts i = !(ts[i + 1].text == [58]) := by
  induction ts generalizing i with
  | nil => simp at h
  | cons t r ih =>
    cases i with
    | zero =>
      cases r with
      | nil => simp at h
      | cons u r =>
        simp only [List.getElem_cons_zero] at hn
        show (isLB t.bare && !(u.text == [58])) = _
        rw [hn]
        rfl
    | succ i => exact ih (i := i) (by simpa using h) hn
theorem GRow.tok5 {w : World} {B : Nat} {A : Option Addr} {ts : List GTok} (h : GRow GTok.cells 5 w B A ts) {k : Nat} (hk : k < ts.length) : ∃ b off, A = some ⟨b, off, none⟩ ∧ b < B ∧
    w.cell? ⟨b, off + k * 5, none⟩ = some (.int .i64 ts[k].kind) ∧ w.cell? ⟨b, off + k * 5 + 1, none⟩ = some (.string ⟨ts[k].text.toArray⟩) ∧ w.cell? ⟨b, off + k * 5 + 2, none⟩ = some (.int .u64 ts[k].value) ∧ w.cell? ⟨b, off + k * 5 + 3, none⟩ = some (.int .i64 ts[k].line) ∧ w.cell? ⟨b, off + k * 5 + 4, none⟩ = some (.int .i64 ts[k].col) := by
  obtain ⟨b, off, rfl, hb, hc⟩ := h (by omega)
  exact ⟨b, off, rfl, hb, hc k hk 0 _ rfl, hc k hk 1 _ rfl, hc k hk 2 _ rfl, hc k hk 3 _ rfl, hc k hk 4 _ rfl⟩
abbrev OwnK (w : World) (base : Nat) (v : Value) (ts : List GTok) : Prop := OwnG GTok.cells 47 5 w base v ts
theorem tok_one (t : GTok) : ∀ u ∈ t.cells, u.oneCell' = true := by intro u hu; simp [GTok.cells] at hu; rcases hu with rfl | rfl | rfl | rfl | rfl <;> rfl
/-- Two lists of one's own. -/
structure Two2 (base : Nat) (w : World) (vu vw : Value) (us ws : List GTok) : Prop where
  u : OwnK w base vu us
  v : OwnK w base vw ws
  ne : ∀ g, vu.ownBlock = some g → vw.ownBlock ≠ some g
theorem Two2.swap {base : Nat} {w : World} {vu vw : Value} {us ws : List GTok} (h : Two2 base w vu vw us ws) : Two2 base w vw vu ws us := ⟨h.v, h.u, fun g h1 h2 => h.ne g h2 h1⟩
theorem Two2.next {base : Nat} {w w' : World} {vu vw : Value} {us ws : List GTok} (h : Two2 base w vu vw us ws) (hb : Below w.heap.size w w') : Two2 base w' vu vw us ws := ⟨h.u.next hb, h.v.next hb, h.ne⟩
/-- A token behind the first list: the second is asx it was. -/
theorem Two2.app {base : Nat} {W : World} {vu vw : Value} {us ws : List GTok} (h : Two2 base W vu vw us ws) (hb : base ≤ W.heap.size) (hn : us.length ≤ 100000) (t : GTok) :
    ∃ v' w', (Builtin.append_ #[42, 42] 42 #[vu, .slice (some ⟨W.heap.size, 0, none⟩) 1 1]).run Tryz.prog (W.alloc (.cells #[.int .i64 t.kind, .string ⟨t.text.toArray⟩, .int .u64 t.value, .int .i64 t.line, .int .i64 t.col] 47)) = .ok v' w' ∧ Two2 base w' v' vw (us ++ [t]) ws ∧ Below base W w' ∧ (∀ g, W.heap.size ≤ g ∨ vu.ownBlock ≠ some g → g < W.heap.size → w'.heap[g]? = W.heap[g]?) := by
  have hlit := GRow.lit GTok.len5 W 47 [t] #[.int .i64 t.kind, .string ⟨t.text.toArray⟩, .int .u64 t.value, .int .i64 t.line, .int .i64 t.col] rfl (by unfold maxLen; simp)
  obtain ⟨v', w3, hrun, hown3, hgr3, hob⟩ := OwnG.app elt_tok GTok.len5 tok_one (h.u.alloc (.cells #[.int .i64 t.kind, .string ⟨t.text.toArray⟩, .int .u64 t.value, .int .i64 t.line, .int .i64 t.col] 47)) 1 hlit (by simp; omega) (by unfold maxLen; simp; omega) (by simp; omega)
  have hbk : ∀ g, vu.ownBlock ≠ some g → g < W.heap.size → w3.heap[g]? = W.heap[g]? := fun g hg hlt => by
    have h1 := hgr3.block g (by simp; omega) (fun e => hg e.symm)
    rw [h1]
    exact heap_alloc_old _ _ hlt
  have hsz : W.heap.size + 1 ≤ w3.heap.size := by have := hgr3.size; simpa using this
  refine ⟨v', w3, hrun, ⟨hown3, h.v.keep fun g hg => hbk g (fun e => h.ne g e hg) (h.v.lt g hg).2, fun g hg hg2 => ?_⟩, ?_, fun g h1 h2 => hbk g (by rcases h1 with h1 | h1 <;> first | omega | exact h1) h2⟩
  · rcases hob with e | e
    · rw [e] at hg; exact h.ne g hg hg2
    · rw [e] at hg
      have := (h.v.lt g hg2).2
      simp at hg
      omega
  · have hba : Below base W (W.alloc (.cells #[.int .i64 t.kind, .string ⟨t.text.toArray⟩, .int .u64 t.value, .int .i64 t.line, .int .i64 t.col] 47)) := (Below.refl base W).alloc hb _
    refine hba.trans ⟨hgr3.os, hgr3.tape, hgr3.output, hgr3.size, ?_⟩
    intro k hk
    refine hgr3.block k (by simp; omega) (fun e => ?_)
    have := h.u.lt k e.symm
    omega
end Go.Proofs.YtogebcgkcijacaaGreatDoor


namespace Go.Proofs.YtogebcgkcijacaaGreatDoor
open Go.RowKit Go.Shelf

/-- The loop of IsaLabels, at the token i. -/
structure LbJ (w0 : World) (p : List UInt8) (T : List GTok) (i : Nat) (vu vw : Value) (wr : World) : Prop where
  two : Two2 w0.heap.size wr vu vw ((T.map (renG p)).take i) ((ren2G msW T).take i)
  bel : Below w0.heap.size w0 wr
theorem scan9 (ps : List GIns) (h : AllOk ps.length ps) (h2 : ps.length ≤ 12) (w : World) (hG : GlobP w) :
    Calls Tryz.prog 22 #[.string ⟨(disF ps ps.length).toArray⟩] w fun e w' => ∃ A c T, e = .returned (.tuple #[.slice A T.length c, .agg #[.int .i64 0, .int .i64 0], .int .i64 0]) ∧ GRow GTok.cells 5 w' w'.heap.size A T ∧ T.map GTok.bare = progB nmW nmW (tgt ps) 0 ps ∧ T.length ≤ 156 ∧ Below w.heap.size w w' := by
  have hlex := disF_lex h (by omega) ps.length (Nat.le_refl _)
  rw [List.take_length] at hlex
  have hl := disF_len ps h.imm (by omega) ps.length (Nat.le_refl _)
  obtain ⟨q, us, e, hb⟩ := hlex [] trivial (1, 1)
  rw [List.append_nil] at e
  have hsc : scan (disF ps ps.length) = .ok us := by
    unfold scan
    rw [if_neg (by omega), e]
    simp [lex, Res.app]
  have hS := scan_any (disF ps ps.length) w hG.1.1 (by unfold maxLen; omega)
  rw [hsc] at hS
  refine hS.mono ?_
  rintro e w' ⟨v, rfl, hown, hbl⟩
  have hown' : OwnK w' (w.heap.size + 1) v (us.map Tok.g) := hown
  obtain ⟨A, c, rfl, _, _, hrow⟩ := hown'.row GTok.len5
  have hbare : (us.map Tok.g).map GTok.bare = progB nmW nmW (tgt ps) 0 ps := by rw [List.map_map, ← hb]; rfl
  have hf := progB_few (dfn := nmW) (use := nmW) (tg := tgt ps) ps 0
  refine ⟨A, c, us.map Tok.g, rfl, hrow, hbare, ?_, hbl⟩
  have := congrArg List.length hbare
  rw [List.length_map] at this
  omega
/-- The block N holds the token t. -/
def TkB (w : World) (N : Nat) (t : GTok) : Prop := w.heap[N]? = some (.cells #[.int .i64 t.kind, .string ⟨t.text.toArray⟩, .int .u64 t.value, .int .i64 t.line, .int .i64 t.col] 47 (0, 0))
theorem TkB.cells {w : World} {N : Nat} {t : GTok} (h : TkB w N t) : w.cell? ⟨N, 0, none⟩ = some (.int .i64 t.kind) ∧ w.cell? ⟨N, 1, none⟩ = some (.string ⟨t.text.toArray⟩) ∧ w.cell? ⟨N, 2, none⟩ = some (.int .u64 t.value) ∧ w.cell? ⟨N, 3, none⟩ = some (.int .i64 t.line) ∧ w.cell? ⟨N, 4, none⟩ = some (.int .i64 t.col) := by
  refine ⟨?_, ?_, ?_, ?_, ?_⟩ <;> rw [Lib.cell_of_heap h] <;> rfl
theorem TkB.frz {w : World} {N : Nat} {t : GTok} (h : TkB w N t) (j : Nat) : w.frozen? ⟨N, j, none⟩ = false := Lib.frozen_of_heap h j
theorem TkB.lt {w : World} {N : Nat} {t : GTok} (h : TkB w N t) : N < w.heap.size := heap_lt h
/-- Two tokens in blocks of their own beside the two lists. -/
structure St9 (w4 : World) (vu vw : Value) (us ws : List GTok) (N M : Nat) (t1 t2 : GTok) (wz : World) : Prop where
  two : Two2 w4.heap.size wz vu vw us ws
  bel : Below w4.heap.size w4 wz
  tN : TkB wz N t1
  tM : TkB wz M t2
  ne : N ≠ M
  gN : w4.heap.size ≤ N
  gM : w4.heap.size ≤ M
  o1 : ∀ g, vu.ownBlock = some g → g ≠ N ∧ g ≠ M
  o2 : ∀ g, vw.ownBlock = some g → g ≠ N ∧ g ≠ M
theorem set_blk {w : World} {N k : Nat} (j : Nat) (v : Value) (h : k ≠ N) : (w.setCell ⟨N, j, none⟩ v).heap[k]? = w.heap[k]? := Below.heap_setCell w ⟨N, j, none⟩ v k h
theorem TkB.put {w : World} {N : Nat} {t : GTok} (h : TkB w N t) (x : List UInt8) : TkB (w.setCell ⟨N, 1, none⟩ (.string ⟨x.toArray⟩)) N { t with text := x } := by
  unfold TkB at *
  rw [Lib.heap_setCell_same h]
  rfl
theorem St9.put1 {w4 : World} {vu vw : Value} {us ws : List GTok} {N M : Nat} {t1 t2 : GTok} {wz : World} (h : St9 w4 vu vw us ws N M t1 t2 wz) (x : List UInt8) : St9 w4 vu vw us ws N M { t1 with text := x } t2 (wz.setCell ⟨N, 1, none⟩ (.string ⟨x.toArray⟩)) :=
  ⟨⟨h.two.u.keep fun g hg => set_blk _ _ (h.o1 g hg).1, h.two.v.keep fun g hg => set_blk _ _ (h.o2 g hg).1, h.two.ne⟩, h.bel.setCell (p := ⟨N, 1, none⟩) h.gN _, h.tN.put x, (set_blk _ _ (Ne.symm h.ne)).trans h.tM, h.ne, h.gN, h.gM, h.o1, h.o2⟩
theorem St9.put2 {w4 : World} {vu vw : Value} {us ws : List GTok} {N M : Nat} {t1 t2 : GTok} {wz : World} (h : St9 w4 vu vw us ws N M t1 t2 wz) (x : List UInt8) : St9 w4 vu vw us ws N M t1 { t2 with text := x } (wz.setCell ⟨M, 1, none⟩ (.string ⟨x.toArray⟩)) :=
  ⟨⟨h.two.u.keep fun g hg => set_blk _ _ (h.o1 g hg).2, h.two.v.keep fun g hg => set_blk _ _ (h.o2 g hg).2, h.two.ne⟩, h.bel.setCell (p := ⟨M, 1, none⟩) h.gM _, (set_blk _ _ h.ne).trans h.tN, h.tM.put x, h.ne, h.gN, h.gM, h.o1, h.o2⟩
theorem St9.app {w4 : World} {vu vw : Value} {us ws : List GTok} {N M : Nat} {t1 t2 : GTok} {wz : World} (h : St9 w4 vu vw us ws N M t1 t2 wz) (h1 : us.length ≤ 100000) (h2 : ws.length ≤ 100000) :
    ∃ v' w' v'' w'', (Builtin.append_ #[42, 42] 42 #[vu, .slice (some ⟨wz.heap.size, 0, none⟩) 1 1]).run Tryz.prog (wz.alloc (.cells #[.int .i64 t1.kind, .string ⟨t1.text.toArray⟩, .int .u64 t1.value, .int .i64 t1.line, .int .i64 t1.col] 47)) = .ok v' w' ∧
      TkB w' M t2 ∧
      (Builtin.append_ #[42, 42] 42 #[vw, .slice (some ⟨w'.heap.size, 0, none⟩) 1 1]).run Tryz.prog (w'.alloc (.cells #[.int .i64 t2.kind, .string ⟨t2.text.toArray⟩, .int .u64 t2.value, .int .i64 t2.line, .int .i64 t2.col] 47)) = .ok v'' w'' ∧
      Two2 w4.heap.size w'' v' v'' (us ++ [t1]) (ws ++ [t2]) ∧ Below w4.heap.size w4 w'' := by
  obtain ⟨v', w', r1, t', b1, k1⟩ := h.two.app h.bel.size h1 t1
  have hM : TkB w' M t2 := (k1 M (.inr fun e => (h.o1 M e).2 rfl) h.tM.lt).trans h.tM
  obtain ⟨v'', w'', r2, t'', b2, _⟩ := t'.swap.app (h.bel.trans b1).size h2 t2
  exact ⟨v', w', v'', w'', r1, hM, r2, t''.swap, (h.bel.trans b1).trans b2⟩
theorem old2 (w : World) (o1 o2 : Obj) {b : Nat} (k : Nat) (h : b < w.heap.size) : ((w.alloc o1).alloc o2).drew.cell? ⟨b, k, none⟩ = w.cell? ⟨b, k, none⟩ := by
  have h1 : ((w.alloc o1).alloc o2).heap[b]? = w.heap[b]? := by
    rw [heap_alloc_old _ _ (by simp; omega), heap_alloc_old _ _ h]
  have h2 : ((w.alloc o1).alloc o2).drew.heap[b]? = w.heap[b]? := h1
  simp only [World.cell?, h2]
theorem St9.start {w4 wr : World} {vu vw : Value} {us ws : List GTok} (h : Two2 w4.heap.size wr vu vw us ws) (hb : Below w4.heap.size w4 wr) (t : GTok) {N M : Nat} {wx : World} (hN : TkB wx N t) (hM : TkB wx M t) (hne : N ≠ M) (gN : wr.heap.size ≤ N) (gM : wr.heap.size ≤ M) (hbx : Below wr.heap.size wr wx) : St9 w4 vu vw us ws N M t t wx :=
  ⟨h.next hbx, hb.trans (Below.mono hbx hb.size), hN, hM, hne, Nat.le_trans hb.size gN, Nat.le_trans hb.size gM, fun g hg => by have := (h.u.lt g hg).2; omega, fun g hg => by have := (h.v.lt g hg).2; omega⟩
/-- What region 12 leaves. -/
def Lt9 (wr wx : World) (t : GTok) (a b : Value) : Prop := ∃ N M, a = .pointer (some ⟨N, 0, none⟩) ∧ b = .pointer (some ⟨M, 0, none⟩) ∧ TkB wx N t ∧ TkB wx M t ∧ N ≠ M ∧ wr.heap.size ≤ N ∧ wr.heap.size ≤ M ∧ Below wr.heap.size wr wx
theorem lt9_a (wr : World) (t : GTok) : Lt9 wr ((wr.alloc (.cells #[.int .i64 t.kind, .string ⟨t.text.toArray⟩, .int .u64 t.value, .int .i64 t.line, .int .i64 t.col] 47)).alloc (.cells #[.int .i64 t.kind, .string ⟨t.text.toArray⟩, .int .u64 t.value, .int .i64 t.line, .int .i64 t.col] 47)).drew t (.pointer (some ⟨wr.heap.size, 0, none⟩)) (.pointer (some ⟨wr.heap.size + 1, 0, none⟩)) := by
  refine ⟨_, _, rfl, rfl, ?_, ?_, by omega, Nat.le_refl _, by omega, (bel_lit (bel_lit (Below.refl _ _) _) _).drew⟩
  · show (World.alloc _ _).heap[_]? = _
    rw [heap_alloc_old _ _ (by simp)]
    exact heap_alloc_new wr _
  · have := heap_alloc_new (wr.alloc (.cells #[.int .i64 t.kind, .string ⟨t.text.toArray⟩, .int .u64 t.value, .int .i64 t.line, .int .i64 t.col] 47)) (.cells #[.int .i64 t.kind, .string ⟨t.text.toArray⟩, .int .u64 t.value, .int .i64 t.line, .int .i64 t.col] 47)
    simpa [TkB, World.drew] using this
theorem lt9_b (wr : World) (t : GTok) : Lt9 wr ((wr.alloc (.cells #[.int .i64 t.kind, .string ⟨t.text.toArray⟩, .int .u64 t.value, .int .i64 t.line, .int .i64 t.col] 47)).alloc (.cells #[.int .i64 t.kind, .string ⟨t.text.toArray⟩, .int .u64 t.value, .int .i64 t.line, .int .i64 t.col] 47)).drew t (.pointer (some ⟨wr.heap.size + 1, 0, none⟩)) (.pointer (some ⟨wr.heap.size, 0, none⟩)) := by
  obtain ⟨N, M, h1, h2, h3, h4, h5, h6, h7, h8⟩ := lt9_a wr t
  exact ⟨M, N, h2, h1, h4, h3, Ne.symm h5, h7, h6, h8⟩
theorem ba_app9 (a b : List UInt8) : ((⟨a.toArray⟩ : ByteArray) ++ ⟨b.toArray⟩) = ⟨(a ++ b).toArray⟩ := by
  apply ByteArray.ext
  simp [ByteArray.data_append]
theorem bok_w {y z t : Int} {w : List UInt8} (h : BOk (GTok.bare ⟨1, w, y, z, t⟩)) : ∃ c r, w = c :: r := by
  have := h.wf
  cases w with
  | nil => simp [wf, GTok.bare, wordB] at this
  | cons c r => exact ⟨c, r, rfl⟩
theorem asm9g (l : List UInt8) (ps : List GIns) {s : ASt} (hs : asmAll l = .ok () s) (hp : s.prog = ps) (hl : l.length ≤ maxLen) (w : World) (hG : GlobP w) :
    Calls Tryz.prog 18 #[.string ⟨l.toArray⟩] w fun e w' => ∃ A c, e = .returned (.tuple #[.slice A ps.length c, .agg #[.int .i64 0, .int .i64 0], .int .i64 0]) ∧ GRow GIns.cells 5 w' w'.heap.size A ps ∧ Below w.heap.size w w' := by
  have ha := asm_any l w hl hG.1.1 hG.1.2
  rw [hs] at ha
  refine ha.mono ?_
  intro e w' hE
  obtain ⟨pv, rfl, hown, hb⟩ := hE
  rw [hp] at hown
  obtain ⟨A1, c1, hv, _, _, hrow⟩ := hown.row GIns.len
  subst hv
  exact ⟨A1, c1, rfl, hrow, hb⟩
theorem asm9o (l : List UInt8) {s : ASt} (hs : asmAll l = .ok () s) (hl : l.length ≤ maxLen) (w : World) (hG : GlobP w) :
    Calls Tryz.prog 18 #[.string ⟨l.toArray⟩] w fun e w' => ∃ A n c, e = .returned (.tuple #[.slice A n c, .agg #[.int .i64 0, .int .i64 0], .int .i64 0]) ∧ Below w.heap.size w w' := by
  refine (asm9g l s.prog hs rfl hl w hG).mono ?_
  rintro e w' ⟨A, c, rfl, _, hb⟩
  exact ⟨A, _, c, rfl, hb⟩
theorem asm9t (l : List UInt8) {a b : Int} (hs : asmAll l = .thr a b 72) (hl : l.length ≤ maxLen) (w : World) (hG : GlobP w) :
    Calls Tryz.prog 18 #[.string ⟨l.toArray⟩] w fun e w' => ∃ x y : Int, e = .returned (.tuple #[.slice none 0 0, .agg #[.int .i64 x, .int .i64 y], .int .i64 72]) ∧ Below w.heap.size w w' := by
  have ha := asm_any l w hl hG.1.1 hG.1.2
  rw [hs] at ha
  refine ha.mono ?_
  intro e w' hE
  obtain ⟨rfl, hb⟩ := hE
  exact ⟨_, _, rfl, hb⟩
set_option maxRecDepth 50000 in
set_option maxHeartbeats 4000000 in
theorem labels9 (A : Option Addr) (len cap : Nat) (zs : List Int) (p : List UInt8) (w : World) (hG : GlobP w) (hr : IRow w w.heap.size A len cap zs) (hp : p.length ≤ maxLen) :
    Calls Tryz.prog 6 #[.slice A len cap, .string ⟨p.toArray⟩] w fun e w' => e = .returned (.bool true) ∧ Below w.heap.size w w' := by
  have hsz : (⟨p.toArray⟩ : ByteArray).size = p.length := ba_size p
  have HG := Lib.hid hG
  have HAW := Lib.hid fun W (hW : GlobP W) => awake9 W hW.1
  have HIN := Lib.hid (isName_any p w hp)
  have HA0 := Lib.hid (HAW.out w hG)
  rcases Nat.lt_or_ge 200 len with h | h
  · have f1 : decide ((200 : Int) < len) = true := by simp; omega
    clear hG hr hsz
    go_enter Tryz.func6, Tryz.ntmps6
    go_wp2_with fail
    go_fit HA0.out
    rintro e w1 ⟨rfl, hb1⟩
    have HB1 := Lib.hid hb1
    clear hb1
    go_wp2
    go_ret
    exact ⟨rfl, HB1.out⟩
  have f1 : decide ((200 : Int) < len) = false := by simp; omega
  clear h
  rcases Nat.lt_or_ge 20 p.length with h | h
  · have f2 : decide ((20 : Int) < (p.length : Int)) = true := by simp; omega
    clear hG hr h
    go_enter Tryz.func6, Tryz.ntmps6
    go_wp2_with fail
    go_fit HA0.out
    rintro e w1 ⟨rfl, hb1⟩
    have HB1 := Lib.hid hb1
    clear hb1
    go_wp2
    go_ret
    exact ⟨rfl, HB1.out⟩
  have f2 : decide ((20 : Int) < (p.length : Int)) = false := by simp; omega
  rcases hnm : nameB p with _ | _
  · rw [hnm] at HIN
    clear hG hr h hnm
    go_enter Tryz.func6, Tryz.ntmps6
    go_wp2_with fail
    go_fit HIN.out
    rintro e w1 ⟨rfl, rfl⟩
    go_wp2_with fail
    go_fit HA0.out
    rintro e w1 ⟨rfl, hb1⟩
    have HB1 := Lib.hid hb1
    clear hb1
    go_wp2
    go_ret
    exact ⟨rfl, HB1.out⟩
  have HWB : Hid (wordB p = true ∧ p.length ≤ 20) := Lib.hid (by
    unfold nameB at hnm
    rw [Bool.and_eq_true] at hnm
    exact ⟨hnm.2, h⟩)
  rw [hnm] at HIN
  have HPK := Lib.hid (program_kit A len cap zs w hr)
  clear hG hr h hnm HA0
  go_enter Tryz.func6, Tryz.ntmps6
  go_wp2_with fail
  go_fit HIN.out
  rintro e w1 ⟨rfl, rfl⟩
  clear HIN
  go_wp2_with fail
  go_fit HPK.out
  rintro e w1 ⟨v, ps, rfl, hown, hn1, hn2, hall, hb1⟩
  have HB1 := Lib.hid hb1
  have HALL := Lib.hid hall
  obtain ⟨A1, c1, hv, hcap1, _, hrow⟩ := hown.row GIns.len
  subst hv
  have HROW := Lib.hid hrow
  have HG1 := Lib.hid (HG.out.next hb1)
  have HDI := Lib.hid (dis_any ps A1 c1 w1 HG1.out.1.2 HG1.out.2 hrow hall.imm (hall.valP hn1 (by omega)))
  clear hown hrow hb1 hall HPK f1 f2 hcap1 hsz
  go_wp2_with fail
  go_fit HDI.out
  rintro e w2 ⟨rfl, hb2⟩
  have HB2 := Lib.hid (bel_next HB1.out hb2)
  have HG2 := Lib.hid (HG1.out.next hb2)
  have HROW2 := Lib.hid (HROW.out.next hb2)
  have HSC := Lib.hid (scan9 ps HALL.out hn2 w2 HG2.out)
  clear hb2 HDI HB1 HG1 HROW
  go_wp2_with fail
  go_fit HSC.out
  rintro e w3 ⟨AT, cT, T, rfl, hrT, hbT, hlT, hb3⟩
  have hbA := bel_next hb3 (bel_lit (Below.refl _ w3) (.cells #[.int .i64 0, .int .i64 0] 35))
  have HT := Lib.hid (GRow.next hrT (bel_lit (Below.refl _ w3) (.cells #[.int .i64 0, .int .i64 0] 35)))
  have HB3 := Lib.hid (bel_next HB2.out hbA)
  have HG3 := Lib.hid (HG2.out.next hbA)
  have HROW3 := Lib.hid (HROW2.out.next hbA)
  have HBT := Lib.hid hbT
  have HTB : Hid (∀ t ∈ T, BOk t.bare) := Lib.hid fun t ht => ok_prog (n := ps.length) (N := ps.length) (fun i hi => ⟨(nm_word i (by omega)).1, by have := (nm_word i (by omega)).2; omega⟩) (fun i hi => ⟨(nm_word i (by omega)).1, by have := (nm_word i (by omega)).2; omega⟩) ps 0 HALL.out (by omega) _ (by rw [← hbT]; exact List.mem_map_of_mem ht)
  clear hrT hbT hb3 hbA HSC HB2 HG2 HROW2
  go_upto_region 7 with fail
  generalize w3.alloc (.cells #[.int .i64 0, .int .i64 0] 35) = w4 at *
  have HI0 : Hid (LbJ w4 p T 0 (.slice none 0 0) (.slice none 0 0) w4) := Lib.hid ⟨⟨OwnG.nil _ _, OwnG.nil _ _, fun g hg => by simp [Value.ownBlock] at hg⟩, Below.refl _ _⟩
  generalize hTn : T.length = n at *
  have HTN := Lib.hid hTn
  clear hTn
  go_wp2
  go_loopw [9, 10, 11, 12] (fun vj vu vw vi wr => ∃ i : Nat, vi = .int .i64 i ∧ i ≤ n ∧ vj = .bool (anyU T i) ∧ Hid (LbJ w4 p T i vu vw wr)) (fun _ _ _ vi _ => n - (intOf vi).toNat)
  case atStart => exact ⟨0, rfl, Nat.zero_le _, rfl, HI0⟩
  case round =>
    obtain ⟨i, rfl, hi, rfl, HI⟩ := hrel
    clear HI0
    rcases Nat.lt_or_ge i n with hlt | hge
    · have hltT : i < T.length := by have := HTN.out; omega
      obtain ⟨bt, ot, hAT, hbtl, x0, x1, x2, x3, x4⟩ := (HT.out.next HI.out.bel).tok5 hltT
      have HAT := Lib.hid hAT
      subst hAT
      have HOLD : ∀ (o1 o2 : Obj) (k : Nat), ((wr.alloc o1).alloc o2).drew.cell? ⟨bt, k, none⟩ = wr.cell? ⟨bt, k, none⟩ := fun o1 o2 k => old2 wr o1 o2 k hbtl
      have HTX : Hid (i + 1 < T.length → wr.cell? ⟨bt, ot + (i + 1) * 5 + 1, none⟩ = some (.string ⟨(T.getD (i + 1) ⟨0, [], 0, 0, 0⟩).text.toArray⟩)) := Lib.hid fun h => by
        obtain ⟨b', o', e', _, _, y1, _⟩ := (HT.out.next HI.out.bel).tok5 h
        cases e'
        rw [List.getD_eq_getElem?_getD, List.getElem?_eq_getElem h]
        exact y1
      obtain ⟨tk, htk⟩ : ∃ t, T[i] = t := ⟨_, rfl⟩
      have HTK := Lib.hid htk
      rw [htk] at x0 x1 x2 x3 x4
      clear htk
      have HLA := Lib.hid (lt9_a wr tk)
      have HLB := Lib.hid (lt9_b wr tk)
      have HN : Hid ((T.map (renG p)).take (i + 1) = (T.map (renG p)).take i ++ [renG p tk] ∧ (ren2G msW T).take (i + 1) = (ren2G msW T).take i ++ [misG msW (useAt T i) tk]) := Lib.hid (by
        rw [List.take_succ_eq_append_getElem (by simpa using hltT), List.take_succ_eq_append_getElem (by rw [ren2G_len]; exact hltT), ren2G_get msW T i hltT, List.getElem_map, HTK.out]
        exact ⟨rfl, rfl⟩)
      obtain ⟨tk0, tk1, tk2, tk3, tk4⟩ := tk
      simp only at x0 x1 x2 x3 x4
      go_upto_region 12 with fail
      go_cut [13, 14] (fun va vb wx => Hid (Lt9 wr wx ⟨tk0, tk1, tk2, tk3, tk4⟩ va vb))
      case first =>
        go_region
        all_goals (go_wp2_with fail; go_meet; first | exact HLA.out | exact HLB.out)
      case rest =>
        obtain ⟨N, M, rfl, rfl, hN, hM, hne, gN, gM, hbx⟩ := hcut.out
        have HST := Lib.hid (St9.start HI.out.two HI.out.bel _ hN hM hne gN gM hbx)
        have HTX2 : Hid (i + 1 < T.length → wc.cell? ⟨bt, ot + (i + 1) * 5 + 1, none⟩ = some (.string ⟨(T.getD (i + 1) ⟨0, [], 0, 0, 0⟩).text.toArray⟩)) := Lib.hid fun h => (hbx.cell hbtl).trans (HTX.out h)
        have hbN : bt ≠ N := by omega
        have hbM : bt ≠ M := by omega
        have HBN := Lib.hid hbN
        have HNM := Lib.hid hne
        obtain ⟨a0, a1, a2, a3, a4⟩ := hN.cells
        have am := hM.cells.2.1
        have hne2 : M ≠ N := Ne.symm hne
        have zN := hN.frz 1
        have zM := hM.frz 1
        simp only at a0 a1 a2 a3 a4 am
        clear hcut hN hM gN gM hbx HTX HOLD HLA HLB x0 x1 x2 x3 x4 hbtl HI
        generalize wc = wx at *
        by_cases hk : tk0 = 1
        · subst hk
          obtain ⟨c, r, htx⟩ : ∃ c r, tk1 = c :: r := by
            have hb := HTB.out ⟨1, tk1, tk2, tk3, tk4⟩ (by rw [← HTK.out]; exact List.getElem_mem hltT)
            exact bok_w hb
          subst htx
          have HIX : Hid (∀ W : World, (Instr.index 9 (.string ⟨(c :: r).toArray⟩) (.int .i64 0)).run Tryz.prog W = .ok (.int .u8 (c.toNat : Nat)) W) := Lib.hid fun W => str_index (c :: r) 0 (by simp) W
          by_cases hc : c = 76
          · subst hc
            have hix : ∀ W : World, (Instr.index 9 (.string ⟨((76 : UInt8) :: r).toArray⟩) (.int .i64 0)).run Tryz.prog W = .ok (.int .u8 76) W := fun W => HIX.out W
            clear HIX
            have hrl : r.length ≤ 44 := by
              have := (HTB.out ⟨1, 76 :: r, tk2, tk3, tk4⟩ (by rw [← HTK.out]; exact List.getElem_mem hltT)).len
              simpa [GTok.bare] using this
            have hp20 := HWB.out.2
            have hL : isLB T[i].bare = true := by rw [HTK.out]; rfl
            have HCC : Hid (((⟨p.toArray⟩ : ByteArray) ++ ⟨((76 : UInt8) :: r).toArray⟩) = ⟨(p ++ 76 :: r).toArray⟩) := Lib.hid (ba_app9 _ _)
            have HREN : Hid (renG p ⟨1, 76 :: r, tk2, tk3, tk4⟩ = ⟨1, p ++ 76 :: r, tk2, tk3, tk4⟩) := Lib.hid rfl
            have hcc := HCC.out
            rcases Nat.lt_or_ge (i + 1) n with hin | hin
            · have hinT : i + 1 < T.length := by have := HTN.out; omega
              have hy := HTX2.out hinT
              have HU := useAt_next hinT hL
              have hge : decide ((n : Int) ≤ (i : Int) + 1) = false := by simp; omega
              rw [List.getD_eq_getElem?_getD, List.getElem?_eq_getElem hinT, Option.getD_some] at hy
              generalize T[i + 1].text = tx at *
              by_cases h58 : tx = [58]
              · subst h58
                have HMIS : Hid (misG msW (useAt T i) ⟨1, 76 :: r, tk2, tk3, tk4⟩ = ⟨1, 76 :: r, tk2, tk3, tk4⟩) := Lib.hid (by rw [HU]; rfl)
                have HJ : Hid (anyU T (i + 1) = anyU T i) := Lib.hid (by rw [anyU_succ, HU]; simp)
                clear HU hL HTX2
                have HS : Hid (St9 w4 u10 u11 ((T.map (renG p)).take i) ((ren2G msW T).take i) N M ⟨1, p ++ 76 :: r, tk2, tk3, tk4⟩ ⟨1, 76 :: r, tk2, tk3, tk4⟩ (wx.setCell ⟨N, 1, none⟩ (.string ⟨(p ++ 76 :: r).toArray⟩))) := Lib.hid (HST.out.put1 _)
                skip
                obtain ⟨v1, wa, v2, wb, r1, hMb, r2, htw, hbl⟩ := HS.out.app (by rw [List.length_take]; omega) (by rw [List.length_take]; omega)
                have HNE : Hid (LbJ w4 p T (i + 1) v1 v2 wb) := Lib.hid ⟨by rw [HN.out.1, HN.out.2, HREN.out, HMIS.out]; exact htw, hbl⟩
                have HR1 := Lib.hid r1
                have HR2 := Lib.hid r2
                obtain ⟨c0, c1', c2, c3, c4⟩ := HS.out.tN.cells
                obtain ⟨d0, d1, d2, d3, d4⟩ := hMb.cells
                simp only at c0 c1' c2 c3 c4 d0 d1 d2 d3 d4 HR1 HR2
                clear r1 r2 hMb htw hbl HREN HMIS HS
                go_upto_region 18 with fail
                generalize wx.setCell ⟨N, 1, none⟩ (.string ⟨(p ++ 76 :: r).toArray⟩) = wz at *
                go_wp2_with (at_builtin; first | refine wpList_gapp HR1.out rfl rfl rfl rfl rfl ?_ | refine wpList_gapp HR2.out rfl rfl rfl rfl rfl ?_)
                go_roundw
                case rel => exact ⟨i + 1, by go_num, by omega, by rw [HJ.out], HNE⟩
                case measure => simp [intOf]; omega
              · have HMIS : Hid (misG msW (useAt T i) ⟨1, 76 :: r, tk2, tk3, tk4⟩ = ⟨1, msW, tk2, tk3, tk4⟩) := Lib.hid (by rw [HU]; simp [h58, misG])
                have HJ : Hid (anyU T (i + 1) = true) := Lib.hid (by rw [anyU_succ, HU]; simp [h58])
                have hne58 : (tx == [58]) = false := by simpa using h58
                clear HU hL HTX2 h58
                have HS : Hid (St9 w4 u10 u11 ((T.map (renG p)).take i) ((ren2G msW T).take i) N M ⟨1, p ++ 76 :: r, tk2, tk3, tk4⟩ ⟨1, msW, tk2, tk3, tk4⟩ ((wx.setCell ⟨N, 1, none⟩ (.string ⟨(p ++ 76 :: r).toArray⟩)).setCell ⟨M, 1, none⟩ (.string ⟨#[109, 105, 115, 115, 105, 110, 103]⟩))) := Lib.hid ((HST.out.put1 _).put2 msW)
                skip
                obtain ⟨v1, wa, v2, wb, r1, hMb, r2, htw, hbl⟩ := HS.out.app (by rw [List.length_take]; omega) (by rw [List.length_take]; omega)
                have HNE : Hid (LbJ w4 p T (i + 1) v1 v2 wb) := Lib.hid ⟨by rw [HN.out.1, HN.out.2, HREN.out, HMIS.out]; exact htw, hbl⟩
                have HR1 := Lib.hid r1
                have HR2 := Lib.hid r2
                obtain ⟨c0, c1', c2, c3, c4⟩ := HS.out.tN.cells
                obtain ⟨d0, d1, d2, d3, d4⟩ := hMb.cells
                simp only at c0 c1' c2 c3 c4 d0 d1 d2 d3 d4 HR1 HR2
                clear r1 r2 hMb htw hbl HREN HMIS HS
                go_upto_region 18 with fail
                generalize (wx.setCell ⟨N, 1, none⟩ (.string ⟨(p ++ 76 :: r).toArray⟩)).setCell ⟨M, 1, none⟩ (.string ⟨#[109, 105, 115, 115, 105, 110, 103]⟩) = wz at *
                go_wp2_with (at_builtin; first | refine wpList_gapp HR1.out rfl rfl rfl rfl rfl ?_ | refine wpList_gapp HR2.out rfl rfl rfl rfl rfl ?_)
                go_roundw
                case rel => exact ⟨i + 1, by go_num, by omega, by rw [HJ.out], HNE⟩
                case measure => simp [intOf]; omega
            · have HU := useAt_end hltT hL (by have := HTN.out; omega)
              have hge : decide ((n : Int) ≤ (i : Int) + 1) = true := by simp; omega
              have HMIS : Hid (misG msW (useAt T i) ⟨1, 76 :: r, tk2, tk3, tk4⟩ = ⟨1, msW, tk2, tk3, tk4⟩) := Lib.hid (by rw [HU]; rfl)
              have HJ : Hid (anyU T (i + 1) = true) := Lib.hid (by rw [anyU_succ, HU]; simp)
              clear HU hL HTX2
              have HS : Hid (St9 w4 u10 u11 ((T.map (renG p)).take i) ((ren2G msW T).take i) N M ⟨1, p ++ 76 :: r, tk2, tk3, tk4⟩ ⟨1, msW, tk2, tk3, tk4⟩ ((wx.setCell ⟨N, 1, none⟩ (.string ⟨(p ++ 76 :: r).toArray⟩)).setCell ⟨M, 1, none⟩ (.string ⟨#[109, 105, 115, 115, 105, 110, 103]⟩))) := Lib.hid ((HST.out.put1 _).put2 msW)
              skip
              obtain ⟨v1, wa, v2, wb, r1, hMb, r2, htw, hbl⟩ := HS.out.app (by rw [List.length_take]; omega) (by rw [List.length_take]; omega)
              have HNE : Hid (LbJ w4 p T (i + 1) v1 v2 wb) := Lib.hid ⟨by rw [HN.out.1, HN.out.2, HREN.out, HMIS.out]; exact htw, hbl⟩
              have HR1 := Lib.hid r1
              have HR2 := Lib.hid r2
              obtain ⟨c0, c1', c2, c3, c4⟩ := HS.out.tN.cells
              obtain ⟨d0, d1, d2, d3, d4⟩ := hMb.cells
              simp only at c0 c1' c2 c3 c4 d0 d1 d2 d3 d4 HR1 HR2
              clear r1 r2 hMb htw hbl HREN HMIS HS
              go_upto_region 18 with fail
              generalize (wx.setCell ⟨N, 1, none⟩ (.string ⟨(p ++ 76 :: r).toArray⟩)).setCell ⟨M, 1, none⟩ (.string ⟨#[109, 105, 115, 115, 105, 110, 103]⟩) = wz at *
              go_wp2_with (at_builtin; first | refine wpList_gapp HR1.out rfl rfl rfl rfl rfl ?_ | refine wpList_gapp HR2.out rfl rfl rfl rfl rfl ?_)
              go_roundw
              case rel => exact ⟨i + 1, by go_num, by omega, by rw [HJ.out], HNE⟩
              case measure => simp [intOf]; omega
          · have HL : Hid (isLB T[i].bare = false) := Lib.hid (by rw [HTK.out]; simp [isLB, GTok.bare, hc])
            have HUS := Lib.hid (useAt_no hltT HL.out)
            have hix := fun W => HIX.out W
            clear HIX
            have hc2 : (((c.toNat : Nat) : Int) == 76) = false := by
              have : c.toNat ≠ 76 := fun e => hc (UInt8.toNat_inj.1 e)
              simp; omega
            have HREN : Hid (renG p ⟨1, c :: r, tk2, tk3, tk4⟩ = ⟨1, c :: r, tk2, tk3, tk4⟩) := Lib.hid (by have := HL.out; rw [HTK.out] at this; unfold renG; rw [this]; rfl)
            have HMIS : Hid (misG msW (useAt T i) ⟨1, c :: r, tk2, tk3, tk4⟩ = ⟨1, c :: r, tk2, tk3, tk4⟩) := Lib.hid (by rw [HUS.out]; rfl)
            have HJ : Hid (anyU T (i + 1) = anyU T i) := Lib.hid (by rw [anyU_succ, HUS.out]; simp)
            clear HL HUS HTX2 hc
            have HS : Hid (St9 w4 u10 u11 ((T.map (renG p)).take i) ((ren2G msW T).take i) N M ⟨1, c :: r, tk2, tk3, tk4⟩ ⟨1, c :: r, tk2, tk3, tk4⟩ (wx)) := Lib.hid (HST.out)
            skip
            obtain ⟨v1, wa, v2, wb, r1, hMb, r2, htw, hbl⟩ := HS.out.app (by rw [List.length_take]; omega) (by rw [List.length_take]; omega)
            have HNE : Hid (LbJ w4 p T (i + 1) v1 v2 wb) := Lib.hid ⟨by rw [HN.out.1, HN.out.2, HREN.out, HMIS.out]; exact htw, hbl⟩
            have HR1 := Lib.hid r1
            have HR2 := Lib.hid r2
            obtain ⟨c0, c1', c2, c3, c4⟩ := HS.out.tN.cells
            obtain ⟨d0, d1, d2, d3, d4⟩ := hMb.cells
            simp only at c0 c1' c2 c3 c4 d0 d1 d2 d3 d4 HR1 HR2
            clear r1 r2 hMb htw hbl HREN HMIS HS
            go_upto_region 18 with fail
            generalize wx = wz at *
            go_wp2_with (at_builtin; first | refine wpList_gapp HR1.out rfl rfl rfl rfl rfl ?_ | refine wpList_gapp HR2.out rfl rfl rfl rfl rfl ?_)
            go_roundw
            case rel => exact ⟨i + 1, by go_num, by omega, by rw [HJ.out], HNE⟩
            case measure => simp [intOf]; omega
        · have HL : Hid (isLB T[i].bare = false) := Lib.hid (by rw [HTK.out]; simp [isLB, GTok.bare, hk])
          have HUS := Lib.hid (useAt_no hltT HL.out)
          have g0 : (tk0 == 1) = false := by simp [hk]
          have HREN : Hid (renG p ⟨tk0, tk1, tk2, tk3, tk4⟩ = ⟨tk0, tk1, tk2, tk3, tk4⟩) := Lib.hid (by have := HL.out; rw [HTK.out] at this; unfold renG; rw [this]; rfl)
          have HMIS : Hid (misG msW (useAt T i) ⟨tk0, tk1, tk2, tk3, tk4⟩ = ⟨tk0, tk1, tk2, tk3, tk4⟩) := Lib.hid (by rw [HUS.out]; rfl)
          have HJ : Hid (anyU T (i + 1) = anyU T i) := Lib.hid (by rw [anyU_succ, HUS.out]; simp)
          clear HL HUS HTX2 hk
          have HS : Hid (St9 w4 u10 u11 ((T.map (renG p)).take i) ((ren2G msW T).take i) N M ⟨tk0, tk1, tk2, tk3, tk4⟩ ⟨tk0, tk1, tk2, tk3, tk4⟩ (wx)) := Lib.hid (HST.out)
          skip
          obtain ⟨v1, wa, v2, wb, r1, hMb, r2, htw, hbl⟩ := HS.out.app (by rw [List.length_take]; omega) (by rw [List.length_take]; omega)
          have HNE : Hid (LbJ w4 p T (i + 1) v1 v2 wb) := Lib.hid ⟨by rw [HN.out.1, HN.out.2, HREN.out, HMIS.out]; exact htw, hbl⟩
          have HR1 := Lib.hid r1
          have HR2 := Lib.hid r2
          obtain ⟨c0, c1', c2, c3, c4⟩ := HS.out.tN.cells
          obtain ⟨d0, d1, d2, d3, d4⟩ := hMb.cells
          simp only at c0 c1' c2 c3 c4 d0 d1 d2 d3 d4 HR1 HR2
          clear r1 r2 hMb htw hbl HREN HMIS HS
          go_upto_region 18 with fail
          generalize wx = wz at *
          go_wp2_with (at_builtin; first | refine wpList_gapp HR1.out rfl rfl rfl rfl rfl ?_ | refine wpList_gapp HR2.out rfl rfl rfl rfl rfl ?_)
          go_roundw
          case rel => exact ⟨i + 1, by go_num, by omega, by rw [HJ.out], HNE⟩
          case measure => simp [intOf]; omega
    · obtain rfl : i = n := by omega
      have HLO := Lib.hid (labs_ok HALL.out hn1 hn2 HWB.out.1 HWB.out.2 HBT.out (U := T.map (renG p)) (by rw [List.map_map, List.map_map]; exact List.map_congr_left fun t _ => renG_bare p t))
      have HLM := Lib.hid (labs_miss HALL.out hn1 hn2 HBT.out (W := ren2G msW T) (ren2G_bare msW T))
      have htwo := HI.out.two
      have hbel := HI.out.bel
      rw [List.take_of_length_le (by rw [List.length_map, HTN.out]; exact Nat.le_refl _), List.take_of_length_le (by rw [ren2G_len, HTN.out]; exact Nat.le_refl _)] at htwo
      obtain ⟨AU, cU, rfl, _, _, hrU⟩ := htwo.u.row GTok.len5
      obtain ⟨AW, cW, rfl, _, _, hrW⟩ := htwo.v.row GTok.len5
      obtain ⟨s1, hs1, hq1, hlu, hFU⟩ := HLO.out
      obtain ⟨hms, hlw, hFW⟩ := HLM.out
      have HBE := Lib.hid (bel_next HB3.out hbel)
      have HGE := Lib.hid (HG3.out.next hbel)
      have HRP := Lib.hid (HROW3.out.next hbel)
      have HRW : Hid (GRow GTok.cells 5 wr wr.heap.size AW (ren2G msW T)) := Lib.hid hrW
      have HFU := Lib.hid (format_any (T.map (renG p)) AU cU wr hrU hFU HGE.out.2)
      have HFW := Lib.hid fun W (hW : GlobP W) (hr : GRow GTok.cells 5 W W.heap.size AW (ren2G msW T)) => format_any (ren2G msW T) AW cW W hr hFW hW.2
      have HAU := Lib.hid fun W (hW : GlobP W) => asm9g (fmtL (T.map (renG p))) ps hs1 hq1 (by unfold maxLen; omega) W hW
      have HAE := Lib.hid (anyU_all T)
      by_cases hj : any2 (T.map GTok.bare) = true
      · rw [if_pos hj] at hms
        obtain ⟨xa, xb, hx⟩ := hms
        have HAM := Lib.hid fun W (hW : GlobP W) => asm9t (fmtL (ren2G msW T)) hx (by unfold maxLen; omega) W hW
        have gj : anyU T i = true := by rw [← HTN.out, HAE.out, hj]
        clear hj hx htwo hrU hrW HLO HLM hs1 hq1 hlu hFU hlw hFW hbel HI HT HAE HTB HBT
        generalize (T.map (renG p)).length = nu at *
        generalize fmtL (T.map (renG p)) = fu at *
        generalize hwl : (ren2G msW T).length = nw at *
        generalize fmtL (ren2G msW T) = fw at *
        go_wp2_with fail
        go_fit HFU.out
        rintro e wa ⟨rfl, hba⟩
        have HBA := Lib.hid (bel_next HBE.out hba)
        have HGA := Lib.hid (HGE.out.next hba)
        have HRPA := Lib.hid (HRP.out.next hba)
        have HRWA := Lib.hid (GRow.next HRW.out hba)
        clear hba HFU HBE HGE HRP HRW
        go_wp2_with fail
        go_fit (HAU.out _ HGA.out)
        rintro e wb ⟨AQ, cQ, rfl, hrq, hbb⟩
        have hbA := bel_next hbb (bel_lit (Below.refl _ wb) (.cells #[.int .i64 0, .int .i64 0] 35))
        have HRQ := Lib.hid (GRow.next hrq (bel_lit (Below.refl _ wb) (.cells #[.int .i64 0, .int .i64 0] 35)))
        have HBB := Lib.hid (bel_next HBA.out hbA)
        have HGB := Lib.hid (HGA.out.next hbA)
        have HRPB := Lib.hid (HRPA.out.next hbA)
        have HRWB := Lib.hid (HRWA.out.next hbA)
        clear hrq hbb hbA HAU HBA HGA HRPA HRWA
        go_upto_region 21 with fail
        generalize wb.alloc (.cells #[.int .i64 0, .int .i64 0] 35) = wc at *
        have HFX := Lib.hid (HFW.out wc HGB.out HRWB.out)
        clear HFW
        go_wp2_with fail
        go_fit HFX.out
        rintro e wd ⟨rfl, hbd⟩
        have HBD := Lib.hid (bel_next HBB.out hbd)
        have HGD := Lib.hid (HGB.out.next hbd)
        have HRPD := Lib.hid (HRPB.out.next hbd)
        have HRQD := Lib.hid (HRQ.out.next hbd)
        clear hbd HFX HBB HGB HRPB HRWB HRQ
        go_wp2_with fail
        go_fit (HAM.out _ HGD.out)
        rintro e we ⟨xa, xb, rfl, hbe⟩
        have hbA := bel_next hbe (bel_lit (Below.refl _ we) (.cells #[.int .i64 xa, .int .i64 xb] 35))
        have HBF := Lib.hid (bel_next HBD.out hbA)
        have HGF := Lib.hid (HGD.out.next hbA)
        have HSM := Lib.hid (rSmi_any ps ps A1 AQ c1 cQ _ (HRPD.out.next hbA) (HRQD.out.next hbA) (by omega) (by omega))
        have HDT : Hid (decide (ps = ps) = true) := Lib.hid (by simp)
        rw [HDT.out] at HSM
        clear hbe hbA HAM HBD HGD HRPD HRQD HDT
        go_upto_region 22 with fail
        generalize we.alloc (.cells #[.int .i64 xa, .int .i64 xb] 35) = wf at *
        go_wp2_with fail
        go_fit HSM.out
        rintro e wg ⟨rfl, hbg⟩
        have HBG := Lib.hid (bel_next HBF.out hbg)
        have HGG := Lib.hid (HGF.out.next hbg)
        clear hbg HSM HBF HGF
        go_wp2_with fail
        go_fit (HAW.out _ HGG.out)
        rintro e wh ⟨rfl, hbh⟩
        have HBH := Lib.hid (bel_next HBG.out hbh)
        clear hbh
        go_wp2
        go_ret
        exact ⟨rfl, HBH.out⟩
      · rw [if_neg hj] at hms
        obtain ⟨s2, hx⟩ := hms
        have HAM := Lib.hid fun W (hW : GlobP W) => asm9o (fmtL (ren2G msW T)) hx (by unfold maxLen; omega) W hW
        have gj : anyU T i = false := by rw [← HTN.out, HAE.out]; simpa using hj
        clear hj hx htwo hrU hrW HLO HLM hs1 hq1 hlu hFU hlw hFW hbel HI HT HAE HTB HBT
        generalize (T.map (renG p)).length = nu at *
        generalize fmtL (T.map (renG p)) = fu at *
        generalize hwl : (ren2G msW T).length = nw at *
        generalize fmtL (ren2G msW T) = fw at *
        go_wp2_with fail
        go_fit HFU.out
        rintro e wa ⟨rfl, hba⟩
        have HBA := Lib.hid (bel_next HBE.out hba)
        have HGA := Lib.hid (HGE.out.next hba)
        have HRPA := Lib.hid (HRP.out.next hba)
        have HRWA := Lib.hid (GRow.next HRW.out hba)
        clear hba HFU HBE HGE HRP HRW
        go_wp2_with fail
        go_fit (HAU.out _ HGA.out)
        rintro e wb ⟨AQ, cQ, rfl, hrq, hbb⟩
        have hbA := bel_next hbb (bel_lit (Below.refl _ wb) (.cells #[.int .i64 0, .int .i64 0] 35))
        have HRQ := Lib.hid (GRow.next hrq (bel_lit (Below.refl _ wb) (.cells #[.int .i64 0, .int .i64 0] 35)))
        have HBB := Lib.hid (bel_next HBA.out hbA)
        have HGB := Lib.hid (HGA.out.next hbA)
        have HRPB := Lib.hid (HRPA.out.next hbA)
        have HRWB := Lib.hid (HRWA.out.next hbA)
        clear hrq hbb hbA HAU HBA HGA HRPA HRWA
        go_upto_region 21 with fail
        generalize wb.alloc (.cells #[.int .i64 0, .int .i64 0] 35) = wc at *
        have HFX := Lib.hid (HFW.out wc HGB.out HRWB.out)
        clear HFW
        go_wp2_with fail
        go_fit HFX.out
        rintro e wd ⟨rfl, hbd⟩
        have HBD := Lib.hid (bel_next HBB.out hbd)
        have HGD := Lib.hid (HGB.out.next hbd)
        have HRPD := Lib.hid (HRPB.out.next hbd)
        have HRQD := Lib.hid (HRQ.out.next hbd)
        clear hbd HFX HBB HGB HRPB HRWB HRQ
        go_wp2_with fail
        go_fit (HAM.out _ HGD.out)
        rintro e we ⟨AX, nX, cX, rfl, hbe⟩
        have hbA := bel_next hbe (bel_lit (Below.refl _ we) (.cells #[.int .i64 0, .int .i64 0] 35))
        have HBF := Lib.hid (bel_next HBD.out hbA)
        have HGF := Lib.hid (HGD.out.next hbA)
        have HSM := Lib.hid (rSmi_any ps ps A1 AQ c1 cQ _ (HRPD.out.next hbA) (HRQD.out.next hbA) (by omega) (by omega))
        have HDT : Hid (decide (ps = ps) = true) := Lib.hid (by simp)
        rw [HDT.out] at HSM
        clear hbe hbA HAM HBD HGD HRPD HRQD HDT
        go_upto_region 22 with fail
        generalize we.alloc (.cells #[.int .i64 0, .int .i64 0] 35) = wf at *
        go_wp2_with fail
        go_fit HSM.out
        rintro e wg ⟨rfl, hbg⟩
        have HBG := Lib.hid (bel_next HBF.out hbg)
        have HGG := Lib.hid (HGF.out.next hbg)
        clear hbg HSM HBF HGF
        go_wp2_with fail
        go_fit (HAW.out _ HGG.out)
        rintro e wh ⟨rfl, hbh⟩
        have HBH := Lib.hid (bel_next HBG.out hbh)
        clear hbh
        go_wp2
        go_ret
        exact ⟨rfl, HBH.out⟩
end Go.Proofs.YtogebcgkcijacaaGreatDoor
