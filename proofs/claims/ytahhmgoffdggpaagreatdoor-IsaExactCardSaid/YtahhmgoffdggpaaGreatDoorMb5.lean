/-
  The contract of hwlex.first: the token at the beginning of a text, the number of its bytes, and the error.
  Conditions: the text is not empty and has at most 65536 bytes; the variable strconv.ErrRange lies as the program's start lays it.
  Plain facts on tokens: how long one is, that it holds no newline, and how the scanning of a text goes on behind it.
  Conditions: none.
  Tokens in memory: a slice of tokens that the call itself appends to, and a slice of tokens that is read.
  Conditions: none beyond what each theorem says.
-/
import Derived.Test.YtahhmgoffdggpaaGreatDoorMb4
import Derived.Test.YtahhmgoffdggpaaGreatDoorMb1
namespace Go.Proofs.YtahhmgoffdggpaaGreatDoor

open Go.RowKit Go.Shelf

/-- What first returns: kind, text, value, length, error. -/
structure FR where
  kind : Nat
  text : List UInt8
  value : Nat
  n : Nat
  e : Nat
def ofAct : Act1 → FR
  | .tok k t v n => ⟨k, t, v, n, 0⟩
  | .err e => ⟨0, [], 0, 0, e⟩
  | .skip _ => ⟨0, [], 0, 0, 50⟩
def firstR (l : List UInt8) : FR :=
  match l with
  | [] => ⟨0, [], 0, 0, 50⟩
  | c :: _ => if isDig c = true then ⟨2, [], numV (num (l.take (run isWB l))), run isWB l, numE (num (l.take (run isWB l)))⟩ else ofAct (first l)
/-- A token's value with its position. -/
def tokV (k : Nat) (t : List UInt8) (v line col : Nat) : Value := .agg #[.int .i64 k, .string ⟨t.toArray⟩, .int .u64 v, .int .i64 line, .int .i64 col]
def frV (f : FR) : Value := .tuple #[.agg #[.int .i64 f.kind, .string ⟨f.text.toArray⟩, .int .u64 f.value, .int .i64 0, .int .i64 0], .int .i64 f.n, .int .i64 f.e]

theorem slice_run (l : List UInt8) (i j : Nat) (hij : i ≤ j) (hj : j ≤ l.length) (a b : Int) (ha : a = i) (hb : b = j) (W : World) :
    (Instr.slice 9 (.string ⟨l.toArray⟩) (some (.int .i64 a)) (some (.int .i64 b)) none).run Tryz.prog W = .ok (.string ⟨((l.take j).drop i).toArray⟩) W := by
  subst ha hb
  rw [run_slice_string W 9 _ .i64 .i64 i j Tryz.underlying9 (by omega) (by omega) (by rw [ba_size]; omega), Int.toNat_natCast, Int.toNat_natCast, cut_eq]
theorem bcell {W w1 : World} (hb : Below W.heap.size W w1) : (∀ b o, b < W.heap.size → w1.cell? ⟨b, o, none⟩ = W.cell? ⟨b, o, none⟩) ∧ (∀ b o, b < W.heap.size → w1.frozen? ⟨b, o, none⟩ = W.frozen? ⟨b, o, none⟩) :=
  ⟨fun b o h => hb.cell (p := ⟨b, o, none⟩) h, fun b o h => hb.frozen (p := ⟨b, o, none⟩) h⟩

set_option maxRecDepth 50000 in
set_option maxHeartbeats 2000000 in
theorem first_any (c : UInt8) (r : List UInt8) (w : World) (hl : (c :: r).length ≤ 65536) (hG : Glob w) :
    Calls Tryz.prog 51 #[.string ⟨(c :: r).toArray⟩] w fun e w' => e = .returned (frV (firstR (c :: r))) ∧ Below w.heap.size w w' := by
  have hb := byte_bd c
  have hsz : 0 < (⟨(c :: r).toArray⟩ : ByteArray).size := by rw [ba_size]; simp
  have hx : (⟨(c :: r).toArray⟩ : ByteArray)[0]'hsz = c := rfl
  have hrl : (c :: r).length = r.length + 1 := rfl
  have hrun := @run_le isWB (c :: r)
  have HR := Lib.hid fun W => runLen_any (c :: r) W (by unfold maxLen; omega)
  cases hd : digI (c.toNat : Int)
  · cases hw : wbI (c.toNat : Int)
    · by_cases hq : c.toNat = 34
      · have hc34 : c = 34 := UInt8.toNat_inj.1 hq
        have hqb : ((c.toNat : Int) == 34) = true := by rw [hq]; rfl
        have hF : firstR (c :: r) = ofAct (quoted r) := by
          have hd' : isDig c = false := hd
          have hw' : isWB c = false := hw
          simp only [firstR, first]
          rw [if_neg (by simp [hd']), if_neg (by simp [hd']), if_neg (by simp [hw']), if_pos hc34]
        have hrs := @run_le isStr r
        have HS := Lib.hid fun W => stringLen_any r W (by unfold maxLen; omega)
        have hcut1 := cut_from' (c :: r) 1 (r.length + 1) (by simp)
        rw [List.drop_one, List.tail_cons] at hcut1
        unfold quoted at hF
        generalize hn : run isStr r = n at *
        clear hn hrun HR hq hc34
        rcases Nat.lt_or_ge n r.length with hlt | hge
        · rw [List.drop_eq_getElem_cons hlt] at hF
          have hsz2 : 1 + n < (⟨(c :: r).toArray⟩ : ByteArray).size := by rw [ba_size]; simp; omega
          have hx2 : (⟨(c :: r).toArray⟩ : ByteArray)[1 + n]'hsz2 = r[n] := by
            rw [at_eq _ _ _ (by simp; omega)]
            simp [show 1 + n = n + 1 by omega]
          have hnb : ((n : Int) == (r.length : Int)) = false := by simp; omega
          have hb2 := byte_bd r[n]
          generalize r[n] = d at *
          have hcut2 := cut_eq (c :: r) 1 (1 + n)
          have hdt : List.drop 1 (List.take (1 + n) (c :: r)) = r.take n := by rw [show 1 + n = n + 1 by omega]; rfl
          rw [hdt] at hcut2
          clear hdt
          by_cases hd34 : d = 34
          · have hdb : ((d.toNat : Int) != 34) = false := by rw [hd34]; rfl
            have HF : Hid (firstR (c :: r) = ⟨3, r.take n, 0, n + 2, 0⟩) := by
              unfold Hid; rw [hF, hd34]; rfl
            have hsl : ∀ W, (Instr.slice 9 (.string ⟨(c :: r).toArray⟩) (some (.int .i64 1)) (some (.int .i64 (1 + (n : Int)))) none).run Tryz.prog W = .ok (.string ⟨(r.take n).toArray⟩) W := fun W => by
              rw [slice_run (c :: r) 1 (1 + n) (by omega) (by simp; omega) 1 (1 + (n : Int)) rfl (by omega) W, show 1 + n = n + 1 by omega]
              rfl
            clear hF hd34 hcut2
            go_enter Tryz.func51, Tryz.ntmps51
            go_wp2_with (first | (go_at_call 71; refine (isDigit_any _ _ hb.1 hb.2).mono ?_; rintro e w' ⟨rfl, rfl⟩) | (go_at_call 74; refine (isWordByte_any _ _ hb.1 hb.2).mono ?_; rintro e w' ⟨rfl, rfl⟩) | (go_at_call 75; refine (HS.out _).mono ?_; rintro e w' ⟨rfl, rfl⟩))
            exact bodyPost_ret (v := .tuple #[.agg #[.int .i64 3, .string ⟨(List.take n r).toArray⟩, .int .u64 0, .int .i64 0, .int .i64 0], .int .i64 (n + 2), .int .i64 0]) (by simp [results, Tryz.results51, go_sem]) rfl ⟨by rw [HF.out]; rfl, (Below.refl _ _).alloc (Nat.le_refl _) _⟩
          · have hdb : ((d.toNat : Int) != 34) = true := by
              have : d.toNat ≠ 34 := fun h => hd34 (UInt8.toNat_inj.1 h)
              simp; omega
            have HF : Hid (firstR (c :: r) = ⟨0, [], 0, 0, 50⟩) := by
              unfold Hid; rw [hF]; split
              · rename_i heq; exact absurd (List.cons.inj heq).1 hd34
              · rfl
            clear hF hd34
            go_enter Tryz.func51, Tryz.ntmps51
            go_wp2_with (first | (go_at_call 71; refine (isDigit_any _ _ hb.1 hb.2).mono ?_; rintro e w' ⟨rfl, rfl⟩) | (go_at_call 74; refine (isWordByte_any _ _ hb.1 hb.2).mono ?_; rintro e w' ⟨rfl, rfl⟩) | (go_at_call 75; refine (HS.out _).mono ?_; rintro e w' ⟨rfl, rfl⟩))
            exact bodyPost_ret (v := .tuple #[.agg #[.int .i64 0, .string ⟨(([] : List UInt8)).toArray⟩, .int .u64 0, .int .i64 0, .int .i64 0], .int .i64 0, .int .i64 50]) (by simp [results, Tryz.results51, go_sem]) rfl ⟨by rw [HF.out]; rfl, (Below.refl _ _).alloc (Nat.le_refl _) _⟩
        · have hnl : n = r.length := by omega
          subst hnl
          have HF : Hid (firstR (c :: r) = ⟨0, [], 0, 0, 50⟩) := by
            unfold Hid; rw [hF, List.drop_of_length_le (by omega)]; rfl
          clear hF
          go_enter Tryz.func51, Tryz.ntmps51
          go_wp2_with (first | (go_at_call 71; refine (isDigit_any _ _ hb.1 hb.2).mono ?_; rintro e w' ⟨rfl, rfl⟩) | (go_at_call 74; refine (isWordByte_any _ _ hb.1 hb.2).mono ?_; rintro e w' ⟨rfl, rfl⟩) | (go_at_call 75; refine (HS.out _).mono ?_; rintro e w' ⟨rfl, rfl⟩))
          exact bodyPost_ret (v := .tuple #[.agg #[.int .i64 0, .string ⟨(([] : List UInt8)).toArray⟩, .int .u64 0, .int .i64 0, .int .i64 0], .int .i64 0, .int .i64 50]) (by simp [results, Tryz.results51, go_sem]) rfl ⟨by rw [HF.out]; rfl, (Below.refl _ _).alloc (Nat.le_refl _) _⟩
      · have hqb : ((c.toNat : Int) == 34) = false := by simp; omega
        have hF : firstR (c :: r) = ofAct (marked (c :: r)) := by
          have : ¬ c = 34 := fun h => hq (by rw [h]; rfl)
          unfold firstR first isDig isWB
          simp [hd, hw, this]
        clear hq HR hrun
        have hcut1 := cut_to' (c :: r) 1
        have HP1 := Lib.hid fun W => isPunct_any ((c :: r).take 1) W
        unfold marked at hF
        cases r with
        | nil =>
          rw [if_neg (by simp)] at hF
          cases hp : punct (List.take 1 [c])
          · rw [hp, if_neg (by simp)] at hF
            rw [hp] at HP1
            have HF := Lib.hid hF
            clear hF hp
            go_enter Tryz.func51, Tryz.ntmps51
            go_wp2_with (first | (go_at_call 71; refine (isDigit_any _ _ hb.1 hb.2).mono ?_; rintro e w' ⟨rfl, rfl⟩) | (go_at_call 74; refine (isWordByte_any _ _ hb.1 hb.2).mono ?_; rintro e w' ⟨rfl, rfl⟩) | (go_at_call 76; refine (HP1.out _).mono ?_; rintro e w' ⟨rfl, rfl⟩))
            exact bodyPost_ret (v := .tuple #[.agg #[.int .i64 0, .string ⟨(([] : List UInt8)).toArray⟩, .int .u64 0, .int .i64 0, .int .i64 0], .int .i64 0, .int .i64 50]) (by simp [results, Tryz.results51, go_sem]) rfl ⟨by rw [HF.out]; rfl, (Below.refl _ _).alloc (Nat.le_refl _) _⟩
          · rw [hp, if_pos rfl] at hF
            rw [hp] at HP1
            have HF := Lib.hid hF
            clear hF hp
            go_enter Tryz.func51, Tryz.ntmps51
            go_wp2_with (first | (go_at_call 71; refine (isDigit_any _ _ hb.1 hb.2).mono ?_; rintro e w' ⟨rfl, rfl⟩) | (go_at_call 74; refine (isWordByte_any _ _ hb.1 hb.2).mono ?_; rintro e w' ⟨rfl, rfl⟩) | (go_at_call 76; refine (HP1.out _).mono ?_; rintro e w' ⟨rfl, rfl⟩))
            exact bodyPost_ret (v := .tuple #[.agg #[.int .i64 4, .string ⟨(List.take 1 [c]).toArray⟩, .int .u64 0, .int .i64 0, .int .i64 0], .int .i64 1, .int .i64 0]) (by simp [results, Tryz.results51, go_sem]) rfl ⟨by rw [HF.out]; rfl, (Below.refl _ _).alloc (Nat.le_refl _) _⟩
        | cons d r =>
          have hcut2 := cut_to' (c :: d :: r) 2
          have HP2 := Lib.hid fun W => isPunct_any ((c :: d :: r).take 2) W
          have hlen2 : r.length + 2 ≤ 65536 := by simpa using hl
          have e2 : (1 < (c :: d :: r).length ∧ punct (List.take 2 (c :: d :: r)) = true) = (punct (List.take 2 (c :: d :: r)) = true) := by simp
          simp only [e2] at hF
          clear e2
          cases hp2 : punct (List.take 2 (c :: d :: r))
          · rw [hp2, if_neg (by simp)] at hF
            rw [hp2] at HP2
            cases hp : punct (List.take 1 (c :: d :: r))
            · rw [hp, if_neg (by simp)] at hF
              rw [hp] at HP1
              have HF := Lib.hid hF
              clear hF hp hp2
              go_enter Tryz.func51, Tryz.ntmps51
              go_wp2_with (first | (go_at_call 71; refine (isDigit_any _ _ hb.1 hb.2).mono ?_; rintro e w' ⟨rfl, rfl⟩) | (go_at_call 74; refine (isWordByte_any _ _ hb.1 hb.2).mono ?_; rintro e w' ⟨rfl, rfl⟩))
              refine (HP2.out _).mono ?_
              rintro e w' ⟨rfl, rfl⟩
              go_wp2_with fail
              refine (HP1.out _).mono ?_
              rintro e w' ⟨rfl, rfl⟩
              go_wp2
              exact bodyPost_ret (v := .tuple #[.agg #[.int .i64 0, .string ⟨(([] : List UInt8)).toArray⟩, .int .u64 0, .int .i64 0, .int .i64 0], .int .i64 0, .int .i64 50]) (by simp [results, Tryz.results51, go_sem]) rfl ⟨by rw [HF.out]; rfl, (Below.refl _ _).alloc (Nat.le_refl _) _⟩
            · rw [hp, if_pos rfl] at hF
              rw [hp] at HP1
              have HF := Lib.hid hF
              clear hF hp hp2
              go_enter Tryz.func51, Tryz.ntmps51
              go_wp2_with (first | (go_at_call 71; refine (isDigit_any _ _ hb.1 hb.2).mono ?_; rintro e w' ⟨rfl, rfl⟩) | (go_at_call 74; refine (isWordByte_any _ _ hb.1 hb.2).mono ?_; rintro e w' ⟨rfl, rfl⟩))
              refine (HP2.out _).mono ?_
              rintro e w' ⟨rfl, rfl⟩
              go_wp2_with fail
              refine (HP1.out _).mono ?_
              rintro e w' ⟨rfl, rfl⟩
              go_wp2
              exact bodyPost_ret (v := .tuple #[.agg #[.int .i64 4, .string ⟨(List.take 1 (c :: d :: r)).toArray⟩, .int .u64 0, .int .i64 0, .int .i64 0], .int .i64 1, .int .i64 0]) (by simp [results, Tryz.results51, go_sem]) rfl ⟨by rw [HF.out]; rfl, (Below.refl _ _).alloc (Nat.le_refl _) _⟩
          · rw [hp2, if_pos rfl] at hF
            rw [hp2] at HP2
            have HF := Lib.hid hF
            clear hF hp2
            go_enter Tryz.func51, Tryz.ntmps51
            go_wp2_with (first | (go_at_call 71; refine (isDigit_any _ _ hb.1 hb.2).mono ?_; rintro e w' ⟨rfl, rfl⟩) | (go_at_call 74; refine (isWordByte_any _ _ hb.1 hb.2).mono ?_; rintro e w' ⟨rfl, rfl⟩) | (go_at_call 76; refine (HP2.out _).mono ?_; rintro e w' ⟨rfl, rfl⟩))
            exact bodyPost_ret (v := .tuple #[.agg #[.int .i64 4, .string ⟨(List.take 2 (c :: d :: r)).toArray⟩, .int .u64 0, .int .i64 0, .int .i64 0], .int .i64 2, .int .i64 0]) (by simp [results, Tryz.results51, go_sem]) rfl ⟨by rw [HF.out]; rfl, (Below.refl _ _).alloc (Nat.le_refl _) _⟩
    · have HF : Hid (firstR (c :: r) = ⟨1, (c :: r).take (run isWB (c :: r)), 0, run isWB (c :: r), 0⟩) := by
        unfold Hid firstR first isDig isWB
        simp [hd, hw, ofAct]
      have hcut := cut_to' (c :: r) (run isWB (c :: r))
      generalize hn : run isWB (c :: r) = n at *
      clear hn
      go_enter Tryz.func51, Tryz.ntmps51
      go_wp2_with (first | (go_at_call 71; refine (isDigit_any _ _ hb.1 hb.2).mono ?_; rintro e w' ⟨rfl, rfl⟩) | (go_at_call 74; refine (isWordByte_any _ _ hb.1 hb.2).mono ?_; rintro e w' ⟨rfl, rfl⟩) | (go_at_call 72; refine (HR.out _).mono ?_; rintro e w' ⟨rfl, rfl⟩))
      exact bodyPost_ret (v := .tuple #[.agg #[.int .i64 1, .string ⟨(List.take n (c :: r)).toArray⟩, .int .u64 0, .int .i64 0, .int .i64 0], .int .i64 n, .int .i64 0]) (by simp [results, Tryz.results51, go_sem]) rfl ⟨by rw [HF.out]; rfl, (Below.refl _ _).alloc (Nat.le_refl _) _⟩
  · have HF : Hid (firstR (c :: r) = ⟨2, [], numV (num ((c :: r).take (run isWB (c :: r)))), run isWB (c :: r), numE (num ((c :: r).take (run isWB (c :: r))))⟩) := by
      unfold Hid firstR isDig
      simp [hd]
    have hcut := cut_to' (c :: r) (run isWB (c :: r))
    have hrp : 1 ≤ run isWB (c :: r) := by rw [run_cons_pos (by simp [isWB, wbI, hd])]; omega
    have HN : Hid (∀ W, Glob W → _) := Lib.hid fun W hW => number_any ((c :: r).take (run isWB (c :: r))) W (by
      intro h
      have := congrArg List.length h
      simp at this; omega) (by simp; omega) hW
    generalize hn : run isWB (c :: r) = n at *
    have hG2 : Glob (w.alloc (Obj.cells #[Value.int IntKind.i64 0, Value.string ⟨#[]⟩, Value.int IntKind.u64 0, Value.int IntKind.i64 0, Value.int IntKind.i64 0] 80)) := hG.next ((Below.refl _ _).alloc (Nat.le_refl _) _)
    have HG := Lib.hid hG2
    clear hn hG hG2
    generalize num (List.take n (c :: r)) = m at *
    go_enter Tryz.func51, Tryz.ntmps51
    go_wp2_with (first | (go_at_call 71; refine (isDigit_any _ _ hb.1 hb.2).mono ?_; rintro e w' ⟨rfl, rfl⟩) | (go_at_call 72; refine (HR.out _).mono ?_; rintro e w' ⟨rfl, rfl⟩))
    refine (HN.out _ HG.out).mono ?_
    rintro e w1 ⟨rfl, hb1⟩
    obtain ⟨hc1, hf1⟩ := bcell hb1
    have HB := Lib.hid hb1
    have hz1 : w.heap.size + 1 ≤ w1.heap.size := by have := hb1.size; simpa using this
    clear hb1
    go_wp2
    exact bodyPost_ret (v := .tuple #[.agg #[.int .i64 2, .string ⟨#[]⟩, .int .u64 (numV m), .int .i64 0, .int .i64 0], .int .i64 n, .int .i64 (numE m)]) (by simp [results, Tryz.results51, go_sem, hc1]) rfl ⟨by rw [HF.out]; rfl, ((((((((Below.refl _ _).alloc (Nat.le_refl _) _).trans (HB.out.mono (by simp))).setCell (Nat.le_refl _) _).setCell (Nat.le_refl _) _).setCell (Nat.le_refl _) _).setCell (Nat.le_refl _) _).setCell (Nat.le_refl _) _)⟩
end Go.Proofs.YtahhmgoffdggpaaGreatDoor


namespace Go.Proofs.YtahhmgoffdggpaaGreatDoor

theorem wb_nl (c : UInt8) (h : isWB c = true) : c ≠ 10 := by rintro rfl; revert h; decide
theorem str_nl (c : UInt8) (h : isStr c = true) : c ≠ 10 := by rintro rfl; revert h; decide
theorem punct_nl (l : List UInt8) (h : punct l = true) : ∀ c ∈ l, c ≠ 10 := by
  unfold punct at h
  rw [Bool.or_eq_true] at h
  rcases h with h | h
  · simp [marks2] at h
    rcases h with h | h | h | h | h <;> subst h <;> decide
  · split at h
    · rename_i c
      intro d hd
      rw [List.mem_singleton] at hd
      subst hd
      rintro rfl
      revert h; decide
    · simp at h
theorem adv_plain (l : List UInt8) (h : ∀ c ∈ l, c ≠ 10) : ∀ p : Nat × Nat, adv p l = (p.1, p.2 + l.length) := by
  induction l with
  | nil => intro p; rfl
  | cons c r ih =>
    intro p
    have hc : c ≠ 10 := h c List.mem_cons_self
    show adv (adv1 p c) r = _
    rw [ih (fun d hd => h d (List.mem_cons_of_mem _ hd))]
    simp [adv1, hc]; omega
theorem quoted_tok {r : List UInt8} {k v n : Nat} {t : List UInt8} (h : quoted r = .tok k t v n) : k = 3 ∧ v = 0 ∧ n = run isStr r + 2 ∧ t = r.take (run isStr r) ∧ ∃ s, r.drop (run isStr r) = 34 :: s := by
  unfold quoted at h
  split at h
  · rename_i s hs
    injection h with h1 h2 h3 h4
    exact ⟨h1.symm, h3.symm, h4.symm, h2.symm, s, hs⟩
  · cases h
theorem marked_tok {l : List UInt8} {k v n : Nat} {t : List UInt8} (h : marked l = .tok k t v n) : k = 4 ∧ v = 0 ∧ t = l.take n ∧ punct t = true ∧ ((n = 2 ∧ 1 < l.length) ∨ n = 1) := by
  unfold marked at h
  split at h
  · rename_i h2
    injection h with h1 h2' h3 h4
    subst h1 h2' h3 h4
    exact ⟨rfl, rfl, rfl, h2.2, .inl ⟨rfl, h2.1⟩⟩
  · split at h
    · rename_i h2
      injection h with h1 h2' h3 h4
      subst h1 h2' h3 h4
      exact ⟨rfl, rfl, rfl, h2, .inr rfl⟩
    · cases h
/-- A token has a byte at least, lies in the text and holds no newline. -/
theorem first_len {l : List UInt8} {k v n : Nat} {t : List UInt8} (h : first l = .tok k t v n) : 1 ≤ n ∧ n ≤ l.length ∧ ∀ c ∈ l.take n, c ≠ 10 := by
  unfold first at h
  split at h
  · cases h
  · rename_i c r
    split at h
    · rename_i hd
      have hw : isWB c = true := by simp [isWB, wbI]; exact .inr hd
      split at h
      · cases h
      · cases h
      · injection h with h1 h2 h3 h4
        subst h4
        refine ⟨?_, run_le, fun c hc => wb_nl c (run_all c hc)⟩
        rw [run_cons_pos hw]; omega
    · split at h
      · rename_i hw
        injection h with h1 h2 h3 h4
        subst h4
        refine ⟨?_, run_le, fun c hc => wb_nl c (run_all c hc)⟩
        rw [run_cons_pos hw]; omega
      · split at h
        · rename_i hq
          obtain ⟨_, _, rfl, rfl, s, hs⟩ := quoted_tok h
          have hl : run isStr r < r.length := by
            apply Nat.lt_of_not_le; intro hle
            rw [List.drop_of_length_le hle] at hs; cases hs
          refine ⟨by omega, by simp; omega, ?_⟩
          intro d hd
          rw [List.take_succ_cons, List.mem_cons] at hd
          rcases hd with rfl | hd
          · rw [hq]; decide
          · rw [List.take_succ_eq_append_getElem hl, List.mem_append] at hd
            rcases hd with hd | hd
            · exact str_nl d (run_all d hd)
            · rw [List.mem_singleton] at hd
              rw [List.drop_eq_getElem_cons hl] at hs
              rw [hd, (List.cons.inj hs).1]; decide
        · obtain ⟨_, _, rfl, hp, hn⟩ := marked_tok h
          refine ⟨by omega, by rcases hn with ⟨rfl, h1⟩ | rfl <;> simp at * <;> omega, punct_nl _ hp⟩
theorem first_noskip {l : List UInt8} {n : Nat} : first l ≠ .skip n := by
  unfold first
  split
  · simp
  · split
    · split <;> simp
    · split
      · simp
      · split
        · unfold quoted; split <;> simp
        · unfold marked; split
          · simp
          · split <;> simp

theorem first_noerr0 (l : List UInt8) : first l ≠ .err 0 := by
  unfold first
  split
  · simp
  · split
    · split <;> simp
    · split
      · simp
      · split
        · unfold quoted; split <;> simp
        · unfold marked; split
          · simp
          · split <;> simp

def Res.app (ts : List Tok) : Res → Res
  | .ok us => .ok (ts ++ us)
  | r => r
theorem app_cons (ts : List Tok) (t : Tok) (r : Res) : (r.cons t).app ts = r.app (ts ++ [t]) := by cases r <;> simp [Res.cons, Res.app]
theorem app_nil (r : Res) : r.app [] = r := by cases r <;> rfl

section

variable {l : List UInt8} {k : Nat}

theorem drop_cons (h : k < l.length) : l.drop k = l[k] :: l.drop (k + 1) := List.drop_eq_getElem_cons h
theorem drop_ne (h : k < l.length) : l.drop k ≠ [] := by rw [drop_cons h]; exact List.cons_ne_nil _ _
theorem adv_next (p : Nat × Nat) (n : Nat) : adv p (l.take (k + n)) = adv (adv p (l.take k)) ((l.drop k).take n) := by
  rw [← adv_append]; congr 1
  rw [← List.take_append_drop k (l.take (k + n))]
  rw [List.take_take, show min k (k + n) = k by omega, List.drop_take, show k + n - k = n by omega]
/-- One round over white space or a comment. -/
theorem lex_skipped (p : Nat × Nat) (n : Nat) (hk : k < l.length) (hn : 1 ≤ n) (h : step (l.drop k) = .skip n) : lex 0 p (l.drop k) = lex 0 (adv p ((l.drop k).take n)) (l.drop (k + n)) := by
  rw [lex_go p (drop_ne hk), h]
  simp only []
  rw [show n - 1 + 1 = n by omega, List.drop_drop]
theorem lex_token (p : Nat × Nat) (kd : Nat) (tx : List UInt8) (v n : Nat) (hk : k < l.length) (hn : 1 ≤ n) (h : step (l.drop k) = .tok kd tx v n) :
    lex 0 p (l.drop k) = (lex 0 (adv p ((l.drop k).take n)) (l.drop (k + n))).cons ⟨kd, tx, v, p.1, p.2⟩ := by
  rw [lex_go p (drop_ne hk), h]
  simp only []
  rw [show n - 1 + 1 = n by omega, List.drop_drop]
theorem lex_error (p : Nat × Nat) (e : Nat) (hk : k < l.length) (h : step (l.drop k) = .err e) : lex 0 p (l.drop k) = .no p.1 p.2 e := by
  rw [lex_go p (drop_ne hk), h]
theorem step_sp (hk : k < l.length) (h : isSp l[k] = true) : step (l.drop k) = .skip 1 := by
  rw [drop_cons hk]; simp [step, h]
theorem step_comment (hk : k < l.length) (h : l[k] = 35) : step (l.drop k) = .skip (run notNl (l.drop k)) := by
  rw [drop_cons hk, h]; rfl
theorem step_first (hk : k < l.length) (h : isSp l[k] = false) (h2 : l[k] ≠ 35) : step (l.drop k) = first (l.drop k) := by
  rw [drop_cons hk]; simp [step, h, h2]
end

end Go.Proofs.YtahhmgoffdggpaaGreatDoor


namespace Go.Proofs.YtahhmgoffdggpaaGreatDoor

open Go.RowKit

/-- A token asx it lies in memory, whatever its numbers. -/
structure GTok where
  kind : Int
  text : List UInt8
  value : Int
  line : Int
  col : Int
def Tok.g (t : Tok) : GTok := ⟨t.kind, t.text, t.value, t.line, t.col⟩
def GTok.cells (t : GTok) : List Value := [.int .i64 t.kind, .string ⟨t.text.toArray⟩, .int .u64 t.value, .int .i64 t.line, .int .i64 t.col]
def tcells (ts : List GTok) : List Value := ts.flatMap GTok.cells
theorem tcells_len (ts : List GTok) : (tcells ts).length = ts.length * 5 := by
  induction ts with
  | nil => rfl
  | cons t r ih => show (t.cells ++ tcells r).length = _; rw [List.length_append, ih]; simp [GTok.cells]; omega
theorem tcells_append (a b : List GTok) : tcells (a ++ b) = tcells a ++ tcells b := by simp [tcells]
theorem tcells_get (ts : List GTok) : ∀ (i j : Nat) (_ : i < ts.length) (_ : j < 5), (tcells ts)[i * 5 + j]? = (ts[i]).cells[j]? := by
  induction ts with
  | nil => intro i j h; simp at h
  | cons t r ih =>
    intro i j h hj
    show (t.cells ++ tcells r)[_]? = _
    cases i with
    | zero => rw [List.getElem?_append_left (by simp [GTok.cells]; omega)]; simp
    | succ i =>
      rw [List.getElem?_append_right (by simp [GTok.cells]; omega)]
      have e : (i + 1) * 5 + j - t.cells.length = i * 5 + j := by simp [GTok.cells]; omega
      rw [e, ih i j (by simpa using h) hj]; simp

/-- v is a slice of the call's own that holds the tokens ts. -/
def OwnT (w : World) (base : Nat) (v : Value) (ts : List GTok) : Prop := w.ownsRow base 80 5 v ts.length (tcells ts)
theorem OwnT.nil (w : World) (base : Nat) : OwnT w base (.slice none 0 0) [] := World.ownsRow_nil w base 80 5
theorem OwnT.alloc {w : World} {base : Nat} {v : Value} {l : List GTok} (h : OwnT w base v l) (o : Obj) : OwnT (w.alloc o) base v l := World.ownsRow.alloc h o
theorem OwnT.keep {w w' : World} {base : Nat} {v : Value} {l : List GTok} (h : OwnT w base v l) (hb : ∀ g, base ≤ g → g < w.heap.size → w'.heap[g]? = w.heap[g]?) : OwnT w' base v l := by
  refine ⟨h.1, ?_⟩
  rcases h.2 with hh | ⟨g, cap, cur, hv, hbs, hh, rest⟩
  · exact .inl hh
  · have hlt : g < w.heap.size := by
      rcases Nat.lt_or_ge g w.heap.size with h1 | h1
      · exact h1
      · rw [Array.getElem?_eq_none h1] at hh; cases hh
    exact .inr ⟨g, cap, cur, hv, hbs, (hb g hbs hlt).trans hh, rest⟩
theorem OwnT.below {w w' : World} {base B : Nat} {v : Value} {l : List GTok} (h : OwnT w base v l) (hB : w.heap.size ≤ B) (hb : Below B w w') : OwnT w' base v l := h.keep fun g _ hg => hb.block g (by omega)

/-- The slice value with address A and n elements holds the tokens ts and lies below block B. -/
def TRow (w : World) (B : Nat) (A : Option Addr) (ts : List GTok) : Prop :=
  0 < ts.length → ∃ b off, A = some ⟨b, off, none⟩ ∧ b < B ∧ ∀ i (h : i < ts.length), ∀ j u, (ts[i]).cells[j]? = some u → w.cell? ⟨b, off + (i * 5 + j), none⟩ = some u
theorem TRow.below {w w' : World} {B B' : Nat} {A : Option Addr} {ts : List GTok} (h : TRow w B A ts) (hB : B ≤ B') (hb : Below B' w w') : TRow w' B A ts := fun hn => by
  obtain ⟨b, off, e, hlt, hc⟩ := h hn
  exact ⟨b, off, e, hlt, fun i hi j u hu => (hb.cell (p := ⟨b, off + (i * 5 + j), none⟩) (by show b < B'; omega)).trans (hc i hi j u hu)⟩
theorem TRow.wide {w : World} {B B' : Nat} {A : Option Addr} {ts : List GTok} (h : TRow w B A ts) (hB : B ≤ B') : TRow w B' A ts := fun hn => by
  obtain ⟨b, off, e, hlt, hc⟩ := h hn
  exact ⟨b, off, e, by omega, hc⟩
theorem TRow.nil {w : World} {B : Nat} {A : Option Addr} : TRow w B A [] := fun h => absurd h (by simp)
theorem OwnT.row {w : World} {base : Nat} {v : Value} {ts : List GTok} (h : OwnT w base v ts) : ∃ A cap, v = .slice A ts.length cap ∧ ts.length ≤ cap ∧ TRow w w.heap.size A ts := by
  rcases h.2 with ⟨hv, h0⟩ | ⟨g, cap, cur, hv, hbs, hh, hn, hm, hs, ht⟩
  · have h1 : ts = [] := List.eq_nil_of_length_eq_zero h0
    subst h1
    exact ⟨none, 0, hv, Nat.le_refl _, TRow.nil⟩
  · subst hv
    have hlt : g < w.heap.size := by
      rcases Nat.lt_or_ge g w.heap.size with h1 | h1
      · exact h1
      · rw [Array.getElem?_eq_none h1] at hh; cases hh
    refine ⟨some ⟨g, 0, none⟩, cap, rfl, hn, fun _ => ⟨g, 0, rfl, hlt, fun i hi j u hu => ?_⟩⟩
    have hj : j < 5 := by
      rcases Nat.lt_or_ge j 5 with h1 | h1
      · exact h1
      · rw [List.getElem?_eq_none (by simp [GTok.cells]; omega)] at hu; cases hu
    rw [Nat.zero_add, World.ownsRow.cellAt h (i * 5 + j) (by omega), tcells_get ts i j hi hj, hu]

theorem tok_info : (Tryz.prog.info? 80).map (fun i => (i.zero, i.size, i.bytes)) = some (some (.agg #[.int .i64 0, .string ⟨#[]⟩, .int .u64 0, .int .i64 0, .int .i64 0]), 5, 48) := by kernel_rfl
theorem cells_one (t : GTok) : ∀ u ∈ t.cells, u.oneCell' = true := by intro u hu; simp [GTok.cells] at hu; rcases hu with rfl | rfl | rfl | rfl | rfl <;> rfl

/-- append(v, t): the token t lies in a block of its own. -/
theorem wpList_push {ops : Array Oper} {rest : List Oper} {o : Oper} {a : Act} {Q : Exit → Act → World → Prop} {W : World} (base : Nat) (v : Value) (ts : List GTok) (N : Nat) (t : GTok) (c : Nat)
    (hown : OwnT W base v ts) (hcell : ∀ j u, t.cells[j]? = some u → W.cell? ⟨N, j, none⟩ = some u) (hlen : ts.length ≤ 1000000) (hbase : base ≤ W.heap.size)
    (hgd : o.guard = none) (s x : Operand) (ho : o.op = .call { callee := .builtin .append, args := #[s, x], argTypes := #[74, 74] })
    (hs : a.eval s = v) (hx : a.eval x = .slice (some ⟨N, 0, none⟩) 1 c)
    (h : ∀ v' w', OwnT w' base v' (ts ++ [t]) → W.grownBy w' v.ownBlock → wpList Tryz.prog ops Q rest (a.put o.dst v') w') : wpList Tryz.prog ops Q (o :: rest) a W := by
  obtain ⟨i0, hi0, hz0, hz1, hz2⟩ := info_parts tok_info
  refine wpList_append_own W hgd s x 74 ho base 80 i0 _ 5 48 Tryz.underlying74 hi0 hz0 hz1 hz2 rfl (by omega) v ts.length (tcells ts) hs hown ⟨N, 0, none⟩ 1 c t.cells hx rfl ?_ (cells_one t) (by unfold maxLen; omega) (by omega) hbase ?_
  · intro j u hu
    have e : (⟨N, 0, none⟩ : Addr).add j = ⟨N, j, none⟩ := by unfold Addr.add; split <;> simp_all
    rw [e]; exact hcell j u hu
  · intro v' w' h1 h2 _
    refine h v' w' ?_ h2
    unfold OwnT
    rw [tcells_append, List.length_append]
    simpa [tcells] using h1

end Go.Proofs.YtahhmgoffdggpaaGreatDoor
