/-
  Contracts of hwlex.isPunct, hwlex.commentLen, hwlex.isWord, hwlex.IsName and of the reference's IsName.
  Conditions: a text's length is at most 2^32.
  The contract of hwlex.first: the token at the beginning of a text, the number of its bytes, and the error.
  Conditions: the text is not empty and has at most 65536 bytes; the variable strconv.ErrRange lies as the program's start lays it.
  Plain facts on tokens: how long one is, that it holds no newline, and how the scanning of a text goes on behind it.
  Conditions: none.
-/
import Derived.Test.YtmodjokoggmnaaaGreatDoorMa3
import Derived.Test.YtmodjokoggmnaaaGreatDoorMa1
namespace Go.Proofs.YtmodjokoggmnaaaGreatDoor

open Go.RowKit Go.Shelf

theorem punct_cases (l : List UInt8) (h : punct l = true) : l = [123] ∨ l = [125] ∨ l = [40] ∨ l = [41] ∨ l = [91] ∨ l = [93] ∨ l = [44] ∨ l = [59] ∨ l = [58] ∨ l = [61] ∨ l = [60] ∨ l = [62] ∨ l = [33] ∨ l = [43] ∨ l = [45] ∨ l = [42] ∨ l = [63] ∨ l = [46] ∨ l = [47] ∨ l = [60, 61] ∨ l = [62, 61] ∨ l = [33, 61] ∨ l = [46, 46] ∨ l = [45, 62] := by
  unfold punct at h
  rw [Bool.or_eq_true] at h
  rcases h with h | h
  · simp [marks2] at h
    rcases h with h | h | h | h | h <;> subst h <;> decide
  · split at h
    · rename_i c
      simp [marks1] at h
      rcases h with h | h | h | h | h | h | h | h | h | h | h | h | h | h | h | h | h | h | h <;> subst h <;> decide
    · simp at h
theorem punct_no (l m : List UInt8) (hm : punct m = true) (h : punct l = false) : (l == m) = false := by
  rw [beq_eq_false_iff_ne]; rintro rfl; rw [hm] at h; cases h

set_option maxHeartbeats 1000000 in
theorem isPunct_any (l : List UInt8) (w : World) : Calls Tryz.prog 84 #[.string ⟨l.toArray⟩] w fun e w' => e = .returned (.bool (punct l)) ∧ w = w' := by
  cases hp : punct l
  · have f0 := punct_no l [123] rfl hp
    have f1 := punct_no l [125] rfl hp
    have f2 := punct_no l [40] rfl hp
    have f3 := punct_no l [41] rfl hp
    have f4 := punct_no l [91] rfl hp
    have f5 := punct_no l [93] rfl hp
    have f6 := punct_no l [44] rfl hp
    have f7 := punct_no l [59] rfl hp
    have f8 := punct_no l [58] rfl hp
    have f9 := punct_no l [61] rfl hp
    have f10 := punct_no l [60] rfl hp
    have f11 := punct_no l [62] rfl hp
    have f12 := punct_no l [33] rfl hp
    have f13 := punct_no l [43] rfl hp
    have f14 := punct_no l [45] rfl hp
    have f15 := punct_no l [42] rfl hp
    have f16 := punct_no l [63] rfl hp
    have f17 := punct_no l [46] rfl hp
    have f18 := punct_no l [47] rfl hp
    have f19 := punct_no l [60, 61] rfl hp
    have f20 := punct_no l [62, 61] rfl hp
    have f21 := punct_no l [33, 61] rfl hp
    have f22 := punct_no l [46, 46] rfl hp
    have f23 := punct_no l [45, 62] rfl hp
    clear hp
    go_enter Tryz.func84, Tryz.ntmps84
    go_wp2
    go_ret
    exact ⟨rfl, rfl⟩
  · have h := punct_cases l hp
    clear hp
    rcases h with h | h | h | h | h | h | h | h | h | h | h | h | h | h | h | h | h | h | h | h | h | h | h | h
    all_goals subst h
    all_goals go_enter Tryz.func84, Tryz.ntmps84
    all_goals go_wp2
    all_goals go_ret
    all_goals exact ⟨rfl, rfl⟩

theorem index_run (l : List UInt8) : Lib.indexByte l 10 = if run notNl l < l.length then (run notNl l : Int) else -1 := by
  induction l with
  | nil => rfl
  | cons c r ih =>
    rw [Lib.indexByte]
    by_cases h : c = 10
    · subst h
      rw [run_cons_neg (by rfl)]; simp
    · rw [if_neg (by simpa using h), run_cons_pos (by simpa [notNl] using h), ih]
      have := @run_le notNl r
      by_cases h2 : run notNl r < r.length
      · rw [if_pos h2, if_neg (by simp), if_pos (by simpa using h2)]; simp
      · rw [if_neg h2, if_pos (by rfl), if_neg (by simp; omega)]
theorem commentLen_any (l : List UInt8) (w : World) : Calls Tryz.prog 48 #[.string ⟨l.toArray⟩] w fun e w' => e = .returned (.int .i64 (run notNl l : Int)) ∧ w = w' := by
  have hi := Tryz.strings_IndexByte ⟨l.toArray⟩ 10 w
  have hx : Lib.indexByte (⟨l.toArray⟩ : ByteArray).data.toList (Int.toNat 10).toUInt8 = if run notNl l < l.length then (run notNl l : Int) else -1 := index_run l
  rw [hx] at hi
  have hr := @run_le notNl l
  by_cases h : run notNl l < l.length
  · rw [if_pos h] at hi
    generalize run notNl l = n at *
    have HI := Lib.hid hi
    clear hi hx
    go_enter Tryz.func48, Tryz.ntmps48
    go_wp2_with fail
    refine HI.out.mono ?_
    rintro e w' ⟨rfl, rfl⟩
    go_wp2
    go_ret
    exact ⟨rfl, rfl⟩
  · rw [if_neg h] at hi
    have HE : Hid (run notNl l = l.length) := Lib.hid (by omega)
    have HI := Lib.hid hi
    clear hi hx h hr
    go_enter Tryz.func48, Tryz.ntmps48
    go_wp2_with fail
    refine HI.out.mono ?_
    rintro e w' ⟨rfl, rfl⟩
    go_wp2
    go_ret
    exact ⟨ret_int (by rw [HE.out]), rfl⟩
end Go.Proofs.YtmodjokoggmnaaaGreatDoor


namespace Go.Proofs.YtmodjokoggmnaaaGreatDoor

open Go.RowKit Go.Shelf

/-- What first returns: kind, text, value, length, error. -/
structure FR where
  kind : Nat
  text : List UInt8
  value : Nat
  n : Nat
  e : Nat
def ofAct : Act1 → FR
  | .tok k t v n => ⟨k, t, v, n, 0⟩
  | .err e => ⟨0, [], 0, 0, e⟩
  | .skip _ => ⟨0, [], 0, 0, 50⟩
def firstR (l : List UInt8) : FR :=
  match l with
  | [] => ⟨0, [], 0, 0, 50⟩
  | c :: _ => if isDig c = true then ⟨2, [], numV (num (l.take (run isWB l))), run isWB l, numE (num (l.take (run isWB l)))⟩ else ofAct (first l)
/-- A token's value with its position. -/
def tokV (k : Nat) (t : List UInt8) (v line col : Nat) : Value := .agg #[.int .i64 k, .string ⟨t.toArray⟩, .int .u64 v, .int .i64 line, .int .i64 col]
def frV (f : FR) : Value := .tuple #[.agg #[.int .i64 f.kind, .string ⟨f.text.toArray⟩, .int .u64 f.value, .int .i64 0, .int .i64 0], .int .i64 f.n, .int .i64 f.e]

theorem slice_run (l : List UInt8) (i j : Nat) (hij : i ≤ j) (hj : j ≤ l.length) (a b : Int) (ha : a = i) (hb : b = j) (W : World) :
    (Instr.slice 9 (.string ⟨l.toArray⟩) (some (.int .i64 a)) (some (.int .i64 b)) none).run Tryz.prog W = .ok (.string ⟨((l.take j).drop i).toArray⟩) W := by
  subst ha hb
  rw [run_slice_string W 9 _ .i64 .i64 i j Tryz.underlying9 (by omega) (by omega) (by rw [ba_size]; omega), Int.toNat_natCast, Int.toNat_natCast, cut_eq]
theorem bcell {W w1 : World} (hb : Below W.heap.size W w1) : (∀ b o, b < W.heap.size → w1.cell? ⟨b, o, none⟩ = W.cell? ⟨b, o, none⟩) ∧ (∀ b o, b < W.heap.size → w1.frozen? ⟨b, o, none⟩ = W.frozen? ⟨b, o, none⟩) :=
  ⟨fun b o h => hb.cell (p := ⟨b, o, none⟩) h, fun b o h => hb.frozen (p := ⟨b, o, none⟩) h⟩

set_option maxRecDepth 50000 in
set_option maxHeartbeats 2000000 in
theorem first_any (c : UInt8) (r : List UInt8) (w : World) (hl : (c :: r).length ≤ 65536) (hG : Glob w) :
    Calls Tryz.prog 49 #[.string ⟨(c :: r).toArray⟩] w fun e w' => e = .returned (frV (firstR (c :: r))) ∧ Below w.heap.size w w' := by
  have hb := byte_bd c
  have hsz : 0 < (⟨(c :: r).toArray⟩ : ByteArray).size := by rw [ba_size]; simp
  have hx : (⟨(c :: r).toArray⟩ : ByteArray)[0]'hsz = c := rfl
  have hrl : (c :: r).length = r.length + 1 := rfl
  have hrun := @run_le isWB (c :: r)
  have HR := Lib.hid fun W => runLen_any (c :: r) W (by unfold maxLen; omega)
  cases hd : digI (c.toNat : Int)
  · cases hw : wbI (c.toNat : Int)
    · by_cases hq : c.toNat = 34
      · have hc34 : c = 34 := UInt8.toNat_inj.1 hq
        have hqb : ((c.toNat : Int) == 34) = true := by rw [hq]; rfl
        have hF : firstR (c :: r) = ofAct (quoted r) := by
          have hd' : isDig c = false := hd
          have hw' : isWB c = false := hw
          simp only [firstR, first]
          rw [if_neg (by simp [hd']), if_neg (by simp [hd']), if_neg (by simp [hw']), if_pos hc34]
        have hrs := @run_le isStr r
        have HS := Lib.hid fun W => stringLen_any r W (by unfold maxLen; omega)
        have hcut1 := cut_from' (c :: r) 1 (r.length + 1) (by simp)
        rw [List.drop_one, List.tail_cons] at hcut1
        unfold quoted at hF
        generalize hn : run isStr r = n at *
        clear hn hrun HR hq hc34
        rcases Nat.lt_or_ge n r.length with hlt | hge
        · rw [List.drop_eq_getElem_cons hlt] at hF
          have hsz2 : 1 + n < (⟨(c :: r).toArray⟩ : ByteArray).size := by rw [ba_size]; simp; omega
          have hx2 : (⟨(c :: r).toArray⟩ : ByteArray)[1 + n]'hsz2 = r[n] := by
            rw [at_eq _ _ _ (by simp; omega)]
            simp [show 1 + n = n + 1 by omega]
          have hnb : ((n : Int) == (r.length : Int)) = false := by simp; omega
          have hb2 := byte_bd r[n]
          generalize r[n] = d at *
          have hcut2 := cut_eq (c :: r) 1 (1 + n)
          have hdt : List.drop 1 (List.take (1 + n) (c :: r)) = r.take n := by rw [show 1 + n = n + 1 by omega]; rfl
          rw [hdt] at hcut2
          clear hdt
          by_cases hd34 : d = 34
          · have hdb : ((d.toNat : Int) != 34) = false := by rw [hd34]; rfl
            have HF : Hid (firstR (c :: r) = ⟨3, r.take n, 0, n + 2, 0⟩) := by
              unfold Hid; rw [hF, hd34]; rfl
            have hsl : ∀ W, (Instr.slice 9 (.string ⟨(c :: r).toArray⟩) (some (.int .i64 1)) (some (.int .i64 (1 + (n : Int)))) none).run Tryz.prog W = .ok (.string ⟨(r.take n).toArray⟩) W := fun W => by
              rw [slice_run (c :: r) 1 (1 + n) (by omega) (by simp; omega) 1 (1 + (n : Int)) rfl (by omega) W, show 1 + n = n + 1 by omega]
              rfl
            clear hF hd34 hcut2
            go_enter Tryz.func49, Tryz.ntmps49
            go_wp2_with (first | (go_at_call 79; refine (isDigit_any _ _ hb.1 hb.2).mono ?_; rintro e w' ⟨rfl, rfl⟩) | (go_at_call 82; refine (isWordByte_any _ _ hb.1 hb.2).mono ?_; rintro e w' ⟨rfl, rfl⟩) | (go_at_call 83; refine (HS.out _).mono ?_; rintro e w' ⟨rfl, rfl⟩))
            exact bodyPost_ret (v := .tuple #[.agg #[.int .i64 3, .string ⟨(List.take n r).toArray⟩, .int .u64 0, .int .i64 0, .int .i64 0], .int .i64 (n + 2), .int .i64 0]) (by simp [results, Tryz.results49, go_sem]) rfl ⟨by rw [HF.out]; rfl, (Below.refl _ _).alloc (Nat.le_refl _) _⟩
          · have hdb : ((d.toNat : Int) != 34) = true := by
              have : d.toNat ≠ 34 := fun h => hd34 (UInt8.toNat_inj.1 h)
              simp; omega
            have HF : Hid (firstR (c :: r) = ⟨0, [], 0, 0, 50⟩) := by
              unfold Hid; rw [hF]; split
              · rename_i heq; exact absurd (List.cons.inj heq).1 hd34
              · rfl
            clear hF hd34
            go_enter Tryz.func49, Tryz.ntmps49
            go_wp2_with (first | (go_at_call 79; refine (isDigit_any _ _ hb.1 hb.2).mono ?_; rintro e w' ⟨rfl, rfl⟩) | (go_at_call 82; refine (isWordByte_any _ _ hb.1 hb.2).mono ?_; rintro e w' ⟨rfl, rfl⟩) | (go_at_call 83; refine (HS.out _).mono ?_; rintro e w' ⟨rfl, rfl⟩))
            exact bodyPost_ret (v := .tuple #[.agg #[.int .i64 0, .string ⟨(([] : List UInt8)).toArray⟩, .int .u64 0, .int .i64 0, .int .i64 0], .int .i64 0, .int .i64 50]) (by simp [results, Tryz.results49, go_sem]) rfl ⟨by rw [HF.out]; rfl, (Below.refl _ _).alloc (Nat.le_refl _) _⟩
        · have hnl : n = r.length := by omega
          subst hnl
          have HF : Hid (firstR (c :: r) = ⟨0, [], 0, 0, 50⟩) := by
            unfold Hid; rw [hF, List.drop_of_length_le (by omega)]; rfl
          clear hF
          go_enter Tryz.func49, Tryz.ntmps49
          go_wp2_with (first | (go_at_call 79; refine (isDigit_any _ _ hb.1 hb.2).mono ?_; rintro e w' ⟨rfl, rfl⟩) | (go_at_call 82; refine (isWordByte_any _ _ hb.1 hb.2).mono ?_; rintro e w' ⟨rfl, rfl⟩) | (go_at_call 83; refine (HS.out _).mono ?_; rintro e w' ⟨rfl, rfl⟩))
          exact bodyPost_ret (v := .tuple #[.agg #[.int .i64 0, .string ⟨(([] : List UInt8)).toArray⟩, .int .u64 0, .int .i64 0, .int .i64 0], .int .i64 0, .int .i64 50]) (by simp [results, Tryz.results49, go_sem]) rfl ⟨by rw [HF.out]; rfl, (Below.refl _ _).alloc (Nat.le_refl _) _⟩
      · have hqb : ((c.toNat : Int) == 34) = false := by simp; omega
        have hF : firstR (c :: r) = ofAct (marked (c :: r)) := by
          have : ¬ c = 34 := fun h => hq (by rw [h]; rfl)
          unfold firstR first isDig isWB
          simp [hd, hw, this]
        clear hq HR hrun
        have hcut1 := cut_to' (c :: r) 1
        have HP1 := Lib.hid fun W => isPunct_any ((c :: r).take 1) W
        unfold marked at hF
        cases r with
        | nil =>
          rw [if_neg (by simp)] at hF
          cases hp : punct (List.take 1 [c])
          · rw [hp, if_neg (by simp)] at hF
            rw [hp] at HP1
            have HF := Lib.hid hF
            clear hF hp
            go_enter Tryz.func49, Tryz.ntmps49
            go_wp2_with (first | (go_at_call 79; refine (isDigit_any _ _ hb.1 hb.2).mono ?_; rintro e w' ⟨rfl, rfl⟩) | (go_at_call 82; refine (isWordByte_any _ _ hb.1 hb.2).mono ?_; rintro e w' ⟨rfl, rfl⟩) | (go_at_call 84; refine (HP1.out _).mono ?_; rintro e w' ⟨rfl, rfl⟩))
            exact bodyPost_ret (v := .tuple #[.agg #[.int .i64 0, .string ⟨(([] : List UInt8)).toArray⟩, .int .u64 0, .int .i64 0, .int .i64 0], .int .i64 0, .int .i64 50]) (by simp [results, Tryz.results49, go_sem]) rfl ⟨by rw [HF.out]; rfl, (Below.refl _ _).alloc (Nat.le_refl _) _⟩
          · rw [hp, if_pos rfl] at hF
            rw [hp] at HP1
            have HF := Lib.hid hF
            clear hF hp
            go_enter Tryz.func49, Tryz.ntmps49
            go_wp2_with (first | (go_at_call 79; refine (isDigit_any _ _ hb.1 hb.2).mono ?_; rintro e w' ⟨rfl, rfl⟩) | (go_at_call 82; refine (isWordByte_any _ _ hb.1 hb.2).mono ?_; rintro e w' ⟨rfl, rfl⟩) | (go_at_call 84; refine (HP1.out _).mono ?_; rintro e w' ⟨rfl, rfl⟩))
            exact bodyPost_ret (v := .tuple #[.agg #[.int .i64 4, .string ⟨(List.take 1 [c]).toArray⟩, .int .u64 0, .int .i64 0, .int .i64 0], .int .i64 1, .int .i64 0]) (by simp [results, Tryz.results49, go_sem]) rfl ⟨by rw [HF.out]; rfl, (Below.refl _ _).alloc (Nat.le_refl _) _⟩
        | cons d r =>
          have hcut2 := cut_to' (c :: d :: r) 2
          have HP2 := Lib.hid fun W => isPunct_any ((c :: d :: r).take 2) W
          have hlen2 : r.length + 2 ≤ 65536 := by simpa using hl
          have e2 : (1 < (c :: d :: r).length ∧ punct (List.take 2 (c :: d :: r)) = true) = (punct (List.take 2 (c :: d :: r)) = true) := by simp
          simp only [e2] at hF
          clear e2
          cases hp2 : punct (List.take 2 (c :: d :: r))
          · rw [hp2, if_neg (by simp)] at hF
            rw [hp2] at HP2
            cases hp : punct (List.take 1 (c :: d :: r))
            · rw [hp, if_neg (by simp)] at hF
              rw [hp] at HP1
              have HF := Lib.hid hF
              clear hF hp hp2
              go_enter Tryz.func49, Tryz.ntmps49
              go_wp2_with (first | (go_at_call 79; refine (isDigit_any _ _ hb.1 hb.2).mono ?_; rintro e w' ⟨rfl, rfl⟩) | (go_at_call 82; refine (isWordByte_any _ _ hb.1 hb.2).mono ?_; rintro e w' ⟨rfl, rfl⟩))
              refine (HP2.out _).mono ?_
              rintro e w' ⟨rfl, rfl⟩
              go_wp2_with fail
              refine (HP1.out _).mono ?_
              rintro e w' ⟨rfl, rfl⟩
              go_wp2
              exact bodyPost_ret (v := .tuple #[.agg #[.int .i64 0, .string ⟨(([] : List UInt8)).toArray⟩, .int .u64 0, .int .i64 0, .int .i64 0], .int .i64 0, .int .i64 50]) (by simp [results, Tryz.results49, go_sem]) rfl ⟨by rw [HF.out]; rfl, (Below.refl _ _).alloc (Nat.le_refl _) _⟩
            · rw [hp, if_pos rfl] at hF
              rw [hp] at HP1
              have HF := Lib.hid hF
              clear hF hp hp2
              go_enter Tryz.func49, Tryz.ntmps49
              go_wp2_with (first | (go_at_call 79; refine (isDigit_any _ _ hb.1 hb.2).mono ?_; rintro e w' ⟨rfl, rfl⟩) | (go_at_call 82; refine (isWordByte_any _ _ hb.1 hb.2).mono ?_; rintro e w' ⟨rfl, rfl⟩))
              refine (HP2.out _).mono ?_
              rintro e w' ⟨rfl, rfl⟩
              go_wp2_with fail
              refine (HP1.out _).mono ?_
              rintro e w' ⟨rfl, rfl⟩
              go_wp2
              exact bodyPost_ret (v := .tuple #[.agg #[.int .i64 4, .string ⟨(List.take 1 (c :: d :: r)).toArray⟩, .int .u64 0, .int .i64 0, .int .i64 0], .int .i64 1, .int .i64 0]) (by simp [results, Tryz.results49, go_sem]) rfl ⟨by rw [HF.out]; rfl, (Below.refl _ _).alloc (Nat.le_refl _) _⟩
          · rw [hp2, if_pos rfl] at hF
            rw [hp2] at HP2
            have HF := Lib.hid hF
            clear hF hp2
            go_enter Tryz.func49, Tryz.ntmps49
            go_wp2_with (first | (go_at_call 79; refine (isDigit_any _ _ hb.1 hb.2).mono ?_; rintro e w' ⟨rfl, rfl⟩) | (go_at_call 82; refine (isWordByte_any _ _ hb.1 hb.2).mono ?_; rintro e w' ⟨rfl, rfl⟩) | (go_at_call 84; refine (HP2.out _).mono ?_; rintro e w' ⟨rfl, rfl⟩))
            exact bodyPost_ret (v := .tuple #[.agg #[.int .i64 4, .string ⟨(List.take 2 (c :: d :: r)).toArray⟩, .int .u64 0, .int .i64 0, .int .i64 0], .int .i64 2, .int .i64 0]) (by simp [results, Tryz.results49, go_sem]) rfl ⟨by rw [HF.out]; rfl, (Below.refl _ _).alloc (Nat.le_refl _) _⟩
    · have HF : Hid (firstR (c :: r) = ⟨1, (c :: r).take (run isWB (c :: r)), 0, run isWB (c :: r), 0⟩) := by
        unfold Hid firstR first isDig isWB
        simp [hd, hw, ofAct]
      have hcut := cut_to' (c :: r) (run isWB (c :: r))
      generalize hn : run isWB (c :: r) = n at *
      clear hn
      go_enter Tryz.func49, Tryz.ntmps49
      go_wp2_with (first | (go_at_call 79; refine (isDigit_any _ _ hb.1 hb.2).mono ?_; rintro e w' ⟨rfl, rfl⟩) | (go_at_call 82; refine (isWordByte_any _ _ hb.1 hb.2).mono ?_; rintro e w' ⟨rfl, rfl⟩) | (go_at_call 80; refine (HR.out _).mono ?_; rintro e w' ⟨rfl, rfl⟩))
      exact bodyPost_ret (v := .tuple #[.agg #[.int .i64 1, .string ⟨(List.take n (c :: r)).toArray⟩, .int .u64 0, .int .i64 0, .int .i64 0], .int .i64 n, .int .i64 0]) (by simp [results, Tryz.results49, go_sem]) rfl ⟨by rw [HF.out]; rfl, (Below.refl _ _).alloc (Nat.le_refl _) _⟩
  · have HF : Hid (firstR (c :: r) = ⟨2, [], numV (num ((c :: r).take (run isWB (c :: r)))), run isWB (c :: r), numE (num ((c :: r).take (run isWB (c :: r))))⟩) := by
      unfold Hid firstR isDig
      simp [hd]
    have hcut := cut_to' (c :: r) (run isWB (c :: r))
    have hrp : 1 ≤ run isWB (c :: r) := by rw [run_cons_pos (by simp [isWB, wbI, hd])]; omega
    have HN : Hid (∀ W, Glob W → _) := Lib.hid fun W hW => number_any ((c :: r).take (run isWB (c :: r))) W (by
      intro h
      have := congrArg List.length h
      simp at this; omega) (by simp; omega) hW
    generalize hn : run isWB (c :: r) = n at *
    have hG2 : Glob (w.alloc (Obj.cells #[Value.int IntKind.i64 0, Value.string ⟨#[]⟩, Value.int IntKind.u64 0, Value.int IntKind.i64 0, Value.int IntKind.i64 0] 52)) := hG.next ((Below.refl _ _).alloc (Nat.le_refl _) _)
    have HG := Lib.hid hG2
    clear hn hG hG2
    generalize num (List.take n (c :: r)) = m at *
    go_enter Tryz.func49, Tryz.ntmps49
    go_wp2_with (first | (go_at_call 79; refine (isDigit_any _ _ hb.1 hb.2).mono ?_; rintro e w' ⟨rfl, rfl⟩) | (go_at_call 80; refine (HR.out _).mono ?_; rintro e w' ⟨rfl, rfl⟩))
    refine (HN.out _ HG.out).mono ?_
    rintro e w1 ⟨rfl, hb1⟩
    obtain ⟨hc1, hf1⟩ := bcell hb1
    have HB := Lib.hid hb1
    have hz1 : w.heap.size + 1 ≤ w1.heap.size := by have := hb1.size; simpa using this
    clear hb1
    go_wp2
    exact bodyPost_ret (v := .tuple #[.agg #[.int .i64 2, .string ⟨#[]⟩, .int .u64 (numV m), .int .i64 0, .int .i64 0], .int .i64 n, .int .i64 (numE m)]) (by simp [results, Tryz.results49, go_sem, hc1]) rfl ⟨by rw [HF.out]; rfl, ((((((((Below.refl _ _).alloc (Nat.le_refl _) _).trans (HB.out.mono (by simp))).setCell (Nat.le_refl _) _).setCell (Nat.le_refl _) _).setCell (Nat.le_refl _) _).setCell (Nat.le_refl _) _).setCell (Nat.le_refl _) _)⟩
end Go.Proofs.YtmodjokoggmnaaaGreatDoor


namespace Go.Proofs.YtmodjokoggmnaaaGreatDoor

theorem wb_nl (c : UInt8) (h : isWB c = true) : c ≠ 10 := by rintro rfl; revert h; decide
theorem str_nl (c : UInt8) (h : isStr c = true) : c ≠ 10 := by rintro rfl; revert h; decide
theorem punct_nl (l : List UInt8) (h : punct l = true) : ∀ c ∈ l, c ≠ 10 := by
  unfold punct at h
  rw [Bool.or_eq_true] at h
  rcases h with h | h
  · simp [marks2] at h
    rcases h with h | h | h | h | h <;> subst h <;> decide
  · split at h
    · rename_i c
      intro d hd
      rw [List.mem_singleton] at hd
      subst hd
      rintro rfl
      revert h; decide
    · simp at h
theorem adv_plain (l : List UInt8) (h : ∀ c ∈ l, c ≠ 10) : ∀ p : Nat × Nat, adv p l = (p.1, p.2 + l.length) := by
  induction l with
  | nil => intro p; rfl
  | cons c r ih =>
    intro p
    have hc : c ≠ 10 := h c List.mem_cons_self
    show adv (adv1 p c) r = _
    rw [ih (fun d hd => h d (List.mem_cons_of_mem _ hd))]
    simp [adv1, hc]; omega
theorem quoted_tok {r : List UInt8} {k v n : Nat} {t : List UInt8} (h : quoted r = .tok k t v n) : k = 3 ∧ v = 0 ∧ n = run isStr r + 2 ∧ t = r.take (run isStr r) ∧ ∃ s, r.drop (run isStr r) = 34 :: s := by
  unfold quoted at h
  split at h
  · rename_i s hs
    injection h with h1 h2 h3 h4
    exact ⟨h1.symm, h3.symm, h4.symm, h2.symm, s, hs⟩
  · cases h
theorem marked_tok {l : List UInt8} {k v n : Nat} {t : List UInt8} (h : marked l = .tok k t v n) : k = 4 ∧ v = 0 ∧ t = l.take n ∧ punct t = true ∧ ((n = 2 ∧ 1 < l.length) ∨ n = 1) := by
  unfold marked at h
  split at h
  · rename_i h2
    injection h with h1 h2' h3 h4
    subst h1 h2' h3 h4
    exact ⟨rfl, rfl, rfl, h2.2, .inl ⟨rfl, h2.1⟩⟩
  · split at h
    · rename_i h2
      injection h with h1 h2' h3 h4
      subst h1 h2' h3 h4
      exact ⟨rfl, rfl, rfl, h2, .inr rfl⟩
    · cases h
/-- A token has a byte at least, lies in the text and holds no newline. -/
theorem first_len {l : List UInt8} {k v n : Nat} {t : List UInt8} (h : first l = .tok k t v n) : 1 ≤ n ∧ n ≤ l.length ∧ ∀ c ∈ l.take n, c ≠ 10 := by
  unfold first at h
  split at h
  · cases h
  · rename_i c r
    split at h
    · rename_i hd
      have hw : isWB c = true := by simp [isWB, wbI]; exact .inr hd
      split at h
      · cases h
      · cases h
      · injection h with h1 h2 h3 h4
        subst h4
        refine ⟨?_, run_le, fun c hc => wb_nl c (run_all c hc)⟩
        rw [run_cons_pos hw]; omega
    · split at h
      · rename_i hw
        injection h with h1 h2 h3 h4
        subst h4
        refine ⟨?_, run_le, fun c hc => wb_nl c (run_all c hc)⟩
        rw [run_cons_pos hw]; omega
      · split at h
        · rename_i hq
          obtain ⟨_, _, rfl, rfl, s, hs⟩ := quoted_tok h
          have hl : run isStr r < r.length := by
            apply Nat.lt_of_not_le; intro hle
            rw [List.drop_of_length_le hle] at hs; cases hs
          refine ⟨by omega, by simp; omega, ?_⟩
          intro d hd
          rw [List.take_succ_cons, List.mem_cons] at hd
          rcases hd with rfl | hd
          · rw [hq]; decide
          · rw [List.take_succ_eq_append_getElem hl, List.mem_append] at hd
            rcases hd with hd | hd
            · exact str_nl d (run_all d hd)
            · rw [List.mem_singleton] at hd
              rw [List.drop_eq_getElem_cons hl] at hs
              rw [hd, (List.cons.inj hs).1]; decide
        · obtain ⟨_, _, rfl, hp, hn⟩ := marked_tok h
          refine ⟨by omega, by rcases hn with ⟨rfl, h1⟩ | rfl <;> simp at * <;> omega, punct_nl _ hp⟩
theorem first_noskip {l : List UInt8} {n : Nat} : first l ≠ .skip n := by
  unfold first
  split
  · simp
  · split
    · split <;> simp
    · split
      · simp
      · split
        · unfold quoted; split <;> simp
        · unfold marked; split
          · simp
          · split <;> simp

theorem first_noerr0 (l : List UInt8) : first l ≠ .err 0 := by
  unfold first
  split
  · simp
  · split
    · split <;> simp
    · split
      · simp
      · split
        · unfold quoted; split <;> simp
        · unfold marked; split
          · simp
          · split <;> simp

def Res.app (ts : List Tok) : Res → Res
  | .ok us => .ok (ts ++ us)
  | r => r
theorem app_cons (ts : List Tok) (t : Tok) (r : Res) : (r.cons t).app ts = r.app (ts ++ [t]) := by cases r <;> simp [Res.cons, Res.app]
theorem app_nil (r : Res) : r.app [] = r := by cases r <;> rfl

section

variable {l : List UInt8} {k : Nat}

theorem drop_cons (h : k < l.length) : l.drop k = l[k] :: l.drop (k + 1) := List.drop_eq_getElem_cons h
theorem drop_ne (h : k < l.length) : l.drop k ≠ [] := by rw [drop_cons h]; exact List.cons_ne_nil _ _
theorem adv_next (p : Nat × Nat) (n : Nat) : adv p (l.take (k + n)) = adv (adv p (l.take k)) ((l.drop k).take n) := by
  rw [← adv_append]; congr 1
  rw [← List.take_append_drop k (l.take (k + n))]
  rw [List.take_take, show min k (k + n) = k by omega, List.drop_take, show k + n - k = n by omega]
/-- One round over white space or a comment. -/
theorem lex_skipped (p : Nat × Nat) (n : Nat) (hk : k < l.length) (hn : 1 ≤ n) (h : step (l.drop k) = .skip n) : lex 0 p (l.drop k) = lex 0 (adv p ((l.drop k).take n)) (l.drop (k + n)) := by
  rw [lex_go p (drop_ne hk), h]
  simp only []
  rw [show n - 1 + 1 = n by omega, List.drop_drop]
theorem lex_token (p : Nat × Nat) (kd : Nat) (tx : List UInt8) (v n : Nat) (hk : k < l.length) (hn : 1 ≤ n) (h : step (l.drop k) = .tok kd tx v n) :
    lex 0 p (l.drop k) = (lex 0 (adv p ((l.drop k).take n)) (l.drop (k + n))).cons ⟨kd, tx, v, p.1, p.2⟩ := by
  rw [lex_go p (drop_ne hk), h]
  simp only []
  rw [show n - 1 + 1 = n by omega, List.drop_drop]
theorem lex_error (p : Nat × Nat) (e : Nat) (hk : k < l.length) (h : step (l.drop k) = .err e) : lex 0 p (l.drop k) = .no p.1 p.2 e := by
  rw [lex_go p (drop_ne hk), h]
theorem step_sp (hk : k < l.length) (h : isSp l[k] = true) : step (l.drop k) = .skip 1 := by
  rw [drop_cons hk]; simp [step, h]
theorem step_comment (hk : k < l.length) (h : l[k] = 35) : step (l.drop k) = .skip (run notNl (l.drop k)) := by
  rw [drop_cons hk, h]; rfl
theorem step_first (hk : k < l.length) (h : isSp l[k] = false) (h2 : l[k] ≠ 35) : step (l.drop k) = first (l.drop k) := by
  rw [drop_cons hk]; simp [step, h, h2]
end

end Go.Proofs.YtmodjokoggmnaaaGreatDoor
