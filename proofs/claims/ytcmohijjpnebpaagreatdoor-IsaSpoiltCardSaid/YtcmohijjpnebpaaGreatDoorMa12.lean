/-
  The builtin append of make([]byte, n)... onto a slice of bytes of the call's own: n zeros behind it.
  Conditions: at most 2^40 bytes together.
  Contracts of hwlex.isWord, hwlex.IsName, and of the reference's hex, Word and IsName.
  Conditions: a text's length is at most maxLen.
  Names, as RefA has them.
  Conditions: none.
-/
import Derived.Test.YtcmohijjpnebpaaGreatDoorMa11
import Derived.Test.YtcmohijjpnebpaaGreatDoorMa4
namespace Go.Proofs.YtcmohijjpnebpaaGreatDoor

open Go.RowKit

def zerosL (n : Nat) : List UInt8 := List.replicate n 0
theorem length_zeros (n : Nat) : (zerosL n).length = n := List.length_replicate
theorem zero_cells (n : Nat) : Builtin.zeroCells #[Value.int .u8 0] n = (vals (zerosL n)).toArray := by
  apply Array.ext
  · simp [Builtin.zeroCells, vals, zerosL]
  · intro i h1 h2
    simp [Builtin.zeroCells, vals, zerosL, Nat.mod_one]
theorem zero_cells2 (n : Nat) : Builtin.zeroCells (Value.int .u8 0).cells n = (vals (zerosL n)).toArray := zero_cells n
theorem und_int : Tryz.prog.underlying 3 = some (.int .i64) := by kernel_rfl
/-- The builtin append of n zeros. -/
theorem Own.zeros {W w0 : World} {base : Nat} {v : Value} {l : List UInt8} (h : Own W base v l) (n : Nat) (hb : Below base w0 W) (hbase : base ≤ W.heap.size) (hl : l.length + n ≤ 1099511627776) :
    ∃ v' w', (Builtin.append_ #[23, 3] 23 #[v, .int .i64 (n : Int)]).run Tryz.prog W = .ok v' w' ∧ Own w' base v' (l ++ zerosL n) ∧ Below base w0 w' ∧ W.heap.size ≤ w'.heap.size := by
  obtain ⟨i, hi, hz0, hz1, hz2⟩ := info_parts byte_info
  have ht := Tryz.underlying23
  have hlen : (vals (l ++ zerosL n)).length = (l ++ zerosL n).length * 1 := by rw [length_vals, Nat.mul_one]
  have hlz := length_zeros n
  have hw : IntKind.i64.wrap (n : Int) = n := by rw [IntKind.wrap_i64]; omega
  have hneg : ¬ ((n : Int) < 0) := by omega
  have h48 : ¬ (281474976710656 < (n : Int)) := by omega
  have e1 : (l ++ zerosL n).length = l.length + n := by rw [List.length_append, hlz]
  have grown : ∀ (old : Nat), (W.drew.alloc (.cells ((vals l).toArray ++ (vals (zerosL n)).toArray ++ Builtin.zeroCells #[Value.int .u8 0] (grownCap W (l.length + n) old 5 - (l.length + n))) 5)).ownsRow base 5 1
        (.slice (some ⟨W.heap.size, 0, none⟩) (l.length + n) (grownCap W (l.length + n) old 5)) (l ++ zerosL n).length (vals (l ++ zerosL n)) := by
    intro old
    have hge := grownCap_ge W (l.length + n) old 5
    have hcm : grownCap W (l.length + n) old 5 ≤ maxLen := grownCap_le_maxLen W (l.length + n) old 5 (by unfold maxLen; omega)
    rw [e1]
    refine ⟨by rw [length_vals, e1, Nat.mul_one], .inr ⟨W.heap.size, _, _, rfl, hbase, heap_alloc_new W.drew _, hge, hcm, ?_, ?_⟩⟩
    · simp only [Array.size_append, List.size_toArray, size_zeroCells, length_vals, hlz]
      simp
      omega
    · simp only [Array.toList_append]
      rw [← vals_append, Nat.mul_one, ← e1, ← length_vals]
      exact List.take_left
  have hgr : ∀ (o : Obj) (row : Option Nat), W.grownBy (W.drew.alloc o) row := fun o row => ⟨rfl, rfl, rfl, by simp, fun k hk _ => Below.heap_alloc _ _ _ hk⟩
  have hend : ∀ o : Obj, Below base w0 (W.drew.alloc o) := fun o => hb.drew.alloc hbase o
  rcases h.2 with ⟨rfl, h0⟩ | ⟨g, cap, cur, rfl, hbg, hg, hnc, hcm, hcs, htake⟩
  · have hl0 : l = [] := List.eq_nil_of_length_eq_zero h0
    subst hl0
    by_cases hn : n = 0
    · subst hn
      have hw0 : IntKind.i64.wrap 0 = 0 := by decide
      refine ⟨.slice none 0 0, W, ?_, Own.nil W base, hb, Nat.le_refl _⟩
      simp [Builtin.append_, run_underlying ht, run_underlying und_int, sizeOf, typeInfo, hi, asInt, asIntOf, hw0]
    · have hr := grown 0
      have h63' : ¬ (9223372036854775807 < (n : Int)) := by omega
      have h48' : ¬ (281474976710656 < Builtin.nextslicecap n 0) := by rw [nextslicecap_zero (by omega)]; omega
      refine ⟨_, _, ?_, hr, hend _, by simp⟩
      simp [Builtin.append_, run_underlying ht, run_underlying und_int, sizeOf, typeInfo, zeroValue, hi, hz0, hz1, hz2, asInt, asIntOf, hw, hneg, hn, h63', h48', h48, Question.forced, run_firstCells_none, newRow, grownCap, zero_cells, zero_cells2, show vals [] = [] from rfl]
  · by_cases hroom : l.length + n ≤ cap
    · have hvl : (vals (zerosL n)).length = n := by rw [length_vals, hlz]
      have hst := run_storeCells_at Tryz.prog g (l.length * 1) 5 (vals (zerosL n)) 0 cur W hg (by rw [hvl, hcs]; omega) (vals_one _)
      simp only [Nat.add_zero, Nat.mul_one] at hst
      have hown : (W.setRow g (cur.toList.take l.length ++ vals (zerosL n) ++ cur.toList.drop (l.length + (vals (zerosL n)).length)).toArray).ownsRow base 5 1 (.slice (some ⟨g, 0, none⟩) (l.length + n) cap) (l ++ zerosL n).length (vals (l ++ zerosL n)) := by
        rw [e1]
        refine ⟨by rw [length_vals, e1, Nat.mul_one], .inr ⟨g, cap, _, rfl, hbg, setRow_heap W g cur _ _ _ hg, hroom, hcm, ?_, ?_⟩⟩
        · simp only [List.size_toArray, List.length_append, List.length_take, List.length_drop, Array.length_toList, hvl]
          omega
        · rw [Nat.mul_one] at htake
          rw [htake, ← vals_append, Nat.mul_one, ← e1, ← length_vals]
          exact List.take_left
      refine ⟨_, _, ?_, hown, hb.trans ⟨rfl, rfl, rfl, by simp, fun k hk => setRow_other W g k _ (by omega)⟩, by simp⟩
      by_cases hn : n = 0
      · subst hn
        have hw0 : IntKind.i64.wrap 0 = 0 := by decide
        simp [Builtin.append_, run_underlying ht, run_underlying und_int, sizeOf, typeInfo, hi, asInt, asIntOf, hw0, hnc, storeCells]
        rw [show vals (zerosL 0) = [] from rfl]
        simp [setRow_self W g cur _ _ hg]
      · simp [Builtin.append_, run_underlying ht, run_underlying und_int, sizeOf, typeInfo, zeroValue, hi, hz0, hz1, hz2, asInt, asIntOf, hw, hneg, hn, h48, hroom, zero_cells2, Addr.add_lit, hst]
    · have hnn : ¬ (l.length + n ≤ cap) := hroom
      have hr := grown cap
      have hn : n ≠ 0 := by omega
      have h63' : ¬ (9223372036854775807 < ((l.length : Int) + (n : Int))) := by omega
      have hfits : Builtin.nextslicecap (l.length + n) cap * 1 ≤ 281474976710656 := growslice_fits (by omega) (by omega)
      have h48' : ¬ (281474976710656 < Builtin.nextslicecap (l.length + n) cap) := by omega
      have hfo := run_firstCells_some (P := Tryz.prog) W.drew 1 l.length ⟨g, 0, none⟩ l.length cap (vals l) (by rw [length_vals, Nat.mul_one]) (by simpa using World.ownsRow.cells (g := g) h rfl)
      refine ⟨_, _, ?_, hr, hend _, by simp⟩
      simp [Builtin.append_, run_underlying ht, run_underlying und_int, sizeOf, typeInfo, zeroValue, hi, hz0, hz1, hz2, asInt, asIntOf, hw, hneg, hn, hnn, h63', h48', h48, Question.forced, hfo, newRow, grownCap, zero_cells, zero_cells2]
end Go.Proofs.YtcmohijjpnebpaaGreatDoor


namespace Go.Proofs.YtcmohijjpnebpaaGreatDoor

open Go.RowKit Go.Shelf

def wordB (l : List UInt8) : Bool := match l with | [] => false | c :: r => isLet c && r.all isWB
def nameB (l : List UInt8) : Bool := decide (l.length ≤ 24) && wordB l
theorem let_dig (c : UInt8) (h : isDig c = true) : isLet c = false := by
  simp [isDig, digI] at h
  simp [isLet, ltrI]; omega
theorem wb_eq (c : UInt8) : isWB c = (isLet c || isDig c) := rfl
theorem run_all_iff (p : UInt8 → Bool) (l : List UInt8) : (run p l = l.length) ↔ l.all p = true := by
  induction l with
  | nil => simp [run]
  | cons c r ih =>
    cases hc : p c with
    | true => rw [run_cons_pos hc]; simp [hc, ← ih]
    | false => rw [run_cons_neg hc]; simp [hc]
theorem wordB_eq (c : UInt8) (r : List UInt8) : wordB (c :: r) = (!digI (c.toNat : Int) && decide (run isWB (c :: r) = (c :: r).length)) := by
  rw [Bool.eq_iff_iff]
  have hd : digI (c.toNat : Int) = isDig c := rfl
  rw [hd]
  simp only [wordB, Bool.and_eq_true, Bool.not_eq_true', decide_eq_true_eq, run_all_iff, List.all_cons, wb_eq c, Bool.or_eq_true]
  constructor
  · rintro ⟨h1, h2⟩
    refine ⟨?_, .inl h1, h2⟩
    cases hd : isDig c with
    | false => rfl
    | true => rw [let_dig c hd] at h1; cases h1
  · rintro ⟨h1, h2 | h2, h3⟩
    · exact ⟨h2, h3⟩
    · rw [h1] at h2; cases h2

theorem isWord_any (l : List UInt8) (w : World) (hl : l.length ≤ maxLen) : Calls Tryz.prog 54 #[.string ⟨l.toArray⟩] w fun e w' => e = .returned (.bool (wordB l)) ∧ w = w' := by
  cases l with
  | nil =>
    go_enter Tryz.func54, Tryz.ntmps54
    go_wp2
    go_ret
    exact ⟨rfl, rfl⟩
  | cons c r =>
    have HR := Lib.hid (runLen_any (c :: r) w hl)
    have hW := wordB_eq c r
    have hb := byte_bd c
    have hsz : 0 < (⟨(c :: r).toArray⟩ : ByteArray).size := by rw [ba_size]; simp
    have hx : (⟨(c :: r).toArray⟩ : ByteArray)[0]'hsz = c := rfl
    have hrl := @run_le isWB (c :: r)
    have hml : r.length + 1 ≤ 9223372036854775807 := by unfold maxLen at hl; simpa using hl
    generalize hn : run isWB (c :: r) = n at *
    cases hd : digI (c.toNat : Int)
    · by_cases he : n = (c :: r).length
      · have hnb : ((n : Int) == ((r.length : Int) + 1)) = true := by rw [he]; simp
        have HW : Hid (wordB (c :: r) = true) := Lib.hid (by rw [hW, hd]; simp [he])
        clear hW he hn
        go_enter Tryz.func54, Tryz.ntmps54
        go_wp2_with (first | (go_at_call 80; refine (isDigit_any _ _ hb.1 hb.2).mono ?_; rintro e w' ⟨rfl, rfl⟩) | (go_at_call 81; refine HR.out.mono ?_; rintro e w' ⟨rfl, rfl⟩))
        go_ret
        exact ⟨ret_bool HW.out.symm, rfl⟩
      · have hnb : ((n : Int) == ((r.length : Int) + 1)) = false := by simp at he ⊢; omega
        have HW : Hid (wordB (c :: r) = false) := Lib.hid (by rw [hW, hd]; simpa using he)
        clear hW he hn
        go_enter Tryz.func54, Tryz.ntmps54
        go_wp2_with (first | (go_at_call 80; refine (isDigit_any _ _ hb.1 hb.2).mono ?_; rintro e w' ⟨rfl, rfl⟩) | (go_at_call 81; refine HR.out.mono ?_; rintro e w' ⟨rfl, rfl⟩))
        go_ret
        exact ⟨ret_bool HW.out.symm, rfl⟩
    · have HW : Hid (wordB (c :: r) = false) := Lib.hid (by rw [hW, hd]; rfl)
      clear hW hn
      go_enter Tryz.func54, Tryz.ntmps54
      go_wp2_with (first | (go_at_call 80; refine (isDigit_any _ _ hb.1 hb.2).mono ?_; rintro e w' ⟨rfl, rfl⟩) | (go_at_call 81; refine HR.out.mono ?_; rintro e w' ⟨rfl, rfl⟩))
      go_ret
      exact ⟨ret_bool HW.out.symm, rfl⟩
theorem isName_any (l : List UInt8) (w : World) (hl : l.length ≤ maxLen) : Calls Tryz.prog 23 #[.string ⟨l.toArray⟩] w fun e w' => e = .returned (.bool (nameB l)) ∧ w = w' := by
  have H := Lib.hid (isWord_any l w hl)
  unfold maxLen at hl
  by_cases h : l.length ≤ 24
  · have HE : Hid (nameB l = wordB l) := Lib.hid (by simp [nameB, h])
    generalize wordB l = b at *
    go_enter Tryz.func23, Tryz.ntmps23
    go_wp2_with (go_at_call 54; refine H.out.mono ?_; rintro e w' ⟨rfl, rfl⟩)
    go_ret
    exact ⟨ret_bool HE.out.symm, rfl⟩
  · have HE : Hid (nameB l = false) := Lib.hid (by simp [nameB, h])
    go_enter Tryz.func23, Tryz.ntmps23
    go_wp2
    go_ret
    exact ⟨ret_bool HE.out.symm, rfl⟩

/-- The reference's hex. -/
def hxI (n : Int) : Int := if 48 ≤ n ∧ n ≤ 57 then n - 48 else if 97 ≤ n ∧ n ≤ 102 then n - 97 + 10 else if 65 ≤ n ∧ n ≤ 70 then n - 65 + 10 else -1
theorem rhex_any (n : Int) (w : World) (h0 : 0 ≤ n) (h1 : n ≤ 255) : Calls Tryz.prog 129 #[.int .u8 n] w fun e w' => e = .returned (.int .i64 (hxI n)) ∧ w = w' := by
  by_cases hd : 48 ≤ n ∧ n ≤ 57
  · have hg : digI n = true := by simp [digI, hd]
    have HE : Hid (hxI n = n - 48) := Lib.hid (by simp [hxI, hd])
    obtain ⟨d0, d1⟩ := hd
    go_enter Tryz.func129, Tryz.ntmps129
    go_wp2_with (go_at_call 103; refine (rDigit_any _ _ h0 h1).mono ?_; rintro e w' ⟨rfl, rfl⟩)
    go_ret
    exact ⟨ret_int HE.out.symm, rfl⟩
  · have hg : digI n = false := by simpa [digI] using hd
    by_cases ha : 97 ≤ n ∧ n ≤ 102
    · have HE : Hid (hxI n = n - 97 + 10) := Lib.hid (by unfold hxI; rw [if_neg hd, if_pos ha])
      obtain ⟨d0, d1⟩ := ha
      clear hd
      go_enter Tryz.func129, Tryz.ntmps129
      go_wp2_with (go_at_call 103; refine (rDigit_any _ _ h0 h1).mono ?_; rintro e w' ⟨rfl, rfl⟩)
      go_ret
      exact ⟨ret_int HE.out.symm, rfl⟩
    · by_cases hA : 65 ≤ n ∧ n ≤ 70
      · have HE : Hid (hxI n = n - 65 + 10) := Lib.hid (by unfold hxI; rw [if_neg hd, if_neg ha, if_pos hA])
        obtain ⟨d0, d1⟩ := hA
        clear hd ha
        go_enter Tryz.func129, Tryz.ntmps129
        go_wp2_with (go_at_call 103; refine (rDigit_any _ _ h0 h1).mono ?_; rintro e w' ⟨rfl, rfl⟩)
        go_ret
        exact ⟨ret_int HE.out.symm, rfl⟩
      · have HE : Hid (hxI n = -1) := Lib.hid (by unfold hxI; rw [if_neg hd, if_neg ha, if_neg hA])
        have ha' : 97 ≤ n → 102 < n := fun h => by omega
        have hA' : 65 ≤ n → 70 < n := fun h => by omega
        clear hd ha hA
        go_enter Tryz.func129, Tryz.ntmps129
        go_wp2_with (go_at_call 103; refine (rDigit_any _ _ h0 h1).mono ?_; rintro e w' ⟨rfl, rfl⟩)
        all_goals first | (exfalso; omega) | (go_ret; exact ⟨ret_int HE.out.symm, rfl⟩)

end Go.Proofs.YtcmohijjpnebpaaGreatDoor


namespace Go.Proofs.YtcmohijjpnebpaaGreatDoor

end Go.Proofs.YtcmohijjpnebpaaGreatDoor
