/-
  append of a slice of tokens onto one that the call owns.
  Conditions: none beyond what each theorem says.
  Numerals with a suffix: what scanning them comes to.
  Conditions: the number is less than 2^64.
  Contracts of hwlex.isWord, hwlex.IsName, and of the reference's hex, Word and IsName.
  Conditions: a text's length is at most maxLen.
-/
import Derived.Test.YtmodjokoggmnaaaGreatDoorMa9
import Derived.Maps.AppendAt
import Derived.Test.YtmodjokoggmnaaaGreatDoorMa6
import Derived.Test.YtmodjokoggmnaaaGreatDoorMa4
namespace Go.Proofs.YtmodjokoggmnaaaGreatDoor

open Go.RowKit Go.Shelf

theorem tcells_get2 (ts : List GTok) (j : Nat) (u : Value) (h : (tcells ts)[j]? = some u) : ∃ (i k : Nat) (hi : i < ts.length), j = i * 5 + k ∧ k < 5 ∧ (ts[i]).cells[k]? = some u := by
  have hj : j < (tcells ts).length := by
    rcases Nat.lt_or_ge j (tcells ts).length with h1 | h1
    · exact h1
    · rw [List.getElem?_eq_none h1] at h; cases h
  rw [tcells_len] at hj
  have hi : j / 5 < ts.length := by omega
  refine ⟨j / 5, j % 5, hi, by omega, by omega, ?_⟩
  rw [← tcells_get ts (j / 5) (j % 5) hi (by omega), show j / 5 * 5 + j % 5 = j by omega]; exact h
theorem tcells_one (ts : List GTok) : ∀ u ∈ tcells ts, u.oneCell' = true := by
  intro u hu
  obtain ⟨t, _, h⟩ := List.mem_flatMap.1 hu
  exact cells_one t u h
set_option maxRecDepth 20000 in
/-- append(v, xs...) onto a slice of the call's own. -/
theorem OwnT.app {W : World} {base : Nat} {v : Value} {ts : List GTok} (h : OwnT W base v ts) {B : Nat} {A : Option Addr} (c : Nat) {xs : List GTok} (hs : TRow W B A xs) (hbase : base ≤ W.heap.size) (hl : ts.length + xs.length ≤ 1000000) :
    ∃ v' w', (Builtin.append_ #[46, 46] 46 #[v, .slice A xs.length c]).run Tryz.prog W = .ok v' w' ∧ OwnT w' base v' (ts ++ xs) ∧ W.grownBy w' v.ownBlock := by
  obtain ⟨i0, hi0, hz0, hz1, hz2⟩ := info_parts tok_info
  rcases A with _ | ad
  · have h0 : xs = [] := by
      cases xs with
      | nil => rfl
      | cons x r => obtain ⟨b, off, hA, _⟩ := hs (by simp); cases hA
    subst h0
    refine ⟨v, W, ?_, by rw [List.append_nil]; exact h, World.grownBy.refl _ _⟩
    rcases h.2 with ⟨rfl, _⟩ | ⟨g, cap, cur, rfl, _, _, hnc, _⟩
    · simp [Builtin.append_, run_underlying Tryz.underlying46, sizeOf, typeInfo, hi0, Builtin.lenOf, Builtin.firstCells]
    · simp [Builtin.append_, run_underlying Tryz.underlying46, sizeOf, typeInfo, hi0, Builtin.lenOf, Builtin.firstCells, hnc, storeCells]
  · obtain ⟨v', w', hrun, hown, hg, _, _⟩ := run_append_own_at (P := Tryz.prog) W base 46 46 52 i0 _ 5 48 Tryz.underlying46 hi0 hz0 hz1 hz2 rfl (by omega) v ts.length (tcells ts) h ad xs.length c (tcells xs)
      (tcells_len xs)
      (fun j u hu => by
        obtain ⟨i, k, hi, rfl, hk, hu'⟩ := tcells_get2 xs j u hu
        obtain ⟨b, off, hA, _, hc⟩ := hs (by omega)
        injection hA with hA
        subst hA
        have e : (⟨b, off, none⟩ : Addr).add (i * 5 + k) = ⟨b, off + (i * 5 + k), none⟩ := by unfold Addr.add; split <;> simp_all
        rw [e]; exact hc i hi k u hu')
      (tcells_one xs) (by unfold maxLen; omega) (by omega) hbase
    refine ⟨v', w', hrun, ?_, hg⟩
    unfold OwnT
    rw [List.length_append, tcells_append]; exact hown
/-- An append whose run is known, asx a step of the walk. -/
theorem wpList_tapp_run {ops : Array Oper} {rest : List Oper} {o : Oper} {a : Act} {Q : Exit → Act → World → Prop} {v y v' : Value} {W w' : World}
    (hrun : (Builtin.append_ #[46, 46] 46 #[v, y]).run Tryz.prog W = .ok v' w') (hgd : o.guard = none) {s x : Operand}
    (ho : o.op = .call { callee := .builtin .append, args := #[s, x], argTypes := #[46, 46] }) (hty : o.type = 46) (hs : a.eval s = v) (hx : a.eval x = y)
    (h : wpList Tryz.prog ops Q rest (a.put o.dst v') w') : wpList Tryz.prog ops Q (o :: rest) a W := by
  refine wpList_plain hgd fun K hK => ?_
  unfold Oper.wp execOp
  simp only [ho, hty, resolve, invoke, builtin, Sem.run_bind, Sem.run_pure, Result.andThen_ok, List.map_toArray, List.map_cons, List.map_nil, hs, hx, hrun]
  exact hK _ _ h
end Go.Proofs.YtmodjokoggmnaaaGreatDoor


namespace Go.Proofs.YtmodjokoggmnaaaGreatDoor

open Go.RowKit Go.Shelf

/-- The byte of a hexadecimal digit, asx the law writes it. -/
def hch (k : Nat) : UInt8 := if k < 10 then (48 + k).toUInt8 else if k < 13 then (87 + k).toUInt8 else (55 + k).toUInt8
theorem hch_all : ∀ k : Fin 16, (okDig 16 (hch k.val) = true) ∧ dval (hch k.val) = k.val := by decide
def hexF : Nat → Nat → List UInt8
  | 0, _ => []
  | f + 1, x => if x < 16 then [hch x] else hexF f (x / 16) ++ [hch (x % 16)]
def hexL (x : Nat) : List UInt8 := hexF (x + 1) x
theorem hexF_fuel : ∀ (f x : Nat), x < f → ∀ g, f ≤ g → hexF g x = hexF f x := by
  intro f
  induction f with
  | zero => intro x h; omega
  | succ f ih =>
    intro x h g hg
    obtain ⟨g, rfl⟩ : ∃ j, g = j + 1 := ⟨g - 1, by omega⟩
    simp only [hexF]
    by_cases hx : x < 16
    · rw [if_pos hx, if_pos hx]
    · rw [if_neg hx, if_neg hx, ih (x / 16) (by omega) g (by omega)]
theorem hexL_lt {x : Nat} (h : x < 16) : hexL x = [hch x] := by simp [hexL, hexF, h]
theorem hexL_ge {x : Nat} (h : ¬ x < 16) : hexL x = hexL (x / 16) ++ [hch (x % 16)] := by
  unfold hexL
  rw [hexF, if_neg h, hexF_fuel (x / 16 + 1) (x / 16) (by omega) x (by omega)]
theorem hexL_is : ∀ (n x : Nat), x < 16 ^ (n + 1) → (hexL x ≠ [] ∧ (hexL x).all (okDig 16) = true ∧ value 16 (hexL x) = x ∧ (hexL x).length ≤ n + 1) := by
  intro n
  induction n with
  | zero =>
    intro x hx
    have h : x < 16 := by simpa using hx
    have hc := hch_all ⟨x, h⟩
    rw [hexL_lt h]
    exact ⟨by simp, by simpa using hc.1, by simpa [value] using hc.2, by simp⟩
  | succ n ih =>
    intro x hx
    by_cases h : x < 16
    · have hc := hch_all ⟨x, h⟩
      rw [hexL_lt h]
      exact ⟨by simp, by simpa using hc.1, by simpa [value] using hc.2, by simp⟩
    · rw [hexL_ge h]
      obtain ⟨h1, h2, h3, h4⟩ := ih (x / 16) (by rw [Nat.pow_succ] at hx; omega)
      have hc := hch_all ⟨x % 16, Nat.mod_lt _ (by omega)⟩
      exact ⟨by simp, by rw [List.all_append, h2]; simpa using hc.1, by rw [value_snoc, h3]; have := hc.2; simp only at this; rw [this]; omega, by simp; omega⟩
theorem isHexL (x : Nat) (h : x < 18446744073709551616) : hexL x ≠ [] ∧ (hexL x).all (okDig 16) = true ∧ value 16 (hexL x) = x ∧ (hexL x).length ≤ 16 := by
  have := hexL_is 15 x (by omega)
  simpa using this
def suf (k : Nat) : List UInt8 := if k = 1 then [75] else if k = 2 then [77] else if k = 3 then [71] else []
theorem shift_hex (c : UInt8) (h : okDig 16 c = true) : shiftOf c = 0 := by
  have h1 : c.toNat ≠ 75 ∧ c.toNat ≠ 77 ∧ c.toNat ≠ 71 := by
    simp [okDig, isHex, digI, hexI] at h; omega
  unfold shiftOf
  rw [if_neg (fun e => h1.1 (by rw [e]; rfl)), if_neg (fun e => h1.2.1 (by rw [e]; rfl)), if_neg (fun e => h1.2.2 (by rw [e]; rfl))]
theorem suffixed (s : List UInt8) (k : Nat) (hk : k < 4) (hs : s ≠ []) (hl : ∀ c ∈ s, shiftOf c = 0) : sfx (s ++ suf k) = 10 * k ∧ body (s ++ suf k) = s := by
  obtain ⟨r, c, rfl⟩ : ∃ r c, s = r ++ [c] := ⟨s.dropLast, s.getLast hs, (List.dropLast_concat_getLast hs).symm⟩
  obtain h | h | h | h : k = 0 ∨ k = 1 ∨ k = 2 ∨ k = 3 := by omega
  · subst h
    have hc := hl c (by simp)
    rw [show suf 0 = [] from rfl, List.append_nil, sfx_snoc, body_snoc, hc]; exact ⟨rfl, rfl⟩
  · subst h; rw [show suf 1 = [75] from rfl, sfx_snoc, body_snoc]; exact ⟨rfl, rfl⟩
  · subst h; rw [show suf 2 = [77] from rfl, sfx_snoc, body_snoc]; exact ⟨rfl, rfl⟩
  · subst h; rw [show suf 3 = [71] from rfl, sfx_snoc, body_snoc]; exact ⟨rfl, rfl⟩
def numRes (x sh : Nat) : Num := if x * 2 ^ sh < 18446744073709551616 then .val (x * 2 ^ sh) else .big
theorem dig_ok16 (c : UInt8) (h : isDig c = true) : okDig 16 c = true := by simp [okDig, isHex]; exact .inl h
theorem num_dec (x k : Nat) (hk : k < 4) (hx : x < 18446744073709551616) : num (decL x ++ suf k) = numRes x (10 * k) := by
  have D := isDec x hx
  obtain ⟨h1, h2⟩ := suffixed (decL x) k hk D.ne (fun c hc => shift_hex c (dig_ok16 c (List.all_eq_true.1 D.all c hc)))
  have hhx : hexed (decL x) = false := by
    have := D.all
    unfold hexed
    split
    · rename_i heq; rw [heq] at this; simp [isDig, digI] at this
    · rfl
  have hall : (decL x).all (okDig 10) = true := by
    have e : okDig 10 = isDig := by funext c; simp [okDig]
    rw [e]; exact D.all
  unfold num
  simp only [h1, h2, hhx, Bool.false_eq_true, if_false]
  split
  · rename_i heq; exact absurd heq (fun h => D.lead _ _ h)
  · unfold digits numRes
    rw [if_neg (by rintro (h | h); exact D.ne h; rw [hall] at h; cases h), D.val]
theorem num_hex (x k : Nat) (hk : k < 4) (hx : x < 18446744073709551616) : num (48 :: 120 :: hexL x ++ suf k) = numRes x (10 * k) := by
  obtain ⟨h1, h2, h3, h4⟩ := isHexL x hx
  obtain ⟨e1, e2⟩ := suffixed (48 :: 120 :: hexL x) k hk (by simp) (fun c hc => by
    rcases List.mem_cons.1 hc with rfl | hc
    · rfl
    · rcases List.mem_cons.1 hc with rfl | hc
      · rfl
      · exact shift_hex c (List.all_eq_true.1 h2 c hc))
  unfold num
  simp only [e1, e2]
  rw [if_pos (show hexed (48 :: 120 :: hexL x) = true from rfl)]
  unfold digits numRes
  rw [if_neg (by rintro (h | h); exact h1 h; rw [show List.drop 2 (48 :: 120 :: hexL x) = hexL x from rfl, h2] at h; cases h)]
  rw [show List.drop 2 (48 :: 120 :: hexL x) = hexL x from rfl, h3]
theorem run_whole (p : UInt8 → Bool) (t : List UInt8) (h : t.all p = true) : run p t = t.length := by
  induction t with
  | nil => rfl
  | cons c r ih =>
    rw [List.all_cons, Bool.and_eq_true] at h
    rw [run_cons_pos h.1, ih h.2]; rfl
theorem wb_hex (c : UInt8) (h : okDig 16 c = true) : isWB c = true := by
  simp [okDig, isHex, digI, hexI] at h
  simp [isWB, wbI, ltrI, digI]; omega
theorem suf_wb (k : Nat) : (suf k).all isWB = true := by unfold suf; (repeat' split) <;> rfl
theorem suf_len (k : Nat) : (suf k).length ≤ 1 := by unfold suf; (repeat' split) <;> simp
end Go.Proofs.YtmodjokoggmnaaaGreatDoor


namespace Go.Proofs.YtmodjokoggmnaaaGreatDoor

open Go.RowKit Go.Shelf

def wordB (l : List UInt8) : Bool := match l with | [] => false | c :: r => isLet c && r.all isWB
def nameB (l : List UInt8) : Bool := decide (l.length ≤ 24) && wordB l
theorem let_dig (c : UInt8) (h : isDig c = true) : isLet c = false := by
  simp [isDig, digI] at h
  simp [isLet, ltrI]; omega
theorem wb_eq (c : UInt8) : isWB c = (isLet c || isDig c) := rfl
theorem run_all_iff (p : UInt8 → Bool) (l : List UInt8) : (run p l = l.length) ↔ l.all p = true := by
  induction l with
  | nil => simp [run]
  | cons c r ih =>
    cases hc : p c with
    | true => rw [run_cons_pos hc]; simp [hc, ← ih]
    | false => rw [run_cons_neg hc]; simp [hc]
theorem wordB_eq (c : UInt8) (r : List UInt8) : wordB (c :: r) = (!digI (c.toNat : Int) && decide (run isWB (c :: r) = (c :: r).length)) := by
  rw [Bool.eq_iff_iff]
  have hd : digI (c.toNat : Int) = isDig c := rfl
  rw [hd]
  simp only [wordB, Bool.and_eq_true, Bool.not_eq_true', decide_eq_true_eq, run_all_iff, List.all_cons, wb_eq c, Bool.or_eq_true]
  constructor
  · rintro ⟨h1, h2⟩
    refine ⟨?_, .inl h1, h2⟩
    cases hd : isDig c with
    | false => rfl
    | true => rw [let_dig c hd] at h1; cases h1
  · rintro ⟨h1, h2 | h2, h3⟩
    · exact ⟨h2, h3⟩
    · rw [h1] at h2; cases h2

theorem isWord_any (l : List UInt8) (w : World) (hl : l.length ≤ maxLen) : Calls Tryz.prog 101 #[.string ⟨l.toArray⟩] w fun e w' => e = .returned (.bool (wordB l)) ∧ w = w' := by
  cases l with
  | nil =>
    go_enter Tryz.func101, Tryz.ntmps101
    go_wp2
    go_ret
    exact ⟨rfl, rfl⟩
  | cons c r =>
    have HR := Lib.hid (runLen_any (c :: r) w hl)
    have hW := wordB_eq c r
    have hb := byte_bd c
    have hsz : 0 < (⟨(c :: r).toArray⟩ : ByteArray).size := by rw [ba_size]; simp
    have hx : (⟨(c :: r).toArray⟩ : ByteArray)[0]'hsz = c := rfl
    have hrl := @run_le isWB (c :: r)
    have hml : r.length + 1 ≤ 9223372036854775807 := by unfold maxLen at hl; simpa using hl
    generalize hn : run isWB (c :: r) = n at *
    cases hd : digI (c.toNat : Int)
    · by_cases he : n = (c :: r).length
      · have hnb : ((n : Int) == ((r.length : Int) + 1)) = true := by rw [he]; simp
        have HW : Hid (wordB (c :: r) = true) := Lib.hid (by rw [hW, hd]; simp [he])
        clear hW he hn
        go_enter Tryz.func101, Tryz.ntmps101
        go_wp2_with (first | (go_at_call 79; refine (isDigit_any _ _ hb.1 hb.2).mono ?_; rintro e w' ⟨rfl, rfl⟩) | (go_at_call 80; refine HR.out.mono ?_; rintro e w' ⟨rfl, rfl⟩))
        go_ret
        exact ⟨ret_bool HW.out.symm, rfl⟩
      · have hnb : ((n : Int) == ((r.length : Int) + 1)) = false := by simp at he ⊢; omega
        have HW : Hid (wordB (c :: r) = false) := Lib.hid (by rw [hW, hd]; simpa using he)
        clear hW he hn
        go_enter Tryz.func101, Tryz.ntmps101
        go_wp2_with (first | (go_at_call 79; refine (isDigit_any _ _ hb.1 hb.2).mono ?_; rintro e w' ⟨rfl, rfl⟩) | (go_at_call 80; refine HR.out.mono ?_; rintro e w' ⟨rfl, rfl⟩))
        go_ret
        exact ⟨ret_bool HW.out.symm, rfl⟩
    · have HW : Hid (wordB (c :: r) = false) := Lib.hid (by rw [hW, hd]; rfl)
      clear hW hn
      go_enter Tryz.func101, Tryz.ntmps101
      go_wp2_with (first | (go_at_call 79; refine (isDigit_any _ _ hb.1 hb.2).mono ?_; rintro e w' ⟨rfl, rfl⟩) | (go_at_call 80; refine HR.out.mono ?_; rintro e w' ⟨rfl, rfl⟩))
      go_ret
      exact ⟨ret_bool HW.out.symm, rfl⟩
theorem isName_any (l : List UInt8) (w : World) (hl : l.length ≤ maxLen) : Calls Tryz.prog 63 #[.string ⟨l.toArray⟩] w fun e w' => e = .returned (.bool (nameB l)) ∧ w = w' := by
  have H := Lib.hid (isWord_any l w hl)
  unfold maxLen at hl
  by_cases h : l.length ≤ 24
  · have HE : Hid (nameB l = wordB l) := Lib.hid (by simp [nameB, h])
    generalize wordB l = b at *
    go_enter Tryz.func63, Tryz.ntmps63
    go_wp2_with (go_at_call 101; refine H.out.mono ?_; rintro e w' ⟨rfl, rfl⟩)
    go_ret
    exact ⟨ret_bool HE.out.symm, rfl⟩
  · have HE : Hid (nameB l = false) := Lib.hid (by simp [nameB, h])
    go_enter Tryz.func63, Tryz.ntmps63
    go_wp2
    go_ret
    exact ⟨ret_bool HE.out.symm, rfl⟩

/-- The reference's hex. -/
def hxI (n : Int) : Int := if 48 ≤ n ∧ n ≤ 57 then n - 48 else if 97 ≤ n ∧ n ≤ 102 then n - 97 + 10 else if 65 ≤ n ∧ n ≤ 70 then n - 65 + 10 else -1
theorem rhex_any (n : Int) (w : World) (h0 : 0 ≤ n) (h1 : n ≤ 255) : Calls Tryz.prog 126 #[.int .u8 n] w fun e w' => e = .returned (.int .i64 (hxI n)) ∧ w = w' := by
  by_cases hd : 48 ≤ n ∧ n ≤ 57
  · have hg : digI n = true := by simp [digI, hd]
    have HE : Hid (hxI n = n - 48) := Lib.hid (by simp [hxI, hd])
    obtain ⟨d0, d1⟩ := hd
    go_enter Tryz.func126, Tryz.ntmps126
    go_wp2_with (go_at_call 98; refine (rDigit_any _ _ h0 h1).mono ?_; rintro e w' ⟨rfl, rfl⟩)
    go_ret
    exact ⟨ret_int HE.out.symm, rfl⟩
  · have hg : digI n = false := by simpa [digI] using hd
    by_cases ha : 97 ≤ n ∧ n ≤ 102
    · have HE : Hid (hxI n = n - 97 + 10) := Lib.hid (by unfold hxI; rw [if_neg hd, if_pos ha])
      obtain ⟨d0, d1⟩ := ha
      clear hd
      go_enter Tryz.func126, Tryz.ntmps126
      go_wp2_with (go_at_call 98; refine (rDigit_any _ _ h0 h1).mono ?_; rintro e w' ⟨rfl, rfl⟩)
      go_ret
      exact ⟨ret_int HE.out.symm, rfl⟩
    · by_cases hA : 65 ≤ n ∧ n ≤ 70
      · have HE : Hid (hxI n = n - 65 + 10) := Lib.hid (by unfold hxI; rw [if_neg hd, if_neg ha, if_pos hA])
        obtain ⟨d0, d1⟩ := hA
        clear hd ha
        go_enter Tryz.func126, Tryz.ntmps126
        go_wp2_with (go_at_call 98; refine (rDigit_any _ _ h0 h1).mono ?_; rintro e w' ⟨rfl, rfl⟩)
        go_ret
        exact ⟨ret_int HE.out.symm, rfl⟩
      · have HE : Hid (hxI n = -1) := Lib.hid (by unfold hxI; rw [if_neg hd, if_neg ha, if_neg hA])
        have ha' : 97 ≤ n → 102 < n := fun h => by omega
        have hA' : 65 ≤ n → 70 < n := fun h => by omega
        clear hd ha hA
        go_enter Tryz.func126, Tryz.ntmps126
        go_wp2_with (go_at_call 98; refine (rDigit_any _ _ h0 h1).mono ?_; rintro e w' ⟨rfl, rfl⟩)
        all_goals first | (exfalso; omega) | (go_ret; exact ⟨ret_int HE.out.symm, rfl⟩)

set_option maxHeartbeats 1000000 in
theorem rWord_any (l : List UInt8) (w : World) (hl : l.length ≤ maxLen) : Calls Tryz.prog 71 #[.string ⟨l.toArray⟩] w fun e w' => e = .returned (.bool (wordB l)) ∧ w = w' := by
  unfold maxLen at hl
  cases l with
  | nil =>
    go_enter Tryz.func71, Tryz.ntmps71
    go_wp2
    go_ret
    exact ⟨rfl, rfl⟩
  | cons c r =>
    have hb := byte_bd c
    have hsz : 0 < (⟨(c :: r).toArray⟩ : ByteArray).size := by rw [ba_size]; simp
    have hx : (⟨(c :: r).toArray⟩ : ByteArray)[0]'hsz = c := rfl
    have hml : r.length + 1 ≤ 9223372036854775807 := by simpa using hl
    cases hc : ltrI (c.toNat : Int)
    · have HE : Hid (wordB (c :: r) = false) := Lib.hid (by simp only [wordB, isLet, hc]; rfl)
      go_enter Tryz.func71, Tryz.ntmps71
      go_wp2_with (go_at_call 97; refine (rLetter_any _ _ hb.1 hb.2).mono ?_; rintro e w' ⟨rfl, rfl⟩)
      go_ret
      exact ⟨ret_bool HE.out.symm, rfl⟩
    · have HE : Hid (wordB (c :: r) = r.all isWB) := Lib.hid (by simp only [wordB, isLet, hc]; rfl)
      go_enter Tryz.func71, Tryz.ntmps71
      go_wp2_with (go_at_call 97; refine (rLetter_any _ _ hb.1 hb.2).mono ?_; rintro e w' ⟨rfl, rfl⟩)
      go_loop [3] (fun i => ∃ k : Nat, k ≤ r.length ∧ i = .int .i64 ((k : Int) + 1) ∧ Hid ((r.take k).all isWB = true)) (fun i => r.length + 1 - (intOf i).toNat)
      case atStart => exact ⟨0, Nat.zero_le _, rfl, Lib.hid rfl⟩
      case round =>
        obtain ⟨k, hk, rfl, HA⟩ := hrel
        rcases Nat.lt_or_ge k r.length with hlt | hge
        · have hbk := byte_bd r[k]
          have hsk : k + 1 < (⟨(c :: r).toArray⟩ : ByteArray).size := by rw [ba_size]; simp; omega
          have hxk : (⟨(c :: r).toArray⟩ : ByteArray)[k + 1]'hsk = r[k] := rfl
          have HT := Lib.hid (all_take isWB r k hlt)
          have HZ : Hid (isWB r[k] = false → r.all isWB = false) := Lib.hid (all_stop isWB r k hlt)
          have HO : Hid (isWB r[k] = (ltrI (r[k].toNat : Int) || digI (r[k].toNat : Int))) := Lib.hid rfl
          generalize r[k] = d at *
          cases h1 : ltrI (d.toNat : Int)
          · cases h2 : digI (d.toNat : Int)
            · have HQ : Hid (r.all isWB = false) := Lib.hid (HZ.out (by rw [HO.out, h1, h2]; rfl))
              go_wp2_with (first | (go_at_call 97; refine (rLetter_any _ _ hbk.1 hbk.2).mono ?_; rintro e w' ⟨rfl, rfl⟩) | (go_at_call 98; refine (rDigit_any _ _ hbk.1 hbk.2).mono ?_; rintro e w' ⟨rfl, rfl⟩))
              go_ret
              exact ⟨ret_bool (by rw [HE.out, HQ.out]), rfl⟩
            · have HQ : Hid (isWB d = true) := Lib.hid (by rw [HO.out, h1, h2]; rfl)
              go_wp2_with (first | (go_at_call 97; refine (rLetter_any _ _ hbk.1 hbk.2).mono ?_; rintro e w' ⟨rfl, rfl⟩) | (go_at_call 98; refine (rDigit_any _ _ hbk.1 hbk.2).mono ?_; rintro e w' ⟨rfl, rfl⟩))
              go_round
              case rel => exact ⟨k + 1, by omega, by go_num, Lib.hid (by rw [HT.out, HA.out, HQ.out]; rfl)⟩
              case measure => simp [intOf]; omega
          · have HQ : Hid (isWB d = true) := Lib.hid (by rw [HO.out, h1]; rfl)
            go_wp2_with (first | (go_at_call 97; refine (rLetter_any _ _ hbk.1 hbk.2).mono ?_; rintro e w' ⟨rfl, rfl⟩) | (go_at_call 98; refine (rDigit_any _ _ hbk.1 hbk.2).mono ?_; rintro e w' ⟨rfl, rfl⟩))
            go_round
            case rel => exact ⟨k + 1, by omega, by go_num, Lib.hid (by rw [HT.out, HA.out, HQ.out]; rfl)⟩
            case measure => simp [intOf]; omega
        · have HQ : Hid (r.all isWB = true) := Lib.hid (by have h := HA.out; rwa [List.take_of_length_le (by omega)] at h)
          go_wp2
          go_ret
          exact ⟨ret_bool (by rw [HE.out, HQ.out]), rfl⟩
theorem rIsName_any (l : List UInt8) (w : World) (hl : l.length ≤ maxLen) : Calls Tryz.prog 40 #[.string ⟨l.toArray⟩] w fun e w' => e = .returned (.bool (nameB l)) ∧ w = w' := by
  have H := Lib.hid (rWord_any l w hl)
  unfold maxLen at hl
  have HE : Hid (nameB l = (wordB l && decide (l.length ≤ 24))) := Lib.hid (by unfold nameB; rw [Bool.and_comm])
  cases hw : wordB l
  · rw [hw] at H HE
    go_enter Tryz.func40, Tryz.ntmps40
    go_wp2_with (go_at_call 71; refine H.out.mono ?_; rintro e w' ⟨rfl, rfl⟩)
    go_ret
    exact ⟨ret_bool (by rw [HE.out]; rfl), rfl⟩
  · rw [hw] at H HE
    by_cases h : l.length ≤ 24
    · go_enter Tryz.func40, Tryz.ntmps40
      go_wp2_with (go_at_call 71; refine H.out.mono ?_; rintro e w' ⟨rfl, rfl⟩)
      go_ret
      exact ⟨ret_bool (by rw [HE.out]; simp [h]; omega), rfl⟩
    · go_enter Tryz.func40, Tryz.ntmps40
      go_wp2_with (go_at_call 71; refine H.out.mono ?_; rintro e w' ⟨rfl, rfl⟩)
      go_ret
      exact ⟨ret_bool (by rw [HE.out]; simp [h]; omega), rfl⟩
end Go.Proofs.YtmodjokoggmnaaaGreatDoor
