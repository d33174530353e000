/-
  Plain mathematics of the cyclic redundancy check: it is affine, and a change of bits within 32 consecutive bits changes it.
  Conditions: none beyond what each theorem says.
  An image's body tells how many modules it has; a header with another count, or another byte. Plain mathematics.
  Conditions: none.
  An image with one byte of its header changed: what Parse yields. Plain mathematics.
  Conditions: none.
-/
import Derived.Test.YtcenonnccodfoaaDoorMa3
import Derived.Test.YtcenonnccodfoaaDoorMa2
import Derived.Test.YtcenonnccodfoaaDoorMa13
namespace Go.Proofs.YtcenonnccodfoaaDoor

theorem xor_mod2 (x y : Nat) : (x ^^^ y) % 2 = (x % 2 + y % 2) % 2 := by
  have h := @Nat.xor_mod_two_eq_one x y
  omega
theorem crcStep_xor (x y : Nat) : crcStep (x ^^^ y) = crcStep x ^^^ crcStep y := by
  have hd : (x ^^^ y) / 2 = x / 2 ^^^ y / 2 := Nat.xor_div_two
  have hm := xor_mod2 x y
  unfold crcStep
  rw [hd, hm]
  rcases Nat.mod_two_eq_zero_or_one x with hx | hx <;> rcases Nat.mod_two_eq_zero_or_one y with hy | hy <;> simp [hx, hy]
  · rw [Nat.xor_assoc]
  · rw [Nat.xor_assoc, Nat.xor_assoc, Nat.xor_comm (y / 2)]
  · rw [show (x / 2 ^^^ 3988292384) ^^^ (y / 2 ^^^ 3988292384) = (x / 2 ^^^ y / 2) ^^^ (3988292384 ^^^ 3988292384) by rw [Nat.xor_assoc, Nat.xor_assoc, ← Nat.xor_assoc 3988292384, Nat.xor_comm 3988292384 (y / 2), Nat.xor_assoc], Nat.xor_self, Nat.xor_zero]
theorem crcSteps_xor (k x y : Nat) : crcSteps k (x ^^^ y) = crcSteps k x ^^^ crcSteps k y := by
  induction k with
  | zero => rfl
  | succ k ih => show crcStep _ = _; rw [ih, crcStep_xor]; rfl
theorem crcSteps_add (j k x : Nat) : crcSteps (j + k) x = crcSteps j (crcSteps k x) := by
  induction j with
  | zero => rw [Nat.zero_add]; rfl
  | succ j ih => rw [Nat.succ_add]; show crcStep _ = crcStep _; rw [ih]
theorem crcSteps_shift (k x : Nat) : crcSteps k (2 ^ k * x) = x := by
  induction k generalizing x with
  | zero => show 2 ^ 0 * x = x; omega
  | succ k ih =>
    rw [Nat.pow_succ, Nat.mul_assoc]
    show crcStep (crcSteps k _) = x
    rw [ih]
    unfold crcStep
    rw [if_neg (by omega)]
    omega
theorem xor_eq_zero {a b : Nat} (h : a ^^^ b = 0) : a = b := by
  have := congrArg (· ^^^ b) h
  simpa [Nat.xor_assoc] using this
theorem crcStep_ne {c : Nat} (h : c < 4294967296) (h0 : c ≠ 0) : crcStep c ≠ 0 := by
  unfold crcStep
  split
  · intro he
    have := xor_eq_zero he
    omega
  · omega
theorem crcSteps_ne (k : Nat) {c : Nat} (h : c < 4294967296) (h0 : c ≠ 0) : crcSteps k c ≠ 0 := by
  induction k with
  | zero => exact h0
  | succ k ih => exact crcStep_ne (crcSteps_lt k h) ih

/-- The bytes asx one number, the first byte the least significant one. -/
def leNum : List UInt8 → Nat
  | [] => 0
  | x :: l => x.toNat ^^^ 256 * leNum l
theorem mul_xor (a b : Nat) : 256 * (a ^^^ b) = 256 * a ^^^ 256 * b := by
  have := Nat.shiftLeft_xor_distrib (a := a) (b := b) (i := 8)
  simpa [Nat.shiftLeft_eq, Nat.mul_comm] using this
/-- The check of a message is that of its number. -/
theorem crcGo_num (l : List UInt8) (c : Nat) : crcGo l c = crcSteps (8 * l.length) (c ^^^ leNum l) := by
  induction l generalizing c with
  | nil => show c = crcSteps 0 (c ^^^ 0); rw [Nat.xor_zero]; rfl
  | cons x l ih =>
    show crcGo l (crcByte c x.toNat) = _
    rw [ih, show 8 * (x :: l).length = 8 * l.length + 8 by simp; omega, crcSteps_add]
    congr 1
    show crcSteps 8 (c ^^^ x.toNat) ^^^ leNum l = crcSteps 8 (c ^^^ (x.toNat ^^^ 256 * leNum l))
    rw [← Nat.xor_assoc, crcSteps_xor 8 (c ^^^ x.toNat), crcSteps_shift 8 (leNum l)]
theorem xor_cancel {a b c : Nat} (h : a ^^^ b = a ^^^ c) : b = c := by
  have := congrArg (a ^^^ ·) h
  simpa [← Nat.xor_assoc] using this
theorem crcOf_inj {l l' : List UInt8} (h : crcOf l = crcOf l') : crcGo l 4294967295 = crcGo l' 4294967295 := by
  unfold crcOf at h
  have h1 := crcGo_lt l (c := 4294967295) (by omega)
  have h2 := crcGo_lt l' (c := 4294967295) (by omega)
  omega
/-- A change within 32 consecutive bits changes the check. -/
theorem crc_burst (l l' : List UInt8) (at_ bits : Nat) (hl : l.length = l'.length) (hd : leNum l' = leNum l ^^^ 2 ^ at_ * bits) (hb : bits < 4294967296) (h0 : bits ≠ 0) (ha : at_ ≤ 8 * l.length) : crcOf l ≠ crcOf l' := by
  intro he
  have h := crcOf_inj he
  rw [crcGo_num, crcGo_num, hd, ← hl, ← Nat.xor_assoc, crcSteps_xor (8 * l.length) (4294967295 ^^^ leNum l)] at h
  have h2 : crcSteps (8 * l.length) (2 ^ at_ * bits) = 0 := by
    have : crcSteps (8 * l.length) (4294967295 ^^^ leNum l) ^^^ 0 = crcSteps (8 * l.length) (4294967295 ^^^ leNum l) ^^^ crcSteps (8 * l.length) (2 ^ at_ * bits) := by rw [Nat.xor_zero]; exact h
    exact (xor_cancel this).symm
  rw [show 8 * l.length = (8 * l.length - at_) + at_ by omega, crcSteps_add, crcSteps_shift] at h2
  exact crcSteps_ne _ hb h0 h2

/-- Bit r of byte q turned. -/
theorem leNum_flip (l : List UInt8) (q r : Nat) (hq : q < l.length) (hr : r < 8) : leNum (l.set q (UInt8.ofNat (bt l q ^^^ 2 ^ r))) = leNum l ^^^ 2 ^ (8 * q + r) := by
  induction l generalizing q with
  | nil => simp at hq
  | cons x l ih =>
    cases q with
    | zero =>
      have hp : 2 ^ r < 256 := Nat.lt_of_lt_of_le (Nat.pow_lt_pow_right (by omega) hr) (by decide)
      have hx : bt (x :: l) 0 = x.toNat := rfl
      show (UInt8.ofNat (bt (x :: l) 0 ^^^ 2 ^ r)).toNat ^^^ 256 * leNum l = (x.toNat ^^^ 256 * leNum l) ^^^ 2 ^ (8 * 0 + r)
      rw [hx, UInt8.toNat_ofNat', Nat.mod_eq_of_lt (Nat.xor_lt_two_pow (n := 8) x.toNat_lt hp), Nat.mul_zero, Nat.zero_add, Nat.xor_assoc, Nat.xor_comm (2 ^ r), ← Nat.xor_assoc]
    | succ q =>
      have hb : bt (x :: l) (q + 1) = bt l q := rfl
      show x.toNat ^^^ 256 * leNum (l.set q (UInt8.ofNat (bt (x :: l) (q + 1) ^^^ 2 ^ r))) = (x.toNat ^^^ 256 * leNum l) ^^^ 2 ^ (8 * (q + 1) + r)
      rw [hb, ih q (by simpa using hq), mul_xor, ← Nat.xor_assoc, show 8 * (q + 1) + r = 8 + (8 * q + r) by omega, Nat.pow_add 2 8]
theorem xor_top (i y : Nat) (h : y < 2 ^ i) : 2 ^ i ^^^ y = 2 ^ i + y := by
  induction i generalizing y with
  | zero => obtain rfl : y = 0 := by simpa using h
            rfl
  | succ i ih =>
    have hp : 2 ^ (i + 1) = 2 * 2 ^ i := by rw [Nat.pow_succ, Nat.mul_comm]
    have h1 : (2 ^ (i + 1) ^^^ y) / 2 = 2 ^ i + y / 2 := by
      rw [Nat.xor_div_two, hp, Nat.mul_div_cancel_left _ (by omega), ih (y / 2) (by omega)]
    have h2 := xor_mod2 (2 ^ (i + 1)) y
    omega
theorem flip_next (from_ B i : Nat) (h : B / 2 ^ i % 2 = 1) : 2 ^ from_ * (B % 2 ^ i) ^^^ 2 ^ (from_ + i) = 2 ^ from_ * (B % 2 ^ (i + 1)) := by
  have e1 : B % 2 ^ (i + 1) = B % 2 ^ i + 2 ^ i := by
    rw [Nat.pow_succ, Nat.mod_mul, h, Nat.mul_one]
  have hlt : B % 2 ^ i < 2 ^ i := Nat.mod_lt _ (Nat.pow_pos (by omega))
  have hlt2 : 2 ^ from_ * (B % 2 ^ i) < 2 ^ (from_ + i) := by
    rw [Nat.pow_add]; exact Nat.mul_lt_mul_of_pos_left hlt (Nat.pow_pos (by omega))
  rw [Nat.xor_comm, xor_top _ _ hlt2, e1, Nat.mul_add, ← Nat.pow_add, Nat.add_comm]
theorem flip_same (B i : Nat) (h : B / 2 ^ i % 2 = 0) : B % 2 ^ (i + 1) = B % 2 ^ i := by
  rw [Nat.pow_succ, Nat.mod_mul, h]; omega

/-- The bytewise sum of three lists. -/
def xor3 : List UInt8 → List UInt8 → List UInt8 → List UInt8
  | x :: a, y :: b, z :: c => UInt8.ofNat (x.toNat ^^^ y.toNat ^^^ z.toNat) :: xor3 a b c
  | _, _, _ => []
theorem xor3_toNat (x y z : UInt8) : (UInt8.ofNat (x.toNat ^^^ y.toNat ^^^ z.toNat)).toNat = x.toNat ^^^ y.toNat ^^^ z.toNat := by
  rw [UInt8.toNat_ofNat', Nat.mod_eq_of_lt]
  exact Nat.xor_lt_two_pow (n := 8) (Nat.xor_lt_two_pow (n := 8) x.toNat_lt y.toNat_lt) z.toNat_lt
theorem xor_six (a b c x y z : Nat) : (a ^^^ b ^^^ c) ^^^ (x ^^^ y ^^^ z) = (a ^^^ x) ^^^ (b ^^^ y) ^^^ (c ^^^ z) := by
  apply Nat.eq_of_testBit_eq
  intro j
  simp only [Nat.testBit_xor]
  cases a.testBit j <;> cases b.testBit j <;> cases c.testBit j <;> cases x.testBit j <;> cases y.testBit j <;> cases z.testBit j <;> rfl
theorem crcGo_xor3 : ∀ (a b c : List UInt8) (s t u : Nat), a.length = b.length → b.length = c.length → crcGo (xor3 a b c) (s ^^^ t ^^^ u) = crcGo a s ^^^ crcGo b t ^^^ crcGo c u
  | [], [], [], s, t, u, _, _ => rfl
  | x :: a, y :: b, z :: c, s, t, u, h1, h2 => by
    show crcGo (xor3 a b c) (crcByte (s ^^^ t ^^^ u) (UInt8.ofNat (x.toNat ^^^ y.toNat ^^^ z.toNat)).toNat) = crcGo a (crcByte s x.toNat) ^^^ crcGo b (crcByte t y.toNat) ^^^ crcGo c (crcByte u z.toNat)
    rw [xor3_toNat]
    have e : crcByte (s ^^^ t ^^^ u) (x.toNat ^^^ y.toNat ^^^ z.toNat) = crcByte s x.toNat ^^^ crcByte t y.toNat ^^^ crcByte u z.toNat := by
      unfold crcByte
      rw [xor_six, crcSteps_xor, crcSteps_xor]
    rw [e]
    exact crcGo_xor3 a b c _ _ _ (by simpa using h1) (by simpa using h2)
  | [], _ :: _, _, _, _, _, h1, _ => by simp at h1
  | _ :: _, [], _, _, _, _, h1, _ => by simp at h1
  | [], [], _ :: _, _, _, _, _, h2 => by simp at h2
  | _ :: _, _ :: _, [], _, _, _, _, h2 => by simp at h2
theorem crcOf_xor3 (a b c : List UInt8) (h1 : a.length = b.length) (h2 : b.length = c.length) : crcOf (xor3 a b c) = crcOf a ^^^ crcOf b ^^^ crcOf c := by
  have h := crcGo_xor3 a b c 4294967295 4294967295 4294967295 h1 h2
  rw [Nat.xor_self, Nat.zero_xor] at h
  have hc : ∀ l, crcOf l = 4294967295 ^^^ crcGo l 4294967295 := fun l => by
    have := xor_ones 32 (crcGo l 4294967295) (crcGo_lt l (by omega))
    rw [show 2 ^ 32 - 1 = 4294967295 by decide] at this
    rw [this]; rfl
  rw [hc, hc, hc, hc, h, ← xor_six, Nat.xor_self, Nat.zero_xor]

end Go.Proofs.YtcenonnccodfoaaDoor


namespace Go.Proofs.YtcenonnccodfoaaDoor

open Go.RowKit

theorem chk_name {bs : List GMod} {m : GMod} (h : chkM bs m = 0) : m.name ≠ [] := by
  unfold chkM at h
  split at h
  · cases h
  · rename_i hn
    intro e
    rw [e] at hn
    exact hn (by decide)
theorem Good.name {ms : List GMod} (h : Good ms) : ∀ m ∈ ms, m.name ≠ [] := fun m hm => by
  obtain ⟨a, b, e⟩ := List.append_of_mem hm
  exact chk_name (h.chk a m b e)
theorem bt_drop2 (l : List UInt8) (k : Nat) : bt (l.drop k) 0 = bt l k := by rw [bt_drop]; rfl
/-- Each entry begins with a byte that is not zero. -/
theorem entry_head {ms : List GMod} (g : Good ms) (k : Nat) (hk : k < ms.length) : bt (bodyL ms) (48 * k) ≠ 0 := by
  have nm : ∀ m ∈ ms, m.name.length ≤ 24 := fun m hm => (g.fit m hm).name
  have ex : ms = ms.take k ++ ms[k] :: ms.drop (k + 1) := by rw [List.getElem_cons_drop, List.take_append_drop]
  have tl : (ms.take k).length = k := by rw [List.length_take]; omega
  have ax := entry_at (a := ms.take k) (m := ms[k]) (b := ms.drop (k + 1)) (by rw [← ex]; exact nm)
  rw [← ex, tl, image_drop] at ax
  have h1 := g.name ms[k] (List.getElem_mem hk)
  have h2 := (g.fit ms[k] (List.getElem_mem hk)).zero
  generalize ms[k] = m at *
  obtain ⟨c, r, hc⟩ := List.exists_cons_of_ne_nil h1
  have h3 : bt (((bodyL ms).drop (48 * k)).take 48) 0 = bt (bodyL ms) (48 * k) := by rw [bt_take _ _ _ (by omega), bt_drop2]
  rw [← h3, ax]
  have hne := h2 c (by rw [hc]; exact List.mem_cons_self)
  have h4 : bt (entryL m (endM (startM ms) (ms.take k))) 0 = c.toNat := by
    unfold entryL bt
    rw [hc]
    rfl
  rw [h4]
  intro h0
  exact hne (UInt8.toNat_inj.1 (by simpa using h0))
theorem body_pad (ms : List GMod) : ∃ u, bodyL ms = tableL (startM ms) ms ++ zerosL (startM ms - 16 - (tableL (startM ms) ms).length) ++ u := by
  cases ms with
  | nil => exact ⟨[], by decide⟩
  | cons m r =>
    obtain ⟨z, hz⟩ := body_split (m :: r)
    generalize hT : tableL (startM (m :: r)) (m :: r) = T at *
    obtain ⟨t, ht⟩ := dataL_prefix r (upN (startM (m :: r) + m.data.length)) (T ++ zerosL (startM (m :: r) - 16 - T.length) ++ m.data)
    refine ⟨m.data ++ t ++ z, ?_⟩
    rw [hz]
    show dataL (upN (startM (m :: r) + m.data.length)) r _ ++ z = _
    rw [ht]
    simp only [List.append_assoc]
theorem pad_zero {ms : List GMod} (h : ∀ m ∈ ms, m.name.length ≤ 24) (j : Nat) (h1 : 48 * ms.length ≤ j) (h2 : j + 16 < startM ms) : bt (bodyL ms) j = 0 := by
  obtain ⟨u, hu⟩ := body_pad ms
  have hl := length_table ms (startM ms) h
  rw [hu]
  generalize tableL (startM ms) ms = T at *
  unfold bt
  rw [List.getD_eq_getElem?_getD, List.append_assoc, List.getElem?_append_right (by omega), List.getElem?_append_left (by rw [length_zeros]; omega)]
  unfold zerosL
  rw [List.getElem?_replicate]
  split <;> rfl
/-- The body tells how many modules there are. -/
theorem body_lt {xs ys : List GMod} (gx : Good xs) (gy : Good ys) (h : bodyL xs = bodyL ys) (hlt : xs.length < ys.length) : False := by
  have nx : ∀ m ∈ xs, m.name.length ≤ 24 := fun m hm => (gx.fit m hm).name
  have ny : ∀ m ∈ ys, m.name.length ≤ 24 := fun m hm => (gy.fit m hm).name
  have hy := entry_head gy xs.length hlt
  rcases Nat.lt_or_ge (16 + 48 * xs.length) (startM xs) with hs | hs
  · have := pad_zero nx (48 * xs.length) (Nat.le_refl _) (by omega)
    rw [h] at this
    exact hy this
  · have hxs : startM xs = 16 + 48 * xs.length := Nat.le_antisymm hs (start_ge xs)
    have hys := start_ge ys
    cases xs with
    | nil => revert hxs; decide
    | cons x r =>
      cases ys with
      | nil => simp at hlt
      | cons y t =>
        have ax := entry_at (a := []) (m := x) (b := r) nx
        have ay := entry_at (a := []) (m := y) (b := t) ny
        simp only [List.nil_append, List.length_nil, Nat.mul_zero, endM_nil] at ax ay
        have dx := image_drop (x :: r) 0
        have dy := image_drop (y :: t) 0
        rw [dx] at ax
        rw [dy] at ay
        rw [h, ay] at ax
        have b1 := gx.size
        have b2 := gy.size
        have c1 := endM_ge (x :: r) (startM (x :: r))
        have c2 := endM_ge (y :: t) (startM (y :: t))
        have := (entry_inj (gy.fit y List.mem_cons_self) (gx.fit x List.mem_cons_self) ax (by omega) (by omega)).2.2.2.2.1
        simp only [List.length_cons] at hlt hys hxs
        omega
theorem body_count {xs ys : List GMod} (gx : Good xs) (gy : Good ys) (h : bodyL xs = bodyL ys) : xs.length = ys.length := by
  rcases Nat.lt_trichotomy xs.length ys.length with h1 | h1 | h1
  · exact (body_lt gx gy h h1).elim
  · exact h1
  · exact (body_lt gy gx h.symm h1).elim
end Go.Proofs.YtcenonnccodfoaaDoor


namespace Go.Proofs.YtcenonnccodfoaaDoor

open Go.RowKit

theorem bt_set_ne (l : List UInt8) (k j : Nat) (v : UInt8) (h : j ≠ k) : bt (l.set k v) j = bt l j := by
  unfold bt
  rw [List.getD_eq_getElem?_getD, List.getD_eq_getElem?_getD, List.getElem?_set_ne (fun e => h e.symm)]
theorem bt_set_eq (l : List UInt8) (k : Nat) (v : UInt8) (h : k < l.length) : bt (l.set k v) k = v.toNat := by
  unfold bt
  rw [List.getD_eq_getElem?_getD, List.getElem?_set_self h]
  rfl
theorem leUp_out (l : List UInt8) (k o : Nat) (v : UInt8) : ∀ n, (k < o ∨ o + n ≤ k) → leUp (l.set k v) o n = leUp l o n
  | 0, _ => rfl
  | n + 1, h => by
    show leUp (l.set k v) o n + bt (l.set k v) (o + n) * 256 ^ n = leUp l o n + bt l (o + n) * 256 ^ n
    rw [leUp_out l k o v n (by omega), bt_set_ne l k (o + n) v (by omega)]
theorem leUp_in (l : List UInt8) (k o : Nat) (v : UInt8) (hk : k < l.length) (ho : o ≤ k) : ∀ n, k < o + n → (leUp (l.set k v) o n : Int) = leUp l o n + ((v.toNat : Int) - bt l k) * 256 ^ (k - o)
  | 0, h => absurd h (by omega)
  | n + 1, h => by
    have e1 : leUp (l.set k v) o (n + 1) = leUp (l.set k v) o n + bt (l.set k v) (o + n) * 256 ^ n := rfl
    have e2 : leUp l o (n + 1) = leUp l o n + bt l (o + n) * 256 ^ n := rfl
    rw [e1, e2]
    by_cases hn : k = o + n
    · subst hn
      rw [leUp_out l (o + n) o v n (by omega), bt_set_eq l (o + n) v hk, show o + n - o = n by omega, Int.sub_mul]
      have hP : (256 : Int) ^ n = ((256 ^ n : Nat) : Int) := by rw [Int.natCast_pow]; rfl
      rw [hP]
      generalize (256 : Nat) ^ n = P at *
      simp only [Int.natCast_add, Int.natCast_mul]
      omega
    · rw [bt_set_ne l k (o + n) v (by omega)]
      have := leUp_in l k o v hk ho n (by omega)
      generalize (256 : Nat) ^ n = P at *
      simp only [Int.natCast_add, Int.natCast_mul]
      omega
/-- A changed number is another number, longer where the byte is greater. -/
theorem leUp_change {l : List UInt8} {k o n : Nat} {v : UInt8} (hk : k < l.length) (ho : o ≤ k) (hn : k < o + n) (hv : v.toNat ≠ bt l k) : leUp (l.set k v) o n ≠ leUp l o n ∧ (leUp l o n < leUp (l.set k v) o n ↔ bt l k < v.toNat) := by
  have h := leUp_in l k o v hk ho n hn
  have hp : (0 : Int) < 256 ^ (k - o) := Int.pow_pos (by omega)
  generalize (256 : Int) ^ (k - o) = P at *
  rcases Nat.lt_or_gt_of_ne hv with h1 | h1
  · have h2 : ((v.toNat : Int) - bt l k) * P < 0 := Int.mul_neg_of_neg_of_pos (by omega) hp
    omega
  · have h2 : 0 < ((v.toNat : Int) - bt l k) * P := Int.mul_pos (by omega) hp
    omega
/-- An image with the byte k of its header changed. -/
theorem parse_head {ms xs : List GMod} {e : Int} (h : errM ms = 0) (k : Nat) (hk : k < 16) (v : UInt8) (hv : v.toNat ≠ bt (imageL ms) k) (hp : IsParse8 ((imageL ms).set k v) xs e) :
    (k < 4 → e = 68) ∧ (4 ≤ k → k < 6 → e = 69) ∧ (6 ≤ k → k < 8 → e = 54) ∧ (8 ≤ k → k < 12 → if bt (imageL ms) k < v.toNat then e = 52 else e = 53) ∧ (12 ≤ k → e = 55) := by
  obtain ⟨f1, f2, f3, f4, f5, f6⟩ := image_facts h
  have g := errM_good h
  have hl : ((imageL ms).set k v).length = (imageL ms).length := List.length_set
  have hd : ((imageL ms).set k v).drop 16 = (imageL ms).drop 16 := by rw [List.drop_set]; rw [if_pos (by omega)]
  have lu : ∀ (o n : Nat), o + n ≤ 16 → uintV ((imageL ms).set k v) o n = leUp ((imageL ms).set k v) o n := fun o n hn => uintV_in _ o n (by omega)
  have v1 : uintV ((imageL ms).set k v) 4 2 = leUp ((imageL ms).set k v) 4 2 := lu 4 2 (by omega)
  have v2 : uintV ((imageL ms).set k v) 8 4 = leUp ((imageL ms).set k v) 8 4 := lu 8 4 (by omega)
  have v3 : uintV ((imageL ms).set k v) 12 4 = leUp ((imageL ms).set k v) 12 4 := lu 12 4 (by omega)
  unfold IsParse8 at hp
  rw [if_neg (by omega)] at hp
  by_cases c1 : k < 4
  · have hne : ((imageL ms).set k v).take 4 ≠ [77, 75, 66, 73] := fun e1 => by
      have h1 : bt (((imageL ms).set k v).take 4) k = bt ((imageL ms).take 4) k := by rw [e1, f3]
      rw [bt_take _ _ _ c1, bt_take _ _ _ c1, bt_set_eq _ _ _ (by omega)] at h1
      exact hv h1
    rw [if_pos hne] at hp
    exact ⟨fun _ => hp.2, by omega, by omega, by omega, by omega⟩
  have ht : ((imageL ms).set k v).take 4 = [77, 75, 66, 73] := by rw [List.take_set_of_le (by omega), f3]
  rw [if_neg (by rw [ht]; simp)] at hp
  by_cases c2 : k < 6
  · have hne := (leUp_change (l := imageL ms) (k := k) (o := 4) (n := 2) (v := v) (by omega) (by omega) (by omega) hv).1
    rw [if_pos (by rw [v1]; omega)] at hp
    exact ⟨by omega, fun _ _ => hp.2, by omega, by omega, by omega⟩
  rw [if_neg (by rw [v1, leUp_out _ _ _ _ _ (by omega), f4]; simp)] at hp
  by_cases c4 : 8 ≤ k ∧ k < 12
  · obtain ⟨hne, hlt⟩ := leUp_change (l := imageL ms) (k := k) (o := 8) (n := 4) (v := v) (by omega) (by omega) (by omega) hv
    refine ⟨by omega, by omega, by omega, fun _ _ => ?_, by omega⟩
    by_cases hb : bt (imageL ms) k < v.toNat
    · rw [if_pos hb]
      have := hlt.2 hb
      rw [if_pos (by rw [v2]; omega)] at hp
      exact hp.2
    · rw [if_neg hb]
      have : ¬ leUp (imageL ms) 8 4 < leUp ((imageL ms).set k v) 8 4 := fun h1 => hb (hlt.1 h1)
      rw [if_neg (by rw [v2]; omega), if_pos (by rw [v2]; omega)] at hp
      exact hp.2
  have w2 : uintV ((imageL ms).set k v) 8 4 = (imageL ms).length := by rw [v2, leUp_out _ _ _ _ _ (by omega), f5]
  rw [if_neg (by rw [w2]; omega), if_neg (by rw [w2]; omega), if_neg (by rw [w2]; omega)] at hp
  by_cases c5 : 12 ≤ k
  · have hne := (leUp_change (l := imageL ms) (k := k) (o := 12) (n := 4) (v := v) (by omega) (by omega) (by omega) hv).1
    rw [if_pos (by rw [v3, hd]; omega)] at hp
    exact ⟨by omega, by omega, by omega, by omega, fun _ => hp.2⟩
  rw [if_neg (by rw [v3, hd, leUp_out _ _ _ _ _ (by omega), f6]; simp)] at hp
  refine ⟨by omega, by omega, fun _ _ => ?_, by omega, by omega⟩
  rcases hp with ⟨_, h1, h2⟩ | ⟨h1, _⟩
  · exfalso
    have gx := errM_good h1
    have hb : bodyL xs = bodyL ms := by
      have a1 := image_drop xs 0
      have a2 := image_drop ms 0
      simp only [Nat.add_zero, List.drop_zero] at a1 a2
      rw [← a1, ← a2, h2, hd]
    have hc := body_count gx g hb
    have n1 := (head_nums (ms := xs) (by have := gx.few; omega) (by have := gx.size; omega) (crc_lt _)).2.1
    have n2 := (head_nums (ms := ms) (by have := g.few; omega) (by have := g.size; omega) (crc_lt _)).2.1
    have m1 : uintV (imageL xs) 6 2 = leUp (imageL xs) 6 2 := uintV_in _ 6 2 (by rw [h2]; omega)
    have m2 : uintV (imageL ms) 6 2 = leUp (imageL ms) 6 2 := uintV_in _ 6 2 (by omega)
    have hne := (leUp_change (l := imageL ms) (k := k) (o := 6) (n := 2) (v := v) (by omega) (by omega) (by omega) hv).1
    rw [h2] at m1 n1
    omega
  · exact h1
end Go.Proofs.YtcenonnccodfoaaDoor
