/-
  The contracts of the fixed-width functions: the program's and the reference's decoders return the same value and error, and leave the world as it was; the appending ones return a new slice with the same bytes and turn nothing that was there.
  Conditions: the argument reads as a list of bytes of at most 2^32 elements.
  The contracts of the fixed-width appending functions: the program's and the reference's return a new slice, the bytes of the argument followed by the integer, the least significant byte first, and turn nothing that was there.
  Conditions: the argument reads as a list of bytes of at most 2^32 elements.
  The contracts of the decoders of variable-length integers: the program's and the reference's return the same value, offset and error, and leave the world as it was.
  Conditions: the argument reads as a list of bytes of at most 2^32 elements.
-/
import Derived.Test.YtnoegjfokceghaaOwn
import Derived.Test.YtnoegjfokceghaaPlain
import Derived.WalkMore
namespace Go.Proofs.Ytnoegjfokceghaa

open Go.RowKit

/-- The integer in k bytes from off on, the least significant byte first. -/
def leUp (l : List UInt8) (off : Nat) : Nat → Nat
  | 0 => 0
  | k + 1 => leUp l off k + bt l (off + k) * 256 ^ k
def uintV (l : List UInt8) (off : Int) (k : Nat) : Nat := if off < 0 ∨ (l.length : Int) < off ∨ (l.length : Int) - off < k then 0 else leUp l off.toNat k
def uintE (l : List UInt8) (off : Int) (k : Nat) : Int := if off < 0 ∨ (l.length : Int) < off then 6 else if (l.length : Int) - off < k then 52 else 0

theorem leUp_lt (l : List UInt8) (o j : Nat) : leUp l o j < 256 ^ j := by
  induction j with
  | zero => exact Nat.one_pos
  | succ j ih =>
    have h1 := bt_lt l (o + j)
    have h2 : bt l (o + j) * 256 ^ j ≤ 255 * 256 ^ j := Nat.mul_le_mul_right _ (by omega)
    show leUp l o j + bt l (o + j) * 256 ^ j < 256 ^ (j + 1)
    rw [Nat.pow_succ]; omega
theorem pow_le_56 {j : Nat} (h : j < 8) : 256 ^ j ≤ 72057594037927936 :=
  Nat.le_trans (Nat.pow_le_pow_right (by omega) (show j ≤ 7 by omega)) (by decide)
/-- A byte put on top of j bytes. -/
theorem or_shift (x y j : Nat) (hx : x < 256 ^ j) (hy : y < 256) (hj : j < 8) : bits .or .u64 (x : Int) (IntKind.u64.wrap ((y : Int) * 2 ^ (8 * j))) = ((x + y * 256 ^ j : Nat) : Int) := by
  have hp := pow_le_56 hj
  have e0 : (2 : Nat) ^ (8 * j) = 256 ^ j := by rw [Nat.pow_mul]
  have hm : y * 256 ^ j ≤ 255 * 256 ^ j := Nat.mul_le_mul_right _ (by omega)
  have e1 : (y : Int) * 2 ^ (8 * j) = ((y * 256 ^ j : Nat) : Int) := by rw [← e0]; push_cast; rfl
  rw [e1, IntKind.wrap_u64]
  have e2 : ((y * 256 ^ j : Nat) : Int) % 18446744073709551616 = ((y * 256 ^ j : Nat) : Int) := by omega
  rw [e2, u64_or_nat _ _ (by omega) (by omega), Nat.or_comm, nat_join (8 * j) (y * 256 ^ j) x (by rw [e0]; exact Nat.mul_mod_left _ _) (by rw [e0]; exact hx), Nat.add_comm]

/-- What the reference has gathered when it comes down to byte j. -/
def leDown (l : List UInt8) (o k : Nat) (j : Nat) : Nat := leUp l (o + j) (k - j)
theorem leUp_front (l : List UInt8) (o k : Nat) : leUp l o (k + 1) = leUp l (o + 1) k * 256 + bt l o := by
  induction k with
  | zero => simp [leUp]
  | succ k ih =>
    show leUp l o (k + 1) + bt l (o + (k + 1)) * 256 ^ (k + 1) = (leUp l (o + 1) k + bt l (o + 1 + k) * 256 ^ k) * 256 + bt l o
    rw [ih, Nat.pow_succ, Nat.add_mul, show o + (k + 1) = o + 1 + k by omega, Nat.mul_assoc]
    omega
theorem or_low (x y : Nat) (hx : x < 72057594037927936) (hy : y < 256) : bits .or .u64 (IntKind.u64.wrap ((x : Int) * 256)) (y : Int) = ((x * 256 + y : Nat) : Int) := by
  have e1 : IntKind.u64.wrap ((x : Int) * 256) = ((x * 256 : Nat) : Int) := by rw [IntKind.wrap_u64]; omega
  rw [e1, u64_or_nat _ _ (by omega) (by omega), nat_join 8 (x * 256) y (by omega) (by omega)]

end Go.Proofs.Ytnoegjfokceghaa


namespace Go.Proofs.Ytnoegjfokceghaa

open Go.RowKit

/-- The k lowest bytes of v, the least significant one first. -/
def leB (v : Nat) : Nat → List UInt8
  | 0 => []
  | k + 1 => leB v k ++ [UInt8.ofNat (v / 256 ^ k % 256)]
theorem length_leB (v k : Nat) : (leB v k).length = k := by
  induction k with
  | zero => rfl
  | succ k ih => show (leB v k ++ [_]).length = _; rw [List.length_append, ih]; rfl
theorem byte_shift (v j : Nat) : ((v / 256 ^ j % 256 : Nat) : Int) = (v : Int) / 2 ^ (8 * j) % 256 := by
  have e0 : (2 : Nat) ^ (8 * j) = 256 ^ j := by rw [Nat.pow_mul]
  rw [← e0, Int.natCast_emod, Int.natCast_ediv, Int.natCast_pow]; rfl

/-- What the reference's loops carry: the slice so far, of the call's own. -/
def Grow (w wr : World) (t : Value) (l : List UInt8) : Prop := Own wr w.heap.size t l ∧ Below w.heap.size w wr
theorem Grow.size {w wr : World} {t : Value} {l : List UInt8} (h : Grow w wr t l) : w.heap.size ≤ wr.heap.size := h.2.size
/-- One byte more: the new cell is written, then appended. -/
theorem Grow.push {w wr : World} {t : Value} {l : List UInt8} (h : Grow w wr t l) (x : UInt8) (hl : l.length ≤ 1099511627775) :
    ∃ v' w', (Builtin.append_ #[45, 45] 45 #[t, .slice (some ⟨wr.heap.size, 0, none⟩) 1 1]).run Try.prog (wr.alloc (.cells #[.int .u8 (x.toNat : Int)] 5)) = .ok v' w' ∧ Grow w w' v' (l ++ [x]) := by
  obtain ⟨v', w', hrun, h1, h2, h3⟩ := (h.1.alloc (.cells #[.int .u8 (x.toNat : Int)] 5)).app 1 (Byt.lit wr _ [x] #[.int .u8 (x.toNat : Int)] 1 (by simp [vals]) rfl) (h.2.alloc h.2.size _) (by have := h.2.size; simp; omega) (by omega)
  exact ⟨v', w', hrun, h1, h2⟩
theorem Grow.start {w : World} {B : Nat} {A : Option Addr} {n : Nat} (c : Nat) {l : List UInt8} (h : Byt w B A n l) (hn : n ≤ 4294967296) :
    ∃ v' w', (Builtin.append_ #[45, 45] 45 #[.slice none 0 0, .slice A n c]).run Try.prog w = .ok v' w' ∧ Grow w w' v' l := by
  obtain ⟨v', w', hrun, h1, h2, h3⟩ := (Own.nil w w.heap.size).app c h (Below.refl _ _) (Nat.le_refl _) (by simp; omega)
  exact ⟨v', w', hrun, h1, h2⟩
theorem Grow.form {w wr : World} {t : Value} {l : List UInt8} (h : Grow w wr t l) : ∃ A cap, t = .slice A l.length cap ∧ l.length ≤ cap ∧ Byt wr wr.heap.size A l.length l := by
  obtain ⟨A, cap, e, h1, _, h2⟩ := h.1.form
  exact ⟨A, cap, e, h1, h2⟩
theorem ofNat_mod (x : Nat) : ((UInt8.ofNat (x % 256)).toNat : Int) = ((x % 256 : Nat) : Int) := by
  rw [UInt8.toNat_ofNat']; omega

theorem leUp_small (l : List UInt8) (off : Int) (k : Nat) : uintV l off k < 256 ^ k := by
  unfold uintV; split
  · exact Nat.pow_pos (by omega)
  · exact leUp_lt _ _ _

theorem leB_mod2 (v : Nat) : leB (v % 65536) 2 = leB v 2 := by
  have e0 : v % 65536 / 256 ^ 0 % 256 = v / 256 ^ 0 % 256 := by omega
  have e1 : v % 65536 / 256 ^ 1 % 256 = v / 256 ^ 1 % 256 := by omega
  simp only [leB, e0, e1]
theorem leB_mod4 (v : Nat) : leB (v % 4294967296) 4 = leB v 4 := by
  have e0 : v % 4294967296 / 256 ^ 0 % 256 = v / 256 ^ 0 % 256 := by omega
  have e1 : v % 4294967296 / 256 ^ 1 % 256 = v / 256 ^ 1 % 256 := by omega
  have e2 : v % 4294967296 / 256 ^ 2 % 256 = v / 256 ^ 2 % 256 := by omega
  have e3 : v % 4294967296 / 256 ^ 3 % 256 = v / 256 ^ 3 % 256 := by omega
  simp only [leB, e0, e1, e2, e3]

end Go.Proofs.Ytnoegjfokceghaa


namespace Go.Proofs.Ytnoegjfokceghaa

open Go.RowKit

/-- The decoding from group k on; acc: what the groups before have given. The first argument bounds the number of groups. -/
def uvD (l : List UInt8) (o : Nat) : Nat → Nat → Nat → Nat × Nat × Int
  | 0, _, _ => (0, 0, 6)
  | f + 1, k, acc =>
    if l.length ≤ o + k then (0, 0, 52)
    else if k = 9 ∧ 1 < bt l (o + k) then (0, 0, 6)
    else if 0 < k ∧ bt l (o + k) = 0 then (0, 0, 54)
    else if bt l (o + k) < 128 then (acc + bt l (o + k) * 128 ^ k, o + k + 1, 0)
    else uvD l o f (k + 1) (acc + (bt l (o + k) - 128) * 128 ^ k)
def uvR (l : List UInt8) (off : Int) : Nat × Nat × Int := if off < 0 ∨ (l.length : Int) < off then (0, 0, 6) else uvD l off.toNat 10 0 0

section

variable {l : List UInt8} {o f k acc p c n : Nat}

theorem uvD_end (hl : l.length = n) (hp : p = o + k) (h : n ≤ p) : uvD l o (f + 1) k acc = (0, 0, 52) := by
  unfold uvD; rw [if_pos (by omega)]
theorem uvD_range (hl : l.length = n) (hp : p = o + k) (h : p < n) (hc : c = bt l p) (h9 : k = 9) (h1 : 1 < c) : uvD l o (f + 1) k acc = (0, 0, 6) := by
  subst hp hc; unfold uvD; rw [if_neg (by omega), if_pos ⟨h9, h1⟩]
theorem uvD_canon (hl : l.length = n) (hp : p = o + k) (h : p < n) (hc : c = bt l p) (h9 : ¬ (k = 9 ∧ 1 < c)) (h0 : 0 < k) (hz : c = 0) : uvD l o (f + 1) k acc = (0, 0, 54) := by
  subst hp; subst hc; unfold uvD; rw [if_neg (by omega), if_neg h9, if_pos ⟨h0, hz⟩]
theorem uvD_last (hl : l.length = n) (hp : p = o + k) (h : p < n) (hc : c = bt l p) (h9 : ¬ (k = 9 ∧ 1 < c)) (h0 : ¬ (0 < k ∧ c = 0)) (hs : c < 128) : uvD l o (f + 1) k acc = (acc + c * 128 ^ k, p + 1, 0) := by
  subst hp; subst hc; unfold uvD; rw [if_neg (by omega), if_neg h9, if_neg h0, if_pos hs]
theorem uvD_more (hl : l.length = n) (hp : p = o + k) (h : p < n) (hc : c = bt l p) (h9 : ¬ (k = 9 ∧ 1 < c)) (h0 : ¬ (0 < k ∧ c = 0)) (hs : ¬ c < 128) : uvD l o (f + 1) k acc = uvD l o f (k + 1) (acc + (c - 128) * 128 ^ k) := by
  subst hp; subst hc
  show (if _ then _ else _) = _
  rw [if_neg (by omega), if_neg h9, if_neg h0, if_neg hs]
end

theorem pow7_le {k : Nat} (h : k ≤ 8) : 128 ^ k ≤ 72057594037927936 := Nat.le_trans (Nat.pow_le_pow_right (by omega) h) (by decide)
/-- A group put on top of k groups. -/
theorem or_shift7 (x y k : Nat) (hx : x < 128 ^ k) (hy : y < 128) (hk : k ≤ 8 ∨ k = 9 ∧ y ≤ 1) : bits .or .u64 (x : Int) (IntKind.u64.wrap ((y : Int) * 2 ^ (7 * k))) = ((x + y * 128 ^ k : Nat) : Int) := by
  have e0 : (2 : Nat) ^ (7 * k) = 128 ^ k := by rw [Nat.pow_mul]
  have e1 : (y : Int) * 2 ^ (7 * k) = ((y * 128 ^ k : Nat) : Int) := by rw [← e0, Int.natCast_mul, Int.natCast_pow]; rfl
  have hb : y * 128 ^ k < 18446744073709551616 ∧ x < 18446744073709551616 := by
    rcases hk with hk | ⟨rfl, hy1⟩
    · have hp := pow7_le hk
      have hm : y * 128 ^ k ≤ 127 * 128 ^ k := Nat.mul_le_mul_right _ (by omega)
      omega
    · have e9 : (128 : Nat) ^ 9 = 9223372036854775808 := by decide
      rw [e9] at hx ⊢; omega
  rw [e1, IntKind.wrap_u64]
  have e2 : ((y * 128 ^ k : Nat) : Int) % 18446744073709551616 = ((y * 128 ^ k : Nat) : Int) := by omega
  rw [e2, u64_or_nat _ _ hb.2 hb.1, Nat.or_comm, nat_join (7 * k) (y * 128 ^ k) x (by rw [e0]; exact Nat.mul_mod_left _ _) (by rw [e0]; exact hx), Nat.add_comm]
theorem andNot128 (c : Nat) (h : c < 256) : bits .andNot .u8 (c : Int) 128 = ((c % 128 : Nat) : Int) := by
  have e := u8_andNot_nat c 128 h (by omega)
  have h1 : ∀ y, y < 256 → y &&& (255 - 128) = y % 128 := by decide +kernel
  rw [h1 c h] at e; exact e
theorem and127 (c : Nat) (h : c < 256) : bits .and .u8 (c : Int) 127 = ((c % 128 : Nat) : Int) := by
  have e := u8_and_nat c 127 h (by omega)
  rw [nat_mask7] at e; exact e

theorem pow_step (x y k : Nat) (hx : x < 128 ^ k) (hy : y < 128) : x + y * 128 ^ k < 128 ^ (k + 1) := by
  have hm : y * 128 ^ k ≤ 127 * 128 ^ k := Nat.mul_le_mul_right _ (by omega)
  rw [Nat.pow_succ]; omega
theorem ret_three {k1 k2 k3 : IntKind} {a a' b b' c c' : Int} (h1 : a = a') (h2 : b = b') (h3 : c = c') :
    Ending.returned (.tuple #[.int k1 a, .int k2 b, .int k3 c]) = .returned (.tuple #[.int k1 a', .int k2 b', .int k3 c']) := by rw [h1, h2, h3]

set_option maxRecDepth 20000 in
set_option maxHeartbeats 1600000 in
theorem uvarint_any (A : Option Addr) (n c0 B : Nat) (off : Int) (l : List UInt8) (w : World) (h : Byt w B A n l) (hn : n ≤ 4294967296) :
    Calls Try.prog 78 #[.slice A n c0, .int .i64 off] w fun e w' => e = .returned (.tuple #[.int .u64 ((uvR l off).1 : Nat), .int .i64 ((uvR l off).2.1 : Nat), .int .i64 (uvR l off).2.2]) ∧ w = w' := by
  have HL := Lib.hid h.1
  by_cases hr : off < 0 ∨ (n : Int) < off
  · have e1 : uvR l off = (0, 0, 6) := by unfold uvR; rw [if_pos (by rw [h.1]; omega)]
    rw [e1]
    clear e1 h
    rcases hr with hr | hr
    · go_enter Try.func78, Try.ntmps78
      go_wp2
      go_step3
      go_wp2
      try rw [Exit.noGoto_ret]
      go_ret3
      exact ⟨rfl, rfl⟩
    · have hr' : 0 ≤ off := by omega
      have hd : decide (off ≤ (n : Int)) = false := by simp; omega
      go_enter Try.func78, Try.ntmps78
      go_wp2
      go_step3
      go_wp2
      try rw [Exit.noGoto_ret]
      go_ret3
      exact ⟨rfl, rfl⟩
  · obtain ⟨o, rfl⟩ : ∃ o : Nat, off = (o : Int) := ⟨off.toNat, by omega⟩
    have ho : o ≤ n := by omega
    have hd : decide (o ≤ n) = true := by simpa using ho
    clear hr
    have e1 : uvR l (o : Int) = uvD l o 10 0 0 := by unfold uvR; rw [if_neg (by rw [h.1]; omega)]; rfl
    rw [e1]
    obtain ⟨R, hR⟩ : ∃ R, R = uvD l o 10 0 0 := ⟨_, rfl⟩
    rw [← hR]
    have HR := Lib.hid hR
    have HH := Lib.hid h
    clear e1 hR h
    go_enter Try.func78, Try.ntmps78
    go_wp2
    go_step3
    go_wp2
    go_step3
    go_wp2
    go_loop [4, 5, 7] (fun t q i => ∃ k acc p : Nat, k ≤ 9 ∧ p ≤ n ∧ i = .int .i64 (k : Int) ∧ q = .int .i64 (p : Int) ∧ t = .int .u64 (acc : Int) ∧ Hid (p = o + k) ∧ Hid (acc < 128 ^ k) ∧ Hid (R = uvD l o (10 - k) k acc)) (fun _ _ i => 10 - (intOf i).toNat)
    case atStart => exact ⟨0, 0, o, by omega, ho, rfl, rfl, rfl, Lib.hid rfl, Lib.hid (by omega), HR⟩
    case round =>
      obtain ⟨k, acc, p, hk, hp, rfl, rfl, rfl, HP, HA, HE⟩ := hrel
      have hf : 10 - k = (9 - k) + 1 := by omega
      rw [hf] at HE
      clear hf
      by_cases hend : n ≤ p
      · have HX := Lib.hid (HE.out.trans (uvD_end HL.out HP.out hend))
        obtain rfl : n = p := by omega
        go_wp2
        try rw [Exit.noGoto_ret]
        go_ret3
        rw [HX.out]
        exact ⟨rfl, rfl⟩
      · obtain ⟨b, off, rfl, hb, hc⟩ := HH.out.at_ (by omega)
        have hcp := hc p (by omega)
        have hbt := bt_lt l p
        obtain ⟨c, hc'⟩ : ∃ c, c = bt l p := ⟨_, rfl⟩
        rw [← hc'] at hcp hbt
        have HC := Lib.hid hc'
        clear hc hc'
        have han := andNot128 c hbt
        by_cases h9 : k = 9
        · have h9' : ((k : Int) == 9) = true := by simp; omega
          have hk0 : decide ((0 : Int) < (k : Int)) = true := by simp; omega
          have hkp : 0 < k := by omega
          by_cases h1 : 1 < c
          · have HX := Lib.hid (HE.out.trans (uvD_range HL.out HP.out (by omega) HC.out h9 h1))
            have h1' : decide ((1 : Int) < (c : Int)) = true := by simp; omega
            clear h9
            go_wp2
            try rw [Exit.noGoto_ret]
            go_ret3
            rw [HX.out]
            exact ⟨rfl, rfl⟩
          · have h1' : decide ((1 : Int) < (c : Int)) = false := by simp; omega
            by_cases hz : c = 0
            · have hz' : ((c : Int) == 0) = true := by simp; omega
              have HX := Lib.hid (HE.out.trans (uvD_canon HL.out HP.out (by omega) HC.out (by omega) (by omega) hz))
              clear h9 hz
              go_wp2
              try rw [Exit.noGoto_ret]
              go_ret3
              rw [HX.out]
              exact ⟨rfl, rfl⟩
            · have hz' : ((c : Int) == 0) = false := by simp; omega
              have HX := Lib.hid (HE.out.trans (uvD_last HL.out HP.out (by omega) HC.out (by omega) (by omega) (by omega)))
              have HO := Lib.hid (or_shift7 acc c k HA.out (by omega) (by omega))
              have hm : c % 128 = c := by omega
              rw [hm] at han
              clear hm
              clear h9
              go_wp2
              try rw [Exit.noGoto_ret]
              go_ret3
              rw [HX.out]
              exact ⟨ret_three HO.out (by show _ = ((p + 1 : Nat) : Int); omega) rfl, rfl⟩
        · have h9' : ((k : Int) == 9) = false := by simp; omega
          by_cases hk : 0 < k
          · have hk0 : decide ((0 : Int) < (k : Int)) = true := by simp; omega
            by_cases hz : c = 0
            · have hz' : ((c : Int) == 0) = true := by simp; omega
              have HX := Lib.hid (HE.out.trans (uvD_canon HL.out HP.out (by omega) HC.out (by omega) (by omega) hz))
              clear hz
              go_wp2
              try rw [Exit.noGoto_ret]
              go_ret3
              rw [HX.out]
              exact ⟨rfl, rfl⟩
            · have hz' : ((c : Int) == 0) = false := by simp; omega
              by_cases hs : c < 128
              · have hs' : decide ((c : Int) < 128) = true := by simp; omega
                have HX := Lib.hid (HE.out.trans (uvD_last HL.out HP.out (by omega) HC.out (by omega) (by omega) (by omega)))
                have HO := Lib.hid (or_shift7 acc c k HA.out (by omega) (by omega))
                have hm : c % 128 = c := by omega
                rw [hm] at han
                clear hm
                go_wp2
                try rw [Exit.noGoto_ret]
                go_ret3
                rw [HX.out]
                exact ⟨ret_three HO.out (by show _ = ((p + 1 : Nat) : Int); omega) rfl, rfl⟩
              · have hs' : decide ((c : Int) < 128) = false := by simp; omega
                have HX := Lib.hid (HE.out.trans (uvD_more HL.out HP.out (by omega) HC.out (by omega) (by omega) hs))
                have HO := Lib.hid (or_shift7 acc (c - 128) k HA.out (by omega) (by omega))
                have HA2 := Lib.hid (pow_step acc (c - 128) k HA.out (by omega))
                have hm : c % 128 = c - 128 := by omega
                rw [hm] at han
                clear hm
                go_wp2
                go_round
                case rel => exact ⟨k + 1, acc + (c - 128) * 128 ^ k, p + 1, by omega, by omega, by go_num, by go_num, int_k HO.out, Lib.hid (by have := HP.out; omega), HA2, by rw [show 10 - (k + 1) = 9 - k by omega]; exact HX⟩
                case measure => simp [intOf]; omega
          · have hk0 : decide ((0 : Int) < (k : Int)) = false := by simp; omega
            by_cases hs : c < 128
            · have hs' : decide ((c : Int) < 128) = true := by simp; omega
              have HX := Lib.hid (HE.out.trans (uvD_last HL.out HP.out (by omega) HC.out (by omega) (by omega) (by omega)))
              have HO := Lib.hid (or_shift7 acc c k HA.out (by omega) (by omega))
              have hm : c % 128 = c := by omega
              rw [hm] at han
              clear hm
              go_wp2
              try rw [Exit.noGoto_ret]
              go_ret3
              rw [HX.out]
              exact ⟨ret_three HO.out (by show _ = ((p + 1 : Nat) : Int); omega) rfl, rfl⟩
            · have hs' : decide ((c : Int) < 128) = false := by simp; omega
              have HX := Lib.hid (HE.out.trans (uvD_more HL.out HP.out (by omega) HC.out (by omega) (by omega) hs))
              have HO := Lib.hid (or_shift7 acc (c - 128) k HA.out (by omega) (by omega))
              have HA2 := Lib.hid (pow_step acc (c - 128) k HA.out (by omega))
              have hm : c % 128 = c - 128 := by omega
              rw [hm] at han
              clear hm
              go_wp2
              go_round
              case rel => exact ⟨k + 1, acc + (c - 128) * 128 ^ k, p + 1, by omega, by omega, by go_num, by go_num, int_k HO.out, Lib.hid (by have := HP.out; omega), HA2, by rw [show 10 - (k + 1) = 9 - k by omega]; exact HX⟩
              case measure => simp [intOf]; omega

end Go.Proofs.Ytnoegjfokceghaa
