/-
  The contracts of AppendUvarint, AppendVarint and AppendBytes: each returns a new slice, the bytes of its argument followed by the encoding, and turns nothing that was there.
  Conditions: the arguments read as lists of bytes, each of at most 2^32 elements.
  The contracts of the two functions CRC32 (the program's and the reference's): both return the check of the bytes that their argument holds, and leave the world as it was.
  Conditions: the argument reads as a list of bytes of at most maxLen elements.
  The contracts of the two functions Sum16 (the program's and the reference's): both return the Internet checksum of the bytes that their argument holds, and leave the world as it was.
  Conditions: the argument reads as a list of bytes of at most maxLen elements.
-/
import Derived.Test.YtahhmgoffdggpaaGreatDoorMb16
namespace Go.Proofs.YtahhmgoffdggpaaGreatDoor

open Go.RowKit

theorem more_le {k x v : Nat} (h : x * 128 ^ k ≤ v) (hx : 128 ≤ x) (hv : v < 18446744073709551616) : k ≤ 8 := by
  rcases Nat.lt_or_ge 8 k with hk | hk
  · have h1 : 128 ^ 9 ≤ 128 ^ k := Nat.pow_le_pow_right (by omega) hk
    have h2 : 128 * 128 ^ 9 ≤ x * 128 ^ k := Nat.mul_le_mul hx h1
    have h3 : (128 : Nat) * 128 ^ 9 = 1180591620717411303424 := by decide
    omega
  · exact hk
theorem more_next {k x v : Nat} (h : x * 128 ^ k ≤ v) : (x / 128) * 128 ^ (k + 1) ≤ v := by
  refine Nat.le_trans ?_ h
  rw [Nat.pow_succ, Nat.mul_comm (128 ^ k) 128, ← Nat.mul_assoc]
  exact Nat.mul_le_mul_right _ (Nat.div_mul_le_self _ _)
theorem uvarF_more (f x : Nat) (h : 128 ≤ x) : uvarF (f + 1) x = UInt8.ofNat (x % 128 + 128) :: uvarF f (x / 128) := by
  show (if x < 128 then _ else _) = _
  rw [if_neg (by omega)]
theorem uvarF_last (f x : Nat) (h : x < 128) : uvarF (f + 1) x = [UInt8.ofNat x] := by
  show (if x < 128 then _ else _) = _
  rw [if_pos h]
theorem vals_snoc (l : List UInt8) (c : Nat) (h : c < 256) (z : List Value) (y : Value) : (vals l ++ y :: z).set l.length (.int .u8 (c : Int)) = vals (l ++ [UInt8.ofNat c]) ++ z := by
  rw [vals_append, List.append_assoc]
  rw [List.set_append_right _ _ (by rw [length_vals]; exact Nat.le_refl _), length_vals, Nat.sub_self]
  simp [vals, List.set, Nat.mod_eq_of_lt h]

theorem zeros_zero {k : Nat} (h : 0 < k) : (zeros k)[0]? = some (.int .u8 0) := by
  unfold zeros; rw [List.getElem?_replicate, if_pos h]
theorem zeros_cons {k : Nat} (h : 0 < k) : zeros k = .int .u8 0 :: zeros (k - 1) := by
  unfold zeros; cases k with
  | zero => omega
  | succ k => rfl

/-- The first bytes of a row of bytes, read asx a slice. -/
theorem RowT.byt {w : World} {B g m : Nat} {t : TypeId} {l : List UInt8} {z : List Value} (h : RowT w g t (vals l ++ z)) (hg : g < B) (hm : l.length = m) : Byt w B (some ⟨g, 0, none⟩) m l := by
  refine ⟨hm, fun _ => ⟨g, 0, rfl, hg, fun j hj => ?_⟩⟩
  rw [h.cell, Nat.zero_add, List.getElem?_append_left (by rw [length_vals]; omega)]
  unfold byV vals bt
  rw [List.getElem?_map, List.getElem?_eq_getElem (by omega), List.getD_eq_getElem?_getD, List.getElem?_eq_getElem (by omega)]; rfl
/-- The parts are written into a new block: with the numbers asx the walk writes them. -/
theorem join_two (A : Option Addr) (n c : Nat) (l : List UInt8) (A2 : Option Addr) (n2 c2 : Nat) (l2 : List UInt8) (B : Nat) (W : World) (h : Byt W B A n l) (h2 : Byt W B A2 n2 l2) (hB : B ≤ W.heap.size) (hN : n + n2 ≤ 1099511627776) :
    Calls Tryz.prog 65 #[.slice (some ⟨W.heap.size, 0, none⟩) 2 2] (W.alloc (.cells #[.slice A n c, .slice A2 n2 c2] 23)) fun e w' =>
      e = .returned (.slice (some ⟨W.heap.size + 1, 0, none⟩) (n + n2) (n + n2)) ∧ RowAt w' (W.heap.size + 1) (vals (l ++ l2)) ∧ Below W.heap.size W w' := by
  have e : cat [⟨A, n, c, l⟩, ⟨A2, n2, c2, l2⟩] = l ++ l2 := by simp [cat]
  have e2 : (l ++ l2).length = n + n2 := by rw [List.length_append, h.1, h2.1]
  have := join_of [⟨A, n, c, l⟩, ⟨A2, n2, c2, l2⟩] B W (by
    intro p hp
    simp only [List.mem_cons, List.not_mem_nil, or_false] at hp
    rcases hp with rfl | rfl
    · exact h
    · exact h2) hB (by rw [e, e2]; exact hN) (by simp)
  rw [e, e2] at this
  exact this

theorem join_three (A : Option Addr) (n c : Nat) (l : List UInt8) (A2 : Option Addr) (n2 c2 : Nat) (l2 : List UInt8) (A3 : Option Addr) (n3 c3 : Nat) (l3 : List UInt8) (B : Nat) (W : World) (h : Byt W B A n l) (h2 : Byt W B A2 n2 l2) (h3 : Byt W B A3 n3 l3) (hB : B ≤ W.heap.size) (hN : n + n2 + n3 ≤ 1099511627776) :
    Calls Tryz.prog 65 #[.slice (some ⟨W.heap.size, 0, none⟩) 3 3] (W.alloc (.cells #[.slice A n c, .slice A2 n2 c2, .slice A3 n3 c3] 23)) fun e w' =>
      e = .returned (.slice (some ⟨W.heap.size + 1, 0, none⟩) (n + n2 + n3) (n + n2 + n3)) ∧ RowAt w' (W.heap.size + 1) (vals (l ++ l2 ++ l3)) ∧ Below W.heap.size W w' := by
  have e : cat [⟨A, n, c, l⟩, ⟨A2, n2, c2, l2⟩, ⟨A3, n3, c3, l3⟩] = l ++ l2 ++ l3 := by simp [cat]
  have e2 : (l ++ l2 ++ l3).length = n + n2 + n3 := by rw [List.length_append, List.length_append, h.1, h2.1, h3.1]
  have := join_of [⟨A, n, c, l⟩, ⟨A2, n2, c2, l2⟩, ⟨A3, n3, c3, l3⟩] B W (by
    intro p hp
    simp only [List.mem_cons, List.not_mem_nil, or_false] at hp
    rcases hp with rfl | rfl | rfl
    · exact h
    · exact h2
    · exact h3) hB (by rw [e, e2]; exact hN) (by simp)
  rw [e, e2] at this
  exact this
theorem join_one (A : Option Addr) (n c : Nat) (l : List UInt8) (B : Nat) (W : World) (h : Byt W B A n l) (hB : B ≤ W.heap.size) (hN : n ≤ 1099511627776) :
    Calls Tryz.prog 65 #[.slice (some ⟨W.heap.size, 0, none⟩) 1 1] (W.alloc (.cells #[.slice A n c] 23)) fun e w' =>
      e = .returned (.slice (some ⟨W.heap.size + 1, 0, none⟩) n n) ∧ RowAt w' (W.heap.size + 1) (vals l) ∧ Below W.heap.size W w' := by
  have e : cat [⟨A, n, c, l⟩] = l := by simp [cat]
  have := join_of [⟨A, n, c, l⟩] B W (by
    intro p hp
    simp only [List.mem_cons, List.not_mem_nil, or_false] at hp
    subst hp
    exact h) hB (by rw [e, h.1]; exact hN) (by simp)
  rw [e, h.1] at this
  exact this

theorem uvarF_len (f v : Nat) : (uvarF f v).length ≤ f := by
  induction f generalizing v with
  | zero => simp [uvarF]
  | succ f ih =>
    show (if v < 128 then _ else _ : List UInt8).length ≤ _
    split
    · simp
    · simp only [List.length_cons]; have := ih (v / 128); omega
theorem uvar_len (v : Nat) : (uvar v).length ≤ 10 := uvarF_len 10 v
theorem RowAt.byt' {w : World} {B g m : Nat} {l : List UInt8} (h : RowAt w g (vals l)) (hg : g < B) (hm : l.length = m) : Byt w B (some ⟨g, 0, none⟩) m l := by
  have h' : RowT w g 5 (vals l ++ []) := by rw [List.append_nil]; exact h
  exact h'.byt hg hm

end Go.Proofs.YtahhmgoffdggpaaGreatDoor


namespace Go.Proofs.YtahhmgoffdggpaaGreatDoor

open Go.RowKit


theorem u32_eq {a b : Int} (h : a = b) : Ending.returned (.int .u32 a) = .returned (.int .u32 b) := by rw [h]
theorem val_eq {k : IntKind} {a b : Int} (h : a = b) : Value.int k a = .int k b := by rw [h]
theorem take_step (l : List UInt8) (k : Nat) (h : k < l.length) : l.take (k + 1) = l.take k ++ [l.getD k 0] := by
  rw [List.take_succ_eq_append_getElem h, List.getD_eq_getElem?_getD, List.getElem?_eq_getElem h]; rfl
theorem crcGo_take (l : List UInt8) (k c : Nat) (h : k < l.length) : crcGo (l.take (k + 1)) c = crcSteps 8 (crcGo (l.take k) c ^^^ bt l k) := by
  rw [take_step l k h, crcGo_snoc]; rfl
theorem not_u32 (c : Nat) (h : c < 4294967296) : bits .xor .u32 IntKind.u32.max (c : Int) = ((4294967295 - c : Nat) : Int) := by
  have e : IntKind.u32.max = ((4294967295 : Nat) : Int) := by decide
  rw [e, u32_xor_nat _ _ (by omega) h]
  have := xor_ones 32 c (by omega)
  rw [show 2 ^ 32 - 1 = 4294967295 by decide] at this
  rw [this]

theorem low_bit (z : Nat) (h : z < 4294967296) : bits .and .u32 (z : Int) 1 = ((z % 2 : Nat) : Int) := by
  have := u32_and_nat z 1 h (by omega); rw [nat_mask1] at this; exact this
theorem low_one {z : Nat} (h : z < 4294967296) (ho : z % 2 = 1) : bits .and .u32 (z : Int) 1 = 1 := by rw [low_bit z h, ho]; rfl
theorem low_zero {z : Nat} (h : z < 4294967296) (ho : ¬ z % 2 = 1) : bits .and .u32 (z : Int) 1 = 0 := by rw [low_bit z h, show z % 2 = 0 by omega]; rfl
theorem step_odd {z : Nat} (h : z < 4294967296) (ho : z % 2 = 1) : bits .xor .u32 ((z : Int) / 2) 3988292384 = ((crcStep z : Nat) : Int) := by
  have e4 : ((z : Int) / 2) = ((z / 2 : Nat) : Int) := by omega
  have := u32_xor_nat (z / 2) 3988292384 (by omega) (by omega)
  rw [e4]; unfold crcStep; rw [if_pos ho]; exact this
theorem step_even {z : Nat} (ho : ¬ z % 2 = 1) : ((z : Int) / 2) = ((crcStep z : Nat) : Int) := by
  unfold crcStep; rw [if_neg ho]; omega

end Go.Proofs.YtahhmgoffdggpaaGreatDoor


namespace Go.Proofs.YtahhmgoffdggpaaGreatDoor

open Go.RowKit

/-- Word i of the bytes, the last one padded with 0. -/
def wordAt (l : List UInt8) (i : Nat) : Nat := bt l (2 * i) * 256 + bt l (2 * i + 1)
theorem wordAt_le (l : List UInt8) (i : Nat) : wordAt l i ≤ 65535 := by
  unfold wordAt; have := bt_lt l (2 * i); have := bt_lt l (2 * i + 1); omega
def sumOf (l : List UInt8) : Nat := 65535 - sumW (wordAt l) ((l.length + 1) / 2)
theorem bt_end (l : List UInt8) {j : Nat} (h : l.length ≤ j) : bt l j = 0 := by
  unfold bt; rw [List.getD_eq_getElem?_getD, List.getElem?_eq_none h]; rfl

theorem low16 (y : Nat) (h : y < 4294967296) : bits .and .u32 (y : Int) 65535 = ((y % 65536 : Nat) : Int) := by
  have := u32_and_nat y 65535 h (by omega); rw [nat_mask16] at this; exact this
/-- The program's step, the two bytes there. -/
theorem sum_two (x p q : Nat) (hx : x ≤ 65535) (hp : p < 256) (hq : q < 256) :
    (((x : Int) + (p : Int) * 256 + (q : Int)) / 65536 + bits .and .u32 ((x : Int) + (p : Int) * 256 + (q : Int)) 65535) % 4294967296 = ((add16 x (p * 256 + q) : Nat) : Int) := by
  have e : (x : Int) + (p : Int) * 256 + (q : Int) = ((x + (p * 256 + q) : Nat) : Int) := by omega
  rw [e, low16 _ (by omega), ← fold16 x (p * 256 + q) hx (by omega)]; omega
/-- The program's step, one byte there. -/
theorem sum_one (x p : Nat) (hx : x ≤ 65535) (hp : p < 256) :
    (((x : Int) + (p : Int) * 256) / 65536 + bits .and .u32 ((x : Int) + (p : Int) * 256) 65535) % 4294967296 = ((add16 x (p * 256) : Nat) : Int) := by
  have := sum_two x p 0 hx hp (by omega)
  simpa using this
theorem sumW_two (l : List UInt8) (k : Nat) (he : k % 2 = 0) : sumW (wordAt l) ((k + 2) / 2) = add16 (sumW (wordAt l) (k / 2)) (bt l k * 256 + bt l (k + 1)) := by
  have e : (k + 2) / 2 = k / 2 + 1 := by omega
  have e2 : wordAt l (k / 2) = bt l k * 256 + bt l (k + 1) := by unfold wordAt; rw [show 2 * (k / 2) = k by omega]
  rw [e, ← e2]; rfl
theorem sumW_one (l : List UInt8) (k : Nat) (he : k % 2 = 0) (hl : l.length ≤ k + 1) : sumW (wordAt l) ((k + 2) / 2) = add16 (sumW (wordAt l) (k / 2)) (bt l k * 256) := by
  rw [sumW_two l k he, bt_end l hl, Nat.add_zero]
theorem not_u16 (x : Nat) (h : x ≤ 65535) : bits .xor .u16 IntKind.u16.max (x : Int) = ((65535 - x : Nat) : Int) := by
  have e : IntKind.u16.max = ((65535 : Nat) : Int) := by decide
  rw [e, u16_xor_nat _ _ (by omega) (by omega)]
  have := xor_ones 16 x (by omega)
  rw [show 2 ^ 16 - 1 = 65535 by decide] at this
  rw [this]
theorem ret_k {k : IntKind} {a b : Int} (h : a = b) : Ending.returned (.int k a) = .returned (.int k b) := by rw [h]
theorem int_k {k : IntKind} {a b : Int} (h : a = b) : Value.int k a = .int k b := by rw [h]
theorem sum_end {l : List UInt8} {n k x : Nat} (hl : l.length = n) (hk : k ≤ n + 1) (he : k % 2 = 0) (hge : ¬ k < n) (hx : x = sumW (wordAt l) (k / 2)) :
    bits .xor .u16 IntKind.u16.max (x : Int) = ((sumOf l : Nat) : Int) := by
  have h1 := sumW_le (wordAt l) (wordAt_le l) (k / 2)
  rw [not_u16 x (by omega)]; unfold sumOf
  rw [hx, hl, show (n + 1) / 2 = k / 2 by omega]

theorem or_byte (p q : Nat) (hp : p < 256) (hq : q < 256) : bits .or .u32 ((p : Int) * 256) (q : Int) = (p : Int) * 256 + (q : Int) := by
  have e : (p : Int) * 256 = ((p * 256 : Nat) : Int) := by omega
  rw [e, u32_or_nat _ _ (by omega) (by omega), nat_join 8 (p * 256) q (by omega) (by omega)]; omega

end Go.Proofs.YtahhmgoffdggpaaGreatDoor
