/-
  The contracts of AppendUvarint, AppendVarint and AppendBytes: each returns a new slice, the bytes of its argument followed by the encoding, and turns nothing that was there.
  Conditions: the arguments read as lists of bytes, each of at most 2^32 elements.
-/
import Derived.Test.YtndppbfdcceflaaBase
import Derived.Test.YtndppbfdcceflaaJoin
import Derived.Test.YtndppbfdcceflaaPlain
namespace Go.Proofs.Ytndppbfdcceflaa

open Go.RowKit

theorem more_le {k x v : Nat} (h : x * 128 ^ k ≤ v) (hx : 128 ≤ x) (hv : v < 18446744073709551616) : k ≤ 8 := by
  rcases Nat.lt_or_ge 8 k with hk | hk
  · have h1 : 128 ^ 9 ≤ 128 ^ k := Nat.pow_le_pow_right (by omega) hk
    have h2 : 128 * 128 ^ 9 ≤ x * 128 ^ k := Nat.mul_le_mul hx h1
    have h3 : (128 : Nat) * 128 ^ 9 = 1180591620717411303424 := by decide
    omega
  · exact hk
theorem more_next {k x v : Nat} (h : x * 128 ^ k ≤ v) : (x / 128) * 128 ^ (k + 1) ≤ v := by
  refine Nat.le_trans ?_ h
  rw [Nat.pow_succ, Nat.mul_comm (128 ^ k) 128, ← Nat.mul_assoc]
  exact Nat.mul_le_mul_right _ (Nat.div_mul_le_self _ _)
theorem uvarF_more (f x : Nat) (h : 128 ≤ x) : uvarF (f + 1) x = UInt8.ofNat (x % 128 + 128) :: uvarF f (x / 128) := by
  show (if x < 128 then _ else _) = _
  rw [if_neg (by omega)]
theorem uvarF_last (f x : Nat) (h : x < 128) : uvarF (f + 1) x = [UInt8.ofNat x] := by
  show (if x < 128 then _ else _) = _
  rw [if_pos h]
theorem vals_snoc (l : List UInt8) (c : Nat) (h : c < 256) (z : List Value) (y : Value) : (vals l ++ y :: z).set l.length (.int .u8 (c : Int)) = vals (l ++ [UInt8.ofNat c]) ++ z := by
  rw [vals_append, List.append_assoc]
  rw [List.set_append_right _ _ (by rw [length_vals]; exact Nat.le_refl _), length_vals, Nat.sub_self]
  simp [vals, List.set, Nat.mod_eq_of_lt h]

theorem zeros_zero {k : Nat} (h : 0 < k) : (zeros k)[0]? = some (.int .u8 0) := by
  unfold zeros; rw [List.getElem?_replicate, if_pos h]
theorem zeros_cons {k : Nat} (h : 0 < k) : zeros k = .int .u8 0 :: zeros (k - 1) := by
  unfold zeros; cases k with
  | zero => omega
  | succ k => rfl

/-- The first bytes of a row of bytes, read as a slice. -/
theorem RowT.byt {w : World} {B g m : Nat} {t : TypeId} {l : List UInt8} {z : List Value} (h : RowT w g t (vals l ++ z)) (hg : g < B) (hm : l.length = m) : Byt w B (some ⟨g, 0, none⟩) m l := by
  refine ⟨hm, fun _ => ⟨g, 0, rfl, hg, fun j hj => ?_⟩⟩
  rw [h.cell, Nat.zero_add, List.getElem?_append_left (by rw [length_vals]; omega)]
  unfold byV vals bt
  rw [List.getElem?_map, List.getElem?_eq_getElem (by omega), List.getD_eq_getElem?_getD, List.getElem?_eq_getElem (by omega)]; rfl
theorem arr10 : Try.prog.underlying 64 = some (.array (Try.prog.arrayLen 64) (Try.prog.elem 64)) := by kernel_rfl
theorem arr10_len : Try.prog.arrayLen 64 = 10 := by kernel_rfl
theorem arr10_size (W : World) : (sizeOf (Try.prog.elem 64)).run Try.prog W = .ok 1 W := by kernel_rfl
theorem arr10_to (g : Nat) (k : Int) (h0 : 0 ≤ k) (h : k ≤ 10) (W : World) :
    (Instr.sliceAt 64 (.pointer (some ⟨g, 0, none⟩)) none (some (.int .i64 k)) none).run Try.prog W = .ok (.slice (some ⟨g, 0, none⟩) k.toNat 10) W := by
  rw [run_sliceAt_array_h _ _ _ arr10 .i64 k h0 (by rw [arr10_len]; exact h), arr10_size, arr10_len]
  simp [Result.andThen, slicedAt, Addr.add]
/-- The parts are written into a new block: with the numbers as the walk writes them. -/
theorem join_two (A : Option Addr) (n c : Nat) (l : List UInt8) (A2 : Option Addr) (n2 c2 : Nat) (l2 : List UInt8) (B : Nat) (W : World) (h : Byt W B A n l) (h2 : Byt W B A2 n2 l2) (hB : B ≤ W.heap.size) (hN : n + n2 ≤ 1099511627776) :
    Calls Try.prog 32 #[.slice (some ⟨W.heap.size, 0, none⟩) 2 2] (W.alloc (.cells #[.slice A n c, .slice A2 n2 c2] 39)) fun e w' =>
      e = .returned (.slice (some ⟨W.heap.size + 1, 0, none⟩) (n + n2) (n + n2)) ∧ RowAt w' (W.heap.size + 1) (vals (l ++ l2)) ∧ Below W.heap.size W w' := by
  have e : cat [⟨A, n, c, l⟩, ⟨A2, n2, c2, l2⟩] = l ++ l2 := by simp [cat]
  have e2 : (l ++ l2).length = n + n2 := by rw [List.length_append, h.1, h2.1]
  have := join_of [⟨A, n, c, l⟩, ⟨A2, n2, c2, l2⟩] B W (by
    intro p hp
    simp only [List.mem_cons, List.not_mem_nil, or_false] at hp
    rcases hp with rfl | rfl
    · exact h
    · exact h2) hB (by rw [e, e2]; exact hN) (by simp)
  rw [e, e2] at this
  exact this

set_option maxRecDepth 20000 in
set_option maxHeartbeats 800000 in
theorem appU_any (A : Option Addr) (n c B v : Nat) (l : List UInt8) (w : World) (h : Byt w B A n l) (hB : B ≤ w.heap.size) (hn : n ≤ 4294967296) (hv : v < 18446744073709551616) :
    Calls Try.prog 19 #[.slice A n c, .int .u64 (v : Int)] w fun e w' => 
      ∃ g, e = .returned (.slice (some ⟨g, 0, none⟩) (n + (uvar v).length) (n + (uvar v).length)) ∧ w.heap.size ≤ g ∧ RowAt w' g (vals (l ++ uvar v)) ∧ Below w.heap.size w w' := by
  have HH := Lib.hid h
  clear h
  have HV := Lib.hid hv
  clear hv
  have HNEW := Lib.hid (RowT.new w 64 (zeros 10))
  have HBE := Lib.hid ((Below.refl w.heap.size w).alloc (Nat.le_refl _) (.cells (zeros 10).toArray 64))
  go_enter Try.func19, Try.ntmps19
  go_wp2
  go_loopw [1, 6] (fun t i wr => ∃ (k x : Nat) (pre : List UInt8), k ≤ 9 ∧ t = .int .u64 (x : Int) ∧ i = .int .i64 (k : Int) ∧ Hid (uvar v = pre ++ uvarF (10 - k) x) ∧ Hid (pre.length = k) ∧ Hid (x * 128 ^ k ≤ v)
    ∧ Hid (RowT wr w.heap.size 64 (vals pre ++ zeros (10 - k))) ∧ Hid (Below w.heap.size w wr)) (fun _ i _ => 10 - (intOf i).toNat)
  case atStart => exact ⟨0, v, [], by omega, rfl, rfl, Lib.hid rfl, Lib.hid rfl, Lib.hid (by omega), HNEW, HBE⟩
  case round =>
    obtain ⟨k, x, pre, hk, rfl, rfl, HE, HP, HX, HRW, HBW⟩ := hrel
    have hx64 : x < 18446744073709551616 := by
      have h1 := Nat.le_mul_of_pos_right x (Nat.pow_pos (n := k) (show 0 < 128 by omega))
      have h2 := HX.out
      have h3 := HV.out
      omega
    have HX64 := Lib.hid hx64
    clear hx64
    by_cases hge : 128 ≤ x
    · have hk8 := more_le HX.out hge HV.out
      have hor := or_more x
      have hcell : wr.cell? ⟨w.heap.size, k, none⟩ = some (.int .u8 0) := by
        rw [HRW.out.cell, List.getElem?_append_right (by rw [length_vals, HP.out]; exact Nat.le_refl _), length_vals, HP.out, Nat.sub_self]
        exact zeros_zero (by omega)
      have hfr := HRW.out.frozen k
      go_wp2
      go_roundw
      case rel =>
        refine ⟨k + 1, x / 128, pre ++ [UInt8.ofNat (x % 128 + 128)], by omega, by go_num, by go_num, Lib.hid ?_, Lib.hid ?_, Lib.hid (more_next HX.out), Lib.hid ?_, Lib.hid (HBW.out.setCell (Nat.le_refl _) _)⟩
        · rw [HE.out, show 10 - k = (10 - (k + 1)) + 1 by omega, uvarF_more _ _ hge, List.append_assoc]; rfl
        · rw [List.length_append, HP.out]; rfl
        · have h1 := HRW.out.set_ k (.int .u8 ((x % 128 + 128 : Nat) : Int))
          rw [zeros_cons (show 0 < 10 - k by omega)] at h1
          have h2 := vals_snoc pre (x % 128 + 128) (by omega) (zeros (10 - k - 1)) (.int .u8 0)
          rw [HP.out] at h2
          rw [h2, show 10 - k - 1 = 10 - (k + 1) by omega] at h1
          have e : ((x % 128 + 128 : Nat) : Int) = (x : Int) % 128 + 128 := by omega
          rw [e] at h1
          exact h1
      case measure => simp [intOf]; omega
    · have hcell : wr.cell? ⟨w.heap.size, k, none⟩ = some (.int .u8 0) := by
        rw [HRW.out.cell, List.getElem?_append_right (by rw [length_vals, HP.out]; exact Nat.le_refl _), length_vals, HP.out, Nat.sub_self]
        exact zeros_zero (by omega)
      have hfr := HRW.out.frozen k
      have hcut := arr10_to w.heap.size ((k : Int) + 1) (by omega) (by omega)
      have hnk : ((k : Int) + 1).toNat = k + 1 := by omega
      rw [hnk] at hcut
      clear hnk
      have hu : uvar v = pre ++ [UInt8.ofNat x] := by
        rw [HE.out, show 10 - k = (10 - (k + 1)) + 1 by omega, uvarF_last _ _ (by omega)]
      have hul : (pre ++ [UInt8.ofNat x]).length = k + 1 := by rw [List.length_append, HP.out]; rfl
      have hzw : (wr.setCell ⟨w.heap.size, k, none⟩ (.int .u8 (x : Int))).heap.size = wr.heap.size := by simp
      have hrow : RowT (wr.setCell ⟨w.heap.size, k, none⟩ (.int .u8 (x : Int))) w.heap.size 64 (vals (pre ++ [UInt8.ofNat x]) ++ zeros (10 - k - 1)) := by
        have h1 := HRW.out.set_ k (.int .u8 (x : Int))
        rw [zeros_cons (show 0 < 10 - k by omega)] at h1
        have h2 := vals_snoc pre x (by omega) (zeros (10 - k - 1)) (.int .u8 0)
        rw [HP.out] at h2
        rw [h2] at h1
        exact h1
      have hlt := HRW.out.lt
      have hbs : Below w.heap.size w (wr.setCell ⟨w.heap.size, k, none⟩ (.int .u8 (x : Int))) := HBW.out.setCell (Nat.le_refl _) _
      have hj := join_two A n c l (some ⟨w.heap.size, 0, none⟩) (k + 1) 10 (pre ++ [UInt8.ofNat x]) wr.heap.size _ ((HH.out.below (hbs.mono hB)).wide (by omega)) (hrow.byt hlt hul) (by rw [hzw]; exact Nat.le_refl _) (by omega)
      rw [hzw, ← hu] at hj
      rw [← hu] at hul
      have HJ := Lib.hid hj
      have HUL := Lib.hid hul
      have HBS := Lib.hid hbs
      have HZW := Lib.hid hzw
      clear hj hul hu hzw hrow hbs
      go_wp2_with fail
      refine HJ.out.mono ?_
      rintro e w3 ⟨rfl, hr3, hb3⟩
      have HR3 := Lib.hid hr3
      have HB3 := Lib.hid hb3
      clear hr3 hb3
      go_wp2
      go_ret
      refine ⟨wr.heap.size + 1, ?_, ?_, HR3.out, HBS.out.trans (HB3.out.mono ?_)⟩
      · rw [HUL.out]; rfl
      · omega
      · omega

theorem join_three (A : Option Addr) (n c : Nat) (l : List UInt8) (A2 : Option Addr) (n2 c2 : Nat) (l2 : List UInt8) (A3 : Option Addr) (n3 c3 : Nat) (l3 : List UInt8) (B : Nat) (W : World) (h : Byt W B A n l) (h2 : Byt W B A2 n2 l2) (h3 : Byt W B A3 n3 l3) (hB : B ≤ W.heap.size) (hN : n + n2 + n3 ≤ 1099511627776) :
    Calls Try.prog 32 #[.slice (some ⟨W.heap.size, 0, none⟩) 3 3] (W.alloc (.cells #[.slice A n c, .slice A2 n2 c2, .slice A3 n3 c3] 39)) fun e w' =>
      e = .returned (.slice (some ⟨W.heap.size + 1, 0, none⟩) (n + n2 + n3) (n + n2 + n3)) ∧ RowAt w' (W.heap.size + 1) (vals (l ++ l2 ++ l3)) ∧ Below W.heap.size W w' := by
  have e : cat [⟨A, n, c, l⟩, ⟨A2, n2, c2, l2⟩, ⟨A3, n3, c3, l3⟩] = l ++ l2 ++ l3 := by simp [cat]
  have e2 : (l ++ l2 ++ l3).length = n + n2 + n3 := by rw [List.length_append, List.length_append, h.1, h2.1, h3.1]
  have := join_of [⟨A, n, c, l⟩, ⟨A2, n2, c2, l2⟩, ⟨A3, n3, c3, l3⟩] B W (by
    intro p hp
    simp only [List.mem_cons, List.not_mem_nil, or_false] at hp
    rcases hp with rfl | rfl | rfl
    · exact h
    · exact h2
    · exact h3) hB (by rw [e, e2]; exact hN) (by simp)
  rw [e, e2] at this
  exact this
theorem join_one (A : Option Addr) (n c : Nat) (l : List UInt8) (B : Nat) (W : World) (h : Byt W B A n l) (hB : B ≤ W.heap.size) (hN : n ≤ 1099511627776) :
    Calls Try.prog 32 #[.slice (some ⟨W.heap.size, 0, none⟩) 1 1] (W.alloc (.cells #[.slice A n c] 39)) fun e w' =>
      e = .returned (.slice (some ⟨W.heap.size + 1, 0, none⟩) n n) ∧ RowAt w' (W.heap.size + 1) (vals l) ∧ Below W.heap.size W w' := by
  have e : cat [⟨A, n, c, l⟩] = l := by simp [cat]
  have := join_of [⟨A, n, c, l⟩] B W (by
    intro p hp
    simp only [List.mem_cons, List.not_mem_nil, or_false] at hp
    subst hp
    exact h) hB (by rw [e, h.1]; exact hN) (by simp)
  rw [e, h.1] at this
  exact this

theorem uvarF_len (f v : Nat) : (uvarF f v).length ≤ f := by
  induction f generalizing v with
  | zero => simp [uvarF]
  | succ f ih =>
    show (if v < 128 then _ else _ : List UInt8).length ≤ _
    split
    · simp
    · simp only [List.length_cons]; have := ih (v / 128); omega
theorem uvar_len (v : Nat) : (uvar v).length ≤ 10 := uvarF_len 10 v
theorem RowAt.byt' {w : World} {B g m : Nat} {l : List UInt8} (h : RowAt w g (vals l)) (hg : g < B) (hm : l.length = m) : Byt w B (some ⟨g, 0, none⟩) m l := by
  have h' : RowT w g 5 (vals l ++ []) := by rw [List.append_nil]; exact h
  exact h'.byt hg hm

end Go.Proofs.Ytndppbfdcceflaa
