/-
  The contracts of the decoders of signed variable-length integers and of the reference's zigzag functions and appending functions: the program's and the reference's agree.
  Conditions: the argument reads as a list of bytes of at most 2^32 elements.
-/
import Derived.Test.YthndjngimfoanaaUvd
namespace Go.Proofs.Ythndjngimfoanaa
open Go.RowKit

def unzz (u : Nat) : Int := if u % 2 = 1 then -((u / 2 : Nat) : Int) - 1 else ((u / 2 : Nat) : Int)
theorem unzz_zz (v : Int) : unzz (zz v) = v := by
  unfold zz; split
  · unfold unzz; rw [if_pos (by omega)]; omega
  · unfold unzz; rw [if_neg (by omega)]; omega

theorem uvD_facts (l : List UInt8) (o : Nat) : ∀ (f k acc : Nat), f + k = 10 → acc < 128 ^ k → (uvD l o f k acc).1 < 18446744073709551616 ∧ ((uvD l o f k acc).2.2 ≠ 0 → (uvD l o f k acc).1 = 0 ∧ (uvD l o f k acc).2.1 = 0)
  | 0, k, acc, _, _ => by simp [uvD]
  | f + 1, k, acc, hf, ha => by
    have hbt := bt_lt l (o + k)
    by_cases h1 : l.length ≤ o + k
    · rw [uvD_end rfl rfl h1]; simp
    · by_cases h2 : k = 9 ∧ 1 < bt l (o + k)
      · rw [uvD_range rfl rfl (by omega) rfl h2.1 h2.2]; simp
      · by_cases h3 : 0 < k ∧ bt l (o + k) = 0
        · rw [uvD_canon rfl rfl (by omega) rfl h2 h3.1 h3.2]; simp
        · by_cases h4 : bt l (o + k) < 128
          · rw [uvD_last rfl rfl (by omega) rfl h2 h3 h4]
            refine ⟨?_, fun h => absurd rfl h⟩
            show acc + bt l (o + k) * 128 ^ k < _
            by_cases h9 : k = 9
            · subst h9
              have e9 : (128 : Nat) ^ 9 = 9223372036854775808 := by decide
              rw [e9] at ha ⊢
              have : bt l (o + 9) ≤ 1 := by omega
              have := Nat.mul_le_mul_right 9223372036854775808 this
              omega
            · have hs := pow_step acc (bt l (o + k)) k ha h4
              have : 128 ^ (k + 1) ≤ 128 ^ 9 := Nat.pow_le_pow_right (by omega) (by omega)
              have e9 : (128 : Nat) ^ 9 = 9223372036854775808 := by decide
              omega
          · rw [uvD_more rfl rfl (by omega) rfl h2 h3 h4]
            exact uvD_facts l o f (k + 1) _ (by omega) (pow_step acc (bt l (o + k) - 128) k ha (by omega))
theorem uvR_facts (l : List UInt8) (off : Int) : (uvR l off).1 < 18446744073709551616 ∧ ((uvR l off).2.2 ≠ 0 → (uvR l off).1 = 0 ∧ (uvR l off).2.1 = 0) := by
  unfold uvR; split
  · simp
  · exact uvD_facts l _ 10 0 0 rfl (by omega)

theorem i64_xor_ones (a : Nat) (ha : a < 9223372036854775808) : bits .xor .i64 (a : Int) (-1) = -(a : Int) - 1 := by
  show IntKind.i64.wrap ((BitVec.ofInt 64 (a : Int) ^^^ BitVec.ofInt 64 (-1)).toNat : Int) = _
  have e1 : BitVec.ofInt 64 (-1) = BitVec.allOnes 64 := by decide
  rw [e1, BitVec.xor_allOnes, BitVec.toNat_not, BitVec.ofInt_natCast, BitVec.toNat_ofNat, Nat.mod_eq_of_lt (by omega), IntKind.wrap_i64]
  omega
theorem i64_xor_zero (a : Nat) (ha : a < 9223372036854775808) : bits .xor .i64 (a : Int) 0 = (a : Int) := by
  show IntKind.i64.wrap ((BitVec.ofInt 64 (a : Int) ^^^ BitVec.ofInt 64 0).toNat : Int) = _
  have e1 : BitVec.ofInt 64 0 = 0#64 := by decide
  rw [e1, BitVec.xor_zero, BitVec.ofInt_natCast, BitVec.toNat_ofNat, Nat.mod_eq_of_lt (by omega), IntKind.wrap_i64]
  omega
theorem u64_low (u : Nat) (h : u < 18446744073709551616) : bits .and .u64 (u : Int) 1 = ((u % 2 : Nat) : Int) := by
  have := u64_and_nat u 1 h (by omega); rw [nat_mask1] at this; exact this
/-- The program's expression for the signed value. -/
theorem unzz_bits (u : Nat) (h : u < 18446744073709551616) :
    bits .xor .i64 (IntKind.i64.wrap ((u : Int) / 2)) (IntKind.i64.wrap (-(IntKind.i64.wrap (bits .and .u64 (u : Int) 1)))) = unzz u := by
  rw [u64_low u h]
  have e1 : IntKind.i64.wrap ((u : Int) / 2) = ((u / 2 : Nat) : Int) := by rw [IntKind.wrap_i64]; omega
  rw [e1]
  unfold unzz
  by_cases ho : u % 2 = 1
  · have e2 : IntKind.i64.wrap (-(IntKind.i64.wrap ((u % 2 : Nat) : Int))) = -1 := by rw [ho]; decide
    rw [e2, if_pos ho, i64_xor_ones _ (by omega)]
  · have e2 : IntKind.i64.wrap (-(IntKind.i64.wrap ((u % 2 : Nat) : Int))) = 0 := by rw [show u % 2 = 0 by omega]; decide
    rw [e2, if_neg ho, i64_xor_zero _ (by omega)]

def vrR (l : List UInt8) (off : Int) : Int := unzz (uvR l off).1

set_option maxRecDepth 20000 in
set_option maxHeartbeats 800000 in
theorem varint_any (A : Option Addr) (n c0 B : Nat) (off : Int) (l : List UInt8) (w : World) (h : Byt w B A n l) (hn : n ≤ 4294967296) :
    Calls Try.prog 25 #[.slice A n c0, .int .i64 off] w fun e w' => e = .returned (.tuple #[.int .i64 (vrR l off), .int .i64 ((uvR l off).2.1 : Nat), .int .i64 (uvR l off).2.2]) ∧ w = w' := by
  have HC := Lib.hid (uvarint_any A n c0 B off l w h hn)
  have hu := unzz_bits _ (uvR_facts l off).1
  simp only [IntWalk.i64_left] at hu
  have HU := Lib.hid hu
  clear hu
  clear h
  go_enter Try.func25, Try.ntmps25
  go_wp2_with fail
  refine HC.out.mono ?_
  rintro e w1 ⟨rfl, rfl⟩
  go_wp2
  go_ret3
  exact ⟨ret_three HU.out rfl rfl, rfl⟩

theorem unzigzag_any (u : Nat) (w : World) (hu : u < 18446744073709551616) :
    Calls Try.prog 43 #[.int .u64 (u : Int)] w fun e w' => e = .returned (.int .i64 (unzz u)) ∧ w = w' := by
  have HU := Lib.hid hu
  by_cases ho : u % 2 = 1
  · have h1 : bits .and .u64 (u : Int) 1 = 1 := by rw [u64_low u hu, ho]; rfl
    have HE := Lib.hid (show IntKind.i64.wrap (IntKind.i64.wrap (-IntKind.i64.wrap ((u : Int) / 2)) - 1) = unzz u by
      unfold unzz; rw [if_pos ho]; simp only [IntKind.wrap_i64]; omega)
    clear hu ho
    go_enter Try.func43, Try.ntmps43
    go_wp2
    go_ret
    have := HE.out
    simp only [IntWalk.i64_left] at this
    exact ⟨ret_k this, rfl⟩
  · have h1 : bits .and .u64 (u : Int) 1 = 0 := by rw [u64_low u hu, show u % 2 = 0 by omega]; rfl
    have HE := Lib.hid (show IntKind.i64.wrap ((u : Int) / 2) = unzz u by
      unfold unzz; rw [if_neg ho]; simp only [IntKind.wrap_i64]; omega)
    clear hu ho
    go_enter Try.func43, Try.ntmps43
    go_wp2
    go_ret
    have := HE.out
    simp only [IntWalk.i64_left] at this
    exact ⟨ret_k this, rfl⟩
theorem zigzag_any (v : Int) (w : World) (h0 : -9223372036854775808 ≤ v) (h1 : v ≤ 9223372036854775807) :
    Calls Try.prog 30 #[.int .i64 v] w fun e w' => e = .returned (.int .u64 (zz v : Nat)) ∧ w = w' := by
  have H0 := Lib.hid h0
  have H1 := Lib.hid h1
  by_cases hv : v < 0
  · have e1 : wrap64 (v + 1) = v + 1 := by rw [← IntWalk.i64_left, IntKind.wrap_i64]; omega
    have HE := Lib.hid (show ((zz v : Nat) : Int) = 2 * (-(v + 1)) + 1 by unfold zz; rw [if_pos hv]; omega)
    go_enter Try.func30, Try.ntmps30
    go_wp2
    go_ret
    exact ⟨ret_k HE.out.symm, rfl⟩
  · have HE := Lib.hid (show ((zz v : Nat) : Int) = 2 * v by unfold zz; rw [if_neg hv]; omega)
    clear h0
    go_enter Try.func30, Try.ntmps30
    go_wp2
    go_ret
    exact ⟨ret_k HE.out.symm, rfl⟩


set_option maxRecDepth 20000 in
set_option maxHeartbeats 800000 in
theorem varintRef_any (A : Option Addr) (n c0 B : Nat) (off : Int) (l : List UInt8) (w : World) (h : Byt w B A n l) (hn : n ≤ 4294967296) :
    Calls Try.prog 26 #[.slice A n c0, .int .i64 off] w fun e w' => e = .returned (.tuple #[.int .i64 (vrR l off), .int .i64 ((uvR l off).2.1 : Nat), .int .i64 (uvR l off).2.2]) ∧ w = w' := by
  have hc := uvarintRef_any A n c0 B off l w h hn
  have hf := uvR_facts l off
  unfold vrR
  obtain ⟨R, hR⟩ : ∃ R, R = uvR l off := ⟨_, rfl⟩
  rw [← hR] at hc hf ⊢
  obtain ⟨u, nx, er⟩ := R
  simp only at hc hf ⊢
  have HC := Lib.hid hc
  have HF := Lib.hid hf
  clear hc hf hR h
  by_cases he : er = 0
  · have HZ := Lib.hid (unzigzag_any u w HF.out.1)
    subst he
    go_enter Try.func26, Try.ntmps26
    go_wp2_with fail
    refine HC.out.mono ?_
    rintro e w1 ⟨rfl, rfl⟩
    go_wp2_with fail
    refine HZ.out.mono ?_
    rintro e w1 ⟨rfl, rfl⟩
    go_wp2
    go_ret3
    exact ⟨rfl, rfl⟩
  · obtain ⟨rfl, rfl⟩ := HF.out.2 he
    have he' : (er != 0) = true := by simpa using he
    go_enter Try.func26, Try.ntmps26
    go_wp2_with fail
    refine HC.out.mono ?_
    rintro e w1 ⟨rfl, rfl⟩
    go_wp2
    go_ret3
    exact ⟨rfl, rfl⟩

theorem and127_64 (x : Nat) (h : x < 18446744073709551616) : bits .and .u64 (x : Int) 127 = ((x % 128 : Nat) : Int) := by
  have e := u64_and_nat x 127 h (by omega); rw [nat_mask7] at e; exact e
theorem or128_64 (x : Nat) : bits .or .u64 ((x : Int) % 128) 128 = ((x % 128 + 128 : Nat) : Int) := by
  have e := u64_or_nat (x % 128) 128 (by omega) (by omega)
  rw [show ((x : Int) % 128) = ((x % 128 : Nat) : Int) by omega]
  refine e.trans ?_
  rw [Nat.or_comm, nat_join 7 128 (x % 128) (by omega) (by omega), Nat.add_comm]

set_option maxRecDepth 20000 in
set_option maxHeartbeats 800000 in
theorem appURef_any (A : Option Addr) (n c B v : Nat) (l : List UInt8) (w : World) (h : Byt w B A n l) (hn : n ≤ 4294967296) (hv : v < 18446744073709551616) :
    Calls Try.prog 28 #[.slice A n c, .int .u64 (v : Int)] w fun e w' => ∃ t, e = .returned t ∧ Grow w w' t (l ++ uvar v) := by
  have HL := Lib.hid h.1
  obtain ⟨v1, w1, hrun1, hg1⟩ := Grow.start c h hn
  have HR1 := Lib.hid hrun1
  have HG1 := Lib.hid hg1
  have HV := Lib.hid hv
  clear hrun1 hg1 h hv
  go_enter Try.func28, Try.ntmps28
  go_wp2_with (at_builtin; refine wpList_app_run HR1.out rfl rfl rfl rfl rfl ?_)
  go_loopw [1, 5] (fun i t wr => ∃ (k x : Nat) (pre : List UInt8), k ≤ 9 ∧ i = .int .u64 (x : Int) ∧ Hid (uvar v = pre ++ uvarF (10 - k) x) ∧ Hid (pre.length = k) ∧ Hid (x * 128 ^ k ≤ v) ∧ Hid (Grow w wr t (l ++ pre))) (fun i _ _ => (intOf i).toNat)
  case atStart => exact ⟨0, v, [], by omega, rfl, Lib.hid rfl, Lib.hid rfl, Lib.hid (by omega), by rw [List.append_nil]; exact HG1⟩
  case round =>
    obtain ⟨k, x, pre, hk, rfl, HE, HP, HX, HG⟩ := hrel
    have hx64 : x < 18446744073709551616 := by
      have h1 := Nat.le_mul_of_pos_right x (Nat.pow_pos (n := k) (show 0 < 128 by omega))
      have h2 := HX.out
      have h3 := HV.out
      omega
    have h127 := and127_64 x hx64
    have h128 := or128_64 x
    clear hx64
    have hlen : (l ++ pre).length ≤ 1099511627775 := by rw [List.length_append, HL.out, HP.out]; omega
    by_cases hge : 128 ≤ x
    · have hk8 := more_le HX.out hge HV.out
      obtain ⟨v2, w2, hrun2, hg2⟩ := HG.out.push (UInt8.ofNat (x % 128 + 128)) hlen
      rw [show ((UInt8.ofNat (x % 128 + 128)).toNat : Int) = ((x % 128 + 128 : Nat) : Int) by rw [UInt8.toNat_ofNat']; omega] at hrun2
      obtain ⟨y, hy⟩ : ∃ y, y = x % 128 + 128 := ⟨_, rfl⟩
      have hy2 : y < 256 := by omega
      rw [← hy] at hrun2 h128
      clear hy
      have HR2 := Lib.hid hrun2
      have HG2 := Lib.hid hg2
      clear hrun2 hg2
      go_wp2_with (at_builtin; refine wpList_app_run HR2.out rfl rfl rfl rfl rfl ?_)
      go_roundw
      case rel =>
        refine ⟨k + 1, x / 128, pre ++ [UInt8.ofNat (x % 128 + 128)], by omega, by go_num, Lib.hid ?_, Lib.hid ?_, Lib.hid (more_next HX.out), Lib.hid ?_⟩
        · rw [HE.out, show 10 - k = (10 - (k + 1)) + 1 by omega, uvarF_more _ _ hge, List.append_assoc]; rfl
        · rw [List.length_append, HP.out]; rfl
        · rw [← List.append_assoc]; exact HG2.out
      case measure => simp [intOf]; omega
    · obtain ⟨v2, w2, hrun2, hg2⟩ := HG.out.push (UInt8.ofNat x) hlen
      rw [show ((UInt8.ofNat x).toNat : Int) = (x : Int) by rw [UInt8.toNat_ofNat']; omega] at hrun2
      have HR2 := Lib.hid hrun2
      have HG2 := Lib.hid hg2
      clear hrun2 hg2
      go_wp2_with (at_builtin; refine wpList_app_run HR2.out rfl rfl rfl rfl rfl ?_)
      go_ret
      refine ⟨_, rfl, ?_⟩
      rw [HE.out, show 10 - k = (10 - (k + 1)) + 1 by omega, uvarF_last _ _ (by omega), ← List.append_assoc]
      exact HG2.out

end Go.Proofs.Ythndjngimfoanaa
