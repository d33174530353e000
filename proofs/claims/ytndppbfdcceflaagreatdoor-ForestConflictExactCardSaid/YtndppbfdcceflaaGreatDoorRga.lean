/-
  Ranges as plain data: validity, containment, overlapping, halves; counting the points of sets. Plain mathematics.
  Conditions: as each theorem says.
-/
import Derived.Test.YtndppbfdcceflaaGreatDoorRow
import Derived.Deep.DeepFit
namespace Go.Proofs.YtndppbfdcceflaaGreatDoor

open Go.RowKit

structure GR where
  base : Int
  bits : Int
deriving DecidableEq
def GR.val (r : GR) : Value := .agg #[.int .i64 r.base, .int .i64 r.bits]
def GR.cells (r : GR) : List Value := [.int .i64 r.base, .int .i64 r.bits]
theorem GR.len (x : GR) : x.cells.length = 2 := rfl
theorem GR.one (x : GR) : ∀ u ∈ x.cells, u.oneCell' = true := by intro u hu; simp [GR.cells] at hu; rcases hu with rfl | rfl <;> rfl
def pw (n : Int) : Int := 2 ^ n.toNat
theorem pw_pos (n : Int) : 0 < pw n := Int.pow_pos (by omega)
theorem pw_succ {n : Int} (h : 0 ≤ n) : pw (n + 1) = 2 * pw n := by
  unfold pw
  rw [show (n + 1).toNat = n.toNat + 1 by omega, Int.pow_succ, Int.mul_comm]
theorem pw_half {n : Int} (h : 1 ≤ n) : pw n = 2 * pw (n - 1) := by
  have := pw_succ (n := n - 1) (by omega)
  rw [show n - 1 + 1 = n by omega] at this
  exact this
theorem pw_dvd {m n : Int} (h : m ≤ n) (h0 : 0 ≤ m) : ∃ q : Int, 0 < q ∧ pw n = q * pw m := by
  refine ⟨2 ^ (n - m).toNat, Int.pow_pos (by omega), ?_⟩
  unfold pw
  rw [← Int.pow_add, show (n - m).toNat + m.toNat = n.toNat by omega]
theorem pw_le {m n : Int} (h : m ≤ n) (h0 : 0 ≤ m) : pw m ≤ pw n := by
  obtain ⟨q, hq, e⟩ := pw_dvd h h0
  rw [e]
  have := Int.mul_le_mul_of_nonneg_right (show (1 : Int) ≤ q by omega) (Int.le_of_lt (pw_pos m))
  omega
theorem pw_lt {m n : Int} (h : m < n) (h0 : 0 ≤ m) : pw m < pw n := by
  have h1 := pw_le (m := m + 1) (n := n) (by omega) (by omega)
  have h2 := pw_succ h0
  have := pw_pos m
  omega
def GR.sz (r : GR) : Int := pw r.bits
structure VR (r : GR) : Prop where
  lo : 6 ≤ r.bits
  hi : r.bits ≤ 40
  b0 : 0 ≤ r.base
  al : r.base % r.sz = 0
  top : r.base + r.sz ≤ 1099511627776
instance (r : GR) : Decidable (VR r) := decidable_of_iff (6 ≤ r.bits ∧ r.bits ≤ 40 ∧ 0 ≤ r.base ∧ r.base % r.sz = 0 ∧ r.base + r.sz ≤ 1099511627776)
  ⟨fun h => ⟨h.1, h.2.1, h.2.2.1, h.2.2.2.1, h.2.2.2.2⟩, fun h => ⟨h.lo, h.hi, h.b0, h.al, h.top⟩⟩
def vR (r : GR) : Bool := decide (VR r)
theorem vR_iff {r : GR} : vR r = true ↔ VR r := by simp [vR]
theorem vR_not {r : GR} : vR r = false ↔ ¬ VR r := by simp [vR]
def endR (r : GR) : Int := if vR r then r.base + r.sz else 0
theorem VR.endR {r : GR} (h : VR r) : endR r = r.base + r.sz := by unfold Go.Proofs.YtndppbfdcceflaaGreatDoor.endR; rw [if_pos (vR_iff.2 h)]
def conR (a b : GR) : Bool := vR a && vR b && decide (a.base ≤ b.base) && decide (endR b ≤ endR a)
def ovR (a b : GR) : Bool := vR a && vR b && decide (a.base < endR b) && decide (b.base < endR a)
def inR (r : GR) (i : Int) : Bool := vR r && decide (r.base ≤ i) && decide (i < r.base + r.sz)
theorem con_iff {a b : GR} : conR a b = true ↔ VR a ∧ VR b ∧ a.base ≤ b.base ∧ b.base + b.sz ≤ a.base + a.sz := by
  unfold conR
  by_cases ha : VR a
  · by_cases hb : VR b
    · rw [ha.endR, hb.endR, vR_iff.2 ha, vR_iff.2 hb]; simp [ha, hb]
    · rw [vR_not.2 hb]; simp [hb]
  · rw [vR_not.2 ha]; simp [ha]
theorem ov_iff {a b : GR} : ovR a b = true ↔ VR a ∧ VR b ∧ a.base < b.base + b.sz ∧ b.base < a.base + a.sz := by
  unfold ovR
  by_cases ha : VR a
  · by_cases hb : VR b
    · rw [ha.endR, hb.endR, vR_iff.2 ha, vR_iff.2 hb]; simp [ha, hb]
    · rw [vR_not.2 hb]; simp [hb]
  · rw [vR_not.2 ha]; simp [ha]
theorem in_iff {r : GR} {i : Int} : inR r i = true ↔ VR r ∧ r.base ≤ i ∧ i < r.base + r.sz := by
  unfold inR
  by_cases ha : VR r
  · rw [vR_iff.2 ha]; simp [ha]
  · rw [vR_not.2 ha]; simp [ha]
theorem sz_pos (r : GR) : 0 < r.sz := pw_pos _
theorem ov_comm (a b : GR) : ovR a b = ovR b a := by
  rw [Bool.eq_iff_iff, ov_iff, ov_iff]
  constructor <;> (rintro ⟨h1, h2, h3, h4⟩; exact ⟨h2, h1, h4, h3⟩)
theorem ov_self {a : GR} (h : VR a) : ovR a a = true := by rw [ov_iff]; have := sz_pos a; exact ⟨h, h, by omega, by omega⟩
theorem ov_in {a b : GR} : ovR a b = true ↔ ∃ i, inR a i = true ∧ inR b i = true := by
  rw [ov_iff]
  constructor
  · rintro ⟨h1, h2, h3, h4⟩
    have := sz_pos a
    have := sz_pos b
    rcases Int.le_total a.base b.base with h | h
    · exact ⟨b.base, in_iff.2 ⟨h1, h, h4⟩, in_iff.2 ⟨h2, by omega, by omega⟩⟩
    · exact ⟨a.base, in_iff.2 ⟨h1, by omega, by omega⟩, in_iff.2 ⟨h2, h, h3⟩⟩
  · rintro ⟨i, ha, hb⟩
    rw [in_iff] at ha hb
    exact ⟨ha.1, hb.1, by omega, by omega⟩
theorem con_in {a b : GR} (h : conR a b = true) {i : Int} (hi : inR b i = true) : inR a i = true := by
  rw [con_iff] at h
  rw [in_iff] at hi ⊢
  exact ⟨h.1, by omega, by omega⟩
theorem con_ov {a b : GR} (h : conR a b = true) : ovR a b = true := by
  have h' := con_iff.1 h
  have := sz_pos b
  exact ov_in.2 ⟨b.base, con_in h (in_iff.2 ⟨h'.2.1, by omega, by omega⟩), in_iff.2 ⟨h'.2.1, by omega, by omega⟩⟩
theorem con_refl {a : GR} (h : VR a) : conR a a = true := con_iff.2 ⟨h, h, by omega, by omega⟩
theorem con_trans {a b c : GR} (h1 : conR a b = true) (h2 : conR b c = true) : conR a c = true := by
  rw [con_iff] at *
  exact ⟨h1.1, h2.2.1, by omega, by omega⟩
theorem ov_mono {a b c : GR} (h1 : conR a b = true) (h2 : ovR b c = true) : ovR a c = true := by
  obtain ⟨i, hb, hc⟩ := ov_in.1 h2
  exact ov_in.2 ⟨i, con_in h1 hb, hc⟩
/-- Of two ranges that overlap the one that isn't smaller contains the other. -/
theorem nest {a b : GR} (h : ovR a b = true) (hb : a.bits ≤ b.bits) : conR b a = true := by
  rw [ov_iff] at h
  obtain ⟨ha, hb', h1, h2⟩ := h
  rw [con_iff]
  refine ⟨hb', ha, ?_⟩
  obtain ⟨q, hq, e⟩ := pw_dvd hb (by have := ha.lo; omega)
  have ea := Int.mul_ediv_add_emod a.base a.sz
  have eb := Int.mul_ediv_add_emod b.base b.sz
  rw [ha.al, Int.add_zero] at ea
  rw [hb'.al, Int.add_zero] at eb
  have hs := sz_pos a
  have hbs : b.sz = q * a.sz := e
  rw [hbs] at eb h1 ⊢
  generalize a.base / a.sz = x at *
  generalize b.base / (q * a.sz) = y at *
  generalize a.sz = s at *
  rw [← ea] at h1 h2 ⊢
  rw [← eb] at h1 h2 ⊢
  have e1 : q * s * y = (q * y) * s := by rw [Int.mul_assoc, Int.mul_comm s y, ← Int.mul_assoc]
  have e2 : s * x = x * s := Int.mul_comm _ _
  rw [e1, e2] at h1 h2 ⊢
  have h3 : x < q * y + q := Int.lt_of_mul_lt_mul_right (a := s) (by rw [Int.add_mul]; exact h1) (Int.le_of_lt hs)
  have h4 : q * y < x + 1 := Int.lt_of_mul_lt_mul_right (a := s) (by rw [Int.add_mul, Int.one_mul]; exact h2) (Int.le_of_lt hs)
  have h5 := Int.mul_le_mul_of_nonneg_right (show q * y ≤ x by omega) (Int.le_of_lt hs)
  have h6 := Int.mul_le_mul_of_nonneg_right (show x + 1 ≤ q * y + q by omega) (Int.le_of_lt hs)
  rw [Int.add_mul, Int.one_mul] at h6
  rw [Int.add_mul] at h6
  exact ⟨h5, h6⟩
theorem con_bits {a b : GR} (h : conR a b = true) : b.bits ≤ a.bits := by
  rw [con_iff] at h
  obtain ⟨ha, hb, h1, h2⟩ := h
  rcases Int.lt_or_le a.bits b.bits with h3 | h3
  · have := pw_lt h3 (by have := ha.lo; omega)
    unfold GR.sz at h2
    omega
  · exact h3
theorem con_eq {a b : GR} (h : conR a b = true) (hb : a.bits = b.bits) : a = b := by
  rw [con_iff] at h
  obtain ⟨_, _, h1, h2⟩ := h
  unfold GR.sz at h2
  rw [hb] at h2
  obtain ⟨x, n⟩ := a
  obtain ⟨y, m⟩ := b
  simp only at *
  rw [hb, show x = y by omega]
def lowR (r : GR) : GR := ⟨r.base, r.bits - 1⟩
def highR (r : GR) : GR := ⟨r.base + pw (r.bits - 1), r.bits - 1⟩
structure HalfR (r : GR) : Prop where
  low : VR (lowR r)
  high : VR (highR r)
  cl : conR r (lowR r) = true
  ch : conR r (highR r) = true
  sl : (lowR r).sz + (highR r).sz = r.sz
  hb : (highR r).base = r.base + (lowR r).sz
theorem halves {r : GR} (h : VR r) (h6 : r.bits ≠ 6) : HalfR r := by
  have hl := h.lo
  have h0 := pw_half (n := r.bits) (by omega)
  have hp := pw_pos (r.bits - 1)
  have hal : r.base % pw r.bits = 0 := h.al
  have htop : r.base + pw r.bits ≤ 1099511627776 := h.top
  have hb0 := h.b0
  have hhi := h.hi
  have ea := Int.mul_ediv_add_emod r.base (pw r.bits)
  rw [hal, Int.add_zero] at ea
  have a1 : r.base % pw (r.bits - 1) = 0 := by
    rw [← ea, h0, Int.mul_comm 2, Int.mul_assoc]; exact Int.mul_emod_right _ _
  have a2 : (r.base + pw (r.bits - 1)) % pw (r.bits - 1) = 0 := by
    rw [Int.add_emod_right, a1]
  have v1 : VR (lowR r) := ⟨by simp only [lowR]; omega, by simp only [lowR]; omega, hb0, a1, by simp only [lowR, GR.sz]; omega⟩
  have v2 : VR (highR r) := ⟨by simp only [highR]; omega, by simp only [highR]; omega, by simp only [highR]; omega, a2, by simp only [highR, GR.sz]; omega⟩
  exact ⟨v1, v2, con_iff.2 ⟨h, v1, by simp only [lowR]; omega, by simp only [lowR, GR.sz]; omega⟩, con_iff.2 ⟨h, v2, by simp only [highR]; omega, by simp only [highR, GR.sz]; omega⟩,
    by simp only [lowR, highR, GR.sz]; omega, rfl⟩
theorem in_halves {r : GR} (h : VR r) (h6 : r.bits ≠ 6) {i : Int} (hi : inR r i = true) : inR (lowR r) i = true ∨ inR (highR r) i = true := by
  have H := halves h h6
  have h1 := H.sl
  have h2 := H.hb
  have h3 : (lowR r).base = r.base := rfl
  rw [in_iff] at hi
  rcases Int.lt_or_le i (highR r).base with h4 | h4
  · exact .inl (in_iff.2 ⟨H.low, by omega, by omega⟩)
  · exact .inr (in_iff.2 ⟨H.high, h4, by omega⟩)

/-- How many of the n numbers from a on are so. -/
def cnt (P : Int → Bool) (a : Int) : Nat → Int
  | 0 => 0
  | n + 1 => cnt P a n + (if P (a + n) = true then 1 else 0)
theorem cnt_add (P : Int → Bool) (a : Int) (m : Nat) : ∀ n : Nat, cnt P a (m + n) = cnt P a m + cnt P (a + m) n
  | 0 => by simp [cnt]
  | n + 1 => by
    rw [← Nat.add_assoc, cnt, cnt, cnt_add P a m n, show a + (m + n : Nat) = a + m + n by omega]; omega
theorem cnt_congr {P Q : Int → Bool} {a : Int} : ∀ {n : Nat}, (∀ i, a ≤ i → i < a + n → P i = Q i) → cnt P a n = cnt Q a n
  | 0, _ => rfl
  | n + 1, h => by rw [cnt, cnt, cnt_congr fun i h1 h2 => h i h1 (by omega), h (a + n) (by omega) (by omega)]
theorem cnt_all {P : Int → Bool} {a : Int} : ∀ {n : Nat}, (∀ i, a ≤ i → i < a + n → P i = true) → cnt P a n = n
  | 0, _ => rfl
  | n + 1, h => by rw [cnt, cnt_all fun i h1 h2 => h i h1 (by omega), if_pos (h (a + n) (by omega) (by omega))]; omega
theorem cnt_none {P : Int → Bool} {a : Int} : ∀ {n : Nat}, (∀ i, a ≤ i → i < a + n → P i = false) → cnt P a n = 0
  | 0, _ => rfl
  | n + 1, h => by rw [cnt, cnt_none fun i h1 h2 => h i h1 (by omega), if_neg (by rw [h (a + n) (by omega) (by omega)]; simp)]; omega
theorem cnt_mono {P Q : Int → Bool} {a : Int} : ∀ {n : Nat}, (∀ i, a ≤ i → i < a + n → P i = true → Q i = true) → cnt P a n ≤ cnt Q a n
  | 0, _ => Int.le_refl _
  | n + 1, h => by
    rw [cnt, cnt]
    have h1 := cnt_mono (n := n) fun i h1 h2 => h i h1 (by omega)
    have h2 := h (a + n) (by omega) (by omega)
    by_cases hp : P (a + n) = true
    · rw [if_pos hp, if_pos (h2 hp)]; omega
    · rw [if_neg hp]; split <;> omega
theorem cnt_or {P Q : Int → Bool} {a : Int} : ∀ {n : Nat}, (∀ i, a ≤ i → i < a + n → ¬ (P i = true ∧ Q i = true)) → cnt (fun i => P i || Q i) a n = cnt P a n + cnt Q a n
  | 0, _ => rfl
  | n + 1, h => by
    rw [cnt, cnt, cnt, cnt_or fun i h1 h2 => h i h1 (by omega)]
    have h2 := h (a + n) (by omega) (by omega)
    cases hp : P (a + n) <;> cases hq : Q (a + n) <;> simp_all <;> omega
theorem cnt_or_le {P Q : Int → Bool} {a : Int} : ∀ {n : Nat}, cnt (fun i => P i || Q i) a n ≤ cnt P a n + cnt Q a n
  | 0 => Int.le_refl _
  | n + 1 => by
    rw [cnt, cnt, cnt]
    have := cnt_or_le (P := P) (Q := Q) (a := a) (n := n)
    cases hp : P (a + n) <;> cases hq : Q (a + n) <;> simp <;> omega
theorem cnt_nonneg (P : Int → Bool) (a : Int) : ∀ n : Nat, 0 ≤ cnt P a n
  | 0 => Int.le_refl _
  | n + 1 => by rw [cnt]; have := cnt_nonneg P a n; split <;> omega
/-- Where all that is so lies from b on and is at most m numbers, one may count there. -/
theorem cnt_part {P : Int → Bool} {a b : Int} {n m : Nat} (h1 : a ≤ b) (h2 : b + m ≤ a + n) (h : ∀ i, a ≤ i → i < a + n → P i = true → b ≤ i ∧ i < b + m) : cnt P a n = cnt P b m := by
  obtain ⟨x, hx⟩ : ∃ x : Nat, b = a + x := ⟨(b - a).toNat, by omega⟩
  obtain ⟨y, hy⟩ : ∃ y : Nat, n = x + m + y := ⟨n - x - m, by omega⟩
  subst hx hy
  rw [cnt_add, cnt_add, cnt_none (P := P) (a := a) (n := x), cnt_none (P := P) (n := y)]
  · omega
  · intro i h3 h4
    cases hp : P i
    · rfl
    · have := h i (by omega) (by omega) hp; omega
  · intro i h3 h4
    cases hp : P i
    · rfl
    · have := h i (by omega) (by omega) hp; omega
theorem cnt_point {P Q : Int → Bool} {a : Int} {n : Nat} (h : ∀ i, a ≤ i → i < a + n → P i = true → Q i = true) {x : Int} (h1 : a ≤ x) (h2 : x < a + n) (hp : P x = false) (hq : Q x = true) : cnt P a n < cnt Q a n := by
  obtain ⟨k, hk⟩ : ∃ k : Nat, x = a + k := ⟨(x - a).toNat, by omega⟩
  obtain ⟨m, hm⟩ : ∃ m : Nat, n = k + (1 + m) := ⟨n - k - 1, by omega⟩
  subst hk hm
  rw [cnt_add P a k, cnt_add P (a + k) 1, cnt_add Q a k, cnt_add Q (a + k) 1]
  have e1 : cnt P (a + k) 1 = 0 := by simp [cnt, hp]
  have e2 : cnt Q (a + k) 1 = 1 := by simp [cnt, hq]
  have l1 := cnt_mono (P := P) (Q := Q) (a := a) (n := k) fun i h3 h4 => h i h3 (by omega)
  have l2 := cnt_mono (P := P) (Q := Q) (a := a + k + (1 : Nat)) (n := m) fun i h3 h4 => h i (by omega) (by omega)
  rw [e1, e2]
  omega
end Go.Proofs.YtndppbfdcceflaaGreatDoor
