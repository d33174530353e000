/-
  Ranges as plain data: validity, containment, overlapping, halves; counting the points of sets. Plain mathematics.
  Conditions: as each theorem says.
  The free ranges of a range as a plain function, and what they are; the first of a size. Plain mathematics.
  Conditions: as each theorem says.
-/
import Derived.Test.YtnoegjfokceghaaMc6
import Derived.Deep.DeepFit
namespace Go.Proofs.Ytnoegjfokceghaa

open Go.RowKit

structure GR where
  base : Int
  bits : Int
deriving DecidableEq
def GR.val (r : GR) : Value := .agg #[.int .i64 r.base, .int .i64 r.bits]
def GR.cells (r : GR) : List Value := [.int .i64 r.base, .int .i64 r.bits]
theorem GR.len (x : GR) : x.cells.length = 2 := rfl
theorem GR.one (x : GR) : ∀ u ∈ x.cells, u.oneCell' = true := by intro u hu; simp [GR.cells] at hu; rcases hu with rfl | rfl <;> rfl
def pw (n : Int) : Int := 2 ^ n.toNat
theorem pw_pos (n : Int) : 0 < pw n := Int.pow_pos (by omega)
theorem pw_succ {n : Int} (h : 0 ≤ n) : pw (n + 1) = 2 * pw n := by
  unfold pw
  rw [show (n + 1).toNat = n.toNat + 1 by omega, Int.pow_succ, Int.mul_comm]
theorem pw_half {n : Int} (h : 1 ≤ n) : pw n = 2 * pw (n - 1) := by
  have := pw_succ (n := n - 1) (by omega)
  rw [show n - 1 + 1 = n by omega] at this
  exact this
theorem pw_dvd {m n : Int} (h : m ≤ n) (h0 : 0 ≤ m) : ∃ q : Int, 0 < q ∧ pw n = q * pw m := by
  refine ⟨2 ^ (n - m).toNat, Int.pow_pos (by omega), ?_⟩
  unfold pw
  rw [← Int.pow_add, show (n - m).toNat + m.toNat = n.toNat by omega]
theorem pw_le {m n : Int} (h : m ≤ n) (h0 : 0 ≤ m) : pw m ≤ pw n := by
  obtain ⟨q, hq, e⟩ := pw_dvd h h0
  rw [e]
  have := Int.mul_le_mul_of_nonneg_right (show (1 : Int) ≤ q by omega) (Int.le_of_lt (pw_pos m))
  omega
theorem pw_lt {m n : Int} (h : m < n) (h0 : 0 ≤ m) : pw m < pw n := by
  have h1 := pw_le (m := m + 1) (n := n) (by omega) (by omega)
  have h2 := pw_succ h0
  have := pw_pos m
  omega
def GR.sz (r : GR) : Int := pw r.bits
structure VR (r : GR) : Prop where
  lo : 6 ≤ r.bits
  hi : r.bits ≤ 40
  b0 : 0 ≤ r.base
  al : r.base % r.sz = 0
  top : r.base + r.sz ≤ 1099511627776
instance (r : GR) : Decidable (VR r) := decidable_of_iff (6 ≤ r.bits ∧ r.bits ≤ 40 ∧ 0 ≤ r.base ∧ r.base % r.sz = 0 ∧ r.base + r.sz ≤ 1099511627776)
  ⟨fun h => ⟨h.1, h.2.1, h.2.2.1, h.2.2.2.1, h.2.2.2.2⟩, fun h => ⟨h.lo, h.hi, h.b0, h.al, h.top⟩⟩
def vR (r : GR) : Bool := decide (VR r)
theorem vR_iff {r : GR} : vR r = true ↔ VR r := by simp [vR]
theorem vR_not {r : GR} : vR r = false ↔ ¬ VR r := by simp [vR]
def endR (r : GR) : Int := if vR r then r.base + r.sz else 0
theorem VR.endR {r : GR} (h : VR r) : endR r = r.base + r.sz := by unfold Go.Proofs.Ytnoegjfokceghaa.endR; rw [if_pos (vR_iff.2 h)]
def conR (a b : GR) : Bool := vR a && vR b && decide (a.base ≤ b.base) && decide (endR b ≤ endR a)
def ovR (a b : GR) : Bool := vR a && vR b && decide (a.base < endR b) && decide (b.base < endR a)
def inR (r : GR) (i : Int) : Bool := vR r && decide (r.base ≤ i) && decide (i < r.base + r.sz)
theorem con_iff {a b : GR} : conR a b = true ↔ VR a ∧ VR b ∧ a.base ≤ b.base ∧ b.base + b.sz ≤ a.base + a.sz := by
  unfold conR
  by_cases ha : VR a
  · by_cases hb : VR b
    · rw [ha.endR, hb.endR, vR_iff.2 ha, vR_iff.2 hb]; simp [ha, hb]
    · rw [vR_not.2 hb]; simp [hb]
  · rw [vR_not.2 ha]; simp [ha]
theorem ov_iff {a b : GR} : ovR a b = true ↔ VR a ∧ VR b ∧ a.base < b.base + b.sz ∧ b.base < a.base + a.sz := by
  unfold ovR
  by_cases ha : VR a
  · by_cases hb : VR b
    · rw [ha.endR, hb.endR, vR_iff.2 ha, vR_iff.2 hb]; simp [ha, hb]
    · rw [vR_not.2 hb]; simp [hb]
  · rw [vR_not.2 ha]; simp [ha]
theorem in_iff {r : GR} {i : Int} : inR r i = true ↔ VR r ∧ r.base ≤ i ∧ i < r.base + r.sz := by
  unfold inR
  by_cases ha : VR r
  · rw [vR_iff.2 ha]; simp [ha]
  · rw [vR_not.2 ha]; simp [ha]
theorem sz_pos (r : GR) : 0 < r.sz := pw_pos _
theorem ov_comm (a b : GR) : ovR a b = ovR b a := by
  rw [Bool.eq_iff_iff, ov_iff, ov_iff]
  constructor <;> (rintro ⟨h1, h2, h3, h4⟩; exact ⟨h2, h1, h4, h3⟩)
theorem ov_self {a : GR} (h : VR a) : ovR a a = true := by rw [ov_iff]; have := sz_pos a; exact ⟨h, h, by omega, by omega⟩
theorem ov_in {a b : GR} : ovR a b = true ↔ ∃ i, inR a i = true ∧ inR b i = true := by
  rw [ov_iff]
  constructor
  · rintro ⟨h1, h2, h3, h4⟩
    have := sz_pos a
    have := sz_pos b
    rcases Int.le_total a.base b.base with h | h
    · exact ⟨b.base, in_iff.2 ⟨h1, h, h4⟩, in_iff.2 ⟨h2, by omega, by omega⟩⟩
    · exact ⟨a.base, in_iff.2 ⟨h1, by omega, by omega⟩, in_iff.2 ⟨h2, h, h3⟩⟩
  · rintro ⟨i, ha, hb⟩
    rw [in_iff] at ha hb
    exact ⟨ha.1, hb.1, by omega, by omega⟩
theorem con_in {a b : GR} (h : conR a b = true) {i : Int} (hi : inR b i = true) : inR a i = true := by
  rw [con_iff] at h
  rw [in_iff] at hi ⊢
  exact ⟨h.1, by omega, by omega⟩
theorem con_ov {a b : GR} (h : conR a b = true) : ovR a b = true := by
  have h' := con_iff.1 h
  have := sz_pos b
  exact ov_in.2 ⟨b.base, con_in h (in_iff.2 ⟨h'.2.1, by omega, by omega⟩), in_iff.2 ⟨h'.2.1, by omega, by omega⟩⟩
theorem con_refl {a : GR} (h : VR a) : conR a a = true := con_iff.2 ⟨h, h, by omega, by omega⟩
theorem con_trans {a b c : GR} (h1 : conR a b = true) (h2 : conR b c = true) : conR a c = true := by
  rw [con_iff] at *
  exact ⟨h1.1, h2.2.1, by omega, by omega⟩
theorem ov_mono {a b c : GR} (h1 : conR a b = true) (h2 : ovR b c = true) : ovR a c = true := by
  obtain ⟨i, hb, hc⟩ := ov_in.1 h2
  exact ov_in.2 ⟨i, con_in h1 hb, hc⟩
/-- Of two ranges that overlap the one that isn't smaller contains the other. -/
theorem nest {a b : GR} (h : ovR a b = true) (hb : a.bits ≤ b.bits) : conR b a = true := by
  rw [ov_iff] at h
  obtain ⟨ha, hb', h1, h2⟩ := h
  rw [con_iff]
  refine ⟨hb', ha, ?_⟩
  obtain ⟨q, hq, e⟩ := pw_dvd hb (by have := ha.lo; omega)
  have ea := Int.mul_ediv_add_emod a.base a.sz
  have eb := Int.mul_ediv_add_emod b.base b.sz
  rw [ha.al, Int.add_zero] at ea
  rw [hb'.al, Int.add_zero] at eb
  have hs := sz_pos a
  have hbs : b.sz = q * a.sz := e
  rw [hbs] at eb h1 ⊢
  generalize a.base / a.sz = x at *
  generalize b.base / (q * a.sz) = y at *
  generalize a.sz = s at *
  rw [← ea] at h1 h2 ⊢
  rw [← eb] at h1 h2 ⊢
  have e1 : q * s * y = (q * y) * s := by rw [Int.mul_assoc, Int.mul_comm s y, ← Int.mul_assoc]
  have e2 : s * x = x * s := Int.mul_comm _ _
  rw [e1, e2] at h1 h2 ⊢
  have h3 : x < q * y + q := Int.lt_of_mul_lt_mul_right (a := s) (by rw [Int.add_mul]; exact h1) (Int.le_of_lt hs)
  have h4 : q * y < x + 1 := Int.lt_of_mul_lt_mul_right (a := s) (by rw [Int.add_mul, Int.one_mul]; exact h2) (Int.le_of_lt hs)
  have h5 := Int.mul_le_mul_of_nonneg_right (show q * y ≤ x by omega) (Int.le_of_lt hs)
  have h6 := Int.mul_le_mul_of_nonneg_right (show x + 1 ≤ q * y + q by omega) (Int.le_of_lt hs)
  rw [Int.add_mul, Int.one_mul] at h6
  rw [Int.add_mul] at h6
  exact ⟨h5, h6⟩
theorem con_bits {a b : GR} (h : conR a b = true) : b.bits ≤ a.bits := by
  rw [con_iff] at h
  obtain ⟨ha, hb, h1, h2⟩ := h
  rcases Int.lt_or_le a.bits b.bits with h3 | h3
  · have := pw_lt h3 (by have := ha.lo; omega)
    unfold GR.sz at h2
    omega
  · exact h3
theorem con_eq {a b : GR} (h : conR a b = true) (hb : a.bits = b.bits) : a = b := by
  rw [con_iff] at h
  obtain ⟨_, _, h1, h2⟩ := h
  unfold GR.sz at h2
  rw [hb] at h2
  obtain ⟨x, n⟩ := a
  obtain ⟨y, m⟩ := b
  simp only at *
  rw [hb, show x = y by omega]
def lowR (r : GR) : GR := ⟨r.base, r.bits - 1⟩
def highR (r : GR) : GR := ⟨r.base + pw (r.bits - 1), r.bits - 1⟩
structure HalfR (r : GR) : Prop where
  low : VR (lowR r)
  high : VR (highR r)
  cl : conR r (lowR r) = true
  ch : conR r (highR r) = true
  sl : (lowR r).sz + (highR r).sz = r.sz
  hb : (highR r).base = r.base + (lowR r).sz
theorem halves {r : GR} (h : VR r) (h6 : r.bits ≠ 6) : HalfR r := by
  have hl := h.lo
  have h0 := pw_half (n := r.bits) (by omega)
  have hp := pw_pos (r.bits - 1)
  have hal : r.base % pw r.bits = 0 := h.al
  have htop : r.base + pw r.bits ≤ 1099511627776 := h.top
  have hb0 := h.b0
  have hhi := h.hi
  have ea := Int.mul_ediv_add_emod r.base (pw r.bits)
  rw [hal, Int.add_zero] at ea
  have a1 : r.base % pw (r.bits - 1) = 0 := by
    rw [← ea, h0, Int.mul_comm 2, Int.mul_assoc]; exact Int.mul_emod_right _ _
  have a2 : (r.base + pw (r.bits - 1)) % pw (r.bits - 1) = 0 := by
    rw [Int.add_emod_right, a1]
  have v1 : VR (lowR r) := ⟨by simp only [lowR]; omega, by simp only [lowR]; omega, hb0, a1, by simp only [lowR, GR.sz]; omega⟩
  have v2 : VR (highR r) := ⟨by simp only [highR]; omega, by simp only [highR]; omega, by simp only [highR]; omega, a2, by simp only [highR, GR.sz]; omega⟩
  exact ⟨v1, v2, con_iff.2 ⟨h, v1, by simp only [lowR]; omega, by simp only [lowR, GR.sz]; omega⟩, con_iff.2 ⟨h, v2, by simp only [highR]; omega, by simp only [highR, GR.sz]; omega⟩,
    by simp only [lowR, highR, GR.sz]; omega, rfl⟩
theorem in_halves {r : GR} (h : VR r) (h6 : r.bits ≠ 6) {i : Int} (hi : inR r i = true) : inR (lowR r) i = true ∨ inR (highR r) i = true := by
  have H := halves h h6
  have h1 := H.sl
  have h2 := H.hb
  have h3 : (lowR r).base = r.base := rfl
  rw [in_iff] at hi
  rcases Int.lt_or_le i (highR r).base with h4 | h4
  · exact .inl (in_iff.2 ⟨H.low, by omega, by omega⟩)
  · exact .inr (in_iff.2 ⟨H.high, h4, by omega⟩)

/-- How many of the n numbers from a on are so. -/
def cnt (P : Int → Bool) (a : Int) : Nat → Int
  | 0 => 0
  | n + 1 => cnt P a n + (if P (a + n) = true then 1 else 0)
theorem cnt_add (P : Int → Bool) (a : Int) (m : Nat) : ∀ n : Nat, cnt P a (m + n) = cnt P a m + cnt P (a + m) n
  | 0 => by simp [cnt]
  | n + 1 => by
    rw [← Nat.add_assoc, cnt, cnt, cnt_add P a m n, show a + (m + n : Nat) = a + m + n by omega]; omega
theorem cnt_congr {P Q : Int → Bool} {a : Int} : ∀ {n : Nat}, (∀ i, a ≤ i → i < a + n → P i = Q i) → cnt P a n = cnt Q a n
  | 0, _ => rfl
  | n + 1, h => by rw [cnt, cnt, cnt_congr fun i h1 h2 => h i h1 (by omega), h (a + n) (by omega) (by omega)]
theorem cnt_all {P : Int → Bool} {a : Int} : ∀ {n : Nat}, (∀ i, a ≤ i → i < a + n → P i = true) → cnt P a n = n
  | 0, _ => rfl
  | n + 1, h => by rw [cnt, cnt_all fun i h1 h2 => h i h1 (by omega), if_pos (h (a + n) (by omega) (by omega))]; omega
theorem cnt_none {P : Int → Bool} {a : Int} : ∀ {n : Nat}, (∀ i, a ≤ i → i < a + n → P i = false) → cnt P a n = 0
  | 0, _ => rfl
  | n + 1, h => by rw [cnt, cnt_none fun i h1 h2 => h i h1 (by omega), if_neg (by rw [h (a + n) (by omega) (by omega)]; simp)]; omega
theorem cnt_mono {P Q : Int → Bool} {a : Int} : ∀ {n : Nat}, (∀ i, a ≤ i → i < a + n → P i = true → Q i = true) → cnt P a n ≤ cnt Q a n
  | 0, _ => Int.le_refl _
  | n + 1, h => by
    rw [cnt, cnt]
    have h1 := cnt_mono (n := n) fun i h1 h2 => h i h1 (by omega)
    have h2 := h (a + n) (by omega) (by omega)
    by_cases hp : P (a + n) = true
    · rw [if_pos hp, if_pos (h2 hp)]; omega
    · rw [if_neg hp]; split <;> omega
theorem cnt_or {P Q : Int → Bool} {a : Int} : ∀ {n : Nat}, (∀ i, a ≤ i → i < a + n → ¬ (P i = true ∧ Q i = true)) → cnt (fun i => P i || Q i) a n = cnt P a n + cnt Q a n
  | 0, _ => rfl
  | n + 1, h => by
    rw [cnt, cnt, cnt, cnt_or fun i h1 h2 => h i h1 (by omega)]
    have h2 := h (a + n) (by omega) (by omega)
    cases hp : P (a + n) <;> cases hq : Q (a + n) <;> simp_all <;> omega
theorem cnt_or_le {P Q : Int → Bool} {a : Int} : ∀ {n : Nat}, cnt (fun i => P i || Q i) a n ≤ cnt P a n + cnt Q a n
  | 0 => Int.le_refl _
  | n + 1 => by
    rw [cnt, cnt, cnt]
    have := cnt_or_le (P := P) (Q := Q) (a := a) (n := n)
    cases hp : P (a + n) <;> cases hq : Q (a + n) <;> simp <;> omega
theorem cnt_nonneg (P : Int → Bool) (a : Int) : ∀ n : Nat, 0 ≤ cnt P a n
  | 0 => Int.le_refl _
  | n + 1 => by rw [cnt]; have := cnt_nonneg P a n; split <;> omega
/-- Where all that is so lies from b on and is at most m numbers, one may count there. -/
theorem cnt_part {P : Int → Bool} {a b : Int} {n m : Nat} (h1 : a ≤ b) (h2 : b + m ≤ a + n) (h : ∀ i, a ≤ i → i < a + n → P i = true → b ≤ i ∧ i < b + m) : cnt P a n = cnt P b m := by
  obtain ⟨x, hx⟩ : ∃ x : Nat, b = a + x := ⟨(b - a).toNat, by omega⟩
  obtain ⟨y, hy⟩ : ∃ y : Nat, n = x + m + y := ⟨n - x - m, by omega⟩
  subst hx hy
  rw [cnt_add, cnt_add, cnt_none (P := P) (a := a) (n := x), cnt_none (P := P) (n := y)]
  · omega
  · intro i h3 h4
    cases hp : P i
    · rfl
    · have := h i (by omega) (by omega) hp; omega
  · intro i h3 h4
    cases hp : P i
    · rfl
    · have := h i (by omega) (by omega) hp; omega
theorem cnt_point {P Q : Int → Bool} {a : Int} {n : Nat} (h : ∀ i, a ≤ i → i < a + n → P i = true → Q i = true) {x : Int} (h1 : a ≤ x) (h2 : x < a + n) (hp : P x = false) (hq : Q x = true) : cnt P a n < cnt Q a n := by
  obtain ⟨k, hk⟩ : ∃ k : Nat, x = a + k := ⟨(x - a).toNat, by omega⟩
  obtain ⟨m, hm⟩ : ∃ m : Nat, n = k + (1 + m) := ⟨n - k - 1, by omega⟩
  subst hk hm
  rw [cnt_add P a k, cnt_add P (a + k) 1, cnt_add Q a k, cnt_add Q (a + k) 1]
  have e1 : cnt P (a + k) 1 = 0 := by simp [cnt, hp]
  have e2 : cnt Q (a + k) 1 = 1 := by simp [cnt, hq]
  have l1 := cnt_mono (P := P) (Q := Q) (a := a) (n := k) fun i h3 h4 => h i h3 (by omega)
  have l2 := cnt_mono (P := P) (Q := Q) (a := a + k + (1 : Nat)) (n := m) fun i h3 h4 => h i (by omega) (by omega)
  rw [e1, e2]
  omega
end Go.Proofs.Ytnoegjfokceghaa


namespace Go.Proofs.Ytnoegjfokceghaa

open Go.RowKit

def freeF : Nat → GR → List GR → List GR
  | 0, _, _ => []
  | k + 1, r, us =>
    if us.filter (ovR r) = [] then [r]
    else if (us.filter (ovR r)).any (fun u => conR u r) = true then []
    else if r.bits = 6 then [] else freeF k (lowR r) (us.filter (ovR r)) ++ freeF k (highR r) (us.filter (ovR r))
def freeL (r : GR) (us : List GR) : List GR := if vR r then freeF 35 r us else []
def twR (f : GR) : GR := ⟨f.base - f.base % (2 * f.sz), f.bits + 1⟩
structure FreeS (r : GR) (us l : List GR) : Prop where
  good : ∀ f ∈ l, VR f ∧ conR r f = true ∧ ∀ u ∈ us, ovR f u = false
  asc : l.Pairwise fun f g => f.base + f.sz ≤ g.base
  all : ∀ i, inR r i = true → (∀ u ∈ us, inR u i = false) → ∃ f ∈ l, inR f i = true
  max : ∀ f ∈ l, f ≠ r → ∃ u ∈ us, ovR (twR f) u = true
theorem tw_low {r : GR} (h : VR r) (h6 : r.bits ≠ 6) : twR (lowR r) = r := by
  have h1 : pw r.bits = 2 * pw (r.bits - 1) := pw_half (by have := h.lo; omega)
  have h2 : r.base % pw r.bits = 0 := h.al
  obtain ⟨b, n⟩ := r
  simp only [twR, lowR, GR.sz, GR.mk.injEq] at *
  rw [← h1, h2]
  omega
theorem tw_high {r : GR} (h : VR r) (h6 : r.bits ≠ 6) : twR (highR r) = r := by
  have h1 : pw r.bits = 2 * pw (r.bits - 1) := pw_half (by have := h.lo; omega)
  have h2 : r.base % pw r.bits = 0 := h.al
  have h3 := pw_pos (r.bits - 1)
  obtain ⟨b, n⟩ := r
  simp only [twR, highR, GR.sz, GR.mk.injEq] at *
  rw [← h1, Int.add_emod, h2, Int.zero_add, Int.emod_emod, Int.emod_eq_of_lt (by omega) (by omega)]
  omega
theorem near_nil {r : GR} {us : List GR} : us.filter (ovR r) = [] ↔ ∀ u ∈ us, ovR r u = false := by
  rw [List.filter_eq_nil_iff]
  exact ⟨fun h u hu => by simpa using h u hu, fun h u hu => by rw [h u hu]; simp⟩
theorem near_any {r : GR} {us : List GR} : (us.filter (ovR r)).any (fun u => conR u r) = us.any (fun u => conR u r) := by
  rw [Bool.eq_iff_iff, List.any_eq_true, List.any_eq_true]
  constructor
  · rintro ⟨u, hu, h⟩; exact ⟨u, (List.mem_filter.1 hu).1, h⟩
  · rintro ⟨u, hu, h⟩; exact ⟨u, List.mem_filter.2 ⟨hu, by rw [ov_comm]; exact con_ov h⟩, h⟩
theorem FreeS.wide {r : GR} {us l : List GR} (h : FreeS r (us.filter (ovR r)) l) : FreeS r us l where
  good f hf := by
    obtain ⟨h1, h2, h3⟩ := h.good f hf
    refine ⟨h1, h2, fun u hu => ?_⟩
    by_cases ho : ovR r u = true
    · exact h3 u (List.mem_filter.2 ⟨hu, ho⟩)
    · rw [Bool.eq_false_iff]; exact fun hq => ho (ov_mono h2 hq)
  asc := h.asc
  all i hi hu := h.all i hi fun u h2 => hu u (List.mem_filter.1 h2).1
  max f hf hne := by
    obtain ⟨u, hu, ho⟩ := h.max f hf hne
    exact ⟨u, (List.mem_filter.1 hu).1, ho⟩
theorem free_spec : ∀ (k : Nat) (r : GR) (us : List GR), VR r → r.bits ≤ k + 5 → FreeS r us (freeF k r us)
  | 0, r, us, h, hk => absurd h.lo (by omega)
  | k + 1, r, us, h, hk => by
    rw [freeF]
    by_cases hn : us.filter (ovR r) = []
    · rw [if_pos hn]
      have hn' := near_nil.1 hn
      exact ⟨fun f hf => by rw [List.mem_singleton] at hf; subst hf; exact ⟨h, con_refl h, hn'⟩, List.pairwise_singleton _ _, fun i hi _ => ⟨r, by simp, hi⟩, fun f hf hne => absurd (List.mem_singleton.1 hf) hne⟩
    · rw [if_neg hn]
      obtain ⟨u0, hu0⟩ := List.exists_mem_of_ne_nil _ hn
      obtain ⟨hu1, hu2⟩ := List.mem_filter.1 hu0
      by_cases hc : (us.filter (ovR r)).any (fun u => conR u r) = true
      · rw [if_pos hc]
        obtain ⟨u, hu, hcu⟩ := List.any_eq_true.1 hc
        refine ⟨fun f hf => absurd hf (by simp), List.Pairwise.nil, fun i hi hall => ?_, fun f hf => absurd hf (by simp)⟩
        have := hall u (List.mem_filter.1 hu).1
        rw [con_in hcu hi] at this; cases this
      · rw [if_neg hc]
        by_cases h6 : r.bits = 6
        · exfalso
          refine hc (List.any_eq_true.2 ⟨u0, hu0, nest hu2 ?_⟩)
          have := (ov_iff.1 hu2).2.1.lo
          omega
        · rw [if_neg h6]
          have H := halves h h6
          have S1 := free_spec k (lowR r) (us.filter (ovR r)) H.low (by simp only [lowR]; omega)
          have S2 := free_spec k (highR r) (us.filter (ovR r)) H.high (by simp only [highR]; omega)
          refine FreeS.wide ⟨?_, ?_, ?_, ?_⟩
          · intro f hf
            rcases List.mem_append.1 hf with hf | hf
            · obtain ⟨g1, g2, g3⟩ := S1.good f hf
              exact ⟨g1, con_trans H.cl g2, g3⟩
            · obtain ⟨g1, g2, g3⟩ := S2.good f hf
              exact ⟨g1, con_trans H.ch g2, g3⟩
          · refine List.pairwise_append.2 ⟨S1.asc, S2.asc, fun f hf g hg => ?_⟩
            have g1 := con_iff.1 (S1.good f hf).2.1
            have g2 := con_iff.1 (S2.good g hg).2.1
            have := H.hb
            have e : (lowR r).base = r.base := rfl
            omega
          · intro i hi hall
            rcases in_halves h h6 hi with hi | hi
            · obtain ⟨f, hf, hq⟩ := S1.all i hi hall
              exact ⟨f, List.mem_append_left _ hf, hq⟩
            · obtain ⟨f, hf, hq⟩ := S2.all i hi hall
              exact ⟨f, List.mem_append_right _ hf, hq⟩
          · intro f hf _
            rcases List.mem_append.1 hf with hf | hf
            · by_cases he : f = lowR r
              · subst he; rw [tw_low h h6]; exact ⟨u0, hu0, hu2⟩
              · exact S1.max f hf he
            · by_cases he : f = highR r
              · subst he; rw [tw_high h h6]; exact ⟨u0, hu0, hu2⟩
              · exact S2.max f hf he
theorem freeL_spec {r : GR} (us : List GR) (h : VR r) : FreeS r us (freeL r us) := by
  unfold freeL; rw [if_pos (vR_iff.2 h)]; exact free_spec 35 r us h (by have := h.hi; omega)
theorem freeF_filter {r : GR} {us vs : List GR} (h : us.filter (ovR r) = vs.filter (ovR r)) : ∀ k, freeF k r us = freeF k r vs
  | 0 => rfl
  | k + 1 => by rw [freeF, freeF, h]
theorem freeF_near {r s : GR} {us : List GR} (h : conR r s = true) (k : Nat) : freeF k s (us.filter (ovR r)) = freeF k s us := by
  refine freeF_filter ?_ k
  rw [List.filter_filter]
  refine List.filter_congr fun u _ => ?_
  cases hq : ovR s u
  · rfl
  · rw [ov_mono h hq]; rfl
theorem freeF_succ (k : Nat) (r : GR) (us : List GR) : freeF (k + 1) r us = if us.filter (ovR r) = [] then [r] else if (us.filter (ovR r)).any (fun u => conR u r) = true then [] else if r.bits = 6 then [] else freeF k (lowR r) (us.filter (ovR r)) ++ freeF k (highR r) (us.filter (ovR r)) := rfl
theorem freeF_fuel : ∀ (k : Nat) (r : GR) (us : List GR), VR r → r.bits ≤ k + 5 → freeF (k + 1) r us = freeF k r us
  | 0, r, us, h, hk => absurd h.lo (by omega)
  | k + 1, r, us, h, hk => by
    rw [freeF_succ (k + 1) r us, freeF_succ k r us]
    by_cases h6 : r.bits = 6
    · simp only [h6, if_true]
    · have H := halves h h6
      rw [freeF_fuel k (lowR r) _ H.low (by simp only [lowR]; omega), freeF_fuel k (highR r) _ H.high (by simp only [highR]; omega)]
/-- The free ranges of a range that isn't free whole are those of its halves. -/
theorem freeL_step {r : GR} (us : List GR) (h : VR r) : freeL r us = if (∀ u ∈ us, ovR r u = false) then [r] else if us.any (fun u => conR u r) = true then [] else if r.bits = 6 then [] else freeL (lowR r) us ++ freeL (highR r) us := by
  have e : freeL r us = freeF (35 + 1) r us := by
    unfold freeL; rw [if_pos (vR_iff.2 h), freeF_fuel 35 r us h (by have := h.hi; omega)]
  rw [e, freeF, near_any]
  by_cases hn : us.filter (ovR r) = []
  · rw [if_pos hn, if_pos (near_nil.1 hn)]
  · rw [if_neg hn, if_neg (fun hq => hn (near_nil.2 hq))]
    by_cases hc : us.any (fun u => conR u r) = true
    · rw [if_pos hc, if_pos hc]
    · rw [if_neg hc, if_neg hc]
      by_cases h6 : r.bits = 6
      · rw [if_pos h6, if_pos h6]
      · have H := halves h h6
        rw [if_neg h6, if_neg h6, freeF_near H.cl, freeF_near H.ch]
        unfold freeL
        rw [if_pos (vR_iff.2 H.low), if_pos (vR_iff.2 H.high)]
theorem freeL_one {r : GR} {us : List GR} (h : VR r) : freeL r us = [r] ↔ ∀ u ∈ us, ovR r u = false := by
  constructor
  · intro e u hu
    exact ((freeL_spec us h).good r (by rw [e]; simp)).2.2 u hu
  · intro hn
    rw [freeL_step us h, if_pos hn]
theorem freeL_whole {r : GR} {us : List GR} (h : VR r) (hc : us.any (fun u => conR u r) = true) : freeL r us = [] := by
  obtain ⟨u, hu, hcu⟩ := List.any_eq_true.1 hc
  rw [freeL_step us h, if_neg (fun hq => by have := hq u hu; rw [ov_comm, con_ov hcu] at this; cases this), if_pos hc]
/-- The twice of a free range that isn't the whole is a range of the whole. -/
theorem tw_ok {r : GR} {f : GR} (h : conR r f = true) (hne : f ≠ r) : VR (twR f) ∧ conR r (twR f) = true ∧ conR (twR f) f = true := by
  have hb := con_bits h
  obtain ⟨hr, hf, h1, h2⟩ := con_iff.1 h
  have hlt : f.bits < r.bits := by
    rcases Int.lt_or_le f.bits r.bits with h3 | h3
    · exact h3
    · exact absurd (con_eq h (by omega)).symm hne
  have hlo := hf.lo
  have e2 : pw (f.bits + 1) = 2 * f.sz := pw_succ (by omega)
  obtain ⟨q, hq, eq⟩ := pw_dvd (m := f.bits + 1) (n := r.bits) (by omega) (by omega)
  have hs := sz_pos f
  have m0 := Int.emod_nonneg f.base (show 2 * f.sz ≠ 0 by omega)
  have m1 := Int.emod_lt_of_pos f.base (show 0 < 2 * f.sz by omega)
  have ed := Int.mul_ediv_add_emod f.base (2 * f.sz)
  have er := Int.mul_ediv_add_emod r.base r.sz
  rw [hr.al, Int.add_zero] at er
  have ers : r.sz = q * (2 * f.sz) := by rw [← e2]; exact eq
  have fa := hf.al
  have ef := Int.mul_ediv_add_emod f.base f.sz
  rw [fa, Int.add_zero] at ef
  -- f's base modulo twice its size is 0 or its size
  have hm : f.base % (2 * f.sz) = 0 ∨ f.base % (2 * f.sz) = f.sz := by
    have : (f.base % (2 * f.sz)) % f.sz = 0 := by rw [Int.emod_emod_of_dvd _ ⟨2, by rw [Int.mul_comm]⟩]; exact fa
    generalize f.base % (2 * f.sz) = y at *
    have e9 := Int.mul_ediv_add_emod y f.sz
    rw [this, Int.add_zero] at e9
    have z0 : 0 ≤ y / f.sz := Int.ediv_nonneg m0 (by omega)
    have z1 : y / f.sz < 2 := by
      rcases Int.lt_or_le (y / f.sz) 2 with h9 | h9
      · exact h9
      · have := Int.mul_le_mul_of_nonneg_left h9 (Int.le_of_lt hs); omega
    generalize y / f.sz = t at *
    obtain rfl | rfl : t = 0 ∨ t = 1 := by omega
    · left; omega
    · right; omega
  have tb : (twR f).base = 2 * f.sz * (f.base / (2 * f.sz)) := by simp only [twR]; omega
  have tsz : (twR f).sz = 2 * f.sz := e2
  have hin : r.base ≤ (twR f).base ∧ (twR f).base + 2 * f.sz ≤ r.base + r.sz := by
    rw [tb]
    rw [ers] at er h2 ⊢
    generalize r.base / (q * (2 * f.sz)) = x at *
    generalize f.base / (2 * f.sz) = y at *
    generalize 2 * f.sz = s at *
    have e1 : q * s * x = (q * x) * s := by rw [Int.mul_assoc, Int.mul_comm s x, ← Int.mul_assoc]
    rw [e1] at er
    rw [← er] at h1 h2 ⊢
    rw [Int.mul_comm s y] at ed ⊢
    have h3 : q * x < y + 1 := Int.lt_of_mul_lt_mul_right (a := s) (by rw [Int.add_mul, Int.one_mul]; omega) (by omega)
    have h4 : y < q * x + q := Int.lt_of_mul_lt_mul_right (a := s) (by rw [Int.add_mul]; omega) (by omega)
    have h5 := Int.mul_le_mul_of_nonneg_right (show q * x ≤ y by omega) (show 0 ≤ s by omega)
    have h6 := Int.mul_le_mul_of_nonneg_right (show y + 1 ≤ q * x + q by omega) (show 0 ≤ s by omega)
    rw [Int.add_mul, Int.one_mul] at h6
    rw [Int.add_mul] at h6
    exact ⟨h5, h6⟩
  have hrb := hr.b0
  have hrt := hr.top
  have v : VR (twR f) := ⟨by simp only [twR]; omega, by have := hr.hi; simp only [twR]; omega, by omega, by rw [tsz, tb]; exact Int.mul_emod_right _ _, by rw [tsz]; omega⟩
  refine ⟨v, con_iff.2 ⟨hr, v, hin.1, by rw [tsz]; exact hin.2⟩, con_iff.2 ⟨v, hf, ?_, ?_⟩⟩
  · simp only [twR]; omega
  · rw [tsz]; simp only [twR]; omega
/-- A clear range within r lies within a free one. -/
theorem clear_free {r y : GR} {us : List GR} (h : VR r) (hy : conR r y = true) (hc : ∀ u ∈ us, ovR y u = false) : ∃ f ∈ freeL r us, conR f y = true := by
  have S := freeL_spec us h
  have hy' := con_iff.1 hy
  have hp := sz_pos y
  obtain ⟨f, hf, hif⟩ := S.all y.base (con_in hy (in_iff.2 ⟨hy'.2.1, by omega, by omega⟩)) fun u hu => by
    rw [Bool.eq_false_iff]
    intro hq
    have : ovR y u = true := ov_in.2 ⟨y.base, in_iff.2 ⟨hy'.2.1, by omega, by omega⟩, hq⟩
    rw [hc u hu] at this; cases this
  have hov : ovR y f = true := ov_in.2 ⟨y.base, in_iff.2 ⟨hy'.2.1, by omega, by omega⟩, hif⟩
  refine ⟨f, hf, ?_⟩
  rcases Int.lt_or_le f.bits y.bits with hlt | hle
  · exfalso
    have hne : f ≠ r := by rintro rfl; have := con_bits hy; omega
    obtain ⟨u, hu, ho⟩ := S.max f hf hne
    obtain ⟨v1, v2, v3⟩ := tw_ok (S.good f hf).2.1 hne
    have : conR y (twR f) = true := nest (by rw [ov_comm] at hov ⊢; rw [ov_comm]; exact ov_mono v3 hov) (by simp only [twR]; omega)
    have := ov_mono this ho
    rw [hc u hu] at this; cases this
  · exact nest hov hle
def findL (r : GR) (us : List GR) (n : Int) : Option GR := if 6 ≤ n then ((freeL r us).find? fun f => decide (n ≤ f.bits)).map fun f => ⟨f.base, n⟩ else none
theorem find_first {p : GR → Bool} : ∀ {l : List GR} {f : GR}, l.find? p = some f → l.Pairwise (fun f g => f.base + f.sz ≤ g.base) → f ∈ l ∧ p f = true ∧ ∀ g ∈ l, p g = true → g = f ∨ f.base + f.sz ≤ g.base
  | [], _, h, _ => by simp at h
  | x :: l, f, h, hs => by
    rw [List.pairwise_cons] at hs
    by_cases hp : p x = true
    · rw [List.find?_cons_of_pos hp] at h
      injection h with h
      subst h
      exact ⟨by simp, hp, fun g hg _ => by
        rcases List.mem_cons.1 hg with rfl | hg
        · exact .inl rfl
        · exact .inr (hs.1 g hg)⟩
    · rw [List.find?_cons_of_neg hp] at h
      obtain ⟨h1, h2, h3⟩ := find_first h hs.2
      exact ⟨by simp [h1], h2, fun g hg hpg => by
        rcases List.mem_cons.1 hg with rfl | hg
        · exact absurd hpg hp
        · exact h3 g hg hpg⟩
theorem sub_ok {f : GR} {n : Int} (h : VR f) (h6 : 6 ≤ n) (hn : n ≤ f.bits) : VR ⟨f.base, n⟩ ∧ conR f ⟨f.base, n⟩ = true := by
  obtain ⟨q, hq, e⟩ := pw_dvd hn (by omega)
  have hl := pw_le hn (by omega)
  have ht := h.top
  have hsz : f.sz = pw f.bits := rfl
  have v : VR ⟨f.base, n⟩ := ⟨h6, by have := h.hi; simp only; omega, h.b0, by
    have ha := Int.mul_ediv_add_emod f.base f.sz
    rw [h.al, Int.add_zero, hsz, e] at ha
    show f.base % pw n = 0
    rw [← ha, Int.mul_comm q, Int.mul_assoc]; exact Int.mul_emod_right _ _, by simp only [GR.sz] at *; omega⟩
  exact ⟨v, con_iff.2 ⟨h, v, by simp only; omega, by simp only [GR.sz] at *; omega⟩⟩
structure FindS (r : GR) (us : List GR) (n : Int) (x : GR) : Prop where
  bits : x.bits = n
  val : VR x
  con : conR r x = true
  clr : ∀ u ∈ us, ovR x u = false
  first : ∀ y, y.bits = n → conR r y = true → (∀ u ∈ us, ovR y u = false) → x.base ≤ y.base
theorem find_some {r : GR} {us : List GR} {n : Int} {x : GR} (h : VR r) (hf : findL r us n = some x) : FindS r us n x := by
  unfold findL at hf
  by_cases h6 : 6 ≤ n
  · rw [if_pos h6, Option.map_eq_some_iff] at hf
    obtain ⟨f, h1, rfl⟩ := hf
    have S := freeL_spec us h
    obtain ⟨m1, m2, m3⟩ := find_first h1 S.asc
    simp only [decide_eq_true_eq] at m2
    obtain ⟨g1, g2, g3⟩ := S.good f m1
    obtain ⟨v1, v2⟩ := sub_ok g1 h6 m2
    refine ⟨rfl, v1, con_trans g2 v2, fun u hu => ?_, fun y hy hc hcl => ?_⟩
    · rw [Bool.eq_false_iff]; intro hq
      have := ov_mono v2 hq
      rw [g3 u hu] at this; cases this
    · obtain ⟨g, hg, hcg⟩ := clear_free h hc hcl
      have hb := con_bits hcg
      have hcg' := con_iff.1 hcg
      have := sz_pos f
      rcases m3 g hg (by simp; omega) with rfl | h9
      · exact hcg'.2.2.1
      · simp only; omega
  · rw [if_neg h6] at hf; cases hf
theorem find_none {r : GR} {us : List GR} {n : Int} (h : VR r) (h6 : 6 ≤ n) (hf : findL r us n = none) {y : GR} (hy : y.bits = n) (hc : conR r y = true) : ∃ u ∈ us, ovR y u = true := by
  refine Classical.byContradiction fun hno => ?_
  have hcl : ∀ u ∈ us, ovR y u = false := fun u hu => by
    rw [Bool.eq_false_iff]; exact fun hq => hno ⟨u, hu, hq⟩
  obtain ⟨g, hg, hcg⟩ := clear_free h hc hcl
  have hb := con_bits hcg
  unfold findL at hf
  rw [if_pos h6, Option.map_eq_none_iff, List.find?_eq_none] at hf
  have := hf g hg
  simp only [decide_eq_true_eq] at this
  omega
end Go.Proofs.Ytnoegjfokceghaa
