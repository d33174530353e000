/-
  How many blocks of one size are free; each allocation takes one. Plain mathematics.
  Conditions: as each theorem says.
-/
import Derived.Test.YtndppbfdcceflaaGreatDoorRgc
namespace Go.Proofs.YtndppbfdcceflaaGreatDoor

open Go.RowKit

def wantN (k : Int) : List GR → Int
  | [] => 0
  | f :: l => (if k ≤ f.bits then pw (f.bits - k) else 0) + wantN k l
theorem wantN_snoc (k : Int) (f : GR) : ∀ l : List GR, wantN k (l ++ [f]) = wantN k l + (if k ≤ f.bits then pw (f.bits - k) else 0)
  | [] => by simp [wantN]
  | g :: l => by rw [List.cons_append, wantN, wantN, wantN_snoc k f l]; omega
theorem wantN_nonneg (k : Int) : ∀ l : List GR, 0 ≤ wantN k l
  | [] => Int.le_refl _
  | f :: l => by
    have := wantN_nonneg k l
    have := pw_pos (f.bits - k)
    rw [wantN]; split <;> omega
def blk (k i : Int) : GR := ⟨i - i % pw k, k⟩
def clrB (us : List GR) (y : GR) : Bool := us.all fun u => !ovR y u
theorem clr_iff {us : List GR} {y : GR} : clrB us y = true ↔ ∀ u ∈ us, ovR y u = false := by
  unfold clrB; rw [List.all_eq_true]; simp
theorem blk_ok {r : GR} (h : VR r) {k i : Int} (h6 : 6 ≤ k) (hk : k ≤ r.bits) (hi : inR r i = true) : VR (blk k i) ∧ conR r (blk k i) = true ∧ inR (blk k i) i = true := by
  obtain ⟨_, h1, h2⟩ := in_iff.1 hi
  have hs := pw_pos k
  have m0 := Int.emod_nonneg i (show pw k ≠ 0 by omega)
  have m1 := Int.emod_lt_of_pos i hs
  have ed := Int.mul_ediv_add_emod i (pw k)
  obtain ⟨q, hq, eq⟩ := pw_dvd hk (by omega)
  have er := Int.mul_ediv_add_emod r.base r.sz
  rw [h.al, Int.add_zero] at er
  have ers : r.sz = q * pw k := eq
  have hb : (blk k i).base = pw k * (i / pw k) := by simp only [blk]; omega
  have hin : r.base ≤ (blk k i).base ∧ (blk k i).base + pw k ≤ r.base + r.sz := by
    rw [hb]
    rw [ers] at er h2 ⊢
    generalize r.base / (q * pw k) = x at *
    generalize i / pw k = y at *
    generalize i % pw k = z at *
    generalize pw k = s at *
    have e1 : q * s * x = (q * x) * s := by rw [Int.mul_assoc, Int.mul_comm s x, ← Int.mul_assoc]
    rw [e1] at er
    rw [← er] at h1 h2 ⊢
    rw [Int.mul_comm s y] at ed ⊢
    have h3 : q * x < y + 1 := Int.lt_of_mul_lt_mul_right (a := s) (by rw [Int.add_mul, Int.one_mul]; omega) (by omega)
    have h4 : y < q * x + q := Int.lt_of_mul_lt_mul_right (a := s) (by rw [Int.add_mul]; omega) (by omega)
    have h5 := Int.mul_le_mul_of_nonneg_right (show q * x ≤ y by omega) (show 0 ≤ s by omega)
    have h6 := Int.mul_le_mul_of_nonneg_right (show y + 1 ≤ q * x + q by omega) (show 0 ≤ s by omega)
    rw [Int.add_mul, Int.one_mul] at h6
    rw [Int.add_mul] at h6
    exact ⟨h5, h6⟩
  have hr0 := h.b0
  have hrt := h.top
  have v : VR (blk k i) := ⟨h6, by have := h.hi; simp only [blk]; omega, by omega, by rw [hb]; exact Int.mul_emod_right _ _, by show (blk k i).base + pw k ≤ _; omega⟩
  exact ⟨v, con_iff.2 ⟨h, v, hin.1, hin.2⟩, in_iff.2 ⟨v, by simp only [blk]; omega, by show i < (blk k i).base + pw k; simp only [blk]; omega⟩⟩
theorem same_size {a b : GR} (h : ovR a b = true) (hb : a.bits = b.bits) : a = b := con_eq (nest (by rw [ov_comm]; exact h) (by omega)) hb
theorem blk_eq {r x : GR} (h : VR r) {i : Int} (h6 : 6 ≤ x.bits) (hx : conR r x = true) (hi : inR x i = true) : blk x.bits i = x := by
  obtain ⟨v1, v2, v3⟩ := blk_ok h h6 (con_bits hx) (con_in hx hi)
  exact same_size (ov_in.2 ⟨i, v3, hi⟩) rfl
theorem sum_want {k : Int} : ∀ {l : List GR}, (∀ f ∈ l, VR f) → 6 ≤ k → sumSz (l.filter fun f => decide (k ≤ f.bits)) = pw k * wantN k l
  | [], _, _ => by simp [sumSz, wantN]
  | f :: l, h, h6 => by
    have ih := sum_want (l := l) (fun g hg => h g (by simp [hg])) h6
    rw [wantN, Int.mul_add, ← ih]
    by_cases hk : k ≤ f.bits
    · rw [List.filter_cons_of_pos (by simpa using hk), if_pos hk]
      have : f.sz = pw k * pw (f.bits - k) := by
        show pw f.bits = _
        unfold pw
        rw [← Int.pow_add, show k.toNat + (f.bits - k).toNat = f.bits.toNat by omega]
      show f.sz + sumSz _ = _
      rw [this]
    · rw [List.filter_cons_of_neg (by simpa using hk), if_neg hk, Int.mul_zero, Int.zero_add]
theorem free_blk {r : GR} {us : List GR} (h : VR r) {k : Int} (h6 : 6 ≤ k) (hk : k ≤ r.bits) {i : Int} (hi : inR r i = true) : inL ((freeL r us).filter fun f => decide (k ≤ f.bits)) i = clrB us (blk k i) := by
  obtain ⟨v1, v2, v3⟩ := blk_ok h h6 hk hi
  rw [Bool.eq_iff_iff, clr_iff]
  unfold inL
  rw [List.any_eq_true]
  constructor
  · rintro ⟨f, hf, hif⟩ u hu
    rw [List.mem_filter, decide_eq_true_eq] at hf
    obtain ⟨g1, g2, g3⟩ := (freeL_spec us h).good f hf.1
    have hc : conR f (blk k i) = true := nest (ov_in.2 ⟨i, v3, hif⟩) hf.2
    rw [Bool.eq_false_iff]
    intro hq
    have := ov_mono hc hq
    rw [g3 u hu] at this; cases this
  · intro hc
    obtain ⟨f, hf, hcf⟩ := clear_free h v2 hc
    exact ⟨f, List.mem_filter.2 ⟨hf, by rw [decide_eq_true_eq]; exact con_bits hcf⟩, con_in hcf v3⟩
theorem want_cnt {r : GR} (us : List GR) (h : VR r) {k : Int} (h6 : 6 ≤ k) (hk : k ≤ r.bits) : pw k * wantN k (freeL r us) = cnt (fun i => clrB us (blk k i)) r.base r.sz.toNat := by
  have S := freeL_spec us h
  have hp := sz_pos r
  rw [← sum_want (fun f hf => (S.good f hf).1) h6, sum_cnt (a := r.base) (n := r.sz.toNat) (fun f hf => ?_) (S.asc.sublist List.filter_sublist)]
  · exact cnt_congr fun i h1 h2 => free_blk h h6 hk (in_iff.2 ⟨h, h1, by omega⟩)
  · have := con_iff.1 (S.good f (List.mem_filter.1 hf).1).2.1
    exact ⟨this.2.1, by omega, by omega⟩
theorem want_zero {r : GR} (us : List GR) (h : VR r) {k : Int} (hk : r.bits < k) : wantN k (freeL r us) = 0 := by
  have S := freeL_spec us h
  have : ∀ l : List GR, (∀ f ∈ l, f.bits < k) → wantN k l = 0 := by
    intro l
    induction l with
    | nil => intro _; rfl
    | cons f l ih => intro hl; rw [wantN, if_neg (by have := hl f (by simp); omega), ih fun g hg => hl g (by simp [hg])]; rfl
  exact this _ fun f hf => by have := con_bits (S.good f hf).2.1; omega
theorem find_big {r : GR} (us : List GR) (h : VR r) {k : Int} (hk : r.bits < k) : findL r us k = none := by
  cases hf : findL r us k with
  | none => rfl
  | some x =>
    have F := find_some h hf
    have := con_bits F.con
    have := F.bits
    omega
theorem alloc_some {r : GR} {us : List GR} (h : VR r) {k : Int} {x : GR} (h6 : 6 ≤ k) (hf : findL r us k = some x) : wantN k (freeL r us) = wantN k (freeL r (us ++ [x])) + 1 := by
  have F := find_some h hf
  have hk : k ≤ r.bits := by have := con_bits F.con; have := F.bits; omega
  have hp := sz_pos r
  have w1 := want_cnt us h h6 hk
  have w2 := want_cnt (us ++ [x]) h h6 hk
  have hx := con_iff.1 F.con
  have e : ∀ i, inR r i = true → clrB us (blk k i) = (clrB (us ++ [x]) (blk k i) || inR x i) := fun i hi => by
    obtain ⟨v1, v2, v3⟩ := blk_ok h h6 hk hi
    rw [Bool.eq_iff_iff, Bool.or_eq_true, clr_iff, clr_iff]
    constructor
    · intro hc
      by_cases hq : inR x i = true
      · exact .inr hq
      · refine .inl fun u hu => ?_
        rcases List.mem_append.1 hu with hu | hu
        · exact hc u hu
        · rw [List.mem_singleton] at hu
          subst hu
          rw [Bool.eq_false_iff]
          intro ho
          have := same_size ho (by rw [F.bits]; rfl)
          exact hq (by rw [← this]; exact v3)
    · rintro (hc | hq)
      · exact fun u hu => hc u (List.mem_append_left _ hu)
      · have := blk_eq h (by rw [F.bits]; exact h6) F.con hq
        rw [F.bits] at this
        rw [this]
        exact F.clr
  have hcnt : cnt (fun i => clrB us (blk k i)) r.base r.sz.toNat = cnt (fun i => clrB (us ++ [x]) (blk k i)) r.base r.sz.toNat + x.sz := by
    rw [cnt_congr (Q := fun i => clrB (us ++ [x]) (blk k i) || inR x i) fun i h1 h2 => e i (in_iff.2 ⟨h, h1, by omega⟩), cnt_or, cnt_one F.val (by omega) (by omega)]
    rintro i _ _ ⟨h1, h2⟩
    have hb := blk_eq h (by rw [F.bits]; exact h6) F.con h2
    rw [F.bits] at hb
    rw [hb, clr_iff] at h1
    have := h1 x (by simp)
    rw [ov_self F.val] at this; cases this
  rw [← w1, ← w2, show x.sz = pw k by show pw x.bits = _; rw [F.bits]] at hcnt
  have hpk := pw_pos k
  have : pw k * wantN k (freeL r us) = pw k * (wantN k (freeL r (us ++ [x])) + 1) := by rw [Int.mul_add, Int.mul_one]; exact hcnt
  exact Int.eq_of_mul_eq_mul_left (by omega) this
theorem alloc_none {r : GR} {us : List GR} {k : Int} (h6 : 6 ≤ k) (hf : findL r us k = none) : wantN k (freeL r us) = 0 := by
  unfold findL at hf
  rw [if_pos h6, Option.map_eq_none_iff, List.find?_eq_none] at hf
  generalize freeL r us = l at *
  induction l with
  | nil => rfl
  | cons f l ih =>
    rw [wantN, if_neg (by simpa using hf f (by simp)), ih fun g hg => hf g (by simp [hg])]; rfl
theorem want_bound {r : GR} (us : List GR) (h : VR r) {k : Int} (h6 : 6 ≤ k) (hk : r.bits - 6 ≤ k) : wantN k (freeL r us) ≤ 64 := by
  rcases Int.lt_or_le r.bits k with h1 | h1
  · rw [want_zero us h h1]; omega
  · have hp := sz_pos r
    have w := want_cnt us h h6 h1
    have hm : cnt (fun i => clrB us (blk k i)) r.base r.sz.toNat ≤ cnt (fun _ => true) r.base r.sz.toNat := cnt_mono fun _ _ _ _ => rfl
    rw [cnt_all fun _ _ _ => rfl, ← w] at hm
    have e : r.sz = pw k * pw (r.bits - k) := by
      show pw r.bits = _
      unfold pw
      rw [← Int.pow_add, show k.toNat + (r.bits - k).toNat = r.bits.toNat by omega]
    have hm2 : pw k * wantN k (freeL r us) ≤ pw k * pw (r.bits - k) := by rw [← e]; omega
    have h3 := Int.le_of_mul_le_mul_left hm2 (pw_pos k)
    have h4 : pw (r.bits - k) ≤ pw 6 := pw_le (by omega) (by omega)
    have h5 : pw 6 = 64 := by decide
    omega
end Go.Proofs.YtndppbfdcceflaaGreatDoor
