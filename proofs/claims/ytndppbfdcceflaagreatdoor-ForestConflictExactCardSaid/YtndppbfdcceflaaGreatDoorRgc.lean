/-
  The number of points that ranges cover; what the laws say of free ranges, in plain words. Plain mathematics.
  Conditions: as each theorem says.
-/
import Derived.Test.YtndppbfdcceflaaGreatDoorRgb
namespace Go.Proofs.YtndppbfdcceflaaGreatDoor

open Go.RowKit

def inL (l : List GR) (i : Int) : Bool := l.any fun r => inR r i
def sumSz : List GR → Int
  | [] => 0
  | r :: l => r.sz + sumSz l
theorem cnt_one {r : GR} (h : VR r) {a : Int} {n : Nat} (h1 : a ≤ r.base) (h2 : r.base + r.sz ≤ a + n) : cnt (inR r) a n = r.sz := by
  have hp := sz_pos r
  rw [cnt_part (b := r.base) (m := r.sz.toNat) h1 (by omega) fun i h3 h4 hi => by rw [in_iff] at hi; omega, cnt_all fun i h3 h4 => in_iff.2 ⟨h, h3, by omega⟩]
  omega
theorem asc_apart {f : GR} {l : List GR} (h : ∀ g ∈ l, f.base + f.sz ≤ g.base) (i : Int) : ¬ (inR f i = true ∧ inL l i = true) := by
  rintro ⟨h1, h2⟩
  unfold inL at h2
  rw [List.any_eq_true] at h2
  obtain ⟨g, hg, h3⟩ := h2
  have := h g hg
  rw [in_iff] at h1 h3
  omega
theorem sum_cnt {a : Int} {n : Nat} : ∀ {l : List GR}, (∀ f ∈ l, VR f ∧ a ≤ f.base ∧ f.base + f.sz ≤ a + n) → l.Pairwise (fun f g => f.base + f.sz ≤ g.base) → sumSz l = cnt (inL l) a n
  | [], _, _ => by rw [cnt_none (P := inL []) fun _ _ _ => rfl]; rfl
  | f :: l, h, hs => by
    rw [List.pairwise_cons] at hs
    obtain ⟨h1, h2, h3⟩ := h f (by simp)
    have e : inL (f :: l) = fun i => inR f i || inL l i := rfl
    rw [e, cnt_or fun i _ _ => asc_apart hs.1 i, cnt_one h1 h2 h3, ← sum_cnt (fun g hg => h g (by simp [hg])) hs.2]
    rfl
def TOPN : Nat := 1099511627776
theorem topn : ((TOPN : Nat) : Int) = 1099511627776 := by decide
/-- The number of bytes that lie in at least one valid range. -/
def ms (l : List GR) : Int := cnt (inL l) 0 TOPN
theorem ms_part {l : List GR} {a : Int} {n : Nat} (h0 : 0 ≤ a) (h1 : a + n ≤ 1099511627776) (h : ∀ i, inL l i = true → a ≤ i ∧ i < a + n) : ms l = cnt (inL l) a n :=
  cnt_part h0 (by rw [topn]; omega) fun i _ _ hi => h i hi
theorem VR.range {r : GR} (h : VR r) {i : Int} (hi : inR r i = true) : 0 ≤ i ∧ i < 1099511627776 := by
  rw [in_iff] at hi
  have := h.b0
  have := h.top
  omega
def gAt (l : List GR) (k : Nat) : GR := l.getD k ⟨0, 0⟩
theorem gAt_get {l : List GR} {k : Nat} (h : k < l.length) : gAt l k = l[k] := by simp [gAt, List.getD_eq_getElem?_getD, List.getElem?_eq_getElem h]
/-- No element contains element i that is larger, or as large and in front of it. -/
def beatB (l : List GR) (i k : Nat) : Bool := conR (gAt l k) (gAt l i) && (decide ((gAt l i).bits < (gAt l k).bits) || decide (k < i))
def maxAt (l : List GR) (i : Nat) : Bool := vR (gAt l i) && !(List.range l.length).any (beatB l i)
def covN (l : List GR) : Nat → Int
  | 0 => 0
  | i + 1 => covN l i + (if maxAt l i = true then (gAt l i).sz else 0)
def covL (l : List GR) : Int := covN l l.length
def inM (l : List GR) (n : Nat) (p : Int) : Bool := (List.range n).any fun j => maxAt l j && inR (gAt l j) p
theorem max_iff {l : List GR} {i : Nat} : maxAt l i = true ↔ VR (gAt l i) ∧ ∀ k, k < l.length → beatB l i k = false := by
  unfold maxAt
  rw [Bool.and_eq_true, vR_iff, Bool.not_eq_true', List.any_eq_false]
  simp only [List.mem_range]
  constructor
  · rintro ⟨h1, h2⟩; exact ⟨h1, fun k hk => by simpa using h2 k hk⟩
  · rintro ⟨h1, h2⟩; exact ⟨h1, fun k hk => by rw [h2 k hk]; simp⟩
theorem beat_iff {l : List GR} {i k : Nat} : beatB l i k = true ↔ conR (gAt l k) (gAt l i) = true ∧ ((gAt l i).bits < (gAt l k).bits ∨ k < i) := by
  unfold beatB; simp
theorem max_apart {l : List GR} {i j : Nat} (hi : i < l.length) (hj : j < l.length) (hlt : i < j) (h1 : maxAt l i = true) (h2 : maxAt l j = true) : ovR (gAt l i) (gAt l j) = false := by
  rw [Bool.eq_false_iff]
  intro ho
  rw [max_iff] at h1 h2
  have b1 := h1.2 j hj
  have b2 := h2.2 i hi
  rw [Bool.eq_false_iff, ne_eq, beat_iff] at b1 b2
  rcases Int.lt_or_le (gAt l i).bits (gAt l j).bits with h3 | h3
  · exact b1 ⟨nest ho (by omega), .inl h3⟩
  · exact b2 ⟨nest (by rw [ov_comm]; exact ho) h3, .inr hlt⟩
theorem cov_cnt (l : List GR) : ∀ n, n ≤ l.length → covN l n = cnt (inM l n) 0 TOPN
  | 0, _ => by rw [cnt_none (P := inM l 0) fun _ _ _ => rfl]; rfl
  | n + 1, hn => by
    have e : inM l (n + 1) = fun p => inM l n p || (maxAt l n && inR (gAt l n) p) := by
      funext p
      unfold inM
      rw [List.range_succ, List.any_append]
      simp
    rw [covN, e, cov_cnt l n (by omega), cnt_or]
    · by_cases hm : maxAt l n = true
      · rw [if_pos hm]
        have hv := (max_iff.1 hm).1
        have e2 : (fun p => maxAt l n && inR (gAt l n) p) = inR (gAt l n) := by funext p; rw [hm]; rfl
        rw [e2, cnt_one hv hv.b0 (by have := hv.top; rw [topn]; omega)]
      · rw [if_neg hm, cnt_none (P := fun p => maxAt l n && inR (gAt l n) p) fun p _ _ => by rw [Bool.eq_false_iff.2 hm]; rfl]
    · rintro p _ _ ⟨h1, h2⟩
      unfold inM at h1
      rw [List.any_eq_true] at h1
      obtain ⟨j, hj, h3⟩ := h1
      rw [List.mem_range] at hj
      rw [Bool.and_eq_true] at h2 h3
      have := max_apart (by omega) (by omega) hj h3.1 h2.1
      rw [ov_in.2 ⟨p, h3.2, h2.2⟩] at this
      cases this
theorem in_max {l : List GR} {p : Int} : ∀ (m i : Nat), i < l.length → ((40 - (gAt l i).bits).toNat * (l.length + 1) + i ≤ m) → inR (gAt l i) p = true → ∃ j, j < l.length ∧ maxAt l j = true ∧ inR (gAt l j) p = true := by
  intro m
  induction m with
  | zero =>
    intro i hi hm hp
    refine ⟨i, hi, ?_, hp⟩
    have hv := (in_iff.1 hp).1
    refine max_iff.2 ⟨hv, fun k hk => ?_⟩
    rw [Bool.eq_false_iff, ne_eq, beat_iff]
    rintro ⟨hc, hb⟩
    have hv2 := (con_iff.1 hc).1.hi
    have h40 := hv.hi
    have e0 : (40 - (gAt l i).bits).toNat * (l.length + 1) = 0 := by omega
    rcases Nat.mul_eq_zero.1 e0 with h | h <;> omega
  | succ m ih =>
    intro i hi hm hp
    by_cases hmx : maxAt l i = true
    · exact ⟨i, hi, hmx, hp⟩
    · have hv := (in_iff.1 hp).1
      have : ∃ k, k < l.length ∧ beatB l i k = true := by
        refine Classical.byContradiction fun hno => hmx (max_iff.2 ⟨hv, fun k hk => ?_⟩)
        rw [Bool.eq_false_iff]
        exact fun hq => hno ⟨k, hk, hq⟩
      obtain ⟨k, hk, hb⟩ := this
      rw [beat_iff] at hb
      refine ih k hk ?_ (con_in hb.1 hp)
      have h1 := con_bits hb.1
      have h2 := (con_iff.1 hb.1).1.hi
      rcases Int.lt_or_le (gAt l i).bits (gAt l k).bits with h3 | h3
      · obtain ⟨d, hd⟩ : ∃ d, (40 - (gAt l i).bits).toNat = (40 - (gAt l k).bits).toNat + 1 + d := ⟨(40 - (gAt l i).bits).toNat - (40 - (gAt l k).bits).toNat - 1, by omega⟩
        rw [hd, Nat.add_mul, Nat.add_mul, Nat.one_mul] at hm
        have : 0 ≤ d * (l.length + 1) := Nat.zero_le _
        generalize d * (l.length + 1) = z at *
        omega
      · have he : (gAt l k).bits = (gAt l i).bits := by omega
        rw [he]
        have := hb.2
        omega
theorem inM_inL (l : List GR) (p : Int) : inM l l.length p = inL l p := by
  rw [Bool.eq_iff_iff]
  unfold inM inL
  rw [List.any_eq_true, List.any_eq_true]
  constructor
  · rintro ⟨j, hj, h⟩
    rw [List.mem_range] at hj
    rw [Bool.and_eq_true, gAt_get hj] at h
    exact ⟨l[j], List.getElem_mem hj, h.2⟩
  · rintro ⟨r, hr, h⟩
    obtain ⟨i, hi, rfl⟩ := List.getElem_of_mem hr
    obtain ⟨j, hj, h1, h2⟩ := in_max _ i hi (Nat.le_refl _) (by rw [gAt_get hi]; exact h)
    exact ⟨j, List.mem_range.2 hj, by rw [h1, h2]; rfl⟩
/-- What the reference counts is the number of bytes that are covered. -/
theorem cov_ms (l : List GR) : covL l = ms l := by
  unfold covL ms
  rw [cov_cnt l _ (Nat.le_refl _)]
  exact cnt_congr fun p _ _ => inM_inL l p
theorem ms_eq {a b : List GR} (h : ∀ r, r ∈ a ↔ r ∈ b) : ms a = ms b := cnt_congr fun p _ _ => by
  rw [Bool.eq_iff_iff]
  unfold inL
  rw [List.any_eq_true, List.any_eq_true]
  exact ⟨fun ⟨r, h1, h2⟩ => ⟨r, (h r).1 h1, h2⟩, fun ⟨r, h1, h2⟩ => ⟨r, (h r).2 h1, h2⟩⟩
theorem ms_more (a : List GR) {x : GR} (h : VR x) : ms a ≤ ms (a ++ [x]) ∧ ms (a ++ [x]) ≤ ms a + x.sz ∧ x.sz ≤ ms (a ++ [x]) := by
  have e : inL (a ++ [x]) = fun i => inL a i || inR x i := by funext i; unfold inL; rw [List.any_append]; simp
  have e1 : cnt (inR x) 0 TOPN = x.sz := cnt_one h h.b0 (by have := h.top; rw [topn]; omega)
  unfold ms
  rw [e]
  refine ⟨cnt_mono fun i _ _ hi => by rw [hi]; rfl, by rw [← e1]; exact cnt_or_le, ?_⟩
  rw [← e1]
  exact cnt_mono fun i _ _ hi => by rw [hi]; simp
theorem ms_sub {l : List GR} {r : GR} (h : VR r) (hl : ∀ i, inL l i = true → inR r i = true) : ms l = cnt (inL l) r.base r.sz.toNat := by
  have := sz_pos r
  exact ms_part h.b0 (by have := h.top; omega) fun i hi => by have := in_iff.1 (hl i hi); omega
/-- RangeHalves' last sentence. -/
theorem ms_whole {l : List GR} {r : GR} (h : VR r) (hl : ∀ f ∈ l, conR r f = true ∨ VR f = False) (hr : r ∈ l) : ms l = r.sz := by
  have hs : ∀ i, inL l i = inR r i := fun i => by
    rw [Bool.eq_iff_iff]
    unfold inL
    rw [List.any_eq_true]
    constructor
    · rintro ⟨f, hf, hi⟩
      rcases hl f hf with h1 | h1
      · exact con_in h1 hi
      · have := (in_iff.1 hi).1; rw [h1] at this; exact this.elim
    · exact fun hi => ⟨r, hr, hi⟩
  have := sz_pos r
  rw [ms_sub h fun i hi => by rw [← hs]; exact hi, cnt_all fun i h1 h2 => by rw [hs]; exact in_iff.2 ⟨h, h1, by omega⟩]
  omega
theorem freeL_sum {r : GR} {us : List GR} (h : VR r) : sumSz (freeL r us) = cnt (inL (freeL r us)) r.base r.sz.toNat := by
  have S := freeL_spec us h
  have := sz_pos r
  refine sum_cnt (fun f hf => ?_) S.asc
  have := con_iff.1 (S.good f hf).2.1
  exact ⟨this.2.1, by omega, by omega⟩
theorem free_in {r : GR} {us : List GR} (h : VR r) {i : Int} : inL (freeL r us) i = true ↔ inR r i = true ∧ ∀ u ∈ us, inR u i = false := by
  have S := freeL_spec us h
  unfold inL
  rw [List.any_eq_true]
  constructor
  · rintro ⟨f, hf, hi⟩
    obtain ⟨g1, g2, g3⟩ := S.good f hf
    refine ⟨con_in g2 hi, fun u hu => ?_⟩
    rw [Bool.eq_false_iff]
    intro hq
    have := g3 u hu
    rw [ov_in.2 ⟨i, hi, hq⟩] at this
    cases this
  · rintro ⟨h1, h2⟩
    exact S.all i h1 h2
/-- The free ranges and the used ones inside make up a range that no used one contains. -/
theorem partition {r : GR} {us : List GR} (h : VR r) (hw : us.any (fun u => conR u r) = false) : sumSz (freeL r us) + covL (us.filter (conR r)) = r.sz := by
  have hp := sz_pos r
  rw [freeL_sum h, cov_ms, ms_sub (r := r) h fun i hi => by
    unfold inL at hi
    rw [List.any_eq_true] at hi
    obtain ⟨u, hu, hi⟩ := hi
    exact con_in (List.mem_filter.1 hu).2 hi, ← cnt_or, cnt_all]
  · omega
  · intro i h1 h2
    have hir : inR r i = true := in_iff.2 ⟨h, h1, by omega⟩
    by_cases hu : ∀ u ∈ us, inR u i = false
    · rw [free_in h |>.2 ⟨hir, hu⟩]; rfl
    · have : ∃ u ∈ us, inR u i = true := Classical.byContradiction fun hno => hu fun u hu => by
        rw [Bool.eq_false_iff]; exact fun hq => hno ⟨u, hu, hq⟩
      obtain ⟨u, hu, hiu⟩ := this
      have ho : ovR r u = true := ov_in.2 ⟨i, hir, hiu⟩
      have hc : conR r u = true := by
        rcases Int.lt_or_le r.bits u.bits with h3 | h3
        · exfalso
          rw [List.any_eq_false] at hw
          exact hw u hu (nest ho (by omega))
        · exact nest (by rw [ov_comm]; exact ho) h3
      have : inL (us.filter (conR r)) i = true := List.any_eq_true.2 ⟨u, List.mem_filter.2 ⟨hu, hc⟩, hiu⟩
      rw [this]; simp
  · rintro i _ _ ⟨h1, h2⟩
    rw [free_in h] at h1
    unfold inL at h2
    rw [List.any_eq_true] at h2
    obtain ⟨u, hu, hi⟩ := h2
    rw [h1.2 u (List.mem_filter.1 hu).1] at hi
    cases hi
/-- The free ranges cover the whole only where it is free whole. -/
theorem cover_whole {r : GR} {us : List GR} (h : VR r) : covL (freeL r us) = r.sz ↔ freeL r us = [r] := by
  have hp := sz_pos r
  have e : ms (freeL r us) = cnt (inL (freeL r us)) r.base r.sz.toNat := ms_sub h fun i hi => ((free_in h).1 hi).1
  rw [cov_ms, e]
  constructor
  · intro hq
    refine (freeL_one h).2 fun u hu => ?_
    rw [Bool.eq_false_iff]
    intro ho
    obtain ⟨i, h1, h2⟩ := ov_in.1 ho
    have h1' := in_iff.1 h1
    have := cnt_point (P := inL (freeL r us)) (Q := inR r) (a := r.base) (n := r.sz.toNat) (fun i _ _ hi => ((free_in h).1 hi).1) (x := i) (by omega) (by omega) (by
      rw [Bool.eq_false_iff]
      intro hf
      rw [((free_in h).1 hf).2 u hu] at h2
      cases h2) h1
    rw [cnt_one h (by omega) (by omega)] at this
    omega
  · intro hq
    rw [hq, show inL [r] = inR r by funext i; simp [inL], cnt_one h (by omega) (by omega)]
end Go.Proofs.YtndppbfdcceflaaGreatDoor
