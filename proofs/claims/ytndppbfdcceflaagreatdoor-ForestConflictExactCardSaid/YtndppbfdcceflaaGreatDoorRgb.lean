/-
  The free ranges of a range as a plain function, and what they are; the first of a size. Plain mathematics.
  Conditions: as each theorem says.
-/
import Derived.Test.YtndppbfdcceflaaGreatDoorRga
namespace Go.Proofs.YtndppbfdcceflaaGreatDoor

open Go.RowKit

def freeF : Nat → GR → List GR → List GR
  | 0, _, _ => []
  | k + 1, r, us =>
    if us.filter (ovR r) = [] then [r]
    else if (us.filter (ovR r)).any (fun u => conR u r) = true then []
    else if r.bits = 6 then [] else freeF k (lowR r) (us.filter (ovR r)) ++ freeF k (highR r) (us.filter (ovR r))
def freeL (r : GR) (us : List GR) : List GR := if vR r then freeF 35 r us else []
def twR (f : GR) : GR := ⟨f.base - f.base % (2 * f.sz), f.bits + 1⟩
structure FreeS (r : GR) (us l : List GR) : Prop where
  good : ∀ f ∈ l, VR f ∧ conR r f = true ∧ ∀ u ∈ us, ovR f u = false
  asc : l.Pairwise fun f g => f.base + f.sz ≤ g.base
  all : ∀ i, inR r i = true → (∀ u ∈ us, inR u i = false) → ∃ f ∈ l, inR f i = true
  max : ∀ f ∈ l, f ≠ r → ∃ u ∈ us, ovR (twR f) u = true
theorem tw_low {r : GR} (h : VR r) (h6 : r.bits ≠ 6) : twR (lowR r) = r := by
  have h1 : pw r.bits = 2 * pw (r.bits - 1) := pw_half (by have := h.lo; omega)
  have h2 : r.base % pw r.bits = 0 := h.al
  obtain ⟨b, n⟩ := r
  simp only [twR, lowR, GR.sz, GR.mk.injEq] at *
  rw [← h1, h2]
  omega
theorem tw_high {r : GR} (h : VR r) (h6 : r.bits ≠ 6) : twR (highR r) = r := by
  have h1 : pw r.bits = 2 * pw (r.bits - 1) := pw_half (by have := h.lo; omega)
  have h2 : r.base % pw r.bits = 0 := h.al
  have h3 := pw_pos (r.bits - 1)
  obtain ⟨b, n⟩ := r
  simp only [twR, highR, GR.sz, GR.mk.injEq] at *
  rw [← h1, Int.add_emod, h2, Int.zero_add, Int.emod_emod, Int.emod_eq_of_lt (by omega) (by omega)]
  omega
theorem near_nil {r : GR} {us : List GR} : us.filter (ovR r) = [] ↔ ∀ u ∈ us, ovR r u = false := by
  rw [List.filter_eq_nil_iff]
  exact ⟨fun h u hu => by simpa using h u hu, fun h u hu => by rw [h u hu]; simp⟩
theorem near_any {r : GR} {us : List GR} : (us.filter (ovR r)).any (fun u => conR u r) = us.any (fun u => conR u r) := by
  rw [Bool.eq_iff_iff, List.any_eq_true, List.any_eq_true]
  constructor
  · rintro ⟨u, hu, h⟩; exact ⟨u, (List.mem_filter.1 hu).1, h⟩
  · rintro ⟨u, hu, h⟩; exact ⟨u, List.mem_filter.2 ⟨hu, by rw [ov_comm]; exact con_ov h⟩, h⟩
theorem FreeS.wide {r : GR} {us l : List GR} (h : FreeS r (us.filter (ovR r)) l) : FreeS r us l where
  good f hf := by
    obtain ⟨h1, h2, h3⟩ := h.good f hf
    refine ⟨h1, h2, fun u hu => ?_⟩
    by_cases ho : ovR r u = true
    · exact h3 u (List.mem_filter.2 ⟨hu, ho⟩)
    · rw [Bool.eq_false_iff]; exact fun hq => ho (ov_mono h2 hq)
  asc := h.asc
  all i hi hu := h.all i hi fun u h2 => hu u (List.mem_filter.1 h2).1
  max f hf hne := by
    obtain ⟨u, hu, ho⟩ := h.max f hf hne
    exact ⟨u, (List.mem_filter.1 hu).1, ho⟩
theorem free_spec : ∀ (k : Nat) (r : GR) (us : List GR), VR r → r.bits ≤ k + 5 → FreeS r us (freeF k r us)
  | 0, r, us, h, hk => absurd h.lo (by omega)
  | k + 1, r, us, h, hk => by
    rw [freeF]
    by_cases hn : us.filter (ovR r) = []
    · rw [if_pos hn]
      have hn' := near_nil.1 hn
      exact ⟨fun f hf => by rw [List.mem_singleton] at hf; subst hf; exact ⟨h, con_refl h, hn'⟩, List.pairwise_singleton _ _, fun i hi _ => ⟨r, by simp, hi⟩, fun f hf hne => absurd (List.mem_singleton.1 hf) hne⟩
    · rw [if_neg hn]
      obtain ⟨u0, hu0⟩ := List.exists_mem_of_ne_nil _ hn
      obtain ⟨hu1, hu2⟩ := List.mem_filter.1 hu0
      by_cases hc : (us.filter (ovR r)).any (fun u => conR u r) = true
      · rw [if_pos hc]
        obtain ⟨u, hu, hcu⟩ := List.any_eq_true.1 hc
        refine ⟨fun f hf => absurd hf (by simp), List.Pairwise.nil, fun i hi hall => ?_, fun f hf => absurd hf (by simp)⟩
        have := hall u (List.mem_filter.1 hu).1
        rw [con_in hcu hi] at this; cases this
      · rw [if_neg hc]
        by_cases h6 : r.bits = 6
        · exfalso
          refine hc (List.any_eq_true.2 ⟨u0, hu0, nest hu2 ?_⟩)
          have := (ov_iff.1 hu2).2.1.lo
          omega
        · rw [if_neg h6]
          have H := halves h h6
          have S1 := free_spec k (lowR r) (us.filter (ovR r)) H.low (by simp only [lowR]; omega)
          have S2 := free_spec k (highR r) (us.filter (ovR r)) H.high (by simp only [highR]; omega)
          refine FreeS.wide ⟨?_, ?_, ?_, ?_⟩
          · intro f hf
            rcases List.mem_append.1 hf with hf | hf
            · obtain ⟨g1, g2, g3⟩ := S1.good f hf
              exact ⟨g1, con_trans H.cl g2, g3⟩
            · obtain ⟨g1, g2, g3⟩ := S2.good f hf
              exact ⟨g1, con_trans H.ch g2, g3⟩
          · refine List.pairwise_append.2 ⟨S1.asc, S2.asc, fun f hf g hg => ?_⟩
            have g1 := con_iff.1 (S1.good f hf).2.1
            have g2 := con_iff.1 (S2.good g hg).2.1
            have := H.hb
            have e : (lowR r).base = r.base := rfl
            omega
          · intro i hi hall
            rcases in_halves h h6 hi with hi | hi
            · obtain ⟨f, hf, hq⟩ := S1.all i hi hall
              exact ⟨f, List.mem_append_left _ hf, hq⟩
            · obtain ⟨f, hf, hq⟩ := S2.all i hi hall
              exact ⟨f, List.mem_append_right _ hf, hq⟩
          · intro f hf _
            rcases List.mem_append.1 hf with hf | hf
            · by_cases he : f = lowR r
              · subst he; rw [tw_low h h6]; exact ⟨u0, hu0, hu2⟩
              · exact S1.max f hf he
            · by_cases he : f = highR r
              · subst he; rw [tw_high h h6]; exact ⟨u0, hu0, hu2⟩
              · exact S2.max f hf he
theorem freeL_spec {r : GR} (us : List GR) (h : VR r) : FreeS r us (freeL r us) := by
  unfold freeL; rw [if_pos (vR_iff.2 h)]; exact free_spec 35 r us h (by have := h.hi; omega)
theorem freeF_filter {r : GR} {us vs : List GR} (h : us.filter (ovR r) = vs.filter (ovR r)) : ∀ k, freeF k r us = freeF k r vs
  | 0 => rfl
  | k + 1 => by rw [freeF, freeF, h]
theorem freeF_near {r s : GR} {us : List GR} (h : conR r s = true) (k : Nat) : freeF k s (us.filter (ovR r)) = freeF k s us := by
  refine freeF_filter ?_ k
  rw [List.filter_filter]
  refine List.filter_congr fun u _ => ?_
  cases hq : ovR s u
  · rfl
  · rw [ov_mono h hq]; rfl
theorem freeF_succ (k : Nat) (r : GR) (us : List GR) : freeF (k + 1) r us = if us.filter (ovR r) = [] then [r] else if (us.filter (ovR r)).any (fun u => conR u r) = true then [] else if r.bits = 6 then [] else freeF k (lowR r) (us.filter (ovR r)) ++ freeF k (highR r) (us.filter (ovR r)) := rfl
theorem freeF_fuel : ∀ (k : Nat) (r : GR) (us : List GR), VR r → r.bits ≤ k + 5 → freeF (k + 1) r us = freeF k r us
  | 0, r, us, h, hk => absurd h.lo (by omega)
  | k + 1, r, us, h, hk => by
    rw [freeF_succ (k + 1) r us, freeF_succ k r us]
    by_cases h6 : r.bits = 6
    · simp only [h6, if_true]
    · have H := halves h h6
      rw [freeF_fuel k (lowR r) _ H.low (by simp only [lowR]; omega), freeF_fuel k (highR r) _ H.high (by simp only [highR]; omega)]
/-- The free ranges of a range that isn't free whole are those of its halves. -/
theorem freeL_step {r : GR} (us : List GR) (h : VR r) : freeL r us = if (∀ u ∈ us, ovR r u = false) then [r] else if us.any (fun u => conR u r) = true then [] else if r.bits = 6 then [] else freeL (lowR r) us ++ freeL (highR r) us := by
  have e : freeL r us = freeF (35 + 1) r us := by
    unfold freeL; rw [if_pos (vR_iff.2 h), freeF_fuel 35 r us h (by have := h.hi; omega)]
  rw [e, freeF, near_any]
  by_cases hn : us.filter (ovR r) = []
  · rw [if_pos hn, if_pos (near_nil.1 hn)]
  · rw [if_neg hn, if_neg (fun hq => hn (near_nil.2 hq))]
    by_cases hc : us.any (fun u => conR u r) = true
    · rw [if_pos hc, if_pos hc]
    · rw [if_neg hc, if_neg hc]
      by_cases h6 : r.bits = 6
      · rw [if_pos h6, if_pos h6]
      · have H := halves h h6
        rw [if_neg h6, if_neg h6, freeF_near H.cl, freeF_near H.ch]
        unfold freeL
        rw [if_pos (vR_iff.2 H.low), if_pos (vR_iff.2 H.high)]
theorem freeL_one {r : GR} {us : List GR} (h : VR r) : freeL r us = [r] ↔ ∀ u ∈ us, ovR r u = false := by
  constructor
  · intro e u hu
    exact ((freeL_spec us h).good r (by rw [e]; simp)).2.2 u hu
  · intro hn
    rw [freeL_step us h, if_pos hn]
theorem freeL_whole {r : GR} {us : List GR} (h : VR r) (hc : us.any (fun u => conR u r) = true) : freeL r us = [] := by
  obtain ⟨u, hu, hcu⟩ := List.any_eq_true.1 hc
  rw [freeL_step us h, if_neg (fun hq => by have := hq u hu; rw [ov_comm, con_ov hcu] at this; cases this), if_pos hc]
/-- The twice of a free range that isn't the whole is a range of the whole. -/
theorem tw_ok {r : GR} {f : GR} (h : conR r f = true) (hne : f ≠ r) : VR (twR f) ∧ conR r (twR f) = true ∧ conR (twR f) f = true := by
  have hb := con_bits h
  obtain ⟨hr, hf, h1, h2⟩ := con_iff.1 h
  have hlt : f.bits < r.bits := by
    rcases Int.lt_or_le f.bits r.bits with h3 | h3
    · exact h3
    · exact absurd (con_eq h (by omega)).symm hne
  have hlo := hf.lo
  have e2 : pw (f.bits + 1) = 2 * f.sz := pw_succ (by omega)
  obtain ⟨q, hq, eq⟩ := pw_dvd (m := f.bits + 1) (n := r.bits) (by omega) (by omega)
  have hs := sz_pos f
  have m0 := Int.emod_nonneg f.base (show 2 * f.sz ≠ 0 by omega)
  have m1 := Int.emod_lt_of_pos f.base (show 0 < 2 * f.sz by omega)
  have ed := Int.mul_ediv_add_emod f.base (2 * f.sz)
  have er := Int.mul_ediv_add_emod r.base r.sz
  rw [hr.al, Int.add_zero] at er
  have ers : r.sz = q * (2 * f.sz) := by rw [← e2]; exact eq
  have fa := hf.al
  have ef := Int.mul_ediv_add_emod f.base f.sz
  rw [fa, Int.add_zero] at ef
  -- f's base modulo twice its size is 0 or its size
  have hm : f.base % (2 * f.sz) = 0 ∨ f.base % (2 * f.sz) = f.sz := by
    have : (f.base % (2 * f.sz)) % f.sz = 0 := by rw [Int.emod_emod_of_dvd _ ⟨2, by rw [Int.mul_comm]⟩]; exact fa
    generalize f.base % (2 * f.sz) = y at *
    have e9 := Int.mul_ediv_add_emod y f.sz
    rw [this, Int.add_zero] at e9
    have z0 : 0 ≤ y / f.sz := Int.ediv_nonneg m0 (by omega)
    have z1 : y / f.sz < 2 := by
      rcases Int.lt_or_le (y / f.sz) 2 with h9 | h9
      · exact h9
      · have := Int.mul_le_mul_of_nonneg_left h9 (Int.le_of_lt hs); omega
    generalize y / f.sz = t at *
    obtain rfl | rfl : t = 0 ∨ t = 1 := by omega
    · left; omega
    · right; omega
  have tb : (twR f).base = 2 * f.sz * (f.base / (2 * f.sz)) := by simp only [twR]; omega
  have tsz : (twR f).sz = 2 * f.sz := e2
  have hin : r.base ≤ (twR f).base ∧ (twR f).base + 2 * f.sz ≤ r.base + r.sz := by
    rw [tb]
    rw [ers] at er h2 ⊢
    generalize r.base / (q * (2 * f.sz)) = x at *
    generalize f.base / (2 * f.sz) = y at *
    generalize 2 * f.sz = s at *
    have e1 : q * s * x = (q * x) * s := by rw [Int.mul_assoc, Int.mul_comm s x, ← Int.mul_assoc]
    rw [e1] at er
    rw [← er] at h1 h2 ⊢
    rw [Int.mul_comm s y] at ed ⊢
    have h3 : q * x < y + 1 := Int.lt_of_mul_lt_mul_right (a := s) (by rw [Int.add_mul, Int.one_mul]; omega) (by omega)
    have h4 : y < q * x + q := Int.lt_of_mul_lt_mul_right (a := s) (by rw [Int.add_mul]; omega) (by omega)
    have h5 := Int.mul_le_mul_of_nonneg_right (show q * x ≤ y by omega) (show 0 ≤ s by omega)
    have h6 := Int.mul_le_mul_of_nonneg_right (show y + 1 ≤ q * x + q by omega) (show 0 ≤ s by omega)
    rw [Int.add_mul, Int.one_mul] at h6
    rw [Int.add_mul] at h6
    exact ⟨h5, h6⟩
  have hrb := hr.b0
  have hrt := hr.top
  have v : VR (twR f) := ⟨by simp only [twR]; omega, by have := hr.hi; simp only [twR]; omega, by omega, by rw [tsz, tb]; exact Int.mul_emod_right _ _, by rw [tsz]; omega⟩
  refine ⟨v, con_iff.2 ⟨hr, v, hin.1, by rw [tsz]; exact hin.2⟩, con_iff.2 ⟨v, hf, ?_, ?_⟩⟩
  · simp only [twR]; omega
  · rw [tsz]; simp only [twR]; omega
/-- A clear range within r lies within a free one. -/
theorem clear_free {r y : GR} {us : List GR} (h : VR r) (hy : conR r y = true) (hc : ∀ u ∈ us, ovR y u = false) : ∃ f ∈ freeL r us, conR f y = true := by
  have S := freeL_spec us h
  have hy' := con_iff.1 hy
  have hp := sz_pos y
  obtain ⟨f, hf, hif⟩ := S.all y.base (con_in hy (in_iff.2 ⟨hy'.2.1, by omega, by omega⟩)) fun u hu => by
    rw [Bool.eq_false_iff]
    intro hq
    have : ovR y u = true := ov_in.2 ⟨y.base, in_iff.2 ⟨hy'.2.1, by omega, by omega⟩, hq⟩
    rw [hc u hu] at this; cases this
  have hov : ovR y f = true := ov_in.2 ⟨y.base, in_iff.2 ⟨hy'.2.1, by omega, by omega⟩, hif⟩
  refine ⟨f, hf, ?_⟩
  rcases Int.lt_or_le f.bits y.bits with hlt | hle
  · exfalso
    have hne : f ≠ r := by rintro rfl; have := con_bits hy; omega
    obtain ⟨u, hu, ho⟩ := S.max f hf hne
    obtain ⟨v1, v2, v3⟩ := tw_ok (S.good f hf).2.1 hne
    have : conR y (twR f) = true := nest (by rw [ov_comm] at hov ⊢; rw [ov_comm]; exact ov_mono v3 hov) (by simp only [twR]; omega)
    have := ov_mono this ho
    rw [hc u hu] at this; cases this
  · exact nest hov hle
def findL (r : GR) (us : List GR) (n : Int) : Option GR := if 6 ≤ n then ((freeL r us).find? fun f => decide (n ≤ f.bits)).map fun f => ⟨f.base, n⟩ else none
theorem find_first {p : GR → Bool} : ∀ {l : List GR} {f : GR}, l.find? p = some f → l.Pairwise (fun f g => f.base + f.sz ≤ g.base) → f ∈ l ∧ p f = true ∧ ∀ g ∈ l, p g = true → g = f ∨ f.base + f.sz ≤ g.base
  | [], _, h, _ => by simp at h
  | x :: l, f, h, hs => by
    rw [List.pairwise_cons] at hs
    by_cases hp : p x = true
    · rw [List.find?_cons_of_pos hp] at h
      injection h with h
      subst h
      exact ⟨by simp, hp, fun g hg _ => by
        rcases List.mem_cons.1 hg with rfl | hg
        · exact .inl rfl
        · exact .inr (hs.1 g hg)⟩
    · rw [List.find?_cons_of_neg hp] at h
      obtain ⟨h1, h2, h3⟩ := find_first h hs.2
      exact ⟨by simp [h1], h2, fun g hg hpg => by
        rcases List.mem_cons.1 hg with rfl | hg
        · exact absurd hpg hp
        · exact h3 g hg hpg⟩
theorem sub_ok {f : GR} {n : Int} (h : VR f) (h6 : 6 ≤ n) (hn : n ≤ f.bits) : VR ⟨f.base, n⟩ ∧ conR f ⟨f.base, n⟩ = true := by
  obtain ⟨q, hq, e⟩ := pw_dvd hn (by omega)
  have hl := pw_le hn (by omega)
  have ht := h.top
  have hsz : f.sz = pw f.bits := rfl
  have v : VR ⟨f.base, n⟩ := ⟨h6, by have := h.hi; simp only; omega, h.b0, by
    have ha := Int.mul_ediv_add_emod f.base f.sz
    rw [h.al, Int.add_zero, hsz, e] at ha
    show f.base % pw n = 0
    rw [← ha, Int.mul_comm q, Int.mul_assoc]; exact Int.mul_emod_right _ _, by simp only [GR.sz] at *; omega⟩
  exact ⟨v, con_iff.2 ⟨h, v, by simp only; omega, by simp only [GR.sz] at *; omega⟩⟩
structure FindS (r : GR) (us : List GR) (n : Int) (x : GR) : Prop where
  bits : x.bits = n
  val : VR x
  con : conR r x = true
  clr : ∀ u ∈ us, ovR x u = false
  first : ∀ y, y.bits = n → conR r y = true → (∀ u ∈ us, ovR y u = false) → x.base ≤ y.base
theorem find_some {r : GR} {us : List GR} {n : Int} {x : GR} (h : VR r) (hf : findL r us n = some x) : FindS r us n x := by
  unfold findL at hf
  by_cases h6 : 6 ≤ n
  · rw [if_pos h6, Option.map_eq_some_iff] at hf
    obtain ⟨f, h1, rfl⟩ := hf
    have S := freeL_spec us h
    obtain ⟨m1, m2, m3⟩ := find_first h1 S.asc
    simp only [decide_eq_true_eq] at m2
    obtain ⟨g1, g2, g3⟩ := S.good f m1
    obtain ⟨v1, v2⟩ := sub_ok g1 h6 m2
    refine ⟨rfl, v1, con_trans g2 v2, fun u hu => ?_, fun y hy hc hcl => ?_⟩
    · rw [Bool.eq_false_iff]; intro hq
      have := ov_mono v2 hq
      rw [g3 u hu] at this; cases this
    · obtain ⟨g, hg, hcg⟩ := clear_free h hc hcl
      have hb := con_bits hcg
      have hcg' := con_iff.1 hcg
      have := sz_pos f
      rcases m3 g hg (by simp; omega) with rfl | h9
      · exact hcg'.2.2.1
      · simp only; omega
  · rw [if_neg h6] at hf; cases hf
theorem find_none {r : GR} {us : List GR} {n : Int} (h : VR r) (h6 : 6 ≤ n) (hf : findL r us n = none) {y : GR} (hy : y.bits = n) (hc : conR r y = true) : ∃ u ∈ us, ovR y u = true := by
  refine Classical.byContradiction fun hno => ?_
  have hcl : ∀ u ∈ us, ovR y u = false := fun u hu => by
    rw [Bool.eq_false_iff]; exact fun hq => hno ⟨u, hu, hq⟩
  obtain ⟨g, hg, hcg⟩ := clear_free h hc hcl
  have hb := con_bits hcg
  unfold findL at hf
  rw [if_pos h6, Option.map_eq_none_iff, List.find?_eq_none] at hf
  have := hf g hg
  simp only [decide_eq_true_eq] at this
  omega
end Go.Proofs.YtndppbfdcceflaaGreatDoor
