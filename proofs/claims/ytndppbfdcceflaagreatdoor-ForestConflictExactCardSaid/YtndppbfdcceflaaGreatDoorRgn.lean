/-
  Ranges in plain words, for the program's way: the greatest block at an address, the blocks between two addresses, the outermost ranges of a sorted list, and that the free ranges are the blocks of the gaps.
  Conditions: none.
-/
import Derived.Test.YtndppbfdcceflaaGreatDoorRgd
import Derived.Lib.TrailingZeros
import Derived.Lib.BitFns
namespace Go.Proofs.YtndppbfdcceflaaGreatDoor

open Go.RowKit

theorem bitLenAux_spec : ∀ (f x : Nat), 0 < x → x < 2 ^ f → ∃ m, Lib.bitLenAux f x = m + 1 ∧ 2 ^ m ≤ x ∧ x < 2 ^ (m + 1)
  | 0, x, h0, h => by simp at h; omega
  | f + 1, x, h0, h => by
    unfold Lib.bitLenAux
    rw [if_neg (by omega)]
    rcases Nat.eq_zero_or_pos (x / 2) with h2 | h2
    · refine ⟨0, ?_, by omega, by omega⟩
      rw [h2]
      cases f <;> simp [Lib.bitLenAux]
    · obtain ⟨m, e, h3, h4⟩ := bitLenAux_spec f (x / 2) h2 (by rw [Nat.pow_succ] at h; omega)
      refine ⟨m + 1, by omega, ?_, ?_⟩
      · rw [Nat.pow_succ]; omega
      · rw [Nat.pow_succ]; omega
/-- The size in bits of the greatest block at s that ends at t at the latest. -/
def kOf (s t : Int) : Int := min (Lib.ctz 64 s.toNat : Int) ((Lib.bitLen (t - s).toNat : Int) - 1)
structure KS (s t k : Int) : Prop where
  lo : 6 ≤ k
  hi : k ≤ 40
  al : s % pw k = 0
  fit : s + pw k ≤ t
  most : ∀ m, k < m → s % pw m = 0 → t < s + pw m
theorem pw_nat (n : Nat) : pw (n : Int) = ((2 ^ n : Nat) : Int) := by unfold pw; simp
theorem mod_pw {s : Int} {m n : Int} (h : s % pw n = 0) (hm : m ≤ n) (h0 : 0 ≤ m) : s % pw m = 0 := by
  obtain ⟨q, _, e⟩ := pw_dvd hm h0
  obtain ⟨d, hd⟩ := Int.dvd_of_emod_eq_zero h
  exact Int.emod_eq_zero_of_dvd ⟨q * d, by rw [hd, e]; rw [Int.mul_comm q, Int.mul_assoc]⟩
theorem kOf_ok {s t : Int} (h0 : 0 ≤ s) (hlt : s < t) (ht : t ≤ 1099511627776) (ha : s % 64 = 0) (hb : t % 64 = 0) : KS s t (kOf s t) := by
  have hx0 : 0 < (t - s).toNat := by omega
  have hx1 : (t - s).toNat < 2 ^ 64 := by omega
  obtain ⟨L, eL, hL1, hL2⟩ := bitLenAux_spec 64 (t - s).toNat hx0 hx1
  have eL' : (Lib.bitLen (t - s).toNat : Int) - 1 = (L : Int) := by unfold Lib.bitLen; rw [eL]; omega
  have p1 : pw (L : Int) ≤ t - s := by rw [pw_nat]; omega
  have p2 : t - s < pw ((L + 1 : Nat) : Int) := by rw [pw_nat]; omega
  have h64 : pw 6 = 64 := by decide
  have h40 : pw 40 = 1099511627776 := by decide
  have L6 : 6 ≤ (L : Int) := by
    rcases Int.lt_or_le (L : Int) 6 with h | h
    · have := pw_le (m := ((L + 1 : Nat) : Int)) (n := 6) (by omega) (by omega); omega
    · exact h
  have L40 : (L : Int) ≤ 40 := by
    rcases Int.lt_or_le 40 (L : Int) with h | h
    · have := pw_lt (m := 40) (n := (L : Int)) h (by omega); omega
    · exact h
  have big : ∀ m : Int, (L : Int) < m → t < s + pw m := fun m hm => by
    have := pw_le (m := ((L + 1 : Nat) : Int)) (n := m) (by omega) (by omega); omega
  unfold kOf
  rw [eL']
  rcases Nat.eq_zero_or_pos s.toNat with hs | hs
  · have es : s = 0 := by omega
    subst es
    have ec : Lib.ctz 64 (0 : Int).toNat = 64 := by simp [Lib.ctz]
    rw [ec, Int.min_eq_right (by omega)]
    exact ⟨L6, L40, by simp, by omega, fun m hm _ => big m hm⟩
  · have ec : Lib.ctz 64 s.toNat = Lib.ctzFrom 64 s.toNat := by unfold Lib.ctz; rw [if_neg (by omega)]
    rw [ec]
    obtain ⟨d, hd, hc⟩ := Lib.ctzFrom_spec 64 s.toNat hs (by omega)
    generalize Lib.ctzFrom 64 s.toNat = c at *
    have hsi : s = pw (c : Int) * (2 * (d : Int) + 1) := by rw [pw_nat, ← Int.toNat_of_nonneg h0, hd]; push_cast; rfl
    have odd : ∀ m : Int, (c : Int) < m → s % pw m ≠ 0 := fun m hm he => by
      have h1 := mod_pw he (show (c : Int) + 1 ≤ m by omega) (by omega)
      rw [pw_succ (by omega)] at h1
      obtain ⟨q, hq⟩ := Int.dvd_of_emod_eq_zero h1
      have hp := pw_pos (c : Int)
      have : pw (c : Int) * (2 * (d : Int) + 1) = pw (c : Int) * (2 * q) := by rw [← hsi, hq]; rw [Int.mul_comm 2 (pw c), Int.mul_assoc]
      have := Int.eq_of_mul_eq_mul_left (by omega) this
      omega
    have c6 : 6 ≤ (c : Int) := by
      rcases Int.lt_or_le (c : Int) 6 with h | h
      · exact absurd (by rw [h64]; exact ha) (odd 6 h)
      · exact h
    have als : s % pw (c : Int) = 0 := Int.emod_eq_zero_of_dvd ⟨_, hsi⟩
    rcases Int.le_total (c : Int) (L : Int) with hcl | hcl
    · rw [Int.min_eq_left hcl]
      have := pw_le hcl (by omega)
      exact ⟨c6, by omega, als, by omega, fun m hm he => absurd he (odd m hm)⟩
    · rw [Int.min_eq_right hcl]
      exact ⟨L6, L40, mod_pw als hcl (by omega), by omega, fun m hm _ => big m hm⟩
theorem KS.vr {s t k : Int} (h : KS s t k) (h0 : 0 ≤ s) (ht : t ≤ 1099511627776) : VR ⟨s, k⟩ :=
  ⟨h.lo, h.hi, h0, h.al, by have := h.fit; show s + pw k ≤ _; omega⟩
theorem mod64 {k : Int} (h : 6 ≤ k) {s : Int} (ha : s % pw k = 0) : s % 64 = 0 := mod_pw (m := 6) ha h (by omega)
theorem VR.b64 {r : GR} (h : VR r) : r.base % 64 = 0 := mod64 h.lo h.al
theorem pw64 {k : Int} (h : 6 ≤ k) : pw k % 64 = 0 := by
  have := mod64 (k := k) h (s := pw k) (by simp)
  exact this
theorem VR.e64 {r : GR} (h : VR r) : (r.base + r.sz) % 64 = 0 := by
  have h1 := h.b64
  have h2 := pw64 h.lo
  have h3 : r.sz = pw r.bits := rfl
  omega
theorem pw_ge64 {k : Int} (h : 6 ≤ k) : 64 ≤ pw k := pw_le (m := 6) h (by omega)
/-- The greatest blocks between two addresses, from the lower one on. -/
def blocks (s t : Int) : List GR := if s < t then ⟨s, kOf s t⟩ :: blocks (s + pw (kOf s t)) t else []
termination_by (t - s).toNat
decreasing_by have := pw_pos (kOf s t); omega
theorem blocks_nil {s t : Int} (h : t ≤ s) : blocks s t = [] := by rw [blocks, if_neg (by omega)]
theorem blocks_cons {s t : Int} (h : s < t) : blocks s t = ⟨s, kOf s t⟩ :: blocks (s + pw (kOf s t)) t := by rw [blocks, if_pos h]
/-- What the blocks between two addresses are. -/
structure BlkS (s t : Int) (l : List GR) : Prop where
  good : ∀ f ∈ l, VR f ∧ s ≤ f.base ∧ f.base + f.sz ≤ t
  asc : l.Pairwise fun f g => f.base + f.sz ≤ g.base
  all : ∀ i, s ≤ i → i < t → ∃ f ∈ l, inR f i = true
theorem nest' {a b : GR} (ha : VR a) (hb : VR b) (h1 : a.base < b.base + b.sz) (h2 : b.base < a.base + a.sz) : conR a b = true ∨ conR b a = true := by
  have ho : ovR a b = true := ov_iff.2 ⟨ha, hb, h1, h2⟩
  rcases Int.le_total a.bits b.bits with h | h
  · exact .inr (nest ho h)
  · exact .inl (nest (by rw [ov_comm]; exact ho) h)
/-- The blocks from an inner address on, where no block of the gap goes over that address. -/
theorem blocks_ok (s0 t : Int) (hs0 : 0 ≤ s0) (ht : t ≤ 1099511627776) (hb : t % 64 = 0) : ∀ (n : Nat) (s : Int), (t - s).toNat ≤ n → s0 ≤ s → s ≤ t → s % 64 = 0 →
    (∀ y, VR y → s0 ≤ y.base → y.base + y.sz ≤ t → y.base + y.sz ≤ s ∨ s ≤ y.base) →
    BlkS s t (blocks s t) ∧ (∀ f ∈ blocks s t, ∀ y, VR y → s0 ≤ y.base → y.base + y.sz ≤ t → conR y f = true → y = f) ∧ 64 * ((blocks s t).length : Int) ≤ t - s
  | 0, s, hn, _, hst, _, _ => by
    rw [blocks_nil (by omega)]
    exact ⟨⟨by simp, .nil, fun i h1 h2 => by omega⟩, by simp, by simp; omega⟩
  | n + 1, s, hn, h0, hst, ha, hI => by
    rcases Int.lt_or_le s t with h | h
    · have K := kOf_ok (by omega) h ht ha hb
      rw [blocks_cons h]
      have hp := pw_ge64 K.lo
      have hfit := K.fit
      have h64 := pw64 K.lo
      generalize kOf s t = k at *
      have hv : VR ⟨s, k⟩ := K.vr (by omega) ht
      have hsz : (⟨s, k⟩ : GR).sz = pw k := rfl
      have hmx : ∀ y, VR y → s0 ≤ y.base → y.base + y.sz ≤ t → conR y ⟨s, k⟩ = true → y = ⟨s, k⟩ := fun y hy h1 h2 hc => by
        have hc' := con_iff.1 hc
        have hbb := con_bits hc
        have h3 : y.base ≤ s := hc'.2.2.1
        have h4 : s + pw k ≤ y.base + y.sz := by have := hc'.2.2.2; rw [hsz] at this; exact this
        have e : y.base = s := by
          rcases hI y hy h1 h2 with h5 | h5
          · omega
          · omega
        refine con_eq hc ?_
        rcases Int.lt_or_le k y.bits with h6 | h6
        · have := K.most y.bits h6 (by have := hy.al; unfold GR.sz at this; rw [e] at this; exact this)
          unfold GR.sz at h2
          omega
        · exact Int.le_antisymm h6 hbb
      obtain ⟨B, M, LL⟩ := blocks_ok s0 t hs0 ht hb n (s + pw k) (by omega) (by omega) hfit (by omega) fun y hy h1 h2 => by
        rcases hI y hy h1 h2 with h5 | h5
        · exact .inl (by omega)
        · rcases Int.lt_or_le y.base (s + pw k) with h6 | h6
          · have hsy := sz_pos y
            rcases nest' hy hv (by show y.base < s + pw k; omega) (by show s < y.base + y.sz; omega) with h7 | h7
            · rw [hmx y hy h1 h2 h7]; exact .inl (Int.le_refl _)
            · have := (con_iff.1 h7).2.2.2
              exact .inl this
          · exact .inr h6
      refine ⟨⟨fun f hf => ?_, ?_, fun i h1 h2 => ?_⟩, fun f hf => ?_, ?_⟩
      · rcases List.mem_cons.1 hf with rfl | hf
        · exact ⟨hv, Int.le_refl _, hfit⟩
        · obtain ⟨g1, g2, g3⟩ := B.good f hf
          exact ⟨g1, by omega, g3⟩
      · exact List.pairwise_cons.2 ⟨fun g hg => (B.good g hg).2.1, B.asc⟩
      · rcases Int.lt_or_le i (s + pw k) with h3 | h3
        · exact ⟨_, List.mem_cons_self, in_iff.2 ⟨hv, h1, h3⟩⟩
        · obtain ⟨f, hf, hi⟩ := B.all i h3 h2
          exact ⟨f, List.mem_cons_of_mem _ hf, hi⟩
      · rcases List.mem_cons.1 hf with rfl | hf
        · exact hmx
        · exact M f hf
      · rw [List.length_cons]; push_cast; omega
    · rw [blocks_nil h]
      exact ⟨⟨by simp, .nil, fun i h1 h2 => by omega⟩, by simp, by simp; omega⟩
theorem blocks_spec {s t : Int} (hs : 0 ≤ s) (hst : s ≤ t) (ht : t ≤ 1099511627776) (ha : s % 64 = 0) (hb : t % 64 = 0) :
    BlkS s t (blocks s t) ∧ (∀ f ∈ blocks s t, ∀ y, VR y → s ≤ y.base → y.base + y.sz ≤ t → conR y f = true → y = f) ∧ 64 * ((blocks s t).length : Int) ≤ t - s :=
  blocks_ok s t hs ht hb _ s (Nat.le_refl _) (Int.le_refl _) hst ha fun _ _ h1 _ => .inr h1
/-- The free ranges: any list with what they are, each of them maximal, is that one. -/
theorem free_unique {r : GR} {us l : List GR} (h : VR r) (S : FreeS r us l) (hm : ∀ f ∈ l, ∀ y, VR y → conR r y = true → (∀ u ∈ us, ovR y u = false) → conR y f = true → y = f) : l = freeL r us := by
  have T := freeL_spec us h
  have hsub : ∀ f ∈ l, f ∈ freeL r us := fun f hf => by
    obtain ⟨hv, hc, hcl⟩ := S.good f hf
    obtain ⟨g, hg, hgf⟩ := clear_free h hc hcl
    obtain ⟨gv, gc, gcl⟩ := T.good g hg
    rw [← hm f hf g gv gc gcl hgf]; exact hg
  have one : ∀ f ∈ freeL r us, ∀ g ∈ freeL r us, ∀ i, inR f i = true → inR g i = true → f = g := fun f hf g hg i h1 h2 => by
    rw [in_iff] at h1 h2
    rcases List.pairwise_iff_getElem.1 T.asc with hp
    obtain ⟨a, ha, rfl⟩ := List.mem_iff_getElem.1 hf
    obtain ⟨b, hb, rfl⟩ := List.mem_iff_getElem.1 hg
    rcases Nat.lt_trichotomy a b with h3 | h3 | h3
    · have := hp a b ha hb h3; omega
    · subst h3; rfl
    · have := hp b a hb ha h3; omega
  have hsup : ∀ g ∈ freeL r us, g ∈ l := fun g hg => by
    obtain ⟨gv, gc, gcl⟩ := T.good g hg
    have hgb : inR g g.base = true := in_iff.2 ⟨gv, by omega, by have := sz_pos g; omega⟩
    obtain ⟨f, hf, hi⟩ := S.all g.base (con_in gc hgb) fun u hu => by
      rw [Bool.eq_false_iff]; intro hq
      have := gcl u hu
      rw [ov_in.2 ⟨_, hgb, hq⟩] at this; cases this
    rw [one g hg f (hsub f hf) _ hgb hi]; exact hf
  have ext : ∀ a b : List GR, a.Pairwise (fun f g => f.base + f.sz ≤ g.base) → b.Pairwise (fun f g => f.base + f.sz ≤ g.base) → (∀ f, f ∈ a ↔ f ∈ b) → a = b := by
    intro a
    induction a with
    | nil =>
      intro b _ _ hm
      cases b with
      | nil => rfl
      | cons y t => exact absurd ((hm y).2 List.mem_cons_self) (by simp)
    | cons x t ih =>
      intro b h1 h2 hm
      cases b with
      | nil => exact absurd ((hm x).1 List.mem_cons_self) (by simp)
      | cons y u =>
        obtain ⟨p1, p2⟩ := List.pairwise_cons.1 h1
        obtain ⟨q1, q2⟩ := List.pairwise_cons.1 h2
        have hx := sz_pos x
        have hy := sz_pos y
        have e : x = y := by
          rcases List.mem_cons.1 ((hm x).1 List.mem_cons_self) with e | e
          · exact e
          · rcases List.mem_cons.1 ((hm y).2 List.mem_cons_self) with e' | e'
            · exact e'.symm
            · have := p1 y e'; have := q1 x e; omega
        subst e
        rw [ih u p2 q2 fun f => ?_]
        constructor
        · intro hf
          rcases List.mem_cons.1 ((hm f).1 (List.mem_cons_of_mem _ hf)) with e | e
          · subst e; have := p1 f hf; omega
          · exact e
        · intro hf
          rcases List.mem_cons.1 ((hm f).2 (List.mem_cons_of_mem _ hf)) with e | e
          · subst e; have := q1 f hf; omega
          · exact e
  exact ext _ _ S.asc T.asc fun f => ⟨hsub f, hsup f⟩
/-- The order in which the program sorts. -/
def leR (a b : GR) : Prop := a.base < b.base ∨ a.base = b.base ∧ b.bits ≤ a.bits
def outF : Int → List GR → List GR
  | _, [] => []
  | n, r :: l => if n ≤ r.base then r :: outF (r.base + r.sz) l else outF n l
theorem outF_spec : ∀ (ss : List GR) (n : Int), ss.Pairwise leR → (∀ u ∈ ss, VR u) → (∀ u ∈ ss, u.base < n → u.base + u.sz ≤ n) →
    (∀ o ∈ outF n ss, o ∈ ss ∧ n ≤ o.base) ∧ (outF n ss).Pairwise (fun f g => f.base + f.sz ≤ g.base) ∧ (∀ u ∈ ss, ∀ i, inR u i = true → n ≤ i → inL (outF n ss) i = true)
  | [], n, _, _, _ => by simp [outF]
  | r :: l, n, hs, hv, hn => by
    obtain ⟨p1, p2⟩ := List.pairwise_cons.1 hs
    have hvr := hv r List.mem_cons_self
    have hsr := sz_pos r
    rw [outF]
    split
    · rename_i h
      obtain ⟨A, B, C⟩ := outF_spec l (r.base + r.sz) p2 (fun u hu => hv u (List.mem_cons_of_mem _ hu)) fun u hu hlt => by
        have hvu := hv u (List.mem_cons_of_mem _ hu)
        have hsu := sz_pos u
        rcases p1 u hu with h1 | ⟨h1, h2⟩
        · rcases nest' hvr hvu (by omega) hlt with h3 | h3
          · exact (con_iff.1 h3).2.2.2
          · have := (con_iff.1 h3).2.2.1; omega
        · exact (con_iff.1 (nest (ov_iff.2 ⟨hvu, hvr, by omega, by omega⟩) h2)).2.2.2
      refine ⟨fun o ho => ?_, List.pairwise_cons.2 ⟨fun g hg => (A g hg).2, B⟩, fun u hu i hi hni => ?_⟩
      · rcases List.mem_cons.1 ho with rfl | ho
        · exact ⟨List.mem_cons_self, h⟩
        · have := A o ho
          exact ⟨List.mem_cons_of_mem _ this.1, by omega⟩
      · unfold inL
        rw [List.any_cons]
        rcases Int.lt_or_le i (r.base + r.sz) with h4 | h4
        · have hri : inR r i = true := by
            refine in_iff.2 ⟨hvr, ?_, h4⟩
            rcases List.mem_cons.1 hu with rfl | hu
            · exact (in_iff.1 hi).2.1
            · have := (in_iff.1 hi).2.1
              rcases p1 u hu with h5 | h5 <;> omega
          rw [hri]; rfl
        · rcases List.mem_cons.1 hu with rfl | hu
          · have := (in_iff.1 hi).2.2; omega
          · have := C u hu i hi h4
            unfold inL at this
            rw [this]; simp
    · rename_i h
      have hr : r.base + r.sz ≤ n := hn r List.mem_cons_self (by omega)
      obtain ⟨A, B, C⟩ := outF_spec l n p2 (fun u hu => hv u (List.mem_cons_of_mem _ hu)) fun u hu => hn u (List.mem_cons_of_mem _ hu)
      refine ⟨fun o ho => ⟨List.mem_cons_of_mem _ (A o ho).1, (A o ho).2⟩, B, fun u hu i hi hni => ?_⟩
      rcases List.mem_cons.1 hu with rfl | hu
      · have := (in_iff.1 hi).2.2; omega
      · exact C u hu i hi hni
/-- The outermost ranges of a list. -/
structure OutS (us os : List GR) : Prop where
  mem : ∀ o ∈ os, o ∈ us ∧ VR o
  asc : os.Pairwise fun f g => f.base + f.sz ≤ g.base
  all : ∀ i, inL os i = inL us i
theorem out_ok {us ss : List GR} (hp : ss.Perm (us.filter vR)) (hs : ss.Pairwise leR) : OutS us (outF 0 ss) := by
  have hm : ∀ u, u ∈ ss ↔ u ∈ us ∧ VR u := fun u => by rw [hp.mem_iff, List.mem_filter, vR_iff]
  have hv : ∀ u ∈ ss, VR u := fun u hu => ((hm u).1 hu).2
  obtain ⟨A, B, C⟩ := outF_spec ss 0 hs hv fun u hu h => by have := (hv u hu).b0; omega
  refine ⟨fun o ho => (hm o).1 (A o ho).1, B, fun i => ?_⟩
  rw [Bool.eq_iff_iff]
  constructor
  · intro h
    unfold inL at h ⊢
    rw [List.any_eq_true] at h ⊢
    obtain ⟨o, ho, hi⟩ := h
    exact ⟨o, ((hm o).1 (A o ho).1).1, hi⟩
  · intro h
    unfold inL at h
    rw [List.any_eq_true] at h
    obtain ⟨u, hu, hi⟩ := h
    have hvu := (in_iff.1 hi).1
    exact C u ((hm u).2 ⟨hu, hvu⟩) i hi (by have := hvu.b0; have := (in_iff.1 hi).2.1; omega)
theorem out_cov {us os : List GR} (h : OutS us os) : sumSz os = covL us := by
  rw [cov_ms]
  unfold ms
  rw [← cnt_congr (P := inL os) fun i _ _ => h.all i]
  refine sum_cnt (fun f hf => ?_) h.asc
  have hv := (h.mem f hf).2
  have := hv.b0
  have := hv.top
  rw [topn]
  exact ⟨hv, by omega, by omega⟩
/-- What the program's Free gives from an address on. -/
def gaps (r : GR) : Int → List GR → List GR
  | n, [] => blocks n (r.base + r.sz)
  | n, u :: os => if ovR r u = true then blocks n u.base ++ gaps r (u.base + u.sz) os else gaps r n os
theorem gaps_skip {r : GR} : ∀ {os : List GR} {n : Int}, (∀ o ∈ os, ovR r o = false) → gaps r n os = blocks n (r.base + r.sz)
  | [], _, _ => rfl
  | u :: os, n, h => by
    rw [gaps, if_neg (by rw [h u List.mem_cons_self]; simp), gaps_skip fun o ho => h o (List.mem_cons_of_mem _ ho)]
theorem gaps_whole {r o : GR} (hc : conR o r = true) : ∀ {os : List GR}, (∀ x ∈ os, VR x) → os.Pairwise (fun f g => f.base + f.sz ≤ g.base) → o ∈ os → gaps r r.base os = []
  | u :: os, hv, hs, ho => by
    obtain ⟨p1, p2⟩ := List.pairwise_cons.1 hs
    have hc' := con_iff.1 hc
    have hsr := sz_pos r
    rw [gaps]
    rcases List.mem_cons.1 ho with rfl | ho
    · rw [if_pos (by rw [ov_comm]; exact con_ov hc), blocks_nil hc'.2.2.1, List.nil_append, gaps_skip fun x hx => ?_, blocks_nil hc'.2.2.2]
      rw [Bool.eq_false_iff]
      intro hq
      have := (ov_iff.1 hq).2.2.2
      have := (ov_iff.1 hq).2.2.1
      have := p1 x hx
      omega
    · have : ovR r u = false := by
        rw [Bool.eq_false_iff]
        intro hq
        have := (ov_iff.1 hq).2.2
        have := p1 o ho
        omega
      rw [if_neg (by rw [this]; simp)]
      exact gaps_whole hc (fun x hx => hv x (List.mem_cons_of_mem _ hx)) p2 ho
structure GapS (r : GR) (us : List GR) (n : Int) (l : List GR) : Prop where
  good : ∀ f ∈ l, VR f ∧ n ≤ f.base ∧ f.base + f.sz ≤ r.base + r.sz ∧ ∀ u ∈ us, ovR f u = false
  most : ∀ f ∈ l, ∀ y, VR y → conR r y = true → (∀ u ∈ us, ovR y u = false) → conR y f = true → y = f
  asc : l.Pairwise fun f g => f.base + f.sz ≤ g.base
  all : ∀ i, n ≤ i → i < r.base + r.sz → inL us i = false → ∃ f ∈ l, inR f i = true
theorem not_in {us : List GR} {y : GR} (h : ∀ u ∈ us, ovR y u = false) {i : Int} (hi : inR y i = true) : inL us i = false := by
  rw [Bool.eq_false_iff]
  intro hq
  unfold inL at hq
  rw [List.any_eq_true] at hq
  obtain ⟨u, hu, hui⟩ := hq
  have := h u hu
  rw [ov_in.2 ⟨i, hi, hui⟩] at this; cases this
theorem clear_of {us : List GR} {f : GR} (h : ∀ i, inR f i = true → inL us i = false) : ∀ u ∈ us, ovR f u = false := fun u hu => by
  rw [Bool.eq_false_iff]
  intro hq
  obtain ⟨i, h1, h2⟩ := ov_in.1 hq
  have := h i h1
  unfold inL at this
  rw [List.any_eq_false] at this
  exact this u hu h2
/-- A gap between two used addresses. -/
theorem blocks_gap {r : GR} {us : List GR} (hr : VR r) {n t : Int} (hn : r.base ≤ n) (hnt : n ≤ t) (ht : t ≤ r.base + r.sz) (ha : n % 64 = 0) (hb : t % 64 = 0)
    (hl : n = r.base ∨ inL us (n - 1) = true) (hh : t = r.base + r.sz ∨ inL us t = true) (hf : ∀ i, n ≤ i → i < t → inL us i = false) :
    (∀ f ∈ blocks n t, VR f ∧ n ≤ f.base ∧ f.base + f.sz ≤ t ∧ ∀ u ∈ us, ovR f u = false) ∧
    (∀ f ∈ blocks n t, ∀ y, VR y → conR r y = true → (∀ u ∈ us, ovR y u = false) → conR y f = true → y = f) ∧
    (blocks n t).Pairwise (fun f g => f.base + f.sz ≤ g.base) ∧ (∀ i, n ≤ i → i < t → ∃ f ∈ blocks n t, inR f i = true) := by
  have hb0 := hr.b0
  have htop := hr.top
  obtain ⟨B, M, _⟩ := blocks_spec (s := n) (t := t) (by omega) hnt (by omega) ha hb
  refine ⟨fun f hf' => ?_, fun f hf' y hy hc hcl hyf => ?_, B.asc, B.all⟩
  · obtain ⟨g1, g2, g3⟩ := B.good f hf'
    refine ⟨g1, g2, g3, clear_of fun i hi => ?_⟩
    have := in_iff.1 hi
    exact hf i (by omega) (by omega)
  · obtain ⟨g1, g2, g3⟩ := B.good f hf'
    have hc' := con_iff.1 hc
    have hyf' := con_iff.1 hyf
    have hsf := sz_pos f
    refine M f hf' y hy ?_ ?_ hyf
    · rcases hl with h | h
      · omega
      · rcases Int.lt_or_le y.base n with h1 | h1
        · have := not_in hcl (i := n - 1) (in_iff.2 ⟨hy, by omega, by omega⟩)
          rw [h] at this; cases this
        · exact h1
    · rcases hh with h | h
      · omega
      · rcases Int.lt_or_le t (y.base + y.sz) with h1 | h1
        · have := not_in hcl (i := t) (in_iff.2 ⟨hy, by omega, by omega⟩)
          rw [h] at this; cases this
        · exact h1
theorem gaps_ok {r : GR} {us : List GR} (hr : VR r) : ∀ (os : List GR) (n : Int), (∀ o ∈ os, o ∈ us ∧ VR o) → os.Pairwise (fun f g => f.base + f.sz ≤ g.base) →
    (∀ o ∈ os, ovR r o = true → n ≤ o.base ∧ o.base + o.sz ≤ r.base + r.sz) → (∀ i, n ≤ i → i < r.base + r.sz → inL us i = inL os i) → r.base ≤ n → n ≤ r.base + r.sz → n % 64 = 0 → (n = r.base ∨ inL us (n - 1) = true) → GapS r us n (gaps r n os)
  | [], n, _, _, _, hin, h1, h2, h3, h4 => by
    rw [gaps]
    obtain ⟨g1, g2, g3, g4⟩ := blocks_gap (us := us) hr h1 h2 (Int.le_refl _) h3 hr.e64 h4 (.inl rfl) fun i hi1 hi2 => by rw [hin i hi1 hi2]; rfl
    exact ⟨g1, g2, g3, fun i hi1 hi2 _ => g4 i hi1 hi2⟩
  | u :: os, n, hm, hs, hov, hin, h1, h2, h3, h4 => by
    obtain ⟨p1, p2⟩ := List.pairwise_cons.1 hs
    obtain ⟨hu, hvu⟩ := hm u List.mem_cons_self
    have hsu := sz_pos u
    have hm' : ∀ o ∈ os, o ∈ us ∧ VR o := fun o ho => hm o (List.mem_cons_of_mem _ ho)
    rw [gaps]
    by_cases ho : ovR r u = true
    · rw [if_pos ho]
      obtain ⟨q1, q2⟩ := hov u List.mem_cons_self ho
      have inu : ∀ i, inR u i = true → inL us i = true := fun i hi => by unfold inL; rw [List.any_eq_true]; exact ⟨u, hu, hi⟩
      have G := gaps_ok hr os (u.base + u.sz) hm' p2 (fun o ho' hq => ⟨p1 o ho', (hov o (List.mem_cons_of_mem _ ho') hq).2⟩) (fun i hi1 hi2 => by
        rw [hin i (by omega) hi2]
        unfold inL
        rw [List.any_cons]
        have : inR u i = false := by rw [Bool.eq_false_iff]; intro hq; have := (in_iff.1 hq).2.2; omega
        rw [this]; rfl) (by omega) q2 hvu.e64 (.inr (inu _ (in_iff.2 ⟨hvu, by omega, by omega⟩)))
      obtain ⟨g1, g2, g3, g4⟩ := blocks_gap (us := us) hr (n := n) (t := u.base) h1 q1 (by omega) h3 hvu.b64 h4 (.inr (inu _ (in_iff.2 ⟨hvu, by omega, by omega⟩))) fun i hi1 hi2 => by
        rw [hin i hi1 (by omega)]
        rw [Bool.eq_false_iff]
        intro hq
        unfold inL at hq
        rw [List.any_eq_true] at hq
        obtain ⟨x, hx, hxi⟩ := hq
        have hxi' := in_iff.1 hxi
        rcases List.mem_cons.1 hx with rfl | hx
        · omega
        · have := p1 x hx; omega
      refine ⟨fun f hf => ?_, fun f hf => ?_, ?_, fun i hi1 hi2 hi3 => ?_⟩
      · rcases List.mem_append.1 hf with hf | hf
        · obtain ⟨e1, e2, e3, e4⟩ := g1 f hf
          exact ⟨e1, e2, by omega, e4⟩
        · obtain ⟨e1, e2, e3, e4⟩ := G.good f hf
          exact ⟨e1, by omega, e3, e4⟩
      · rcases List.mem_append.1 hf with hf | hf
        · exact g2 f hf
        · exact G.most f hf
      · refine List.pairwise_append.2 ⟨g3, G.asc, fun f hf g hg => ?_⟩
        have := (g1 f hf).2.2.1
        have := (G.good g hg).2.1
        omega
      · rcases Int.lt_or_le i u.base with h5 | h5
        · obtain ⟨f, hf, hi⟩ := g4 i hi1 h5
          exact ⟨f, List.mem_append_left _ hf, hi⟩
        · rcases Int.lt_or_le i (u.base + u.sz) with h6 | h6
          · rw [inu i (in_iff.2 ⟨hvu, h5, h6⟩)] at hi3; cases hi3
          · obtain ⟨f, hf, hi⟩ := G.all i h6 hi2 hi3
            exact ⟨f, List.mem_append_right _ hf, hi⟩
    · rw [if_neg ho]
      refine gaps_ok hr os n hm' p2 (fun o ho' => hov o (List.mem_cons_of_mem _ ho')) (fun i hi1 hi2 => ?_) h1 h2 h3 h4
      rw [hin i hi1 hi2]
      unfold inL
      rw [List.any_cons]
      have : inR u i = false := by
        rw [Bool.eq_false_iff]; intro hq
        exact ho (ov_in.2 ⟨i, in_iff.2 ⟨hr, by omega, hi2⟩, hq⟩)
      rw [this]; rfl
theorem gaps_free {r : GR} {us os : List GR} (hr : VR r) (h : OutS us os) : gaps r r.base os = freeL r us := by
  have hsr := sz_pos r
  by_cases hw : ∃ o ∈ os, conR o r = true
  · obtain ⟨o, ho, hc⟩ := hw
    rw [gaps_whole hc (fun x hx => (h.mem x hx).2) h.asc ho, freeL_whole hr]
    exact List.any_eq_true.2 ⟨o, (h.mem o ho).1, hc⟩
  · have G := gaps_ok (us := us) hr os r.base h.mem h.asc (fun o ho hq => by
      have hq' := ov_iff.1 hq
      rcases nest' hr (h.mem o ho).2 hq'.2.2.1 hq'.2.2.2 with h1 | h1
      · have := con_iff.1 h1; exact ⟨this.2.2.1, this.2.2.2⟩
      · exact absurd ⟨o, ho, h1⟩ hw) (fun i _ _ => (h.all i).symm) (Int.le_refl _) (by omega) hr.b64 (.inl rfl)
    refine free_unique hr ⟨fun f hf => ?_, G.asc, fun i hi hcl => ?_, fun f hf hne => ?_⟩ G.most
    · obtain ⟨e1, e2, e3, e4⟩ := G.good f hf
      exact ⟨e1, con_iff.2 ⟨hr, e1, e2, e3⟩, e4⟩
    · have := in_iff.1 hi
      refine G.all i this.2.1 this.2.2 ?_
      unfold inL
      rw [List.any_eq_false]
      exact fun u hu => by rw [hcl u hu]; simp
    · obtain ⟨e1, e2, e3, e4⟩ := G.good f hf
      obtain ⟨t1, t2, t3⟩ := tw_ok (con_iff.2 ⟨hr, e1, e2, e3⟩) hne
      refine Classical.byContradiction fun hno => ?_
      have := G.most f hf (twR f) t1 t2 (fun u hu => by rw [Bool.eq_false_iff]; exact fun hq => hno ⟨u, hu, hq⟩) t3
      have := congrArg GR.bits this
      simp only [twR] at this
      omega
/-- Free's loop: what has been appended, the next address, and the outermost ranges that are left. -/
structure GapI (r : GR) (os : List GR) (k : Nat) (n : Int) (l : List GR) : Prop where
  res : l ++ gaps r n (os.drop k) = gaps r r.base os
  len : 64 * (l.length : Int) ≤ n
  n0 : 0 ≤ n
  top : n ≤ 1099511627776
  al : n % 64 = 0
  next : ∀ j, k ≤ j → (h : j < os.length) → ovR r os[j] = true → n ≤ os[j].base + os[j].sz
theorem GapI.start {r : GR} (hr : VR r) (os : List GR) : GapI r os 0 r.base [] := by
  have hsr := sz_pos r
  have := hr.top
  refine ⟨by simp, by simp; exact hr.b0, hr.b0, by omega, hr.b64, fun j _ h hq => ?_⟩
  have := (ov_iff.1 hq).2.2
  omega
theorem GapI.skip {r : GR} {os : List GR} {k : Nat} {n : Int} {l : List GR} (h : GapI r os k n l) (hk : k < os.length) (ho : ovR r os[k] = false) : GapI r os (k + 1) n l := by
  refine ⟨?_, h.len, h.n0, h.top, h.al, fun j hj => h.next j (by omega)⟩
  rw [← h.res, List.drop_eq_getElem_cons hk, gaps, if_neg (by rw [ho]; simp)]
theorem blocks_len {s t : Int} (hs : 0 ≤ s) (ht : t ≤ 1099511627776) (ha : s % 64 = 0) (hb : t % 64 = 0) : 64 * ((blocks s t).length : Int) ≤ max 0 (t - s) := by
  rcases Int.le_total s t with h | h
  · have := (blocks_spec hs h ht ha hb).2.2; omega
  · rw [blocks_nil h]; simp; omega
theorem GapI.take {r : GR} {os : List GR} {k : Nat} {n : Int} {l : List GR} (h : GapI r os k n l) (hv : ∀ o ∈ os, VR o) (hs : os.Pairwise fun f g => f.base + f.sz ≤ g.base) (hk : k < os.length) (ho : ovR r os[k] = true) :
    GapI r os (k + 1) (os[k].base + os[k].sz) (l ++ blocks n os[k].base) := by
  have hvk := hv _ (List.getElem_mem hk)
  have hsk := sz_pos os[k]
  have hnx := h.next k (Nat.le_refl _) hk ho
  have h0 := hvk.b0
  have ht := hvk.top
  refine ⟨?_, ?_, by omega, ht, hvk.e64, fun j hj hjl _ => ?_⟩
  · rw [← h.res, List.drop_eq_getElem_cons hk, gaps, if_pos ho, List.append_assoc]
  · have h1 := blocks_len (t := os[k].base) h.n0 (by omega) h.al hvk.b64
    have h2 := h.len
    rw [List.length_append]; push_cast; omega
  · have := List.pairwise_iff_getElem.1 hs k j hk hjl (by omega)
    have := sz_pos os[j]
    omega
theorem GapI.done {r : GR} {os : List GR} {n : Int} {l : List GR} (h : GapI r os os.length n l) : l ++ blocks n (r.base + r.sz) = gaps r r.base os := by
  rw [← h.res, List.drop_length, gaps]
end Go.Proofs.YtndppbfdcceflaaGreatDoor
