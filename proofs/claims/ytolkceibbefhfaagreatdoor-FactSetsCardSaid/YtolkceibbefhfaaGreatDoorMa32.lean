/-
  Sets of facts as plain lists: what the law FactLaws asks of them.
  Conditions: none.
  The reference's comparisons of numbers, strings and values.
  Conditions: kinds are ints of the language.
-/
import Derived.Test.YtolkceibbefhfaaGreatDoorMa23
import Derived.Test.YtolkceibbefhfaaGreatDoorMa28
import Derived.Test.YtolkceibbefhfaaGreatDoorMa31
import Derived.Test.YtolkceibbefhfaaGreatDoorMa13
import Derived.Laws.Cover1
import Derived.Deep.DeepFit
namespace Go.Proofs.YtolkceibbefhfaaGreatDoor
open Go.RowKit Go.Shelf

theorem any_isF (fs : List GFact) (f : GFact) : fs.any (isF f) = true ↔ f ∈ fs := by
  rw [List.any_eq_true]
  constructor
  · rintro ⟨x, hx, h⟩
    rw [(isF_iff f x).1 h]; exact hx
  · intro h
    exact ⟨f, h, (isF_iff f f).2 rfl⟩
theorem any_isF_false (fs : List GFact) (f : GFact) : fs.any (isF f) = false ↔ f ∉ fs := by
  rw [← any_isF fs f]; simp
theorem strict_filter {fs : List GFact} (p : GFact → Bool) (h : StrictF fs) : StrictF (fs.filter p) := List.Pairwise.filter p h
theorem filter_count : ∀ (a : List GFact) (f : GFact), a.Nodup → f ∈ a → (a.filter fun x => !isF f x).length + 1 = a.length
  | [], f, _, h => by simp at h
  | x :: r, f, hd, h => by
    rw [List.nodup_cons] at hd
    by_cases hx : f = x
    · subst hx
      have h1 : isF f f = true := (isF_iff f f).2 rfl
      have h2 : (r.filter fun x => !isF f x) = r := List.filter_eq_self.2 fun y hy => by
        have : isF f y = false := by
          cases hq : isF f y
          · rfl
          · exact absurd ((isF_iff f y).1 hq ▸ hy) hd.1
        simp [this]
      rw [List.filter_cons]
      simp [h1, h2]
    · have h1 : isF f x = false := by
        cases hq : isF f x
        · rfl
        · exact absurd ((isF_iff f x).1 hq) hx
      have hr : f ∈ r := by
        rcases List.mem_cons.1 h with e | e
        · exact absurd e hx
        · exact e
      have ih := filter_count r f hd.2 hr
      rw [List.filter_cons]
      simp [h1]
      omega
theorem less_len {a b : List GFact} {f : GFact} (ha : StrictF a) (hb : StrictF b) (hm : ∀ g, g ∈ b ↔ g ∈ a ∧ g ≠ f) (hf : f ∈ a) : b.length + 1 = a.length := by
  have e : b = a.filter fun x => !isF f x := by
    refine strict_ext _ _ hb (strict_filter _ ha) fun g => ?_
    rw [hm g, List.mem_filter]
    constructor
    · rintro ⟨h1, h2⟩
      refine ⟨h1, ?_⟩
      cases hq : isF f g
      · rfl
      · exact absurd ((isF_iff f g).1 hq).symm h2
    · rintro ⟨h1, h2⟩
      refine ⟨h1, fun e => ?_⟩
      subst e
      rw [(isF_iff g g).2 rfl] at h2
      cases h2
  rw [e]
  exact filter_count a f (strict_count ha) hf
/-- What the law asks of the sets: c is db with f and g, less is c without f. -/
structure LawS (fs fc fl : List GFact) (f g : GFact) : Prop where
  c : ∀ x, x ∈ fc ↔ x ∈ fs ∨ x = f ∨ x = g
  l : ∀ x, x ∈ fl ↔ x ∈ fc ∧ x ≠ f
theorem LawS.inC {fs fc fl : List GFact} {f g : GFact} (h : LawS fs fc fl f g) {x : GFact} (hx : x ∈ fs) : fc.any (isF x) = true := (any_isF fc x).2 ((h.c x).2 (.inl hx))
theorem LawS.inL {fs fc fl : List GFact} {f g : GFact} (h : LawS fs fc fl f g) {x : GFact} (hx : x ∈ fs) : (fl.any (isF x) == decide (cmpF x f = 0)) = false := by
  by_cases e : x = f
  · have h1 : fl.any (isF x) = false := (any_isF_false fl x).2 fun hm => ((h.l x).1 hm).2 e
    have h2 : cmpF x f = 0 := (ord_fact.z x f).2 e
    rw [h1, h2]; rfl
  · have h1 : fl.any (isF x) = true := (any_isF fl x).2 ((h.l x).2 ⟨(h.c x).2 (.inl hx), e⟩)
    have h2 : cmpF x f ≠ 0 := fun q => e ((ord_fact.z x f).1 q)
    rw [h1]; simp [h2]
end Go.Proofs.YtolkceibbefhfaaGreatDoor


namespace Go.Proofs.YtolkceibbefhfaaGreatDoor
open Go.RowKit Go.Shelf

theorem rNumber_any (x y : Int) (w : World) : Calls Tryz.prog 38 #[.int .i64 x, .int .i64 y] w fun e w' => e = .returned (.int .i64 (Lib.compareInt x y)) ∧ w = w' := by
  have HC : Hid (Lib.compareInt x y = if x < y then -1 else if x > y then 1 else 0) := Lib.hid rfl
  go_enter Tryz.func38, Tryz.ntmps38
  go_wp2
  all_goals go_ret
  all_goals refine ⟨ret_int ?_, rfl⟩
  · rw [HC.out, if_pos (by assumption)]
  · rw [HC.out, if_neg (by omega), if_pos (by omega)]
  · rw [HC.out, if_neg (by omega), if_neg (by omega)]
theorem less_cmp : ∀ a b : List UInt8, Op.bytesLess a b = decide (Lib.compareBytes a b < 0)
  | [], [] => by simp [Op.bytesLess, Lib.compareBytes]
  | [], _ :: _ => by simp [Op.bytesLess, Lib.compareBytes]
  | _ :: _, [] => by simp [Op.bytesLess, Lib.compareBytes]
  | a :: ra, b :: rb => by
    unfold Op.bytesLess Lib.compareBytes
    rw [less_cmp ra rb]
    by_cases h1 : a < b
    · simp [h1]
    · by_cases h2 : b < a
      · have h3 : a ≠ b := fun e => h1 (e ▸ h2)
        simp [h1, h2, h3]
      · have e : a = b := UInt8.toNat_inj.1 (by rw [UInt8.lt_iff_toNat_lt] at h1 h2; omega)
        subst e
        simp [h1]
theorem wrap_wf {a : Int} (h : (Lit.int .i64 a).wf = true) : IntKind.i64.wrap a = a := by
  simp [Lit.wf] at h
  have h1 : (-9223372036854775808 : Int) ≤ a := h.1
  have h2 : a ≤ 9223372036854775807 := h.2
  exact IntWalk.i64_in _ (by omega)
theorem rOrder_any (x y : List UInt8) (w : World) : Calls Tryz.prog 37 #[.string ⟨x.toArray⟩, .string ⟨y.toArray⟩] w fun e w' => e = .returned (.int .i64 (Lib.compareBytes x y)) ∧ w = w' := by
  have hr := ord_bytes.r x y
  have hlt : Op.bytesLess x y = decide (Lib.compareBytes x y < 0) := less_cmp x y
  have heq : (x == y) = decide (Lib.compareBytes x y = 0) := by
    by_cases h : x = y
    · subst h
      simp [ord_bytes.self]
    · have : Lib.compareBytes x y ≠ 0 := fun e => h ((ord_bytes.z x y).1 e)
      simp [h, this]
  rcases (by omega : Lib.compareBytes x y = -1 ∨ Lib.compareBytes x y = 0 ∨ Lib.compareBytes x y = 1) with h | h | h
  · have f1 : Op.bytesLess x y = true := by rw [hlt, h]; decide
    rw [h]
    clear hr hlt heq h
    go_enter Tryz.func37, Tryz.ntmps37
    go_wp2
    go_ret
    exact ⟨rfl, rfl⟩
  · have f1 : Op.bytesLess x y = false := by rw [hlt, h]; decide
    have f2 : (x == y) = true := by rw [heq, h]; decide
    have HXY : Hid (x = y) := Lib.hid ((ord_bytes.z x y).1 h)
    rw [h]
    clear hr hlt heq h
    go_enter Tryz.func37, Tryz.ntmps37
    go_wp2
    all_goals go_ret
    all_goals exact ⟨rfl, rfl⟩
  · have f1 : Op.bytesLess x y = false := by rw [hlt, h]; decide
    have f2 : (x == y) = false := by rw [heq, h]; decide
    rw [h]
    clear hr hlt heq h
    go_enter Tryz.func37, Tryz.ntmps37
    go_wp2
    all_goals go_ret
    all_goals exact ⟨rfl, rfl⟩
set_option maxRecDepth 50000 in
set_option maxHeartbeats 1000000 in
theorem rCompareValues_any (a b : GVal) (w : World) (ha : (Lit.int .i64 a.kind).wf = true) (hb : (Lit.int .i64 b.kind).wf = true) :
    Calls Tryz.prog 62 #[a.val, b.val] w fun e w' => e = .returned (.int .i64 (cmpV a b)) ∧ Below w.heap.size w w' := by
  have HE := Lib.hid (cmpV_eq a b)
  have HT : Hid (∀ p q : Int, then3 p q = if p ≠ 0 then p else q) := Lib.hid fun _ _ => rfl
  obtain ⟨ak, ai, aw⟩ := a
  obtain ⟨bk, bi, bw⟩ := b
  have hwa : IntKind.i64.wrap ak = ak := wrap_wf ha
  have hwb : IntKind.i64.wrap bk = bk := wrap_wf hb
  have H1 := Lib.hid (rNumber_any ak bk)
  have H2 := Lib.hid (rNumber_any ai bi)
  have H3 := Lib.hid (rOrder_any aw bw)
  have HB := Lib.hid (bel_lit (bel_lit (Below.refl w.heap.size w) (.cells #[.int .i64 ak, .int .i64 ai, .string ⟨aw.toArray⟩] 40)) (.cells #[.int .i64 bk, .int .i64 bi, .string ⟨bw.toArray⟩] 40))
  simp only [GVal.val] at *
  clear ha hb
  generalize cmpV ⟨ak, ai, aw⟩ ⟨bk, bi, bw⟩ = cf at *
  generalize Lib.compareInt ak bk = c1 at *
  generalize Lib.compareInt ai bi = c2 at *
  generalize Lib.compareBytes aw bw = c3 at *
  go_enter Tryz.func62, Tryz.ntmps62
  go_wp2_with fail
  go_fit (H1.out _)
  rintro e w1 ⟨rfl, rfl⟩
  by_cases h1 : c1 = 0
  · have f1 : (c1 != 0) = false := by simp [h1]
    have HZ := Lib.hid h1
    clear h1
    go_wp2_with fail
    go_fit (H2.out _)
    rintro e w1 ⟨rfl, rfl⟩
    by_cases h2 : c2 = 0
    · have f2 : (c2 != 0) = false := by simp [h2]
      have HZ2 := Lib.hid h2
      clear h2
      go_wp2_with fail
      go_fit (H3.out _)
      rintro e w1 ⟨rfl, rfl⟩
      go_wp2
      go_ret
      exact ⟨ret_int (by rw [HE.out, HT.out, if_neg (by have := HZ.out; omega), HT.out, if_neg (by have := HZ2.out; omega)]), HB.out⟩
    · have f2 : (c2 != 0) = true := by simp [h2]
      go_wp2
      go_ret
      exact ⟨ret_int (by rw [HE.out, HT.out, if_neg (by have := HZ.out; omega), HT.out, if_pos h2]), HB.out⟩
  · have f1 : (c1 != 0) = true := by simp [h1]
    go_wp2
    go_ret
    exact ⟨ret_int (by rw [HE.out, HT.out, if_pos h1]), HB.out⟩
end Go.Proofs.YtolkceibbefhfaaGreatDoor
