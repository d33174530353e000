/-
  facts.Insert: a fact that is not well formed is refused; else the set with it comes back.
  Conditions: the list has at most 8000 facts, each of at most 1000000 arguments; the table of powers of ten lies as the program's text writes it; words have at most 65536 bytes.
  Sets of facts as plain lists: what the law FactLaws asks of them.
  Conditions: none.
  The reference kit's FewFacts: where it returns true, the facts are few and short.
  Conditions: none beyond that the slice is one of the language's.
-/
import Derived.Test.YtmodjokoggmnaaaGreatDoorMa20
import Derived.Test.YtmodjokoggmnaaaGreatDoorMa16
import Derived.Test.YtmodjokoggmnaaaGreatDoorMa32
namespace Go.Proofs.YtmodjokoggmnaaaGreatDoor

open Go.RowKit Go.Shelf

def InsertEnd (fa : List GFact) (f : GFact) (w : World) (e : Ending) (w' : World) : Prop :=
  (gwfF f = false ∧ e = .returned (.tuple #[.slice none 0 0, .int .i64 63]) ∧ Below w.heap.size w w') ∨
  (gwfF f = true ∧ ∃ v, ∃ ss : List SFact, ∃ fs : List GFact, e = .returned (.tuple #[v, .int .i64 0]) ∧ OwnG SFact.cells 37 2 w' w.heap.size v ss ∧ SetV w' v ss fs ∧ StrictF fs ∧ (∀ g, g ∈ fs ↔ g ∈ fa ∨ g = f) ∧ fs.length ≤ fa.length + 1 ∧ Below w.heap.size w w')
theorem setV_one (w : World) (s : SFact) (f : GFact) (h : FHold w w.heap.size s f) : SetV (w.alloc (.cells #[.string ⟨s.rel.toArray⟩, .slice s.A s.n s.c] 37)) (.slice (some ⟨w.heap.size, 0, none⟩) 1 1) [s] [f] := by
  refine ⟨.inr ⟨⟨w.heap.size, 0, none⟩, 1, rfl, GRow.lit SFact.len w 37 [s] _ rfl (by unfold maxLen; simp)⟩, rfl, fun i h1 _ => ?_⟩
  have h0 : i = 0 := by simp at h1; omega
  subst h0
  exact h.next (Nat.le_refl _) (bel_lit (Below.refl _ _) _)
end Go.Proofs.YtmodjokoggmnaaaGreatDoor


namespace Go.Proofs.YtmodjokoggmnaaaGreatDoor

open Go.RowKit Go.Shelf

theorem any_isF (fs : List GFact) (f : GFact) : fs.any (isF f) = true ↔ f ∈ fs := by
  rw [List.any_eq_true]
  constructor
  · rintro ⟨x, hx, h⟩
    rw [(isF_iff f x).1 h]; exact hx
  · intro h
    exact ⟨f, h, (isF_iff f f).2 rfl⟩
theorem any_isF_false (fs : List GFact) (f : GFact) : fs.any (isF f) = false ↔ f ∉ fs := by
  rw [← any_isF fs f]; simp
theorem strict_filter {fs : List GFact} (p : GFact → Bool) (h : StrictF fs) : StrictF (fs.filter p) := List.Pairwise.filter p h
theorem filter_count : ∀ (a : List GFact) (f : GFact), a.Nodup → f ∈ a → (a.filter fun x => !isF f x).length + 1 = a.length
  | [], f, _, h => by simp at h
  | x :: r, f, hd, h => by
    rw [List.nodup_cons] at hd
    by_cases hx : f = x
    · subst hx
      have h1 : isF f f = true := (isF_iff f f).2 rfl
      have h2 : (r.filter fun x => !isF f x) = r := List.filter_eq_self.2 fun y hy => by
        have : isF f y = false := by
          cases hq : isF f y
          · rfl
          · exact absurd ((isF_iff f y).1 hq ▸ hy) hd.1
        simp [this]
      rw [List.filter_cons]
      simp [h1, h2]
    · have h1 : isF f x = false := by
        cases hq : isF f x
        · rfl
        · exact absurd ((isF_iff f x).1 hq) hx
      have hr : f ∈ r := by
        rcases List.mem_cons.1 h with e | e
        · exact absurd e hx
        · exact e
      have ih := filter_count r f hd.2 hr
      rw [List.filter_cons]
      simp [h1]
      omega
theorem less_len {a b : List GFact} {f : GFact} (ha : StrictF a) (hb : StrictF b) (hm : ∀ g, g ∈ b ↔ g ∈ a ∧ g ≠ f) (hf : f ∈ a) : b.length + 1 = a.length := by
  have e : b = a.filter fun x => !isF f x := by
    refine strict_ext _ _ hb (strict_filter _ ha) fun g => ?_
    rw [hm g, List.mem_filter]
    constructor
    · rintro ⟨h1, h2⟩
      refine ⟨h1, ?_⟩
      cases hq : isF f g
      · rfl
      · exact absurd ((isF_iff f g).1 hq).symm h2
    · rintro ⟨h1, h2⟩
      refine ⟨h1, fun e => ?_⟩
      subst e
      rw [(isF_iff g g).2 rfl] at h2
      cases h2
  rw [e]
  exact filter_count a f (strict_count ha) hf
/-- What the law asks of the sets: c is db with f and g, less is c without f. -/
structure LawS (fs fc fl : List GFact) (f g : GFact) : Prop where
  c : ∀ x, x ∈ fc ↔ x ∈ fs ∨ x = f ∨ x = g
  l : ∀ x, x ∈ fl ↔ x ∈ fc ∧ x ≠ f
theorem LawS.inC {fs fc fl : List GFact} {f g : GFact} (h : LawS fs fc fl f g) {x : GFact} (hx : x ∈ fs) : fc.any (isF x) = true := (any_isF fc x).2 ((h.c x).2 (.inl hx))
theorem LawS.inL {fs fc fl : List GFact} {f g : GFact} (h : LawS fs fc fl f g) {x : GFact} (hx : x ∈ fs) : (fl.any (isF x) == decide (cmpF x f = 0)) = false := by
  by_cases e : x = f
  · have h1 : fl.any (isF x) = false := (any_isF_false fl x).2 fun hm => ((h.l x).1 hm).2 e
    have h2 : cmpF x f = 0 := (ord_fact.z x f).2 e
    rw [h1, h2]; rfl
  · have h1 : fl.any (isF x) = true := (any_isF fl x).2 ((h.l x).2 ⟨(h.c x).2 (.inl hx), e⟩)
    have h2 : cmpF x f ≠ 0 := fun q => e ((ord_fact.z x f).1 q)
    rw [h1]; simp [h2]
end Go.Proofs.YtmodjokoggmnaaaGreatDoor


namespace Go.Proofs.YtmodjokoggmnaaaGreatDoor

open Go.RowKit Go.Shelf

structure SmallF (f : GFact) : Prop where
  rel : f.rel.length ≤ 60
  args : f.args.length ≤ 12
  word : ∀ v ∈ f.args, v.word.length ≤ 60
def Small (fs : List GFact) : Prop := fs.length ≤ 80 ∧ ∀ f ∈ fs, SmallF f
/-- The fact s, asx it lies in memory, is f, whatever its length. -/
structure FHold0 (w : World) (B : Nat) (s : SFact) (f : GFact) : Prop where
  rel : s.rel = f.rel
  n : s.n = f.args.length
  row : GRow GVal.cells 3 w B s.A f.args
  max : f.args.length ≤ maxLen
structure FRow0 (w : World) (B : Nat) (A : Option Addr) (ss : List SFact) (fs : List GFact) : Prop where
  row : GRow SFact.cells 2 w B A ss
  len : ss.length = fs.length
  each : ∀ i (h1 : i < ss.length) (h2 : i < fs.length), FHold0 w B ss[i] fs[i]
theorem FHold0.small {w : World} {B : Nat} {s : SFact} {f : GFact} (h : FHold0 w B s f) (hf : SmallF f) : FHold w B s f := ⟨h.rel, h.n, h.row, by have := hf.args; omega⟩
theorem FRow0.small {w : World} {B : Nat} {A : Option Addr} {ss : List SFact} {fs : List GFact} (h : FRow0 w B A ss fs) (hf : Small fs) : FRow w B A ss fs := ⟨h.row, h.len, fun i h1 h2 => (h.each i h1 h2).small (hf.2 _ (List.getElem_mem h2))⟩
theorem FHold0.below {w w' : World} {B B' : Nat} {s : SFact} {f : GFact} (h : FHold0 w B s f) (hB : B ≤ B') (hb : Below B' w w') : FHold0 w' B s f := ⟨h.rel, h.n, h.row.below hB hb, h.max⟩
theorem FHold0.wide {w : World} {B B' : Nat} {s : SFact} {f : GFact} (h : FHold0 w B s f) (hB : B ≤ B') : FHold0 w B' s f := ⟨h.rel, h.n, h.row.wide hB, h.max⟩
theorem FHold0.next {w w' : World} {B : Nat} {s : SFact} {f : GFact} (h : FHold0 w B s f) (hB : B ≤ w.heap.size) (hb : Below w.heap.size w w') : FHold0 w' w'.heap.size s f := (h.below hB hb).wide (Nat.le_trans hB hb.size)
theorem small_snoc {fs : List GFact} {k : Nat} (h : k < fs.length) (ha : ∀ f ∈ fs.take k, SmallF f) (hw : SmallF fs[k]) : ∀ f ∈ fs.take (k + 1), SmallF f := by
  rw [List.take_succ_eq_append_getElem h]
  intro f hf
  rcases List.mem_append.1 hf with h1 | h1
  · exact ha f h1
  · simp at h1; subst h1; exact hw
theorem words_snoc {vs : List GVal} {k : Nat} (h : k < vs.length) (ha : ∀ v ∈ vs.take k, v.word.length ≤ 60) (hw : vs[k].word.length ≤ 60) : ∀ v ∈ vs.take (k + 1), v.word.length ≤ 60 := by
  rw [List.take_succ_eq_append_getElem h]
  intro f hf
  rcases List.mem_append.1 hf with h1 | h1
  · exact ha f h1
  · simp at h1; subst h1; exact hw
def FewEnd (fs : List GFact) (w : World) (e : Ending) (w' : World) : Prop := (∃ b, e = .returned (.bool b) ∧ (b = true → Small fs)) ∧ w = w'
set_option maxRecDepth 50000 in
set_option maxHeartbeats 1000000 in
theorem few_any (ss : List SFact) (fs : List GFact) (A : Option Addr) (c : Nat) (w : World) (hA : FRow0 w w.heap.size A ss fs) :
    Calls Tryz.prog 5 #[.slice A fs.length c] w (FewEnd fs w) := by
  have HA := Lib.hid hA
  have hlen := hA.len
  clear hA
  by_cases h80 : fs.length ≤ 80
  · have f80 : decide ((80 : Int) < (fs.length : Int)) = false := by simp; omega
    have g80 : ¬ (80 : Int) < (fs.length : Int) := by omega
    go_enter Tryz.func5, Tryz.ntmps5
    go_wp2
    go_loop [3] (fun vi => ∃ i : Nat, vi = .int .i64 i ∧ i ≤ fs.length ∧ Hid (∀ f ∈ fs.take i, SmallF f)) (fun vi => fs.length - (intOf vi).toNat)
    case atStart => exact ⟨0, rfl, Nat.zero_le _, Lib.hid (by simp)⟩
    case round =>
      obtain ⟨i, rfl, hi, HT⟩ := hrel
      rcases Nat.lt_or_ge i fs.length with hlt | hge
      · have hls : i < ss.length := by omega
        obtain ⟨b1, o1, rfl, hb1, x0, x1⟩ := HA.out.row.fact2 hls
        have hold := HA.out.each i hls hlt
        have HSN := Lib.hid (small_snoc hlt HT.out)
        generalize fs[i] = f at *
        generalize ss[i] = y at *
        obtain ⟨r, vs⟩ := f
        obtain ⟨yr, yA, yn, yc⟩ := y
        have e1 := hold.rel
        have e2 := hold.n
        have hmx := hold.max
        have HR := Lib.hid hold.row
        clear hold
        simp only at e1 e2 x0 x1 hmx HR
        subst e1 e2
        unfold maxLen at hmx
        have hsz : (⟨yr.toArray⟩ : ByteArray).size = yr.length := ba_size yr
        by_cases hr : yr.length ≤ 60
        · have fr : decide ((60 : Int) < (yr.length : Int)) = false := by simp; omega
          have gr : ¬ (60 : Int) < (yr.length : Int) := by omega
          by_cases ha : vs.length ≤ 12
          · have fa : decide ((12 : Int) < (vs.length : Int)) = false := by simp; omega
            have ga : ¬ (12 : Int) < (vs.length : Int) := by omega
            go_wp2
            go_loop [4] (fun vk => ∃ k : Nat, vk = .int .i64 k ∧ k ≤ vs.length ∧ Hid (∀ v ∈ vs.take k, v.word.length ≤ 60)) (fun vk => vs.length - (intOf vk).toNat)
            case atStart => exact ⟨0, rfl, Nat.zero_le _, Lib.hid (by simp)⟩
            case round =>
              obtain ⟨k, rfl, hk, HV⟩ := hrel
              rcases Nat.lt_or_ge k vs.length with hlk | hgk
              · obtain ⟨b2, o2, rfl, hb2, z0, z1, z2⟩ := HR.out.val3 hlk
                have HWS := Lib.hid (words_snoc hlk HV.out)
                generalize vs[k] = v at *
                obtain ⟨vk, vn, vw⟩ := v
                simp only at z0 z1 z2 HWS
                have hsw : (⟨vw.toArray⟩ : ByteArray).size = vw.length := ba_size vw
                by_cases hw : vw.length ≤ 60
                · have fw : decide ((60 : Int) < (vw.length : Int)) = false := by simp; omega
                  have gw : ¬ (60 : Int) < (vw.length : Int) := by omega
                  have HW2 := Lib.hid (HWS.out hw)
                  go_wp2
                  go_round
                  case rel => exact ⟨k + 1, by go_num, by omega, HW2⟩
                  case measure => simp [intOf]; omega
                · have fw : decide ((60 : Int) < (vw.length : Int)) = true := by simp; omega
                  have gw : (60 : Int) < (vw.length : Int) := by omega
                  go_wp2
                  go_ret
                  exact ⟨⟨false, rfl, by simp⟩, rfl⟩
              · have HS2 := Lib.hid (HSN.out ⟨hr, ha, by have := HV.out; rw [List.take_of_length_le hgk] at this; exact this⟩)
                go_wp2
                go_round
                case rel => exact ⟨i + 1, by go_num, by omega, HS2⟩
                case measure => simp [intOf]; omega
          · have fa : decide ((12 : Int) < (vs.length : Int)) = true := by simp; omega
            have ga : (12 : Int) < (vs.length : Int) := by omega
            go_wp2
            go_ret
            exact ⟨⟨false, rfl, by simp⟩, rfl⟩
        · have fr : decide ((60 : Int) < (yr.length : Int)) = true := by simp; omega
          have gr : (60 : Int) < (yr.length : Int) := by omega
          go_wp2
          go_ret
          exact ⟨⟨false, rfl, by simp⟩, rfl⟩
      · go_wp2
        go_ret
        exact ⟨⟨true, rfl, fun _ => ⟨h80, by have := HT.out; rw [List.take_of_length_le hge] at this; exact this⟩⟩, rfl⟩
  · have f80 : decide ((80 : Int) < (fs.length : Int)) = true := by simp; omega
    have g80 : (80 : Int) < (fs.length : Int) := by omega
    go_enter Tryz.func5, Tryz.ntmps5
    go_wp2
    go_ret
    exact ⟨⟨false, rfl, by simp⟩, rfl⟩
end Go.Proofs.YtmodjokoggmnaaaGreatDoor
