/-
  The reference's Right: a fact is well formed.
  Conditions: a fact has at most 2^40 arguments.
  The reference's Set, Insert and Contains.
  Conditions: at most 990 facts; kinds are ints of the language.
  facts.Select in terms of plain facts, and the closure that it hands on.
  Conditions: the list has at most 1000000 facts, each of at most 1000000 arguments.
-/
import Derived.Test.YtmodjokoggmnaaaGreatDoorMa16
import Derived.Test.YtmodjokoggmnaaaGreatDoorMa14
import Derived.Deep.DeepFit
import Derived.Test.YtmodjokoggmnaaaGreatDoorMa35
import Derived.Test.YtmodjokoggmnaaaGreatDoorMa32
namespace Go.Proofs.YtmodjokoggmnaaaGreatDoor

open Go.RowKit Go.Shelf

set_option maxRecDepth 50000 in
set_option maxHeartbeats 1000000 in
theorem rRightValue_any (v : GVal) (w : World) (hl : v.word.length ≤ 65536) :
    Calls Tryz.prog 39 #[v.val] w fun e w' => e = .returned (.bool (gwfV v)) ∧ Below w.heap.size w w' := by
  obtain ⟨kd, n, l⟩ := v
  simp only at hl
  unfold GVal.val
  have hsz : (⟨l.toArray⟩ : ByteArray).size = l.length := ba_size l
  have HP := Lib.hid fun W => rPlain_any l W (by unfold maxLen; omega)
  have HB := Lib.hid (bel_lit (Below.refl w.heap.size w) (.cells #[.int .i64 kd, .int .i64 n, .string ⟨l.toArray⟩] 40))
  by_cases h1 : kd = 1
  · subst h1
    have HF : Hid (gwfV ⟨1, n, l⟩ = l.isEmpty) := Lib.hid rfl
    cases l with
    | nil =>
      go_enter Tryz.func39, Tryz.ntmps39
      go_wp2
      go_ret
      exact ⟨ret_bool (by rw [HF.out]; rfl), HB.out⟩
    | cons c r =>
      go_enter Tryz.func39, Tryz.ntmps39
      go_wp2
      go_ret
      exact ⟨ret_bool (by rw [HF.out]; rfl), HB.out⟩
  by_cases h2 : kd = 2
  · subst h2
    have HF : Hid (gwfV ⟨2, n, l⟩ = (decide (n = 0) && (decide (1 ≤ l.length) && decide (l.length ≤ 24)) && l.all isStr)) := Lib.hid rfl
    by_cases h0 : n = 0
    · subst h0
      cases l with
      | nil =>
        go_enter Tryz.func39, Tryz.ntmps39
        go_wp2
        go_ret
        exact ⟨ret_bool (by rw [HF.out]; rfl), HB.out⟩
      | cons c r =>
        by_cases h3 : (c :: r).length ≤ 24
        · generalize hq : (c :: r).all isStr = q at *
          have HQ := Lib.hid hq
          clear hq
          have f3 : decide (((c :: r).length : Int) ≤ 24) = true := by simp at h3 ⊢; omega
          have g3 : ((c :: r).length : Int) ≤ 24 := by omega
          go_enter Tryz.func39, Tryz.ntmps39
          go_wp2_with fail
          go_fit (HP.out _)
          rintro e w1 ⟨rfl, rfl⟩
          go_wp2
          go_ret
          exact ⟨ret_bool (by rw [HF.out]; simp at h3 ⊢; omega), HB.out⟩
        · have f3 : decide (((c :: r).length : Int) ≤ 24) = false := by simp at h3 ⊢; omega
          have g3 : ¬ ((c :: r).length : Int) ≤ 24 := by omega
          go_enter Tryz.func39, Tryz.ntmps39
          go_wp2
          go_ret
          exact ⟨ret_bool (by rw [HF.out]; simp at h3 ⊢; omega), HB.out⟩
    · have f0 : (n == 0) = false := by simpa using h0
      go_enter Tryz.func39, Tryz.ntmps39
      go_wp2
      go_ret
      exact ⟨ret_bool (by rw [HF.out]; simp [h0]), HB.out⟩
  · have HF : Hid (gwfV ⟨kd, n, l⟩ = false) := Lib.hid (by simp [gwfV, h1, h2])
    have f1 : (kd == 1) = false := by simpa using h1
    have f2 : (kd == 2) = false := by simpa using h2
    go_enter Tryz.func39, Tryz.ntmps39
    go_wp2
    go_ret
    exact ⟨ret_bool HF.out.symm, HB.out⟩

set_option maxRecDepth 50000 in
set_option maxHeartbeats 1000000 in
theorem rRight_any (f : GFact) (s : SFact) (w : World) (hf : FHold w w.heap.size s f) (hr : f.rel.length ≤ 65536) (hs : ∀ v ∈ f.args, v.word.length ≤ 65536) :
    Calls Tryz.prog 13 #[.agg #[.string ⟨s.rel.toArray⟩, .slice s.A s.n s.c]] w fun e w' => e = .returned (.bool (gwfF f)) ∧ Below w.heap.size w w' := by
  obtain ⟨sr, A, sn, ca⟩ := s
  obtain ⟨r, vs⟩ := f
  have e1 := hf.rel
  have e2 := hf.n
  have hx := hf.few
  have hA := hf.row
  simp only at *
  subst e1 e2
  clear hf
  have HF : Hid (gwfF ⟨sr, vs⟩ = (nameB sr && decide (1 ≤ vs.length) && decide (vs.length ≤ 8) && vs.all gwfV)) := Lib.hid rfl
  have hb0 := bel_lit (Below.refl w.heap.size w) (.cells #[.string ⟨sr.toArray⟩, .slice A vs.length ca] 37)
  have HB := Lib.hid hb0
  have HN := Lib.hid fun W => rIsName_any sr W (by unfold maxLen; omega)
  have HA := Lib.hid ((hA.below (Nat.le_refl _) hb0).wide hb0.size)
  have HS := Lib.hid hs
  have hk0 := heap_alloc_new w (.cells #[.string ⟨sr.toArray⟩, .slice A vs.length ca] 37)
  have HK := Lib.hid hk0
  clear hA hs hb0 hk0
  have hws : (w.alloc (.cells #[.string ⟨sr.toArray⟩, .slice A vs.length ca] 37)).heap.size = w.heap.size + 1 := by simp
  generalize gwfF ⟨sr, vs⟩ = gf at *
  go_enter Tryz.func13, Tryz.ntmps13
  go_wp2
  generalize w.alloc (.cells #[.string ⟨sr.toArray⟩, .slice A vs.length ca] 37) = W0 at *
  have hnot : ∀ (x : Bool) (w : World), (Op.unary .not (.bool x)).run Tryz.prog w = .ok (.bool (!x)) w := fun _ _ => rfl
  go_loopw [3] (fun vi wr => ∃ k : Nat, vi = .int .i64 k ∧ k ≤ vs.length ∧ Hid ((vs.take k).all gwfV = true) ∧ Hid (Below W0.heap.size W0 wr)) (fun vi _ => vs.length - (intOf vi).toNat)
  case atStart => exact ⟨0, rfl, Nat.zero_le _, Lib.hid rfl, Lib.hid (Below.refl _ _)⟩
  case round =>
    obtain ⟨k, rfl, hk, HT, HW⟩ := hrel
    have hkr := (HW.out.block w.heap.size (by omega)).trans HK.out
    have z0 : wr.cell? ⟨w.heap.size, 0, none⟩ = some (.string ⟨sr.toArray⟩) := by rw [Lib.cell_of_heap hkr]; rfl
    have z1 : wr.cell? ⟨w.heap.size, 1, none⟩ = some (.slice A vs.length ca) := by rw [Lib.cell_of_heap hkr]; rfl
    clear hkr
    have HFB := Lib.hid (bel_next HB.out HW.out)
    rcases Nat.lt_or_ge k vs.length with hlt | hge
    · obtain ⟨b1, o1, rfl, hb1, x0, x1, x2⟩ := (HA.out.below (Nat.le_refl _) HW.out).val3 hlt
      have hsz := HW.out.size
      have hl1 : b1 < wr.heap.size := by omega
      have HSN := Lib.hid fun h => allV_snoc hlt HT.out h
      have HAF := Lib.hid fun h => allV_fail hlt h
      have HC := Lib.hid fun W => rRightValue_any vs[k] W (HS.out _ (List.getElem_mem hlt))
      generalize vs[k] = v at *
      obtain ⟨xk, xi, xw⟩ := v
      simp only [GVal.val] at *
      generalize gwfV ⟨xk, xi, xw⟩ = q at *
      go_wp2_with fail
      go_fit (HC.out _)
      rintro e w1 ⟨rfl, hb3⟩
      have HN := Lib.hid (bel_next HW.out hb3)
      have HN2 := Lib.hid (bel_next HFB.out hb3)
      clear hb3
      cases q
      · have HF2 := Lib.hid (HAF.out rfl)
        go_wp2
        go_ret
        exact ⟨ret_bool (by rw [HF.out, HF2.out]; simp), HN2.out⟩
      · have HS2 := Lib.hid (HSN.out rfl)
        go_wp2
        go_roundw
        case rel => exact ⟨k + 1, by go_num, by omega, HS2, HN⟩
        case measure => simp [intOf]; omega
    · have hall := HT.out
      rw [List.take_of_length_le hge] at hall
      have HAL := Lib.hid hall
      clear hall
      cases hnm : nameB sr
      · rw [hnm] at HN HF
        go_wp2_with fail
        go_fit (HN.out _)
        rintro e w1 ⟨rfl, rfl⟩
        go_wp2
        go_ret
        exact ⟨ret_bool (by rw [HF.out]; rfl), HFB.out⟩
      · rw [hnm] at HN HF
        have f1 : decide ((1 : Int) ≤ (vs.length : Int)) = decide (1 ≤ vs.length) := by congr 1; simp; omega
        go_wp2_with fail
        go_fit (HN.out _)
        rintro e w1 ⟨rfl, rfl⟩
        by_cases h1 : 1 ≤ vs.length
        · by_cases h2 : vs.length ≤ 8
          · have f8 : decide ((vs.length : Int) ≤ 8) = true := by simp; omega
            have g8 : (vs.length : Int) ≤ 8 := by omega
            have g1 : (1 : Int) ≤ (vs.length : Int) := by omega
            go_wp2
            go_ret
            exact ⟨ret_bool (by rw [HF.out, HAL.out]; simp [h1, h2]), HFB.out⟩
          · have f8 : decide ((vs.length : Int) ≤ 8) = false := by simp; omega
            have g8 : ¬ (vs.length : Int) ≤ 8 := by omega
            have g1 : (1 : Int) ≤ (vs.length : Int) := by omega
            go_wp2
            go_ret
            exact ⟨ret_bool (by rw [HF.out, HAL.out]; simp [h1, h2]), HFB.out⟩
        · have h0 : vs.length = 0 := by omega
          have H1 : Hid (decide (1 ≤ vs.length) = false) := Lib.hid (decide_eq_false h1)
          rw [H1.out] at HF
          rw [h0] at *
          go_wp2
          go_ret
          exact ⟨ret_bool (by rw [HF.out]; simp), HFB.out⟩
end Go.Proofs.YtmodjokoggmnaaaGreatDoor


namespace Go.Proofs.YtmodjokoggmnaaaGreatDoor

open Go.RowKit Go.Shelf

section

variable {w0 : World}

def SetREnd (es : List (Elem w0)) (w : World) (e : Ending) (w' : World) : Prop :=
  ∃ A, ∃ c : Nat, ∃ es' : List (Elem w0), e = .returned (.slice A es'.length c) ∧ RowE w' A c es' ∧ StrictF (FactsE es') ∧ (∀ g, g ∈ FactsE es' ↔ g ∈ FactsE es) ∧ es'.length ≤ es.length ∧ Below w.heap.size w w'
theorem factsE_take {es : List (Elem w0)} {k : Nat} (h : k < es.length) (g : GFact) : g ∈ FactsE (es.take (k + 1)) ↔ g ∈ FactsE (es.take k) ∨ g = es[k].fact := by
  unfold FactsE
  rw [List.take_succ_eq_append_getElem h, List.map_append, List.mem_append]
  simp
set_option maxRecDepth 50000 in
set_option maxHeartbeats 1000000 in
theorem rSet_any (es : List (Elem w0)) (A : Option Addr) (c : Nat) (w : World) (hb : Below w0.heap.size w0 w) (hr : RowE w A c es) (hn : es.length ≤ 990000) :
    Calls Tryz.prog 14 #[.slice A es.length c] w (SetREnd es w) := by
  have HR := Lib.hid hr.row
  have HB := Lib.hid hb
  have HK := Lib.hid hr.kinds
  clear hr hb
  go_enter Tryz.func14, Tryz.ntmps14
  go_wp2
  go_loopw [3, 4] (fun vl vi wr => ∃ k : Nat, vi = .int .i64 k ∧ k ≤ es.length ∧ (∃ A, ∃ c : Nat, ∃ es' : List (Elem w0), vl = .slice A es'.length c ∧ es'.length ≤ k ∧ Hid (RowE wr A c es' ∧ StrictF (FactsE es') ∧ ∀ g, g ∈ FactsE es' ↔ g ∈ FactsE (es.take k))) ∧ Hid (Below w.heap.size w wr)) (fun _ vi _ => es.length - (intOf vi).toNat)
  case atStart => exact ⟨0, rfl, Nat.zero_le _, ⟨none, 0, [], rfl, Nat.le_refl _, Lib.hid ⟨RowE.nil _, List.Pairwise.nil, fun g => by simp [FactsE]⟩⟩, Lib.hid (Below.refl _ _)⟩
  case round =>
    obtain ⟨k, rfl, hk, ⟨Al, cl, el, rfl, hll, HL⟩, HW⟩ := hrel
    rcases Nat.lt_or_ge k es.length with hlt | hge
    · obtain ⟨b1, o1, rfl, hb1, x0, x1⟩ := (HR.out.below (Nat.le_refl _) HW.out).elem2 hlt
      have hsz := HW.out.size
      have hl1 : b1 < wr.heap.size := by omega
      have HTK := Lib.hid (factsE_take hlt)
      have HA := Lib.hid (rAdd_any el es[k] Al cl wr (bel_next HB.out HW.out) HL.out.1 HL.out.2.1 (by omega) (HK.out _ (List.mem_map.2 ⟨es[k], List.getElem_mem hlt, rfl⟩)))
      generalize es[k] = x at *
      go_wp2_with fail
      go_fit HA.out
      rintro e w1 ⟨A1, c1, e1, rfl, h1, h2, h3, h4, h5⟩
      have HN := Lib.hid (bel_next HW.out h5)
      have HL2 : Hid (RowE w1 A1 c1 e1 ∧ StrictF (FactsE e1) ∧ ∀ g, g ∈ FactsE e1 ↔ g ∈ FactsE (es.take (k + 1))) := Lib.hid ⟨h1, h2, fun g => by rw [h3 g, HTK.out g, HL.out.2.2 g]⟩
      clear h1 h2 h3 h5 HA
      go_wp2
      go_roundw
      case rel => exact ⟨k + 1, by go_num, by omega, ⟨A1, c1, e1, rfl, by omega, HL2⟩, HN⟩
      case measure => simp [intOf]; omega
    · have HE : Hid (SetREnd es w (.returned (.slice Al el.length cl)) wr) := Lib.hid ⟨Al, cl, el, rfl, HL.out.1, HL.out.2.1, fun g => by rw [HL.out.2.2 g, List.take_of_length_le hge], by omega, HW.out⟩
      go_wp2
      go_ret
      exact HE.out
def RInsEnd (es : List (Elem w0)) (f : GFact) (w : World) (e : Ending) (w' : World) : Prop :=
  (gwfF f = false ∧ e = .returned (.tuple #[.slice none 0 0, .int .i64 63]) ∧ Below w.heap.size w w') ∨
  (gwfF f = true ∧ ∃ A, ∃ c : Nat, ∃ es' : List (Elem w0), e = .returned (.tuple #[.slice A es'.length c, .int .i64 0]) ∧ RowE w' A c es' ∧ StrictF (FactsE es') ∧ (∀ g, g ∈ FactsE es' ↔ g ∈ FactsE es ∨ g = f) ∧ es'.length ≤ es.length + 1 ∧ Below w.heap.size w w')
end

end Go.Proofs.YtmodjokoggmnaaaGreatDoor


namespace Go.Proofs.YtmodjokoggmnaaaGreatDoor

open Go.RowKit Go.Shelf

/-- What Select asks. -/
def selB (r : List UInt8) (n : Int) (f : GFact) : Bool := decide (f.rel = r) && decide ((f.args.length : Int) = n)
def keepS {w0 : World} (r : List UInt8) (n : Int) (es : List (Elem w0)) : List (Elem w0) := es.filter fun x => selB r n x.fact
theorem keepS_step {w0 : World} {r : List UInt8} {n : Int} {es : List (Elem w0)} {k : Nat} (h : k < es.length) : keepS r n (es.take (k + 1)) = if selB r n es[k].fact then keepS r n (es.take k) ++ [es[k]] else keepS r n (es.take k) := by
  unfold keepS
  rw [List.take_succ_eq_append_getElem h, List.filter_append]
  cases hq : selB r n es[k].fact
  · simp [hq]
  · simp [hq]
theorem keepS_len {w0 : World} (r : List UInt8) (n : Int) (es : List (Elem w0)) : (keepS r n es).length ≤ es.length := List.length_filter_le _ _
def SelS {w0 : World} (r : List UInt8) (n : Int) (es : List (Elem w0)) (e : Ending) (w' : World) : Prop := ∃ v, e = .returned v ∧ OwnG Elem.enc 37 2 w' w0.heap.size v (keepS r n es) ∧ Below w0.heap.size w0 w'
theorem keepS_mem {w0 : World} (r : List UInt8) (n : Int) (es : List (Elem w0)) (g : GFact) : g ∈ (keepS r n es).map Elem.fact ↔ g ∈ es.map Elem.fact ∧ selB r n g = true := by
  rw [List.mem_map, List.mem_map]
  constructor
  · rintro ⟨x, hx, rfl⟩
    have h := List.mem_filter.1 hx
    exact ⟨⟨x, h.1, rfl⟩, h.2⟩
  · rintro ⟨⟨x, hx, rfl⟩, hne⟩
    exact ⟨x, List.mem_filter.2 ⟨hx, hne⟩, rfl⟩
def SelectEnd (fa : List GFact) (r : List UInt8) (n : Int) (w : World) (e : Ending) (w' : World) : Prop :=
  ∃ v, ∃ ss : List SFact, ∃ fs : List GFact, e = .returned v ∧ SetV w' v ss fs ∧ StrictF fs ∧ (∀ g, g ∈ fs ↔ g ∈ fa ∧ selB r n g = true) ∧ fs.length ≤ fa.length ∧ Below w.heap.size w w'
end Go.Proofs.YtmodjokoggmnaaaGreatDoor
