/-
  The reference kit's FewFacts: where it returns true, the facts are few and short.
  Conditions: none beyond that the slice is one of the language's.
-/
import Derived.Test.YtfmajccblnmglaaGreatDoorFct
namespace Go.Proofs.YtfmajccblnmglaaGreatDoor
open Go.RowKit Go.Shelf

structure SmallF (f : GFact) : Prop where
  rel : f.rel.length ≤ 60
  args : f.args.length ≤ 12
  word : ∀ v ∈ f.args, v.word.length ≤ 60
def Small (fs : List GFact) : Prop := fs.length ≤ 80 ∧ ∀ f ∈ fs, SmallF f
/-- The fact s, as it lies in memory, is f, whatever its length. -/
structure FHold0 (w : World) (B : Nat) (s : SFact) (f : GFact) : Prop where
  rel : s.rel = f.rel
  n : s.n = f.args.length
  row : GRow GVal.cells 3 w B s.A f.args
  max : f.args.length ≤ maxLen
structure FRow0 (w : World) (B : Nat) (A : Option Addr) (ss : List SFact) (fs : List GFact) : Prop where
  row : GRow SFact.cells 2 w B A ss
  len : ss.length = fs.length
  each : ∀ i (h1 : i < ss.length) (h2 : i < fs.length), FHold0 w B ss[i] fs[i]
theorem FHold0.small {w : World} {B : Nat} {s : SFact} {f : GFact} (h : FHold0 w B s f) (hf : SmallF f) : FHold w B s f := ⟨h.rel, h.n, h.row, by have := hf.args; omega⟩
theorem FRow0.small {w : World} {B : Nat} {A : Option Addr} {ss : List SFact} {fs : List GFact} (h : FRow0 w B A ss fs) (hf : Small fs) : FRow w B A ss fs := ⟨h.row, h.len, fun i h1 h2 => (h.each i h1 h2).small (hf.2 _ (List.getElem_mem h2))⟩
theorem FHold0.below {w w' : World} {B B' : Nat} {s : SFact} {f : GFact} (h : FHold0 w B s f) (hB : B ≤ B') (hb : Below B' w w') : FHold0 w' B s f := ⟨h.rel, h.n, h.row.below hB hb, h.max⟩
theorem FHold0.wide {w : World} {B B' : Nat} {s : SFact} {f : GFact} (h : FHold0 w B s f) (hB : B ≤ B') : FHold0 w B' s f := ⟨h.rel, h.n, h.row.wide hB, h.max⟩
theorem FHold0.next {w w' : World} {B : Nat} {s : SFact} {f : GFact} (h : FHold0 w B s f) (hB : B ≤ w.heap.size) (hb : Below w.heap.size w w') : FHold0 w' w'.heap.size s f := (h.below hB hb).wide (Nat.le_trans hB hb.size)
theorem small_snoc {fs : List GFact} {k : Nat} (h : k < fs.length) (ha : ∀ f ∈ fs.take k, SmallF f) (hw : SmallF fs[k]) : ∀ f ∈ fs.take (k + 1), SmallF f := by
  rw [List.take_succ_eq_append_getElem h]
  intro f hf
  rcases List.mem_append.1 hf with h1 | h1
  · exact ha f h1
  · simp at h1; subst h1; exact hw
theorem words_snoc {vs : List GVal} {k : Nat} (h : k < vs.length) (ha : ∀ v ∈ vs.take k, v.word.length ≤ 60) (hw : vs[k].word.length ≤ 60) : ∀ v ∈ vs.take (k + 1), v.word.length ≤ 60 := by
  rw [List.take_succ_eq_append_getElem h]
  intro f hf
  rcases List.mem_append.1 hf with h1 | h1
  · exact ha f h1
  · simp at h1; subst h1; exact hw
def FewEnd (fs : List GFact) (w : World) (e : Ending) (w' : World) : Prop := (∃ b, e = .returned (.bool b) ∧ (b = true → Small fs)) ∧ w = w'
set_option maxRecDepth 50000 in
set_option maxHeartbeats 1000000 in
theorem few_any (ss : List SFact) (fs : List GFact) (A : Option Addr) (c : Nat) (w : World) (hA : FRow0 w w.heap.size A ss fs) :
    Calls Tryz.prog 6 #[.slice A fs.length c] w (FewEnd fs w) := by
  have HA := Lib.hid hA
  have hlen := hA.len
  clear hA
  by_cases h80 : fs.length ≤ 80
  · have f80 : decide ((80 : Int) < (fs.length : Int)) = false := by simp; omega
    have g80 : ¬ (80 : Int) < (fs.length : Int) := by omega
    go_enter Tryz.func6, Tryz.ntmps6
    go_wp2
    go_loop [3] (fun vi => ∃ i : Nat, vi = .int .i64 i ∧ i ≤ fs.length ∧ Hid (∀ f ∈ fs.take i, SmallF f)) (fun vi => fs.length - (intOf vi).toNat)
    case atStart => exact ⟨0, rfl, Nat.zero_le _, Lib.hid (by simp)⟩
    case round =>
      obtain ⟨i, rfl, hi, HT⟩ := hrel
      rcases Nat.lt_or_ge i fs.length with hlt | hge
      · have hls : i < ss.length := by omega
        obtain ⟨b1, o1, rfl, hb1, x0, x1⟩ := HA.out.row.fact2 hls
        have hold := HA.out.each i hls hlt
        have HSN := Lib.hid (small_snoc hlt HT.out)
        generalize fs[i] = f at *
        generalize ss[i] = y at *
        obtain ⟨r, vs⟩ := f
        obtain ⟨yr, yA, yn, yc⟩ := y
        have e1 := hold.rel
        have e2 := hold.n
        have hmx := hold.max
        have HR := Lib.hid hold.row
        clear hold
        simp only at e1 e2 x0 x1 hmx HR
        subst e1 e2
        unfold maxLen at hmx
        have hsz : (⟨yr.toArray⟩ : ByteArray).size = yr.length := ba_size yr
        by_cases hr : yr.length ≤ 60
        · have fr : decide ((60 : Int) < (yr.length : Int)) = false := by simp; omega
          have gr : ¬ (60 : Int) < (yr.length : Int) := by omega
          by_cases ha : vs.length ≤ 12
          · have fa : decide ((12 : Int) < (vs.length : Int)) = false := by simp; omega
            have ga : ¬ (12 : Int) < (vs.length : Int) := by omega
            go_wp2
            go_loop [4] (fun vk => ∃ k : Nat, vk = .int .i64 k ∧ k ≤ vs.length ∧ Hid (∀ v ∈ vs.take k, v.word.length ≤ 60)) (fun vk => vs.length - (intOf vk).toNat)
            case atStart => exact ⟨0, rfl, Nat.zero_le _, Lib.hid (by simp)⟩
            case round =>
              obtain ⟨k, rfl, hk, HV⟩ := hrel
              rcases Nat.lt_or_ge k vs.length with hlk | hgk
              · obtain ⟨b2, o2, rfl, hb2, z0, z1, z2⟩ := HR.out.val3 hlk
                have HWS := Lib.hid (words_snoc hlk HV.out)
                generalize vs[k] = v at *
                obtain ⟨vk, vn, vw⟩ := v
                simp only at z0 z1 z2 HWS
                have hsw : (⟨vw.toArray⟩ : ByteArray).size = vw.length := ba_size vw
                by_cases hw : vw.length ≤ 60
                · have fw : decide ((60 : Int) < (vw.length : Int)) = false := by simp; omega
                  have gw : ¬ (60 : Int) < (vw.length : Int) := by omega
                  have HW2 := Lib.hid (HWS.out hw)
                  go_wp2
                  go_round
                  case rel => exact ⟨k + 1, by go_num, by omega, HW2⟩
                  case measure => simp [intOf]; omega
                · have fw : decide ((60 : Int) < (vw.length : Int)) = true := by simp; omega
                  have gw : (60 : Int) < (vw.length : Int) := by omega
                  go_wp2
                  go_ret
                  exact ⟨⟨false, rfl, by simp⟩, rfl⟩
              · have HS2 := Lib.hid (HSN.out ⟨hr, ha, by have := HV.out; rw [List.take_of_length_le hgk] at this; exact this⟩)
                go_wp2
                go_round
                case rel => exact ⟨i + 1, by go_num, by omega, HS2⟩
                case measure => simp [intOf]; omega
          · have fa : decide ((12 : Int) < (vs.length : Int)) = true := by simp; omega
            have ga : (12 : Int) < (vs.length : Int) := by omega
            go_wp2
            go_ret
            exact ⟨⟨false, rfl, by simp⟩, rfl⟩
        · have fr : decide ((60 : Int) < (yr.length : Int)) = true := by simp; omega
          have gr : (60 : Int) < (yr.length : Int) := by omega
          go_wp2
          go_ret
          exact ⟨⟨false, rfl, by simp⟩, rfl⟩
      · go_wp2
        go_ret
        exact ⟨⟨true, rfl, fun _ => ⟨h80, by have := HT.out; rw [List.take_of_length_le hge] at this; exact this⟩⟩, rfl⟩
  · have f80 : decide ((80 : Int) < (fs.length : Int)) = true := by simp; omega
    have g80 : (80 : Int) < (fs.length : Int) := by omega
    go_enter Tryz.func6, Tryz.ntmps6
    go_wp2
    go_ret
    exact ⟨⟨false, rfl, by simp⟩, rfl⟩
end Go.Proofs.YtfmajccblnmglaaGreatDoor
