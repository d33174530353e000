/-
  Copies: slices.Clone at values and at facts; the sort and the compaction of at most one fact.
  Conditions: as each theorem says.
-/
import Derived.Test.YtfmajccblnmglaaGreatDoorFps
import Derived.Lib.LazyBuf
namespace Go.Proofs.YtfmajccblnmglaaGreatDoor
open Go.RowKit Go.Shelf

theorem nil_no (T : TypeId) (ad : Addr) (n c : Nat) (e : TypeId) (hT : Tryz.prog.underlying T = some (.slice e)) (W : World) : (binOp .eql T (.slice (some ad) n c) (.slice none 0 0)).run Tryz.prog W = .ok (.bool false) W := by
  rw [_root_.Go.run_eql_slice_nil W T e _ _ _ hT]; rfl
theorem nil_yes (T : TypeId) (e : TypeId) (hT : Tryz.prog.underlying T = some (.slice e)) (W : World) : (binOp .eql T (.slice none 0 0) (.slice none 0 0)).run Tryz.prog W = .ok (.bool true) W := by
  rw [_root_.Go.run_eql_slice_nil W T e _ _ _ hT]; rfl
theorem below_of_own {w w1 w2 : World} {q : Option Nat} (h : Below w.heap.size w w1) (h2 : w1.grownBy w2 q) (hq : ∀ g, q = some g → w.heap.size ≤ g) : Below w.heap.size w w2 := h.grown h2 h.size hq
set_option maxRecDepth 50000 in
theorem cloneV_any (vs : List GVal) (A : Option Addr) (c : Nat) (w : World) (h : GRow GVal.cells 3 w w.heap.size A vs) (hA : A ≠ none) (hl : vs.length ≤ 1000000) :
    Calls Tryz.prog 57 #[.slice A vs.length c] w fun e w' => (∃ v, e = .returned v ∧ OwnG GVal.cells 40 3 w' w.heap.size v vs) ∧ Below w.heap.size w w' := by
  obtain ⟨ad, rfl⟩ : ∃ ad, A = some ad := by cases A with | none => exact absurd rfl hA | some a => exact ⟨a, rfl⟩
  have ho := OwnG.lit (T := 40) GVal.len w w.heap.size [] #[] rfl (Nat.le_refl _) (by unfold maxLen; simp)
  obtain ⟨v', w', hrun, hown, hgr, _⟩ := OwnG.app elt_val GVal.len GVal.one ho c ((h.below (Nat.le_refl _) (bel_lit (Below.refl _ w) (.cells #[] 40))).wide (Nat.le_succ _)) (by simp) (by unfold maxLen; simp; omega) (by simp; omega)
  rw [List.nil_append] at hown
  have HB := Lib.hid (below_of_own (bel_lit (Below.refl w.heap.size w) _) hgr (fun g hg => by simp [Value.ownBlock] at hg; omega))
  have HRUN := Lib.hid hrun
  have HO := Lib.hid hown
  have hq := nil_no 23 ad vs.length c _ Tryz.underlying23
  clear h ho hrun hown hgr
  go_enter Tryz.func57, Tryz.ntmps57
  go_wp2_with (at_builtin; refine wpList_gapp HRUN.out rfl rfl rfl rfl rfl ?_)
  go_wp2
  go_ret
  exact ⟨⟨_, rfl, HO.out⟩, HB.out⟩
set_option maxRecDepth 50000 in
theorem cloneF_any (fs : List SFact) (A : Option Addr) (c : Nat) (w : World) (h : GRow SFact.cells 2 w w.heap.size A fs) (hA : A ≠ none) (hl : fs.length ≤ 1000000) :
    Calls Tryz.prog 78 #[.slice A fs.length c] w fun e w' => (∃ v, e = .returned v ∧ OwnG SFact.cells 25 2 w' w.heap.size v fs) ∧ Below w.heap.size w w' := by
  obtain ⟨ad, rfl⟩ : ∃ ad, A = some ad := by cases A with | none => exact absurd rfl hA | some a => exact ⟨a, rfl⟩
  have ho := OwnG.lit (T := 25) SFact.len w w.heap.size [] #[] rfl (Nat.le_refl _) (by unfold maxLen; simp)
  obtain ⟨v', w', hrun, hown, hgr, _⟩ := OwnG.app elt_fact SFact.len SFact.one ho c ((h.below (Nat.le_refl _) (bel_lit (Below.refl _ w) (.cells #[] 25))).wide (Nat.le_succ _)) (by simp) (by unfold maxLen; simp; omega) (by simp; omega)
  rw [List.nil_append] at hown
  have HB := Lib.hid (below_of_own (bel_lit (Below.refl w.heap.size w) _) hgr (fun g hg => by simp [Value.ownBlock] at hg; omega))
  have HRUN := Lib.hid hrun
  have HO := Lib.hid hown
  have hq := nil_no 22 ad fs.length c _ Tryz.underlying22
  clear h ho hrun hown hgr
  go_enter Tryz.func78, Tryz.ntmps78
  go_wp2_with (at_builtin; refine wpList_gapp HRUN.out rfl rfl rfl rfl rfl ?_)
  go_wp2
  go_ret
  exact ⟨⟨_, rfl, HO.out⟩, HB.out⟩
set_option maxRecDepth 50000 in
theorem cloneF_nil (w : World) : Calls Tryz.prog 78 #[.slice none 0 0] w fun e w' => e = .returned (.slice none 0 0) ∧ w = w' := by
  have hq := nil_yes 22 _ Tryz.underlying22
  go_enter Tryz.func78, Tryz.ntmps78
  go_wp2
  go_ret
  exact ⟨rfl, rfl⟩
theorem insertion_tiny (A : Option Addr) (n c : Nat) (f : Value) (w : World) (hn : n ≤ 1) :
    Calls Tryz.prog 125 #[.slice A n c, .int .i64 0, .int .i64 n, f] w fun e w' => e = .returned (.tuple #[]) ∧ w = w' := by
  have hf : decide ((1 : Int) < (n : Int)) = false := by simp; omega
  have hf2 : ¬ (1 : Int) < (n : Int) := by omega
  go_enter Tryz.func125, Tryz.ntmps125
  go_wp2
  go_loop [8] (fun vi => vi = .int .i64 1) (fun _ => 0)
  case atStart => rfl
  case round =>
    obtain rfl := hrel
    go_wp2
    go_end0
    exact ⟨rfl, rfl⟩
set_option maxRecDepth 100000 in
theorem pdq_tiny (A : Option Addr) (n c : Nat) (l : Int) (f : Value) (w : World) (hn : n ≤ 1) :
    Calls Tryz.prog 104 #[.slice A n c, .int .i64 0, .int .i64 n, .int .i64 l, f] w fun e w' => e = .returned (.tuple #[]) ∧ w = w' := by
  have HI := Lib.hid (insertion_tiny A n c f w hn)
  have hf : decide ((n : Int) ≤ 12) = true := by simp; omega
  have hf2 : (n : Int) ≤ 12 := by omega
  go_enter Tryz.func104, Tryz.ntmps104
  go_wp2
  go_loop [1, 2, 3, 10, 11] (fun va vb vl v10 v11 => va = .int .i64 0 ∧ vb = .int .i64 n ∧ vl = .int .i64 l ∧ v10 = .bool true ∧ v11 = .bool true) (fun _ _ _ _ _ => 0)
  case atStart => exact ⟨rfl, rfl, rfl, rfl, rfl⟩
  case round =>
    obtain ⟨rfl, rfl, rfl, rfl, rfl⟩ := hrel
    go_wp2_with fail
    refine HI.out.mono ?_
    rintro e w1 ⟨rfl, rfl⟩
    go_wp2
    exact bodyPost_ret (v := .tuple #[]) (by simp [results, Tryz.results104]) rfl ⟨rfl, rfl⟩
theorem sort_tiny (A : Option Addr) (n c : Nat) (f : Value) (w : World) (hn : n ≤ 1) :
    Calls Tryz.prog 79 #[.slice A n c, f] w fun e w' => e = .returned (.tuple #[]) ∧ w = w' := by
  have HL := Lib.hid (Tryz.bits_Len (n : Int) w (by omega) (by omega))
  have HP := Lib.hid fun l => pdq_tiny A n c l f w hn
  have hw : IntKind.u64.wrap (n : Int) = n := IntWalk.u64_in _ (by omega)
  go_enter Tryz.func79, Tryz.ntmps79
  go_wp2_with fail
  refine HL.out.mono ?_
  rintro e w1 ⟨rfl, rfl⟩
  go_wp2_with fail
  refine (HP.out _).mono ?_
  rintro e w1 ⟨rfl, rfl⟩
  go_wp2
  go_end0
  exact ⟨rfl, rfl⟩
theorem compact_tiny (A : Option Addr) (n c : Nat) (f : Value) (w : World) (hn : n ≤ 1) :
    Calls Tryz.prog 80 #[.slice A n c, f] w fun e w' => e = .returned (.slice A n c) ∧ w = w' := by
  have hf : decide ((n : Int) < 2) = true := by simp; omega
  have hf2 : (n : Int) < 2 := by omega
  have hf3 : n < 2 := by omega
  go_enter Tryz.func80, Tryz.ntmps80
  go_wp2
  go_ret
  exact ⟨rfl, rfl⟩
end Go.Proofs.YtfmajccblnmglaaGreatDoor
