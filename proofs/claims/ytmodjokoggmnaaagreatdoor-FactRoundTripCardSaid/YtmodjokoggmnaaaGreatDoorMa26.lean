/-
  The reference's parser: Name; Integer and Argument of the reference of facts.
  Conditions: the text has at most 65536 bytes, the tokens are at most 70000.
  The sanity check of layer 4 (awake) returns true.
  Conditions: strconv.ErrRange and the table of powers of ten lie as the program's start lays them.
  Argument of the reference of facts.
  Conditions: the text has at most 65536 bytes, the tokens are at most 70000.
-/
import Derived.Test.YtmodjokoggmnaaaGreatDoorMa25
import Derived.StillTailTactics
import Derived.Test.YtmodjokoggmnaaaGreatDoorMa16
import Derived.Test.YtmodjokoggmnaaaGreatDoorMa7
namespace Go.Proofs.YtmodjokoggmnaaaGreatDoor
open Go.RowKit Go.Shelf

def nameR (l : List UInt8) (gs : List GTok) (s : RS) (k : Int) : RS := if 24 < (anyT gs s k).text.length then failR l gs (anyS l gs s k) ((anyS l gs s k).i - 1) 63 else anyS l gs s k
theorem anyT_no {gs : List GTok} {s : RS} {k : Int} (h : kindR gs s k = false) : anyT gs s k = ⟨0, [], 0, 0, 0⟩ := by unfold anyT; rw [h]; rfl
theorem any_pos {l : List UInt8} {gs : List GTok} {s : RS} {k : Int} (h : kindR gs s k = true) : (anyS l gs s k).i = s.i + 1 := by unfold anyS; rw [h]; rfl
theorem any_le (l : List UInt8) (gs : List GTok) (s : RS) (k : Int) (hs : s.i ≤ gs.length) : (anyS l gs s k).i ≤ gs.length := by
  unfold anyS
  cases h : kindR gs s k
  · rw [if_neg (by simp)]
    unfold failR
    split
    · split <;> exact hs
    · exact hs
  · rw [if_pos rfl]
    have := (kind_lt h).2.1
    show s.i + 1 ≤ _
    omega
set_option maxRecDepth 50000 in
set_option maxHeartbeats 1000000 in
theorem rName_any (p : Nat) (l : List UInt8) (gs : List GTok) (s : RS) (k : Int) (w : World) (h : RPS w p l gs s) (hl : l.length ≤ 65536) (hg : gs.length ≤ 70000) (hs : s.i ≤ gs.length) :
    Calls Tryz.prog 27 #[.pointer (some ⟨p, 0, none⟩), .int .i64 k] w (REnd (.string ⟨(anyT gs s k).text.toArray⟩) (nameR l gs s k) p l gs w) := by
  have HA := Lib.hid (rAny_any p l gs s k w h hl hg)
  have HD : Hid (nameR l gs s k = if 24 < (anyT gs s k).text.length then failR l gs (anyS l gs s k) ((anyS l gs s k).i - 1) 63 else anyS l gs s k) := Lib.hid rfl
  have hpw := h.lt
  have hpos : 24 < (anyT gs s k).text.length → 1 ≤ (anyS l gs s k).i := fun h24 => by
    cases hk : kindR gs s k
    · rw [anyT_no hk] at h24; simp at h24
    · rw [any_pos hk]; omega
  have hle := any_le l gs s k hs
  have HF := Lib.hid fun W (hW : RPS W p l gs (anyS l gs s k)) (h1 : 1 ≤ (anyS l gs s k).i) => rFail_any p l gs (anyS l gs s k) ((anyS l gs s k).i - 1) 63 W hW hl (fun _ => by omega)
  generalize anyS l gs s k = s1 at *
  generalize anyT gs s k = t at *
  obtain ⟨tk, tt, tv, tl, tc⟩ := t
  simp only [GTok.val] at *
  have hsz : (⟨tt.toArray⟩ : ByteArray).size = tt.length := ba_size tt
  clear h
  by_cases h24 : 24 < tt.length
  · have f1 : decide ((24 : Int) < (tt.length : Int)) = true := by simp; omega
    have g1 : (24 : Int) < (tt.length : Int) := by omega
    rw [if_pos h24] at HD
    rw [HD.out]
    have h1 := hpos h24
    have hw1 : IntKind.i64.wrap ((s1.i : Int) - 1) = (s1.i : Int) - 1 := IntWalk.i64_in _ (by omega)
    clear HD hpos h24
    go_enter Tryz.func27, Tryz.ntmps27
    go_wp2_with fail
    go_fit HA.out
    rintro e w1 ⟨rfl, hps, hg1⟩
    have HP1 := Lib.hid (hps.next (Below.alloc (Below.refl w1.heap.size w1) (Nat.le_refl _) (.cells #[.int .i64 tk, .string ⟨tt.toArray⟩, .int .u64 tv, .int .i64 tl, .int .i64 tc] 52)))
    have HG1 := Lib.hid (gb_lit hg1 (.cells #[.int .i64 tk, .string ⟨tt.toArray⟩, .int .u64 tv, .int .i64 tl, .int .i64 tc] 52))
    obtain ⟨A, cap, hp, c0, c1, c2, c3, c4, c5, hr, hf, hh⟩ := hps.open
    have hp1 : p < w1.heap.size := hp
    clear hps hg1 hr hf hh HA
    go_wp2_with fail
    go_fit (HF.out _ HP1.out h1)
    rintro e w2 ⟨rfl, hps, hg2⟩
    have HP2 := Lib.hid hps
    have HG2 := Lib.hid (gb_trans HG1.out hg2)
    have hk2 : w2.heap[w1.heap.size]? = some (.cells #[.int .i64 tk, .string ⟨tt.toArray⟩, .int .u64 tv, .int .i64 tl, .int .i64 tc] 52 (0, 0)) := (hg2.block _ (by simp) (by intro e; cases e; omega)).trans (heap_alloc_new w1 _)
    have y1 : w2.cell? ⟨w1.heap.size, 1, none⟩ = some (.string ⟨tt.toArray⟩) := by rw [Lib.cell_of_heap hk2]; rfl
    clear hps hg2 c0 c1 c2 c3 c4 c5 HF hk2
    go_wp2
    go_ret
    exact ⟨rfl, HP2.out, HG2.out⟩
  · have f1 : decide ((24 : Int) < (tt.length : Int)) = false := by simp; omega
    have g1 : ¬ (24 : Int) < (tt.length : Int) := by omega
    rw [if_neg h24] at HD
    rw [HD.out]
    clear HD hpos h24
    go_enter Tryz.func27, Tryz.ntmps27
    go_wp2_with fail
    go_fit HA.out
    rintro e w1 ⟨rfl, hps, hg1⟩
    have HP1 := Lib.hid (hps.next (Below.alloc (Below.refl w1.heap.size w1) (Nat.le_refl _) (.cells #[.int .i64 tk, .string ⟨tt.toArray⟩, .int .u64 tv, .int .i64 tl, .int .i64 tc] 52)))
    have HG1 := Lib.hid (gb_lit hg1 (.cells #[.int .i64 tk, .string ⟨tt.toArray⟩, .int .u64 tv, .int .i64 tl, .int .i64 tc] 52))
    clear hps hg1 HA HF
    go_wp2
    go_ret
    exact ⟨rfl, HP1.out, HG1.out⟩
def intR (l : List UInt8) (gs : List GTok) (s : RS) : Int × RS :=
  if peekR gs s 4 [45] = true ∧ (anyT gs (takeR gs s 4 [45]) 2).value ≤ 9223372036854775808 then (wrap64 (-(wrap64 (anyT gs (takeR gs s 4 [45]) 2).value)), anyS l gs (takeR gs s 4 [45]) 2)
  else if peekR gs s 4 [45] = false ∧ (anyT gs (takeR gs s 4 [45]) 2).value < 9223372036854775808 then (wrap64 (anyT gs (takeR gs s 4 [45]) 2).value, anyS l gs (takeR gs s 4 [45]) 2)
  else (0, failR l gs (anyS l gs (takeR gs s 4 [45]) 2) ((anyS l gs (takeR gs s 4 [45]) 2).i - 1) 6)
theorem take_le (gs : List GTok) (s : RS) (k : Int) (tx : List UInt8) (hs : s.i ≤ gs.length) : (takeR gs s k tx).i ≤ gs.length := by
  unfold takeR
  cases h : peekR gs s k tx
  · rw [if_neg (by simp)]; exact hs
  · rw [if_pos rfl]
    have := (peek_lt h).2
    show s.i + 1 ≤ _
    omega
set_option maxRecDepth 50000 in
set_option maxHeartbeats 1000000 in
theorem rInteger_any (p : Nat) (l : List UInt8) (gs : List GTok) (s : RS) (w : World) (h : RPS w p l gs s) (hl : l.length ≤ 65536) (hg : gs.length ≤ 70000) (hs : s.i ≤ gs.length) :
    Calls Tryz.prog 59 #[.pointer (some ⟨p, 0, none⟩)] w (REnd (.int .i64 (intR l gs s).1) (intR l gs s).2 p l gs w) := by
  have HT := Lib.hid (rTake_any p l gs s 4 [45] w h hg)
  have HA := Lib.hid fun W (hW : RPS W p l gs (takeR gs s 4 [45])) => rAny_any p l gs (takeR gs s 4 [45]) 2 W hW hl hg
  have hle := any_le l gs (takeR gs s 4 [45]) 2 (take_le gs s 4 [45] hs)
  have hpos : (anyT gs (takeR gs s 4 [45]) 2).value ≠ 0 → 1 ≤ (anyS l gs (takeR gs s 4 [45]) 2).i := fun h0 => by
    cases hk : kindR gs (takeR gs s 4 [45]) 2
    · rw [anyT_no hk] at h0; exact absurd rfl h0
    · rw [any_pos hk]; omega
  have HF := Lib.hid fun W (hW : RPS W p l gs (anyS l gs (takeR gs s 4 [45]) 2)) (h1 : 1 ≤ (anyS l gs (takeR gs s 4 [45]) 2).i) => rFail_any p l gs (anyS l gs (takeR gs s 4 [45]) 2) ((anyS l gs (takeR gs s 4 [45]) 2).i - 1) 6 W hW hl (fun _ => by omega)
  have hnot : ∀ (x : Bool) (w : World), (Op.unary .not (.bool x)).run Tryz.prog w = .ok (.bool (!x)) w := fun _ _ => rfl
  unfold intR
  generalize peekR gs s 4 [45] = m at *
  generalize takeR gs s 4 [45] = s1 at *
  generalize anyS l gs s1 2 = s2 at *
  generalize anyT gs s1 2 = t at *
  obtain ⟨tk, tt, tv, tl, tc⟩ := t
  have hfl : ∀ W : World, (Instr.field 52 (.agg #[.int .i64 tk, .string ⟨tt.toArray⟩, .int .u64 tv, .int .i64 tl, .int .i64 tc]) 2).run Tryz.prog W = .ok (.int .u64 tv) W := fun W => by kernel_rfl
  simp only [GTok.val] at *
  clear h
  cases m
  · by_cases hv : tv < 9223372036854775808
    · have f1 : decide (tv < 9223372036854775808) = true := by simp [hv]
      rw [if_neg (by simp), if_pos ⟨rfl, hv⟩]
      clear hpos HF
      go_enter Tryz.func59, Tryz.ntmps59
      go_wp2_with fail
      go_fit HT.out
      rintro e w1 ⟨rfl, hps, hg1⟩
      have HP1 := Lib.hid hps
      have HG1 := Lib.hid hg1
      clear hps hg1
      go_wp2_with fail
      go_fit (HA.out _ HP1.out)
      rintro e w2 ⟨rfl, hps, hg2⟩
      have HP2 := Lib.hid hps
      have HG2 := Lib.hid (gb_trans HG1.out hg2)
      clear hps hg2
      go_wp2
      go_ret
      exact ⟨rfl, HP2.out, HG2.out⟩
    · have f1 : decide (tv < 9223372036854775808) = false := by simp; omega
      rw [if_neg (by simp), if_neg (fun h => hv h.2)]
      have h1 := hpos (by omega)
      have hw1 : IntKind.i64.wrap ((s2.i : Int) - 1) = (s2.i : Int) - 1 := IntWalk.i64_in _ (by omega)
      clear hpos
      go_enter Tryz.func59, Tryz.ntmps59
      go_wp2_with fail
      go_fit HT.out
      rintro e w1 ⟨rfl, hps, hg1⟩
      have HP1 := Lib.hid hps
      have HG1 := Lib.hid hg1
      clear hps hg1
      go_wp2_with fail
      go_fit (HA.out _ HP1.out)
      rintro e w2 ⟨rfl, hps, hg2⟩
      have HP2 := Lib.hid hps
      have HG2 := Lib.hid (gb_trans HG1.out hg2)
      obtain ⟨A, cap, hp, c0, c1, c2, c3, c4, c5, hr, hf, hh⟩ := hps.open
      clear hps hg2 hr hf hh
      go_wp2_with fail
      go_fit (HF.out _ HP2.out h1)
      rintro e w3 ⟨rfl, hps, hg3⟩
      have HP3 := Lib.hid hps
      have HG3 := Lib.hid (gb_trans HG2.out hg3)
      clear hps hg3 c0 c1 c2 c3 c4 c5
      go_wp2
      go_ret
      exact ⟨rfl, HP3.out, HG3.out⟩
  · by_cases hv : tv ≤ 9223372036854775808
    · have f1 : decide (tv ≤ 9223372036854775808) = true := by simp [hv]
      rw [if_pos ⟨rfl, hv⟩]
      clear hpos HF
      go_enter Tryz.func59, Tryz.ntmps59
      go_wp2_with fail
      go_fit HT.out
      rintro e w1 ⟨rfl, hps, hg1⟩
      have HP1 := Lib.hid hps
      have HG1 := Lib.hid hg1
      clear hps hg1
      go_wp2_with fail
      go_fit (HA.out _ HP1.out)
      rintro e w2 ⟨rfl, hps, hg2⟩
      have HP2 := Lib.hid hps
      have HG2 := Lib.hid (gb_trans HG1.out hg2)
      clear hps hg2
      go_wp2
      go_ret
      exact ⟨rfl, HP2.out, HG2.out⟩
    · have f1 : decide (tv ≤ 9223372036854775808) = false := by simp; omega
      rw [if_neg (fun h => hv h.2), if_neg (by simp)]
      have h1 := hpos (by omega)
      have hw1 : IntKind.i64.wrap ((s2.i : Int) - 1) = (s2.i : Int) - 1 := IntWalk.i64_in _ (by omega)
      clear hpos
      go_enter Tryz.func59, Tryz.ntmps59
      go_wp2_with fail
      go_fit HT.out
      rintro e w1 ⟨rfl, hps, hg1⟩
      have HP1 := Lib.hid hps
      have HG1 := Lib.hid hg1
      clear hps hg1
      go_wp2_with fail
      go_fit (HA.out _ HP1.out)
      rintro e w2 ⟨rfl, hps, hg2⟩
      have HP2 := Lib.hid hps
      have HG2 := Lib.hid (gb_trans HG1.out hg2)
      obtain ⟨A, cap, hp, c0, c1, c2, c3, c4, c5, hr, hf, hh⟩ := hps.open
      clear hps hg2 hr hf hh
      go_wp2_with fail
      go_fit (HF.out _ HP2.out h1)
      rintro e w3 ⟨rfl, hps, hg3⟩
      have HP3 := Lib.hid hps
      have HG3 := Lib.hid (gb_trans HG2.out hg3)
      clear hps hg3 c0 c1 c2 c3 c4 c5
      go_wp2
      go_ret
      exact ⟨rfl, HP3.out, HG3.out⟩
end Go.Proofs.YtmodjokoggmnaaaGreatDoor


namespace Go.Proofs.YtmodjokoggmnaaaGreatDoor
open Go.RowKit Go.Shelf

theorem rInt_any (n : Int) (w : World) : Calls Tryz.prog 16 #[.int .i64 n] w fun e w' => e = .returned (GVal.val ⟨1, n, []⟩) ∧ Below w.heap.size w w' := by
  go_enter Tryz.func16, Tryz.ntmps16
  go_wp2
  exact bodyPost_ret (v := GVal.val ⟨1, n, []⟩) (by simp [results, Tryz.results16, go_sem, GVal.val]) rfl ⟨rfl, bel_lit (Below.refl _ _) _⟩
theorem rWordV_any (l : List UInt8) (w : World) : Calls Tryz.prog 17 #[.string ⟨l.toArray⟩] w fun e w' => e = .returned (GVal.val ⟨2, 0, l⟩) ∧ Below w.heap.size w w' := by
  go_enter Tryz.func17, Tryz.ntmps17
  go_wp2
  exact bodyPost_ret (v := GVal.val ⟨2, 0, l⟩) (by simp [results, Tryz.results17, go_sem, GVal.val]) rfl ⟨rfl, bel_lit (Below.refl _ _) _⟩
set_option maxRecDepth 50000 in
set_option maxHeartbeats 1000000 in
theorem rFact_any (r : List UInt8) (vs : List GVal) (A : Option Addr) (c : Nat) (w : World) (h : GRow GVal.cells 3 w w.heap.size A vs) (hl : vs.length ≤ 1000000) :
    Calls Tryz.prog 15 #[.string ⟨r.toArray⟩, .slice A vs.length c] w fun e w' => (∃ A' c', e = .returned (.agg #[.string ⟨r.toArray⟩, .slice A' vs.length c']) ∧ OwnG GVal.cells 40 3 w' w.heap.size (.slice A' vs.length c') vs) ∧ Below w.heap.size w w' := by
  have hb0 := bel_lit (Below.refl w.heap.size w) (.cells #[.string ⟨#[]⟩, .slice none 0 0] 37)
  obtain ⟨v3, w3, hrun3, hown3, hgr3, hbk3⟩ := OwnG.app elt_val GVal.len GVal.one (OwnG.nil (w.alloc (.cells #[.string ⟨#[]⟩, .slice none 0 0] 37)) (w.heap.size + 1)) c ((h.below (Nat.le_refl _) hb0).wide hb0.size) (by simp) (by unfold maxLen; simp; omega) (by simp; omega)
  rw [List.nil_append] at hown3
  obtain ⟨A3, c3, rfl, hc3, hm3, hr3⟩ := hown3.row GVal.len
  have hb3 : Below w.heap.size w w3 := below_of_own hb0 hgr3 (fun g hg => by simp [Value.ownBlock] at hg)
  have hk : w3.heap[w.heap.size]? = some (.cells #[.string ⟨#[]⟩, .slice none 0 0] 37 (0, 0)) := (hgr3.block _ (by simp) (by simp [Value.ownBlock])).trans (heap_alloc_new w _)
  have z0 := Lib.frozen_of_heap hk 0
  have z1 := Lib.frozen_of_heap hk 1
  have q0 : w3.cell? ⟨w.heap.size, 0, none⟩ = some (.string ⟨#[]⟩) := by rw [Lib.cell_of_heap hk]; rfl
  have q1 : w3.cell? ⟨w.heap.size, 1, none⟩ = some (.slice none 0 0) := by rw [Lib.cell_of_heap hk]; rfl
  have hne : Value.ownBlock (.slice A3 vs.length c3) ≠ some w.heap.size := by intro e; have := (hown3.lt _ e).1; omega
  have HO := Lib.hid (((hown3.base (b' := w.heap.size) (by omega)).other ⟨w.heap.size, 0, none⟩ (.string ⟨r.toArray⟩) hne).other ⟨w.heap.size, 1, none⟩ (.slice A3 vs.length c3) hne)
  have HB := Lib.hid ((hb3.setCell (p := ⟨w.heap.size, 0, none⟩) (Nat.le_refl _) (.string ⟨r.toArray⟩)).setCell (p := ⟨w.heap.size, 1, none⟩) (Nat.le_refl _) (.slice A3 vs.length c3))
  have HRUN := Lib.hid hrun3
  clear h hb0 hrun3 hown3 hgr3 hr3 hb3 hk hne hbk3
  go_enter Tryz.func15, Tryz.ntmps15
  go_wp2_with (at_builtin; refine wpList_gapp HRUN.out rfl rfl rfl rfl rfl ?_)
  go_wp2
  exact bodyPost_ret (v := .agg #[.string ⟨r.toArray⟩, .slice A3 vs.length c3]) (by simp [results, Tryz.results15, go_sem, q0, q1]) rfl ⟨⟨A3, c3, rfl, HO.out⟩, HB.out⟩

def awkL : List UInt8 := [99, 111, 114, 101, 40, 48, 44, 32, 51, 50, 44, 32, 48, 44, 32, 49, 48, 48, 41, 46]
def awkVs : List GVal := [⟨1, -5, []⟩, ⟨2, 0, [97, 32, 98]⟩]
def awkF : GFact := ⟨[112], awkVs⟩
def awkToks : List Tok := [⟨1, [99, 111, 114, 101], 0, 1, 1⟩, ⟨4, [40], 0, 1, 5⟩, ⟨2, [], 0, 1, 6⟩, ⟨4, [44], 0, 1, 7⟩, ⟨2, [], 32, 1, 9⟩, ⟨4, [44], 0, 1, 11⟩, ⟨2, [], 0, 1, 13⟩, ⟨4, [44], 0, 1, 14⟩, ⟨2, [], 100, 1, 16⟩, ⟨4, [41], 0, 1, 19⟩, ⟨4, [46], 0, 1, 20⟩]
theorem awk_scan : scan awkL = .ok awkToks := by decide +kernel
theorem awk_toks (x y : Int) : FactToks [99, 111, 114, 101] [0, 32, 0, 100] (awkToks.map Tok.g ++ [⟨0, [], 0, x, y⟩]) := by
  refine ⟨rfl, fun _ => ⟨rfl, rfl⟩, by decide, by decide, ⟨by simp [awkToks], by decide, by decide, by decide, fun _ => ⟨rfl, rfl⟩, fun i h _ => ?_, fun i h _ => ?_, fun _ => ⟨rfl, rfl⟩, fun _ => ⟨rfl, rfl⟩⟩, fun _ => rfl⟩
  · match i, h with
    | 0, _ => exact ⟨rfl, rfl⟩
    | 1, _ => exact ⟨rfl, rfl⟩
    | 2, _ => exact ⟨rfl, rfl⟩
    | 3, _ => exact ⟨rfl, rfl⟩
  · match i, h with
    | 0, _ => exact ⟨rfl, rfl⟩
    | 1, _ => exact ⟨rfl, rfl⟩
    | 2, _ => exact ⟨rfl, rfl⟩
theorem itoa5 : Lib.itoa (-5) = [45, 53] := by
  unfold Lib.itoa
  rw [if_pos (by decide), Lib.decDigits]
  rfl
theorem awk_v1 : vtextL ⟨1, -5, []⟩ = [45, 53] := by
  show Lib.itoa (-5) = _
  exact itoa5
theorem awk_v2 : vtextL ⟨2, 0, [97, 32, 98]⟩ = [34, 97, 32, 98, 34] := by
  have h1 : nameB [97, 32, 98] = false := by decide +kernel
  have h2 : quoteL [97, 32, 98] = [34, 97, 32, 98, 34] := by decide +kernel
  simp [vtextL, h1, h2]
theorem awk_text : factText awkF = [112, 40, 45, 53, 44, 32, 34, 97, 32, 98, 34, 41, 46, 10] := by
  simp [factText, awkF, awkVs, argsT, awk_v1, awk_v2]
theorem awk_wf : gwfF awkF = true := by decide +kernel
theorem awk_vals : ∀ v ∈ awkF.args, v.word.length ≤ 65536 ∧ -9223372036854775808 ≤ v.int ∧ v.int ≤ 9223372036854775807 ∧ (vtextL v).length ≤ 70000 := by
  intro v hv
  have hv' : v = ⟨1, -5, []⟩ ∨ v = ⟨2, 0, [97, 32, 98]⟩ := by simpa [awkF, awkVs] using hv
  rcases hv' with rfl | rfl
  · rw [awk_v1]; simp
  · rw [awk_v2]; simp
def awkC : GFact := ⟨[99, 111, 114, 101], [0, 32, 0, 100].map gnum⟩
theorem awk_self : [awkC].any (isF awkC) = true := by simp [isF, ord_fact.self]
set_option maxRecDepth 50000 in
set_option maxHeartbeats 2000000 in
theorem awake_any (w : World) (hG : Glob2 w) : Calls Tryz.prog 6 #[] w fun e w' => e = .returned (.bool true) ∧ Below w.heap.size w w' := by
  have HPA := Lib.hid (parse_one awkL awkToks awk_scan _ _ (by decide) awk_toks w hG.1)
  have HP := Lib.hid hG.2
  have HFM := Lib.hid fun A c W (h1 : GRow SFact.cells 2 W W.heap.size (some A) [c]) hf hA hP => fformat_one awkF c A 1 W h1 hf hA awk_wf (by decide) awk_vals hP
  rw [awk_text] at HFM
  clear hG
  go_enter Tryz.func6, Tryz.ntmps6
  go_wp2_with fail
  refine HPA.out.mono ?_
  rintro e w1 ⟨v1, A1, n1, c1, rfl, ho1, hv1, hb1⟩
  obtain ⟨g1, cap1, rfl, hg0, hg1, hc1, hcm, hr1⟩ := ho1.nonnil SFact.len
  obtain ⟨A2, c2, e2, hc2, hm2, hr2⟩ := hv1.row GVal.len
  cases e2
  have HFR : Hid (FRow w1 w1.heap.size (some ⟨g1, 0, none⟩) [⟨[99, 111, 114, 101], A1, 4, c1⟩] [awkC]) := Lib.hid ⟨hr1, rfl, fun i h1 _ => by
    have h0 : i = 0 := by simp at h1; omega
    subst h0
    exact ⟨rfl, rfl, hr2, by simp [awkC]⟩⟩
  have HB1 := Lib.hid hb1
  simp only [List.length_nil, Nat.zero_add]
  clear ho1 hv1 hb1 hr1 hr2 HPA
  go_wp2_with fail
  refine (rInt_any _ _).mono ?_
  rintro e w2 ⟨rfl, hb2⟩
  have HFR2 := Lib.hid ((HFR.out.next (Nat.le_refl _) (bel_lit (Below.refl _ w1) _)).next (Nat.le_refl _) hb2)
  have HB2 := Lib.hid (bel_alloc HB1.out hb2)
  clear hb2
  go_wp2_with fail
  refine (rWordV_any [97, 32, 98] _).mono ?_
  rintro e w3 ⟨rfl, hb3⟩
  have HFR3 := Lib.hid (HFR2.out.next (Nat.le_refl _) hb3)
  have HB3 := Lib.hid (bel_next HB2.out hb3)
  clear hb3
  simp only [GVal.val]
  have HBS := Lib.hid (bel_lit (Below.refl w3.heap.size w3) (.cells #[.int .i64 1, .int .i64 (-5), .string ⟨#[]⟩, .int .i64 2, .int .i64 0, .string ⟨#[97, 32, 98]⟩] 40))
  have HRF := Lib.hid (rFact_any [112] awkVs (some ⟨w3.heap.size, 0, none⟩) 2 (w3.alloc (.cells #[.int .i64 1, .int .i64 (-5), .string ⟨#[]⟩, .int .i64 2, .int .i64 0, .string ⟨#[97, 32, 98]⟩] 40)) (GRow.lit GVal.len w3 _ awkVs _ rfl (by decide)) (by decide))
  rw [show awkVs.length = 2 from rfl] at HRF
  go_wp2_with fail
  refine HRF.out.mono ?_
  rintro e w4 ⟨⟨A5, c5, rfl, ho5⟩, hb4⟩
  obtain ⟨A6, c6, e6, _, _, hr5⟩ := ho5.row GVal.len
  cases e6
  have hA5 : A5 ≠ none := by
    intro e
    subst e
    obtain ⟨b, off, e, _⟩ := hr5 (by decide)
    cases e
  have HB4 := Lib.hid (bel_next (bel_lit HB3.out _) hb4)
  have HFR4 := Lib.hid ((HFR3.out.next (Nat.le_refl _) HBS.out).next (Nat.le_refl _) hb4)
  have HH4 : Hid (FHold w4 w4.heap.size ⟨[112], A5, 2, c5⟩ awkF) := Lib.hid ⟨rfl, rfl, hr5, by decide⟩
  obtain ⟨b1, o1, eA, hl1, x0, x1⟩ := HFR4.out.row.fact2 (i := 0) (by simp)
  cases eA
  simp only [Nat.zero_mul, Nat.zero_add, List.getElem_cons_zero] at x0 x1
  have HBF := Lib.hid (bel_lit (bel_lit (Below.refl w4.heap.size w4) (.cells #[.string ⟨#[112]⟩, .slice A5 2 c5] 37)) (.cells #[.string ⟨#[112]⟩, .slice A5 2 c5] 37))
  have HFC := Lib.hid (HFM.out ⟨w4.heap.size + 1, 0, none⟩ ⟨[112], A5, 2, c5⟩ ((w4.alloc (.cells #[.string ⟨#[112]⟩, .slice A5 2 c5] 37)).alloc (.cells #[.string ⟨#[112]⟩, .slice A5 2 c5] 37)) (by
      have := GRow.lit SFact.len (w4.alloc (.cells #[.string ⟨#[112]⟩, .slice A5 2 c5] 37)) 37 [(⟨[112], A5, 2, c5⟩ : SFact)] #[.string ⟨#[112]⟩, .slice A5 2 c5] rfl (by unfold maxLen; simp)
      simpa using this) (HH4.out.next (Nat.le_refl _) HBF.out) hA5 ((HP.out.next HB4.out).next HBF.out))
  clear ho5 hb4 hr5 HRF HFM hA5
  go_wp2_with fail
  refine HFC.out.mono ?_
  rintro e w7 ⟨rfl, hb7⟩
  have HB47 := Lib.hid (bel_next HBF.out hb7)
  have hz7 : w4.heap.size + 1 < w7.heap.size := by have := hb7.size; simp at this; omega
  have hk7 : w7.heap[w4.heap.size]? = some (.cells #[.string ⟨#[112]⟩, .slice A5 2 c5] 37 (0, 0)) := (hb7.block _ (by simp; omega)).trans (by rw [Below.heap_alloc _ _ _ (by simp)]; exact heap_alloc_new w4 _)
  have y0 : w7.cell? ⟨w4.heap.size, 0, none⟩ = some (.string ⟨#[112]⟩) := by rw [Lib.cell_of_heap hk7]; rfl
  have y1 : w7.cell? ⟨w4.heap.size, 1, none⟩ = some (.slice A5 2 c5) := by rw [Lib.cell_of_heap hk7]; rfl
  have HH7 := Lib.hid (HH4.out.next (Nat.le_refl _) HB47.out)
  have HCM := Lib.hid (compare_any awkF awkF A5 A5 c5 c5 w7 HH7.out.row HH7.out.row (by decide) (by decide))
  rw [ord_fact.self] at HCM
  have HFR7 := Lib.hid (HFR4.out.next (Nat.le_refl _) HB47.out)
  clear hb7 hk7 x0 x1
  simp only [factV] at HCM
  go_wp2_with fail
  refine HCM.out.mono ?_
  rintro e w8 ⟨rfl, hb8⟩
  have HFR8 := Lib.hid (HFR7.out.next (Nat.le_refl _) hb8)
  have HB8 := Lib.hid (bel_next (bel_next HB4.out HB47.out) hb8)
  obtain ⟨b1, o1, eA, hl8, x0, x1⟩ := HFR8.out.row.fact2 (i := 0) (by simp)
  cases eA
  simp only [Nat.zero_mul, Nat.zero_add, List.getElem_cons_zero] at x0 x1
  have hrow := HFR8.out.each 0 (by simp) (by simp)
  simp only [List.getElem_cons_zero] at hrow
  have hCT := fcontains_any awkC ⟨[99, 111, 114, 101], A1, 4, c1⟩ [⟨[99, 111, 114, 101], A1, 4, c1⟩] [awkC] (some ⟨g1, 0, none⟩) cap1 w8 hrow HFR8.out (by simp)
  rw [awk_self] at hCT
  have HCT := Lib.hid hCT
  clear hCT hrow hb8 y0 y1
  go_wp2_with fail
  refine HCT.out.mono ?_
  rintro e w9 ⟨rfl, hb9⟩
  go_wp2
  go_ret
  exact ⟨rfl, bel_next HB8.out hb9⟩
end Go.Proofs.YtmodjokoggmnaaaGreatDoor


namespace Go.Proofs.YtmodjokoggmnaaaGreatDoor
open Go.RowKit Go.Shelf

def kd (gs : List GTok) (s : RS) : Int := match gs[s.i]? with | some t => t.kind | none => 0
def argR (l : List UInt8) (gs : List GTok) (s : RS) : GVal × RS :=
  if kindR gs s 2 = true ∨ peekR gs s 4 [45] = true then (⟨1, (intR l gs s).1, []⟩, (intR l gs s).2)
  else if kindR gs s 1 = true ∨ kindR gs s 3 = true then
    (⟨2, 0, (anyT gs s (kd gs s)).text⟩, if (anyT gs s (kd gs s)).text = [] then failR l gs (nameR l gs s (kd gs s)) ((nameR l gs s (kd gs s)).i - 1) 63 else nameR l gs s (kd gs s))
  else (z0V, failR l gs s s.i 50)
theorem kind_kd {gs : List GTok} {s : RS} {k : Int} (h : kindR gs s k = true) : kd gs s = k ∧ kindR gs s (kd gs s) = true := by
  obtain ⟨_, hi, hk⟩ := kind_lt h
  have e : kd gs s = k := by unfold kd; rw [List.getElem?_eq_getElem hi]; exact hk
  exact ⟨e, by rw [e]; exact h⟩
theorem name_empty {l : List UInt8} {gs : List GTok} {s : RS} {k : Int} (h : kindR gs s k = true) (he : (anyT gs s k).text = []) : 1 ≤ (nameR l gs s k).i := by
  unfold nameR
  rw [he, if_neg (by simp), any_pos h]
  omega
theorem failR_i (l : List UInt8) (gs : List GTok) (s : RS) (j er : Int) : (failR l gs s j er).i = s.i := by
  unfold failR
  split
  · split <;> rfl
  · rfl
theorem name_le (l : List UInt8) (gs : List GTok) (s : RS) (k : Int) (hs : s.i ≤ gs.length) : (nameR l gs s k).i ≤ gs.length := by
  have := any_le l gs s k hs
  unfold nameR
  split
  · rw [failR_i]; exact this
  · exact this
set_option maxRecDepth 50000 in
set_option maxHeartbeats 2000000 in
theorem rArgument_any (p : Nat) (l : List UInt8) (gs : List GTok) (s : RS) (w : World) (h : RPS w p l gs s) (hl : l.length ≤ 65536) (hg : gs.length ≤ 70000) (hs : s.i ≤ gs.length) :
    Calls Tryz.prog 31 #[.pointer (some ⟨p, 0, none⟩)] w (REnd (argR l gs s).1.val (argR l gs s).2 p l gs w) := by
  have hpw := h.lt
  have HRV := Lib.hid (ResV.new w)
  have H1 := Lib.hid (h.next (Below.alloc (Below.refl w.heap.size w) (Nat.le_refl _) (.cells #[.int .i64 0, .int .i64 0, .string ⟨#[]⟩] 40)))
  have HGL := Lib.hid (gb_lit (gb_refl (p := some p) w) (.cells #[.int .i64 0, .int .i64 0, .string ⟨#[]⟩] 40))
  have HK := Lib.hid fun W k (hW : RPS W p l gs s) => rKind_calls k hW
  have HP := Lib.hid fun W (hW : RPS W p l gs s) => rPeek_calls 4 [45] hW
  have HIN := Lib.hid fun W (hW : RPS W p l gs s) => rInteger_any p l gs s W hW hl hg hs
  have HNM := Lib.hid fun W (hW : RPS W p l gs s) => rName_any p l gs s (kd gs s) W hW hl hg hs
  have HFS := Lib.hid fun W (hW : RPS W p l gs s) => rFail_any p l gs s s.i 50 W hW hl (fun _ => by omega)
  have HFN := Lib.hid fun W (hW : RPS W p l gs (nameR l gs s (kd gs s))) (h1 : 1 ≤ (nameR l gs s (kd gs s)).i) => rFail_any p l gs (nameR l gs s (kd gs s)) ((nameR l gs s (kd gs s)).i - 1) 63 W hW hl (fun _ => by omega)
  have HWD := Lib.hid fun W => rWordV_any (anyT gs s (kd gs s)).text W
  have hnle := name_le l gs s (kd gs s) hs
  have hsa : (w.alloc (.cells #[.int .i64 0, .int .i64 0, .string ⟨#[]⟩] 40)).heap.size = w.heap.size + 1 := by simp
  clear h
  cases hk2 : kindR gs s 2
  case true =>
    have HD : Hid (argR l gs s = (⟨1, (intR l gs s).1, []⟩, (intR l gs s).2)) := Lib.hid (by unfold argR; rw [if_pos (.inl hk2)])
    rw [HD.out]
    generalize intR l gs s = q at *
    obtain ⟨qv, qs⟩ := q
    simp only [GVal.val] at *
    clear HD
    go_enter Tryz.func31, Tryz.ntmps31
    have HC1 := Lib.hid (HK.out _ 2 H1.out)
    rw [hk2] at HC1
    go_wp2_with fail
    go_fit HC1.out
    rintro e v1 ⟨rfl, hb⟩
    have HS1 := Lib.hid (H1.out.next hb)
    have HG1 := Lib.hid (gb_trans HGL.out (gb_bel hb))
    have HR1 := Lib.hid (HRV.out.next hb)
    clear hb HC1
    go_wp2_with fail
    go_fit (HIN.out _ HS1.out)
    rintro e v2 ⟨rfl, hps, hg2⟩
    have HS2 := Lib.hid hps
    have HG2 := Lib.hid (gb_trans HG1.out hg2)
    have HR2 := Lib.hid (HR1.out.gb hg2 (by omega))
    clear hps hg2
    obtain ⟨q0, q1, q2, z0, z1, z2⟩ := HR2.out.facts
    have hs9 : w.heap.size < v2.heap.size := HR2.out.lt
    go_wp2
    refine bodyPost_ret (v := .agg #[.int .i64 1, .int .i64 qv, .string ⟨#[]⟩]) (by simp [results, Tryz.results31, go_sem, q0, q1, q2]) rfl ⟨rfl, ?_, ?_⟩
    · first | exact ((HS2.out.other _ _ hpw).other _ _ hpw).other _ _ hpw | exact HS2.out
    · first | exact gb_res HG2.out _ (Nat.le_refl _) _ _ _ | exact HG2.out
  cases hp4 : peekR gs s 4 [45]
  case true =>
    have HD : Hid (argR l gs s = (⟨1, (intR l gs s).1, []⟩, (intR l gs s).2)) := Lib.hid (by unfold argR; rw [if_pos (.inr hp4)])
    rw [HD.out]
    generalize intR l gs s = q at *
    obtain ⟨qv, qs⟩ := q
    simp only [GVal.val] at *
    clear HD
    go_enter Tryz.func31, Tryz.ntmps31
    have HC1 := Lib.hid (HK.out _ 2 H1.out)
    rw [hk2] at HC1
    go_wp2_with fail
    go_fit HC1.out
    rintro e v1 ⟨rfl, hb⟩
    have HS1 := Lib.hid (H1.out.next hb)
    have HG1 := Lib.hid (gb_trans HGL.out (gb_bel hb))
    have HR1 := Lib.hid (HRV.out.next hb)
    clear hb HC1
    have HC2 := Lib.hid (HP.out _ HS1.out)
    rw [hp4] at HC2
    go_wp2_with fail
    go_fit HC2.out
    rintro e v2 ⟨rfl, hb⟩
    have HS2 := Lib.hid (HS1.out.next hb)
    have HG2 := Lib.hid (gb_trans HG1.out (gb_bel hb))
    have HR2 := Lib.hid (HR1.out.next hb)
    clear hb HC2
    go_wp2_with fail
    go_fit (HIN.out _ HS2.out)
    rintro e v3 ⟨rfl, hps, hg2⟩
    have HS3 := Lib.hid hps
    have HG3 := Lib.hid (gb_trans HG2.out hg2)
    have HR3 := Lib.hid (HR2.out.gb hg2 (by omega))
    clear hps hg2
    obtain ⟨q0, q1, q2, z0, z1, z2⟩ := HR3.out.facts
    have hs9 : w.heap.size < v3.heap.size := HR3.out.lt
    go_wp2
    refine bodyPost_ret (v := .agg #[.int .i64 1, .int .i64 qv, .string ⟨#[]⟩]) (by simp [results, Tryz.results31, go_sem, q0, q1, q2]) rfl ⟨rfl, ?_, ?_⟩
    · first | exact ((HS3.out.other _ _ hpw).other _ _ hpw).other _ _ hpw | exact HS3.out
    · first | exact gb_res HG3.out _ (Nat.le_refl _) _ _ _ | exact HG3.out
  cases hk1 : kindR gs s 1
  case true =>
    obtain ⟨_, hi, hki⟩ := kind_lt hk1
    have HKK := Lib.hid (kind_kd hk1)
    have hkd : kd gs s = 1 := HKK.out.1
    have HD : Hid (argR l gs s = (⟨2, 0, (anyT gs s (kd gs s)).text⟩, if (anyT gs s (kd gs s)).text = [] then failR l gs (nameR l gs s (kd gs s)) ((nameR l gs s (kd gs s)).i - 1) 63 else nameR l gs s (kd gs s))) := Lib.hid (by unfold argR; rw [if_neg (by simp [hk2, hp4]), if_pos (.inl hk1)])
    rw [HD.out]
    have HNE : Hid ((anyT gs s (kd gs s)).text = [] → 1 ≤ (nameR l gs s (kd gs s)).i) := Lib.hid fun h => name_empty HKK.out.2 h
    clear HD
    generalize hnr : nameR l gs s (kd gs s) = s1 at *
    generalize (anyT gs s (kd gs s)).text = tx at *
    generalize hsf : (if tx = [] then failR l gs s1 ((s1.i : Int) - 1) 63 else s1) = sf at *
    have HSF := Lib.hid hsf
    clear hsf
    simp only [GVal.val] at *
    rw [hkd] at HNM
    go_enter Tryz.func31, Tryz.ntmps31
    have HC1 := Lib.hid (HK.out _ 2 H1.out)
    rw [hk2] at HC1
    go_wp2_with fail
    go_fit HC1.out
    rintro e v1 ⟨rfl, hb⟩
    have HS1 := Lib.hid (H1.out.next hb)
    have HG1 := Lib.hid (gb_trans HGL.out (gb_bel hb))
    have HR1 := Lib.hid (HRV.out.next hb)
    clear hb HC1
    have HC2 := Lib.hid (HP.out _ HS1.out)
    rw [hp4] at HC2
    go_wp2_with fail
    go_fit HC2.out
    rintro e v2 ⟨rfl, hb⟩
    have HS2 := Lib.hid (HS1.out.next hb)
    have HG2 := Lib.hid (gb_trans HG1.out (gb_bel hb))
    have HR2 := Lib.hid (HR1.out.next hb)
    clear hb HC2
    have HC3 := Lib.hid (HK.out _ 1 HS2.out)
    rw [hk1] at HC3
    go_wp2_with fail
    go_fit HC3.out
    rintro e v3 ⟨rfl, hb⟩
    have HS3 := Lib.hid (HS2.out.next hb)
    have HG3 := Lib.hid (gb_trans HG2.out (gb_bel hb))
    have HR3 := Lib.hid (HR2.out.next hb)
    clear hb HC3
    obtain ⟨A, cap, hp, c0, c1, c2, c3, c4, c5, hrw, hf, hh⟩ := HS3.out.open
    obtain ⟨bb, off, rfl, hb, x0, x1, x2, x3, x4⟩ := hrw.tok5 hi
    rw [hki] at x0
    have hbw : bb < v3.heap.size := by omega
    clear hrw hf hh x1 x2 x3 x4
    go_upto_region 4 with fail
    go_still_tail 12, (by kernel_rfl)
    change wpList _ _ _ _ _ v3.drew
    have HSd := Lib.hid (HS3.out.next ((Below.refl _ _).drew))
    have HGd := Lib.hid (gb_drew HG3.out)
    have HRd := Lib.hid (HR3.out.next ((Below.refl _ _).drew))
    generalize v3.drew = wd at *
    clear c0 c1 c2 c3 c4 c5 x0 hbw
    go_wp2_with fail
    go_fit (HNM.out _ HSd.out)
    rintro e v4 ⟨rfl, hps, hg2⟩
    have HS4 := Lib.hid hps
    have HG4 := Lib.hid (gb_trans HGd.out hg2)
    have HR4 := Lib.hid (HRd.out.gb hg2 (by omega))
    clear hps hg2
    by_cases htx : tx = []
    · have h1 := HNE.out htx
      have hw1 : IntKind.i64.wrap ((s1.i : Int) - 1) = (s1.i : Int) - 1 := IntWalk.i64_in _ (by omega)
      subst htx
      obtain ⟨A, cap, hp, c0, c1, c2, c3, c4, c5, hr, hf, hh⟩ := HS4.out.open
      clear hr hf hh
      go_wp2_with fail
      go_fit (HFN.out _ HS4.out h1)
      rintro e v5 ⟨rfl, hps, hg2⟩
      have HS5 := Lib.hid hps
      have HG5 := Lib.hid (gb_trans HG4.out hg2)
      have HR5 := Lib.hid (HR4.out.gb hg2 (by omega))
      clear hps hg2
      clear c0 c1 c2 c3 c4 c5
      go_wp2_with fail
      go_fit (HWD.out _)
      rintro e v6 ⟨rfl, hb⟩
      have HS6 := Lib.hid (HS5.out.next hb)
      have HG6 := Lib.hid (gb_trans HG5.out (gb_bel hb))
      have HR6 := Lib.hid (HR5.out.next hb)
      clear hb
      obtain ⟨q0, q1, q2, z0, z1, z2⟩ := HR6.out.facts
      have hs9 : w.heap.size < v6.heap.size := HR6.out.lt
      go_wp2
      refine bodyPost_ret (v := .agg #[.int .i64 2, .int .i64 0, .string ⟨#[]⟩]) (by simp [results, Tryz.results31, go_sem, q0, q1, q2]) rfl ⟨rfl, ?_, ?_⟩
      · rw [← HSF.out, if_pos (by first | rfl | trivial)]; first | exact ((HS6.out.other _ _ hpw).other _ _ hpw).other _ _ hpw | exact HS6.out
      · first | exact gb_res HG6.out _ (Nat.le_refl _) _ _ _ | exact HG6.out
    · have ftx : (tx == []) = false := by simp [htx]
      have ftx2 : ¬ tx.length = 0 := fun h => htx (List.eq_nil_of_length_eq_zero h)
      have HTX := Lib.hid htx
      clear htx
      go_wp2_with fail
      go_fit (HWD.out _)
      rintro e v5 ⟨rfl, hb⟩
      have HS5 := Lib.hid (HS4.out.next hb)
      have HG5 := Lib.hid (gb_trans HG4.out (gb_bel hb))
      have HR5 := Lib.hid (HR4.out.next hb)
      clear hb
      obtain ⟨q0, q1, q2, z0, z1, z2⟩ := HR5.out.facts
      have hs9 : w.heap.size < v5.heap.size := HR5.out.lt
      go_wp2
      refine bodyPost_ret (v := .agg #[.int .i64 2, .int .i64 0, .string ⟨tx.toArray⟩]) (by simp [results, Tryz.results31, go_sem, q0, q1, q2]) rfl ⟨rfl, ?_, ?_⟩
      · rw [← HSF.out, if_neg HTX.out]; first | exact ((HS5.out.other _ _ hpw).other _ _ hpw).other _ _ hpw | exact HS5.out
      · first | exact gb_res HG5.out _ (Nat.le_refl _) _ _ _ | exact HG5.out
  cases hk3 : kindR gs s 3
  case true =>
    obtain ⟨_, hi, hki⟩ := kind_lt hk3
    have HKK := Lib.hid (kind_kd hk3)
    have hkd : kd gs s = 3 := HKK.out.1
    have HD : Hid (argR l gs s = (⟨2, 0, (anyT gs s (kd gs s)).text⟩, if (anyT gs s (kd gs s)).text = [] then failR l gs (nameR l gs s (kd gs s)) ((nameR l gs s (kd gs s)).i - 1) 63 else nameR l gs s (kd gs s))) := Lib.hid (by unfold argR; rw [if_neg (by simp [hk2, hp4]), if_pos (.inr hk3)])
    rw [HD.out]
    have HNE : Hid ((anyT gs s (kd gs s)).text = [] → 1 ≤ (nameR l gs s (kd gs s)).i) := Lib.hid fun h => name_empty HKK.out.2 h
    clear HD
    generalize hnr : nameR l gs s (kd gs s) = s1 at *
    generalize (anyT gs s (kd gs s)).text = tx at *
    generalize hsf : (if tx = [] then failR l gs s1 ((s1.i : Int) - 1) 63 else s1) = sf at *
    have HSF := Lib.hid hsf
    clear hsf
    simp only [GVal.val] at *
    rw [hkd] at HNM
    go_enter Tryz.func31, Tryz.ntmps31
    have HC1 := Lib.hid (HK.out _ 2 H1.out)
    rw [hk2] at HC1
    go_wp2_with fail
    go_fit HC1.out
    rintro e v1 ⟨rfl, hb⟩
    have HS1 := Lib.hid (H1.out.next hb)
    have HG1 := Lib.hid (gb_trans HGL.out (gb_bel hb))
    have HR1 := Lib.hid (HRV.out.next hb)
    clear hb HC1
    have HC2 := Lib.hid (HP.out _ HS1.out)
    rw [hp4] at HC2
    go_wp2_with fail
    go_fit HC2.out
    rintro e v2 ⟨rfl, hb⟩
    have HS2 := Lib.hid (HS1.out.next hb)
    have HG2 := Lib.hid (gb_trans HG1.out (gb_bel hb))
    have HR2 := Lib.hid (HR1.out.next hb)
    clear hb HC2
    have HC3 := Lib.hid (HK.out _ 1 HS2.out)
    rw [hk1] at HC3
    go_wp2_with fail
    go_fit HC3.out
    rintro e v3 ⟨rfl, hb⟩
    have HS3 := Lib.hid (HS2.out.next hb)
    have HG3 := Lib.hid (gb_trans HG2.out (gb_bel hb))
    have HR3 := Lib.hid (HR2.out.next hb)
    clear hb HC3
    have HC4 := Lib.hid (HK.out _ 3 HS3.out)
    rw [hk3] at HC4
    go_wp2_with fail
    go_fit HC4.out
    rintro e v4 ⟨rfl, hb⟩
    have HS4 := Lib.hid (HS3.out.next hb)
    have HG4 := Lib.hid (gb_trans HG3.out (gb_bel hb))
    have HR4 := Lib.hid (HR3.out.next hb)
    clear hb HC4
    obtain ⟨A, cap, hp, c0, c1, c2, c3, c4, c5, hrw, hf, hh⟩ := HS4.out.open
    obtain ⟨bb, off, rfl, hb, x0, x1, x2, x3, x4⟩ := hrw.tok5 hi
    rw [hki] at x0
    have hbw : bb < v4.heap.size := by omega
    clear hrw hf hh x1 x2 x3 x4
    go_upto_region 4 with fail
    go_still_tail 12, (by kernel_rfl)
    change wpList _ _ _ _ _ v4.drew
    have HSd := Lib.hid (HS4.out.next ((Below.refl _ _).drew))
    have HGd := Lib.hid (gb_drew HG4.out)
    have HRd := Lib.hid (HR4.out.next ((Below.refl _ _).drew))
    generalize v4.drew = wd at *
    clear c0 c1 c2 c3 c4 c5 x0 hbw
    go_wp2_with fail
    go_fit (HNM.out _ HSd.out)
    rintro e v5 ⟨rfl, hps, hg2⟩
    have HS5 := Lib.hid hps
    have HG5 := Lib.hid (gb_trans HGd.out hg2)
    have HR5 := Lib.hid (HRd.out.gb hg2 (by omega))
    clear hps hg2
    by_cases htx : tx = []
    · have h1 := HNE.out htx
      have hw1 : IntKind.i64.wrap ((s1.i : Int) - 1) = (s1.i : Int) - 1 := IntWalk.i64_in _ (by omega)
      subst htx
      obtain ⟨A, cap, hp, c0, c1, c2, c3, c4, c5, hr, hf, hh⟩ := HS5.out.open
      clear hr hf hh
      go_wp2_with fail
      go_fit (HFN.out _ HS5.out h1)
      rintro e v6 ⟨rfl, hps, hg2⟩
      have HS6 := Lib.hid hps
      have HG6 := Lib.hid (gb_trans HG5.out hg2)
      have HR6 := Lib.hid (HR5.out.gb hg2 (by omega))
      clear hps hg2
      clear c0 c1 c2 c3 c4 c5
      go_wp2_with fail
      go_fit (HWD.out _)
      rintro e v7 ⟨rfl, hb⟩
      have HS7 := Lib.hid (HS6.out.next hb)
      have HG7 := Lib.hid (gb_trans HG6.out (gb_bel hb))
      have HR7 := Lib.hid (HR6.out.next hb)
      clear hb
      obtain ⟨q0, q1, q2, z0, z1, z2⟩ := HR7.out.facts
      have hs9 : w.heap.size < v7.heap.size := HR7.out.lt
      go_wp2
      refine bodyPost_ret (v := .agg #[.int .i64 2, .int .i64 0, .string ⟨#[]⟩]) (by simp [results, Tryz.results31, go_sem, q0, q1, q2]) rfl ⟨rfl, ?_, ?_⟩
      · rw [← HSF.out, if_pos (by first | rfl | trivial)]; first | exact ((HS7.out.other _ _ hpw).other _ _ hpw).other _ _ hpw | exact HS7.out
      · first | exact gb_res HG7.out _ (Nat.le_refl _) _ _ _ | exact HG7.out
    · have ftx : (tx == []) = false := by simp [htx]
      have ftx2 : ¬ tx.length = 0 := fun h => htx (List.eq_nil_of_length_eq_zero h)
      have HTX := Lib.hid htx
      clear htx
      go_wp2_with fail
      go_fit (HWD.out _)
      rintro e v6 ⟨rfl, hb⟩
      have HS6 := Lib.hid (HS5.out.next hb)
      have HG6 := Lib.hid (gb_trans HG5.out (gb_bel hb))
      have HR6 := Lib.hid (HR5.out.next hb)
      clear hb
      obtain ⟨q0, q1, q2, z0, z1, z2⟩ := HR6.out.facts
      have hs9 : w.heap.size < v6.heap.size := HR6.out.lt
      go_wp2
      refine bodyPost_ret (v := .agg #[.int .i64 2, .int .i64 0, .string ⟨tx.toArray⟩]) (by simp [results, Tryz.results31, go_sem, q0, q1, q2]) rfl ⟨rfl, ?_, ?_⟩
      · rw [← HSF.out, if_neg HTX.out]; first | exact ((HS6.out.other _ _ hpw).other _ _ hpw).other _ _ hpw | exact HS6.out
      · first | exact gb_res HG6.out _ (Nat.le_refl _) _ _ _ | exact HG6.out
  have HD : Hid (argR l gs s = (z0V, failR l gs s s.i 50)) := Lib.hid (by unfold argR; rw [if_neg (by simp [hk2, hp4]), if_neg (by simp [hk1, hk3])])
  rw [HD.out]
  clear HD
  simp only [GVal.val, z0V] at *
  go_enter Tryz.func31, Tryz.ntmps31
  have HC1 := Lib.hid (HK.out _ 2 H1.out)
  rw [hk2] at HC1
  go_wp2_with fail
  go_fit HC1.out
  rintro e v1 ⟨rfl, hb⟩
  have HS1 := Lib.hid (H1.out.next hb)
  have HG1 := Lib.hid (gb_trans HGL.out (gb_bel hb))
  have HR1 := Lib.hid (HRV.out.next hb)
  clear hb HC1
  have HC2 := Lib.hid (HP.out _ HS1.out)
  rw [hp4] at HC2
  go_wp2_with fail
  go_fit HC2.out
  rintro e v2 ⟨rfl, hb⟩
  have HS2 := Lib.hid (HS1.out.next hb)
  have HG2 := Lib.hid (gb_trans HG1.out (gb_bel hb))
  have HR2 := Lib.hid (HR1.out.next hb)
  clear hb HC2
  have HC3 := Lib.hid (HK.out _ 1 HS2.out)
  rw [hk1] at HC3
  go_wp2_with fail
  go_fit HC3.out
  rintro e v3 ⟨rfl, hb⟩
  have HS3 := Lib.hid (HS2.out.next hb)
  have HG3 := Lib.hid (gb_trans HG2.out (gb_bel hb))
  have HR3 := Lib.hid (HR2.out.next hb)
  clear hb HC3
  have HC4 := Lib.hid (HK.out _ 3 HS3.out)
  rw [hk3] at HC4
  go_wp2_with fail
  go_fit HC4.out
  rintro e v4 ⟨rfl, hb⟩
  have HS4 := Lib.hid (HS3.out.next hb)
  have HG4 := Lib.hid (gb_trans HG3.out (gb_bel hb))
  have HR4 := Lib.hid (HR3.out.next hb)
  clear hb HC4
  obtain ⟨A, cap, hp, c0, c1, c2, c3, c4, c5, hr, hf, hh⟩ := HS4.out.open
  clear hr hf hh
  go_wp2_with fail
  go_fit (HFS.out _ HS4.out)
  rintro e v5 ⟨rfl, hps, hg2⟩
  have HS5 := Lib.hid hps
  have HG5 := Lib.hid (gb_trans HG4.out hg2)
  have HR5 := Lib.hid (HR4.out.gb hg2 (by omega))
  clear hps hg2
  clear c0 c1 c2 c3 c4 c5
  obtain ⟨q0, q1, q2, z0, z1, z2⟩ := HR5.out.facts
  have hs9 : w.heap.size < v5.heap.size := HR5.out.lt
  go_wp2
  refine bodyPost_ret (v := .agg #[.int .i64 0, .int .i64 0, .string ⟨#[]⟩]) (by simp [results, Tryz.results31, go_sem, q0, q1, q2]) rfl ⟨rfl, ?_, ?_⟩
  · first | exact ((HS5.out.other _ _ hpw).other _ _ hpw).other _ _ hpw | exact HS5.out
  · first | exact gb_res HG5.out _ (Nat.le_refl _) _ _ _ | exact HG5.out
end Go.Proofs.YtmodjokoggmnaaaGreatDoor
